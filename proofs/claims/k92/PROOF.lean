import PyProof.Rows.All
import Wide.All
import OpenK.AllK
import Wide.FinOn
import Lean
import PyProof.EqAt
import PyProof.EqKinds
import PyProof.TupleCall
import PyProof.ZipIter
import PyProof.Draws
import PyProof.StationsW
import PyProof.EnumStmt
import PyProof.EnumMake
import PyProof.StrLawsTight
import PyProof.Rows.StrIntSpec
import PyProof.Rows.StrDigitsNeg
import PyProof.Rows.CatFin
import PyProof.Rows.StrSplitJoin
import PyProof.StrWalks
import KE.KRevIter
import PySem.Challenge.RW_steadyhand_k92_rules_claims_things_as_te
set_option Elab.async false
set_option linter.all false
set_option maxRecDepth 100000
set_option maxHeartbeats 0
namespace TT
open PySem PySem.W
noncomputable def runT (tb:String->Option Builtin) (p:Program) (w:World) (k:Nat) (an:Option Value):Nat->SharedT->Thread->Option SharedT
 | 0,_,_=>none
 | j + 1,x,t=>match through t with
  | true=>some x
  | false=>match stepOk k an t with
   | false=>none
   | true=>match stepT (denote tb) p w x t with
    | none=>none
    | some y=>runT tb p w k an j y.1 y.2
theorem X4 {tb:String->Option Builtin} {p:Program} {w:World} {k:Nat} {an:Option Value}:∀ (j:Nat) (x y:SharedT) (t:Thread),runT tb p w k an j x t=some y->topRun tb p w k an j x.abs t=some y.abs
 | 0,_,_,_,e=>by cases e
 | j + 1,x,y,t,e=>by
  unfold runT at e
  unfold topRun
  cases e1:through t with
  | true=>
   rw [e1] at e
   cases e
   rfl
  | false=>
   rw [e1] at e
   cases e2:stepOk k an t with
   | false=>rw [e2] at e; cases e
   | true=>
    rw [e2] at e
    cases e3:stepT (denote tb) p w x t with
    | none=>rw [e3] at e; cases e
    | some z=>
     rw [e3] at e
     rw [stepT_spec e3]
     exact X4 j z.1 y z.2 e
theorem left_is {p q:Program} {lo:List Str} {xt:Shared->Bool} {α:Type} {Yf:Shared->α} {Ya:World->α} {N k n0:Nat} {an:Option Value} {tr:Params->BT} (op:∀ w:World,(fencedOpening treeTable p w N).map (λs=>(s.heap,s.gens,s.drawn,s.toks))=some (boot_heap w.params,Array.mk [],boot_drawn,boot_toks))
  (et:∀ P:Params,absHeap (tr P) n0 (boot_heap P).life=boot_heap P) (z1:∀ P:Params,(boot_heap P).isNs mainGlobals=true) (z2:∀ P:Params,(boot_heap P).objs.size=k) (z3:∀ P:Params,(boot_heap P).nsMap mainGlobals "__annotations__" = an)
  (h:∀ (w:World) (os:OsState),(runT treeTable p w k an N ⟨tr w.params,n0,(boot_heap w.params).life,Array.mk [],boot_drawn,boot_toks,os⟩ (topStub p)).map (λs=>((staticsOk (importedModules p.main.body) (boot_heap w.params) s.abs.heap && namesBound p s.abs.heap && gensDone s.abs && laidKept (boot_heap w.params) s.abs.heap),openSeen q lo (importedModules p.main.body) xt true s.abs,Yf s.abs))=some (true,openGood q lo,Ya w)) :
  LeftO p q lo xt Yf Ya N:=λw=>by
 obtain ⟨⟨hp,gs,d,tk,os⟩,e,e'⟩:=Option.map_eq_some_iff.mp (op w)
 injection e' with a1 e'
 injection e' with a2 e'
 injection e' with a3 a4
 subst a1 a2 a3 a4
 obtain ⟨y,ey,eo⟩:=Option.map_eq_some_iff.mp (h w os)
 injection eo with l1 eo
 injection eo with l2 l3
 have r:=X4 _ _ _ _ ey
 have r':topRun treeTable p w k an N ⟨boot_heap w.params,Array.mk [],boot_drawn,boot_toks,os⟩ (topStub p)=some y.abs:=by
  rw [<- r]
  unfold SharedT.abs
  rw [et]
 have f:topFrom treeTable p w N ⟨boot_heap w.params,Array.mk [],boot_drawn,boot_toks,os⟩=some y.abs:=by
  unfold topFrom
  show (match (boot_heap w.params).isNs mainGlobals && true with | true=>_ | false=>_)=_
  rw [z1,z2,z3,r']
  show (match (_ && _ && _ && _) with | true=>_ | false=>_)=_
  rw [l1]
 unfold openEnds
 rw [e]
 show (topFrom treeTable p w N _).map _=_
 rw [f]
 exact congrArg some (Prod.ext l2 l3)
end TT
namespace H92
open PySem PySem.W
set_option maxRecDepth 100000
noncomputable def hT (i:Nat):Stmt:=PySem.Challenge.pw_steadyhand_k92_rules_claims_things_as_te.main.body.getD i (.Pass ⟨0,0,0,0⟩)
noncomputable def hI (i j:Nat):Stmt:=match hT i with
 | .ClassDef _ _ _ b _ _ _ _ _ _ _=>b.getD j (.Pass ⟨0,0,0,0⟩)
 | s=>s
noncomputable def hA:Stmt->Arguments
 | .FunctionDef _ a _ _ _ _ _ _ _ _=>a
 | _=>⟨[],[],none,[],[],none,[]⟩
noncomputable def hB:Stmt->List Stmt
 | .FunctionDef _ _ b _ _ _ _ _ _ _=>b
 | _=>[]
noncomputable def hC:Stmt->Scope
 | .FunctionDef _ _ _ _ _ _ c _ _ _=>c
 | _=>{ kind:=.function,names:=[],isGenerator:=false,isCoroutine:=false }
noncomputable abbrev hS (s:String) (n:Nat):Value:=.str (Str.ofString s) n
noncomputable abbrev hE (P:Params) (s:String) (n:Nat) (v:Value):DictEntry:=⟨PyData.keyHash P (Str.ofString s),hS s n,v⟩
noncomputable abbrev hU (x:Array Value):Obj:={ cls:=.type "tuple",data:=.seq x }
noncomputable abbrev hD (s:String) (a:Nat) (s2:String) (b c:Nat) (i j f:Int) (r1 r2:Nat) (u v t r:Value) (y z:Int) (d:Nat):Obj:={ cls:=.type "code",data:=.fields #[hS s a,hS s2 b,hS "/claim/cut.py" c,.int i 0,.int j 0,.int 0 0,.int 0 0,.int f 0,.ref r1,.bool true,.int 181 0,.ref r2,u,v,t,r,.int y 0,.int z 0,hS "/claim/cut.py" d] }
noncomputable abbrev hF (n q:String) (s:Stmt) (d k:Value) (m:String) (j c:Nat):Obj:={ cls:=.type "function",data:=.func { name:=n,qualname:=q,params:=hA s,body:=.stmts (hB s),scope:=hC s,globals:=3,closure:=[],defaults:=d,kwdefaults:=k,pyModule:=hS m j,code:=.ref c } }
noncomputable def KK:Params->Frag:=λP=>
 (nat_lit 2,{ cls:=.none,data:=.dict #[] })::(nat_lit 3,{ cls:=.type "dict",data:=.dict #[hE P "__name__" 165 (hS "law_steadyhand_k92_rules_claims_things_as_te" 843),hE P "__doc__" 166 (.none),hE P "__package__" 167 (.none),hE P "__loader__" 168 (.builtin "__main__.__loader__#opaque"),hE P "__spec__" 169 (.none),hE P "__annotations__" 170 (.ref 6),hE P "__builtins__" 171 (.ref 4),hE P "__file__" 173 (hS "/claim/cut.py" 172),hE P "__cached__" 174 (.none),hE P "_wall" 193 (.ref 21),hE P "SteadyError" 213 (.ref 31),hE P "BadThing" 229 (.ref 44),hE P "TooMany" 245 (.ref 56),hE P "NoText" 261 (.ref 68),hE P "is_whole" 270 (.ref 77),hE P "is_numbers" 278 (.ref 82),hE P "is_table" 284 (.ref 87),hE P "copied" 291 (.ref 93),hE P "Claim" 313 (.ref 103),hE P "Settles" 343 (.ref 125),hE P "Comes" 372 (.ref 144),hE P "is_row" 380 (.ref 151),hE P "is_room" 386 (.ref 156),hE P "Rule" 408 (.ref 166),hE P "Straight" 446 (.ref 195),hE P "Stopped" 483 (.ref 221),hE P "Parted" 520 (.ref 247),hE P "MOST_NUMBERS" 524 (.int 3 523),hE P "MOST_PUSHES" 526 (.int 6 525),hE P "MOST_MODES" 528 (.int 40 527),hE P "Mode" 567 (.ref 266),hE P "Thing" 628 (.ref 315),hE P "is_sound" 634 (.ref 324),hE P "is_push" 641 (.ref 331),hE P "is_mode" 650 (.ref 338),hE P "FIGURES" 654 (hS "0123456789" 653),hE P "MOST_FIGURES" 656 (.int 60 655),hE P "NO_ROWS" 658 (hS "all" 657),hE P "ROW_BREAK" 660 (hS ", " 659),hE P "PART_BREAK" 662 (hS " | " 661),hE P "show_words" 668 (.ref 343),hE P "show_room" 674 (.ref 348),hE P "show_rule" 681 (.ref 355),hE P "show_claim" 688 (.ref 362),hE P "show_thing" 698 (.ref 369),hE P "mode_lines" 709 (.ref 376),hE P "split_text" 717 (.ref 383),hE P "read_number" 725 (.ref 390),hE P "are_figures" 731 (.ref 395),hE P "read_numbers" 737 (.ref 400),hE P "read_tuples" 743 (.ref 405),hE P "read_room" 751 (.ref 412),hE P "read_rule" 761 (.ref 419),hE P "taken" 767 (.ref 424),hE P "ask_number" 774 (.ref 431),hE P "ask_rule" 781 (.ref 438),hE P "straight_ahead" 787 (.ref 443),hE P "stopped_ahead" 795 (.ref 450),hE P "parted_ahead" 801 (.ref 455),hE P "read_claim" 812 (.ref 462),hE P "read_thing" 818 (.ref 467),hE P "numbers_behind" 827 (.ref 474),hE P "mode_blocks" 836 (.ref 481),hE P "read_mode" 842 (.ref 486),hE P "_law_cell_at" 852 (.ref 493),hE P "_law_stream" 864 (.ref 500),hE P "_law_number" 872 (.ref 507),hE P "_law_words" 878 (.ref 512),hE P "_law_leaf" 884 (.ref 517),hE P "_law_tree" 890 (.ref 522),hE P "_law_rule" 897 (.ref 529),hE P "_law_rule_text" 904 (.ref 536),hE P "_law_same_rule" 912 (.ref 543),hE P "_law_rows" 918 (.ref 548),hE P "_law_room_text" 924 (.ref 553),hE P "_law_claims" 940 (.ref 560),hE P "_law_parts" 946 (.ref 565),hE P "_law_thing_text" 952 (.ref 570),hE P "_law_things" 958 (.ref 575),hE P "law" 968 (.ref 582)] 80 })::(nat_lit 15,hU #[])::(nat_lit 17,hU #[hS "k" 190])::(nat_lit 18,hU #[])::(nat_lit 20,hD "_wall" 187 "_wall" 188 189 1 1 3 15 16 .none (.ref 17) (.ref 18) (.ref 19) 191 1 192)::(nat_lit 21,hF "_wall" "_wall" (hT 0) .none .none "__main__" 164 20)::(nat_lit 22,hU #[.type "ValueError"])::(nat_lit 29,hU #[])::(nat_lit 30,{ cls:=.type "dict",data:=.dict #[hE P "__module__" 203 (hS "steadyhand.errors" 194),hE P "__firstlineno__" 207 (.int 5 206),hE P "__static_attributes__" 208 (.ref 29),hE P "__weakref__" 210 (.ref 32),hE P "__doc__" 211 (.none)] 3 })::(nat_lit 31,{ cls:=.type "type",data:=.cls { name:="SteadyError",bases:=[.type "ValueError"],mro:=[.ref 31,.type "ValueError",.type "Exception",.type "BaseException",.type "object"],ns:=30,qualname:="SteadyError",subclasses:=[.ref 44,.ref 56,.ref 68] },slots:=#[some (.ref 22),none,some (hS "SteadyError" 196),some (hS "SteadyError" 204),some (.builtin "ValueError.__new__"),some (.bool true)] })::(nat_lit 32,{ cls:=.type "getset_descriptor",data:=.fields #[hS "__weakref__" 209,.ref 31,.builtin "ExceptionGroup.__weakref__",.none] })::(nat_lit 35,hU #[.ref 31])::(nat_lit 42,hU #[])::(nat_lit 43,{ cls:=.type "dict",data:=.dict #[hE P "__module__" 221 (hS "steadyhand.errors" 194),hE P "__firstlineno__" 225 (.int 7 224),hE P "__static_attributes__" 226 (.ref 42),hE P "__doc__" 227 (.none)] 2 })::(nat_lit 44,{ cls:=.type "type",data:=.cls { name:="BadThing",bases:=[.ref 31],mro:=[.ref 44,.ref 31,.type "ValueError",.type "Exception",.type "BaseException",.type "object"],ns:=43,qualname:="BadThing" },slots:=#[some (.ref 35),none,some (hS "BadThing" 214),some (hS "BadThing" 222),some (.builtin "ValueError.__new__"),some (.bool true)] })::(nat_lit 47,hU #[.ref 31])::(nat_lit 54,hU #[])::(nat_lit 55,{ cls:=.type "dict",data:=.dict #[hE P "__module__" 237 (hS "steadyhand.errors" 194),hE P "__firstlineno__" 241 (.int 9 240),hE P "__static_attributes__" 242 (.ref 54),hE P "__doc__" 243 (.none)] 2 })::(nat_lit 56,{ cls:=.type "type",data:=.cls { name:="TooMany",bases:=[.ref 31],mro:=[.ref 56,.ref 31,.type "ValueError",.type "Exception",.type "BaseException",.type "object"],ns:=55,qualname:="TooMany" },slots:=#[some (.ref 47),none,some (hS "TooMany" 230),some (hS "TooMany" 238),some (.builtin "ValueError.__new__"),some (.bool true)] })::(nat_lit 59,hU #[.ref 31])::(nat_lit 66,hU #[])::(nat_lit 67,{ cls:=.type "dict",data:=.dict #[hE P "__module__" 253 (hS "steadyhand.errors" 194),hE P "__firstlineno__" 257 (.int 11 256),hE P "__static_attributes__" 258 (.ref 66),hE P "__doc__" 259 (.none)] 2 })::(nat_lit 68,{ cls:=.type "type",data:=.cls { name:="NoText",bases:=[.ref 31],mro:=[.ref 68,.ref 31,.type "ValueError",.type "Exception",.type "BaseException",.type "object"],ns:=67,qualname:="NoText" },slots:=#[some (.ref 59),none,some (hS "NoText" 246),some (hS "NoText" 254),some (.builtin "ValueError.__new__"),some (.bool true)] })::(nat_lit 71,hU #[])::(nat_lit 73,hU #[hS "thing" 267])::(nat_lit 74,hU #[])::(nat_lit 76,hD "is_whole" 264 "is_whole" 265 266 14 1 3 71 72 .none (.ref 73) (.ref 74) (.ref 75) 268 14 269)::(nat_lit 77,hF "is_whole" "is_whole" (hT 7) .none .none "steadyhand.fractions" 262 76)::(nat_lit 78,hU #[])::(nat_lit 81,hD "is_numbers" 273 "is_numbers" 274 275 17 2 3 78 79 .none .none .none (.ref 80) 276 17 277)::(nat_lit 82,hF "is_numbers" "is_numbers" (hT 9) .none .none "steadyhand.tables" 271 81)::(nat_lit 83,hU #[])::(nat_lit 86,hD "is_table" 279 "is_table" 280 281 19 3 3 83 84 .none .none .none (.ref 85) 282 19 283)::(nat_lit 87,hF "is_table" "is_table" (hT 10) .none .none "steadyhand.tables" 271 86)::(nat_lit 88,hU #[.int 5 285])::(nat_lit 89,hU #[])::(nat_lit 92,hD "copied" 286 "copied" 287 288 21 2 3 89 90 .none .none .none (.ref 91) 289 21 290)::(nat_lit 93,hF "copied" "copied" (hT 11) (.ref 88) .none "steadyhand.tables" 271 92)::(nat_lit 101,hU #[])::(nat_lit 102,{ cls:=.type "dict",data:=.dict #[hE P "__module__" 301 (hS "steadyhand.claims" 292),hE P "__firstlineno__" 305 (.int 30 304),hE P "__static_attributes__" 306 (.ref 101),hE P "__dict__" 308 (.ref 104),hE P "__weakref__" 310 (.ref 105),hE P "__doc__" 311 (.none)] 4 })::(nat_lit 103,{ cls:=.type "type",data:=.cls { name:="Claim",bases:=[.type "object"],mro:=[.ref 103,.type "object"],ns:=102,qualname:="Claim",subclasses:=[.ref 125,.ref 144] },slots:=#[none,none,some (hS "Claim" 294),some (hS "Claim" 302),some (.builtin "object.__new__"),some (.bool true)] })::(nat_lit 104,{ cls:=.type "getset_descriptor",data:=.fields #[hS "__dict__" 307,.ref 103,.builtin "function.__dict__",.builtin "function.__dict__#set"] })::(nat_lit 105,{ cls:=.type "getset_descriptor",data:=.fields #[hS "__weakref__" 309,.ref 103,.builtin "ExceptionGroup.__weakref__",.none] })::(nat_lit 108,hU #[.ref 103])::(nat_lit 115,hU #[.int 0 326])::(nat_lit 116,hU #[])::(nat_lit 118,hU #[hS "self" 330,hS "start" 331,hS "rows" 332,hS "turn" 333])::(nat_lit 119,hU #[])::(nat_lit 121,hD "__init__" 327 "Settles.__init__" 328 329 34 4 3 116 117 .none (.ref 118) (.ref 119) (.ref 120) 334 34 335)::(nat_lit 122,hF "__init__" "Settles.__init__" (hI 14 0) (.ref 115) .none "steadyhand.claims" 292 121)::(nat_lit 123,hU #[hS "rows" 337,hS "start" 338,hS "turn" 339])::(nat_lit 124,{ cls:=.type "dict",data:=.dict #[hE P "__module__" 321 (hS "steadyhand.claims" 292),hE P "__firstlineno__" 325 (.int 32 324),hE P "__init__" 336 (.ref 122),hE P "__static_attributes__" 340 (.ref 123),hE P "__doc__" 341 (.none)] 2 })::(nat_lit 125,{ cls:=.type "type",data:=.cls { name:="Settles",bases:=[.ref 103],mro:=[.ref 125,.ref 103,.type "object"],ns:=124,qualname:="Settles" },slots:=#[some (.ref 108),none,some (hS "Settles" 314),some (hS "Settles" 322),some (.builtin "object.__new__"),some (.bool true)] })::(nat_lit 128,hU #[.ref 103])::(nat_lit 135,hU #[])::(nat_lit 137,hU #[hS "self" 359,hS "start" 360,hS "goal" 361,hS "turns" 362])::(nat_lit 138,hU #[])::(nat_lit 140,hD "__init__" 356 "Comes.__init__" 357 358 40 4 3 135 136 .none (.ref 137) (.ref 138) (.ref 139) 363 40 364)::(nat_lit 141,hF "__init__" "Comes.__init__" (hI 15 0) .none .none "steadyhand.claims" 292 140)::(nat_lit 142,hU #[hS "goal" 366,hS "start" 367,hS "turns" 368])::(nat_lit 143,{ cls:=.type "dict",data:=.dict #[hE P "__module__" 351 (hS "steadyhand.claims" 292),hE P "__firstlineno__" 355 (.int 38 354),hE P "__init__" 365 (.ref 141),hE P "__static_attributes__" 369 (.ref 142),hE P "__doc__" 370 (.none)] 2 })::(nat_lit 144,{ cls:=.type "type",data:=.cls { name:="Comes",bases:=[.ref 103],mro:=[.ref 144,.ref 103,.type "object"],ns:=143,qualname:="Comes" },slots:=#[some (.ref 128),none,some (hS "Comes" 344),some (hS "Comes" 352),some (.builtin "object.__new__"),some (.bool true)] })::(nat_lit 147,hU #[])::(nat_lit 150,hD "is_row" 375 "is_row" 376 377 45 2 3 147 148 .none .none .none (.ref 149) 378 45 379)::(nat_lit 151,hF "is_row" "is_row" (hT 17) .none .none "steadyhand.rows" 373 150)::(nat_lit 152,hU #[])::(nat_lit 155,hD "is_room" 381 "is_room" 382 383 47 2 3 152 153 .none .none .none (.ref 154) 384 47 385)::(nat_lit 156,hF "is_room" "is_room" (hT 18) .none .none "steadyhand.rows" 373 155)::(nat_lit 164,hU #[])::(nat_lit 165,{ cls:=.type "dict",data:=.dict #[hE P "__module__" 396 (hS "steadyhand.rules" 387),hE P "__firstlineno__" 400 (.int 50 399),hE P "__static_attributes__" 401 (.ref 164),hE P "__dict__" 403 (.ref 167),hE P "__weakref__" 405 (.ref 168),hE P "__doc__" 406 (.none)] 4 })::(nat_lit 166,{ cls:=.type "type",data:=.cls { name:="Rule",bases:=[.type "object"],mro:=[.ref 166,.type "object"],ns:=165,qualname:="Rule",subclasses:=[.ref 195,.ref 221,.ref 247] },slots:=#[none,none,some (hS "Rule" 389),some (hS "Rule" 397),some (.builtin "object.__new__"),some (.bool true)] })::(nat_lit 167,{ cls:=.type "getset_descriptor",data:=.fields #[hS "__dict__" 402,.ref 166,.builtin "function.__dict__",.builtin "function.__dict__#set"] })::(nat_lit 168,{ cls:=.type "getset_descriptor",data:=.fields #[hS "__weakref__" 404,.ref 166,.builtin "ExceptionGroup.__weakref__",.none] })::(nat_lit 171,hU #[.ref 166])::(nat_lit 178,hU #[.int 1 421])::(nat_lit 179,hU #[])::(nat_lit 181,hU #[hS "self" 425,hS "numbers" 426,hS "add" 427,hS "divisor" 428])::(nat_lit 182,hU #[])::(nat_lit 184,hD "__init__" 422 "Straight.__init__" 423 424 54 4 3 179 180 .none (.ref 181) (.ref 182) (.ref 183) 429 54 430)::(nat_lit 185,hF "__init__" "Straight.__init__" (hI 21 0) (.ref 178) .none "steadyhand.rules" 387 184)::(nat_lit 186,hU #[])::(nat_lit 188,hU #[hS "self" 435,hS "point" 436])::(nat_lit 189,hU #[])::(nat_lit 191,hD "steering" 432 "Straight.steering" 433 434 59 2 3 186 187 .none (.ref 188) (.ref 189) (.ref 190) 437 59 438)::(nat_lit 192,hF "steering" "Straight.steering" (hI 21 1) .none .none "steadyhand.rules" 387 191)::(nat_lit 193,hU #[hS "add" 440,hS "divisor" 441,hS "numbers" 442])::(nat_lit 194,{ cls:=.type "dict",data:=.dict #[hE P "__module__" 416 (hS "steadyhand.rules" 387),hE P "__firstlineno__" 420 (.int 52 419),hE P "__init__" 431 (.ref 185),hE P "steering" 439 (.ref 192),hE P "__static_attributes__" 443 (.ref 193),hE P "__doc__" 444 (.none)] 2 })::(nat_lit 195,{ cls:=.type "type",data:=.cls { name:="Straight",bases:=[.ref 166],mro:=[.ref 195,.ref 166,.type "object"],ns:=194,qualname:="Straight" },slots:=#[some (.ref 171),none,some (hS "Straight" 409),some (hS "Straight" 417),some (.builtin "object.__new__"),some (.bool true)] })::(nat_lit 198,hU #[.ref 166])::(nat_lit 205,hU #[])::(nat_lit 207,hU #[hS "self" 462,hS "rule" 463,hS "low" 464,hS "high" 465])::(nat_lit 208,hU #[])::(nat_lit 210,hD "__init__" 459 "Stopped.__init__" 460 461 63 4 3 205 206 .none (.ref 207) (.ref 208) (.ref 209) 466 63 467)::(nat_lit 211,hF "__init__" "Stopped.__init__" (hI 22 0) .none .none "steadyhand.rules" 387 210)::(nat_lit 212,hU #[])::(nat_lit 214,hU #[hS "self" 472,hS "point" 473])::(nat_lit 215,hU #[])::(nat_lit 217,hD "steering" 469 "Stopped.steering" 470 471 68 2 3 212 213 .none (.ref 214) (.ref 215) (.ref 216) 474 68 475)::(nat_lit 218,hF "steering" "Stopped.steering" (hI 22 1) .none .none "steadyhand.rules" 387 217)::(nat_lit 219,hU #[hS "high" 477,hS "low" 478,hS "rule" 479])::(nat_lit 220,{ cls:=.type "dict",data:=.dict #[hE P "__module__" 454 (hS "steadyhand.rules" 387),hE P "__firstlineno__" 458 (.int 61 457),hE P "__init__" 468 (.ref 211),hE P "steering" 476 (.ref 218),hE P "__static_attributes__" 480 (.ref 219),hE P "__doc__" 481 (.none)] 2 })::(nat_lit 221,{ cls:=.type "type",data:=.cls { name:="Stopped",bases:=[.ref 166],mro:=[.ref 221,.ref 166,.type "object"],ns:=220,qualname:="Stopped" },slots:=#[some (.ref 198),none,some (hS "Stopped" 447),some (hS "Stopped" 455),some (.builtin "object.__new__"),some (.bool true)] })::(nat_lit 224,hU #[.ref 166])::(nat_lit 231,hU #[])::(nat_lit 233,hU #[hS "self" 499,hS "row" 500,hS "rule" 501,hS "other" 502])::(nat_lit 234,hU #[])::(nat_lit 236,hD "__init__" 496 "Parted.__init__" 497 498 72 4 3 231 232 .none (.ref 233) (.ref 234) (.ref 235) 503 72 504)::(nat_lit 237,hF "__init__" "Parted.__init__" (hI 23 0) .none .none "steadyhand.rules" 387 236)::(nat_lit 238,hU #[])::(nat_lit 240,hU #[hS "self" 509,hS "point" 510])::(nat_lit 241,hU #[])::(nat_lit 243,hD "steering" 506 "Parted.steering" 507 508 77 2 3 238 239 .none (.ref 240) (.ref 241) (.ref 242) 511 77 512)::(nat_lit 244,hF "steering" "Parted.steering" (hI 23 1) .none .none "steadyhand.rules" 387 243)::(nat_lit 245,hU #[hS "other" 514,hS "row" 515,hS "rule" 516])::(nat_lit 246,{ cls:=.type "dict",data:=.dict #[hE P "__module__" 491 (hS "steadyhand.rules" 387),hE P "__firstlineno__" 495 (.int 70 494),hE P "__init__" 505 (.ref 237),hE P "steering" 513 (.ref 244),hE P "__static_attributes__" 517 (.ref 245),hE P "__doc__" 518 (.none)] 2 })::(nat_lit 247,{ cls:=.type "type",data:=.cls { name:="Parted",bases:=[.ref 166],mro:=[.ref 247,.ref 166,.type "object"],ns:=246,qualname:="Parted" },slots:=#[some (.ref 224),none,some (hS "Parted" 484),some (hS "Parted" 492),some (.builtin "object.__new__"),some (.bool true)] })::(nat_lit 257,hU #[])::(nat_lit 259,hU #[hS "self" 544,hS "rows" 545,hS "nexts" 546,hS "steer" 547,hS "push" 548,hS "add" 549,hS "divisor" 550])::(nat_lit 260,hU #[])::(nat_lit 262,hD "__init__" 541 "Mode.__init__" 542 543 85 7 3 257 258 .none (.ref 259) (.ref 260) (.ref 261) 551 85 552)::(nat_lit 263,hF "__init__" "Mode.__init__" (hI 28 0) .none .none "steadyhand.things" 521 262)::(nat_lit 264,hU #[hS "add" 554,hS "divisor" 555,hS "nexts" 556,hS "push" 557,hS "rows" 558,hS "steer" 559])::(nat_lit 265,{ cls:=.type "dict",data:=.dict #[hE P "__module__" 536 (hS "steadyhand.things" 521),hE P "__firstlineno__" 540 (.int 83 539),hE P "__init__" 553 (.ref 263),hE P "__static_attributes__" 560 (.ref 264),hE P "__dict__" 562 (.ref 267),hE P "__weakref__" 564 (.ref 268),hE P "__doc__" 565 (.none)] 4 })::(nat_lit 266,{ cls:=.type "type",data:=.cls { name:="Mode",bases:=[.type "object"],mro:=[.ref 266,.type "object"],ns:=265,qualname:="Mode" },slots:=#[none,none,some (hS "Mode" 529),some (hS "Mode" 537),some (.builtin "object.__new__"),some (.bool true)] })::(nat_lit 267,{ cls:=.type "getset_descriptor",data:=.fields #[hS "__dict__" 561,.ref 266,.builtin "function.__dict__",.builtin "function.__dict__#set"] })::(nat_lit 268,{ cls:=.type "getset_descriptor",data:=.fields #[hS "__weakref__" 563,.ref 266,.builtin "ExceptionGroup.__weakref__",.none] })::(nat_lit 278,hU #[])::(nat_lit 280,hU #[hS "self" 583,hS "many" 584,hS "pushes" 585,hS "modes" 586])::(nat_lit 281,hU #[])::(nat_lit 283,hD "__init__" 580 "Thing.__init__" 581 582 94 4 3 278 279 .none (.ref 280) (.ref 281) (.ref 282) 587 94 588)::(nat_lit 284,hF "__init__" "Thing.__init__" (hI 29 0) .none .none "steadyhand.things" 521 283)::(nat_lit 285,hU #[])::(nat_lit 287,hU #[hS "self" 593])::(nat_lit 288,hU #[])::(nat_lit 290,hD "pushes" 590 "Thing.pushes" 591 592 103 1 3 285 286 .none (.ref 287) (.ref 288) (.ref 289) 594 103 595)::(nat_lit 291,hF "pushes" "Thing.pushes" (hI 29 1) .none .none "steadyhand.things" 521 290)::(nat_lit 292,hU #[])::(nat_lit 294,hU #[hS "self" 600])::(nat_lit 295,hU #[])::(nat_lit 297,hD "modes" 597 "Thing.modes" 598 599 106 1 3 292 293 .none (.ref 294) (.ref 295) (.ref 296) 601 106 602)::(nat_lit 298,hF "modes" "Thing.modes" (hI 29 2) .none .none "steadyhand.things" 521 297)::(nat_lit 299,hU #[])::(nat_lit 301,hU #[hS "self" 607])::(nat_lit 302,hU #[])::(nat_lit 304,hD "is_closed" 604 "Thing.is_closed" 605 606 109 1 3 299 300 .none (.ref 301) (.ref 302) (.ref 303) 608 109 609)::(nat_lit 305,hF "is_closed" "Thing.is_closed" (hI 29 3) .none .none "steadyhand.things" 521 304)::(nat_lit 306,hU #[])::(nat_lit 308,hU #[hS "self" 614])::(nat_lit 309,hU #[])::(nat_lit 311,hD "is_plain" 611 "Thing.is_plain" 612 613 112 1 3 306 307 .none (.ref 308) (.ref 309) (.ref 310) 615 112 616)::(nat_lit 312,hF "is_plain" "Thing.is_plain" (hI 29 4) .none .none "steadyhand.things" 521 311)::(nat_lit 313,hU #[hS "kept_modes" 618,hS "kept_pushes" 619,hS "many" 620])::(nat_lit 314,{ cls:=.type "dict",data:=.dict #[hE P "__module__" 575 (hS "steadyhand.things" 521),hE P "__firstlineno__" 579 (.int 92 578),hE P "__init__" 589 (.ref 284),hE P "pushes" 596 (.ref 291),hE P "modes" 603 (.ref 298),hE P "is_closed" 610 (.ref 305),hE P "is_plain" 617 (.ref 312),hE P "__static_attributes__" 621 (.ref 313),hE P "__dict__" 623 (.ref 316),hE P "__weakref__" 625 (.ref 317),hE P "__doc__" 626 (.none)] 4 })::(nat_lit 315,{ cls:=.type "type",data:=.cls { name:="Thing",bases:=[.type "object"],mro:=[.ref 315,.type "object"],ns:=314,qualname:="Thing" },slots:=#[none,none,some (hS "Thing" 568),some (hS "Thing" 576),some (.builtin "object.__new__"),some (.bool true)] })::(nat_lit 316,{ cls:=.type "getset_descriptor",data:=.fields #[hS "__dict__" 622,.ref 315,.builtin "function.__dict__",.builtin "function.__dict__#set"] })::(nat_lit 317,{ cls:=.type "getset_descriptor",data:=.fields #[hS "__weakref__" 624,.ref 315,.builtin "ExceptionGroup.__weakref__",.none] })::(nat_lit 320,hU #[])::(nat_lit 323,hD "is_sound" 629 "is_sound" 630 631 114 3 3 320 321 .none .none .none (.ref 322) 632 114 633)::(nat_lit 324,hF "is_sound" "is_sound" (hT 30) .none .none "steadyhand.things" 521 323)::(nat_lit 325,hU #[])::(nat_lit 327,hU #[hS "value" 638])::(nat_lit 328,hU #[])::(nat_lit 330,hD "is_push" 635 "is_push" 636 637 122 1 3 325 326 .none (.ref 327) (.ref 328) (.ref 329) 639 122 640)::(nat_lit 331,hF "is_push" "is_push" (hT 31) .none .none "steadyhand.things" 521 330)::(nat_lit 332,hU #[])::(nat_lit 334,hU #[hS "value" 645,hS "many" 646,hS "wide" 647])::(nat_lit 335,hU #[])::(nat_lit 337,hD "is_mode" 642 "is_mode" 643 644 126 3 3 332 333 .none (.ref 334) (.ref 335) (.ref 336) 648 126 649)::(nat_lit 338,hF "is_mode" "is_mode" (hT 32) .none .none "steadyhand.things" 521 337)::(nat_lit 339,hU #[])::(nat_lit 342,hD "show_words" 663 "show_words" 664 665 140 1 3 339 340 .none .none .none (.ref 341) 666 140 667)::(nat_lit 343,hF "show_words" "show_words" (hT 39) .none .none "steadyhand.texts" 651 342)::(nat_lit 344,hU #[])::(nat_lit 347,hD "show_room" 669 "show_room" 670 671 142 1 3 344 345 .none .none .none (.ref 346) 672 142 673)::(nat_lit 348,hF "show_room" "show_room" (hT 40) .none .none "steadyhand.texts" 651 347)::(nat_lit 349,hU #[])::(nat_lit 351,hU #[hS "rule" 678])::(nat_lit 352,hU #[])::(nat_lit 354,hD "show_rule" 675 "show_rule" 676 677 146 1 3 349 350 .none (.ref 351) (.ref 352) (.ref 353) 679 146 680)::(nat_lit 355,hF "show_rule" "show_rule" (hT 41) .none .none "steadyhand.texts" 651 354)::(nat_lit 356,hU #[])::(nat_lit 358,hU #[hS "claim" 685])::(nat_lit 359,hU #[])::(nat_lit 361,hD "show_claim" 682 "show_claim" 683 684 152 1 3 356 357 .none (.ref 358) (.ref 359) (.ref 360) 686 152 687)::(nat_lit 362,hF "show_claim" "show_claim" (hT 42) .none .none "steadyhand.texts" 651 361)::(nat_lit 363,hU #[])::(nat_lit 365,hU #[hS "thing" 692,hS "lines" 693,hS "push" 694,hS "mode" 695])::(nat_lit 366,hU #[])::(nat_lit 368,hD "show_thing" 689 "show_thing" 690 691 156 1 3 363 364 .none (.ref 365) (.ref 366) (.ref 367) 696 156 697)::(nat_lit 369,hF "show_thing" "show_thing" (hT 43) .none .none "steadyhand.texts" 651 368)::(nat_lit 370,hU #[])::(nat_lit 372,hU #[hS "mode" 702,hS "lines" 703,hS "row" 704,hS "place" 705,hS "numbers" 706])::(nat_lit 373,hU #[])::(nat_lit 375,hD "mode_lines" 699 "mode_lines" 700 701 163 1 3 370 371 .none (.ref 372) (.ref 373) (.ref 374) 707 163 708)::(nat_lit 376,hF "mode_lines" "mode_lines" (hT 44) .none .none "steadyhand.texts" 651 375)::(nat_lit 377,hU #[])::(nat_lit 379,hU #[hS "text" 713,hS "separator" 714])::(nat_lit 380,hU #[])::(nat_lit 382,hD "split_text" 710 "split_text" 711 712 170 2 3 377 378 .none (.ref 379) (.ref 380) (.ref 381) 715 170 716)::(nat_lit 383,hF "split_text" "split_text" (hT 45) .none .none "steadyhand.texts" 651 382)::(nat_lit 384,hU #[])::(nat_lit 386,hU #[hS "text" 721,hS "figures" 722])::(nat_lit 387,hU #[])::(nat_lit 389,hD "read_number" 718 "read_number" 719 720 174 1 3 384 385 .none (.ref 386) (.ref 387) (.ref 388) 723 174 724)::(nat_lit 390,hF "read_number" "read_number" (hT 46) .none .none "steadyhand.texts" 651 389)::(nat_lit 391,hU #[])::(nat_lit 394,hD "are_figures" 726 "are_figures" 727 728 179 1 3 391 392 .none .none .none (.ref 393) 729 179 730)::(nat_lit 395,hF "are_figures" "are_figures" (hT 47) .none .none "steadyhand.texts" 651 394)::(nat_lit 396,hU #[])::(nat_lit 399,hD "read_numbers" 732 "read_numbers" 733 734 183 2 3 396 397 .none .none .none (.ref 398) 735 183 736)::(nat_lit 400,hF "read_numbers" "read_numbers" (hT 48) .none .none "steadyhand.texts" 651 399)::(nat_lit 401,hU #[])::(nat_lit 404,hD "read_tuples" 738 "read_tuples" 739 740 187 2 3 401 402 .none .none .none (.ref 403) 741 187 742)::(nat_lit 405,hF "read_tuples" "read_tuples" (hT 49) .none .none "steadyhand.texts" 651 404)::(nat_lit 406,hU #[])::(nat_lit 408,hU #[hS "text" 747,hS "many" 748])::(nat_lit 409,hU #[])::(nat_lit 411,hD "read_room" 744 "read_room" 745 746 189 2 3 406 407 .none (.ref 408) (.ref 409) (.ref 410) 749 189 750)::(nat_lit 412,hF "read_room" "read_room" (hT 50) .none .none "steadyhand.texts" 651 411)::(nat_lit 413,hU #[])::(nat_lit 415,hU #[hS "text" 755,hS "many" 756,hS "behind" 757,hS "word" 758])::(nat_lit 416,hU #[])::(nat_lit 418,hD "read_rule" 752 "read_rule" 753 754 193 2 3 413 414 .none (.ref 415) (.ref 416) (.ref 417) 759 193 760)::(nat_lit 419,hF "read_rule" "read_rule" (hT 51) .none .none "steadyhand.texts" 651 418)::(nat_lit 420,hU #[])::(nat_lit 423,hD "taken" 762 "taken" 763 764 207 2 3 420 421 .none .none .none (.ref 422) 765 207 766)::(nat_lit 424,hF "taken" "taken" (hT 52) .none .none "steadyhand.texts" 651 423)::(nat_lit 425,hU #[])::(nat_lit 427,hU #[hS "value" 771])::(nat_lit 428,hU #[])::(nat_lit 430,hD "ask_number" 768 "ask_number" 769 770 211 1 3 425 426 .none (.ref 427) (.ref 428) (.ref 429) 772 211 773)::(nat_lit 431,hF "ask_number" "ask_number" (hT 53) .none .none "steadyhand.texts" 651 430)::(nat_lit 432,hU #[])::(nat_lit 434,hU #[hS "value" 778])::(nat_lit 435,hU #[])::(nat_lit 437,hD "ask_rule" 775 "ask_rule" 776 777 215 1 3 432 433 .none (.ref 434) (.ref 435) (.ref 436) 779 215 780)::(nat_lit 438,hF "ask_rule" "ask_rule" (hT 54) .none .none "steadyhand.texts" 651 437)::(nat_lit 439,hU #[])::(nat_lit 442,hD "straight_ahead" 782 "straight_ahead" 783 784 219 2 3 439 440 .none .none .none (.ref 441) 785 219 786)::(nat_lit 443,hF "straight_ahead" "straight_ahead" (hT 55) .none .none "steadyhand.texts" 651 442)::(nat_lit 444,hU #[])::(nat_lit 446,hU #[hS "behind" 791,hS "found" 792])::(nat_lit 447,hU #[])::(nat_lit 449,hD "stopped_ahead" 788 "stopped_ahead" 789 790 222 1 3 444 445 .none (.ref 446) (.ref 447) (.ref 448) 793 222 794)::(nat_lit 450,hF "stopped_ahead" "stopped_ahead" (hT 56) .none .none "steadyhand.texts" 651 449)::(nat_lit 451,hU #[])::(nat_lit 454,hD "parted_ahead" 796 "parted_ahead" 797 798 225 2 3 451 452 .none .none .none (.ref 453) 799 225 800)::(nat_lit 455,hF "parted_ahead" "parted_ahead" (hT 57) .none .none "steadyhand.texts" 651 454)::(nat_lit 456,hU #[])::(nat_lit 458,hU #[hS "text" 805,hS "many" 806,hS "parts" 807,hS "words" 808,hS "turn" 809])::(nat_lit 459,hU #[])::(nat_lit 461,hD "read_claim" 802 "read_claim" 803 804 229 2 3 456 457 .none (.ref 458) (.ref 459) (.ref 460) 810 229 811)::(nat_lit 462,hF "read_claim" "read_claim" (hT 58) .none .none "steadyhand.texts" 651 461)::(nat_lit 463,hU #[])::(nat_lit 466,hD "read_thing" 813 "read_thing" 814 815 242 1 3 463 464 .none .none .none (.ref 465) 816 242 817)::(nat_lit 467,hF "read_thing" "read_thing" (hT 59) .none .none "steadyhand.texts" 651 466)::(nat_lit 468,hU #[])::(nat_lit 470,hU #[hS "words" 822,hS "name" 823,hS "count" 824])::(nat_lit 471,hU #[])::(nat_lit 473,hD "numbers_behind" 819 "numbers_behind" 820 821 251 3 3 468 469 .none (.ref 470) (.ref 471) (.ref 472) 825 251 826)::(nat_lit 474,hF "numbers_behind" "numbers_behind" (hT 60) .none .none "steadyhand.texts" 651 473)::(nat_lit 475,hU #[])::(nat_lit 477,hU #[hS "lines" 831,hS "blocks" 832,hS "words" 833])::(nat_lit 478,hU #[])::(nat_lit 480,hD "mode_blocks" 828 "mode_blocks" 829 830 255 1 3 475 476 .none (.ref 477) (.ref 478) (.ref 479) 834 255 835)::(nat_lit 481,hF "mode_blocks" "mode_blocks" (hT 61) .none .none "steadyhand.texts" 651 480)::(nat_lit 482,hU #[])::(nat_lit 485,hD "read_mode" 837 "read_mode" 838 839 265 3 3 482 483 .none .none .none (.ref 484) 840 265 841)::(nat_lit 486,hF "read_mode" "read_mode" (hT 62) .none .none "steadyhand.texts" 651 485)::(nat_lit 487,hU #[])::(nat_lit 489,hU #[hS "_law_script" 848,hS "_law_k" 849])::(nat_lit 490,hU #[])::(nat_lit 492,hD "_law_cell_at" 845 "_law_cell_at" 846 847 276 2 3 487 488 .none (.ref 489) (.ref 490) (.ref 491) 850 276 851)::(nat_lit 493,hF "_law_cell_at" "_law_cell_at" (hT 64) .none .none "law_steadyhand_k92_rules_claims_things_as_te" 843 492)::(nat_lit 494,hU #[])::(nat_lit 496,hU #[hS "_law_cell" 856,hS "_law_many" 857,hS "_law_found" 858,hS "_law_rest" 859,hS "_law_k" 860,hS "_law_number_here" 861])::(nat_lit 497,hU #[])::(nat_lit 499,hD "_law_stream" 853 "_law_stream" 854 855 280 2 3 494 495 .none (.ref 496) (.ref 497) (.ref 498) 862 280 863)::(nat_lit 500,hF "_law_stream" "_law_stream" (hT 65) .none .none "law_steadyhand_k92_rules_claims_things_as_te" 843 499)::(nat_lit 501,hU #[])::(nat_lit 503,hU #[hS "_law_number_here" 868,hS "_law_size" 869])::(nat_lit 504,hU #[])::(nat_lit 506,hD "_law_number" 865 "_law_number" 866 867 293 1 3 501 502 .none (.ref 503) (.ref 504) (.ref 505) 870 293 871)::(nat_lit 507,hF "_law_number" "_law_number" (hT 66) .none .none "law_steadyhand_k92_rules_claims_things_as_te" 843 506)::(nat_lit 508,hU #[])::(nat_lit 511,hD "_law_words" 873 "_law_words" 874 875 300 1 3 508 509 .none .none .none (.ref 510) 876 300 877)::(nat_lit 512,hF "_law_words" "_law_words" (hT 67) .none .none "law_steadyhand_k92_rules_claims_things_as_te" 843 511)::(nat_lit 513,hU #[])::(nat_lit 516,hD "_law_leaf" 879 "_law_leaf" 880 881 302 2 3 513 514 .none .none .none (.ref 515) 882 302 883)::(nat_lit 517,hF "_law_leaf" "_law_leaf" (hT 68) .none .none "law_steadyhand_k92_rules_claims_things_as_te" 843 516)::(nat_lit 518,hU #[])::(nat_lit 521,hD "_law_tree" 885 "_law_tree" 886 887 305 2 3 518 519 .none .none .none (.ref 520) 888 305 889)::(nat_lit 522,hF "_law_tree" "_law_tree" (hT 69) .none .none "law_steadyhand_k92_rules_claims_things_as_te" 843 521)::(nat_lit 523,hU #[])::(nat_lit 525,hU #[hS "_law_tree_here" 894])::(nat_lit 526,hU #[])::(nat_lit 528,hD "_law_rule" 891 "_law_rule" 892 893 316 1 3 523 524 .none (.ref 525) (.ref 526) (.ref 527) 895 316 896)::(nat_lit 529,hF "_law_rule" "_law_rule" (hT 70) .none .none "law_steadyhand_k92_rules_claims_things_as_te" 843 528)::(nat_lit 530,hU #[])::(nat_lit 532,hU #[hS "_law_tree_here" 901])::(nat_lit 533,hU #[])::(nat_lit 535,hD "_law_rule_text" 898 "_law_rule_text" 899 900 322 1 3 530 531 .none (.ref 532) (.ref 533) (.ref 534) 902 322 903)::(nat_lit 536,hF "_law_rule_text" "_law_rule_text" (hT 71) .none .none "law_steadyhand_k92_rules_claims_things_as_te" 843 535)::(nat_lit 537,hU #[])::(nat_lit 539,hU #[hS "_law_rule_here" 908,hS "_law_tree_here" 909])::(nat_lit 540,hU #[])::(nat_lit 542,hD "_law_same_rule" 905 "_law_same_rule" 906 907 328 2 3 537 538 .none (.ref 539) (.ref 540) (.ref 541) 910 328 911)::(nat_lit 543,hF "_law_same_rule" "_law_same_rule" (hT 72) .none .none "law_steadyhand_k92_rules_claims_things_as_te" 843 542)::(nat_lit 544,hU #[])::(nat_lit 547,hD "_law_rows" 913 "_law_rows" 914 915 342 3 3 544 545 .none .none .none (.ref 546) 916 342 917)::(nat_lit 548,hF "_law_rows" "_law_rows" (hT 73) .none .none "law_steadyhand_k92_rules_claims_things_as_te" 843 547)::(nat_lit 549,hU #[])::(nat_lit 552,hD "_law_room_text" 919 "_law_room_text" 920 921 345 1 3 549 550 .none .none .none (.ref 551) 922 345 923)::(nat_lit 553,hF "_law_room_text" "_law_room_text" (hT 74) .none .none "law_steadyhand_k92_rules_claims_things_as_te" 843 552)::(nat_lit 554,hU #[])::(nat_lit 556,hU #[hS "_law_script" 928,hS "_law_many" 929,hS "_law_cell" 930,hS "_law_first" 931,hS "_law_second" 932,hS "_law_turn" 933,hS "_law_rooms" 934,hS "_law_one" 935,hS "_law_found" 936,hS "_law_other" 937])::(nat_lit 557,hU #[])::(nat_lit 559,hD "_law_claims" 925 "_law_claims" 926 927 349 2 3 554 555 .none (.ref 556) (.ref 557) (.ref 558) 938 349 939)::(nat_lit 560,hF "_law_claims" "_law_claims" (hT 75) .none .none "law_steadyhand_k92_rules_claims_things_as_te" 843 559)::(nat_lit 561,hU #[])::(nat_lit 564,hD "_law_parts" 941 "_law_parts" 942 943 370 3 3 561 562 .none .none .none (.ref 563) 944 370 945)::(nat_lit 565,hF "_law_parts" "_law_parts" (hT 76) .none .none "law_steadyhand_k92_rules_claims_things_as_te" 843 564)::(nat_lit 566,hU #[])::(nat_lit 569,hD "_law_thing_text" 947 "_law_thing_text" 948 949 377 3 3 566 567 .none .none .none (.ref 568) 950 377 951)::(nat_lit 570,hF "_law_thing_text" "_law_thing_text" (hT 77) .none .none "law_steadyhand_k92_rules_claims_things_as_te" 843 569)::(nat_lit 571,hU #[])::(nat_lit 574,hD "_law_things" 953 "_law_things" 954 955 386 2 3 571 572 .none .none .none (.ref 573) 956 386 957)::(nat_lit 575,hF "_law_things" "_law_things" (hT 78) .none .none "law_steadyhand_k92_rules_claims_things_as_te" 843 574)::(nat_lit 576,hU #[])::(nat_lit 578,hU #[hS "_law_script" 962,hS "_law_many" 963,hS "_law_tree_here" 964,hS "_law_text" 965])::(nat_lit 579,hU #[])::(nat_lit 581,hD "law" 959 "law" 960 961 403 1 3 576 577 .none (.ref 578) (.ref 579) (.ref 580) 966 403 967)::(nat_lit 582,hF "law" "law" (hT 79) .none .none "law_steadyhand_k92_rules_claims_things_as_te" 843 581) :: []
noncomputable def ks:List Addr:=[2,3,15,17,18,20,21,22,29,30,31,32,35,42,43,44,47,54,55,56,59,66,67,68,71,73,74,76,77,78,81,82,83,86,87,88,89,92,93,101,102,103,104,105,108,115,116,118,119,121,122,123,124,125,128,135,137,138,140,141,142,143,144,147,150,151,152,155,156,164,165,166,167,168,171,178,179,181,182,184,185,186,188,189,191,192,193,194,195,198,205,207,208,210,211,212,214,215,217,218,219,220,221,224,231,233,234,236,237,238,240,241,243,244,245,246,247,257,259,260,262,263,264,265,266,267,268,278,280,281,283,284,285,287,288,290,291,292,294,295,297,298,299,301,302,304,305,306,308,309,311,312,313,314,315,316,317,320,323,324,325,327,328,330,331,332,334,335,337,338,339,342,343,344,347,348,349,351,352,354,355,356,358,359,361,362,363,365,366,368,369,370,372,373,375,376,377,379,380,382,383,384,386,387,389,390,391,394,395,396,399,400,401,404,405,406,408,409,411,412,413,415,416,418,419,420,423,424,425,427,428,430,431,432,434,435,437,438,439,442,443,444,446,447,449,450,451,454,455,456,458,459,461,462,463,466,467,468,470,471,473,474,475,477,478,480,481,482,485,486,487,489,490,492,493,494,496,497,499,500,501,503,504,506,507,508,511,512,513,516,517,518,521,522,523,525,526,528,529,530,532,533,535,536,537,539,540,542,543,544,547,548,549,552,553,554,556,557,559,560,561,564,565,566,569,570,571,574,575,576,578,579,581,582]
theorem ke:∀ P:Params,ks=(KK P).map (·.1):=λ_=>by
 kernel_rfl
noncomputable def vw:Program:={ PySem.Challenge.pw_steadyhand_k92_rules_claims_things_as_te with main:={ PySem.Challenge.pw_steadyhand_k92_rules_claims_things_as_te.main with body:=[hT 0,hT 2,hT 3,hT 4,hT 5,hT 7,hT 9,hT 10,hT 13,hT 14,hT 15,hT 17,hT 18,hT 20,hT 21,hT 22,hT 23,hT 25,hT 26,hT 27,hT 28,hT 29,hT 30,hT 31,hT 32,hT 34,hT 35,hT 36,hT 37,hT 38,hT 39,hT 40,hT 41,hT 42,hT 43,hT 44,hT 45,hT 46,hT 47,hT 48,hT 49,hT 50,hT 51,hT 52,hT 53,hT 54,hT 55,hT 56,hT 57,hT 58,hT 59,hT 60,hT 61,hT 62,hT 64,hT 65,hT 66,hT 67,hT 68,hT 69,hT 70,hT 71,hT 72,hT 73,hT 74,hT 75,hT 76,hT 77,hT 78,hT 79] } }
noncomputable def lo:List Str:=[Str.ofString "copied",Str.ofString "Settles",Str.ofString "Straight"]
noncomputable abbrev rr:RowW:=(OpenLaw.row PySem.Challenge.rw_steadyhand_k92_rules_claims_things_as_te).toRowW
noncomputable abbrev xt:Shared->Bool:=λs=>xlAt vw [] s && recOk rr.records s
noncomputable def bt:Params->BT:=λP=>(.node (boot_o_0 P) (.node (boot_o_1 P) (.node (boot_o_3 P) (.node (boot_o_7 P) .nil .nil) .nil) (.node (boot_o_5 P) (.node (boot_o_9 P) .nil .nil) .nil)) (.node (boot_o_2 P) (.node (boot_o_4 P) (.node (boot_o_8 P) .nil .nil) .nil) (.node (boot_o_6 P) (.node (boot_o_10 P) .nil .nil) .nil)))
noncomputable def lhs (T:Params->BT) (h:Params->Heap) (d:Drawn) (k:Nat) (w:World) (os:OsState):=(TT.runT treeTable PySem.Challenge.pw_steadyhand_k92_rules_claims_things_as_te w 11 (some (.ref 6)) 9544 ⟨T w.params,11,(h w.params).life,Array.mk [],d,k,os⟩ (topStub PySem.Challenge.pw_steadyhand_k92_rules_claims_things_as_te)).map (λs=>((staticsOk (importedModules PySem.Challenge.pw_steadyhand_k92_rules_claims_things_as_te.main.body) (h w.params) s.abs.heap && namesBound PySem.Challenge.pw_steadyhand_k92_rules_claims_things_as_te s.abs.heap && gensDone s.abs && laidKept (h w.params) s.abs.heap),openSeen vw lo (importedModules PySem.Challenge.pw_steadyhand_k92_rules_claims_things_as_te.main.body) xt true s.abs,ks.map s.abs.heap.get?))
noncomputable def rhs (F:Params->Frag) (w:World) (_:OsState):=some (true,openGood vw lo,(F w.params).map λp=>some p.2)
lay_quick lhs rhs
theorem same (w:World) (os:OsState):PySem.W.Fast.tw8530293359381546044 bt boot_heap boot_drawn boot_toks w os=PySem.W.Fast.tw13942937280126848463 KK w os:=by
 kernel_rfl
theorem left:LeftO rr.prog vw lo xt (kHook KK ks ke).obs (kHook KK ks ke).val 9544:=
 TT.left_is (boot_open (by kernel_rfl) (by decide) (λ_=>by kernel_rfl)) (λ_=>by kernel_rfl) (λ_=>by kernel_rfl) (λ_=>by kernel_rfl) (λ_=>by kernel_rfl)
  λw os=>(congrArg (λf=>f bt boot_heap boot_drawn boot_toks w os) PySem.W.Fast.te8530293359381546044).trans ((same w os).trans (congrFun (congrFun (congrFun PySem.W.Fast.te13942937280126848463 KK) w) os).symm)
end H92
namespace L2
open PySem PySem.Spec PyProof.Rows
noncomputable abbrev yR:=Sum Int Str
noncomputable def X5:yR->Value->Bool
 | .inl k,v=>Value.isInt k v
 | .inr x,v=>Value.isStrOf x v
noncomputable def YK (w:World):yR->Int
 | .inl k=>hashInt k
 | .inr x=>hashStr w x
theorem uq:∀ {k:yR} {v:Value},X5 k v=true->(∃ i t,k=Sum.inl i/\v=Value.int i t)\/(∃ x t,k=Sum.inr x/\v=Value.str x t)
 | .inl i,v,h=>by
  obtain ⟨t,e⟩:=Value.isInt_shape (k:=i) (v:=v) h
  exact .inl ⟨i,t,rfl,e⟩
 | .inr x,v,h=>by
  obtain ⟨t,e⟩:=Value.isStrOf_shape (x:=x) (v:=v) h
  exact .inr ⟨x,t,rfl,e⟩
theorem JM (a b:Int):decide ((Sum.inl a:yR)=Sum.inl b)=(a == b):=by
 by_cases e:a=b
 ·subst e; simp
 ·have h:¬ (Sum.inl a:yR)=Sum.inl b:=λq=>e (Sum.inl.inj q)
  rw [decide_eq_false h]
  exact (beq_eq_false_iff_ne.mpr e).symm
theorem JN (a b:Str):decide ((Sum.inr a:yR)=Sum.inr b)=decide (a=b):=by
 by_cases e:a=b
 ·subst e; simp
 ·have h:¬ (Sum.inr a:yR)=Sum.inr b:=λq=>e (Sum.inr.inj q)
  rw [decide_eq_false h,decide_eq_false e]
theorem JO (a:Int) (b:Str):decide ((Sum.inl a:yR)=Sum.inr b)=false:=decide_eq_false (λq=>nomatch q)
theorem JP (a:Str) (b:Int):decide ((Sum.inr a:yR)=Sum.inl b)=false:=decide_eq_false (λq=>nomatch q)
noncomputable def X6 (prog:Program) (w:World):PySem.KeyKind prog w yR where
 is:=X5
 hash:=YK w
 inj:=λv a b ha hb=>by
  rcases uq ha with ⟨i,t,rfl,rfl⟩ | ⟨x,t,rfl,rfl⟩
  ·rcases uq hb with ⟨j,u,rfl,e⟩ | ⟨y,u,rfl,e⟩
   ·injection e with e1 _; rw [e1]
   ·exact nomatch e
  ·rcases uq hb with ⟨j,u,rfl,e⟩ | ⟨y,u,rfl,e⟩
   ·exact nomatch e
   ·injection e with e1 _; rw [e1]
 byValue:=λk v h=>by
  rcases uq h with ⟨i,t,rfl,rfl⟩ | ⟨x,t,rfl,rfl⟩ <;> rfl
 pyHash:=λhv h=>by
  rcases uq hv with ⟨i,t,rfl,rfl⟩ | ⟨x,t,rfl,rfl⟩
  ·exact wpAny_pyHash_int h
  ·exact wpAny_pyHash_str h
 eqBool:=λhu hv h=>by
  rcases uq hu with ⟨i,t,rfl,rfl⟩ | ⟨x,t,rfl,rfl⟩
  ·rcases uq hv with ⟨j,u,rfl,rfl⟩ | ⟨y,u,rfl,rfl⟩
   ·rw [JM] at h; exact wpAny_eqBool_int h
   ·rw [JO] at h; exact SeqAt.EqAt.int_str i t y u _ _ _ _ h
  ·rcases uq hv with ⟨j,u,rfl,rfl⟩ | ⟨y,u,rfl,rfl⟩
   ·rw [JP] at h; exact SeqAt.EqAt.str_int x t j u _ _ _ _ h
   ·rw [JN] at h; exact wpAny_eqBool_str h
 «strs»:=λk x t v h=>by
  rcases uq h with ⟨i,u,rfl,e⟩ | ⟨y,u,rfl,e⟩
  ·exact nomatch e
  ·injection e with e1 _
   subst e1
   cases v <;> rfl
end L2
namespace L2
open PySem PySem.Spec PyProof.Rows
inductive V where
 | non | bl (b:Bool) | int (i:Int) | str (x:Str) | byt (b:Array UInt8) | flt (b:UInt64) | ref (a:Addr) | ty (n:String)
 deriving DecidableEq
noncomputable def zS:V->Value->Prop
 | .non,u=>u=Value.none
 | .bl b,u=>u=Value.bool b
 | .int i,u=>∃ t,u=Value.int i t
 | .str x,u=>∃ t,u=Value.str x t
 | .byt b,u=>∃ t,u=Value.bytes b t
 | .flt b,u=>∃ t,u=Value.float b t
 | .ref a,u=>u=Value.ref a
 | .ty n,u=>u=Value.type n
noncomputable abbrev zN:List V->List Value->Prop:=Paired zS
theorem zN.length {xs:List V} {us:List Value} (r:zN xs us):xs.length=us.length:=Paired.length r
theorem zN.get:∀ {xs:List V} {us:List Value} {i:Nat} {x:V},zN xs us->xs[i]? = some x->∃ u,us[i]? = some u/\zS x u
 | _,_,_,_,.nil,e=>by simp at e
 | _,_,0,_,.cons r _,e=>by simp at e; subst e; exact ⟨_,rfl,r⟩
 | _,_,i + 1,x,.cons _ t,e=>by
  obtain ⟨u,h1,h2⟩:=zN.get (i:=i) (x:=x) t (by simpa using e)
  exact ⟨u,by simpa using h1,h2⟩
theorem zN.set {x:V} {u:Value} (r:zS x u):∀ {xs:List V} {us:List Value} (i:Nat),zN xs us->zN (xs.set i x) (us.set i u)
 | _,_,_,.nil=>.nil
 | _,_,0,.cons _ t=>.cons r t
 | _,_,i + 1,.cons q t=>.cons q (zN.set r i t)
theorem zN.append:∀ {xs ys:List V} {us ws:List Value},zN xs us->zN ys ws->zN (xs++ys) (us++ws)
 | _,_,_,_,.nil,s=>s
 | _,_,_,_,.cons r t,s=>.cons r (zN.append t s)
theorem zN.take:∀ {xs:List V} {us:List Value} (n:Nat),zN xs us->zN (xs.take n) (us.take n)
 | _,_,0,_=>.nil
 | _,_,_ + 1,.nil=>.nil
 | _,_,n + 1,.cons r t=>.cons r (zN.take n t)
theorem zN.drop:∀ {xs:List V} {us:List Value} (n:Nat),zN xs us->zN (xs.drop n) (us.drop n)
 | _,_,0,r=>r
 | _,_,_ + 1,.nil=>.nil
 | _,_,n + 1,.cons _ t=>zN.drop n t
theorem zN.none_of:∀ {xs:List V} {us:List Value} {i:Nat},zN xs us->xs[i]? = none->us[i]? = none:=λ{xs us i} r e=>by
 have h1:=r.length
 have h2:xs.length<=i:=List.getElem?_eq_none_iff.mp e
 exact List.getElem?_eq_none_iff.mpr (by omega)
noncomputable def yl:Option V->Option Value->Prop
 | some v,some u=>zS v u
 | none,none=>True
 | _,_=>False
noncomputable def KV {κ:Type}:List (κ × V)->List (κ × Value)->Prop:=Paired λ(p:κ × V) (q:κ × Value)=>p.1=q.1/\zS p.2 q.2
noncomputable def kV:yR->V
 | .inl i=>.int i
 | .inr x=>.str x
inductive HO where
 | lst (xs:List V)
 | tup (xs:List V)
 | dK (kvs:List (yR × V)) | dT (kvs:List (List yR × V))
 | set (S:Int->Bool) (n:Nat)
 | ins (C dx:Addr) (fs:List (Str × V))
 | own (x:Addr)
 | xd (fs:List (Str × V))
 | met (f x:Addr)
 | rng (lo hi:Int)
 | frz (o:Obj) (u:HO)
 | tbl (ps:Array Value)
 | ext (φ:Heap->Prop)
noncomputable abbrev Hp:=Addr->Option HO
noncomputable def upd (H:Hp) (a:Addr) (o:HO):Hp:=λb=>if b=a then some o else H b
theorem zG {H:Hp} {a:Addr} {o:HO}:upd H a o a=some o:=by unfold upd; rw [if_pos rfl]
theorem yD {H:Hp} {a b:Addr} {o:HO} (h:b≠a):upd H a o b=H b:=by unfold upd; rw [if_neg h]
theorem X7 {H:Hp} {a:Addr} {o u:HO}:upd (upd H a o) a u=upd H a u:=by
 funext b; unfold upd; split <;> rfl
theorem X8 {H:Hp} {a b:Addr} {o u:HO} (h:H a=some o) (h':H b=some u) (d:o≠u):a≠b:=by
 intro e; subst e; rw [h] at h'; exact d (Option.some.inj h')
theorem vR {H:Hp} {a b:Addr} {o:HO} (h:H a=some o) (h':H b=none):a≠b:=by
 intro e; subst e; rw [h] at h'; cases h'
section
variable (P:Program) (w:World)
noncomputable def xx (H:Hp) (h:Heap) (a:Addr):HO->Prop
 | .lst xs=>xs.length<=sizeLine/\∃ (its:List Value) (n:Nat),zN xs its/\h.get? a=some { cls:=.type "list",data:=.seq its.toArray n }
 | .tup xs=>xs.length<=sizeLine/\∃ its:List Value,zN xs its/\IsTup h a its.toArray
 | .dK kvs=>kvs.length<=sizeLine/\(a == sysModules)=false/\∃ vs,KV kvs vs/\h.DictOf (X6 P w) a vs
 | .dT kvs=>kvs.length<=sizeLine/\(a == sysModules)=false/\∃ xs:List (List yR × Addr × Value),
   Paired (λ(p:List yR × V) (q:List yR × Addr × Value)=>p.1=q.1/\H q.2.1=some (.tup (p.1.map kV))/\zS p.2 q.2.2) kvs xs∧
   ∃ o es ep,h.get? a=some o/\o.ExactDict/\o.data=.dict es ep/\es.toList=xs.map (entryOfKey (tupleKind (X6 P w)))/\(xs.map (·.1)).Nodup
 | .set S n=>h.SetOf (intKind P w) a S n
 | .ins C dx fs=>H dx=some (.own a)/\fs.length<=1000/\dx≠a/\h.get? a=some (PySem.W.instObj C dx)∧
   ∃ mA,h.Ns1 dx mA/\(∀ f,yl (fs.lookup f) (mA f))/\PySem.Within mA (fs.map (·.1))
 | .own _=>∃ o,h.get? a=some o
 | .xd fs=>∃ mA,h.Ns1 a mA/\∀ f,yl (fs.lookup f) (mA f)
 | .rng lo hi=>∃ t u v,h.get? a=some { cls:=.type "range",data:=.fields #[.int lo t,.int hi u,.int 1 v] }
 | .frz o u=>h.get? a=some o/\xx H h a u
 | .tbl ps=>h.get? a=some { cls:=.none,data:=.fields ps }
 | .met f x=>h.get? a=some (PySem.W.methodObj (.ref f) (.ref x))
 | .ext φ=>φ h/\(∃ o,h.get? a=some o)/\∀ h1 h2:Heap,φ h1->(∀ o,h1.get? a=some o->h2.get? a=some o)->φ h2
noncomputable def xN (H:Hp) (h:Heap):Prop:=∀ a o,H a=some o->xx P w H h a o
end
section
variable {P:Program} {w:World} {H H':Hp} {h h':Heap} {a:Addr} {o:HO}
theorem xx.lt (x:xx P w H h a o):a < h.objs.size:=by
 cases o with
 | lst xs=>obtain ⟨_,_,_,_,e⟩:=x; exact Heap.lt_size e
 | tup xs=>obtain ⟨_,_,_,p⟩:=x; exact p.lt
 | dK kvs=>obtain ⟨_,_,_,_,o,_,_,e,_⟩:=x; exact Heap.lt_size e
 | dT kvs=>obtain ⟨_,_,_,_,o,_,_,e,_⟩:=x; exact Heap.lt_size e
 | set S n=>obtain ⟨o,_,_,_,e,_⟩:=x; exact Heap.lt_size e
 | ins C dx fs=>obtain ⟨_,_,_,e,_⟩:=x; exact Heap.lt_size e
 | own y=>obtain ⟨_,e⟩:=x; exact Heap.lt_size e
 | xd fs=>obtain ⟨_,⟨_,_,_,e,_⟩,_⟩:=x; exact Heap.lt_size e
 | rng lo hi=>obtain ⟨_,_,_,e⟩:=x; exact Heap.lt_size e
 | frz ob u=>obtain ⟨e,_⟩:=x; exact Heap.lt_size e
 | tbl ps=>exact Heap.lt_size (show h.get? a=some _ from x)
 | met f y=>exact Heap.lt_size (show h.get? a=some _ from x)
 | ext φ=>obtain ⟨_,⟨_,e⟩,_⟩:=x; exact Heap.lt_size e
theorem Paired.mapP {α β:Type} {F G:α->β->Prop}:∀ {l₁:List α} {l₂:List β},Paired F l₁ l₂->(∀ a b,F a b->G a b)->Paired G l₁ l₂
 | _,_,.nil,_=>.nil
 | _,_,.cons r t,f=>.cons (f _ _ r) (Paired.mapP t f)
theorem xx.stay (x:xx P w H h a o) (k:∀ b u,(b=a\/H b=some (.own a))->h.get? b=some u->h'.get? b=some u)
  (ho:∀ b,H b=some (.own a)->H' b=some (.own a)) (ht:∀ b xs,H b=some (.tup xs)->H' b=some (.tup xs)):xx P w H' h' a o:=by
 induction o with
 | lst xs=>obtain ⟨z,its,n,r,e⟩:=x; exact ⟨z,its,n,r,k _ _ (.inl rfl) e⟩
 | tup xs=>obtain ⟨z,its,r,ob,e,c⟩:=x; exact ⟨z,its,r,ob,k _ _ (.inl rfl) e,c⟩
 | dK kvs=>obtain ⟨z,y,vs,r,ob,es,ep,e,c⟩:=x; exact ⟨z,y,vs,r,ob,es,ep,k _ _ (.inl rfl) e,c⟩
 | dT kvs=>
  obtain ⟨z,y,xs,r,ob,es,ep,e,c⟩:=x
  exact ⟨z,y,xs,Paired.mapP r λp q z=>⟨z.1,ht _ _ z.2.1,z.2.2⟩,ob,es,ep,k _ _ (.inl rfl) e,c⟩
 | set S n=>obtain ⟨ob,es,ep,t,e,c⟩:=x; exact ⟨ob,es,ep,t,k _ _ (.inl rfl) e,c⟩
 | ins C dx fs=>
  obtain ⟨d,z,ne,e,mA,⟨od,es,ep,e2,c⟩,r⟩:=x
  exact ⟨ho _ d,z,ne,k _ _ (.inl rfl) e,mA,⟨od,es,ep,k _ _ (.inr d) e2,c⟩,r⟩
 | own y=>obtain ⟨ob,e⟩:=x; exact ⟨ob,k _ _ (.inl rfl) e⟩
 | xd fs=>obtain ⟨mA,⟨od,es,ep,e,c⟩,r⟩:=x; exact ⟨mA,⟨od,es,ep,k _ _ (.inl rfl) e,c⟩,r⟩
 | rng lo hi=>obtain ⟨t,u,v,e⟩:=x; exact ⟨t,u,v,k _ _ (.inl rfl) e⟩
 | frz ob u ih=>obtain ⟨e,q⟩:=x; exact ⟨k _ _ (.inl rfl) e,ih q⟩
 | tbl ps=>
  have e:h.get? a=some { cls:=.none,data:=.fields ps }:=x
  show h'.get? a=some { cls:=.none,data:=.fields ps }
  exact k a _ (.inl rfl) e
 | met f y=>
  have e:h.get? a=some (PySem.W.methodObj (.ref f) (.ref y)):=x
  show h'.get? a=some (PySem.W.methodObj (.ref f) (.ref y))
  exact k a _ (.inl rfl) e
 | ext φ=>obtain ⟨p,⟨o,e⟩,st⟩:=x; exact ⟨st _ _ p λo q=>k _ _ (.inl rfl) q,⟨o,k _ _ (.inl rfl) e⟩,st⟩
theorem xN.lt (x:xN P w H h) (e:H a=some o):a < h.objs.size:=(x a o e).lt
theorem xN.fresh (x:xN P w H h) (e:h.objs.size<=a):H a=none:=by
 cases q:H a with
 | none=>rfl
 | some u=>exact absurd (Nat.lt_of_lt_of_le (x.lt q) e) (Nat.lt_irrefl _)
theorem xN.kept (x:xN P w H h) (k:∀ b u,h.get? b=some u->h'.get? b=some u):xN P w H h':=λa o e=>
 (x a o e).stay (λb u _ q=>k b u q) (λ_ q=>q) λ_ _ q=>q
theorem xN.laid (x:xN P w H h) (k:∀ b u,h.get? b=some u->h'.get? b=some u) (hp:h.objs.size<=a) (new:xx P w (upd H a o) h' a o):xN P w (upd H a o) h':=λb u e=>by
 have hn:=x.fresh hp
 by_cases hb:b=a
 ·subst hb; rw [zG] at e; cases e; exact new
 ·rw [yD hb] at e
  exact (x b u e).stay (λc v _ q=>k c v q) (λc q=>by rw [yD (vR q hn)]; exact q) λc xs q=>by rw [yD (vR q hn)]; exact q
end
noncomputable def Rd (H:Hp) (a:Addr) (u:HO):Prop:=H a=some u\/∃ o,H a=some (.frz o u)
theorem Rd.of {H:Hp} {a:Addr} {u:HO} (h:H a=some u):Rd H a u:=.inl h
theorem Rd.ok {P:Program} {w:World} {H:Hp} {h:Heap} {a:Addr} {u:HO} (r:Rd H a u) (x:xN P w H h):xx P w H h a u:=by
 rcases r with r | ⟨o,r⟩
 ·exact x a u r
 ·obtain ⟨_,q⟩:=x a _ r
  exact q
noncomputable def ZX:Option HO->Prop
 | some (.lst _)=>True
 | some (.dK _)=>True
 | some (.dT _)=>True
 | some (.set _ _)=>True
 | some (.ins _ _ _)=>True
 | some (.ext _)=>True
 | _=>False
section
variable {P:Program} {w:World} {H:Hp} {h h':Heap} {x e:Addr} {o':HO}
theorem xN.write (ok:xN P w H h) (mu:ZX (H x)) (he:e=x\/H e=some (.own x)) (k:∀ b u,b≠e->h.get? b=some u->h'.get? b=some u) (heo:∃ u,h'.get? e=some u)
  (new:xx P w (upd H x o') h' x o'):xN P w (upd H x o') h':=λb u q=>by
 have nown:∀ c y,H c=some (.own y)->c≠x:=λc y r z=>by subst z; rw [r] at mu; exact mu
 have ntup:∀ c xs,H c=some (.tup xs)->c≠x:=λc xs r z=>by subst z; rw [r] at mu; exact mu
 by_cases hb:b=x
 ·subst hb; rw [zG] at q; cases q; exact new
 ·rw [yD hb] at q
  by_cases hbe:b=e
  ·have q':H b=some (.own x):=by
    rcases he with z | z
    ·exact absurd (hbe.trans z) hb
    ·rw [hbe]; exact z
   rw [q] at q'; cases q'
   obtain ⟨v,hv⟩:=heo
   exact ⟨v,by rw [hbe]; exact hv⟩
  ·refine (ok b u q).stay (λc v hc r=>k c v ?_ r) (λc r=>by rw [yD (nown c b r)]; exact r) λc xs r=>by rw [yD (ntup c xs r)]; exact r
   rcases hc with rfl | hc
   ·exact hbe
   ·rintro rfl
    rcases he with z | z
    ·exact nown c b hc z
    ·rw [hc] at z; cases z; exact hb rfl
end
structure Un (fs ex:List Addr) (H H':Hp) (h h':Heap):Prop where
 keep:∀ b o,h.get? b=some o->H b=none->b∉fs->b∉ex->h'.get? b=some o
 slot:∀ b o,h.get? b=some o->H b=none->b∈fs->b∉ex->∃ sl,h'.get? b=some { o with slots:=sl }
 free:∀ b o,h.get? b=some o->H b=none->b∉ex->H' b=none
 there:∀ b o,h.get? b=some o->b∉ex->∃ o',h'.get? b=some o'
 tups:∀ b xs,H b=some (.tup xs)->H' b=some (.tup xs)
 frzs:∀ b o u,H b=some (.frz o u)->H' b=some (.frz o u)
 tbls:∀ b ps,H b=some (.tbl ps)->∃ more,H' b=some (.tbl (ps++more))
section
variable {fs fs' ex ex':List Addr} {H H1 H2:Hp} {h h1 h2 h':Heap} {a x e:Addr} {o:HO}
theorem Un.any (u:Un fs ex H H1 h h1) {b:Addr} {ob:Obj} (q:h.get? b=some ob) (n:H b=none) (hx:b∉ex):∃ sl,h1.get? b=some { ob with slots:=sl }:=by
 by_cases hb:b∈fs
 ·exact u.slot b ob q n hb hx
 ·exact ⟨ob.slots,u.keep b ob q n hb hx⟩
theorem Un.trans (a:Un fs ex H H1 h h1) (b:Un fs ex H1 H2 h1 h2):Un fs ex H H2 h h2 where
 keep:=λc ob q n hc hx=>b.keep c ob (a.keep c ob q n hc hx) (a.free c ob q n hx) hc hx
 slot:=λc ob q n hc hx=>by
  obtain ⟨sl,e1⟩:=a.slot c ob q n hc hx
  obtain ⟨sl',e2⟩:=b.slot c _ e1 (a.free c ob q n hx) hc hx
  exact ⟨sl',e2⟩
 free:=λc ob q n hx=>by
  obtain ⟨o',e1⟩:=a.there c ob q hx
  exact b.free c o' e1 (a.free c ob q n hx) hx
 there:=λc ob q hx=>by
  obtain ⟨o',e1⟩:=a.there c ob q hx
  exact b.there c o' e1 hx
 tups:=λc xs q=>b.tups c xs (a.tups c xs q)
 frzs:=λc ob xs q=>b.frzs c ob xs (a.frzs c ob xs q)
 tbls:=λc ps q=>by
  obtain ⟨m1,e1⟩:=a.tbls c ps q
  obtain ⟨m2,e2⟩:=b.tbls c _ e1
  exact ⟨m1++m2,by rw [e2,Array.append_assoc]⟩
theorem Un.kept (k:∀ b u,h.get? b=some u->h'.get? b=some u):Un fs ex H H h h':=
 ⟨λb ob q _ _ _=>k b ob q,λb ob q _ _ _=>⟨ob.slots,k b ob q⟩,λ_ _ _ n _=>n,λb ob q _=>⟨ob,k b ob q⟩,λ_ _ q=>q,λ_ _ _ q=>q,λ_ ps q=>⟨#[],by rw [q]; simp⟩⟩
theorem Un.refl:Un fs ex H H h h:=Un.kept λ_ _ q=>q
theorem Un.laid (k:∀ b u,h.get? b=some u->h'.get? b=some u) (hp:h.objs.size<=a) (hn:H a=none):Un fs ex H (upd H a o) h h' where
 keep:=λb u q _ _ _=>k b u q
 slot:=λb u q _ _ _=>⟨u.slots,k b u q⟩
 free:=λb u q n _=>by rw [yD (Nat.ne_of_lt (Nat.lt_of_lt_of_le (Heap.lt_size q) hp))]; exact n
 there:=λb u q _=>⟨u,k b u q⟩
 tups:=λb xs q=>by rw [yD (vR q hn)]; exact q
 frzs:=λb u xs q=>by rw [yD (vR q hn)]; exact q
 tbls:=λb ps q=>⟨#[],by rw [yD (vR q hn),q]; simp⟩
theorem Un.write (mu:ZX (H x)) (he:e=x\/H e=some (.own x)) (k:∀ b u,b≠e->h.get? b=some u->h'.get? b=some u) (heo:∃ u,h'.get? e=some u):Un fs ex H (upd H x o) h h':=by
 have hx:∀ b,H b=none->b≠x:=λb n z=>by subst z; rw [n] at mu; exact mu
 have hb:∀ b,H b=none->b≠e:=λb n z=>by
  subst z
  rcases he with r | r
  ·exact hx b n r
  ·rw [n] at r; cases r
 have hm:∀ b u,H b=some u->¬ ZX (some u)->b≠x:=λb u q nm z=>by subst z; rw [q] at mu; exact nm mu
 refine ⟨λb u q n _ _=>k b u (hb b n) q,λb u q n _ _=>⟨u.slots,k b u (hb b n) q⟩,λb u q n _=>by rw [yD (hx b n)]; exact n,λb u q _=>?_,
  λb xs q=>by rw [yD (hm b _ q λz=>z)]; exact q,λb u xs q=>by rw [yD (hm b _ q λz=>z)]; exact q,λb ps q=>⟨#[],by rw [yD (hm b _ q λz=>z),q]; simp⟩⟩
 by_cases hbe:b=e
 ·subst hbe; exact heo
 ·exact ⟨u,k b u hbe q⟩
theorem Un.mono (u:Un fs ex H H1 h h1) (hs:∀ b∈fs,b∈fs') (hx:∀ b∈ex,b∈ex'):Un fs' ex' H H1 h h1:=
 ⟨λb ob q n hb he=>u.keep b ob q n (λz=>hb (hs b z)) λz=>he (hx b z),λ_ _ q n _ he=>u.any q n λz=>he (hx _ z),λb ob q n he=>u.free b ob q n λz=>he (hx b z),λb ob q he=>u.there b ob q λz=>he (hx b z),u.tups,u.frzs,u.tbls⟩
end
noncomputable def uY (h:Heap) (H:Hp):List Addr:=(List.range h.objs.size).filter λa=>(H a).isSome
noncomputable def wA (h:Heap) (H:Hp):Heap:=PySem.W.hideAll h (uY h H)
theorem JQ (h:Heap) (H:Hp):(wA h H).objs.size=h.objs.size:=PySem.W.hideAll_size _ _
theorem JR {h:Heap} {H:Hp} {b:Addr} {o:Obj} (e:h.get? b=some o) (n:H b=none):(wA h H).get? b=some o:=
 PySem.W.hideAll_get _ e λhm=>by
  have q:(H b).isSome=true:=(List.mem_filter.mp hm).2
  rw [n] at q; simp at q
theorem JS {h:Heap} {H:Hp} {b:Addr} {o:Obj} (e:(wA h H).get? b=some o):h.get? b=some o/\H b=none:=by
 have e':h.get? b=some o:=PySem.W.of_hideAll (uY h H) e
 refine ⟨e',?_⟩
 cases q:H b with
 | none=>rfl
 | some x=>
  have hm:b∈uY h H:=List.mem_filter.mpr ⟨List.mem_range.mpr (Heap.lt_size e'),by simp [q]⟩
  have z:(wA h H).get? b=none:=PySem.W.hideAll_none (uY h H) hm
  rw [z] at e; cases e
noncomputable def JT (g h:Heap) (L:Addr):List (Addr × Obj):=(List.range h.objs.size).filterMap λa=>if a=L\/(g.get? a).isSome=true then none else (h.get? a).map λo=>(a,o)
noncomputable def xP (g h:Heap) (L d:Addr):List (Addr × Obj):=(JT g h L).filter λp=>decide (p.1≠d)
end L2
namespace L2
open PySem PySem.Spec PyProof.Rows
structure Mod (K:PySem.W.Frag) (mg:Str->Option Value) (base:Heap):Prop where
 kin:K.In base
 glob:base.Ns mainGlobals mg
 blt:∃ mb,base.Ns builtinsNs mb/\∀ x:Str,x≠"__name__"->mb x=bootBuiltins x
 nolimit:base.NoLimit
structure Cx where
 prog:Program
 w:World
 K:PySem.W.Frag
 mg:Str->Option Value
 base:Heap
 A:Around
 N:List Str
 s₀:Shared
 H₀:Hp
 env:Env
 outer:List Env
 stack:List Env
 ex:List Addr
 fn:Str->Bool
 calm:Bool
 pn:List (Addr × Obj)
 xe:Value->Shared->Prop
noncomputable def vc (l:List Env):List Addr:=l.filterMap (·.frame)
noncomputable abbrev Cx.fs (X:Cx):List Addr:=vc X.outer
noncomputable def g7 (sc:Scope) (x:Str):Prop:=sc.names.lookup x=some .local\/sc.names.lookup x=some .cell\/sc.names.lookup x=some .free
noncomputable def ZY (sc:Scope) (x:Str):Prop:=sc.names.lookup x=some .local\/sc.names.lookup x=some .cell
noncomputable def YL (env:Env) (h:Heap) (m:Str->Option Value) (x:Str) (u:Value):Prop:=
 (env.kindOf x=some .local/\m x=some u)\/((env.kindOf x=some .cell\/env.kindOf x=some .free)/\∃ c,env.cells.lookup x=some c/\h.IsCell c (some u))
structure Cx.Ok (X:Cx):Prop where
 mod:Mod X.K X.mg X.base
 kind:X.env.scope.kind=.function
 glob:X.env.globals=mainGlobals
 blt:X.env.builtins=builtinsNs
 above:X.s₀.heap.objs.size<=X.env.locals
 inj:∀ x y c,X.env.cells.lookup x=some c->X.env.cells.lookup y=some c->x=y
 has:∀ x,(X.env.kindOf x=some .cell\/X.env.kindOf x=some .free)->∃ c,X.env.cells.lookup x=some c
 cab:∀ x c,X.fn x=true->X.env.cells.lookup x=some c->X.s₀.heap.objs.size<=c
 hd:X.calm=true->X.A.handled=none
 frames:X.A.frames=some X.stack
 stk:X.stack=X.outer\/(X.stack=X.env :: X.outer/\X.env.frame=some X.env.locals)
 exf:∀ b∈X.ex,b≠X.env.locals/\∀ x c,X.env.cells.lookup x=some c->c≠b
 bs:∀ b o,X.base.get? b=some o->X.s₀.heap.get? b=some o/\X.H₀ b=none
 bsz:X.base.objs.size<=X.s₀.heap.objs.size
 noex:∀ b o,X.base.get? b=some o->b∉X.ex
 exfs:∀ b∈X.ex,b∉X.fs
 funs:X.s₀.heap.FunFrames X.base X.outer
 frf:∀ b∈X.fs,X.H₀ b=none
structure zI (X:Cx) (pins:List (Addr × Obj)) (σ:List (Option V)) (H:Hp) (s:Shared):Prop where
 ok:X.Ok
 os:s.os=X.s₀.os
 bare:AllBare s.gens
 base:Un X.fs X.ex X.H₀ H X.s₀.heap s.heap
 loc:∃ m,s.heap.Ns X.env.locals m/\∀ (i:Nat) (x:Str) (v:V),X.N[i]? = some x->σ[i]? = some (some v)->g7 X.env.scope x->∃ u,zS v u/\YL X.env s.heap m x u
 cell:∀ x c,X.env.cells.lookup x=some c->∃ v,s.heap.IsCell c v
 free:H X.env.locals=none
 freeC:∀ x c,X.env.cells.lookup x=some c->H c=none
 pin:∀ p∈X.pn++pins,s.heap.get? p.1=some p.2/\H p.1=none/\p.1≠X.env.locals/\p.1∉X.fs/\∀ v,p.2.data≠.cell v
 hok:xN X.prog X.w H s.heap
 len:σ.length=X.N.length
section
variable {X:Cx} {pins:List (Addr × Obj)} {σ:List (Option V)} {H H':Hp} {s:Shared} {h':Heap}
theorem Cx.Ok.nofr (ok:X.Ok) {b:Addr} {o:Obj} (e:X.base.get? b=some o):b∉X.fs:=λhb=>by
 have:=(ok.funs.mem hb).1
 rw [e] at this; cases this
theorem zI.bs (I:zI X pins σ H s):∀ b o,X.base.get? b=some o->s.heap.get? b=some o/\H b=none:=λb o e=>
 ⟨I.base.keep b o (I.ok.bs b o e).1 (I.ok.bs b o e).2 (I.ok.nofr e) (I.ok.noex b o e),I.base.free b o (I.ok.bs b o e).1 (I.ok.bs b o e).2 (I.ok.noex b o e)⟩
theorem zI.bk (I:zI X pins σ H s):∀ b o,X.base.get? b=some o->s.heap.get? b=some o:=λb o e=>(I.bs b o e).1
theorem zI.mod (I:zI X pins σ H s):Mod X.K X.mg X.base:=I.ok.mod
theorem zI.kIn (I:zI X pins σ H s):X.K.In s.heap:=I.ok.mod.kin.keeps I.bk
theorem zI.nolimit (I:zI X pins σ H s):s.heap.NoLimit:=I.ok.mod.nolimit.keeps I.bk
theorem zI.fr (I:zI X pins σ H s):∃ m,Fr X.base X.env.locals s.heap m:=
 let ⟨m,hn,_⟩:=I.loc
 ⟨m,hn,I.bk,Nat.le_trans I.ok.bsz I.ok.above⟩
theorem zI.lt (I:zI X pins σ H s):X.env.locals < s.heap.objs.size:=let ⟨_,hn,_⟩:=I.loc; hn.lt
theorem zI.sz (I:zI X pins σ H s):X.s₀.heap.objs.size<=s.heap.objs.size:=Nat.le_trans I.ok.above (Nat.le_of_lt I.lt)
theorem zI.nofs (I:zI X pins σ H s) {a:Addr} (h:s.heap.objs.size<=a):a∉X.fs:=λhb=>by
 obtain ⟨_,o,ho,_⟩:=I.ok.funs.mem hb
 exact absurd (Nat.lt_of_lt_of_le (Heap.lt_size ho) (Nat.le_trans I.sz h)) (Nat.lt_irrefl _)
theorem zI.cne (I:zI X pins σ H s):∀ x c,X.env.cells.lookup x=some c->c≠X.env.locals:=λx c e z=>by
 obtain ⟨v,o,ho,hd⟩:=I.cell x c e
 obtain ⟨m,⟨o',es,ep,ho',hd',_⟩,_⟩:=I.loc
 rw [z,ho'] at ho; cases ho; rw [hd'] at hd; cases hd
theorem zI.funs (I:zI X pins σ H s):s.heap.FunFrames X.base X.outer:=by
 have all:∀ (l:List Env),(∀ b∈vc l,b∈X.fs)->X.s₀.heap.FunFrames X.base l->s.heap.FunFrames X.base l:=by
  intro l
  induction l with
  | nil=>intro _ _; trivial
  | cons env r ih=>
   intro hs hl
   obtain ⟨hk,⟨L,o,hf,hn,ho,hd⟩,hr⟩:=hl
   have hL:L∈X.fs:=hs L (by unfold vc; rw [List.filterMap_cons,hf]; exact List.mem_cons_self)
   obtain ⟨sl,e⟩:=I.base.slot L o ho (I.ok.frf L hL) hL λz=>I.ok.exfs L z hL
   exact ⟨hk,⟨L,_,hf,hn,e,hd⟩,ih (λb hb=>hs b (by unfold vc; rw [List.filterMap_cons,hf]; exact List.mem_cons_of_mem _ hb)) hr⟩
 exact all X.outer (λ_ hb=>hb) I.ok.funs
theorem zI.stack (I:zI X pins σ H s):s.heap.FunFrames X.base X.stack:=by
 rcases I.ok.stk with e | ⟨e,hf⟩
 ·rw [e]; exact I.funs
 ·rw [e]
  obtain ⟨m,hn,_⟩:=I.loc
  refine .cons (by rw [I.ok.kind]; decide) hf hn ?_ I.funs
  exact Heap.get?_none_of_le (Nat.le_trans I.ok.bsz I.ok.above)
theorem zI.stkSub (I:zI X pins σ H s):∀ b∈vc X.stack,b∈X.env.locals :: X.fs:=λb hb=>by
 rcases I.ok.stk with e | ⟨e,hf⟩
 ·rw [e] at hb; exact List.mem_cons_of_mem _ hb
 ·rw [e] at hb
  unfold vc at hb
  rw [List.filterMap_cons,hf] at hb
  exact hb
theorem zI.stkFree (I:zI X pins σ H s):∀ b∈vc X.stack,H b=none:=λb hb=>by
 rcases List.mem_cons.mp (I.stkSub b hb) with e | hb
 ·rw [e]; exact I.free
 ·obtain ⟨_,o,ho,_⟩:=I.ok.funs.mem hb
  exact I.base.free b o ho (I.ok.frf b hb) λz=>I.ok.exfs b z hb
theorem zI.step {g':Array GenState} {t':Nat} {d':Drawn} {ch:List Addr} (I:zI X pins σ H s)
  (hch:∀ b∈ch,(b∈X.ex\/X.s₀.heap.objs.size<=b)/\b≠X.env.locals/\(∀ x c,X.env.cells.lookup x=some c->c≠b)/\∀ p∈X.pn++pins,p.1≠b)
  (keep:∀ b o,b≠X.env.locals->b∉X.fs->b∉ch->s.heap.get? b=some o->H b=none->h'.get? b=some o)
  (slot:∀ b o,b≠X.env.locals->b∈X.fs->b∉ch->s.heap.get? b=some o->H b=none->∃ sl,h'.get? b=some { o with slots:=sl }) (free:∀ b o,b∉ch->s.heap.get? b=some o->H b=none->H' b=none)
  (there:∀ b o,b∉ch->s.heap.get? b=some o->∃ o',h'.get? b=some o')
  (tups:∀ b xs,H b=some (.tup xs)->H' b=some (.tup xs)) (frzs:∀ b o u,H b=some (.frz o u)->H' b=some (.frz o u)) (tbls:∀ b ps,H b=some (.tbl ps)->∃ more,H' b=some (.tbl (ps++more)))
  (ns:∀ m,s.heap.Ns X.env.locals m->h'.Ns X.env.locals m) (hok:xN X.prog X.w H' h') (hg:AllBare g') :
  zI X pins σ H' { s with heap:=h',gens:=g',drawn:=d',toks:=t' }:=by
 have neL:∀ b o,X.s₀.heap.get? b=some o->b≠X.env.locals:=λb o e=>Nat.ne_of_lt (Nat.lt_of_lt_of_le (Heap.lt_size e) I.ok.above)
 have neC:∀ b o,X.s₀.heap.get? b=some o->b∉X.ex->b∉ch:=λb o e hx hb=>by
  rcases (hch b hb).1 with z | z
  ·exact hx z
  ·exact absurd (Nat.lt_of_lt_of_le (Heap.lt_size e) z) (Nat.lt_irrefl _)
 have cellK:∀ x c,X.env.cells.lookup x=some c->∀ v,s.heap.IsCell c v->h'.IsCell c v:=λx c e v ⟨o,ho,hd⟩=>by
  have nch:c∉ch:=λz=>(hch c z).2.2.1 x c e rfl
  by_cases hc:c∈X.fs
  ·obtain ⟨sl,q⟩:=slot c o (I.cne x c e) hc nch ho (I.freeC x c e)
   exact ⟨_,q,hd⟩
  ·exact ⟨o,keep c o (I.cne x c e) hc nch ho (I.freeC x c e),hd⟩
 refine ⟨I.ok,I.os,hg,⟨λb o e n hb hx=>?_,λb o e n hb hx=>?_,λb o e n hx=>?_,λb o e hx=>?_,λb xs e=>tups b xs (I.base.tups b xs e),λb o xs e=>frzs b o xs (I.base.frzs b o xs e),λb ps e=>?_⟩,?_,λx c e=>?_,?_,λx c e=>?_,λp hp=>?_,hok,I.len⟩
 ·exact keep b o (neL b o e) hb (neC b o e hx) (I.base.keep b o e n hb hx) (I.base.free b o e n hx)
 ·obtain ⟨sl,e1⟩:=I.base.slot b o e n hb hx
  obtain ⟨sl',e2⟩:=slot b _ (neL b o e) hb (neC b o e hx) e1 (I.base.free b o e n hx)
  exact ⟨sl',e2⟩
 ·obtain ⟨o',e1⟩:=I.base.there b o e hx
  exact free b o' (neC b o e hx) e1 (I.base.free b o e n hx)
 ·obtain ⟨o',e1⟩:=I.base.there b o e hx
  exact there b o' (neC b o e hx) e1
 ·obtain ⟨m1,e1⟩:=I.base.tbls b ps e
  obtain ⟨m2,e2⟩:=tbls b _ e1
  exact ⟨m1++m2,by rw [e2,Array.append_assoc]⟩
 ·obtain ⟨m,hn,hl⟩:=I.loc
  refine ⟨m,ns m hn,λi x v e1 e2 e3=>?_⟩
  obtain ⟨u,r,l⟩:=hl i x v e1 e2 e3
  refine ⟨u,r,?_⟩
  rcases l with l | ⟨k,c,e,z⟩
  ·exact .inl l
  ·exact .inr ⟨k,c,e,cellK x c e _ z⟩
 ·obtain ⟨v,z⟩:=I.cell x c e
  exact ⟨v,cellK x c e v z⟩
 ·obtain ⟨m,⟨o,_,_,ho,_⟩,_⟩:=I.loc
  exact free _ o (λz=>(hch _ z).2.1 rfl) ho I.free
 ·obtain ⟨v,o,ho,hd⟩:=I.cell x c e
  exact free c o (λz=>(hch c z).2.2.1 x c e rfl) ho (I.freeC x c e)
 ·obtain ⟨e,n,ne,nf,d⟩:=I.pin p hp
  have nch:p.1∉ch:=λz=>(hch p.1 z).2.2.2 p hp rfl
  exact ⟨keep p.1 p.2 ne nf nch e n,free p.1 p.2 nch e n,ne,nf,d⟩
theorem zI.un {t':Nat} (I:zI X pins σ H s) (u:Un X.fs [] H H' s.heap h') (hok:xN X.prog X.w H' h'):zI X pins σ H' { s with heap:=h',toks:=t' }:=by
 obtain ⟨m,⟨o,es,ep,ho,r⟩,_⟩:=id I.loc
 obtain ⟨sl,hL⟩:=u.any ho I.free (by simp)
 exact I.step (g':=s.gens) (d':=s.drawn) (ch:=[]) (λ_ z=>nomatch z) (λb o _ hb _ e n=>u.keep b o e n hb (by simp)) (λb o _ hb _ e n=>u.slot b o e n hb (by simp)) (λb o _ e n=>u.free b o e n (by simp)) (λb o _ e=>u.there b o e (by simp)) u.tups u.frzs u.tbls (λm' hm=>by
  obtain ⟨o',es',ep',ho',r'⟩:=hm
  rw [ho] at ho'; cases ho'
  exact ⟨_,es',ep',hL,r'⟩) hok I.bare
theorem zI.call {g':Array GenState} {t':Nat} {d':Drawn} {ch:List Addr} (I:zI X pins σ H s) (u:Un (vc X.stack) ch H H' s.heap h') (hok:xN X.prog X.w H' h') (hg:AllBare g')
  (hch:∀ b∈ch,(b∈X.ex\/X.s₀.heap.objs.size<=b)/\b≠X.env.locals/\(∀ x c,X.env.cells.lookup x=some c->c≠b)/\∀ p∈X.pn++pins,p.1≠b) :
  zI X pins σ H' { s with heap:=h',gens:=g',drawn:=d',toks:=t' }:=by
 obtain ⟨m,⟨o,es,ep,ho,r⟩,_⟩:=id I.loc
 obtain ⟨sl,hL⟩:=u.any ho I.free λz=>(hch _ z).2.1 rfl
 exact I.step (ch:=ch) hch (λb o hL hb hc e n=>u.keep b o e n (λz=>(List.mem_cons.mp (I.stkSub b z)).elim hL hb) hc) (λb o _ _ hc e n=>u.any e n hc) (λb o hc e n=>u.free b o e n hc) (λb o hc e=>u.there b o e hc) u.tups u.frzs u.tbls (λm' hm=>by
  obtain ⟨o',es',ep',ho',r'⟩:=hm
  rw [ho] at ho'; cases ho'
  exact ⟨_,es',ep',hL,r'⟩) hok hg
theorem zI.turned {t':Nat} {it:Addr} (I:zI X pins σ H s) (k:∀ b o,b≠it->s.heap.get? b=some o->h'.get? b=some o) (hn:H it=none) (hL:it≠X.env.locals)
  (h1:it∈X.ex\/X.s₀.heap.objs.size<=it) (h2:∀ x c,X.env.cells.lookup x=some c->c≠it) (h3:∀ p∈X.pn++pins,p.1≠it):zI X pins σ H { s with heap:=h',toks:=t' }:=by
 have nit:∀ b u,H b=some u->b≠it:=λb u e z=>by rw [z,hn] at e; cases e
 refine I.step (g':=s.gens) (d':=s.drawn) (ch:=[it]) (λb hb=>?_) (λb o _ _ hc e _=>k b o (λz=>hc (by simp [z])) e) (λb o _ _ hc e _=>⟨o.slots,k b o (λz=>hc (by simp [z])) e⟩) (λ_ _ _ _ n=>n)
  (λb o hc e=>⟨o,k b o (λz=>hc (by simp [z])) e⟩) (λ_ _ e=>e) (λ_ _ _ e=>e) (λb ps e=>⟨#[],by rw [e]; simp⟩) (λm hm=>?_) (λb u e=>?_) I.bare
 ·have e:b=it:=by simpa using hb
  subst e
  exact ⟨h1,hL,h2,h3⟩
 ·obtain ⟨o,es,ep,ho,r⟩:=hm
  exact ⟨o,es,ep,k _ o (Ne.symm hL) ho,r⟩
 ·refine (I.hok b u e).stay (λc v hc q=>k c v ?_ q) (λ_ q=>q) λ_ _ q=>q
  rcases hc with z | z
  ·rw [z]; exact nit b u e
  ·exact nit c _ z
theorem zI.tok (I:zI X pins σ H s) (t:Nat):zI X pins σ H { s with toks:=t }:=I.un (h':=s.heap) (t':=t) Un.refl I.hok
theorem zI.kept {t':Nat} (I:zI X pins σ H s) (k:∀ b u,s.heap.get? b=some u->h'.get? b=some u):zI X pins σ H { s with heap:=h',toks:=t' }:=I.un (Un.kept k) (I.hok.kept k)
theorem zI.laid {a:Addr} {o:HO} {t':Nat} (I:zI X pins σ H s) (k:∀ b u,s.heap.get? b=some u->h'.get? b=some u) (hp:s.heap.objs.size<=a) (new:xx X.prog X.w (upd H a o) h' a o) :
  zI X pins σ (upd H a o) { s with heap:=h',toks:=t' }:=I.un (Un.laid k hp (I.hok.fresh hp)) (I.hok.laid k hp new)
theorem zI.write {x e:Addr} {o:HO} {t':Nat} (I:zI X pins σ H s) (mu:ZX (H x)) (he:e=x\/H e=some (.own x)) (k:∀ b u,b≠e->s.heap.get? b=some u->h'.get? b=some u) (heo:∃ u,h'.get? e=some u)
  (new:xx X.prog X.w (upd H x o) h' x o):zI X pins σ (upd H x o) { s with heap:=h',toks:=t' }:=I.un (Un.write mu he k heo) (I.hok.write mu he k heo new)
theorem zI.pins_of {pins':List (Addr × Obj)} (I:zI X pins σ H s) (h:∀ p∈pins',s.heap.get? p.1=some p.2/\H p.1=none/\p.1≠X.env.locals/\p.1∉X.fs/\∀ v,p.2.data≠.cell v):zI X pins' σ H s:=
 ⟨I.ok,I.os,I.bare,I.base,I.loc,I.cell,I.free,I.freeC,λp hp=>(List.mem_append.mp hp).elim (λz=>I.pin p (List.mem_append_left _ z)) (h p),I.hok,I.len⟩
theorem X9 {N:List Str} (hN:N.Nodup) {i j:Nat} {x:Str} (a:N[i]? = some x) (b:N[j]? = some x):i=j:=by
 obtain ⟨h1,e1⟩:=List.getElem?_eq_some_iff.mp a
 obtain ⟨h2,e2⟩:=List.getElem?_eq_some_iff.mp b
 exact (List.getElem_inj hN).mp (e1.trans e2.symm)
theorem WA {M:Model} {A:Around} {E:Value->Shared->Prop} {i:Nat} {x:Str} {v:V} {u:Value} {Q:Unit->Shared->Prop} (I:zI X pins σ H s) (hN:X.N.Nodup) (hi:X.N[i]? = some x) (hx:ZY X.env.scope x) (r:zS v u)
  (h:∀ s',zI X pins (σ.set i (some v)) H s'->(∃ a,Heap.SameBut a s.heap s'.heap/\(a=X.env.locals\/X.env.cells.lookup x=some a))->Q () s') (hf:X.fn x=true\/X.env.scope.names.lookup x=some .local:=by first | exact .inl rfl | exact .inr rfl | assumption):wpAny M A (storeName X.env x u) Q E s:=by
 obtain ⟨m,hn,hl⟩:=id I.loc
 have hcls:(X.env.scope.kind == .class || (X.env.scope.kind == .module && X.env.locals != X.env.globals))=false:=by rw [I.ok.kind]; rfl
 have hiσ:i < σ.length:=by rw [I.len]; exact (List.getElem?_eq_some_iff.mp hi).1
 have cne:=I.cne
 have tracked:∀ {a:Addr} {h':Heap},(∃ o,s.heap.get? a=some o/\H a=none)->Heap.SameBut a s.heap h'->xN X.prog X.w H h':=λ{a h'} ha hs b ob e=>by
  obtain ⟨_,_,hfree⟩:=ha
  refine (I.hok b ob e).stay (λc w' hc q=>(hs.2 c ?_).trans q) (λ_ q=>q) λ_ _ q=>q
  rintro rfl
  rcases hc with rfl | hc
  ·rw [hfree] at e; cases e
  ·rw [hfree] at hc; cases hc
 rcases hx with hk | hk
 ·refine wpAny_storeName_local hk hn (λh' hn' hs=>?_) hcls
  obtain ⟨oL,_,_,hoL,_⟩:=id hn
  refine h _ ⟨I.ok,I.os,I.bare,⟨λb o e n hb hx=>?_,λb o e n hb hx=>?_,I.base.free,λb o e hx=>?_,I.base.tups,I.base.frzs,I.base.tbls⟩,⟨_,hn',λj y v' e1 e2 e3=>?_⟩,λy c e=>?_,I.free,I.freeC,λp hp=>?_,tracked ⟨oL,hoL,I.free⟩ hs,by simpa using I.len⟩ ⟨_,hs,.inl rfl⟩
  ·exact (hs.2 b (Nat.ne_of_lt (Nat.lt_of_lt_of_le (Heap.lt_size e) I.ok.above))).trans (I.base.keep b o e n hb hx)
  ·obtain ⟨sl,e1⟩:=I.base.slot b o e n hb hx
   exact ⟨sl,(hs.2 b (Nat.ne_of_lt (Nat.lt_of_lt_of_le (Heap.lt_size e) I.ok.above))).trans e1⟩
  ·obtain ⟨o',e1⟩:=I.base.there b o e hx
   exact ⟨o',(hs.2 b (Nat.ne_of_lt (Nat.lt_of_lt_of_le (Heap.lt_size e) I.ok.above))).trans e1⟩
  ·by_cases hj:j=i
   ·subst hj
    rw [hi] at e1; cases e1
    rw [List.getElem?_set_self hiσ] at e2
    cases e2
    exact ⟨u,r,.inl ⟨hk,by simp⟩⟩
   ·rw [List.getElem?_set_ne (Ne.symm hj)] at e2
    obtain ⟨u',r',q⟩:=hl j y v' e1 e2 e3
    refine ⟨u',r',?_⟩
    rcases q with ⟨k,e⟩ | ⟨k,c,e,z⟩
    ·refine .inl ⟨k,?_⟩
     have:y≠x:=λe=>hj (X9 hN e1 (e ▸ hi))
     simp [this,e]
    ·exact .inr ⟨k,c,e,z.sameBut hs (cne y c e)⟩
  ·obtain ⟨w',z⟩:=I.cell y c e
   exact ⟨w',z.sameBut hs (cne y c e)⟩
  ·obtain ⟨e,n,ne,nf,d⟩:=I.pin p hp
   exact ⟨(hs.2 p.1 ne).trans e,n,ne,nf,d⟩
 ·have hfn:X.fn x=true:=by
   rcases hf with z | z
   ·exact z
   ·rw [z] at hk; cases hk
  obtain ⟨c,hc⟩:=I.ok.has x (.inl hk)
  obtain ⟨w',z⟩:=I.cell x c hc
  refine wpAny_storeName_cell I.ok.kind hk hc z (λh' hc' hs=>?_)
  obtain ⟨oc,hoc,hocd⟩:=id z
  refine h { s with heap:=h' } ⟨I.ok,I.os,I.bare,⟨λb o e n hb hx=>?_,λb o e n hb hx=>?_,I.base.free,λb o e hx=>?_,I.base.tups,I.base.frzs,I.base.tbls⟩,⟨m,hn.sameBut hs (Ne.symm (cne x c hc)),λj y v' e1 e2 e3=>?_⟩,λy c' e=>?_,I.free,I.freeC,λp hp=>?_,tracked ⟨oc,hoc,I.freeC x c hc⟩ hs,by simpa using I.len⟩ ⟨c,hs,.inr hc⟩
  ·exact (hs.2 b (Nat.ne_of_lt (Nat.lt_of_lt_of_le (Heap.lt_size e) (I.ok.cab x c hfn hc)))).trans (I.base.keep b o e n hb hx)
  ·obtain ⟨sl,e1⟩:=I.base.slot b o e n hb hx
   exact ⟨sl,(hs.2 b (Nat.ne_of_lt (Nat.lt_of_lt_of_le (Heap.lt_size e) (I.ok.cab x c hfn hc)))).trans e1⟩
  ·obtain ⟨o',e1⟩:=I.base.there b o e hx
   exact ⟨o',(hs.2 b (Nat.ne_of_lt (Nat.lt_of_lt_of_le (Heap.lt_size e) (I.ok.cab x c hfn hc)))).trans e1⟩
  ·by_cases hj:j=i
   ·subst hj
    rw [hi] at e1; cases e1
    rw [List.getElem?_set_self hiσ] at e2
    cases e2
    exact ⟨u,r,.inr ⟨.inl hk,c,hc,hc'⟩⟩
   ·rw [List.getElem?_set_ne (Ne.symm hj)] at e2
    obtain ⟨u',r',q⟩:=hl j y v' e1 e2 e3
    refine ⟨u',r',?_⟩
    rcases q with q | ⟨k,c',e,z'⟩
    ·exact .inl q
    ·refine .inr ⟨k,c',e,z'.sameBut hs ?_⟩
     rintro rfl
     exact hj (X9 hN e1 (I.ok.inj _ _ _ e hc ▸ hi))
  ·by_cases hcc:c'=c
   ·subst hcc; exact ⟨_,hc'⟩
   ·obtain ⟨w2,z2⟩:=I.cell y c' e
    exact ⟨w2,z2.sameBut hs hcc⟩
  ·obtain ⟨e,n,ne,nf,d⟩:=I.pin p hp
   refine ⟨(hs.2 p.1 ?_).trans e,n,ne,nf,d⟩
   intro q
   rw [q,hoc] at e
   have q':oc=p.2:=Option.some.inj e
   exact d w' (by rw [<- q']; exact hocd)
theorem WB {M:Model} {A:Around} {E:Value->Shared->Prop} {i:Nat} {x:Str} {v:V} {u:Value} {Q:Unit->Shared->Prop} (I:zI X pins σ H s) (hN:X.N.Nodup) (hi:X.N[i]? = some x) (hx:ZY X.env.scope x) (r:zS v u)
  (h:∀ s',zI X pins (σ.set i (some v)) H s'->Q () s') (hf:X.fn x=true\/X.env.scope.names.lookup x=some .local:=by first | exact .inl rfl | exact .inr rfl | assumption):wpAny M A (storeName X.env x u) Q E s:=
 WA I hN hi hx r (λs' I' _=>h s' I') hf
theorem zI.call' {s':Shared} {ch:List Addr} (I:zI X pins σ H s) (ho:s'.os=s.os) (u:Un (vc X.stack) ch H H' s.heap s'.heap) (hok:xN X.prog X.w H' s'.heap) (hg:AllBare s'.gens)
  (hch:∀ b∈ch,(b∈X.ex\/X.s₀.heap.objs.size<=b)/\b≠X.env.locals/\(∀ x c,X.env.cells.lookup x=some c->c≠b)/\∀ p∈X.pn++pins,p.1≠b):zI X pins σ H' s':=by
 obtain ⟨h',g',d',t',o'⟩:=s'
 have e:o'=s.os:=ho
 subst e
 exact I.call (g':=g') (t':=t') (d':=d') u hok hg hch
end
noncomputable abbrev XK:=Value->Option Addr->Hp->Prop
noncomputable abbrev St:=List (Option V)
noncomputable abbrev VK:=V->Hp->Prop
noncomputable abbrev TE:=St->Hp->VK->Prop
noncomputable abbrev TT:=St->Hp->(Bool->Hp->Prop)->Prop
noncomputable abbrev TA:=St->Hp->(List V->Hp->Prop)->Prop
structure wC where
 nx:St->Hp->Prop
 rt:VK
 bk:St->Hp->Prop:=λ_ _=>False
 ct:St->Hp->Prop:=λ_ _=>False
noncomputable abbrev TS:=wC->St->Hp->Prop
noncomputable def EP (X:Cx) (pins:List (Addr × Obj)) (σ:St) (Q:VK) (u:Value) (s':Shared):Prop:=∃ v H',zI X pins σ H' s'/\zS v u/\Q v H'
noncomputable def TP (X:Cx) (pins:List (Addr × Obj)) (σ:St) (Q:Bool->Hp->Prop) (b:Bool) (s':Shared):Prop:=∃ H',zI X pins σ H' s'/\Q b H'
noncomputable def AP (X:Cx) (pins:List (Addr × Obj)) (σ:St) (Q:List V->Hp->Prop) (us:List Value) (s':Shared):Prop:=∃ vs H',zI X pins σ H' s'/\zN vs us/\Q vs H'
noncomputable def SP (X:Cx) (pins:List (Addr × Obj)) (D:wC) (f:Flow) (s':Shared):Prop:=
 match f with
 | .next=>∃ σ' H',zI X pins σ' H' s'/\D.nx σ' H'
 | .brk=>∃ σ' H',zI X pins σ' H' s'/\D.bk σ' H'
 | .cont=>∃ σ' H',zI X pins σ' H' s'/\D.ct σ' H'
 | .ret u=>∃ v σ' H',zI X pins σ' H' s'/\zS v u/\D.rt v H'
noncomputable def PE (X:Cx) (e:Expr) (t:TE):Prop:=
 ∀ (pins:List (Addr × Obj)) (s:Shared) (σ:St) (H:Hp) (Q:VK),zI X pins σ H s->t σ H Q->wpAny (model X.prog X.w) X.A (eval e X.env) (EP X pins σ Q) X.xe s
noncomputable def PT (X:Cx) (e:Expr) (t:TT):Prop:=
 ∀ (pins:List (Addr × Obj)) (s:Shared) (σ:St) (H:Hp) (Q:Bool->Hp->Prop),zI X pins σ H s->t σ H Q->wpAny (model X.prog X.w) X.A (isTrue e X.env (eval e X.env)) (TP X pins σ Q) X.xe s
noncomputable def PW (X:Cx) (e:Expr) (t:TT):Prop:=
 ∀ (whole:Sem Value) (pins:List (Addr × Obj)) (s:Shared) (σ:St) (H:Hp) (Q:Bool->Hp->Prop),zI X pins σ H s->t σ H Q->wpAny (model X.prog X.w) X.A (isTrue e X.env whole) (TP X pins σ Q) X.xe s
theorem PW.pt {X:Cx} {e:Expr} {t:TT} (h:PW X e t):PT X e t:=h _
noncomputable def PA (X:Cx) (es:List Expr) (t:TA):Prop:=
 ∀ (pos:Pos) (pins:List (Addr × Obj)) (s:Shared) (σ:St) (H:Hp) (Q:List V->Hp->Prop),zI X pins σ H s->t σ H Q->wpAny (model X.prog X.w) X.A (spliced (backTo pos (starEach es X.env))) (AP X pins σ Q) X.xe s
noncomputable def PS (X:Cx) (st:Stmt) (t:TS):Prop:=
 ∀ (pins:List (Addr × Obj)) (s:Shared) (σ:St) (H:Hp) (D:wC),zI X pins σ H s->t D σ H->wpAny (model X.prog X.w) X.A (exec st X.env) (SP X pins D) X.xe s
noncomputable def vC (X:Cx) (st:List Stmt) (t:TS):Prop:=
 ∀ (pins:List (Addr × Obj)) (s:Shared) (σ:St) (H:Hp) (D:wC),zI X pins σ H s->t D σ H->wpAny (model X.prog X.w) X.A (execs st X.env) (SP X pins D) X.xe s
theorem zi {α:Type} {t:Sem α} {Q Q':α->Shared->Prop} {M:Model} {A:Around} {E:Value->Shared->Prop} {s:Shared} (h:wpAny M A t Q E s) (hQ:∀ a s,Q a s->Q' a s):wpAny M A t Q' E s:=wpAny_mono h hQ λ_ _ x=>x
end L2
namespace L2
open PySem PySem.Spec PyProof.Rows
section
variable {X:Cx}
noncomputable def g8 (i:Nat):TE:=λσ H Q=>∃ v,σ[i]? = some (some v)/\Q v H
noncomputable def tC (v:V):TE:=λ_ H Q=>Q v H
theorem JU {i:Nat} {x:Str} {pos:Pos} (hN:X.N[i]? = some x) (hv:g7 X.env.scope x) (hd:(x == ("__debug__" : Str))=false:=by decide) (hcd:(x == ("__classdict__" : Str))=false:=by decide):PE X (.Name x pos) (g8 i):=by
 intro pins s σ H Q I h
 obtain ⟨v,e,h⟩:=h
 obtain ⟨m,hn,hl⟩:=I.loc
 obtain ⟨u,r,l⟩:=hl i x v hN e hv
 have fin:EP X pins σ Q u s:=⟨v,H,I,r,h⟩
 rcases l with ⟨hk,hm⟩ | ⟨hk,c,hc,hcell⟩
 ·exact wpAny_Name (wpAny_loadName_local I.ok.kind hk hn hm fin) hd
 ·rcases hk with hk | hk
  ·exact wpAny_Name (wpAny_loadName_cell I.ok.kind hk hc hcell fin) hd
  ·exact wpAny_Name (wpAny_loadName_free I.ok.kind hk hc hcell fin hcd) hd
theorem zH {i j pos}:PE X (.Constant (.int i) j pos) (tC (.int i)):=λ_ _ _ H _ I h=>wpAny_Constant_int ⟨.int i,H,I.tok _,⟨_,rfl⟩,h⟩
theorem xy {b j pos}:PE X (.Constant (.bool b) j pos) (tC (.bl b)):=λ_ _ _ H _ I h=>Constant_bool ⟨.bl b,H,I,rfl,h⟩
theorem zu {x j pos}:PE X (.Constant (.str x) j pos) (tC (.str x)):=λ_ _ _ H _ I h=>Calls.Constant_str ⟨.str x,H,I.tok _,⟨_,rfl⟩,h⟩
noncomputable def Gl (X:Cx) (x:Str):Prop:=X.env.kindOf x=some .globalImplicit
theorem YM {E:Value->Shared->Prop} {pins:List (Addr × Obj)} {s:Shared} {σ:St} {H:Hp} {x:Str} {u:Value} {pos:Pos} {Q:Value->Shared->Prop} (I:zI X pins σ H s) (hg:Gl X x) (hm:X.mg x=some u) (h:Q u s)
  (hd:(x == ("__debug__" : Str))=false:=by decide):wpAny (model X.prog X.w) X.A (eval (.Name x pos) X.env) Q E s:=
 Calls.Name_function_global I.ok.kind hg (Calls.loadGlobal_global (by rw [I.ok.glob]; exact I.mod.glob.keeps I.bk) hm h) hd
theorem qS {E:Value->Shared->Prop} {pins:List (Addr × Obj)} {s:Shared} {σ:St} {H:Hp} {x:Str} {u:Value} {pos:Pos} {Q:Value->Shared->Prop} (I:zI X pins σ H s) (hg:Gl X x) (hm:X.mg x=none) (hv:bootBuiltins x=some u) (h:Q u s)
  (hn:x≠"__name__":=by decide) (hd:(x == ("__debug__" : Str))=false:=by decide):wpAny (model X.prog X.w) X.A (eval (.Name x pos) X.env) Q E s:=by
 obtain ⟨mb,h1,h2⟩:=I.mod.blt
 exact Calls.Name_function_global I.ok.kind hg (Calls.loadGlobal_builtin (by rw [I.ok.glob]; exact I.mod.glob.keeps I.bk) hm (by rw [I.ok.blt]; exact h1.keeps I.bk) ((h2 x hn).trans hv) h) hd
theorem YN {x:Str} {v:V} {u:Value} {pos:Pos} (hg:Gl X x) (hm:X.mg x=some u) (r:zS v u) (hd:(x == ("__debug__" : Str))=false:=by decide):PE X (.Name x pos) (tC v):=
 λ_ _ _ H _ I h=>YM I hg hm ⟨v,H,I,r,h⟩ hd
theorem wQ {x:Str} {v:V} {u:Value} {pos:Pos} (hg:Gl X x) (hm:X.mg x=none) (hv:bootBuiltins x=some u) (r:zS v u) (hn:x≠"__name__":=by decide) (hd:(x == ("__debug__" : Str))=false:=by decide):PE X (.Name x pos) (tC v):=
 λ_ _ _ H _ I h=>qS I hg hm hv ⟨v,H,I,r,h⟩ hn hd
variable {a b:Expr} {ta tb:TE} {pos:Pos}
noncomputable def tB (t:TE):TT:=λσ H Q=>t σ H λx H1=>∃ c,x=.bl c/\Q c H1
theorem yX {e:Expr} {t:TE} (h:PE X e t) (he:∀ whole,isTrue e X.env whole=(do let v <- whole; standAt e.pos; holding [v] (truthy v)):=by intro _; rfl):PT X e (tB t):=by
 intro pins s σ H Q I hw
 refine isTrue_plain (zi (h pins s σ H _ I hw) λv s1 ⟨x,H1,I1,r1,q1⟩=>?_) (he _)
 obtain ⟨d,rfl,q⟩:=q1
 cases r1
 exact wpAny_truthy_bool ⟨H1,I1,q⟩
variable {tA tB':TT} {xP:List Expr}
noncomputable def YO (t u:TT):TT:=λσ H Q=>t σ H λc H1=>if c=true then u σ H1 Q else Q false H1
noncomputable def JV (t u:TT):TT:=λσ H Q=>t σ H λc H1=>if c=true then Q true H1 else u σ H1 Q
noncomputable def YQ (t:TT):TT:=λσ H Q=>t σ H λc H1=>Q (!c) H1
theorem WC (ha:PT X a tA):PW X (.BoolOp .And [a] pos) tA:=by
 intro wh pins s σ H Q I h
 refine isTrue_and (zi (ha pins s σ H Q I h) λc s1 e=>?_)
 cases c with
 | true=>exact isTrue_and_nil e
 | false=>exact e
theorem wR (ha:PT X a tA):PW X (.BoolOp .Or [a] pos) tA:=by
 intro wh pins s σ H Q I h
 refine isTrue_or (zi (ha pins s σ H Q I h) λc s1 e=>?_)
 cases c with
 | false=>exact isTrue_or_nil e
 | true=>exact e
theorem WD (ha:PT X a tA) (hb:PW X (.BoolOp .And (b :: xP) pos) tB'):PW X (.BoolOp .And (a :: b :: xP) pos) (YO tA tB'):=by
 intro wh pins s σ H Q I h
 refine isTrue_and (zi (ha pins s σ H _ I h) λc s1 ⟨H1,I1,q1⟩=>?_)
 cases c with
 | true=>exact hb wh pins s1 σ H1 Q I1 q1
 | false=>exact ⟨H1,I1,q1⟩
theorem xZ (ha:PT X a tA) (hb:PW X (.BoolOp .Or (b :: xP) pos) tB'):PW X (.BoolOp .Or (a :: b :: xP) pos) (JV tA tB'):=by
 intro wh pins s σ H Q I h
 refine isTrue_or (zi (ha pins s σ H _ I h) λc s1 ⟨H1,I1,q1⟩=>?_)
 cases c with
 | true=>exact ⟨H1,I1,q1⟩
 | false=>exact hb wh pins s1 σ H1 Q I1 q1
theorem xO (ha:PT X a tA):PT X (.UnaryOp .Not a pos) (YQ tA):=by
 intro pins s σ H Q I h
 exact isTrue_not (ha pins s σ H (λc H1=>Q (!c) H1) I h)
noncomputable def g9 (ta tb:TE):TE:=λσ H Q=>ta σ H λx H1=>∃ c,x=.bl c/\if c=true then tb σ H1 Q else Q (.bl false) H1
noncomputable def YR (ta tb:TE):TE:=λσ H Q=>ta σ H λx H1=>∃ c,x=.bl c/\if c=true then Q (.bl true) H1 else tb σ H1 Q
noncomputable def kA (ta:TE):TE:=λσ H Q=>ta σ H λx H1=>∃ c,x=.bl c/\Q (.bl (!c)) H1
theorem uZ {op} {t:TE} (h:PE X a t):PE X (.BoolOp op [a] pos) t:=λpins s σ H Q I hw=>BoolOp_one (h pins s σ H Q I hw)
theorem ve (ha:PE X a ta) (hb:PE X (.BoolOp .And (b :: xP) pos) tb):PE X (.BoolOp .And (a :: b :: xP) pos) (g9 ta tb):=by
 intro pins s σ H Q I h
 refine BoolOp_and (zi (ha pins s σ H _ I h) λv s1 ⟨x,H1,I1,r1,q1⟩=>?_)
 obtain ⟨c,rfl,q1⟩:=q1
 cases r1
 refine wpAny_truthy_bool ?_
 cases c with
 | true=>exact hb pins s1 σ H1 Q I1 q1
 | false=>exact ⟨.bl false,H1,I1,rfl,q1⟩
theorem kC (ha:PE X a ta) (hb:PE X (.BoolOp .Or (b :: xP) pos) tb):PE X (.BoolOp .Or (a :: b :: xP) pos) (YR ta tb):=by
 intro pins s σ H Q I h
 refine BoolOp_or (zi (ha pins s σ H _ I h) λv s1 ⟨x,H1,I1,r1,q1⟩=>?_)
 obtain ⟨c,rfl,q1⟩:=q1
 cases r1
 refine wpAny_truthy_bool ?_
 cases c with
 | false=>exact hb pins s1 σ H1 Q I1 q1
 | true=>exact ⟨.bl true,H1,I1,rfl,q1⟩
theorem WE (ha:PE X a ta):PE X (.UnaryOp .Not a pos) (kA ta):=by
 intro pins s σ H Q I h
 refine UnaryOp_ (zi (ha pins s σ H _ I h) λv s1 ⟨x,H1,I1,r1,q1⟩=>?_)
 obtain ⟨c,rfl,q1⟩:=q1
 cases r1
 exact not_of (wpAny_truthy_bool ⟨.bl (!c),H1,I1,rfl,q1⟩)
noncomputable def JW (t:TT) (ta tb:TE):TE:=λσ H Q=>t σ H λc H1=>if c=true then ta σ H1 Q else tb σ H1 Q
theorem JX {c:Expr} (hc:PT X c tA) (ha:PE X a ta) (hb:PE X b tb):PE X (.IfExp c a b pos) (JW tA ta tb):=by
 intro pins s σ H Q I h
 refine wpAny_IfExp (zi (hc pins s σ H _ I h) λd s1 ⟨H1,I1,q1⟩=>?_)
 cases d with
 | true=>exact ha pins s1 σ H1 Q I1 q1
 | false=>exact hb pins s1 σ H1 Q I1 q1
end
end L2
namespace L2
open PySem PySem.Spec PyProof.Rows
noncomputable def zE (K:PySem.W.Frag) (H:Hp) (a:Addr) (xs:List V):Prop:=
 Rd H a (.lst xs)∨
  ∃ (o:Obj) (its:Array Value) (n:Nat),K.lookup a=some o/\o.cls=.type "list"/\o.dict=none/\o.data=.seq its n/\its.size<=sizeLine/\zN xs its.toList
noncomputable def zW (K:PySem.W.Frag) (H:Hp) (a:Addr) (xs:List V):Prop:=
 Rd H a (.tup xs)∨
  ∃ (o:Obj) (its:Array Value) (n:Nat),K.lookup a=some o/\o.cls=.type "tuple"/\o.data=.seq its n/\its.size<=sizeLine/\zN xs its.toList
noncomputable def YS:Value->Option V
 | .none=>some .non
 | .bool b=>some (.bl b)
 | .int i _=>some (.int i)
 | .str x _=>some (.str x)
 | .bytes b _=>some (.byt b)
 | .float b _=>some (.flt b)
 | .ref a=>some (.ref a)
 | .type n=>some (.ty n)
 | _=>none
theorem zS.abs {x:V} {u:Value} (r:zS x u):YS u=some x:=by
 cases x with
 | non=>cases r; rfl
 | bl _=>cases r; rfl
 | int _=>obtain ⟨t,rfl⟩:=r; rfl
 | str _=>obtain ⟨t,rfl⟩:=r; rfl
 | byt _=>obtain ⟨t,rfl⟩:=r; rfl
 | flt _=>obtain ⟨t,rfl⟩:=r; rfl
 | ref _=>cases r; rfl
 | ty _=>cases r; rfl
theorem zS.inj {x y:V} {u:Value} (r:zS x u) (q:zS y u):x=y:=Option.some.inj (r.abs.symm.trans q.abs)
theorem zN.inj:∀ {xs ys:List V} {us:List Value},zN xs us->zN ys us->xs=ys
 | _,_,_,.nil,.nil=>rfl
 | _,_,_,.cons r t,.cons r' t'=>by rw [r.inj r',zN.inj t t']
section
variable {X:Cx} {pins:List (Addr × Obj)} {σ:St} {H:Hp} {s:Shared} {a:Addr} {xs ys:List V}
theorem zE.of {K:PySem.W.Frag} (h:H a=some (.lst xs)):zE K H a xs:=.inl (.inl h)
theorem zW.of {K:PySem.W.Frag} (h:H a=some (.tup xs)):zW K H a xs:=.inl (.inl h)
theorem zI.list (I:zI X pins σ H s) (h:zE X.K H a xs):∃ its:List Value,zN xs its/\PlainL s.heap a its.toArray/\xs.length<=sizeLine:=by
 rcases h with h | ⟨o,its,n,hk,hc,hd,hs,hz,r⟩
 ·obtain ⟨z,its,n,r,e⟩:=h.ok I.hok
  exact ⟨its,r,⟨_,n,e,rfl,rfl,rfl⟩,z⟩
 ·refine ⟨its.toList,r,⟨o,n,I.kIn a o hk,hc,hd,by simpa using hs⟩,?_⟩
  have e:=r.length
  simp only [Array.length_toList] at e
  omega
theorem zI.tuple (I:zI X pins σ H s) (h:zW X.K H a xs):∃ its:List Value,zN xs its/\IsTup s.heap a its.toArray/\xs.length<=sizeLine:=by
 rcases h with h | ⟨o,its,n,hk,hc,hs,hz,r⟩
 ·obtain ⟨z,its,r,p⟩:=h.ok I.hok
  exact ⟨its,r,p,z⟩
 ·refine ⟨its.toList,r,⟨o,I.kIn a o hk,hc,n,by simpa using hs⟩,?_⟩
  have e:=r.length
  simp only [Array.length_toList] at e
  omega
theorem zI.list_inj (I:zI X pins σ H s) (h:zE X.K H a xs) (h':zE X.K H a ys):xs=ys:=by
 obtain ⟨its,r,⟨o,n,e,_,_,d⟩,_⟩:=I.list h
 obtain ⟨its',r',⟨o',n',e',_,_,d'⟩,_⟩:=I.list h'
 rw [e] at e'; cases e'
 rw [d] at d'
 injection d' with d1 _
 have:its=its':=by simpa using congrArg Array.toList d1
 subst this
 exact r.inj r'
theorem zI.tuple_inj (I:zI X pins σ H s) (h:zW X.K H a xs) (h':zW X.K H a ys):xs=ys:=by
 obtain ⟨its,r,⟨o,e,_,n,d⟩,_⟩:=I.tuple h
 obtain ⟨its',r',⟨o',e',_,n',d'⟩,_⟩:=I.tuple h'
 rw [e] at e'; cases e'
 rw [d] at d'
 injection d' with d1 _
 have:its=its':=by simpa using congrArg Array.toList d1
 subst this
 exact r.inj r'
end
noncomputable abbrev Cx.wish (X:Cx) (E:Value->Shared->Prop):Cx:={ X with xe:=E }
noncomputable abbrev Cx.nox (X:Cx):Cx:=X.wish λ_ _=>False
theorem Cx.Ok.wish {X:Cx} (ok:X.Ok) (E:Value->Shared->Prop):(X.wish E).Ok:=
 ⟨ok.mod,ok.kind,ok.glob,ok.blt,ok.above,ok.inj,ok.has,ok.cab,ok.hd,ok.frames,ok.stk,ok.exf,ok.bs,ok.bsz,ok.noex,ok.exfs,ok.funs,ok.frf⟩
theorem Cx.Ok.unwish {X:Cx} {E:Value->Shared->Prop} (ok:(X.wish E).Ok):X.Ok:=
 ⟨ok.mod,ok.kind,ok.glob,ok.blt,ok.above,ok.inj,ok.has,ok.cab,ok.hd,ok.frames,ok.stk,ok.exf,ok.bs,ok.bsz,ok.noex,ok.exfs,ok.funs,ok.frf⟩
section
variable {X:Cx} {pins:List (Addr × Obj)} {σ:St} {H:Hp} {s:Shared} {E:Value->Shared->Prop}
theorem zI.wish (I:zI X pins σ H s) (E:Value->Shared->Prop):zI (X.wish E) pins σ H s:=⟨I.ok.wish E,I.os,I.bare,I.base,I.loc,I.cell,I.free,I.freeC,I.pin,I.hok,I.len⟩
theorem zI.unwish (I:zI (X.wish E) pins σ H s):zI X pins σ H s:=⟨I.ok.unwish,I.os,I.bare,I.base,I.loc,I.cell,I.free,I.freeC,I.pin,I.hok,I.len⟩
theorem SP.unwish {D:wC} {f:Flow} {s':Shared} (h:SP (X.wish E) pins D f s'):SP X pins D f s':=by
 cases f with
 | next=>obtain ⟨σ',H',I,q⟩:=h; exact ⟨σ',H',I.unwish,q⟩
 | brk=>obtain ⟨σ',H',I,q⟩:=h; exact ⟨σ',H',I.unwish,q⟩
 | cont=>obtain ⟨σ',H',I,q⟩:=h; exact ⟨σ',H',I.unwish,q⟩
 | ret u=>obtain ⟨v,σ',H',I,r,q⟩:=h; exact ⟨v,σ',H',I.unwish,r,q⟩
theorem PE.nox {e:Expr} {t:TE} (h:PE X.nox e t):PE X e t:=λpins s σ H Q I hw=>
 wpAny_mono (h pins s σ H Q (I.wish _) hw) (λ_ _ ⟨v,H',I',r,q⟩=>⟨v,H',I'.unwish,r,q⟩) λ_ _ z=>False.elim z
theorem PT.nox {e:Expr} {t:TT} (h:PT X.nox e t):PT X e t:=λpins s σ H Q I hw=>
 wpAny_mono (h pins s σ H Q (I.wish _) hw) (λ_ _ ⟨H',I',q⟩=>⟨H',I'.unwish,q⟩) λ_ _ z=>False.elim z
theorem vC.nox {st:List Stmt} {t:TS} (h:vC X.nox st t):vC X st t:=λpins s σ H D I hw=>
 wpAny_mono (h pins s σ H D (I.wish _) hw) (λ_ _ q=>q.unwish) λ_ _ z=>False.elim z
end
section
variable {X:Cx} {st:Stmt} {xP:List Stmt} {t u:TS} {e:Expr} {te:TE} {pos:Pos}
noncomputable def kD:TS:=λD σ H=>D.nx σ H
noncomputable def YT (t u:TS):TS:=λD σ H=>t { D with nx:=u D } σ H
theorem yA:vC X [] kD:=λ_ _ σ H _ I h=>wpAny_execs_nil ⟨σ,H,I,h⟩
theorem zM (h1:PS X st t) (h2:vC X xP u):vC X (st :: xP) (YT t u):=by
 intro pins s σ H D I h
 refine wpAny_execs_cons (zi (h1 pins s σ H { D with nx:=u D } I h) λf s1 q=>?_)
 cases f with
 | next=>
  obtain ⟨σ',H',I',q⟩:=q
  exact h2 pins s1 σ' H' D I' q
 | ret v=>exact q
 | brk=>exact q
 | cont=>exact q
theorem zO (h1:PS X st t):vC X [st] t:=by
 intro pins s σ H D I h
 refine wpAny_execs_cons (zi (h1 pins s σ H D I h) λf s1 q=>?_)
 cases f with
 | next=>exact wpAny_execs_nil q
 | ret v=>exact q
 | brk=>exact q
 | cont=>exact q
theorem zI.quiet {pins:List (Addr × Obj)} {σ:St} {H:Hp} {s:Shared} (I:zI X pins σ H s):interactive X.env=false:=by simp [interactive,I.ok.kind]
noncomputable def kE (te:TE):TS:=λD σ H=>te σ H λ_ H1=>D.nx σ H1
theorem vq (he:PE X e te) (hs:swapsWith e none pos.line X.env=pure false:=by rfl):PS X (.Expr e pos) (kE te):=by
 intro pins s σ H D I h
 exact wpAny_Expr_any (zi (he pins s σ H _ I h) λv s1 ⟨x,H1,I1,r1,q1⟩=>⟨σ,H1,I1,q1⟩) I.quiet hs
noncomputable def YU (te:TE):TS:=λD σ H=>te σ H D.rt
theorem zY (he:PE X e te):PS X (.Return (some e) pos) (YU te):=by
 intro pins s σ H D I h
 exact wpAny_Return_some (zi (he pins s σ H _ I h) λv s1 ⟨x,H1,I1,r1,q1⟩=>⟨x,σ,H1,I1,r1,q1⟩)
noncomputable def YV (c:TT) (t u:TS):TS:=λD σ H=>c σ H λb H1=>if b=true then t D σ H1 else u D σ H1
theorem zo {c:Expr} {a b:List Stmt} {tc:TT} (hc:PT X c tc) (ha:vC X a t) (hb:vC X b u):PS X (.If c a b pos) (YV tc t u):=by
 intro pins s σ H D I h
 refine wpAny_If (zi (hc pins s σ H _ I h) λd s1 ⟨H1,I1,q1⟩=>?_)
 cases d with
 | true=>exact ha pins s1 σ H1 D I1 q1
 | false=>exact hb pins s1 σ H1 D I1 q1
noncomputable def JY:TS:=λ_ _ _=>False
theorem vD:PS X st JY:=λ_ _ _ _ _ _ h=>h.elim
end
noncomputable abbrev TG:=V->St->Hp->(St->Hp->Prop)->Prop
noncomputable abbrev ur:=List V->St->Hp->(St->Hp->Prop)->Prop
noncomputable def PG (X:Cx) (target:Expr) (t:TG):Prop:=
 ∀ (pins:List (Addr × Obj)) (s:Shared) (σ:St) (H:Hp) (v:V) (u:Value) (Q:St->Hp->Prop),zI X pins σ H s->zS v u->t v σ H Q->
  wpAny (model X.prog X.w) X.A (assign target X.env u) (λ_ s'=>∃ σ' H',zI X pins σ' H' s'/\Q σ' H') X.xe s
noncomputable def kF (X:Cx) (ts:List Expr) (t:ur):Prop:=
 ∀ (pins:List (Addr × Obj)) (s:Shared) (σ:St) (H:Hp) (vs:List V) (us:List Value) (Q:St->Hp->Prop),zI X pins σ H s->zN vs us->t vs σ H Q->
  wpAny (model X.prog X.w) X.A (assignInOrder ((assignEach ts X.env).map (·.2)) us) (λ_ s'=>∃ σ' H',zI X pins σ' H' s'/\Q σ' H') X.xe s
section
variable {X:Cx} {pos:Pos}
noncomputable def YW (i:Nat):TG:=λv σ H Q=>Q (σ.set i (some v)) H
theorem zw {i:Nat} {x:Str} (hN:X.N.Nodup) (hi:X.N[i]? = some x) (hx:ZY X.env.scope x) (hf:X.fn x=true\/X.env.scope.names.lookup x=some .local:=by first | exact .inl rfl | exact .inr rfl | assumption):PG X (.Name x pos) (YW i):=by
 intro pins s σ H v u Q I r h
 exact wpAny_assign_Name (WB I hN hi hx r (λs' I'=>⟨_,H,I',h⟩) hf)
noncomputable def YX:ur:=λvs σ H Q=>vs=[]/\Q σ H
noncomputable def kG (t:TG) (u:ur):ur:=λvs σ H Q=>∃ v r,vs=v :: r/\t v σ H λσ' H'=>u r σ' H' Q
theorem WF:kF X [] YX:=by
 intro pins s σ H vs us Q I r h
 obtain ⟨e,h⟩:=h
 subst e
 cases r
 exact assignInOrder_nil ⟨σ,H,I,h⟩
theorem jK {e:Expr} {es:List Expr} {t:TG} {u:ur} (h1:PG X e t) (h2:kF X es u)
  (hs:(assignEach (e :: es) X.env).map (·.2)=assign e X.env :: (assignEach es X.env).map (·.2):=by rfl):kF X (e :: es) (kG t u):=by
 intro pins s σ H vs us Q I r h
 obtain ⟨v,vr,e1,h⟩:=h
 subst e1
 cases r with
 | cons r rr=>
  rw [hs]
  refine assignInOrder_cons (zi (h1 pins s σ H _ _ _ I r h) λ_ s1 ⟨σ1,H1,I1,q1⟩=>?_)
  exact h2 pins s1 σ1 H1 _ _ Q I1 rr q1
noncomputable def YY (K:PySem.W.Frag) (n:Nat) (t:ur):TG:=λv σ H Q=>∃ a xs,v=.ref a/\zW K H a xs/\xs.length=n/\t xs σ H Q
theorem JZ {es:List Expr} {k:Nat} {t:ur} {n:Nat} (hc:X.calm=true) (h:kF X es t)
  (hn:(assignEach es X.env).length=n:=by rfl) (hst:(assignEach es X.env).findIdx? (·.1)=none:=by rfl):PG X (.Tuple es k pos) (YY X.K n t):=by
 intro pins s σ H v u Q I r hw
 obtain ⟨a,xs,e1,hq,hl,hw⟩:=hw
 subst e1
 cases r
 obtain ⟨its,rv,ht,hz⟩:=I.tuple hq
 refine assign_Tuple_tuple (I.ok.hd hc) ht (by simp [hn,<- hl,rv.length]) hst λh' hx=>?_
 have I1:zI X pins σ H { s with heap:=h' }:=I.kept (t':=s.toks) λb o e=>hx b o (Nat.ne_of_lt (Heap.lt_size e)) e
 exact h pins _ σ H xs _ Q I1 (by simpa using rv) hw
noncomputable def kH (te:TE) (g:TG):TS:=λD σ H=>te σ H λx H1=>g x σ H1 D.nx
theorem yG {i:Nat} {x:Str} {e:Expr} {te:TE} {pos':Pos} (hN:X.N.Nodup) (hi:X.N[i]? = some x) (hx:ZY X.env.scope x) (he:PE X e te) (hs:swapsWith e (some (.Name x pos')) pos.line X.env=pure false:=by rfl) (hf:X.fn x=true\/X.env.scope.names.lookup x=some .local:=by first | exact .inl rfl | exact .inr rfl | assumption) :
  PS X (.Assign [.Name x pos'] e pos) (kH te (YW i)):=by
 intro pins s σ H D I h
 refine wpAny_Assign_Name (zi (he pins s σ H _ I h) λv s1 ⟨y,H1,I1,r1,q1⟩=>?_) hs
 exact WB I1 hN hi hx r1 (λs2 I2=>⟨_,H1,I2,q1⟩) hf
end
section
variable {X:Cx} {pos:Pos}
noncomputable def Ja (c:TT) (tb:TS):TS:=λD σ H=>∃ W:Nat->St->Hp->Prop,(∃ m,W m σ H)/\∀ m σ H,W m σ H->
 c σ H λb H1=>if b=true then ∃ N:St->Hp->Prop,(∀ σ' H',N σ' H'->∃ m',m' < m/\W m' σ' H')/\tb { D with nx:=N,ct:=N,bk:=D.nx } σ H1 else D.nx σ H1
theorem WG {c:Expr} {body:List Stmt} {tc:TT} {tb:TS} (hp:PassesOwn (model X.prog X.w) X.A X.env X.xe) (hc:PT X c tc) (hb:vC X body tb):PS X (.While c body [] pos) (Ja tc tb):=by
 intro pins s σ H D I h
 obtain ⟨W,⟨m0,w0⟩,turn⟩:=h
 refine wpAny_While (codeAny_whileLoop (λn s'=>∃ σ' H',zI X pins σ' H' s'/\W n σ' H') ?_ m0 ⟨σ,H,I,w0⟩)
 rintro n s1 ⟨σ1,H1,I1,w1⟩
 refine wpAny_passesOwn hp (zi (hc pins s1 σ1 H1 _ I1 (turn n σ1 H1 w1)) λb s2 ⟨H2,I2,q2⟩=>?_)
 cases b with
 | true=>
  obtain ⟨N,hN,q2⟩:=q2
  rw [if_pos rfl]
  refine wpAny_passesOwn hp (zi (hb pins s2 σ1 H2 _ I2 q2) λf s3 q3=>?_)
  cases f with
  | next=>
   obtain ⟨σ3,H3,I3,n3⟩:=q3
   obtain ⟨m',hm,w3⟩:=hN σ3 H3 n3
   exact ⟨m',hm,σ3,H3,I3,w3⟩
  | cont=>
   obtain ⟨σ3,H3,I3,n3⟩:=q3
   obtain ⟨m',hm,w3⟩:=hN σ3 H3 n3
   exact ⟨m',hm,σ3,H3,I3,w3⟩
  | brk=>exact q3
  | ret v=>exact q3
 | false=>
  rw [if_neg Bool.false_ne_true]
  exact wpAny_execs_nil ⟨σ1,H2,I2,q2⟩
end
structure It where
 go:Nat->Hp->Prop
 yld:Nat->Hp->V->Hp->Prop
 stop:Nat->Hp->Prop
noncomputable def yP (X:Cx) (pins:List (Addr × Obj)) (H:Hp) (b:Addr):Prop:=
 H b=none/\b≠X.env.locals/\b∉X.fs/\(b∈X.ex\/X.s₀.heap.objs.size<=b)/\(∀ x c,X.env.cells.lookup x=some c->c≠b)/\∀ p∈X.pn++pins,p.1≠b
theorem zI.fpOk {X:Cx} {pins:List (Addr × Obj)} {σ:St} {H H':Hp} {s:Shared} {b:Addr} (I:zI X pins σ H s) (hb:s.heap.objs.size<=b) (hn:H' b=none):yP X pins H' b:=by
 refine ⟨hn,Nat.ne_of_gt (Nat.lt_of_lt_of_le I.lt hb),I.nofs hb,.inr (Nat.le_trans I.sz hb),λx c e z=>?_,λp hp z=>?_⟩
 ·obtain ⟨v,q⟩:=I.cell x c e
  exact absurd (Nat.lt_of_lt_of_le q.lt (by rw [z]; exact hb)) (Nat.lt_irrefl _)
 ·exact absurd (Nat.lt_of_lt_of_le (Heap.lt_size (I.pin p hp).1) (by rw [z]; exact hb)) (Nat.lt_irrefl _)
structure wF (P:Program) (w:World) (K:PySem.W.Frag) (tg:Expr) (J:It) (fp:List Addr) (it:Addr) (tn:Nat->Heap->Prop):Prop where
 mem:it∈fp
 obj:∀ i h,tn i h->∀ b∈fp,∃ o,h.get? b=some o/\∀ v,o.data≠.cell v
 keep:∀ i h h',tn i h->(∀ b∈fp,∀ o,h.get? b=some o->h'.get? b=some o)->tn i h'
 item:∀ (X:Cx),X.prog=P->X.w=w->X.K=K->X.calm=true->∀ (i:Nat) (pins:List (Addr × Obj)) (s:Shared) (σ:St) (H:Hp) (E:Value->Shared->Prop),zI X pins σ H s->(∀ b∈fp,yP X pins H b)->tn i s.heap->J.go i H->
  wpAny (model P w) X.A (pyNext (.ref it)) (λr s1=>∃ u,r=some u∧
   wpAny (model P w) X.A (letOwnedTupleGo tg (.ref it) u) (λ_ s2=>∃ x H',zI X pins σ H' s2/\zS x u/\J.yld i H x H'/\tn (i + 1) s2.heap/\∀ b∈fp,H' b=none) E s1) E s
 done:∀ (X:Cx),X.prog=P->X.w=w->X.K=K->X.calm=true->∀ (i:Nat) (pins:List (Addr × Obj)) (s:Shared) (σ:St) (H:Hp) (E:Value->Shared->Prop),zI X pins σ H s->(∀ b∈fp,yP X pins H b)->tn i s.heap->J.stop i H->
  wpAny (model P w) X.A (pyNext (.ref it)) (λr s1=>r=none/\zI X pins σ H s1) E s
 self:∀ (A:Around) (i:Nat) (s:Shared) (Q:Value->Shared->Prop) (E:Value->Shared->Prop),tn i s.heap->Q (.ref it) s->wpAny (model P w) A (pyIter (.ref it)) Q E s
noncomputable abbrev TI:=St->Hp->(It->Hp->Prop)->Prop
noncomputable def WH (X:Cx) (pins:List (Addr × Obj)) (σ:St) (tg:Expr) (R:It->Hp->Prop) (itv:Value) (s2:Shared):Prop:=
 ∃ (it:Addr) (fp:List Addr) (tn:Nat->Heap->Prop) (J:It) (H':Hp),itv=.ref it/\zI X pins σ H' s2/\wF X.prog X.w X.K tg J fp it tn/\tn 0 s2.heap/\(∀ b∈fp,yP X pins H' b)/\R J H'
noncomputable def PI (X:Cx) (tg iter:Expr) (wi:TI):Prop:=
 ∀ (pins:List (Addr × Obj)) (s:Shared) (σ:St) (H:Hp) (R:It->Hp->Prop),zI X pins σ H s->wi σ H R->
  wpAny (model X.prog X.w) X.A (eval iter X.env) (λv s1=>wpAny (model X.prog X.w) X.A (pyIter v) (WH X pins σ tg R) X.xe s1) X.xe s
theorem kI {M:Model} {A:Around} {E:Value->Shared->Prop} {s:Shared} {tg:Expr} {it:Addr} {u:Value} {o:Obj} {n:String} {vs:Array Value} {Q:Unit->Shared->Prop} (ho:s.heap.get? it=some o) (hc:o.cls=.type n) (hd:o.data=.fields vs)
  (hn:["enumerate","zip","dict_itemiterator","dict_reverseitemiterator","odict_iterator","itertools.zip_longest","itertools.pairwise"].contains n=false) (hQ:Q () s):wpAny M A (letOwnedTupleGo tg (.ref it) u) Q E s:=by
 unfold letOwnedTupleGo
 cases tg <;> first
  | exact wpAny_pure hQ
  | (cases u <;> first
    | exact wpAny_pure hQ
    | (refine wpAny_bind (wpAny_load ho ?_)
       rw [hc,hd]
       show wpAny M A (if (["enumerate","zip","dict_itemiterator","dict_reverseitemiterator","odict_iterator","itertools.zip_longest","itertools.pairwise"].contains n && vs[0]? == some (rawInt _))=true then _ else _) Q E s
       rw [if_neg (by intro h; rw [hn,Bool.false_and] at h; cases h)]
       exact wpAny_pure hQ))
noncomputable def qT (K:PySem.W.Frag) (a:Addr):It:=
 ⟨λi H=>∃ xs x,zE K H a xs/\xs[i]? = some x,λi H x H'=>H'=H/\∀ xs,zE K H a xs->xs[i]? = some x,λi H=>∃ xs,zE K H a xs/\xs.length<=i⟩
noncomputable def YZ (K:PySem.W.Frag) (a:Addr):It:=
 ⟨λi H=>∃ xs x,zW K H a xs/\xs[i]? = some x,λi H x H'=>H'=H/\∀ xs,zW K H a xs->xs[i]? = some x,λi H=>∃ xs,zW K H a xs/\xs.length<=i⟩
noncomputable def jl (lo:Int) (n:Nat):It:=⟨λi _=>i < n,λi H x H'=>H'=H/\x=.int (lo + i),λi _=>n<=i⟩
theorem Jb {P:Program} {w:World} {K:PySem.W.Frag} {tg:Expr} (a it:Addr):wF P w K tg (qT K a) [it] it (λi h=>h.IsListIter it a i) where
 mem:=by simp
 obj:=λi h st b hb=>by
  have e:b=it:=by simpa using hb
  subst e
  obtain ⟨o,e,c,d⟩:=st
  exact ⟨o,e,λv z=>by rw [d] at z; cases z⟩
 keep:=λi h h' st k=>st.at λo e=>k it (by simp) o e
 item:=by
  intro X hP hw hK hc i pins s σ H E I hf st hg
  subst hP hw hK
  obtain ⟨xs,x,hq,hx⟩:=hg
  obtain ⟨its,rv,p,hz⟩:=I.list hq
  obtain ⟨u,hu,ru⟩:=rv.get hx
  obtain ⟨f0,f1,f2,f3,f4,f5⟩:=hf it (by simp)
  refine wpAny_pyNext_list_item st p.isList (x:=u) (by simpa using hu) λh' st' sb=>?_
  have I1:zI X pins σ H { s with heap:=h' }:=I.turned (t':=s.toks) (λb o hb e=>(sb.2 b hb).trans e) f0 f1 f3 f4 f5
  obtain ⟨o,e,c,d⟩:=id st'
  exact ⟨u,rfl,kI (s:={ s with heap:=h' }) e c d (by decide) ⟨x,H,I1,ru,⟨rfl,λys hy=>by rw [I.list_inj hy hq]; exact hx⟩,st',λb hb=>(hf b hb).1⟩⟩
 done:=by
  intro X hP hw hK hc i pins s σ H E I hf st hg
  subst hP hw hK
  obtain ⟨xs,hq,hx⟩:=hg
  obtain ⟨its,rv,p,hz⟩:=I.list hq
  obtain ⟨f0,f1,f2,f3,f4,f5⟩:=hf it (by simp)
  have hl:=rv.length
  exact wpAny_pyNext_list_end (I.ok.hd hc) st p.isList (by simp; omega) λh' eb=>⟨rfl,I.turned (t':=s.toks) (λb o hb e=>eb b o hb e) f0 f1 f3 f4 f5⟩
 self:=λ_ _ _ _ _ st h=>wpAny_pyIter_listiter st h
theorem Jc {P:Program} {w:World} {K:PySem.W.Frag} {tg:Expr} (a it:Addr):wF P w K tg (YZ K a) [it] it (λi h=>h.IsTupleIter it a i) where
 mem:=by simp
 obj:=λi h st b hb=>by
  have e:b=it:=by simpa using hb
  subst e
  obtain ⟨o,e,c,d⟩:=st
  exact ⟨o,e,λv z=>by rw [d] at z; cases z⟩
 keep:=λi h h' st k=>st.at λo e=>k it (by simp) o e
 item:=by
  intro X hP hw hK hc i pins s σ H E I hf st hg
  subst hP hw hK
  obtain ⟨xs,x,hq,hx⟩:=hg
  obtain ⟨its,rv,p,hz⟩:=I.tuple hq
  obtain ⟨u,hu,ru⟩:=rv.get hx
  obtain ⟨f0,f1,f2,f3,f4,f5⟩:=hf it (by simp)
  refine wpAny_pyNext_tuple_item st (show s.heap.IsTuple a its.toArray from p) (x:=u) (by simpa using hu) λh' st' sb=>?_
  have I1:zI X pins σ H { s with heap:=h' }:=I.turned (t':=s.toks) (λb o hb e=>(sb.2 b hb).trans e) f0 f1 f3 f4 f5
  obtain ⟨o,e,c,d⟩:=id st'
  exact ⟨u,rfl,kI (s:={ s with heap:=h' }) e c d (by decide) ⟨x,H,I1,ru,⟨rfl,λys hy=>by rw [I.tuple_inj hy hq]; exact hx⟩,st',λb hb=>(hf b hb).1⟩⟩
 done:=by
  intro X hP hw hK hc i pins s σ H E I hf st hg
  subst hP hw hK
  obtain ⟨xs,hq,hx⟩:=hg
  obtain ⟨its,rv,p,hz⟩:=I.tuple hq
  obtain ⟨f0,f1,f2,f3,f4,f5⟩:=hf it (by simp)
  have hl:=rv.length
  exact wpAny_pyNext_tuple_end (I.ok.hd hc) st (show s.heap.IsTuple a its.toArray from p) (by simp; omega) λh' eb=>⟨rfl,I.turned (t':=s.toks) (λb o hb e=>eb b o hb e) f0 f1 f3 f4 f5⟩
 self:=λ_ _ _ _ _ st h=>wpAny_pyIter_tupleiter st h
theorem Jd {P:Program} {w:World} {K:PySem.W.Frag} {tg:Expr} (it:Addr) (lo:Int) (n:Nat):wF P w K tg (jl lo n) [it] it (λi h=>IsRangeIter h it (lo + (i:Nat) * 1) ((n:Int) - (i:Nat)) 1) where
 mem:=by simp
 obj:=λi h st b hb=>by
  have e:b=it:=by simpa using hb
  subst e
  exact ⟨_,st,λv z=>by
   have z':Data.fields _=Data.cell v:=z
   cases z'⟩
 keep:=λi h h' st k=>k it (by simp) _ st
 item:=by
  intro X hP hw hK hc i pins s σ H E I hf st hg
  subst hP hw hK
  obtain ⟨f0,f1,f2,f3,f4,f5⟩:=hf it (by simp)
  have W:=Walks.range (prog:=X.prog) (w:=X.w) (I.ok.hd hc) it lo 1 n
  refine W.item i s _ _ hg st λv h' tk hv st' kk=>?_
  obtain ⟨t,rfl⟩:=hv
  have I1:zI X pins σ H { s with heap:=h',toks:=tk }:=I.turned (λb o hb e=>kk b o (by simpa using hb) e) f0 f1 f3 f4 f5
  refine ⟨_,rfl,kI (s:={ s with heap:=h',toks:=tk }) (n:="range_iterator") st' rfl rfl (by decide) ⟨.int (lo + i),H,I1,⟨t,?_⟩,⟨rfl,rfl⟩,st',λb hb=>(hf b hb).1⟩⟩
  rw [Int.mul_one]
 done:=by
  intro X hP hw hK hc i pins s σ H E I hf st hg
  subst hP hw hK
  obtain ⟨f0,f1,f2,f3,f4,f5⟩:=hf it (by simp)
  exact wpAny_pyNext_range_end (I.ok.hd hc) st (by have:n<=i:=hg; omega) λh' eb=>⟨rfl,I.turned (t':=s.toks) (λb o hb e=>eb b o hb e) f0 f1 f3 f4 f5⟩
 self:=λ_ _ _ _ _ st h=>wpAny_pyIter_rangeiter st h
end L2
namespace L2
open PySem PySem.Spec PyProof.Rows
section
variable {X:Cx} {tg:Expr}
noncomputable def WI (K:PySem.W.Frag) (tl:TE):TI:=λσ H R=>tl σ H λx H1=>∃ a,x=.ref a/\(∃ xs,zE K H1 a xs)/\R (qT K a) H1
noncomputable def Yb (K:PySem.W.Frag) (tl:TE):TI:=λσ H R=>tl σ H λx H1=>∃ a,x=.ref a/\(∃ xs,zW K H1 a xs)/\R (YZ K a) H1
theorem yU {l:Expr} {tl:TE} (hl:PE X l tl):PI X tg l (WI X.K tl):=by
 intro pins s σ H R I h
 refine zi (hl pins s σ H _ I h) λv s1 ⟨x,H1,I1,r1,q1⟩=>?_
 obtain ⟨a,e,⟨xs,hq⟩,q⟩:=q1
 subst e
 cases r1
 obtain ⟨its,rv,p,hz⟩:=I1.list hq
 refine wpAny_pyIter_list p.isList ?_
 refine ⟨s1.heap.objs.size,[s1.heap.objs.size],_,_,H1,rfl,I1.kept (t':=s1.toks) λb o e=>Heap.get?_push_of_some _ e,Jb a _,⟨_,Heap.get?_push_size _ rfl,rfl,rfl⟩,λb hb=>?_,q⟩
 have e:b=s1.heap.objs.size:=by simpa using hb
 subst e
 exact I1.fpOk (Nat.le_refl _) (I1.hok.fresh (Nat.le_refl _))
theorem qU {l:Expr} {tl:TE} (hl:PE X l tl):PI X tg l (Yb X.K tl):=by
 intro pins s σ H R I h
 refine zi (hl pins s σ H _ I h) λv s1 ⟨x,H1,I1,r1,q1⟩=>?_
 obtain ⟨a,e,⟨xs,hq⟩,q⟩:=q1
 subst e
 cases r1
 obtain ⟨its,rv,p,hz⟩:=I1.tuple hq
 refine wpAny_pyIter_tuple (show s1.heap.IsTuple a its.toArray from p) ?_
 refine ⟨s1.heap.objs.size,[s1.heap.objs.size],_,_,H1,rfl,I1.kept (t':=s1.toks) λb o e=>Heap.get?_push_of_some _ e,Jc a _,⟨_,Heap.get?_push_size _ rfl,rfl,rfl⟩,λb hb=>?_,q⟩
 have e:b=s1.heap.objs.size:=by simpa using hb
 subst e
 exact I1.fpOk (Nat.le_refl _) (I1.hok.fresh (Nat.le_refl _))
theorem Je {pins:List (Addr × Obj)} {σ:St} {H:Hp} {s:Shared} {R:It->Hp->Prop} {E:Value->Shared->Prop} {lo hi:Int} {t u v:Tok} {tk:Nat} (I:zI X pins σ H s) (h1 : -(2 ^ 62)<=lo) (h2:lo < 2 ^ 62) (h3 : -(2 ^ 62)<=hi) (h4:hi < 2 ^ 62)
  (q:R (jl lo (hi - lo).toNat) H):wpAny (model X.prog X.w) X.A (pyIter (.ref s.heap.objs.size)) (WH X pins σ tg R) E { s with heap:=s.heap.push { cls:=.type "range",data:=.fields #[.int lo t,.int hi u,.int 1 v] },toks:=tk }:=by
 refine wpAny_pyIter_range (IsRange.new ..) (small_one h1 h2 h3 h4) ?_
 have I1:zI X pins σ H { s with heap:=s.heap.push { cls:=.type "range",data:=.fields #[.int lo t,.int hi u,.int 1 v] },toks:=tk }:=I.kept λb o e=>Heap.get?_push_of_some _ e
 refine ⟨(s.heap.push { cls:=.type "range",data:=.fields #[.int lo t,.int hi u,.int 1 v] }).objs.size,[(s.heap.push { cls:=.type "range",data:=.fields #[.int lo t,.int hi u,.int 1 v] }).objs.size],_,_,H,rfl,
  I1.kept (t':=tk) λb o e=>Heap.get?_push_of_some _ e,Jd _ lo (hi - lo).toNat,?_,λb hb=>?_,q⟩
 ·have e1:lo + ((0:Nat):Int) * 1=lo:=by simp
  have e2:(((hi - lo).toNat:Nat):Int) - ((0:Nat):Int)=Builtin.Range.rangeSize lo hi 1:=by rw [rangeSize_one]; split <;> omega
  show IsRangeIter _ _ (lo + ((0:Nat):Int) * 1) ((((hi - lo).toNat:Nat):Int) - ((0:Nat):Int)) 1
  rw [e1,e2]
  exact Heap.get?_push_size _ rfl
 ·have e:b=(s.heap.push { cls:=.type "range",data:=.fields #[.int lo t,.int hi u,.int 1 v] }).objs.size:=by simpa using hb
  subst e
  exact I1.fpOk (Nat.le_refl _) (I1.hok.fresh (Nat.le_refl _))
noncomputable def kJ (ta:TA):TI:=λσ H R=>ta σ H λvs H1=>∃ j:Int,vs=[.int j]/\-(2 ^ 62)<=j/\j < 2 ^ 62/\R (jl 0 j.toNat) H1
theorem ua {a:Expr} {ta:TA} {p pos:Pos} (hg:Gl X "range") (hm:X.mg "range" = none) (ha:PA X [a] ta) (hs:starEach [a] X.env=[(false,eval a X.env)]:=by rfl):PI X tg (.Call (.Name "range" p) [a] [] pos) (kJ ta):=by
 intro pins s σ H R I h
 refine Call_ (qS I hg hm boot_range (PyProof.Rows.callWith_type1 (zi (ha pos pins s σ H _ I h) λus s1 ⟨vs,H1,I1,r1,q1⟩=>?_) hs rfl))
 obtain ⟨j,e,q1,q2,q⟩:=q1
 subst e
 cases r1 with
 | cons r rr=>
  cases rr
  obtain ⟨t,rfl⟩:=r
  exact call_range_1 (Je I1 (by omega) (by omega) q1 q2 (by simpa using q))
noncomputable def Yc (wi:TI) (g:TG) (tb:TS):TS:=λD σ H=>wi σ H λJ H1=>∃ W:Nat->Nat->St->Hp->Prop,(∃ m,W 0 m σ H1)/\∀ i m σ H,W i m σ H->
 (J.stop i H/\D.nx σ H)\/(J.go i H/\∃ N:St->Hp->Prop,(∀ σ' H',N σ' H'->∃ m',m' < m/\W (i + 1) m' σ' H')/\∀ x H',J.yld i H x H'->g x σ H' λσ2 H2=>tb { D with nx:=N,ct:=N,bk:=D.nx } σ2 H2)
noncomputable def qV (fp:List Addr) (h:Heap):List (Addr × Obj):=fp.filterMap λb=>(h.get? b).map λo=>(b,o)
theorem qW {fp:List Addr} {h:Heap} {b:Addr} {o:Obj} (hb:b∈fp) (e:h.get? b=some o):(b,o)∈qV fp h:=List.mem_filterMap.mpr ⟨b,hb,by rw [e]; rfl⟩
theorem Jf {fp:List Addr} {h:Heap} {p:Addr × Obj} (hp:p∈qV fp h):p.1∈fp/\h.get? p.1=some p.2:=by
 obtain ⟨b,hb,e⟩:=List.mem_filterMap.mp hp
 cases q:h.get? b with
 | none=>rw [q] at e; cases e
 | some o=>
  rw [q] at e
  have e':(b,o)=p:=Option.some.inj e
  subst e'
  exact ⟨hb,q⟩
theorem zI.pinned {pins:List (Addr × Obj)} {σ:St} {H:Hp} {s:Shared} {fp:List Addr} (I:zI X pins σ H s) (hf:∀ b∈fp,yP X pins H b) (ho:∀ b∈fp,∃ o,s.heap.get? b=some o/\∀ v,o.data≠.cell v):zI X (pins++qV fp s.heap) σ H s:=
 I.pins_of λp hp=>(List.mem_append.mp hp).elim (λz=>I.pin p (List.mem_append_right _ z)) λz=>by
  obtain ⟨hb,e⟩:=Jf z
  obtain ⟨f0,f1,f2,_⟩:=hf p.1 hb
  obtain ⟨o,e',d⟩:=ho p.1 hb
  rw [e] at e'; cases e'
  exact ⟨e,f0,f1,f2,d⟩
theorem zI.unpinned {pins pl:List (Addr × Obj)} {σ:St} {H:Hp} {s:Shared} (I:zI X (pins++pl) σ H s):zI X pins σ H s:=I.pins_of λp hp=>I.pin p (List.mem_append_right _ (List.mem_append_left _ hp))
theorem vt {iter:Expr} {body:List Stmt} {wi:TI} {g:TG} {tb:TS} {pos:Pos} (hp:PassesOwn (model X.prog X.w) X.A X.env X.xe) (hc:X.calm=true) (hi:PI X tg iter wi) (hg:PG X tg g) (hb:vC X body tb)
  (hs:∀ x,foldedSetIterable iter X.env x=pure x:=by intro _; rfl):PS X (.For tg iter body [] pos) (Yc wi g tb):=by
 intro pins s σ H D I h
 refine wpAny_For (zi (hi pins s σ H _ I h) λv s1 h1=>zi h1 λitv s2 h2=>?_) hs
 obtain ⟨it,fp,tn,J,H2,e,I2,T,st2,f2,W,⟨m0,w0⟩,turn⟩:=h2
 subst e
 have stat:∀ {H':Hp},(∀ b∈fp,H' b=none)->∀ b∈fp,yP X pins H' b:=λhn b hb=>⟨hn b hb,(f2 b hb).2⟩
 refine codeAny_forLoop_any (λn s'=>∃ i σ' H',zI X pins σ' H' s'/\tn i s'.heap/\(∀ b∈fp,H' b=none)/\W i n σ' H') ?_ m0 ⟨0,σ,H2,I2,st2,λb hb=>(f2 b hb).1,w0⟩
 rintro n s3 ⟨i,σ3,H3,I3,st3,fr3,w3⟩
 rcases turn i n σ3 H3 w3 with ⟨stop,qn⟩ | ⟨go,N,hN,step⟩
 ·refine wpAny_passesOwn hp (zi (T.done X rfl rfl rfl hc i pins s3 σ3 H3 X.xe I3 (stat fr3) st3 stop) λr s4 ⟨hr,I4⟩=>?_)
  subst hr
  exact wpAny_execs_nil ⟨σ3,H3,I4,qn⟩
 ·refine wpAny_passesOwn hp (zi (T.item X rfl rfl rfl hc i pins s3 σ3 H3 X.xe I3 (stat fr3) st3 go) λr s4 ⟨u,hr,h4⟩=>?_)
  subst hr
  refine wpAny_passesOwn hp (zi h4 λ_ s5 ⟨x,H5,I5,r5,y5,st5,fr5⟩=>?_)
  have I5':=I5.pinned (stat fr5) (T.obj _ _ st5)
  refine wpAny_passesOwn hp (zi (hg _ s5 σ3 H5 x u _ I5' r5 (step x H5 y5)) λ_ s6 ⟨σ6,H6,I6,q6⟩=>?_)
  refine wpAny_passesOwn hp (zi (hb _ s6 σ6 H6 _ I6 q6) λf s7 q7=>?_)
  have again:∀ {σ7:St} {H7:Hp},zI X (pins++qV fp s5.heap) σ7 H7 s7->N σ7 H7->∃ m,m < n/\∃ i σ' H',zI X pins σ' H' s7/\tn i s7.heap/\(∀ b∈fp,H' b=none)/\W i m σ' H':=λ{σ7 H7} I7 n7=>by
   obtain ⟨m',hm,w7⟩:=hN σ7 H7 n7
   refine ⟨m',hm,i + 1,σ7,H7,I7.unpinned,T.keep _ _ _ st5 λb hb o e=>(I7.pin (b,o) (List.mem_append_right _ (List.mem_append_right _ (qW hb e)))).1,λb hb=>?_,w7⟩
   obtain ⟨o,e,d⟩:=T.obj _ _ st5 b hb
   exact (I7.pin (b,o) (List.mem_append_right _ (List.mem_append_right _ (qW hb e)))).2.1
  cases f with
  | next=>obtain ⟨σ7,H7,I7,n7⟩:=q7; exact again I7 n7
  | cont=>obtain ⟨σ7,H7,I7,n7⟩:=q7; exact again I7 n7
  | brk=>obtain ⟨σ7,H7,I7,q7⟩:=q7; exact ⟨σ7,H7,I7.unpinned,q7⟩
  | ret v=>obtain ⟨x7,σ7,H7,I7,r7,q7⟩:=q7; exact ⟨x7,σ7,H7,I7.unpinned,r7,q7⟩
end
theorem qX {K:PySem.W.Frag} {a:Addr} {xs:List V} {g:TG} {tb:TS} {D:wC} {σ:St} {H:Hp} (Pv:Nat->St->Hp->Prop) (h0:Pv 0 σ H) (hl:∀ i σ H,i<=xs.length->Pv i σ H->zE K H a xs)
  (hs:∀ i x σ H,xs[i]? = some x->Pv i σ H->g x σ H λσ2 H2=>tb { D with nx:=Pv (i + 1),ct:=Pv (i + 1),bk:=D.nx } σ2 H2) (hd:∀ σ H,Pv xs.length σ H->D.nx σ H) :
  ∃ W:Nat->Nat->St->Hp->Prop,(∃ m,W 0 m σ H)/\∀ i m σ H,W i m σ H->
   ((qT K a).stop i H/\D.nx σ H)\/((qT K a).go i H/\∃ N:St->Hp->Prop,(∀ σ' H',N σ' H'->∃ m',m' < m/\W (i + 1) m' σ' H')/\∀ x H',(qT K a).yld i H x H'->g x σ H' λσ2 H2=>tb { D with nx:=N,ct:=N,bk:=D.nx } σ2 H2):=by
 refine ⟨λi m σ H=>m=xs.length - i/\i<=xs.length/\Pv i σ H,⟨xs.length,by simp,Nat.zero_le _,h0⟩,?_⟩
 rintro i m σ H ⟨rfl,hi,p⟩
 have q:=hl i σ H hi p
 by_cases hlt:i < xs.length
 ·refine .inr ⟨⟨xs,xs[i],q,by simp [hlt]⟩,Pv (i + 1),λσ' H' p'=>⟨xs.length - (i + 1),by omega,rfl,hlt,p'⟩,λx H' y=>?_⟩
  obtain ⟨e,y⟩:=y
  subst e
  exact hs i x σ _ (y xs q) p
 ·have e:i=xs.length:=by omega
  subst e
  exact .inl ⟨⟨xs,q,Nat.le_refl _⟩,hd σ H p⟩
theorem ZZ {lo:Int} {n:Nat} {g:TG} {tb:TS} {D:wC} {σ:St} {H:Hp} (Pv:Nat->St->Hp->Prop) (h0:Pv 0 σ H)
  (hs:∀ i σ H,i < n->Pv i σ H->g (.int (lo + i)) σ H λσ2 H2=>tb { D with nx:=Pv (i + 1),ct:=Pv (i + 1),bk:=D.nx } σ2 H2) (hd:∀ σ H,Pv n σ H->D.nx σ H) :
  ∃ W:Nat->Nat->St->Hp->Prop,(∃ m,W 0 m σ H)/\∀ i m σ H,W i m σ H->
   ((jl lo n).stop i H/\D.nx σ H)\/((jl lo n).go i H/\∃ N:St->Hp->Prop,(∀ σ' H',N σ' H'->∃ m',m' < m/\W (i + 1) m' σ' H')/\∀ x H',(jl lo n).yld i H x H'->g x σ H' λσ2 H2=>tb { D with nx:=N,ct:=N,bk:=D.nx } σ2 H2):=by
 refine ⟨λi m σ H=>m=n - i/\i<=n/\Pv i σ H,⟨n,by simp,Nat.zero_le _,h0⟩,?_⟩
 rintro i m σ H ⟨rfl,hi,p⟩
 by_cases hlt:i < n
 ·refine .inr ⟨hlt,Pv (i + 1),λσ' H' p'=>⟨n - (i + 1),by omega,rfl,hlt,p'⟩,λx H' y=>?_⟩
  obtain ⟨e,y⟩:=y
  subst e y
  exact hs i σ _ hlt p
 ·have e:i=n:=by omega
  subst e
  exact .inl ⟨Nat.le_refl _,hd σ H p⟩
end L2
namespace L2
open PySem PySem.Spec PyProof.Rows
noncomputable abbrev R2:=V->V->Hp->VK->Prop
noncomputable def xU (X:Cx) (f:Value->Value->Sem Value) (r:R2):Prop:=
 ∀ (pins:List (Addr × Obj)) (s:Shared) (σ:St) (H:Hp) (x y:V) (v u:Value) (Q:VK),zI X pins σ H s->zS x v->zS y u->r x y H Q->
  wpAny (model X.prog X.w) X.A (f v u) (EP X pins σ Q) X.xe s
noncomputable def Yd (X:Cx) (f:Value->Sem Value) (r:V->Hp->VK->Prop):Prop:=
 ∀ (pins:List (Addr × Obj)) (s:Shared) (σ:St) (H:Hp) (x:V) (v:Value) (Q:VK),zI X pins σ H s->zS x v->r x H Q->
  wpAny (model X.prog X.w) X.A (f v) (EP X pins σ Q) X.xe s
noncomputable def ya (X:Cx) (f:Value) (r:List V->Hp->VK->Prop):Prop:=
 ∀ (pins:List (Addr × Obj)) (s:Shared) (σ:St) (H:Hp) (xs:List V) (us:List Value) (Q:VK),zI X pins σ H s->zN xs us->r xs H Q->
  wpAny (model X.prog X.w) X.A (call f us) (EP X pins σ Q) X.xe s
noncomputable def Za (r:R2) (ta tb:TE):TE:=λσ H Q=>ta σ H λx H1=>tb σ H1 λy H2=>r x y H2 Q
noncomputable def Jg (r:V->Hp->VK->Prop) (ta:TE):TE:=λσ H Q=>ta σ H λx H1=>r x H1 Q
noncomputable def rI (C:Int->Int->Prop) (g:Int->Int->V):R2:=λx y H Q=>∃ i j,x=.int i/\y=.int j/\C i j/\Q (g i j) H
noncomputable def jL (g:Int->Int->V):R2:=λx y H Q=>∃ i j,x=.int i/\y=.int j/\Q (g i j) H
noncomputable def rU (g:Int->V):V->Hp->VK->Prop:=λx H Q=>∃ i,x=.int i/\Q (g i) H
section
variable {X:Cx} {a b c:Expr} {ta tb tc:TE} {pos:Pos}
theorem jm (ha:PE X a ta) (hb:PE X b tb) {pins:List (Addr × Obj)} {s:Shared} {σ:St} {H:Hp} {R:V->V->Hp->Prop} (I:zI X pins σ H s)
  (h:ta σ H λx H1=>tb σ H1 λy H2=>R x y H2) {Q:Value->Shared->Prop} {f:Value->Value->Sem Value}
  (hf:∀ v u s2 x y H2,zI X pins σ H2 s2->zS x v->zS y u->R x y H2->wpAny (model X.prog X.w) X.A (f v u) Q X.xe s2) :
  wpAny (model X.prog X.w) X.A (eval a X.env) (λv s₁=>wpAny (model X.prog X.w) X.A (eval b X.env) (λu s₂=>wpAny (model X.prog X.w) X.A (f v u) Q X.xe s₂) X.xe s₁) X.xe s:=by
 refine zi (ha pins s σ H _ I h) λv s1 ⟨x,H1,I1,r1,q1⟩=>?_
 refine zi (hb pins s1 σ H1 _ I1 q1) λu s2 ⟨y,H2,I2,r2,q2⟩=>?_
 exact hf v u s2 x y H2 I2 r1 r2 q2
theorem zP {op:Operator} {r:R2} (ho:xU X (binaryOp op) r) (ha:PE X a ta) (hb:PE X b tb):PE X (.BinOp a op b pos) (Za r ta tb):=by
 intro pins s σ H Q I h
 exact wpAny_BinOp (jm ha hb I h λv u s2 x y H2 I2 rx ry q=>ho pins s2 σ H2 x y v u Q I2 rx ry q)
theorem qY {op:UnaryOp} {r:V->Hp->VK->Prop} (ho:Yd X (unaryOp op) r) (ha:PE X a ta):PE X (.UnaryOp op a pos) (Jg r ta):=by
 intro pins s σ H Q I h
 exact UnaryOp_ (zi (ha pins s σ H _ I h) λv s1 ⟨x,H1,I1,r1,q1⟩=>ho pins s1 σ H1 x v Q I1 r1 q1)
theorem Zb {f:Value->Value->Sem Value} {C:Int->Int->Prop} {g:Int->Int->Int}
  (rule:∀ (i j:Int) (t u:Tok) (s:Shared) (Q:Value->Shared->Prop) (E:Value->Shared->Prop),C i j->Q (.int (g i j) s.toks) { s with toks:=s.toks + 1 }->wpAny (model X.prog X.w) X.A (f (.int i t) (.int j u)) Q E s) :
  xU X f (rI C λi j=>.int (g i j)):=by
 intro pins s σ H x y v u Q I rx ry h
 obtain ⟨i,j,rfl,rfl,hc,q⟩:=h
 obtain ⟨t,rfl⟩:=rx
 obtain ⟨t',rfl⟩:=ry
 exact rule i j t t' s _ _ hc ⟨.int (g i j),H,I.tok _,⟨_,rfl⟩,q⟩
theorem kK {f:Value->Value->Sem Value} {g:Int->Int->Int}
  (rule:∀ (i j:Int) (t u:Tok) (s:Shared) (Q:Value->Shared->Prop) (E:Value->Shared->Prop),Q (.int (g i j) s.toks) { s with toks:=s.toks + 1 }->wpAny (model X.prog X.w) X.A (f (.int i t) (.int j u)) Q E s) :
  xU X f (jL λi j=>.int (g i j)):=by
 intro pins s σ H x y v u Q I rx ry h
 obtain ⟨i,j,rfl,rfl,q⟩:=h
 obtain ⟨t,rfl⟩:=rx
 obtain ⟨t',rfl⟩:=ry
 exact rule i j t t' s _ _ ⟨.int (g i j),H,I.tok _,⟨_,rfl⟩,q⟩
theorem ut {f:Value->Value->Sem Value} {g:Int->Int->Bool}
  (rule:∀ (i j:Int) (t u:Tok) (s:Shared) (Q:Value->Shared->Prop) (E:Value->Shared->Prop),Q (.bool (g i j)) s->wpAny (model X.prog X.w) X.A (f (.int i t) (.int j u)) Q E s) :
  xU X f (jL λi j=>.bl (g i j)):=by
 intro pins s σ H x y v u Q I rx ry h
 obtain ⟨i,j,rfl,rfl,q⟩:=h
 obtain ⟨t,rfl⟩:=rx
 obtain ⟨t',rfl⟩:=ry
 exact rule i j t t' s _ _ ⟨.bl (g i j),H,I,rfl,q⟩
noncomputable def Ye (i j:Int):Prop:=0<=j/\j<=1000000/\i.natAbs < 2 ^ 64
noncomputable def kL (i j:Int):Prop:=(-(2 ^ 64) < i/\i < 2 ^ 64)\/(-(2 ^ 64) < j/\j < 2 ^ 64)
theorem kL.ok {i j:Int} (h:kL i j):IntMulOk i j:=by
 rcases h with ⟨h1,h2⟩ | ⟨h1,h2⟩
 ·exact .of_left (intBits_le_64 h1 h2)
 ·exact .of_right (intBits_le_64 h1 h2)
theorem yS:xU X (binaryOp .Add) (jL λi j=>.int (i + j)):=kK λ_ _ _ _ _ _ _ q=>add_int q
theorem vS:xU X (binaryOp .Sub) (jL λi j=>.int (i - j)):=kK λ_ _ _ _ _ _ _ q=>sub_int q
theorem xm:xU X (binaryOp .Mod) (rI (λ_ j=>j≠0) λi j=>.int (i.fmod j)):=Zb λ_ _ _ _ _ _ _ hc q=>mod_int' hc q
theorem jp:xU X (binaryOp .Pow) (rI Ye λi j=>.int (i ^ j.toNat)):=Zb λ_ _ _ _ _ _ _ hc q=>pow_int_small hc.1 hc.2.1 hc.2.2 q
theorem Jh {f:Value->Sem Value} {g:Int->Int}
  (rule:∀ (i:Int) (t:Tok) (s:Shared) (Q:Value->Shared->Prop) (E:Value->Shared->Prop),Q (.int (g i) s.toks) { s with toks:=s.toks + 1 }->wpAny (model X.prog X.w) X.A (f (.int i t)) Q E s) :
  Yd X f (rU λi=>.int (g i)):=by
 intro pins s σ H x v Q I rx h
 obtain ⟨i,rfl,q⟩:=h
 obtain ⟨t,rfl⟩:=rx
 exact rule i t s _ _ ⟨.int (g i),H,I.tok _,⟨_,rfl⟩,q⟩
theorem qZ:Yd X (unaryOp .USub) (rU λi=>.int (-i)):=Jh λ_ _ _ _ _ q=>neg_int q
end
noncomputable def kM:V->V->Bool
 | .non,.non=>true | .non,.int _=>true | .int _,.non=>true | .non,.bl _=>true | .bl _,.non=>true | .non,.str _=>true | .str _,.non=>true
 | .int _,.int _=>true | .bl _,.bl _=>true | .str _,.str _=>true | .byt _,.byt _=>true
 | .int _,.str _=>true | .str _,.int _=>true | .bl _,.str _=>true | .str _,.bl _=>true
 | _,_=>false
noncomputable def Ji:R2:=λx y H Q=>kM x y=true/\Q (.bl (decide (x=y))) H
noncomputable def Jj:R2:=λx y H Q=>kM x y=true/\Q (.bl (!decide (x=y))) H
theorem WJ {i j:Int}:decide (V.int i=V.int j)=(i == j):=by
 rw [Bool.eq_iff_iff]
 simp
theorem WK {i j:Bool}:decide (V.bl i=V.bl j)=(i == j):=by
 rw [Bool.eq_iff_iff]
 simp
theorem WL {i j:Str}:decide (V.str i=V.str j)=(i == j):=by
 rw [Bool.eq_iff_iff]
 simp
theorem WM {i j:Array UInt8}:decide (V.byt i=V.byt j)=(i.toList == j.toList):=by
 rw [Bool.eq_iff_iff]
 cases i
 cases j
 simp
section
variable {X:Cx} {a b c:Expr} {ta tb tc:TE} {pos:Pos}
theorem yt {pins:List (Addr × Obj)} {σ:St} {H:Hp} {s:Shared} {Q:VK} {k k':Bool} (I:zI X pins σ H s) (q:Q (.bl k) H) (e:k=k'):EP X pins σ Q (.bool k') s:=by
 subst e
 exact ⟨.bl k,H,I,rfl,q⟩
theorem xB:xU X (compareOp .Eq) Ji:=by
 intro pins s σ H x y v u Q I rx ry h
 obtain ⟨hs,q⟩:=h
 cases x with
 | non=>
  cases rx
  cases y with
  | non=>cases ry; exact PySem.EqNone.eq_none_none (yt I q (by simp))
  | bl j=>cases ry; exact PySem.EqNone.eq_none_bool (yt I q (by simp))
  | int j=>obtain ⟨t',rfl⟩:=ry; exact PySem.EqNone.eq_none_int (yt I q (by simp))
  | str j=>obtain ⟨t',rfl⟩:=ry; exact PySem.EqNone.eq_none_str (yt I q (by simp))
  | _=>exact absurd (show false=true from hs) Bool.false_ne_true
 | bl i=>
  cases rx
  cases y with
  | non=>cases ry; exact PySem.EqNone.eq_bool_none (yt I q (by simp))
  | bl j=>cases ry; exact eq_bool (yt I q WK)
  | str j=>obtain ⟨t',rfl⟩:=ry; exact PySem.EqMixed.eq_bool_str (yt I q (by simp))
  | _=>exact absurd (show false=true from hs) Bool.false_ne_true
 | int i=>
  obtain ⟨t,rfl⟩:=rx
  cases y with
  | non=>cases ry; exact PySem.EqNone.eq_int_none (yt I q (by simp))
  | int j=>obtain ⟨t',rfl⟩:=ry; exact eq_int (yt I q WJ)
  | str j=>obtain ⟨t',rfl⟩:=ry; exact PySem.EqMixed.eq_int_str (yt I q (by simp))
  | _=>exact absurd (show false=true from hs) Bool.false_ne_true
 | str i=>
  obtain ⟨t,rfl⟩:=rx
  cases y with
  | non=>cases ry; exact PySem.EqNone.eq_str_none (yt I q (by simp))
  | bl j=>cases ry; exact PySem.EqMixed.eq_str_bool (yt I q (by simp))
  | int j=>obtain ⟨t',rfl⟩:=ry; exact PySem.EqMixed.eq_str_int (yt I q (by simp))
  | str j=>obtain ⟨t',rfl⟩:=ry; exact eq_str (yt I q WL)
  | _=>exact absurd (show false=true from hs) Bool.false_ne_true
 | byt i=>
  obtain ⟨t,rfl⟩:=rx
  cases y with
  | byt j=>obtain ⟨t',rfl⟩:=ry; exact PySem.W.eq_bytes (yt I q WM)
  | _=>exact absurd (show false=true from hs) Bool.false_ne_true
 | _=>cases y <;> exact absurd (show false=true from hs) Bool.false_ne_true
theorem vf:xU X (compareOp .NotEq) Jj:=by
 intro pins s σ H x y v u Q I rx ry h
 obtain ⟨hs,q⟩:=h
 cases x with
 | non=>
  cases rx
  cases y with
  | non=>cases ry; exact PySem.EqNone.ne_none_none (yt I q (by simp))
  | bl j=>cases ry; exact PySem.EqNone.ne_none_bool (yt I q (by simp))
  | int j=>obtain ⟨t',rfl⟩:=ry; exact PySem.EqNone.ne_none_int (yt I q (by simp))
  | str j=>obtain ⟨t',rfl⟩:=ry; exact PySem.EqNone.ne_none_str (yt I q (by simp))
  | _=>exact absurd (show false=true from hs) Bool.false_ne_true
 | bl i=>
  cases rx
  cases y with
  | non=>cases ry; exact PySem.EqNone.ne_bool_none (yt I q (by simp))
  | bl j=>cases ry; exact ne_bool (yt I q (congrArg not WK))
  | str j=>obtain ⟨t',rfl⟩:=ry; exact PySem.EqMixed.ne_bool_str (yt I q (by simp))
  | _=>exact absurd (show false=true from hs) Bool.false_ne_true
 | int i=>
  obtain ⟨t,rfl⟩:=rx
  cases y with
  | non=>cases ry; exact PySem.EqNone.ne_int_none (yt I q (by simp))
  | int j=>obtain ⟨t',rfl⟩:=ry; exact ne_int (yt I q (congrArg not WJ))
  | str j=>obtain ⟨t',rfl⟩:=ry; exact PySem.EqMixed.ne_int_str (yt I q (by simp))
  | _=>exact absurd (show false=true from hs) Bool.false_ne_true
 | str i=>
  obtain ⟨t,rfl⟩:=rx
  cases y with
  | non=>cases ry; exact PySem.EqNone.ne_str_none (yt I q (by simp))
  | bl j=>cases ry; exact PySem.EqMixed.ne_str_bool (yt I q (by simp))
  | int j=>obtain ⟨t',rfl⟩:=ry; exact PySem.EqMixed.ne_str_int (yt I q (by simp))
  | str j=>obtain ⟨t',rfl⟩:=ry; exact ne_str (yt I q (congrArg not WL))
  | _=>exact absurd (show false=true from hs) Bool.false_ne_true
 | byt i=>
  obtain ⟨t,rfl⟩:=rx
  cases y with
  | byt j=>obtain ⟨t',rfl⟩:=ry; exact PySem.W.ne_bytes (yt I q (congrArg not WM))
  | _=>exact absurd (show false=true from hs) Bool.false_ne_true
 | _=>cases y <;> exact absurd (show false=true from hs) Bool.false_ne_true
theorem jM:xU X (compareOp .Lt) (jL λi j=>.bl (decide (i < j))):=ut λ_ _ _ _ _ _ _ q=>lt_int q
theorem kN:xU X (compareOp .LtE) (jL λi j=>.bl (decide (i<=j))):=ut λ_ _ _ _ _ _ _ q=>le_int q
theorem Zc:xU X (compareOp .Gt) (jL λi j=>.bl (decide (j < i))):=ut λ_ _ _ _ _ _ _ q=>gt_int q
theorem WN:xU X (compareOp .GtE) (jL λi j=>.bl (decide (j<=i))):=ut λ_ _ _ _ _ _ _ q=>ge_int q
theorem Jk:xU X (compareOp .In) (λx y H Q=>∃ i j,x=.str i/\y=.str j/\Q (.bl (!(Builtin.Str.occurrences j i 0 j.length 1).isEmpty)) H):=by
 intro pins s σ H x y v u Q I rx ry h
 obtain ⟨i,j,rfl,rfl,q⟩:=h
 obtain ⟨t,rfl⟩:=rx
 obtain ⟨t',rfl⟩:=ry
 exact in_str (yt I q rfl)
theorem zp (b:Expr) {op:CmpOp} (h:op≠.In:=by decide) (h2:op≠.NotIn:=by decide):behindInMarks op b=false:=by
 have e1:(op == CmpOp.In)=false:=by cases op <;> first | rfl | exact absurd rfl h
 have e2:(op == CmpOp.NotIn)=false:=by cases op <;> first | rfl | exact absurd rfl h2
 cases b <;> simp [behindInMarks,e1,e2]
theorem ub {op:CmpOp} {r:R2} (ho:xU X (compareOp op) r) (ha:PE X a ta) (hb:PE X b tb) (hm:behindInMarks op b=false):PE X (.Compare a [op] [b] pos) (Za r ta tb):=by
 intro pins s σ H Q I h
 exact wpAny_Compare1 (jm ha hb I h λv u s2 x y H2 I2 rx ry q=>ho pins s2 σ H2 x y v u Q I2 rx ry q) hm
noncomputable def kO (t:TE):TT:=λσ H Q=>t σ H λx H'=>∃ k,x=.bl k/\Q k H'
theorem yK {op:CmpOp} {r:R2} (ho:xU X (compareOp op) r) (ha:PE X a ta) (hb:PE X b tb) (hm:behindInMarks op b=false):PT X (.Compare a [op] [b] pos) (kO (Za r ta tb)):=by
 intro pins s σ H Q I h
 refine wpAny_isTrue_Compare1 (zi (ha pins s σ H _ I h) λv s1 ⟨x,H1,I1,r1,q1⟩=>zi (hb pins s1 σ H1 _ I1 q1) λu s2 ⟨y,H2,I2,r2,q2⟩=>
  zi (ho pins s2 σ H2 x y v u _ I2 r1 r2 q2) λc s3 ⟨z,H3,I3,r3,k,e,q3⟩=>?_) hm
 subst e
 cases r3
 exact wpAny_truthy_bool ⟨H3,I3,q3⟩
theorem Zd:(sizeLine:Nat) < 2 ^ 63:=by rw [sizeLine_eq]; decide
theorem vg {x:V} {us:List Value} (r:zN [x] us):∃ u,us=[u]/\zS x u:=by
 cases r with
 | cons r1 r2=>cases r2; exact ⟨_,rfl,r1⟩
theorem Yg {x y:V} {us:List Value} (r:zN [x,y] us):∃ u w',us=[u,w']/\zS x u/\zS y w':=by
 cases r with
 | cons r1 r2=>
  cases r2 with
  | cons r3 r4=>cases r4; exact ⟨_,_,rfl,r1,r3⟩
theorem WO:ya X (.builtin "abs") (λxs H Q=>∃ i,xs=[.int i]/\Q (.int (if i < 0 then -i else i)) H):=by
 intro pins s σ H xs us Q I r h
 obtain ⟨i,rfl,q⟩:=h
 obtain ⟨u,rfl,t,rfl⟩:=vg r
 exact call_abs_int λu tk=>⟨.int (if i < 0 then -i else i),H,I.tok _,⟨_,rfl⟩,q⟩
theorem Jl (hc:X.calm=true):ya X (.builtin "max") (λxs H Q=>∃ i j,xs=[.int i,.int j]/\Q (.int (if j > i then j else i)) H):=by
 intro pins s σ H xs us Q I r h
 obtain ⟨i,j,rfl,q⟩:=h
 obtain ⟨u,w',rfl,⟨t,rfl⟩,⟨t',rfl⟩⟩:=Yg r
 refine max_two_ints (I.ok.hd hc) λh' tk k=>⟨_,H,I.kept k,?_,q⟩
 by_cases hj:j > i
 ·rw [if_pos hj,if_pos hj]; exact ⟨_,rfl⟩
 ·rw [if_neg hj,if_neg hj]; exact ⟨_,rfl⟩
end
end L2
namespace L2
open PySem PySem.Spec PyProof.Rows
structure vE (h:Heap) (x dx C:Addr) (mA:Str->Option Value):Prop where
 obj:h.get? x=some (PySem.W.instObj C dx)
 ns:h.Ns1 dx mA
 ne:dx≠x
theorem Jm {h:Heap} {dx:Addr} {mA:Str->Option Value} (n:h.Ns1 dx mA):∃ od,h.get? dx=some od/\∀ name,PySem.W.lookIn name od=some (mA name):=by
 obtain ⟨o,es,ep,ho,hd,hk,_,hm⟩:=n
 refine ⟨o,ho,λname=>?_⟩
 have e:=hm name
 unfold nsFind findBy at e
 rw [<- Array.find?_toList] at e
 unfold PySem.W.lookIn
 rw [hd]
 dsimp only
 split
 ·rename_i y q
  rw [q] at e
  exact congrArg some e
 ·rename_i q
  rw [q] at e
  have a:es.toList.any (·.refKey)=false:=by
   rw [List.any_eq_false]
   intro y hy
   obtain ⟨z,t,hkey⟩:=hk y (Array.mem_toList_iff.mp hy)
   simp [DictEntry.refKey,hkey]
  have a':¬ es.toList.any (·.refKey)=true:=by rw [a]; exact Bool.false_ne_true
  rw [if_neg a']
  exact congrArg some e
theorem vE.look {h:Heap} {x dx C:Addr} {mA:Str->Option Value} (I:vE h x dx C mA):∃ od,PySem.W.InstAt h x (PySem.W.instObj C dx) C (some od)/\∀ name,PySem.W.lookIn name od=some (mA name):=
 let ⟨od,ho,hl⟩:=Jm I.ns
 ⟨od,⟨I.obj,rfl,rfl,ho⟩,hl⟩
section
variable {prog:Program} {w:World} {A:Around} {E:Value->Shared->Prop} {s:Shared} {K:PySem.W.Frag} {x dx C f:Addr} {mA:Str->Option Value} {name:Str} {v:Value}
theorem Jn {expr:Bool} {Q:Value->Shared->Prop} (X:K.In s.heap) (I:vE s.heap x dx C mA) (hg:PySem.W.plainGet K C name=true) (hh:PySem.W.hasDictIn K C=true)
  (ha:PySem.W.findIn K (.ref C) name=some none) (hv:mA name=some v) (hv':PySem.W.handedIn v=true) (h:Q v { s with toks:=s.toks + 1 }) :
  wpAny (model prog w) A (getAttr (.ref x) name expr) Q E s:=by
 obtain ⟨od,J,hl⟩:=I.look
 exact PySem.W.get_value X J (PySem.W.plainGet_of hg).1 (PySem.W.findObj_own hh ha rfl (by rw [hl,hv])) hv' h
theorem Jo {pl:Sem Bool} {Q:Value × List Value->Shared->Prop} (X:K.In s.heap) (I:vE s.heap x dx C mA) (hg:PySem.W.plainGet K C name=true)
  (hf:PySem.W.findIn K (.ref C) name=some (some (.ref f))) (ht:PySem.W.isFn K (.ref f)=true) (hv:mA name=none) (h:Q (.ref f,[.ref x]) s) :
  wpAny (model prog w) A (getMethod (.ref x) name pl) Q E s:=by
 obtain ⟨od,J,hl⟩:=I.look
 exact PySem.W.method_fn X J (PySem.W.plainGet_of hg).1 (PySem.W.plainGet_of hg).2 hf (beq_iff_eq.mp ht) (by show (PySem.W.lookIn name od).map (·.isSome)=some false; rw [hl,hv]; rfl) h
theorem Jp {ns:List Str} {Q:Unit->Shared->Prop} (X:K.In s.heap) (I:vE s.heap x dx C mA)
  (hs:PySem.W.findIn K (.ref C) "__setattr__" = some (some (.builtin "object.__setattr__"))) (hp:PySem.W.plainOver K C=true) (ht:PySem.W.takerIn K C name=some none) (hh:PySem.W.hasDictIn K C=true)
  (hw:PySem.Within mA ns) (hsz:ns.length<=sizeLine)
  (h:∀ h',vE h' x dx C (λy=>if y=name then some v else mA y)->Heap.SameBut dx s.heap h'->Q () { s with heap:=h',toks:=s.toks + 2 }) :
  wpAny (model prog w) A (setAttr (.ref x) name v) Q E s:=by
 obtain ⟨od,J,hl⟩:=I.look
 refine PySem.W.set_plain X J hs (PySem.W.osa_open (s:={ s with toks:=s.toks + 1 }) (r:=none) X J hp ht λb=>?_)
 obtain ⟨cd,hc,hd'⟩:=PySem.W.any_some hh
 have hx:s.heap.get? x=some ⟨.ref C,some dx,.plain,#[]⟩:=I.obj
 refine wpAny_bind (wpAny_pure (wpAny_bind (wpAny_bind (wpAny_loadPart hx (wpAny_bind (PySem.W.Looks.here (s:={ s with toks:=s.toks + 1 }) (PySem.W.looks_clsIn X hc) ?_))))))
 rw [hd']
 refine wpAny_pure (a:=some dx) (wpAny_bind (wpAny_pure (wpAny_bind ?_)))
 refine wpAny_nsSet1 (s:={ s with toks:=s.toks + 1 }) I.ns λh' hn2 hs2=>?_
 obtain ⟨oD,esD,epD,hoD,hdD,hcD⟩:=hn2.count (PySem.Within.cons name v hw)
 refine wpAny_bind (wpAny_lookBehind hoD (by rw [hdD]; exact pastItsLine_dict (Nat.le_trans hcD (by rw [List.length_cons]; omega))) ?_)
 exact wpAny_pure (h _ ⟨(hs2.2 _ (Ne.symm I.ne)).trans I.obj,hn2,I.ne⟩ hs2)
theorem Jq {R:Result->Shared->Prop} {vs:List Value} {kw:List (Str × Value)} (X:K.In s.heap) (hm:PySem.W.makesIn K C=true)
  (hi:PySem.W.findIn K (.ref C) "__init__" = some (some (.ref f))) (hf:PySem.W.typeIn K (.ref f)=some (.type "function"))
  (h:codeAny (model prog w) (A.under (.builtin "type.__call__" ⟨.ref C :: vs,kw⟩)) (.call (.ref f) ⟨.ref (s.heap.objs.size + 1) :: vs,kw⟩) (PySem.W.InitBack (s.heap.objs.size + 1) R)
   { s with heap:=(s.heap.push PySem.W.emptyDict).push (PySem.W.instObj C s.heap.objs.size) }) :
  codeAny (model prog w) A (.call (.ref C) ⟨vs,kw⟩) R s:=by
 obtain ⟨hh,g,d,t,os⟩:=s
 exact PySem.W.make_core (PySem.W.makes_of X hm) (PySem.W.looks_findIn X hi) (λself=>PySem.W.bind_fn X self hf) (.inl rfl) h
end
noncomputable def zB (f:Str) (v:V):List (Str × V)->List (Str × V)
 | []=>[(f,v)]
 | (g,x) :: r=>if g=f then (g,v) :: r else (g,x) :: zB f v r
theorem WP (f g:Str) (v:V):∀ fs:List (Str × V),(zB f v fs).lookup g=if g=f then some v else fs.lookup g
 | []=>by
  show List.lookup g [(f,v)]=_
  by_cases h:g=f
  ·have hb:(g == f)=true:=beq_iff_eq.mpr h
   simp only [List.lookup,hb,if_pos h]
  ·have hb:(g == f)=false:=beq_eq_false_iff_ne.mpr h
   simp only [List.lookup,hb,if_neg h]
 | (k,x) :: r=>by
  have ih:=WP f g v r
  rw [show zB f v ((k,x) :: r)=(if k=f then (k,v) :: r else (k,x) :: zB f v r) from rfl]
  by_cases hk:k=f
  ·rw [if_pos hk]
   by_cases h:g=k
   ·have hb:(g == k)=true:=beq_iff_eq.mpr h
    simp only [List.lookup,hb,if_pos (h.trans hk)]
   ·have hb:(g == k)=false:=beq_eq_false_iff_ne.mpr h
    simp only [List.lookup,hb,if_neg (λe:g=f=>h (e.trans hk.symm))]
  ·rw [if_neg hk]
   by_cases h:g=k
   ·have hb:(g == k)=true:=beq_iff_eq.mpr h
    simp only [List.lookup,hb,if_neg (λe:g=f=>hk (h.symm.trans e))]
   ·have hb:(g == k)=false:=beq_eq_false_iff_ne.mpr h
    simp only [List.lookup,hb]
    exact ih
theorem Yh (f:Str) (v:V):∀ fs:List (Str × V),f∈(zB f v fs).map (·.1)/\∀ g,g∈fs.map (·.1)->g∈(zB f v fs).map (·.1)
 | []=>⟨by simp [zB],λg h=>by simp at h⟩
 | (k,x) :: r=>by
  obtain ⟨i1,i2⟩:=Yh f v r
  rw [show zB f v ((k,x) :: r)=(if k=f then (k,v) :: r else (k,x) :: zB f v r) from rfl]
  by_cases hk:k=f
  ·rw [if_pos hk]
   subst hk
   exact ⟨by simp,λg h=>by simpa using h⟩
  ·rw [if_neg hk]
   refine ⟨?_,λg h=>?_⟩
   ·rw [List.map_cons]
    exact List.mem_cons_of_mem _ i1
   ·rw [List.map_cons] at h |-
    rcases List.mem_cons.mp h with e | e
    ·exact List.mem_cons.mpr (.inl e)
    ·exact List.mem_cons_of_mem _ (i2 g e)
theorem WQ (f:Str) (v:V):∀ fs:List (Str × V),(zB f v fs).length<=fs.length + 1
 | []=>by simp [zB]
 | (k,x) :: r=>by
  have ih:=WQ f v r
  rw [show zB f v ((k,x) :: r)=(if k=f then (k,v) :: r else (k,x) :: zB f v r) from rfl]
  by_cases hk:k=f
  ·rw [if_pos hk,List.length_cons,List.length_cons]; omega
  ·rw [if_neg hk,List.length_cons,List.length_cons]; omega
theorem yl.some_of {v:V} {o:Option Value} (r:yl (some v) o):∃ u,o=some u/\zS v u:=by
 cases o with
 | none=>exact (show False from r).elim
 | some u=>exact ⟨u,rfl,r⟩
theorem yl.none_of {o:Option Value} (r:yl none o):o=none:=by
 cases o with
 | none=>rfl
 | some u=>exact (show False from r).elim
theorem Jr {v:V} {u:Value} (r:zS v u):PySem.W.handedIn u=true:=by
 cases v with
 | non=>cases (show u=Value.none from r); rfl
 | bl b=>cases (show u=Value.bool b from r); rfl
 | int i=>obtain ⟨t,e⟩:=(show ∃ t,u=Value.int i t from r); cases e; rfl
 | str x=>obtain ⟨t,e⟩:=(show ∃ t,u=Value.str x t from r); cases e; rfl
 | byt b=>obtain ⟨t,e⟩:=(show ∃ t,u=Value.bytes b t from r); cases e; rfl
 | flt b=>obtain ⟨t,e⟩:=(show ∃ t,u=Value.float b t from r); cases e; rfl
 | ref a=>cases (show u=Value.ref a from r); rfl
 | ty n=>cases (show u=Value.type n from r); rfl
section
variable {P:Program} {w:World} {H H':Hp} {h h':Heap} {a C dx:Addr} {fs fs':List (Str × V)}
theorem Ze (hok:xN P w H h) (e:H a=some (.ins C dx fs)):∃ mA,vE h a dx C mA/\(∀ f,yl (fs.lookup f) (mA f))/\PySem.Within mA (fs.map (·.1))/\fs.length<=1000/\H dx=some (.own a):=by
 obtain ⟨d,z,ne,ob,mA,n,r,q⟩:=(show xx P w H h a (.ins C dx fs) from hok a _ e)
 exact ⟨mA,⟨ob,n,ne⟩,r,q,z,d⟩
end
structure uc (K:PySem.W.Frag) (C:Addr):Prop where
 pg:PySem.W.plainGet K C Str.empty=true
 hd:PySem.W.hasDictIn K C=true
 po:PySem.W.plainOver K C=true
 sa:PySem.W.findIn K (.ref C) "__setattr__" = some (some (.builtin "object.__setattr__"))
theorem uc.get {K:PySem.W.Frag} {C:Addr} (c:uc K C) (f:Str):PySem.W.plainGet K C f=true:=c.pg
noncomputable def yw (K:PySem.W.Frag) (C:Addr) (f:Str):Prop:=PySem.W.findIn K (.ref C) f=some none
theorem yw.taker {K:PySem.W.Frag} {C:Addr} {f:Str} (n:yw K C f):PySem.W.takerIn K C f=some none:=by
 unfold PySem.W.takerIn
 rw [show PySem.W.findIn K (.ref C) f=some none from n]
 rfl
structure jq (K:PySem.W.Frag) (C:Addr) (m:Str) (f:Addr):Prop where
 at_:PySem.W.findIn K (.ref C) m=some (some (.ref f))
 fn:PySem.W.isFn K (.ref f)=true
 kp:PySem.W.keepIn K (.ref f)=true
section
variable {X:Cx} {pins:List (Addr × Obj)} {σ:St} {H:Hp} {s:Shared} {a C dx:Addr} {fs:List (Str × V)} {f:Str} {v:V} {A:Around} {E:Value->Shared->Prop}
theorem Js {b:Bool} {Q:Value->Shared->Prop} (I:zI X pins σ H s) (e:H a=some (.ins C dx fs)) (c:uc X.K C) (n:yw X.K C f) (l:fs.lookup f=some v)
  (h:∀ u s',zI X pins σ H s'->zS v u->Q u s'):wpAny (model X.prog X.w) A (getAttr (.ref a) f b) Q E s:=by
 obtain ⟨mA,O,r,_,_,_⟩:=Ze I.hok e
 obtain ⟨u,hu,ru⟩:=yl.some_of (v:=v) (o:=mA f) (by rw [<- l]; exact r f)
 exact Jn I.kIn O (c.get f) c.hd n hu (Jr ru) (h u _ (I.tok _) ru)
theorem Jt {m:Str} {g:Addr} {pl:Sem Bool} {Q:Value × List Value->Shared->Prop} (I:zI X pins σ H s) (e:H a=some (.ins C dx fs)) (c:uc X.K C) (k:jq X.K C m g) (l:fs.lookup m=none)
  (h:Q (.ref g,[.ref a]) s):wpAny (model X.prog X.w) A (getMethod (.ref a) m pl) Q E s:=by
 obtain ⟨mA,O,r,_,_,_⟩:=Ze I.hok e
 have hn:mA m=none:=yl.none_of (by rw [<- l]; exact r m)
 exact Jo I.kIn O (c.get m) k.at_ k.fn hn h
theorem Ju {y:V} {u:Value} {Q:Unit->Shared->Prop} (I:zI X pins σ H s) (e:H a=some (.ins C dx fs)) (c:uc X.K C) (n:yw X.K C f) (hl:fs.length < 1000) (ry:zS y u)
  (h:∀ s',zI X pins σ (upd H a (.ins C dx (zB f y fs))) s'->Q () s'):wpAny (model X.prog X.w) A (setAttr (.ref a) f u) Q E s:=by
 obtain ⟨mA,O,r,wi,_,ho⟩:=Ze I.hok e
 have hz:(fs.map (·.1)).length<=sizeLine:=by rw [List.length_map,sizeLine_eq]; omega
 refine Jp I.kIn O c.sa c.po n.taker c.hd wi hz λh' O' sb=>h _ ?_
 have hd:∃ o,h'.get? dx=some o:=let ⟨o,_,_,e',_⟩:=O'.ns; ⟨o,e'⟩
 refine I.write (x:=a) (e:=dx) (by rw [e]; exact True.intro) (.inr ho) (λb q hb z=>(sb.2 b hb).trans z) hd ?_
 refine ⟨by rw [yD O.ne]; exact ho,?_,O.ne,O'.obj,_,O'.ns,λg=>?_,λg hg=>?_⟩
 ·have:=WQ f y fs; omega
 ·show yl ((zB f y fs).lookup g) (if g=f then some u else mA g)
  rw [WP]
  by_cases q:g=f
  ·rw [if_pos q,if_pos q]; exact ry
  ·rw [if_neg q,if_neg q]; exact r g
 ·by_cases q:g=f
  ·rw [q]; exact (Yh f y fs).1
  ·refine (Yh f y fs).2 g (wi g λz=>hg ?_)
   show (if g=f then some u else mA g)=none
   rw [if_neg q]; exact z
theorem zI.made (I:zI X pins σ H s):zI X pins σ (upd (upd H s.heap.objs.size (.own (s.heap.objs.size + 1))) (s.heap.objs.size + 1) (.ins C s.heap.objs.size []))
  { s with heap:=(s.heap.push PySem.W.emptyDict).push (PySem.W.instObj C s.heap.objs.size) }:=by
 have e1:(s.heap.push PySem.W.emptyDict).get? s.heap.objs.size=some PySem.W.emptyDict:=Heap.get?_push_size s.heap rfl
 have e2:((s.heap.push PySem.W.emptyDict).push (PySem.W.instObj C s.heap.objs.size)).get? (s.heap.objs.size + 1)=some (PySem.W.instObj C s.heap.objs.size):=by
  have:=Heap.get?_push_size (s.heap.push PySem.W.emptyDict) (o:=PySem.W.instObj C s.heap.objs.size) rfl
  rwa [Heap.size_push] at this
 have e3:(s.heap.push PySem.W.emptyDict).Ns s.heap.objs.size (λ_=>none):=⟨PySem.W.emptyDict,#[],_,e1,rfl,(λe he=>absurd he (by simp)),λ_=>rfl⟩
 have I1:=I.laid (a:=s.heap.objs.size) (o:=.own (s.heap.objs.size + 1)) (h':=s.heap.push PySem.W.emptyDict) (t':=s.toks) (λb u q=>Heap.get?_push_of_some _ q) (Nat.le_refl _) ⟨_,e1⟩
 refine I1.laid (a:=s.heap.objs.size + 1) (o:=.ins C s.heap.objs.size []) (t':=s.toks) (λb u q=>Heap.get?_push_of_some _ q) (Nat.le_of_eq (Heap.size_push _ _)) ?_
 have ne:s.heap.objs.size≠s.heap.objs.size + 1:=Nat.ne_of_lt (Nat.lt_succ_self _)
 refine ⟨by rw [yD ne,zG],Nat.zero_le _,ne,e2,λ_=>none,(Heap.Ns1.of_empty e3).at λo q=>Heap.get?_push_of_some _ q,λ_=>True.intro,λy hy=>absurd rfl hy⟩
theorem Jv {prog:Program} {w:World} {env:Env} {e:Expr} {f:Str} {pos:Pos} {s:Shared} {Q:Value->Shared->Prop} (hb:attributeBase e f env (eval e env)=eval e env)
  (h:wpAny (model prog w) A (eval e env) (λo s₁=>wpAny (model prog w) A (getAttr o f true) Q E s₁) E s):wpAny (model prog w) A (eval (.Attribute e f pos) env) Q E s:=
 Attribute_any_ h (by rw [arm_eval_Attribute,hb])
end
noncomputable def vF (K:PySem.W.Frag) (ta:TE) (f:Str):TE:=λσ H Q=>ta σ H λx H1=>∃ a C dx fs v,x=.ref a/\H1 a=some (.ins C dx fs)/\uc K C/\yw K C f/\fs.lookup f=some v/\Q v H1
noncomputable def Yi (K:PySem.W.Frag) (ta tv:TE) (f:Str):TS:=λD σ H=>tv σ H λy H1=>ta σ H1 λx H2=>∃ a C dx fs,x=.ref a/\H2 a=some (.ins C dx fs)/\uc K C/\yw K C f/\fs.length < 1000∧
 D.nx σ (upd H2 a (.ins C dx (zB f y fs)))
section
variable {X:Cx} {o e value:Expr} {f:Str} {pos pos' tpos:Pos} {ta tv:TE}
theorem yN (he:PE X e ta) (hb:attributeBase e f X.env (eval e X.env)=eval e X.env):PE X (.Attribute e f pos) (vF X.K ta f):=by
 intro pins s σ H Q I h
 refine Jv hb (zi (he pins s σ H _ I h) λu s1 ⟨x,H1,I1,rx,a,C,dx,fs,v,ex,ea,c,n,l,q⟩=>?_)
 subst ex
 obtain rfl:u=Value.ref a:=rx
 exact Js I1 ea c n l λu' s2 I2 ru=>⟨v,H1,I2,ru,q⟩
theorem xV (ha:PE X o ta) (hv:PE X value tv) (hs:swapsWith value (some (.Attribute o f pos')) pos.line X.env=pure false):PS X (.Assign [.Attribute o f pos'] value pos) (Yi X.K ta tv f):=by
 intro pins s σ H D I h
 refine plainObj_wpAny_Assign_Attribute (zi (hv pins s σ H _ I h) λu s1 ⟨y,H1,I1,ry,q⟩=>zi (ha pins s1 σ H1 _ I1 q) λov s2 ⟨x,H2,I2,rx,a,C,dx,fs,ex,ea,c,n,l,q2⟩=>?_) hs
 subst ex
 obtain rfl:ov=Value.ref a:=rx
 exact Ju I2 ea c n l ry λs3 I3=>⟨σ,_,I3,q2⟩
end
section
variable {X:Cx} {pins:List (Addr × Obj)} {σ:St} {H:Hp} {s:Shared} {A:Around} {E:Value->Shared->Prop} {Q:Value->Shared->Prop} {c:Value} {b:Bool}
inductive ym (K:PySem.W.Frag) (H:Hp):V->Value->Prop where
 | non:ym K H .non (.type "NoneType")
 | bl (x:Bool):ym K H (.bl x) (.type "bool")
 | int (i:Int):ym K H (.int i) (.type "int")
 | str (x:Str):ym K H (.str x) (.type "str")
 | flt (x:UInt64):ym K H (.flt x) (.type "float")
 | lst {a:Addr} {xs:List V} (e:H a=some (.lst xs)):ym K H (.ref a) (.type "list")
 | frz {a:Addr} {o:Obj} {xs:List V} (e:H a=some (.frz o (.lst xs))):ym K H (.ref a) (.type "list")
 | tup {a:Addr} {xs:List V} (e:H a=some (.tup xs)):ym K H (.ref a) (.type "tuple")
 | dK {a:Addr} {kvs:List (yR × V)} (e:H a=some (.dK kvs)):ym K H (.ref a) (.type "dict")
 | dT {a:Addr} {kvs:List (List yR × V)} (e:H a=some (.dT kvs)):ym K H (.ref a) (.type "dict")
 | ins {a C dx:Addr} {fs:List (Str × V)} (e:H a=some (.ins C dx fs)) (cl:uc K C) (ha:PySem.W.findIn K (.ref C) "__class__" = some (some (.builtin "object.__class__")))
   (hn:PySem.W.specialIn K (.builtin "object.__class__") "__get__" = some (some (.builtin "getset_descriptor.__get__"))) (htk:PySem.W.takesIn K (.builtin "object.__class__")=some true)
   (hm:PySem.W.mroIn K C (.type "object")=some true):ym K H (.ref a) (.ref C)
theorem WR {x:V} {u t:Value} (I:zI X pins σ H s) (rx:zS x u) (ty:ym X.K H x t) (e:PySem.W.kitOne X.K t c=some b) (h:∀ tk,Q (.bool b) { s with toks:=tk }) :
  wpAny (model X.prog X.w) A (call (.builtin "isinstance") [u,c]) Q E s:=by
 cases ty with
 | non=>cases (show u=Value.none from rx); exact PySem.W.kia_one PySem.W.kitx_none I.kIn True.intro e (λz=>nomatch z) h
 | bl y=>cases (show u=Value.bool y from rx); exact PySem.W.kia_one PySem.W.kitx_bool I.kIn True.intro e (λz=>nomatch z) h
 | int i=>obtain ⟨t,q⟩:=(show ∃ t,u=Value.int i t from rx); cases q; exact PySem.W.kia_one PySem.W.kitx_int I.kIn True.intro e (λz=>nomatch z) h
 | str y=>obtain ⟨t,q⟩:=(show ∃ t,u=Value.str y t from rx); cases q; exact PySem.W.kia_one PySem.W.kitx_str I.kIn True.intro e (λz=>nomatch z) h
 | flt y=>obtain ⟨t,q⟩:=(show ∃ t,u=Value.float y t from rx); cases q; exact PySem.W.kia_one PySem.W.kitx_float I.kIn True.intro e (λz=>nomatch z) h
 | @lst a xs ea=>
  cases (show u=Value.ref a from rx)
  obtain ⟨_,_,n,_,h1⟩:=(show xx X.prog X.w H s.heap a (.lst xs) from I.hok a _ ea)
  exact PySem.W.kia_one PySem.W.kitx_list I.kIn ⟨_,h1,rfl⟩ e (λz=>nomatch z) h
 | @frz a ob xs ea=>
  cases (show u=Value.ref a from rx)
  obtain ⟨_,_,_,n,_,h1⟩:=(show xx X.prog X.w H s.heap a (.frz ob (.lst xs)) from I.hok a _ ea)
  exact PySem.W.kia_one PySem.W.kitx_list I.kIn ⟨_,h1,rfl⟩ e (λz=>nomatch z) h
 | @tup a xs ea=>
  cases (show u=Value.ref a from rx)
  obtain ⟨_,_,_,p⟩:=(show xx X.prog X.w H s.heap a (.tup xs) from I.hok a _ ea)
  obtain ⟨o,h1,h2,_⟩:=p
  exact PySem.W.kia_one PySem.W.kitx_tuple I.kIn ⟨o,h1,h2⟩ e (λz=>nomatch z) h
 | @dK a kvs ea=>
  cases (show u=Value.ref a from rx)
  obtain ⟨_,_,vs,_,p⟩:=(show xx X.prog X.w H s.heap a (.dK kvs) from I.hok a _ ea)
  obtain ⟨o,es,ep,h1,h2,_⟩:=p
  exact PySem.W.kia_one PySem.W.kitx_dict I.kIn ⟨o,h1,h2.1⟩ e (λz=>nomatch z) h
 | @dT a kvs ea=>
  cases (show u=Value.ref a from rx)
  obtain ⟨_,_,xs,_,o,es,ep,h1,h2,_⟩:=(show xx X.prog X.w H s.heap a (.dT kvs) from I.hok a _ ea)
  exact PySem.W.kia_one PySem.W.kitx_dict I.kIn ⟨o,h1,h2.1⟩ e (λz=>nomatch z) h
 | @ins a C dx fs ea cl ha hn htk hm=>
  cases (show u=Value.ref a from rx)
  obtain ⟨mA,O,_⟩:=Ze I.hok ea
  obtain ⟨od,J,_⟩:=O.look
  exact PySem.W.kia_one (PySem.W.kitx_own (cl.get _) cl.hd ha hn htk hm) I.kIn J e (λz=>nomatch z) h
end
end L2
namespace L2
open PySem PySem.Spec PyProof.Rows
structure zy (k:Nat) (A:Around):Prop where
 hd:A.handled=none
 dp:A.depth + 3 * k + 5 < recursionLimit
 un:A.units + 16 * k + 200 < cLine
theorem zy.mono {j k:Nat} {A:Around} (r:zy k A) (h:j<=k):zy j A:=⟨r.hd,by have:=r.dp; omega,by have:=r.un; omega⟩
theorem zy.deeper {k:Nat} {A:Around} (r:zy (k + 1) A) (env:Env):zy k (A.deeper env):=
 ⟨r.hd,by have:=r.dp; show A.depth + 1 + 3 * k + 5 < _; omega,by have:=r.un; show A.units + 3 + 16 * k + 200 < _; omega⟩
theorem zy.in1 {k:Nat} {A:Around} (r:zy (k + 1) A):zy k A.in1:=
 ⟨r.hd,by have:=r.dp; show A.depth + 3 * k + 5 < _; omega,by have:=r.un; show A.units + 1 + 16 * k + 200 < _; omega⟩
theorem Jw {A:Around} {C:Addr} {us:List Value} {kw:List (Str × Value)}:(A.under (.builtin "type.__call__" ⟨.ref C :: us,kw⟩)).depth=A.depth + 1:=by
 first | rfl | simp [Around.under,Code.weight,Code.isCreation,Code.isGuard,Code.isCaller,Code.frames,Code.isFrame,guardIds]
theorem Jx {A:Around} {C:Addr} {us:List Value} {kw:List (Str × Value)}:(A.under (.builtin "type.__call__" ⟨.ref C :: us,kw⟩)).units=A.units + 1:=by
 first | rfl | simp [Around.under,Code.cUnits,Code.frames,Code.isFrame]
theorem zy.make {k:Nat} {A:Around} (r:zy (k + 1) A) (C:Addr) (us:List Value) (kw:List (Str × Value)):zy k (A.under (.builtin "type.__call__" ⟨.ref C :: us,kw⟩)):=
 ⟨r.hd,by have:=r.dp; rw [Jw]; omega,by have:=r.un; rw [Jx]; omega⟩
theorem zy.depth {k:Nat} {A:Around} (r:zy k A):A.depth < recursionLimit:=by have:=r.dp; omega
theorem zy.units {k:Nat} {A:Around} (r:zy k A):A.units + 64 < cLine:=by have:=r.un; omega
noncomputable def jr:TA:=λ_ H Q=>Q [] H
noncomputable def kP (ta:TE) (tr:TA):TA:=λσ H Q=>ta σ H λx H1=>tr σ H1 λxs H2=>Q (x :: xs) H2
section
variable {X:Cx} {e:Expr} {es:List Expr} {te:TE} {t:TA} {pos:Pos}
theorem zD:PA X [] jr:=λ_ _ _ _ H Q I h=>Calls.spliced_nil ⟨[],H,I,.nil,h⟩
theorem zA (ha:PE X e te) (hr:PA X es t) (hs:starEach (e :: es) X.env=(false,eval e X.env) :: starEach es X.env:=by rfl):PA X (e :: es) (kP te t):=by
 intro pos pins s σ H Q I h
 rw [hs]
 show wpAny _ _ (spliced ((false,eval e X.env) :: backTo pos (starEach es X.env))) _ _ s
 refine Calls.spliced_cons (zi (ha pins s σ H _ I h) λu s1 ⟨x,H1,I1,r1,q1⟩=>?_)
 exact zi (hr pos pins s1 σ H1 _ I1 q1) λus s2 ⟨xs,H2,I2,r2,q2⟩=>⟨x :: xs,H2,I2,.cons r1 r2,q2⟩
noncomputable def Yj (t:TA):TE:=λσ H Q=>t σ H λxs H1=>xs.length<=sizeLine/\∀ p,H1 p=none->Q (.ref p) (upd H1 p (.tup xs))
noncomputable def Yk (t:TA):TE:=λσ H Q=>t σ H λxs H1=>xs.length<=sizeLine/\∀ p,H1 p=none->Q (.ref p) (upd H1 p (.lst xs))
theorem vv {x1} (h:PA X es t):PE X (.Tuple es x1 pos) (Yj t):=by
 intro pins s σ H Q I hq
 refine wpAny_Tuple_spliced (zi (h pos pins s σ H _ I hq) λus s1 ⟨xs,H1,I1,r,z,q⟩=>⟨by rw [<- r.length]; exact z,?_⟩)
 have hf:H1 s1.heap.objs.size=none:=I1.hok.fresh (Nat.le_refl _)
 refine ⟨.ref s1.heap.objs.size,upd H1 s1.heap.objs.size (.tup xs),I1.laid (t':=s1.toks) (λb u e=>Heap.get?_push_of_some _ e) (Nat.le_refl _) ?_,rfl,q _ hf⟩
 exact ⟨z,us,r,⟨_,Heap.get?_push_size _ rfl,rfl,_,rfl⟩⟩
theorem ye (h:PA X es t):PE X (.List es pos) (Yk t):=by
 intro pins s σ H Q I hq
 refine wpAny_List_spliced (zi (h pos pins s σ H _ I hq) λus s1 ⟨xs,H1,I1,r,z,q⟩=>⟨by rw [<- r.length]; exact z,?_⟩)
 have hf:H1 s1.heap.objs.size=none:=I1.hok.fresh (Nat.le_refl _)
 refine ⟨.ref s1.heap.objs.size,upd H1 s1.heap.objs.size (.lst xs),I1.laid (t':=s1.toks) (λb u e=>Heap.get?_push_of_some _ e) (Nat.le_refl _) ?_,rfl,q _ hf⟩
 exact ⟨z,us,0,r,Heap.get?_push_size _ rfl⟩
end
noncomputable abbrev Sp:=List V->Hp->VK->XK->Prop
noncomputable abbrev vG:=List Env->Hp->Shared->XK->Value->Shared->Prop
structure xn (P:Program) (w:World) (K:PySem.W.Frag) (mg:Str->Option Value) (base:Heap) (A:Around) (outer:List Env) (s:Shared) (H:Hp):Prop where
 frames:A.frames=some outer
 mod:Mod K mg base
 bs:∀ b o,base.get? b=some o->s.heap.get? b=some o/\H b=none
 bsz:base.objs.size<=s.heap.objs.size
 funs:s.heap.FunFrames base outer
 frf:∀ b∈vc outer,H b=none
 hok:xN P w H s.heap
 bare:AllBare s.gens
noncomputable def CE (outer:List Env) (P:Program) (w:World) (H:Hp) (s:Shared) (Q:VK) (u:Value) (s':Shared):Prop:=
 ∃ v H',s'.os=s.os/\AllBare s'.gens/\Un (vc outer) [] H H' s.heap s'.heap/\xN P w H' s'.heap/\zS v u/\Q v H'
noncomputable def CR (CX:vG) (outer:List Env) (P:Program) (w:World) (H:Hp) (s:Shared) (Q:VK) (E:XK) (r:Result) (s':Shared):Prop:=
 match r with
 | .ok (.ret u)=>CE outer P w H s Q u s'
 | .ok _=>False
 | .error e=>CX outer H s E e s'
structure zJ (P:Program) (w:World) (K:PySem.W.Frag) (mg:Str->Option Value) (base:Heap) (CX:vG) (k:Nat) (f:Addr) (fd:FuncData) (ps:List Str) (sp:Sp):Prop where
 len:∀ vs H Q E,sp vs H Q E->vs.length=ps.length
 run:∀ (A:Around) (outer:List Env) (s:Shared) (H:Hp) (args:Args) (us:List Value) (vs:List V) (Q:VK) (E:XK),zy k A->xn P w K mg base A outer s H->BindsTo s fd args (ps.zip us)->zN vs us->sp vs H Q E->
  codeAny (model P w) A (.call (.ref f) args) (CR CX outer P w H s Q E) s
theorem zJ.mono {P:Program} {w:World} {K:PySem.W.Frag} {mg:Str->Option Value} {base:Heap} {CX:vG} {j k:Nat} {f:Addr} {fd:FuncData} {ps:List Str} {sp:Sp} (F:zJ P w K mg base CX j f fd ps sp) (h:j<=k) :
  zJ P w K mg base CX k f fd ps sp:=⟨F.len,λA outer s H args us vs Q E hr=>F.run A outer s H args us vs Q E (hr.mono h)⟩
theorem zJ.imp {P:Program} {w:World} {K:PySem.W.Frag} {mg:Str->Option Value} {base:Heap} {CX:vG} {k:Nat} {f:Addr} {fd:FuncData} {ps:List Str} {sp sp':Sp} (F:zJ P w K mg base CX k f fd ps sp)
  (h:∀ vs H Q E,sp' vs H Q E->sp vs H Q E):zJ P w K mg base CX k f fd ps sp':=
 ⟨λvs H Q E q=>F.len vs H Q E (h _ _ _ _ q),λA outer s H args us vs Q E hr he hb hv hs=>F.run A outer s H args us vs Q E hr he hb hv (h _ _ _ _ hs)⟩
theorem xn.make {P:Program} {w:World} {K:PySem.W.Frag} {mg:Str->Option Value} {base:Heap} {A:Around} {outer:List Env} {s:Shared} {H:Hp} (e:xn P w K mg base A outer s H) (C:Addr) (us:List Value) (kw:List (Str × Value)) :
  xn P w K mg base (A.under (.builtin "type.__call__" ⟨.ref C :: us,kw⟩)) outer s H:=⟨by first | exact e.frames | (simpa [Around.under,Code.envs,Code.isFrame,pushEnvs] using e.frames),e.mod,e.bs,e.bsz,e.funs,e.frf,e.hok,e.bare⟩
theorem xn.in1 {P:Program} {w:World} {K:PySem.W.Frag} {mg:Str->Option Value} {base:Heap} {A:Around} {outer:List Env} {s:Shared} {H:Hp} (e:xn P w K mg base A outer s H) :
  xn P w K mg base A.in1 outer s H:=⟨e.frames,e.mod,e.bs,e.bsz,e.funs,e.frf,e.hok,e.bare⟩
section
variable {X:Cx} {pins:List (Addr × Obj)} {σ:St} {H:Hp} {s s':Shared}
theorem zI.env0 (I:zI X pins σ H s):xn X.prog X.w X.K X.mg X.base X.A X.stack s H:=
 ⟨I.ok.frames,I.ok.mod,I.bs,Nat.le_trans I.ok.bsz I.sz,I.stack,I.stkFree,I.hok,I.bare⟩
theorem zI.after {Q:VK} {u:Value} (I:zI X pins σ H s) (h:CE X.stack X.prog X.w H s Q u s'):EP X pins σ Q u s':=by
 obtain ⟨v,H',os,bare,un,hok,r,q⟩:=h
 obtain ⟨hh,g,d,t,os'⟩:=s'
 obtain rfl:os'=s.os:=os
 exact ⟨v,H',I.call (h':=hh) (g':=g) (d':=d) (t':=t) (ch:=[]) un hok bare (λb z=>absurd z (by simp)),r,q⟩
end
noncomputable def Yl (sp:Sp) (dvs:List V) (E:XK) (t:TA):TE:=λσ H Q=>t σ H λvs H1=>sp (vs++dvs) H1 Q E
noncomputable def WS (C:Addr) (m:Str) (sp:Sp) (dvs:List V) (E:XK) (ta:TE) (t:TA):TE:=λσ H Q=>ta σ H λx H1=>∃ a dx fs,x=.ref a/\H1 a=some (.ins C dx fs)/\fs.lookup m=none∧
 t σ H1 λvs H2=>sp (x :: (vs++dvs)) H2 Q E
noncomputable def WT (C:Addr) (sp:Sp) (dvs:List V) (E:XK) (t:TA):TE:=λσ H Q=>t σ H λvs H1=>∀ x dx,H1 x=none->H1 dx=none->dx≠x->
 sp (.ref x :: (vs++dvs)) (upd (upd H1 dx (.own x)) x (.ins C dx [])) (λv H2=>v=.non/\Q (.ref x) H2) E
noncomputable def wS (K:PySem.W.Frag) (fd:FuncData) (ps:List Str) (ds:List Value):Prop:=
 ∀ (s:Shared) (us:List Value),K.In s.heap->(us++ds).length=ps.length->BindsTo s fd ⟨us,[]⟩ (ps.zip (us++ds))
theorem wS.all {K:PySem.W.Frag} {fd:FuncData} {ps:List Str} (h:∀ us:List Value,us.length=ps.length->bindArgs fd ⟨us,[]⟩=pure (ps.zip us)):wS K fd ps []:=λs us _ hl=>by
 rw [List.append_nil] at hl |-
 exact .of_eq (h us hl)
noncomputable def qa (CX:vG) (X:Cx) (E:XK):Prop:=∀ (pins:List (Addr × Obj)) (σ:St) (H:Hp) (s:Shared) (e:Value) (s':Shared),zI X pins σ H s->CX X.stack H s E e s'->X.xe e s'
section
variable {X:Cx} {CX:vG} {k:Nat} {f C:Addr} {fd:FuncData} {ps:List Str} {sp:Sp} {dvs:List V} {ds:List Value} {E:XK} {x m:Str} {p pos apos:Pos} {e o:Expr} {es:List Expr} {ta:TE} {t:TA}
theorem WU {pins:List (Addr × Obj)} {σ:St} {H:Hp} {s:Shared} {Q:VK} {us:List Value} {vs:List V} (F:zJ X.prog X.w X.K X.mg X.base CX k f fd ps sp) (hr:zy k X.A) (hb:wS X.K fd ps ds) (hd:zN dvs ds) (hx:qa CX X E)
  (I:zI X pins σ H s) (r:zN vs us) (h:sp (vs++dvs) H Q E):wpAny (model X.prog X.w) X.A (call (.ref f) us) (EP X pins σ Q) X.xe s:=by
 have r2:zN (vs++dvs) (us++ds):=r.append hd
 have hl:(us++ds).length=ps.length:=by rw [<- r2.length]; exact F.len _ _ _ _ h
 refine wpAny_call (codeAny_mono (F.run X.A X.stack s H ⟨us,[]⟩ (us++ds) (vs++dvs) Q E hr I.env0 (hb s us I.kIn hl) r2 h) λr s' hq=>?_)
 cases r with
 | error e=>exact hx pins σ H s e s' I hq
 | ok fl=>
  cases fl with
  | ret u=>exact I.after hq
  | next=>exact False.elim hq
  | brk=>exact False.elim hq
  | cont=>exact False.elim hq
theorem WV (F:zJ X.prog X.w X.K X.mg X.base CX k f fd ps sp) (hr:zy k X.A) (hg:Gl X x) (hm:X.mg x=some (.ref f)) (hk:PySem.W.keepIn X.K (.ref f)=true) (hb:wS X.K fd ps ds) (hd:zN dvs ds) (hx:qa CX X E)
  (ha:PA X (e :: es) t) (hdb:(x == ("__debug__" : Str))=false:=by decide) (he:starEach (e :: es) X.env=(false,eval e X.env) :: starEach es X.env:=by rfl) (hpl:(backTo pos (starEach es X.env)).any (·.1)=false:=by rfl) :
  PE X (.Call (.Name x p) (e :: es) [] pos) (Yl sp dvs E t):=by
 intro pins s σ H Q I h
 refine wpAny_Call_Name_kw (YM I hg hm ?_ hdb)
 refine PySem.W.callWith_K (h₀:=X.base) I.ok.mod.kin hk (zi (ha pos pins s σ H _ I h) λus s1 ⟨vs,H1,I1,r,q⟩=>⟨I1.kIn,?_⟩) he hpl
 exact WU F hr hb hd hx I1 r q
theorem Jy {pl:Sem Bool} (he:PE X o ta) (c:uc X.K C) (hm:jq X.K C m f) (F:zJ X.prog X.w X.K X.mg X.base CX k f fd ps sp) (hr:zy k X.A) (hb:wS X.K fd ps ds) (hd:zN dvs ds) (hx:qa CX X E)
  (ht:eval (.Call (.Attribute o m apos) [] [] pos) X.env=(do
   let ov <- eval o X.env
   standAt apos.atName
   let (f,first) <- holding [ov] (getMethod ov m pl)
   callWith pos f first (backTo pos (starEach [] X.env)) (backToKw pos (keywordEach [] X.env))):=by rfl) :
  PE X (.Call (.Attribute o m apos) [] [] pos) (WS C m sp dvs E ta jr):=by
 intro pins s σ H Q I h
 refine PySem.W.methodCall_KW (pl:=pl) (zi (he pins s σ H _ I h) λu s1 ⟨x,H1,I1,rx,a,dx,fs,ex,ea,l,q⟩=>?_) ht
 subst ex
 obtain rfl:u=Value.ref a:=rx
 refine Jt I1 ea c hm l ?_
 exact PySem.W.callWith_K0 (first:=[.ref a]) I1.kIn hm.kp (WU (us:=[.ref a]) (vs:=[.ref a]) F hr hb hd hx I1 (.cons rfl .nil) q)
structure Mk (K:PySem.W.Frag) (C f:Addr):Prop where
 makes:PySem.W.makesIn K C=true
 init:PySem.W.findIn K (.ref C) "__init__" = some (some (.ref f))
 fn:PySem.W.isFn K (.ref f)=true
 kp:PySem.W.keepIn K (.ref C)=true
theorem Jz {pins:List (Addr × Obj)} {σ:St} {H:Hp} {s:Shared} {Q:VK} {us:List Value} {vs:List V} (M:Mk X.K C f) (F:zJ X.prog X.w X.K X.mg X.base CX k f fd ps sp) (hr:zy (k + 1) X.A) (hb:wS X.K fd ps ds) (hd:zN dvs ds)
  (hx:qa CX X E) (I:zI X pins σ H s) (r:zN vs us)
  (h:∀ x dx,H x=none->H dx=none->dx≠x->sp (.ref x :: (vs++dvs)) (upd (upd H dx (.own x)) x (.ins C dx [])) (λv H2=>v=.non/\Q (.ref x) H2) E) :
  wpAny (model X.prog X.w) X.A (call (.ref C) us) (EP X pins σ Q) X.xe s:=by
 have hq:=h (s.heap.objs.size + 1) s.heap.objs.size (I.hok.fresh (Nat.le_succ _)) (I.hok.fresh (Nat.le_refl _)) (Nat.ne_of_lt (Nat.lt_succ_self _))
 have I2:=zI.made (C:=C) I
 have r2:zN (V.ref (s.heap.objs.size + 1) :: (vs++dvs)) (Value.ref (s.heap.objs.size + 1) :: (us++ds)):=.cons rfl (r.append hd)
 have hl:(Value.ref (s.heap.objs.size + 1) :: us++ds).length=ps.length:=by
  have e:=r2.length
  rw [F.len _ _ _ _ hq] at e
  exact e.symm
 refine wpAny_call (Jq (f:=f) I.kIn M.makes M.init (beq_iff_eq.mp M.fn) (codeAny_mono (F.run _ X.stack _ _ ⟨Value.ref (s.heap.objs.size + 1) :: us,[]⟩ (Value.ref (s.heap.objs.size + 1) :: (us++ds)) _ _ E (hr.make C us [])
  (I2.env0.make C us []) (hb _ (Value.ref (s.heap.objs.size + 1) :: us) I2.kIn hl) r2 hq) λr s' hq'=>?_))
 cases r with
 | error e=>exact hx pins σ _ _ e s' I2 hq'
 | ok fl=>
  cases fl with
  | ret u=>
   obtain ⟨v,H',I3,rv,ev,q3⟩:=I2.after hq'
   subst ev
   exact ⟨rv,⟨V.ref (s.heap.objs.size + 1),H',I3,rfl,q3⟩⟩
  | next=>exact False.elim hq'
  | brk=>exact False.elim hq'
  | cont=>exact False.elim hq'
theorem J0 (M:Mk X.K C f) (F:zJ X.prog X.w X.K X.mg X.base CX k f fd ps sp) (hr:zy (k + 1) X.A) (hg:Gl X x) (hm:X.mg x=some (.ref C)) (hb:wS X.K fd ps ds) (hd:zN dvs ds) (hx:qa CX X E)
  (ha:PA X (e :: es) t) (hdb:(x == ("__debug__" : Str))=false:=by decide) (he:starEach (e :: es) X.env=(false,eval e X.env) :: starEach es X.env:=by rfl) (hpl:(backTo pos (starEach es X.env)).any (·.1)=false:=by rfl) :
  PE X (.Call (.Name x p) (e :: es) [] pos) (WT C sp dvs E t):=by
 intro pins s σ H Q I h
 refine wpAny_Call_Name_kw (YM I hg hm ?_ hdb)
 refine PySem.W.callWith_K (h₀:=X.base) I.ok.mod.kin M.kp (zi (ha pos pins s σ H _ I h) λus s1 ⟨vs,H1,I1,r,q⟩=>⟨I1.kIn,?_⟩) he hpl
 exact Jz M F hr hb hd hx I1 r q
end
section
variable {X:Cx} {CX:vG} {k:Nat} {f C:Addr} {fd:FuncData} {ps ks:List Str} {sp:Sp} {E:XK} {x m:Str} {p pos apos kpos:Pos} {e o:Expr} {es:List Expr} {kws:List Keyword} {te ta:TE} {t tk:TA} {nm:Option Str}
variable {g:List Value->List Value->List Value} {gV:List V->List V->List V}
end
structure zq (N P:List Str) (sc:Scope):Prop where
 kind:sc.kind=.function
 co:sc.isCoroutine=false
 gen:sc.isGenerator=false
 nd:N.Nodup
 pre:N.take P.length=P
 par:∀ x∈P,sc.names.lookup x=some .local\/sc.names.lookup x=some .cell
 nofree:∀ y∈sc.names,y.2≠.free
theorem zq.a {N P:List Str} {s:Scope} (a:s.kind=.function:=by rfl) (b:s.isCoroutine=false:=by rfl) (c:s.isGenerator=false:=by rfl) (d:N.Nodup:=by decide +kernel) (e:N.take P.length=P:=by rfl) (f:∀ x∈P,s.names.lookup x=some .local\/s.names.lookup x=some .cell:=by decide +kernel) (g:∀ y∈s.names,y.2≠.free:=by decide +kernel):zq N P s:=⟨a,b,c,d,e,f,g⟩
theorem WW {kindOf:Str->Option NameKind} {x:Str}:∀ {binds:List (Str × Value)} {m:Str->Option Value},(∀ v,(x,v)∉binds)->bindL kindOf binds m x=m x
 | [],_,_=>rfl
 | (n,v) :: r,m,h=>by
  unfold bindL
  rw [WW λw hw=>h w (List.mem_cons_of_mem _ hw)]
  split
  ·have:x≠n:=by rintro rfl; exact h v List.mem_cons_self
   simp [this]
  ·rfl
theorem WX {kindOf:Str->Option NameKind} {x:Str}:∀ {binds:List (Str × Value)} {m:Str->Option Value},(∀ v,(x,v)∉binds)->bindC kindOf binds m x=m x
 | [],_,_=>rfl
 | (n,v) :: r,m,h=>by
  unfold bindC
  rw [WX λw hw=>h w (List.mem_cons_of_mem _ hw)]
  split
  ·rfl
  ·have:x≠n:=by rintro rfl; exact h v List.mem_cons_self
   simp [this]
theorem WY {kindOf:Str->Option NameKind} {x:Str} {v:Value}:∀ {P:List Str} {vs:List Value} {i:Nat} {m:Str->Option Value},P.Nodup->P[i]? = some x->vs[i]? = some v->kindOf x=some .local->
  bindL kindOf (P.zip vs) m x=some v
 | [],_,_,_,_,h,_,_=>by simp at h
 | _ :: _,[],_,_,_,_,h,_=>by simp at h
 | p :: P,w :: vs,0,m,nd,h1,h2,hk=>by
  simp at h1 h2; subst h1; subst h2
  show bindL kindOf ((p,w) :: P.zip vs) m p=_
  unfold bindL
  rw [WW λv hv=>(List.nodup_cons.mp nd).1 (List.of_mem_zip hv).1,if_pos hk]
  simp
 | p :: P,w :: vs,i + 1,m,nd,h1,h2,hk=>by
  show bindL kindOf ((p,w) :: P.zip vs) m x=_
  unfold bindL
  exact WY (i:=i) (List.nodup_cons.mp nd).2 (by simpa using h1) (by simpa using h2) hk
theorem WZ {kindOf:Str->Option NameKind} {x:Str} {v:Value}:∀ {P:List Str} {vs:List Value} {i:Nat} {m:Str->Option Value},P.Nodup->P[i]? = some x->vs[i]? = some v->kindOf x≠some .local->
  bindC kindOf (P.zip vs) m x=some v
 | [],_,_,_,_,h,_,_=>by simp at h
 | _ :: _,[],_,_,_,_,h,_=>by simp at h
 | p :: P,w :: vs,0,m,nd,h1,h2,hk=>by
  simp at h1 h2; subst h1; subst h2
  show bindC kindOf ((p,w) :: P.zip vs) m p=_
  unfold bindC
  rw [WX λv hv=>(List.nodup_cons.mp nd).1 (List.of_mem_zip hv).1,if_neg hk]
  simp
 | p :: P,w :: vs,i + 1,m,nd,h1,h2,hk=>by
  show bindC kindOf ((p,w) :: P.zip vs) m x=_
  unfold bindC
  exact WZ (i:=i) (List.nodup_cons.mp nd).2 (by simpa using h1) (by simpa using h2) hk
noncomputable def uu (N:List Str) (vs:List V):St:=vs.map some++List.replicate (N.length - vs.length) none
noncomputable def zQ (CX:vG) (P:Program) (w:World) (K:PySem.W.Frag) (mg:Str->Option Value) (base:Heap) (N:List Str) (qual:Str) (scope:Scope) (f:Addr) (cd:Value) (A:Around) (outer:List Env) (s:Shared) (H:Hp) (E:XK):Cx where
 prog:=P
 w:=w
 K:=K
 mg:=mg
 base:=base
 A:=A.deeper (envOfC qual scope s.heap.objs.size f cd)
 N:=N
 s₀:=s
 H₀:=H
 env:=envOfC qual scope s.heap.objs.size f cd
 outer:=outer
 stack:=envOfC qual scope s.heap.objs.size f cd :: outer
 ex:=[]
 calm:=true
 fn:=λ_=>true
 pn:=[]
 xe:=λe s'=>wpAny (model P w) (A.deeper (envOfC qual scope s.heap.objs.size f cd)) (leaving (envOfC qual scope s.heap.objs.size f cd) e) (λ_ s''=>CX outer H s E e s'') (λe' s''=>CX outer H s E e' s'') s'
theorem Wa {sc:Scope} {n:Nat} {x:Str} (h:sc.names.lookup x=some .cell):∃ c,(cellsFrom n sc.names []).lookup x=some c:=by
 have q:=PySem.W.cellsFrom_some sc.names n [] (.inl h)
 exact Option.isSome_iff_exists.mp q
theorem J7 {CX:vG} {P:Program} {w:World} {K:PySem.W.Frag} {mg:Str->Option Value} {base:Heap} {N ps:List Str} {qual:Str} {scope:Scope} {f:Addr} {cd:Value} {A:Around} {outer:List Env} {s s1:Shared} {H:Hp} {E:XK} {us:List Value} {vs:List V}
  (S:zq N ps scope) (hd:A.handled=none) (e0:xn P w K mg base A outer s H) (hl:vs.length=ps.length) (r:zN vs us)
  (x:InCallC s s.heap.objs.size (bindL (envOfC qual scope s.heap.objs.size f cd).kindOf (ps.zip us) λ_=>none) (cellsFrom (s.heap.objs.size + 1) scope.names []) (bindC (envOfC qual scope s.heap.objs.size f cd).kindOf (ps.zip us) λ_=>none) s1) :
  zI (zQ CX P w K mg base N qual scope f cd A outer s H E) [] (uu N vs) H s1:=by
 have hpl:ps.length<=N.length:=by have:=congrArg List.length S.pre; rw [List.length_take] at this; omega
 obtain ⟨h1,tk,rfl,hk⟩:=x.done
 have noA:∀ b:Addr,b∉(zQ CX P w K mg base N qual scope f cd A outer s H E).ex:=λb z=>absurd (show b∈([]:List Addr) from z) (by simp)
 refine ⟨⟨e0.mod,S.kind,rfl,rfl,Nat.le_refl _,λy z c h1 h2=>?_,λy hy=>?_,λy c _ h=>?_,λ_=>hd,Around.frames_deeper e0.frames,.inr ⟨rfl,rfl⟩,λb z=>absurd z (noA b),e0.bs,e0.bsz,λb _ _=>noA b,λb z=>absurd z (noA b),e0.funs,e0.frf⟩,
  rfl,e0.bare,Un.kept hk,⟨_,x.toInCall.ns,λi y v h1 h2 h3=>?_⟩,λy c h=>⟨_,x.cell y c h⟩,e0.hok.fresh (Nat.le_refl _),λy c h=>?_,λp hp=>absurd (show p∈([]:List (Addr × Obj)) from hp) (by simp),e0.hok.kept hk,?_⟩
 ·exact name_of_addr x.apart (PySem.mem_of_lookup h1) (PySem.mem_of_lookup h2)
 ·have hy:scope.names.lookup y=some .cell\/scope.names.lookup y=some .free:=hy
  rcases hy with hy | hy
  ·exact Wa hy
  ·exact absurd rfl (S.nofree _ (PySem.mem_of_lookup hy))
 ·exact Nat.le_of_lt (x.above y c (PySem.mem_of_lookup h))
 ·have hi:i < vs.length:=by
   unfold uu at h2
   by_cases hi:i < vs.length
   ·exact hi
   ·rw [List.getElem?_append_right (by simpa using hi)] at h2
    rw [List.getElem?_replicate] at h2
    split at h2 <;> cases h2
  have ha:vs[i]? = some v:=by
   unfold uu at h2
   rw [List.getElem?_append_left (by simpa using hi),List.getElem?_map] at h2
   cases e:vs[i]? with
   | none=>rw [e] at h2; cases h2
   | some a=>rw [e] at h2; cases h2; rfl
  obtain ⟨u,hu,rv⟩:=r.get ha
  have hp:ps[i]? = some y:=by
   rw [<- S.pre,List.getElem?_take_of_lt (by omega)]; exact h1
  have ndP:ps.Nodup:=by rw [<- S.pre]; exact S.nd.sublist (List.take_sublist _ _)
  refine ⟨u,rv,?_⟩
  rcases S.par y (List.mem_of_getElem? hp) with k | k
  ·exact .inl ⟨k,WY ndP hp hu k⟩
  ·obtain ⟨c,e⟩:=Wa (n:=s.heap.objs.size + 1) k
   refine .inr ⟨.inl k,c,e,?_⟩
   have q:=x.cell y c e
   rw [WZ ndP hp hu (by show scope.names.lookup y≠_; rw [k]; decide)] at q
   exact q
 ·exact e0.hok.fresh (Nat.le_of_lt (x.above y c (PySem.mem_of_lookup h)))
 ·unfold uu
  show _=N.length
  rw [List.length_append,List.length_map,List.length_replicate]
  omega
theorem Wb {CX:vG} {P:Program} {w:World} {K:PySem.W.Frag} {mg:Str->Option Value} {base:Heap} {k:Nat} {f:Addr} {name qual:Str} {params:Arguments} {body:List Stmt} {scope:Scope} {dV kV doc pm cdv ct oc:Value} {an od:Option Addr}
  {osl:Array (Option Value)} {N ps:List Str} {sp:Sp} (lk:K.lookup f=some ⟨oc,od,.func (PySem.W.fnOf name qual params body scope dV kV doc pm an cdv ct),osl⟩) (hcd:PySem.W.codeIn K cdv qual=true) (S:zq N ps scope)
  (len:∀ vs H Q E,sp vs H Q E->vs.length=ps.length)
  (hbody:∀ (A:Around) (outer:List Env) (s:Shared) (H:Hp) (vs:List V) (Q:VK) (E:XK),zy k (A.deeper (envOfC qual scope s.heap.objs.size f cdv))->sp vs H Q E->
   ∃ t,vC (zQ CX P w K mg base N qual scope f cdv A outer s H E) body t/\t { nx:=λ_ H'=>Q .non H',rt:=Q } (uu N vs) H) :
  zJ P w K mg base CX (k + 1) f (PySem.W.fnOf name qual params body scope dV kV doc pm an cdv ct) ps sp:=by
 refine ⟨len,λA outer s H args us vs Q E hr e0 hb r hsp=>?_⟩
 have hl:=len _ _ _ _ hsp
 have KX:K.In s.heap:=e0.mod.kin.keeps λb o e=>(e0.bs b o e).1
 have lim:s.heap.NoLimit:=e0.mod.nolimit.keeps λb o e=>(e0.bs b o e).1
 have hkind:∀ y∈ps.zip us,scope.names.lookup y.1=some .local\/(scope.names.lookup y.1=some .cell/\((cellsFrom (s.heap.objs.size + 1) scope.names []).lookup y.1).isSome=true):=λ⟨n,v⟩ hy=>by
  rcases S.par n (List.of_mem_zip hy).1 with q | q
  ·exact .inl q
  ·exact .inr ⟨q,PySem.W.cellsFrom_some _ _ _ (.inl q)⟩
 refine codeAny_call_function hr.depth (KX _ _ lk) rfl S.co S.gen rfl (PySem.W.codeRec_of KX hcd) (hb _ _ _ _ ?_)
 refine wpAny_newFunctionEnv_cells S.kind hkind λenv he s1 x=>?_
 subst he
 refine ⟨lim.keeps x.toInCall.keep,codeAny_func ?_⟩
 obtain ⟨t,ht,hq⟩:=hbody A outer s H vs Q E (hr.deeper _) hsp
 have I:zI (zQ CX P w K mg base N qual scope f cdv A outer s H E) [] (uu N vs) H s1:=J7 S hr.hd e0 hl r x
 refine wpAny_mono (ht [] s1 (uu N vs) H _ I hq) (λfl s' hs=>?_) λe s' hs=>hs
 have fin:∀ {σ':St} {H':Hp} {v:V} {u:Value},zI (zQ CX P w K mg base N qual scope f cdv A outer s H E) [] σ' H' s'->zS v u->Q v H'->CE outer P w H s Q u s':=
  λ{σ' H' v u} J rv q=>⟨v,H',J.os,J.bare,J.base,J.hok,rv,q⟩
 cases fl with
 | ret u=>
  obtain ⟨v,σ',H',J,rv,q⟩:=hs
  exact fin J rv q
 | next=>
  obtain ⟨σ',H',J,q⟩:=hs
  exact fin (v:=V.non) (u:=Value.none) J rfl q
 | brk=>
  obtain ⟨_,_,_,q⟩:=hs
  exact False.elim q
 | cont=>
  obtain ⟨_,_,_,q⟩:=hs
  exact False.elim q
end L2
namespace L2
open PySem PySem.Spec PyProof.Rows
section
variable {X:Cx} {x:Str} {p pos:Pos} {e:Expr} {es:List Expr} {t:TA} {id T:String} {r:List V->Hp->VK->Prop}
noncomputable def Wc (r:List V->Hp->VK->Prop) (t:TA):TE:=λσ H Q=>t σ H λvs H1=>r vs H1 Q
theorem zm (hc:ya X (.builtin id) r) (hg:Gl X x) (hm:X.mg x=none) (hv:bootBuiltins x=some (.builtin id)) (ha:PA X (e :: es) t) (hn:x≠"__name__":=by decide) (hdb:(x == ("__debug__" : Str))=false:=by decide)
  (he:starEach (e :: es) X.env=(false,eval e X.env) :: starEach es X.env:=by rfl) (hpl:(backTo pos (starEach es X.env)).any (·.1)=false:=by rfl):PE X (.Call (.Name x p) (e :: es) [] pos) (Wc r t):=by
 intro pins s σ H Q I h
 refine wpAny_Call_Name_kw (qS I hg hm hv ?_ hn hdb)
 exact PyProof.Rows.callWith_builtin1 (zi (ha pos pins s σ H _ I h) λus s1 ⟨vs,H1,I1,r1,q1⟩=>hc pins s1 σ H1 vs us Q I1 r1 q1) he hpl
theorem yz (hc:ya X (.type T) r) (hg:Gl X x) (hm:X.mg x=none) (hv:bootBuiltins x=some (.type T)) (ha:PA X (e :: es) t) (hn:x≠"__name__":=by decide) (hdb:(x == ("__debug__" : Str))=false:=by decide)
  (he:starEach (e :: es) X.env=(false,eval e X.env) :: starEach es X.env:=by rfl) (hpl:(backTo pos (starEach es X.env)).any (·.1)=false:=by rfl):PE X (.Call (.Name x p) (e :: es) [] pos) (Wc r t):=by
 intro pins s σ H Q I h
 refine wpAny_Call_Name_kw (qS I hg hm hv ?_ hn hdb)
 exact PyProof.Rows.callWith_type1 (zi (ha pos pins s σ H _ I h) λus s1 ⟨vs,H1,I1,r1,q1⟩=>hc pins s1 σ H1 vs us Q I1 r1 q1) he hpl
end
end L2
namespace HT
open PySem PyProof.Rows
section
open PySem.SeqAt
open PySem.AutoSeq1 (wpAny_loadPart')
open PySem.MeetsSeq PySem.MeetsSeq2 PySem.MeetsSeq3
end
section
variable {prog:Program} {w:World} {A:Around} {E:Value->Shared->Prop} {s:Shared}
noncomputable def sIx (n d:Nat):Option Int->Nat
 | none=>d
 | some v=>if v < 0 then (v + (n:Int)).toNat else min v.toNat n
theorem sIx_none (n d:Nat):sIx n d none=d:=rfl
theorem sIx_nat (n d k:Nat):sIx n d (some (k:Int))=min k n:=by
 show (if (k:Int) < 0 then ((k:Int) + (n:Int)).toNat else min (k:Int).toNat n)=min k n
 rw [if_neg (by omega),Int.toNat_natCast]
end
end HT
namespace L2
open PySem PySem.Spec PyProof.Rows
noncomputable abbrev TO:=St->Hp->(Option Int->Hp->Prop)->Prop
noncomputable def PO (X:Cx) (e:Option Expr) (t:TO):Prop:=
 ∀ (pins:List (Addr × Obj)) (s:Shared) (σ:St) (H:Hp) (Q:Option Int->Hp->Prop),zI X pins σ H s->t σ H Q->
  wpAny (model X.prog X.w) X.A (evalPart e X.env) (λu s'=>∃ o H',zI X pins σ H' s'/\IsPart u o/\Q o H') X.xe s
noncomputable def J8:TO:=λ_ H Q=>Q none H
noncomputable def kQ (t:TE):TO:=λσ H Q=>t σ H λx H1=>∃ i,x=.int i/\Q (some i) H1
section
variable {X:Cx} {e:Expr} {te:TE} {lo hi:Option Expr} {tl th:TO} {pos p2:Pos}
theorem vh:PO X none J8:=by
 intro pins s σ H Q I h
 rw [evalPart_none]
 exact wpAny_pure ⟨none,H,I,.none,h⟩
theorem yh (h:PE X e te):PO X (some e) (kQ te):=by
 intro pins s σ H Q I hw
 rw [evalPart_some]
 refine zi (h pins s σ H _ I hw) λu s1 ⟨x,H1,I1,r1,q1⟩=>?_
 obtain ⟨i,rfl,q⟩:=q1
 obtain ⟨t,rfl⟩:=r1
 exact ⟨some i,H1,I1,.int i t,q⟩
noncomputable def uv (X:Cx) (r:V->Option Int->Option Int->Hp->VK->Prop):Prop:=
 ∀ (pins:List (Addr × Obj)) (s:Shared) (σ:St) (H:Hp) (x:V) (v vl vu:Value) (lo hi:Option Int) (sl:Addr) (Q:VK),zI X pins σ H s->zS x v->s.heap.IsSliceOf sl vl vu .none->IsPart vl lo->IsPart vu hi->r x lo hi H Q->
  ∃ T id,typeLookup (.type T) "__getitem__" = pure (some (.builtin id))/\s.TypeIs v T/\wpAny (model X.prog X.w) X.A (getItem v (.ref sl)) (EP X pins σ Q) X.xe s
noncomputable def J9 (r:V->Option Int->Option Int->Hp->VK->Prop) (te:TE) (tl th:TO):TE:=λσ H Q=>te σ H λx H1=>tl σ H1 λl H2=>th σ H2 λu H3=>r x l u H3 Q
theorem xW {r:V->Option Int->Option Int->Hp->VK->Prop} (hr:uv X r) (he:PE X e te) (hl:PO X lo tl) (hu:PO X hi th):PE X (.Subscript e (.Slice lo hi none p2) pos) (J9 r te tl th):=by
 intro pins s σ H Q I h
 refine Subscript_ (zi (he pins s σ H _ I h) λv s1 ⟨x,H1,I1,r1,q1⟩=>?_)
 refine wpAny_Slice (zi (hl pins s1 σ H1 _ I1 q1) λvl s2 ⟨l,H2,I2,pl,q2⟩=>zi (hu pins s2 σ H2 _ I2 q2) λvu s3 ⟨u,H3,I3,pu,q3⟩=>?_)
 rw [evalPart_none]
 refine wpAny_pure ?_
 have I4:zI X pins σ H3 { s3 with heap:=s3.heap.push { cls:=.type "slice",data:=.fields #[vl,vu,.none] } }:=I3.kept (t':=s3.toks) λb ob q=>Heap.get?_push_of_some _ q
 obtain ⟨T,id,hT,ht,hg⟩:=hr pins { s3 with heap:=s3.heap.push { cls:=.type "slice",data:=.fields #[vl,vu,.none] } } σ H3 x v vl vu l u s3.heap.objs.size Q I4 r1 (Heap.IsSliceOf.new ..) pl pu q3
 show wpAny (model X.prog X.w) X.A (subscriptTail e (.Slice lo hi none p2) v (.ref s3.heap.objs.size)) (EP X pins σ Q) X.xe { s3 with heap:=s3.heap.push { cls:=.type "slice",data:=.fields #[vl,vu,.none] } }
 exact tail_any (ops:=[.ref s3.heap.objs.size,v]) ht hT hg (by with_unfolding_all rfl)
noncomputable def zk (xs:List V) (lo hi:Option Int):List V:=(xs.drop (HT.sIx xs.length 0 lo)).take (HT.sIx xs.length xs.length hi - HT.sIx xs.length 0 lo)
theorem QA (xs:List V) (lo hi:Option Int):(zk xs lo hi).length<=xs.length:=by
 unfold zk
 rw [List.length_take,List.length_drop]
 omega
end
end L2
namespace L2
open PySem PySem.Spec PyProof.Rows
noncomputable def jN (n:Nat) (i:Int):Option Nat:=if 0<=i then (if i < n then some i.toNat else none) else if -(n:Int)<=i then some (i + n).toNat else none
noncomputable def xC {α:Type} (xs:List α) (i:Int):Option α:=(jN xs.length i).bind λj=>xs[j]?
theorem QB {n:Nat} {i:Int} {j:Nat} (h:jN n i=some j):seqIndex? i n=some j/\j < n/\-(n:Int)<=i/\i < n:=by
 unfold jN at h
 by_cases h0:0<=i
 ·rw [if_pos h0] at h
  by_cases h1:i < n
  ·rw [if_pos h1] at h
   have e:i.toNat=j:=Option.some.inj h
   exact ⟨by rw [seqIndex_of h0 h1,e],by omega,by omega,h1⟩
  ·rw [if_neg h1] at h; cases h
 ·rw [if_neg h0] at h
  by_cases h1 : -(n:Int)<=i
  ·rw [if_pos h1] at h
   have e:(i + n).toNat=j:=Option.some.inj h
   exact ⟨by rw [seqIndex_neg (by omega) h1,e],by omega,h1,by omega⟩
  ·rw [if_neg h1] at h; cases h
theorem We {α:Type} {xs:List α} {i:Int} {v:α} (h:xC xs i=some v):∃ j,seqIndex? i xs.length=some j/\xs[j]? = some v/\j < xs.length/\-(xs.length:Int)<=i/\i < xs.length:=by
 unfold xC at h
 cases e:jN xs.length i with
 | none=>rw [e] at h; cases h
 | some j=>
  rw [e] at h
  obtain ⟨h1,h2,h3,h4⟩:=QB e
  exact ⟨j,h1,h,h2,h3,h4⟩
theorem xo {α:Type} {xs:List α} {j:Nat} {v:α} (h:xs[j]? = some v):xC xs (j:Int)=some v:=by
 have hj:j < xs.length:=(List.getElem?_eq_some_iff.mp h).1
 have e:jN xs.length (j:Int)=some j:=by
  unfold jN
  rw [if_pos (by omega),if_pos (by omega)]; simp
 unfold xC; rw [e]; exact h
theorem Wf {α:Type} (xs:List α) (v:α):xC (xs++[v]) (-1)=some v:=by
 have hl:(xs++[v]).length=xs.length + 1:=by simp
 have e:jN (xs++[v]).length (-1)=some xs.length:=by
  unfold jN
  rw [hl,if_neg (by decide),if_pos (by omega)]
  congr 1
  omega
 unfold xC
 rw [e]
 show (xs++[v])[xs.length]? = some v
 simp
noncomputable def QC (b:Expr):Prop:=∀ o i,subscripted b false o i=operate [o,i] (getItem o i)
noncomputable def vx (X:Cx) (r:R2):Prop:=
 ∀ (value slice:Expr) (pins:List (Addr × Obj)) (s:Shared) (σ:St) (H:Hp) (x y:V) (v u:Value) (Q:VK),zI X pins σ H s->zS x v->zS y u->r x y H Q->
  subscripted slice false v u=operate [v,u] (getItem v u)->wpAny (model X.prog X.w) X.A (subscriptTail value slice v u) (EP X pins σ Q) X.xe s
noncomputable def Wg (X:Cx) (id:String) (r:V->List V->Hp->VK->Prop):Prop:=
 ∀ (pins:List (Addr × Obj)) (s:Shared) (σ:St) (H:Hp) (x:V) (xs:List V) (v:Value) (us:List Value) (Q:VK),zI X pins σ H s->zS x v->zN xs us->r x xs H Q->
  wpAny (model X.prog X.w) X.A (call (.builtin id) (v :: us)) (EP X pins σ Q) X.xe s
section
variable {X:Cx} {a b:Expr} {ta tb:TE} {pos:Pos}
theorem zZ {r:R2} (hr:vx X r) (ha:PE X a ta) (hb:PE X b tb) (hs:QC b):PE X (.Subscript a b pos) (Za r ta tb):=by
 intro pins s σ H Q I h
 exact Subscript_ (jm ha hb I h λv u s2 x y H2 I2 rx ry q=>hr a b pins s2 σ H2 x y v u Q I2 rx ry q (hs _ _))
noncomputable def xp (K:PySem.W.Frag):R2:=λx y H Q=>∃ p xs i v,x=.ref p/\y=.int i/\zE K H p xs/\xC xs i=some v/\Q v H
noncomputable def Ym (K:PySem.W.Frag):R2:=λx y H Q=>∃ p xs i v,x=.ref p/\y=.int i/\zW K H p xs/\xC xs i=some v/\Q v H
theorem yJ:vx X (xp X.K):=by
 intro value slice pins s σ H x y v u Q I rx ry h hs
 obtain ⟨p,xs,i,z,rfl,rfl,hq,he,q⟩:=h
 cases rx
 obtain ⟨t,rfl⟩:=ry
 obtain ⟨its,r,pl,hz⟩:=I.list hq
 obtain ⟨j,h1,h2,h3,h4,h5⟩:=We he
 obtain ⟨w,ew,rw'⟩:=r.get h2
 have hl:=r.length
 have hn:=Zd
 have fin:EP X pins σ Q w s:=⟨z,H,I,rw',q⟩
 by_cases h0:0<=i
 ·have hj:i.toNat=j:=by
   rw [seqIndex_of h0 h5] at h1
   exact Option.some.inj h1
  exact item_listR pl.isList h0 (by omega) (by rw [hj]; simpa using ew) fin hs
 ·have hj:(i + (its.toArray.size:Int)).toNat=j:=by
   rw [seqIndex_neg (by omega) h4] at h1
   rw [List.size_toArray,<- hl]
   exact Option.some.inj h1
  exact subscriptTail_builtinR (x:=w) pl.isList.typeIs slot_list_getitem.lookup
   (wpAny_getItem_list_neg (Q:=λr s'=>r=w/\EP X pins σ Q r s') pl.isList (by omega) (by rw [List.size_toArray] <;> omega) (by omega) (by rw [hj]; simpa using ew) ⟨rfl,fin⟩) hs
theorem yb:vx X (Ym X.K):=by
 intro value slice pins s σ H x y v u Q I rx ry h hs
 obtain ⟨p,xs,i,z,rfl,rfl,hq,he,q⟩:=h
 cases rx
 obtain ⟨t,rfl⟩:=ry
 obtain ⟨its,r,pl,hz⟩:=I.tuple hq
 obtain ⟨j,h1,h2,h3,h4,h5⟩:=We he
 obtain ⟨w,ew,rw'⟩:=r.get h2
 have hl:=r.length
 have hn:=Zd
 have fin:EP X pins σ Q w s:=⟨z,H,I,rw',q⟩
 exact subscriptTail_builtinR (x:=w) pl.typeIs slot_tuple_getitem.lookup
  (getItem_tuple (j:=j) (Q:=λr s'=>r=w/\EP X pins σ Q r s') pl (by omega) (by omega) (by rw [List.size_toArray,<- hl]; exact h1) (by simpa using ew) ⟨rfl,fin⟩) hs
theorem zI.lst {pins:List (Addr × Obj)} {σ:St} {H:Hp} {s:Shared} {p:Addr} {xs:List V} (I:zI X pins σ H s) (h:H p=some (.lst xs)) :
  ∃ (its:List Value) (n:Nat),zN xs its/\s.heap.get? p=some { cls:=.type "list",data:=.seq its.toArray n }/\xs.length<=sizeLine:=by
 obtain ⟨z,its,n,r,e⟩:=I.hok p _ h
 exact ⟨its,n,r,e,z⟩
theorem QD (lo hi:Option Int) (n:Nat):(sliceBounds lo hi none n).1=((HT.sIx n 0 lo:Nat):Int)/\(sliceBounds lo hi none n).2.1=((HT.sIx n n hi:Nat):Int)/\(sliceBounds lo hi none n).2.2=1:=by
 refine ⟨?_,?_,rfl⟩
 ·cases lo with
  | none=>simp [sliceBounds,HT.sIx]
  | some i=>
   simp only [sliceBounds,HT.sIx,Option.getD_none,show (1:Int) > 0 by decide,if_true]
   by_cases h:i < 0
   ·simp only [h,if_true] <;> omega
   ·simp only [h,if_false] <;> omega
 ·cases hi with
  | none=>simp [sliceBounds,HT.sIx]
  | some i=>
   simp only [sliceBounds,HT.sIx,Option.getD_none,show (1:Int) > 0 by decide,if_true]
   by_cases h:i < 0
   ·simp only [h,if_true] <;> omega
   ·simp only [h,if_false] <;> omega
theorem QE (its:List Value) (lo hi:Option Int):slicePick its.toArray lo hi none=((its.drop (HT.sIx its.length 0 lo)).take (HT.sIx its.length its.length hi - HT.sIx its.length 0 lo)).toArray:=by
 obtain ⟨h1,h2,h3⟩:=QD lo hi its.toArray.size
 unfold slicePick
 rw [h1,h2,h3]
 simp only [sliceRange_one,pick_run,List.size_toArray] <;> rfl
noncomputable def vH (K:PySem.W.Frag):V->Option Int->Option Int->Hp->VK->Prop:=λx lo hi H Q=>∃ a xs,x=.ref a/\zE K H a xs/\∀ p,H p=none->Q (.ref p) (upd H p (.lst (zk xs lo hi)))
theorem xb:uv X (vH X.K):=by
 intro pins s σ H x v vl vu lo hi sl Q I rx hs pl pu h
 obtain ⟨a,xs,rfl,hx,q⟩:=h
 cases rx
 obtain ⟨its,r,ht,hz⟩:=I.list hx
 have hlen:=r.length
 refine ⟨"list",_,slot_list_getitem.lookup,ht.isList.typeIs,?_⟩
 refine wpAny_getItem_list_slice ht.isList hs pl pu .none (by simp) ?_ (by rw [List.size_toArray] <;> omega)
 rw [QE,<- hlen]
 refine ⟨.ref s.heap.objs.size,_,I.laid (t':=s.toks) (o:=.lst (zk xs lo hi)) (λb ob q=>Heap.get?_push_of_some _ q) (Nat.le_refl _) ?_,rfl,q _ (I.hok.fresh (Nat.le_refl _))⟩
 exact ⟨Nat.le_trans (QA xs lo hi) hz,_,0,(r.drop (HT.sIx xs.length 0 lo)).take (HT.sIx xs.length xs.length hi - HT.sIx xs.length 0 lo),Heap.get?_push_size _ rfl⟩
theorem xq:ya X (.builtin "len") (λxs H Q=>∃ p ys,xs=[.ref p]/\(zE X.K H p ys\/zW X.K H p ys)/\Q (.int ys.length) H):=by
 intro pins s σ H xs us Q I r h
 obtain ⟨p,ys,rfl,hq,q⟩:=h
 obtain ⟨u,rfl,rx⟩:=vg r
 cases rx
 have hn:=Zd
 rcases hq with hq | hq
 ·obtain ⟨its,r',pl,hz⟩:=I.list hq
  have hlen:=r'.length
  exact Calls.call_len_list pl.isList (by simp only [List.size_toArray] <;> omega) ⟨.int ys.length,H,I.tok _,⟨s.toks + 1,by rw [List.size_toArray,hlen]⟩,q⟩
 ·obtain ⟨its,r',pl,hz⟩:=I.tuple hq
  have hlen:=r'.length
  exact len_tuple pl (by simp only [List.size_toArray] <;> omega) ⟨.int ys.length,H,I.tok _,⟨s.toks + 1,by rw [List.size_toArray,hlen]⟩,q⟩
theorem Wh:ya X (.builtin "len") (λxs H Q=>∃ z,xs=[.str z]/\z.length<=sizeLine/\Q (.int z.length) H):=by
 intro pins s σ H xs us Q I r h
 obtain ⟨z,rfl,hz,q⟩:=h
 obtain ⟨u,rfl,t,rfl⟩:=vg r
 have hn:=Zd
 exact len_str (by omega) ⟨.int z.length,H,I.tok _,⟨_,rfl⟩,q⟩
theorem ud:ya X (.type "list") (λxs H Q=>∃ p ys,xs=[.ref p]/\(zE X.K H p ys\/zW X.K H p ys)/\∀ l,H l=none->Q (.ref l) (upd H l (.lst ys))):=by
 intro pins s σ H xs us Q I r h
 obtain ⟨p,ys,rfl,hq,q⟩:=h
 obtain ⟨u,rfl,rx⟩:=vg r
 cases rx
 have fin:∀ (its:List Value),zN ys its->ys.length<=sizeLine->∀ (h':Heap) (c':Nat),(∀ b o',s.heap.get? b=some o'->h'.get? b=some o')->
   h'.get? s.heap.objs.size=some { cls:=.type "list",dict:=none,data:=.seq its.toArray c',slots:=#[] }->EP X pins σ Q (.ref s.heap.objs.size) { s with heap:=h' }:=λits r' hz h' c' kp e=>
  ⟨.ref s.heap.objs.size,_,I.laid (t':=s.toks) kp (Nat.le_refl _) (show xx X.prog X.w _ h' _ (.lst ys) from ⟨hz,its,c',r',e⟩),rfl,q _ (I.hok.fresh (Nat.le_refl _))⟩
 rcases hq with hq | hq
 ·obtain ⟨its,r',pl,hz⟩:=I.list hq
  have hlen:=r'.length
  obtain ⟨o,ho,hc,n,hd⟩:=pl.isList
  exact call_list_seq p (.inl rfl) ho hc hd (λh' c' kp e=>fin its r' hz h' c' kp e) (by simp only [List.size_toArray] <;> omega)
 ·obtain ⟨its,r',pl,hz⟩:=I.tuple hq
  have hlen:=r'.length
  obtain ⟨o,ho,hc,n,hd⟩:=pl
  exact call_list_seq p (.inr rfl) ho hc hd (λh' c' kp e=>fin its r' hz h' c' kp e) (by simp only [List.size_toArray] <;> omega)
theorem ue:ya X (.type "tuple") (λxs H Q=>∃ p ys,xs=[.ref p]/\((zE X.K H p ys/\∀ l,H l=none->Q (.ref l) (upd H l (.tup ys)))\/(zW X.K H p ys/\Q (.ref p) H))):=by
 intro pins s σ H xs us Q I r h
 obtain ⟨p,ys,rfl,h⟩:=h
 obtain ⟨u,rfl,rx⟩:=vg r
 cases rx
 rcases h with ⟨hq,q⟩ | ⟨hq,q⟩
 ·obtain ⟨its,r',pl,hz⟩:=I.list hq
  have hlen:=r'.length
  refine call_tuple_list pl.isList (λh' kp=>?_) (by simp only [List.size_toArray] <;> omega)
  have I1:zI X pins σ H { s with heap:=h' }:=I.kept (t':=s.toks) kp
  have I2:zI X pins σ (upd H h'.objs.size (.tup ys)) { s with heap:=h'.push { cls:=.type "tuple",data:=.seq its.toArray } }:=
   I1.laid (t':=s.toks) (λb o e=>Heap.get?_push_of_some _ e) (Nat.le_refl _) (show xx X.prog X.w _ _ _ (.tup ys) from ⟨hz,its,r',IsTup.new _ _⟩)
  exact ⟨.ref h'.objs.size,_,I2,rfl,q _ (I1.hok.fresh (Nat.le_refl _))⟩
 ·obtain ⟨its,r',pl,hz⟩:=I.tuple hq
  exact call_tuple_same pl ⟨.ref p,H,I,rfl,q⟩
noncomputable def Wi (K:PySem.W.Frag) (T:String) (x:V) (H:Hp):Prop:=match x with
 | .str _=>T = "str"
 | .int _=>T = "int"
 | .ref p=>(T = "list"/\∃ xs,zE K H p xs)\/(T = "tuple"/\∃ o,K.lookup p=some o/\o.cls=.type "tuple"/\o.dict=none)∨
   (T = "dict"/\((∃ kvs,H p=some (.dK kvs))\/∃ kvs,H p=some (.dT kvs)))\/(T = "set"/\∃ S n,H p=some (.set S n))
 | _=>False
theorem QF {pins:List (Addr × Obj)} {σ:St} {H:Hp} {s:Shared} {T:String} {x:V} {v:Value} (I:zI X pins σ H s) (r:zS x v) (ty:Wi X.K T x H) :
  s.TypeIs v T/\∀ a,v=.ref a->∃ ob,s.heap.get? a=some ob/\ob.dict=none:=by
 cases x with
 | str z=>
  obtain ⟨t,rfl⟩:=r
  cases (show T = "str" from ty)
  exact ⟨typeIs_str s z t,λ_ e=>nomatch e⟩
 | int i=>
  obtain ⟨t,rfl⟩:=r
  cases (show T = "int" from ty)
  exact ⟨typeIs_int s i t,λ_ e=>nomatch e⟩
 | ref p=>
  cases r
  rcases ty with ⟨rfl,xs,hq⟩ | ⟨rfl,o,hk,hc,hd⟩ | ⟨rfl,hk⟩ | ⟨rfl,S,n,hk⟩
  ·obtain ⟨its,_,pl,_⟩:=I.list hq
   refine ⟨pl.isList.typeIs,λa e=>?_⟩
   cases e
   obtain ⟨o,n,e,c,hd,_⟩:=pl
   exact ⟨o,e,hd⟩
  ·refine ⟨⟨o,I.kIn p o hk,hc⟩,λa e=>?_⟩
   cases e
   exact ⟨o,I.kIn _ o hk,hd⟩
  ·have z:∃ o,s.heap.get? p=some o/\o.ExactDict:=by
    rcases hk with ⟨kvs,hk⟩ | ⟨kvs,hk⟩
    ·obtain ⟨_,_,_,_,o,_,_,e,ex,_⟩:=I.hok p _ hk
     exact ⟨o,e,ex⟩
    ·obtain ⟨_,_,_,_,o,_,_,e,ex,_⟩:=I.hok p _ hk
     exact ⟨o,e,ex⟩
   obtain ⟨o,e,ex⟩:=z
   refine ⟨⟨o,e,ex.1⟩,λa e2=>?_⟩
   cases e2
   exact ⟨o,e,ex.2.1⟩
  ·obtain ⟨o,_,_,_,e,ex,_⟩:=I.hok p _ hk
   refine ⟨⟨o,e,ex.1⟩,λa e2=>?_⟩
   cases e2
   exact ⟨o,e,ex.2.1⟩
 | _=>exact False.elim ty
noncomputable def Yn (K:PySem.W.Frag) (T:String) (r:V->List V->Hp->VK->Prop) (to:TE) (t:TA):TE:=λσ H Q=>to σ H λx H1=>Wi K T x H1/\t σ H1 λxs H2=>r x xs H2 Q
variable {o e:Expr} {es:List Expr} {to:TE} {t:TA} {name:Str} {apos cpos:Pos} {T id:String} {r:V->List V->Hp->VK->Prop}
theorem xD (pa:PlainAttrs T) (slot:Slot T name id) (hty:typeOf (.builtin id)=pure (.type "method_descriptor")) (hm:Wg X id r) (ho:PE X o to) (ha:PA X (e :: es) t)
  (hbase:attributeBase o name X.env (eval o X.env)=eval o X.env:=by rfl)
  (hfew:((backTo cpos (starEach (e :: es) X.env)).all (λx=>!x.1) && (backToKw cpos (keywordEach [] X.env)).all (λx=>x.1.isSome)
   && decide ((e :: es).length + ([]:List Keyword).length + (if ([]:List Keyword).isEmpty then 0 else 1) < 30))=true:=by rfl)
  (hline:(apos.endLine == cpos.line)=true:=by rfl) (hs:starEach (e :: es) X.env=(false,eval e X.env) :: starEach es X.env:=by rfl) (hplain:(backTo cpos (starEach es X.env)).any (·.1)=false:=by rfl) :
  PE X (.Call (.Attribute o name apos) (e :: es) [] cpos) (Yn X.K T r to t):=by
 intro pins s σ H Q I h
 refine wpAny_Call_method_late hbase hfew hline rfl (zi (ho pins s σ H _ I h) λv s1 ⟨x,H1,I1,r1,ty,q1⟩=>?_)
 obtain ⟨h1,h2⟩:=QF I1 r1 ty
 refine ⟨T,id,pa,slot,hty,h1,h2,?_⟩
 have hA:=ha cpos pins s1 σ H1 _ I1 q1
 rw [hs] at hA |-
 refine Calls.callWith_builtin (by show (false || (backTo cpos (starEach es X.env)).any (·.1))=false; rw [hplain] <;> rfl) (Calls.evalArgs_plain ?_)
 exact zi hA λus s2 ⟨vs,H2,I2,r2,q2⟩=>hm pins s2 σ H2 x vs v us Q I2 r1 r2 q2
/- xs.append(e),list.index on a module's tuple .. are Wg facts of 06m -/
end
end L2
namespace L2
open PySem PySem.Spec PyProof.Rows
noncomputable def kR (X:Cx) (id:String) (r:V->List V->Hp->VK->Prop):Prop:=
 ∀ (pins:List (Addr × Obj)) (s:Shared) (σ:St) (H:Hp) (x:V) (xs:List V) (v:Value) (us:List Value) (Q:VK),zI X pins σ H s->zS x v->zN xs us->r x xs H Q->
  wpAny (model X.prog X.w) X.A (call (.builtin id) (v :: us)) (EP X pins σ Q) X.xe s
theorem zN.one:∀ {x:V} {us:List Value},zN [x] us->∃ u,us=[u]/\zS x u
 | _,_,.cons r .nil=>⟨_,rfl,r⟩
theorem zN.dropLast {xs:List V} {us:List Value} (h:zN xs us):zN xs.dropLast us.dropLast:=by
 induction h with
 | nil=>exact .nil
 | cons r t ih=>
  cases t with
  | nil=>exact .nil
  | cons q t'=>exact .cons r ih
theorem zN.reverse {xs:List V} {us:List Value} (h:zN xs us):zN xs.reverse us.reverse:=by
 induction h with
 | nil=>exact .nil
 | cons r t ih=>rw [List.reverse_cons,List.reverse_cons]; exact zN.append ih (.cons r .nil)
section
variable {X:Cx} {pins:List (Addr × Obj)} {σ:St} {H:Hp} {s:Shared} {l b:Addr} {xs ys zs:List V}
theorem zI.lset {its its':List Value} {n:Nat} {f:Array Value->Array Value} {t':Nat} (I:zI X pins σ H s) (hH:H l=some (.lst xs))
  (e:s.heap.get? l=some { cls:=.type "list",data:=.seq its.toArray n }) (hf:f its.toArray=its'.toArray) (hv:zN ys its') (hz:ys.length<=sizeLine) :
  zI X pins σ (upd H l (.lst ys)) { s with heap:=s.heap.update l (Obj.mapSeq f),toks:=t' }:=by
 have q:=PySem.IsL.update e f
 rw [hf] at q
 refine I.write (x:=l) (e:=l) (by rw [hH]; exact trivial) (.inl rfl) (λb' u hb hu=>(Heap.get?_update_other s.heap (Obj.mapSeq f) (Ne.symm hb)).trans hu) ⟨_,q⟩ ?_
 exact ⟨hz,its',_,hv,q⟩
theorem zI.lnew {its:List Value} {t':Nat} (I:zI X pins σ H s) (hv:zN ys its) (hz:ys.length<=sizeLine) :
  zI X pins σ (upd H s.heap.objs.size (.lst ys)) { s with heap:=s.heap.push { cls:=.type "list",data:=.seq its.toArray },toks:=t' }:=
 I.laid (λ_ _ q=>Heap.get?_push_of_some _ q) (Nat.le_refl _) ⟨hz,its,0,hv,Heap.get?_push_size _ rfl⟩
theorem zI.fresh (I:zI X pins σ H s):H s.heap.objs.size=none:=I.hok.fresh (Nat.le_refl _)
theorem zI.lstM (I:zI X pins σ H s) (hH:H l=some (.lst xs)):xs.length<=sizeLine/\∃ (its:List Value) (n:Nat),zN xs its/\xs.length=its.length/\s.heap.get? l=some { cls:=.type "list",data:=.seq its.toArray n }:=by
 obtain ⟨z,its,n,r,e⟩:=I.hok l _ hH
 exact ⟨z,its,n,r,r.length,e⟩
theorem QG {n:Nat} (h:n<=sizeLine):Builtin.List.listTooLong n=false:=by
 unfold Builtin.List.listTooLong
 exact decide_eq_false (by omega)
end
section
variable {X:Cx}
noncomputable def QH:V->List V->Hp->VK->Prop:=λx vs H Q=>∃ l xs y,x=.ref l/\vs=[y]/\H l=some (.lst xs)/\xs.length < sizeLine/\Q .non (upd H l (.lst (xs++[y])))
theorem v8:kR X "list.append" QH:=by
 intro pins s σ H x vs v us Q I rx rv h
 obtain ⟨l,xs,y,rfl,rfl,hH,hz,q⟩:=h
 cases rx
 obtain ⟨u,rfl,ru⟩:=rv.one
 obtain ⟨z,its,n,r,hl,e⟩:=I.lstM hH
 refine call_meets F.slot_list_append ⟨_,e,rfl⟩ F.entry_list_append (F.args_list_append_2 _ _) (PySem.list_append l its.toArray n u (by rw [List.size_toArray]; omega)) ⟨e,?_⟩
 refine ⟨.non,_,I.lset (its':=its++[u]) hH e (by simp) (r.append (.cons ru .nil)) ?_,rfl,q⟩
 rw [List.length_append,List.length_singleton]
 omega
noncomputable def QI:V->List V->Hp->VK->Prop:=λx vs H Q=>∃ l b xs zs,x=.ref l/\vs=[.ref b]/\H l=some (.lst xs)/\H b=some (.lst zs)/\xs.length + zs.length<=sizeLine/\Q .non (upd H l (.lst (xs++zs)))
theorem QJ:kR X "list.extend" QI:=by
 intro pins s σ H x vs v us Q I rx rv h
 obtain ⟨l,b,xs,zs,rfl,rfl,hH,hB,hz,q⟩:=h
 cases rx
 obtain ⟨u,rfl,ru⟩:=rv.one
 cases ru
 obtain ⟨z,its,n,r,hl,e⟩:=I.lstM hH
 obtain ⟨z2,its2,n2,r2,hl2,e2⟩:=I.lstM hB
 have hsz:its.toArray.size + its2.toArray.size<=sizeLine:=by rw [List.size_toArray,List.size_toArray]; omega
 have hlong:¬ (!its.toArray.isEmpty && Builtin.List.listTooLong (its.toArray.size + its2.toArray.size))=true:=by
  rw [QG hsz,Bool.and_false]
  exact Bool.false_ne_true
 refine call_meets F.slot_list_extend ⟨_,e,rfl⟩ F.entry_list_extend (F.args_list_extend_2 _ _)
  (AutoSeq1.list_extend_list_list_0 l its.toArray n b its2.toArray n2 hlong (by rw [List.size_toArray]; omega) (by omega)) ⟨e,e2,?_⟩
 refine ⟨.non,_,I.lset (its':=its++its2) hH e (by simp) (r.append r2) ?_,rfl,q⟩
 rw [List.length_append]
 omega
noncomputable def Yo:R2:=λx y H Q=>∃ l b xs zs,x=.ref l/\y=.ref b/\H l=some (.lst xs)/\H b=some (.lst zs)/\xs.length + zs.length<=sizeLine/\∀ p,H p=none->Q (.ref p) (upd H p (.lst (xs++zs)))
theorem vI:xU X (binaryOp .Add) Yo:=by
 intro pins s σ H x y v u Q I rx ry h
 obtain ⟨l,b,xs,zs,rfl,rfl,hH,hB,hz,q⟩:=h
 cases rx
 cases ry
 obtain ⟨z,its,n,r,hl,e⟩:=I.lstM hH
 obtain ⟨z2,its2,n2,r2,hl2,e2⟩:=I.lstM hB
 refine PySem.P.add_list e e2 ?_ (by rw [List.size_toArray,List.size_toArray]; omega)
 have ea:its.toArray++its2.toArray=(its++its2).toArray:=by simp
 rw [ea]
 exact ⟨.ref _,_,I.lnew (t':=s.toks) (r.append r2) (by rw [List.length_append]; omega),rfl,q _ I.fresh⟩
end
section
variable {prog:Program} {w:World} {A:Around} {E:Value->Shared->Prop} {s:Shared}
end
section
variable {X:Cx}
end
end L2
namespace Att
open PySem PySem.W PySem.Calls PyProof.Rows
theorem QK {P:Params} {h:Heap}:∀ (ns:List Int) (vs:List Value),WellAll P h vs (ns.map WData.int)->IntsAre vs ns:=by
 intro ns
 induction ns with
 | nil=>
  intro vs w
  rw [List.map_nil] at w
  cases w
  exact .nil
 | cons n ns ih=>
  intro vs w
  rw [List.map_cons] at w
  cases w with
  | cons a b=>
   cases a
   exact .cons _ _ (ih _ b)
theorem QL {l:OpenLaw} {n:Nat} (hn:l.most=some n) {P:Params} {h:Heap} {args:List WData} {vals:List Value}
  (hpre:l.row.toRowW.claim.pre args=true) (hwl:WellAll P h vals args) :
  ∃ a vs ns,vals=[Value.ref a]/\args=[WData.list (ns.map WData.int)]/\h.get? a=some { cls:=.type "list",data:=.seq vs.toArray }/\IntsAre vs ns/\ns.length<=n:=by
 have hsh:WShape.hasAll [] args [.list .int]=true:=(pre_splitW hpre).1
 have hc:l.pre.holds [] { args:=args }=true:=(pre_splitW hpre).2
 obtain ⟨d,r,rfl,h1,h2⟩:=hasAllW_cons hsh
 obtain rfl:=hasAllW_nil h2
 obtain ⟨xs,rfl,h3⟩:=hasW_list h1
 obtain ⟨ns,rfl⟩:=items_int h3
 have hlen:ns.length<=n:=by
  unfold OpenLaw.pre at hc
  have h4:(WTm.not (.lt (.lit (.int (n:Int))) (.len (.arg 0)))).holds [] { args:=[.list (ns.map .int)] }=true:=by
   have h4:=(holds_andW hc).1
   rw [hn] at h4
   exact h4
  have h5:=condW_of h4 (w_not (w_lt w_lit (w_len_list (w_arg rfl))))
  rw [List.length_map] at h5
  refine Nat.le_of_not_lt λq=>?_
  have q':(n:Int) < ((ns.length:Nat):Int):=by omega
  first
   | (rw [decide_eq_true q'] at h5; exact absurd h5 (by decide))
   | (simp at h5; omega)
 cases hwl with
 | cons w1 w2=>
  cases w2
  cases w1 with
  | list ho hall=>exact ⟨_,_,ns,rfl,rfl,ho,QK ns _ hall,hlen⟩
theorem QM (l:OpenLaw) (args:List WData):l.row.toRowW.claim.post args (.bool true) args=true:=
 postW_of (r:=l.row.toRowW) (X:=(true == true))
  (show WShape.has [] (.bool true) .bool=true by first | rfl | decide | simp [WShape.has,WShape.arms,WShape.armsAll])
  (show (WTm.eq .res (.lit (.bool true))).value [] { args:=args,res:=some (.bool true),after:=args }=some (.bool (true == true)) from w_eq_bool (w_res rfl) w_lit) rfl
theorem attach_call {l:OpenLaw} {n:Nat} {q:Program} {loose:List Str} {XP:(Str->Option Value)->Heap->Prop} {YP:World->Heap->Prop} {d:DefRec}
  (hn:l.most=some n) (hdf:d.params.defaults=[])
  (call:∀ (w:World) (s₀ s₁:Shared) (mg mb:Str->Option Value) (fa:Addr) (o:Obj) (pm cd doc:Value) (a:Addr) (vs:List Value) (ns:List Int),
   Ground q loose [] XP w s₀ mg mb s₁.heap->YP w s₁.heap->
   s₁.heap.get? fa=some o->o.data=.func (docDef d.name d.params d.body d.scope pm cd doc)->s₁.heap.CodeRec cd d.name->mg d.name=some (.ref fa)->
   s₁.heap.get? a=some { cls:=.type "list",data:=.seq vs.toArray }->IntsAre vs ns->ns.length<=n->s₁.gens=#[]->
   codeAny (model l.prog w) callerA (.call (.ref fa) ⟨[.ref a],[]⟩) (λr s'=>r=.ok (.ret (.bool true))/\OldK s₁.heap s'.heap/\s'.os=s₁.os/\AllBare s'.gens) s₁) :
  WalkO q loose XP YP l.row.toRowW d [] (λf vs=>PySem.call f vs):=by
 intro w s₀ s₁ mg mb G Y fa o pm cd doc dV kV ho hd hcd hD hmg hg args vals as hpre hlay hrd hwl hlo
 obtain rfl:dV=.none:=Dflts.none hD hdf
 obtain rfl:kV=.none:=Dflts.noKw hD
 obtain ⟨a,vs,ns,rfl,rfl,hobj,hints,hlen⟩:=QL hn hpre hwl
 refine enter_call (codeAny_mono (call w s₀ s₁ mg mb fa o pm cd doc a vs ns G Y ho (fd_plain hd) hcd hmg hobj hints hlen hg) λr s' hq=>?_)
 obtain ⟨rfl,h2,h3,h4⟩:=hq
 exact ⟨.inl ⟨.bool true,.bool true,[],rfl,λ_=>rfl,.bool true,QM l _,λ_=>⟨List.Pairwise.nil,λ_ hm=>(nomatch hm)⟩⟩,h2,h3,h4⟩
section
variable {prog:Program} {w:World} {A:Around} {E:Value->Shared->Prop} {s:Shared} {K:Frag}
end
end Att
namespace L2
open PySem PySem.Spec PyProof.Rows
theorem Wj:∀ {vs:List Value} {ns:List Int},IntsAre vs ns->zN (ns.map V.int) vs
 | _,_,.nil=>.nil
 | _,_,.cons n t h=>.cons ⟨t,rfl⟩ (Wj h)
noncomputable def jt (H:Hp):Prop:=∀ b,H b=none\/∃ o xs,H b=some (.frz o (.lst xs))
theorem law_call {P:Program} {w:World} {K:PySem.W.Frag} {mg mb:Str->Option Value} {CX:vG} {k:Nat} {fa a:Addr} {fd:FuncData} {x:Str} {sp:Sp} {s₁:Shared} {vs:List Value} {ns:List Int}
  (KX:K.In s₁.heap) (hns:s₁.heap.Ns mainGlobals mg) (hb:s₁.heap.Ns builtinsNs mb) (hbb:∀ x:Str,x≠"__name__"->mb x=bootBuiltins x) (hlim:s₁.heap.NoLimit) (hg:s₁.gens=#[])
  (ha:s₁.heap.get? a=some { cls:=.type "list",data:=.seq vs.toArray }) (hi:IntsAre vs ns) (hl:ns.length<=sizeLine) (hr:zy k callerA)
  (F:∀ base:Heap,K.In base->base.Ns mainGlobals mg->zJ P w K mg base CX k fa fd [x] sp) (hbind:∀ (s:Shared) (u:Value),BindsTo s fd ⟨[u],[]⟩ [(x,u)])
  (hsp:∀ H:Hp,jt H->zE K H a (ns.map V.int)->sp [.ref a] H (λv _=>v=.bl true) λ_ _ _=>False)
  (hCX:∀ H e s',CX [] H s₁ (λ_ _ _=>False) e s'->False) :
  codeAny (model P w) callerA (.call (.ref fa) ⟨[.ref a],[]⟩) (λr s'=>r=.ok (.ret (.bool true))/\OldK s₁.heap s'.heap/\s'.os=s₁.os/\AllBare s'.gens) s₁:=by
 have rv:=Wj hi
 have lenV:=hi.length
 have core:∀ H:Hp,jt H->zE K H a (ns.map V.int)->xN P w H s₁.heap->(∀ b,H b≠none->b=a)->(H a≠none->K.lookup a=none)->
   codeAny (model P w) callerA (.call (.ref fa) ⟨[.ref a],[]⟩) (λr s'=>r=.ok (.ret (.bool true))/\OldK s₁.heap s'.heap/\s'.os=s₁.os/\AllBare s'.gens) s₁:=by
  intro H hO hS hok hA hK
  have base_of:∀ {b:Addr} {o:Obj},s₁.heap.get? b=some o->H b=none->(wA s₁.heap H).get? b=some o:=λe n=>JR e n
  have noA:∀ {b:Addr} {o:Obj} {es:Array DictEntry} {ep:Nat},s₁.heap.get? b=some o->o.data=.dict es ep->H b=none:=λ{b o es ep} e d=>by
   cases q:H b with
   | none=>rfl
   | some u=>
    have e':b=a:=hA b (by rw [q]; simp)
    subst e'
    rw [ha] at e; cases e
    have d':Data.seq vs.toArray _=Data.dict es ep:=d
    cases d'
  have nsK:∀ {b:Addr} {m:Str->Option Value},s₁.heap.Ns b m->(wA s₁.heap H).Ns b m:=λ{b m} ⟨o,es,ep,e,d,r⟩=>⟨o,es,ep,base_of e (noA e d),d,r⟩
  have hKb:K.In (wA s₁.heap H):=λb o e=>base_of (KX b o e) (by
   cases q:H b with
   | none=>rfl
   | some u=>
    have e':b=a:=hA b (by rw [q]; simp)
    subst e'
    rw [hK (by rw [q]; simp)] at e; cases e)
  have hM:Mod K mg (wA s₁.heap H):=⟨hKb,nsK hns,⟨mb,nsK hb,hbb⟩,let ⟨mc,h1,h2⟩:=hlim; ⟨mc,nsK h1,h2⟩⟩
  have e0:xn P w K mg (wA s₁.heap H) callerA [] s₁ H:=⟨rfl,hM,λb o e=>JS e,Nat.le_of_eq (JQ _ _),trivial,λb hb=>absurd (show b∈([]:List Addr) from hb) (by simp),hok,.of_eq hg⟩
  refine codeAny_mono ((F _ hKb (nsK hns)).run callerA [] s₁ H ⟨[.ref a],[]⟩ [.ref a] [.ref a] _ _ hr e0 (hbind s₁ (.ref a)) (.cons rfl .nil) (hsp H hO hS)) λr s' h=>?_
  cases r with
  | error e=>exact (hCX H e s' h).elim
  | ok fl=>
   cases fl with
   | next=>exact False.elim h
   | brk=>exact False.elim h
   | cont=>exact False.elim h
   | ret u=>
    obtain ⟨v,H',os,bare,un,hok',r',q⟩:=h
    have q':v=.bl true:=q
    subst q'
    obtain rfl:u=Value.bool true:=r'
    refine ⟨rfl,OldK.of_keep λb o e=>?_,os,bare⟩
    cases q:H b with
    | none=>exact un.keep b o e q (by intro z; exact absurd (show b∈([]:List Addr) from z) (by simp)) (by simp)
    | some u=>
     rcases hO b with z | ⟨ob,xs,z⟩
     ·rw [q] at z; cases z
     ·have z2:=un.frzs b ob _ z
      obtain ⟨e1,_⟩:=hok b _ z
      obtain ⟨e2,_⟩:=hok' b _ z2
      rw [e] at e1; cases e1
      exact e2
 cases hk:K.lookup a with
 | some o=>
  have e:=KX a o hk
  rw [ha] at e
  cases e
  refine core (λ_=>none) (λ_=>.inl rfl) (.inr ⟨_,vs.toArray,_,hk,rfl,rfl,rfl,by rw [List.size_toArray,lenV]; exact hl,by simpa using rv⟩) (λb u z=>by have z':(none:Option HO)=some u:=z; cases z') (λb z=>absurd rfl z) λz=>absurd rfl z
 | none=>
  refine core (λb=>if b=a then some (.frz { cls:=.type "list",data:=.seq vs.toArray } (.lst (ns.map V.int))) else none) (λb=>?_) (.inl (.inr ⟨{ cls:=.type "list",data:=.seq vs.toArray },if_pos rfl⟩)) (λb u z=>?_) (λb z=>?_) λ_=>hk
  ·by_cases hb:b=a
   ·exact .inr ⟨_,_,if_pos hb⟩
   ·exact .inl (if_neg hb)
  ·by_cases hb:b=a
   ·have z':=(if_pos hb).symm.trans z
    cases z'
    subst hb
    exact ⟨ha,by rw [List.length_map]; exact hl,vs,_,rv,ha⟩
   ·have z':=(if_neg hb).symm.trans z
    cases z'
  ·by_cases hb:b=a
   ·exact hb
   ·exact absurd (if_neg hb) z
end L2
namespace L2
open PySem PySem.Spec PyProof.Rows
theorem QN {l:PySem.W.OpenLaw} {n k:Nat} {q:Program} {loose:List Str} {XP:(Str->Option Value)->Heap->Prop} {YP:World->Heap->Prop} {d:DefRec} {K:Params->PySem.W.Frag} {CX:World->vG} {sp:World->Sp} {x:Str}
  (hn:l.most=some n) (hn2:n<=sizeLine) (hdf:d.params.defaults=[]) (hr:zy k callerA)
  (hY:∀ (w:World) (h:Heap),YP w h->(K w.params).In h)
  (F:∀ (w:World) (mg:Str->Option Value) (fa:Addr) (h:Heap),(K w.params).In h->h.Ns mainGlobals mg->mg d.name=some (.ref fa)->
   ∃ fd:FuncData,(∀ (s:Shared) (u:Value),BindsTo s fd ⟨[u],[]⟩ [(x,u)])∧
    ∀ base:Heap,(K w.params).In base->base.Ns mainGlobals mg->zJ l.prog w (K w.params) mg base (CX w) k fa fd [x] (sp w))
  (hsp:∀ (w:World) (H:Hp) (a:Addr) (ns:List Int),ns.length<=n->jt H->zE (K w.params) H a (ns.map V.int)->sp w [.ref a] H (λv _=>v=.bl true) λ_ _ _=>False)
  (hCX:∀ (w:World) (H:Hp) (s:Shared) (e:Value) (s':Shared),CX w [] H s (λ_ _ _=>False) e s'->False) :
  PySem.W.WalkO q loose XP YP l.row.toRowW d [] (λf vs=>PySem.call f vs):=by
 refine Att.attach_call hn hdf λw s₀ s₁ mg mb fa o pm cd doc a vs ns G Y ho hd hcd hmg hobj hints hlen hg=>?_
 have KX:=hY w _ Y
 obtain ⟨fd,hb,hF⟩:=F w mg fa _ KX G.T.g hmg
 exact law_call KX G.T.g G.T.b G.T.builtins G.T.nolimit hg hobj hints (Nat.le_trans hlen hn2) hr hF hb (λH hO hS=>hsp w H a ns hlen hO hS) λH e s'=>hCX w H s₁ e s'
end L2
namespace L2
open PySem PySem.Spec PyProof.Rows
noncomputable def uw (s:Stmt) (j:Nat):Stmt:=match s with
 | .ClassDef _ _ _ body _ _ _ _ _ _ _=>body.getD j (.Pass ⟨0,0,0,0⟩)
 | _=>.Pass ⟨0,0,0,0⟩
noncomputable def zn (s:Stmt):Arguments:=match s with
 | .FunctionDef _ a _ _ _ _ _ _ _ _=>a
 | _=>{ posonlyargs:=[],args:=[],vararg:=none,kwonlyargs:=[],kw_defaults:=[],kwarg:=none,defaults:=[] }
noncomputable def zl (s:Stmt):List Stmt:=match s with
 | .FunctionDef _ _ b _ _ _ _ _ _ _=>b
 | _=>[]
noncomputable def zL (s:Stmt):Scope:=match s with
 | .FunctionDef _ _ _ _ _ _ sc _ _ _=>sc
 | _=>{ kind:=.function,names:=[],isGenerator:=false,isCoroutine:=false }
noncomputable abbrev zh:vG:=λ_ _ _ _ _ _=>False
noncomputable abbrev E0:XK:=λ_ _ _=>False
theorem Zf {X:Cx}:qa zh X E0:=λ_ _ _ _ _ _ _ h=>h.elim
structure yC (K:PySem.W.Frag) (x qual:Str) (st:Stmt) (f:Addr) (fd:FuncData):Prop where
 ex:∃ (oc:Value) (od:Option Addr) (kV doc pm:Value) (an:Option Addr) (cdv ct:Value) (osl:Array (Option Value)),
  fd=PySem.W.fnOf x qual (zn st) (zl st) (zL st) .none kV doc pm an cdv ct/\K.lookup f=some ⟨oc,od,.func fd,osl⟩/\PySem.W.codeIn K cdv qual=true
 kp:PySem.W.keepIn K (.ref f)=true
section
variable {P:Program} {w:World} {K:PySem.W.Frag} {mg:Str->Option Value} {base:Heap}
theorem yC.ok {x qual:Str} {st:Stmt} {f:Addr} {fd:FuncData} {N ps:List Str} {k:Nat} {sp:Sp} (F:yC K x qual st f fd) (S:zq N ps (zL st)) (len:∀ vs H Q E,sp vs H Q E->vs.length=ps.length)
  (hbody:∀ (cdv:Value) (A:Around) (outer:List Env) (s:Shared) (H:Hp) (vs:List V) (Q:VK) (E:XK),zy k (A.deeper (envOfC qual (zL st) s.heap.objs.size f cdv))->sp vs H Q E->
   ∃ t,vC (zQ zh P w K mg base N qual (zL st) f cdv A outer s H E).nox (zl st) t/\t { nx:=λ_ H'=>Q .non H',rt:=Q } (uu N vs) H):zJ P w K mg base zh (k + 1) f fd ps sp:=by
 obtain ⟨oc,od,kV,doc,pm,an,cdv,ct,osl,rfl,lk,hcd⟩:=F.ex
 refine Wb lk hcd S len λA outer s H vs Q E hr hsp=>?_
 obtain ⟨t,h,q⟩:=hbody cdv A outer s H vs Q E hr hsp
 exact ⟨t,h.nox,q⟩
theorem yC.binds {x qual:Str} {st:Stmt} {f:Addr} {fd:FuncData} {ps:List Str} (F:yC K x qual st f fd)
  (h:∀ (kV doc pm:Value) (an:Option Addr) (cdv ct:Value) (us:List Value),us.length=ps.length->bindArgs (PySem.W.fnOf x qual (zn st) (zl st) (zL st) .none kV doc pm an cdv ct) ⟨us,[]⟩=pure (ps.zip us)):wS K fd ps []:=by
 obtain ⟨oc,od,kV,doc,pm,an,cdv,ct,osl,rfl,lk,hcd⟩:=F.ex
 exact .all (h kV doc pm an cdv ct)
theorem yM {x qual:Str} {st:Stmt} {f:Addr} {oc:Value} {od an:Option Addr} {osl:Array (Option Value)} {kV doc pm cdv ct:Value} (l:K.lookup f=some ⟨oc,od,.func (PySem.W.fnOf x qual (zn st) (zl st) (zL st) .none kV doc pm an cdv ct),osl⟩)
  (c:PySem.W.codeIn K cdv qual=true) (k:PySem.W.keepIn K (.ref f)=true):yC K x qual st f (PySem.W.fnOf x qual (zn st) (zl st) (zL st) .none kV doc pm an cdv ct):=⟨⟨oc,od,kV,doc,pm,an,cdv,ct,osl,rfl,l,c⟩,k⟩
end
theorem yn {n:Nat} (h:n<=1000):n < sizeLine:=Nat.lt_of_le_of_lt h (by decide)
section
variable {X:Cx}
theorem pv (i:Nat) {x:Str} {pos:Pos} (hN:X.N[i]? = some x:=by rfl) (hv:g7 X.env.scope x:=by first | exact Or.inl rfl | exact Or.inr (Or.inl rfl) | exact Or.inr (Or.inr rfl)) (hd:(x == ("__debug__" : Str))=false:=by decide)
  (hcd:(x == ("__classdict__" : Str))=false:=by decide):PE X (.Name x pos) (g8 i):=JU hN hv hd hcd
end
theorem zX {A B:Prop} (h:B):if false=true then A else B:=by
 rw [if_neg Bool.false_ne_true]
 exact h
theorem yd {A B:Prop} (h:A):if true=true then A else B:=by
 rw [if_pos rfl]
 exact h
theorem vi {c A B:Prop} [Decidable c] (h1:c->A) (h2:¬ c->B):if c then A else B:=by
 by_cases h:c
 ·rw [if_pos h]
  exact h1 h
 ·rw [if_neg h]
  exact h2 h
theorem kS {c A B:Prop} [Decidable c] (hc:c) (h:B):if (!decide c)=true then A else B:=by
 rw [decide_eq_true hc]
 exact zX h
noncomputable def zC (H H':Hp):Prop:=∀ b o,H b=some o->H' b=some o
theorem zC.refl (H:Hp):zC H H:=λ_ _ h=>h
theorem zC.trans {H H1 H2:Hp} (a:zC H H1) (b:zC H1 H2):zC H H2:=λc o h=>b c o (a c o h)
theorem zC.free {H H':Hp} (e:zC H H') {l:Addr} (h:H' l=Option.none):H l=Option.none:=by
 cases q:H l with
 | none=>rfl
 | some o=>
  rw [e l o q] at h
  cases h
theorem zC.seq {K:PySem.W.Frag} {H H':Hp} {a:Addr} {xs:List V} (e:zC H H') (h:zE K H a xs):zE K H' a xs:=by
 rcases h with (h | ⟨o,h⟩) | h
 ·exact .inl (.inl (e _ _ h))
 ·exact .inl (.inr ⟨o,e _ _ h⟩)
 ·exact .inr h
end L2
set_option maxHeartbeats 4000000
namespace Sh
end Sh
namespace Sh
end Sh
namespace L2
open PySem
noncomputable def v9 (env:Env) (cs:List (Str × Addr)) (p:Str × NameKind):List (Str × Addr):=if (p.2 == .free)=true then (p.1,(env.cells.lookup p.1).getD 0) :: cs else cs
noncomputable def wL (scope:Scope) (env:Env):List (Str × Addr):=scope.names.foldl (v9 env) []
theorem QO {env:Env}:∀ (names:List (Str × NameKind)) (cs:List (Str × Addr)),(∀ p∈names,p.2=.free->(env.cells.lookup p.1).isSome=true)->
  (forIn names cs (λ(p:Str × NameKind) (r:List (Str × Addr))=>(if (p.2 == .free)=true then do let a <- cellOf env p.1; pure (ForInStep.yield ((p.1,a) :: r)) else pure (ForInStep.yield r):Sem (ForInStep (List (Str × Addr))))))=pure (names.foldl (v9 env) cs):=by
 intro names
 induction names with
 | nil=>intro cs _; rfl
 | cons p r ih=>
  intro cs h
  obtain ⟨n,k⟩:=p
  rw [List.forIn_cons]
  by_cases hk:k=.free
  ·subst hk
   obtain ⟨c,hc⟩:=Option.isSome_iff_exists.mp (h (n,.free) List.mem_cons_self rfl)
   have e:cellOf env n=pure c:=by unfold cellOf; dsimp only at hc; rw [hc]
   have z:v9 env cs (n,.free)=(n,c) :: cs:=by unfold v9; dsimp only at hc |-; rw [hc]; rfl
   simp only [e,beq_self_eq_true,if_true,pure_bind,List.foldl_cons,z]
   exact ih _ λq hq=>h q (List.mem_cons_of_mem _ hq)
  ·have b:(k == NameKind.free)=false:=by simpa using hk
   have z:v9 env cs (n,k)=cs:=by unfold v9; dsimp only; rw [b]; rfl
   simp only [b,Bool.false_eq_true,if_false,pure_bind,List.foldl_cons,z]
   exact ih _ λq hq=>h q (List.mem_cons_of_mem _ hq)
theorem Yp {scope:Scope} {env:Env} (h:∀ p∈scope.names,p.2=.free->(env.cells.lookup p.1).isSome=true):closureFor scope env=pure (wL scope env):=by
 unfold closureFor wL
 have:=QO scope.names [] h
 exact (congrArg (λm=>m >>= λr=>pure r) this).trans rfl
theorem QP {env:Env}:∀ (names:List (Str × NameKind)) (cs:List (Str × Addr)) (x:Str) (c:Addr),(x,c)∈names.foldl (v9 env) cs->(x,c)∈cs\/((x,NameKind.free)∈names/\c=(env.cells.lookup x).getD 0):=by
 intro names
 induction names with
 | nil=>intro cs x c h; exact .inl h
 | cons p r ih=>
  intro cs x c h
  obtain ⟨n,k⟩:=p
  rw [List.foldl_cons] at h
  rcases ih _ x c h with h1 | ⟨h1,h2⟩
  ·unfold v9 at h1
   dsimp only at h1
   by_cases hk:k=.free
   ·subst hk
    simp only [beq_self_eq_true,if_true] at h1
    rcases List.mem_cons.mp h1 with e | h1
    ·injection e with e1 e2
     subst e1; subst e2
     exact .inr ⟨List.mem_cons_self,rfl⟩
    ·exact .inl h1
   ·have b:(k == NameKind.free)=false:=by simpa using hk
    simp only [b,Bool.false_eq_true,if_false] at h1
    exact .inl h1
  ·exact .inr ⟨List.mem_cons_of_mem _ h1,h2⟩
theorem jO {α β:Type} [BEq α] [LawfulBEq α]:∀ {l:List (α × β)} {a:α} {b:β},l.lookup a=some b->(a,b)∈l
 | [],_,_,h=>by simp at h
 | (x,y) :: r,a,b,h=>by
  rw [List.lookup_cons] at h
  by_cases e:a=x
  ·subst e
   simp only [beq_self_eq_true,if_true] at h
   cases h
   exact List.mem_cons_self
  ·have:(a == x)=false:=by simpa using e
   simp only [this] at h
   exact List.mem_cons_of_mem _ (jO h)
theorem Wk {α β:Type} [BEq α] [LawfulBEq α]:∀ {l:List (α × β)} {a:α} {b:β},(a,b)∈l->∃ c,l.lookup a=some c
 | [],_,_,h=>by cases h
 | (x,y) :: r,a,b,h=>by
  rw [List.lookup_cons]
  by_cases e:a=x
  ·subst e
   exact ⟨y,by simp⟩
  ·have z:(a == x)=false:=by simpa using e
   rcases List.mem_cons.mp h with q | q
   ·injection q with q1 _; exact absurd q1 e
   ·obtain ⟨c,hc⟩:=Wk q
    exact ⟨c,by simp only [z]; exact hc⟩
theorem QQ {env:Env}:∀ (names:List (Str × NameKind)) (cs:List (Str × Addr)) (x:Str),((x,NameKind.free)∈names\/∃ c,(x,c)∈cs)->∃ c,(x,c)∈names.foldl (v9 env) cs:=by
 intro names
 induction names with
 | nil=>
  intro cs x h
  rcases h with h | h
  ·cases h
  ·exact h
 | cons p r ih=>
  intro cs x h
  rw [List.foldl_cons]
  refine ih _ x ?_
  rcases h with h | ⟨c,h⟩
  ·rcases List.mem_cons.mp h with e | h
   ·subst e
    exact .inr ⟨_,by unfold v9; simp only [beq_self_eq_true,if_true]; exact List.mem_cons_self⟩
   ·exact .inl h
  ·refine .inr ⟨c,?_⟩
   unfold v9
   split
   ·exact List.mem_cons_of_mem _ h
   ·exact h
theorem vJ {scope:Scope} {env:Env} (h:∀ p∈scope.names,p.2=.free->(env.cells.lookup p.1).isSome=true) {x:Str} {c:Addr} (e:(wL scope env).lookup x=some c) :
  env.cells.lookup x=some c/\(x,NameKind.free)∈scope.names:=by
 rcases QP scope.names [] x c (jO e) with z | ⟨z,q⟩
 ·cases z
 ·obtain ⟨d,hd⟩:=Option.isSome_iff_exists.mp (h _ z rfl)
  dsimp only at hd
  rw [hd] at q
  exact ⟨by rw [hd,q]; rfl,z⟩
theorem kT {scope:Scope} {env:Env} {x:Str} (h:(x,NameKind.free)∈scope.names):∃ c,(wL scope env).lookup x=some c:=by
 obtain ⟨c,hc⟩:=QQ (env:=env) scope.names [] x (.inl h)
 exact Wk hc
theorem Wl {scope:Scope} {env:Env} {x:Str} {k:NameKind} (h:(relabel scope env).names.lookup x=some k):(k=.cell/\((x,NameKind.free)∈scope.names\/(x,NameKind.cell)∈scope.names))\/(x,k)∈scope.names:=by
 have m:=jO h
 unfold relabel at m
 obtain ⟨⟨n,j⟩,hm,e⟩:=List.mem_map.mp m
 dsimp only at e
 split at e
 ·rename_i q
  injection e with e1 e2
  subst e1; subst e2
  have q1:j=NameKind.free:=by
   have:=(Bool.and_eq_true_iff.mp (Bool.and_eq_true_iff.mp q).1).1
   exact eq_of_beq this
  subst q1
  exact .inl ⟨rfl,.inl hm⟩
 ·injection e with e1 e2
  subst e1; subst e2
  exact .inr hm
end L2
namespace L2
open PySem
section
variable {prog:Program} {w:World} {A:Around} {R:Result->Shared->Prop} {s:Shared}
theorem Wm {elt target iter:Expr} {scope:Scope} {pos:Pos} {it acc:Value} {env:Env} (Wd:Nat->Shared->Prop)
  (turn:∀ n s,Wd n s->wpAny (model prog w) A (pyNext it) (λr s1=>match r with
   | none=>R (.ok .next) s1
   | some v=>wpAny (model prog w) A (letOwnedTupleGo target it v) (λ_ s2=>wpAny (model prog w) A (assign target env v) (λ_ s3=>wpAny (model prog w) A (eval elt env) (λx s4=>
     wpAny (model prog w) A (call (.builtin "list.append") [acc,x]) (λ_ s5=>∃ m,m < n/\Wd m s5) (λ_ _=>False) s4) (λ_ _=>False) s3) (λ_ _=>False) s2) (λ_ _=>False) s1) (λ_ _=>False) s)
  (n:Nat) (h:Wd n s):codeAny (model prog w) A (.compLoop (.ListComp elt [⟨target,iter,[],0⟩] scope pos) 0 it acc env) R s:=by
 refine codeAny_loop rfl Wd (λn s hI=>?_) n h
 show wpAny _ _ (Sem.onRaise (compTurn (.ListComp elt [⟨target,iter,[],0⟩] scope pos) 0 it acc env) _) _ _ s
 refine wpAny_noted ?_
 rw [compTurn_list1]
 refine wpAny_bind (wpAny_standAt (wpAny_bind (wpAny_mono (turn n s hI) (λr s1 h1=>?_) λ_ _ z=>False.elim z)))
 cases r with
 | none=>exact wpAny_pure h1
 | some v=>
  refine wpAny_bind (wpAny_mono h1 (λ_ s2 h2=>?_) λ_ _ z=>False.elim z)
  refine wpAny_bind (wpAny_mono h2 (λ_ s3 h3=>?_) λ_ _ z=>False.elim z)
  refine wpAny_bind (wpAny_bind (wpAny_mono h3 (λx s4 h4=>?_) λ_ _ z=>False.elim z))
  exact wpAny_bind (wpAny_mono h4 (λ_ s5 h5=>wpAny_pure (wpAny_pure ⟨rfl,h5⟩)) λ_ _ z=>False.elim z)
end
end L2
namespace L2
open PySem PySem.Spec PyProof.Rows
noncomputable def Bd (n:Nat) (i:Int):Prop:=i.natAbs < 2 ^ n
theorem Bd.mono {n m:Nat} {i:Int} (h:Bd n i) (k:n<=m:=by decide):Bd m i:=Nat.lt_of_lt_of_le h (Nat.pow_le_pow_right (by decide) k)
theorem Bd.of_le {n:Nat} {i j:Int} (h:Bd n j) (k:i.natAbs<=j.natAbs):Bd n i:=Nat.lt_of_le_of_lt k h
theorem Bd.add {n:Nat} {i j:Int} (h:Bd n i) (k:Bd n j):Bd (n + 1) (i + j):=by
 have h':i.natAbs < 2 ^ n:=h
 have k':j.natAbs < 2 ^ n:=k
 unfold Bd
 rw [Nat.pow_succ]
 have:=Int.natAbs_add_le i j
 omega
theorem Bd.neg {n:Nat} {i:Int} (h:Bd n i):Bd n (-i):=by
 unfold Bd
 rw [Int.natAbs_neg]
 exact h
theorem Bd.sub {n:Nat} {i j:Int} (h:Bd n i) (k:Bd n j):Bd (n + 1) (i - j):=by
 rw [Int.sub_eq_add_neg]
 exact h.add k.neg
theorem Bd.lit {n:Nat} {i:Int} (h:i.natAbs < 2 ^ n:=by decide):Bd n i:=h
theorem Bd.bits {n:Nat} {i:Int} (h:Bd n i):Builtin.Int.intBits i<=n:=by
 have h':i.natAbs < 2 ^ n:=h
 unfold Builtin.Int.intBits
 split
 ·exact Nat.zero_le _
 ·rename_i z
  have nz:i.natAbs≠0:=by
   intro q
   apply z
   rw [Int.natAbs_eq_zero.mp q]
   rfl
  exact (Nat.log2_lt nz).mpr h'
theorem Bd.fdiv {n:Nat} {i:Int} (h:Bd n i) (j:Int):Bd n (i.fdiv j):=
 h.of_le (Int.natAbs_fdiv_le_natAbs i j)
noncomputable def Yq (i j:Int):Prop:=Bd 60000 i/\Bd 60000 j
noncomputable def kU (_ j:Int):Prop:=j≠0/\Bd 8000 j
section
variable {X:Cx}
theorem Yq.ok {i j:Int} (h:Yq i j):IntMulOk i j:=by
 have h1:=h.1.bits
 have h2:=h.2.bits
 have hc:Builtin.Int.intTooBig (Builtin.Int.intBits i + Builtin.Int.intBits j)=false:=by
  unfold Builtin.Int.intTooBig
  rw [bitsLine_eq]
  exact decide_eq_false (by omega)
 unfold IntMulOk
 rw [hc]
 simp
theorem wu:xU X (binaryOp .Mult) (rI Yq λi j=>.int (i * j)):=Zb λ_ _ _ _ _ _ _ hc q=>mul_int q hc.ok
theorem uA:xU X (binaryOp .FloorDiv) (rI kU λi j=>.int (i.fdiv j)):=Zb λ_ _ _ _ _ _ _ hc q=>by
 refine floordiv_int hc.1 q (.inl (PyProof.noPylong_of_log2 ?_))
 have h':_ < 2 ^ 8000:=hc.2
 have nz:_≠0:=λz=>hc.1 (Int.natAbs_eq_zero.mp z)
 exact Nat.lt_trans ((Nat.log2_lt nz).mpr h') (by decide)
end
section
variable {X:Cx}
noncomputable def kW (K:PySem.W.Frag):List V->Hp->VK->Prop:=λxs H Q=>∃ x c t b,xs=[x,.ty c]/\ym K H x t/\PySem.W.kitOne K t (.type c)=some b/\Q (.bl b) H
theorem wT:ya X (.builtin "isinstance") (kW X.K):=by
 intro pins s σ H xs us Q I r h
 obtain ⟨x,c,t,b,rfl,ty,e,q⟩:=h
 obtain ⟨u,v,rfl,ru,rv⟩:=Yg r
 cases (show v=Value.type c from rv)
 exact WR I ru ty e λtk=>⟨.bl b,H,I.tok tk,rfl,q⟩
end
mutual
inductive Dp (K:PySem.W.Frag) (H:Hp):V->PyData->Prop where
 | non:Dp K H .non .none
 | bl (b:Bool):Dp K H (.bl b) (.bool b)
 | int (i:Int):Dp K H (.int i) (.int i)
 | str (x:Str):Dp K H (.str x) (.str x)
 | lst {a:Addr} {xs:List V} {ds:List PyData} (e:zE K H a xs) (h:wv K H xs ds):Dp K H (.ref a) (.list ds)
 | tup {a:Addr} {xs:List V} {ds:List PyData} (e:zW K H a xs) (h:wv K H xs ds):Dp K H (.ref a) (.tuple ds)
inductive wv (K:PySem.W.Frag) (H:Hp):List V->List PyData->Prop where
 | nil:wv K H [] []
 | cons {x:V} {xs:List V} {d:PyData} {ds:List PyData} (h:Dp K H x d) (t:wv K H xs ds):wv K H (x :: xs) (d :: ds)
end
section
variable {X:Cx} {pins:List (Addr × Obj)} {σ:St} {H:Hp} {s:Shared}
mutual
theorem Dp.reads (I:zI X pins σ H s):∀ {x:V} {d:PyData} {u:Value},Dp X.K H x d->zS x u->∃ as,Reads s.heap u d as
 | _,_,_,.non,r=>by cases r; exact ⟨_,.none⟩
 | _,_,_,.bl b,r=>by cases r; exact ⟨_,.bool b⟩
 | _,_,_,.int i,r=>by obtain ⟨t,rfl⟩:=r; exact ⟨_,.int i t⟩
 | _,_,_,.str x,r=>by obtain ⟨t,rfl⟩:=r; exact ⟨_,.str x t⟩
 | _,_,_,.lst e h,r=>by
  cases r
  obtain ⟨its,rv,⟨o,n,e1,e2,_,e3⟩,_⟩:=I.list e
  obtain ⟨as,q⟩:=wv.reads I h rv
  exact ⟨_,.list e1 e2 e3 (by simpa using q)⟩
 | _,_,_,.tup e h,r=>by
  cases r
  obtain ⟨its,rv,⟨o,e1,e2,n,e3⟩,_⟩:=I.tuple e
  obtain ⟨as,q⟩:=wv.reads I h rv
  exact ⟨_,.tuple e1 e2 e3 (by simpa using q)⟩
theorem wv.reads (I:zI X pins σ H s):∀ {xs:List V} {ds:List PyData} {us:List Value},wv X.K H xs ds->zN xs us->∃ as,ReadsAll s.heap us ds as
 | _,_,_,.nil,r=>by cases r; exact ⟨_,.nil⟩
 | _,_,_,.cons h t,r=>by
  cases r with
  | cons r1 r2=>
   obtain ⟨_,q1⟩:=Dp.reads I h r1
   obtain ⟨_,q2⟩:=wv.reads I t r2
   exact ⟨_,.cons q1 q2⟩
end
end
section
variable {X:Cx}
noncomputable def Wn (K:PySem.W.Frag) (b:Bool):R2:=λx y H Q=>∃ d:PyData,Dp K H x d/\Dp K H y d/\d.canLay0=true/\d.depth<=60/\Q (.bl b) H
theorem Yr (hu:X.A.units + 64 < cLine):xU X (compareOp .Eq) (Wn X.K true):=by
 intro pins s σ H x y v u Q I rx ry h
 obtain ⟨d,hx,hy,hc,hd,q⟩:=h
 obtain ⟨_,r1⟩:=hx.reads I rx
 obtain ⟨_,r2⟩:=hy.reads I ry
 refine SeqAt.rcAt_reads r1 r2 hc hc (by rw [Nat.min_self]; omega) _ _ _ _ ⟨.bl true,H,I,?_,q⟩
 rw [SeqAt.eqv_refl d hc]
 rfl
theorem Zg (hu:X.A.units + 64 < cLine):xU X (compareOp .NotEq) (Wn X.K false):=by
 intro pins s σ H x y v u Q I rx ry h
 obtain ⟨d,hx,hy,hc,hd,q⟩:=h
 obtain ⟨_,r1⟩:=hx.reads I rx
 obtain ⟨_,r2⟩:=hy.reads I ry
 refine SeqAt.compareNe_reads r1 r2 hc hc (by rw [Nat.min_self]; omega) ⟨.bl false,H,I,?_,q⟩
 rw [SeqAt.eqv_refl d hc]
 rfl
end
section
variable {X:Cx}
theorem ju (hc:X.calm=true):ya X (.builtin "all") (λxs H Q=>∃ (p:Addr) (bs:List Bool),xs=[.ref p]/\zE X.K H p (bs.map V.bl)/\Q (.bl (bs.all id)) H):=by
 intro pins s σ H xs us Q I r h
 obtain ⟨p,bs,rfl,hq,q⟩:=h
 obtain ⟨u,rfl,ru⟩:=vg r
 cases ru
 obtain ⟨its,rv,pl,hz⟩:=I.list hq
 have hh:X.A.in1.handled=none:=I.ok.hd hc
 have hlt:p < s.heap.objs.size:=by obtain ⟨o,n,e,_⟩:=pl; exact Heap.lt_size e
 refine call_all_walk (wpAny_pyIter_list pl.isList ?_)
 have hlen:its.length=bs.length:=by rw [<- rv.length,List.length_map]
 refine ⟨s.heap.objs.size,_,_,_,_,_,λi=>bs.getD i true,rfl,Walks.list hh s.heap.objs.size p (Nat.ne_of_lt hlt) its.toArray,⟨⟨_,Heap.get?_push_size _ rfl,rfl,rfl⟩,pl.isList.push _⟩,?_,λh' tk kk=>?_⟩
 ·intro i v s' Q' E' hP hQ'
  have e1:its[i]? = some v:=by simpa using hP
  have hi:i < its.length:=(List.getElem?_eq_some_iff.mp e1).1
  have hb:(bs.map V.bl)[i]? = some (.bl (bs.getD i true)):=by
   rw [List.getElem?_map,List.getElem?_eq_getElem (by omega),List.getD_eq_getElem?_getD,List.getElem?_eq_getElem (by omega)]
   rfl
  obtain ⟨u',e2,r2⟩:=rv.get hb
  rw [e1] at e2
  cases e2
  cases r2
  exact wpAny_truthy_bool hQ'
 ·have e:(List.range its.toArray.size).all (λi=>bs.getD i true)=bs.all id:=by
   rw [List.size_toArray,hlen]
   rw [Bool.eq_iff_iff,List.all_eq_true,List.all_eq_true]
   constructor
   ·intro z b hb
    obtain ⟨i,hi,rfl⟩:=List.mem_iff_getElem.mp hb
    have:=z i (List.mem_range.mpr hi)
    rw [List.getD_eq_getElem?_getD,List.getElem?_eq_getElem hi] at this
    exact this
   ·intro z i hi
    have hi':=List.mem_range.mp hi
    rw [List.getD_eq_getElem?_getD,List.getElem?_eq_getElem hi']
    exact z _ (List.getElem_mem hi')
  refine ⟨.bl (bs.all id),H,I.kept (h':=h') (t':=tk) λb o eb=>kk b o ?_ (Heap.get?_push_of_some _ eb),?_,q⟩
  ·intro hb
   have:b=s.heap.objs.size:=by simpa using hb
   rw [this] at eb
   exact absurd (Heap.lt_size eb) (Nat.lt_irrefl _)
  ·rw [e]
   rfl
end
end L2
namespace L2
open PySem PySem.Spec PyProof.Rows
noncomputable abbrev wU (X:Cx) (scope:Scope) (N:List Str) (C:Addr) (s₀:Shared) (H₀:Hp) (ex:List Addr):Cx:=
 { X with N:=N,s₀:=s₀,H₀:=H₀,env:=compEnvC scope (wL scope X.env) C X.env,outer:=X.stack,ex:=ex,fn:=λ_=>false,pn:=[],xe:=λ_ _=>False }
noncomputable def vK (own:List Str) (caps:List (Nat × Str)) (σ:St):St:=own.map (λ_=>none)++caps.map λp=>(σ[p.1]?).getD none
noncomputable abbrev zg (own:List Str) (caps:List (Nat × Str)):List Str:=own++caps.map (·.2)
structure jv (X:Cx) (scope:Scope) (own:List Str) (caps:List (Nat × Str)):Prop where
 kind:scope.kind=.function
 ncell:∀ y∈scope.names,y.2≠.cell
 locs:∀ y∈scope.names,y.2=.local->scope.names.lookup y.1=some .local
 free:∀ y∈scope.names,y.2=.free->(X.env.cells.lookup y.1).isSome=true
 caps:∀ p∈caps,X.N[p.1]? = some p.2/\scope.names.lookup p.2=some .free/\(X.env.kindOf p.2=some .cell\/X.env.kindOf p.2=some .free)
theorem Zh {scope:Scope} {env:Env} {x:Str}:(relabel scope env).names.lookup x=(scope.names.lookup x).map λk=>if (k == .free && env.scope.kind == .function && env.kindOf x == some .cell)=true then .cell else k:=by
 unfold relabel
 generalize scope.names=l
 induction l with
 | nil=>rfl
 | cons p r ih=>
  obtain ⟨n,k⟩:=p
  rw [List.map_cons]
  by_cases e:x=n
  ·subst e
   by_cases c:(k == NameKind.free && env.scope.kind == .function && env.kindOf x == some .cell)=true
   ·simp only [c,if_true,List.lookup_cons,beq_self_eq_true,Option.map_some]
   ·simp only [c,if_false,List.lookup_cons,beq_self_eq_true,Option.map_some,Bool.false_eq_true]
  ·have z:(x == n)=false:=by simpa using e
   dsimp only
   split <;> simp only [List.lookup_cons,z] <;> exact ih
theorem QR {scope:Scope} {env:Env} {x:Str} (nc:∀ y∈scope.names,y.2≠.cell) (h:(relabel scope env).names.lookup x=some .cell\/(relabel scope env).names.lookup x=some .free):(x,NameKind.free)∈scope.names:=by
 rw [Zh] at h
 cases e:scope.names.lookup x with
 | none=>rw [e] at h; rcases h with h | h <;> cases h
 | some k=>
  have m:=jO e
  rw [e] at h
  simp only [Option.map_some,Option.some.injEq] at h
  have kf:k=.free:=by
   rcases h with h | h
   ·split at h
    ·rename_i q
     exact eq_of_beq (Bool.and_eq_true_iff.mp (Bool.and_eq_true_iff.mp q).1).1
    ·exact absurd h (nc _ m)
   ·split at h
    ·cases h
    ·exact h
  rw [<- kf]
  exact m
noncomputable def kX (J:It) (g:TG) (te:TE) (Q:VK) (σ0:St) (H1:Hp):Prop:=∃ W:Nat->Nat->List V->St->Hp->Prop,(∃ m,W 0 m [] σ0 H1)∧
 ∀ i m ys σ1 H,W i m ys σ1 H->(J.stop i H/\∀ p,H p=none->Q (.ref p) (upd H p (.lst ys)))∨
  (J.go i H/\ys.length < sizeLine/\∃ N:V->St->Hp->Prop,(∀ y σ' H',N y σ' H'->∃ m',m' < m/\W (i + 1) m' (ys++[y]) σ' H')/\∀ x H',J.yld i H x H'->g x σ1 H' λσ2 H2=>te σ2 H2 λy H3=>N y σ2 H3)
noncomputable def Ys (own:List Str) (caps:List (Nat × Str)) (wi:TI) (g:TG) (te:TE):TE:=λσ H Q=>wi σ H λJ H1=>kX J g te Q (vK own caps σ) H1
section
variable {X:Cx} {scope:Scope} {own:List Str} {caps:List (Nat × Str)} {pins:List (Addr × Obj)} {σ:St} {H:Hp} {s s4:Shared} {C D:Addr} {fp:List Addr}
theorem QS (B:jv X scope own caps) (I:zI X pins σ H s) (hf:∀ b∈fp,yP X pins H b) (hC:s.heap.objs.size<=C) (hlt:∀ b∈fp,b < s.heap.objs.size):(wU X scope (zg own caps) C s H fp).Ok where
 mod:=I.ok.mod
 kind:=B.kind
 glob:=I.ok.glob
 blt:=I.ok.blt
 above:=hC
 inj:=λx y c h1 h2=>I.ok.inj x y c (vJ B.free h1).1 (vJ B.free h2).1
 has:=λx h=>kT (QR B.ncell h)
 cab:=λx c h _=>by cases h
 hd:=I.ok.hd
 frames:=I.ok.frames
 stk:=.inl rfl
 exf:=λb hb=>⟨λe=>by have:=hlt b hb; rw [e] at this; exact absurd (Nat.lt_of_lt_of_le this hC) (Nat.lt_irrefl _),λx c e=>(hf b hb).2.2.2.2.1 x c (vJ B.free e).1⟩
 bs:=I.bs
 bsz:=Nat.le_trans I.ok.bsz I.sz
 noex:=λb o e hb=>by
  rcases (hf b hb).2.2.2.1 with z | z
  ·exact I.ok.noex b o e z
  ·exact absurd (Nat.lt_of_lt_of_le (Heap.lt_size e) (Nat.le_trans I.ok.bsz z)) (Nat.lt_irrefl _)
 exfs:=λb hb z=>by
  rcases List.mem_cons.mp (I.stkSub b z) with e | z
  ·exact (hf b hb).2.1 e
  ·exact (hf b hb).2.2.1 z
 funs:=I.stack
 frf:=I.stkFree
theorem Wo {i:Nat} {x:Str} {v:V} (h1:(zg own caps)[i]? = some x) (h2:(vK own caps σ)[i]? = some (some v)):∃ j,(j,x)∈caps/\σ[j]? = some (some v):=by
 unfold vK at h2
 by_cases hi:i < own.length
 ·rw [List.getElem?_append_left (by simpa using hi),List.getElem?_map] at h2
  cases e:own[i]? with
  | none=>rw [e] at h2; cases h2
  | some a=>rw [e] at h2; cases h2
 ·rw [List.getElem?_append_right (by simpa using hi),List.length_map,List.getElem?_map] at h2
  unfold zg at h1
  rw [List.getElem?_append_right (by omega),List.getElem?_map] at h1
  cases e:caps[i - own.length]? with
  | none=>rw [e] at h1; cases h1
  | some p=>
   obtain ⟨j,n⟩:=p
   rw [e] at h1 h2
   cases h1
   refine ⟨j,List.mem_of_getElem? e,?_⟩
   simp only [Option.map_some,Option.some.injEq] at h2
   cases q:σ[j]? with
   | none=>rw [q] at h2; cases h2
   | some o=>rw [q] at h2; exact congrArg some h2
theorem QT (B:jv X scope own caps) (I:zI X pins σ H s) (hf:∀ b∈fp,yP X pins H b) (hC:s.heap.objs.size<=C) (hlt:∀ b∈fp,b < s.heap.objs.size)
  {m:Str->Option Value} (hn:s4.heap.Ns C m) (hk:∀ b o,s.heap.get? b=some o->s4.heap.get? b=some o) (ho:s4.os=s.os) (hb:AllBare s4.gens) :
  zI (wU X scope (zg own caps) C s H fp) [] (vK own caps σ) H s4 where
 ok:=QS B I hf hC hlt
 os:=ho
 bare:=hb
 base:=Un.kept hk
 loc:=⟨m,hn,λi x v h1 h2 h3=>by
  obtain ⟨j,hm,hs⟩:=Wo h1 h2
  obtain ⟨c1,c2,c3⟩:=B.caps _ hm
  obtain ⟨m',_,hl⟩:=I.loc
  have vis:g7 X.env.scope x:=c3.elim (λz=>.inr (.inl z)) λz=>.inr (.inr z)
  obtain ⟨u,r,l⟩:=hl j x v c1 hs vis
  refine ⟨u,r,.inr ?_⟩
  have hm2:(x,NameKind.free)∈scope.names:=jO c2
  obtain ⟨c',hc'⟩:=kT (env:=X.env) hm2
  have hc2:=(vJ B.free hc').1
  refine ⟨?_,c',hc',?_⟩
  ·show (relabel scope X.env).names.lookup x=some .cell\/(relabel scope X.env).names.lookup x=some .free
   rw [Zh,c2,Option.map_some]
   split
   ·exact .inl rfl
   ·exact .inr rfl
  ·rcases l with ⟨k,_⟩ | ⟨_,c,e,z⟩
   ·rcases c3 with c3 | c3 <;> rw [c3] at k <;> cases k
   ·rw [hc2] at e
    cases e
    obtain ⟨o,e1,e2⟩:=z
    exact ⟨o,hk _ o e1,e2⟩⟩
 cell:=λx c e=>by
  obtain ⟨v,o,e1,e2⟩:=I.cell x c (vJ B.free e).1
  exact ⟨v,o,hk _ o e1,e2⟩
 free:=I.hok.fresh hC
 freeC:=λx c e=>I.freeC x c (vJ B.free e).1
 pin:=λp hp=>by simp at hp
 hok:=I.hok.kept hk
 len:=by
  show (vK own caps σ).length=(zg own caps).length
  unfold vK zg
  simp
noncomputable abbrev yf (its:List Value) (k:Nat):Obj:={ cls:=.type "list",data:=.seq its.toArray k }
theorem Wp {Y:Cx} {its:List Value} {k:Nat} {y:Value} {pl:List (Addr × Obj)} {Q:Value->Shared->Prop} {E:Value->Shared->Prop} (I:zI Y ((D,yf its k) :: pl) σ H s) (hn:yP Y [] H D) (hp:Y.pn=[]) (hz:its.length<=sizeLine)
  (q:∀ h' k' tk,(∀ b o,b≠D->s.heap.get? b=some o->h'.get? b=some o)->zI Y [(D,yf (its++[y]) k')] σ H { s with heap:=h',toks:=tk }->Q .none { s with heap:=h',toks:=tk }) :
  wpAny (model Y.prog Y.w) Y.A (call (.builtin "list.append") [.ref D,y]) Q E s:=by
 have pD:=I.pin (D,yf its k) (List.mem_append_right _ List.mem_cons_self)
 have e:s.heap.get? D=some (yf its k):=pD.1
 refine call_meets F.slot_list_append ⟨_,e,rfl⟩ F.entry_list_append (F.args_list_append_2 _ _) (PySem.list_append D its.toArray k y (by rw [List.size_toArray]; exact hz)) ⟨e,?_⟩
 have e2:=PySem.IsL.update e (·.push y)
 have ea:its.toArray.push y=(its++[y]).toArray:=by simp
 have keep:∀ b o,b≠D->s.heap.get? b=some o->(s.heap.update D (Obj.mapSeq (·.push y))).get? b=some o:=λb o hb eb=>(Heap.get?_update_other s.heap _ (Ne.symm hb)).trans eb
 have I0:zI Y [] σ H s:=I.pins_of λp hp'=>by cases hp'
 have I1:zI Y [] σ H { s with heap:=s.heap.update D (Obj.mapSeq (·.push y)),toks:=s.toks }:=I0.turned keep hn.1 hn.2.1 hn.2.2.2.1 hn.2.2.2.2.1 hn.2.2.2.2.2
 have e3:(s.heap.update D (Obj.mapSeq (·.push y))).get? D=some (yf (its++[y]) _):=e2.trans (by rw [ea])
 have I2:zI Y [(D,yf (its++[y]) (if ((its++[y]).toArray.size == its.toArray.size)=true then k else k + 1))] σ H { s with heap:=s.heap.update D (Obj.mapSeq (·.push y)),toks:=s.toks }:=I1.pins_of λp hp'=>by
  rw [List.mem_singleton.mp hp']
  exact ⟨e3,hn.1,hn.2.1,hn.2.2.1,λv z=>by cases z⟩
 exact q _ _ s.toks keep I2
end
section
variable {X:Cx} {scope:Scope} {own:List Str} {caps:List (Nat × Str)} {elt tg iter:Expr} {wi:TI} {g:TG} {te:TE} {pos:Pos}
theorem Wq {pins:List (Addr × Obj)} {σ:St} {H2:Hp} {s2:Shared} {it:Addr} {fp:List Addr} {tn:Nat->Heap->Prop} {J:It} {W:Nat->Nat->List V->St->Hp->Prop} {m0:Nat} {Q:VK} {E:Value->Shared->Prop} {RR:Value->Addr->Result->Shared->Prop}
  (B:jv X scope own caps) (hc:X.calm=true) (hg:∀ C s₀ H₀ ex,PG (wU X scope (zg own caps) C s₀ H₀ ex) tg g) (he:∀ C s₀ H₀ ex,PE (wU X scope (zg own caps) C s₀ H₀ ex) elt te)
  (I2:zI X pins σ H2 s2) (T:wF X.prog X.w X.K tg J fp it tn) (st2:tn 0 s2.heap) (f2:∀ b∈fp,yP X pins H2 b) (w0:W 0 m0 [] (vK own caps σ) H2)
  (turn:∀ i m ys σ1 H,W i m ys σ1 H->(J.stop i H/\∀ p,H p=none->Q (.ref p) (upd H p (.lst ys)))∨
   (J.go i H/\ys.length < sizeLine/\∃ N:V->St->Hp->Prop,(∀ y σ' H',N y σ' H'->∃ m',m' < m/\W (i + 1) m' (ys++[y]) σ' H')/\∀ x H',J.yld i H x H'->g x σ1 H' λσ2 H2=>te σ2 H2 λy H3=>N y σ2 H3))
  (hRR:∀ D C s6 H6 ys m,s6.heap.Ns C m->s2.heap.objs.size<=C->(∀ h',Heap.SameBut C s6.heap h'->zI X pins σ (upd H6 D (.lst ys)) { s6 with heap:=h' })->upd H6 D (.lst ys) C=none->Q (.ref D) (upd H6 D (.lst ys))->RR (.ref D) C (.ok .next) s6) :
  wpAny (model X.prog X.w) X.A (newList []) (λacc s3=>wpAny (model X.prog X.w) X.A (newFunctionEnv scope X.env.globals (wL scope X.env) [] X.env.qual none .none (some X.env)) (λcenv s4=>
   codeAny (model X.prog X.w) X.A (.compStart (.ListComp elt [⟨tg,iter,[],0⟩] scope pos) 0 (.ref it) acc { cenv with scope:=relabel scope X.env }) (RR acc cenv.locals) s4) E s3) E s2:=by
 have hlt:∀ b∈fp,b < s2.heap.objs.size:=λb hb=>by
  obtain ⟨o,ho,_⟩:=T.obj _ _ st2 b hb
  exact Heap.lt_size ho
 refine wpAny_newObj_type (wpAny_newFunctionEnv B.ncell (λy hy=>by simp at hy) (λh4 hns hsb=>?_) B.kind)
 dsimp only at hns hsb |-
 generalize hP:s2.heap.push { cls:=.type "list",dict:=none,data:=.seq ([]:List Value).toArray }=HD at hns hsb |-
 have hCD:HD.objs.size=s2.heap.objs.size + 1:=by rw [<- hP,Heap.size_push]
 have hDC:s2.heap.objs.size≠HD.objs.size:=by omega
 have hle:s2.heap.objs.size<=HD.objs.size:=by omega
 have old:∀ b o,s2.heap.get? b=some o->h4.get? b=some o:=λb o eb=>by
  have hb:=Heap.lt_size eb
  exact hsb.extBut b o (Nat.ne_of_lt (Nat.lt_of_lt_of_le hb hle)) (Heap.get?_push_of_some _ (by rw [<- hP]; exact Heap.get?_push_of_some _ eb))
 have hD4:h4.get? s2.heap.objs.size=some { cls:=.type "list",data:=.seq ([]:List Value).toArray 0 }:=
  hsb.extBut _ _ hDC (Heap.get?_push_of_some _ (by rw [<- hP]; exact Heap.get?_push_size _ rfl))
 have IY:zI (wU X scope (zg own caps) HD.objs.size s2 H2 fp) [] (vK own caps σ) H2 { s2 with heap:=h4,toks:=s2.toks + ([]:List (Str × Value)).length }:=
  QT B I2 f2 (by omega) hlt hns old rfl I2.bare
 have stat:∀ {H':Hp},(∀ b∈fp,H' b=none)->∀ b∈fp,yP (wU X scope (zg own caps) HD.objs.size s2 H2 fp) [] H' b:=λ{H'} hn b hb=>by
  have hb2:=hlt b hb
  refine ⟨hn b hb,?_,λz=>?_,.inl hb,λx c ec=>(f2 b hb).2.2.2.2.1 x c (vJ B.free ec).1,λp hp=>by simp at hp⟩
  ·exact Nat.ne_of_lt (Nat.lt_of_lt_of_le hb2 hle)
  ·rcases List.mem_cons.mp (I2.stkSub b z) with e | z
   ·exact (f2 b hb).2.1 e
   ·exact (f2 b hb).2.2.1 z
 have statD:∀ {H':Hp},H' s2.heap.objs.size=none->yP (wU X scope (zg own caps) HD.objs.size s2 H2 fp) [] H' s2.heap.objs.size:=λ{H'} hn=>by
  refine ⟨hn,hDC,λz=>?_,.inr (Nat.le_refl _),λx c ec z=>?_,λp hp=>by simp at hp⟩
  ·obtain ⟨_,o,ho,_⟩:=I2.stack.mem z
   exact absurd (Heap.lt_size ho) (Nat.lt_irrefl _)
  ·obtain ⟨v,o,ho,_⟩:=I2.cell x c (vJ B.free ec).1
   rw [z] at ho
   exact absurd (Heap.lt_size ho) (Nat.lt_irrefl _)
 have neD:∀ b∈fp,b≠s2.heap.objs.size:=λb hb=>Nat.ne_of_lt (hlt b hb)
 have IY':zI (wU X scope (zg own caps) HD.objs.size s2 H2 fp) [(s2.heap.objs.size,yf [] 0)] (vK own caps σ) H2 { s2 with heap:=h4,toks:=s2.toks + ([]:List (Str × Value)).length }:=
  IY.pins_of λp hp=>by
   rw [List.mem_singleton.mp hp]
   have z:=statD (I2.hok.fresh (Nat.le_refl _))
   exact ⟨hD4,z.1,z.2.1,z.2.2.1,λv z=>by cases z⟩
 have loop:∀ s3:Shared,s3={ s2 with heap:=h4,toks:=s2.toks + ([]:List (Str × Value)).length }->
   codeAny (model X.prog X.w) X.A (.compLoop (.ListComp elt [⟨tg,iter,[],0⟩] scope pos) 0 (.ref it) (.ref s2.heap.objs.size) (compEnvC scope (wL scope X.env) HD.objs.size X.env))
    (RR (.ref s2.heap.objs.size) HD.objs.size) s3:=by
  rintro s3 rfl
  refine Wm (λn s'=>∃ i ys σ' H' its k,zI (wU X scope (zg own caps) HD.objs.size s2 H2 fp) [(s2.heap.objs.size,yf its k)] σ' H' s'/\tn i s'.heap/\(∀ b∈fp,H' b=none)∧
   zN ys its/\ys.length<=sizeLine/\W i n ys σ' H') ?_ m0 ⟨0,[],_,H2,[],0,IY',T.keep _ _ _ st2 λb hb o eb=>old b o eb,λb hb=>(f2 b hb).1,.nil,Nat.zero_le _,w0⟩
  rintro n s5 ⟨i,ys,σ5,H5,its,k,I5,st5,fr5,rv5,hz5,w5⟩
  have stat5:∀ {H':Hp},(∀ b∈fp,H' b=none)->∀ b∈fp,yP (wU X scope (zg own caps) HD.objs.size s2 H2 fp) [(s2.heap.objs.size,yf its k)] H' b:=λ{H'} hn b hb=>by
   obtain ⟨a1,a2,a3,a4,a5,_⟩:=stat hn b hb
   refine ⟨a1,a2,a3,a4,a5,λp hp=>?_⟩
   have hp':p∈[(s2.heap.objs.size,yf its k)]:=hp
   rw [List.mem_singleton.mp hp']
   exact Ne.symm (neD b hb)
  rcases turn i n ys σ5 H5 w5 with ⟨stop,qn⟩ | ⟨go,hlen,N,hN,step⟩
  ·refine zi (T.done (wU X scope (zg own caps) HD.objs.size s2 H2 fp) rfl rfl rfl hc i _ s5 σ5 H5 _ I5 (stat5 fr5) st5 stop) λr s6 ⟨hr,I6⟩=>?_
   subst hr
   obtain ⟨pD1,pD2,_⟩:=I6.pin (s2.heap.objs.size,yf its k) (List.mem_append_right _ List.mem_cons_self)
   obtain ⟨m6,hn6,_⟩:=I6.loc
   refine hRR _ _ s6 H5 ys m6 hn6 (by omega) (λh' sb=>?_) (by rw [yD (Ne.symm hDC)]; exact I6.free) (qn _ pD2)
   have hC5:H5 HD.objs.size=none:=I6.free
   have nb:∀ b o,s2.heap.get? b=some o->b≠HD.objs.size/\b≠s2.heap.objs.size:=λb o eb=>by
    have hb:=Heap.lt_size eb
    exact ⟨Nat.ne_of_lt (Nat.lt_of_lt_of_le hb hle),Nat.ne_of_lt hb⟩
   have nt:∀ b o,H5 b=some o->b≠s2.heap.objs.size:=λb o eb z=>by rw [z] at eb; rw [show H5 s2.heap.objs.size=none from pD2] at eb; cases eb
   have un:Un (vc X.stack) fp H2 (upd H5 s2.heap.objs.size (.lst ys)) s2.heap h':=
    ⟨λb o eb n1 n2 n3=>sb.extBut b o (nb b o eb).1 (I6.base.keep b o eb n1 n2 n3),
     λb o eb n1 n2 n3=>by
      obtain ⟨sl,e1⟩:=I6.base.slot b o eb n1 n2 n3
      exact ⟨sl,sb.extBut b _ (nb b o eb).1 e1⟩,
     λb o eb n1 n3=>by
      rw [yD (nb b o eb).2]
      exact I6.base.free b o eb n1 n3,
     λb o eb n3=>by
      obtain ⟨o',e1⟩:=I6.base.there b o eb n3
      exact ⟨o',sb.extBut b _ (nb b o eb).1 e1⟩,
     λb xs eb=>by
      have e1:=I6.base.tups b xs eb
      rw [yD (nt b _ e1)]
      exact e1,
     λb o u eb=>by
      have e1:=I6.base.frzs b o u eb
      rw [yD (nt b _ e1)]
      exact e1,
     λb ps eb=>by
      obtain ⟨more,e1⟩:=I6.base.tbls b ps eb
      refine ⟨more,?_⟩
      rw [yD (nt b _ e1)]
      exact e1⟩
   have ok5:xN X.prog X.w (upd H5 s2.heap.objs.size (.lst ys)) h':=λb u eb=>by
    by_cases hb:b=s2.heap.objs.size
    ·subst hb
     rw [zG] at eb
     cases eb
     exact ⟨hz5,its,k,rv5,sb.extBut _ _ hDC pD1⟩
    ·rw [yD hb] at eb
     refine (I6.hok b u eb).stay (λc v hcv ev=>sb.extBut c v ?_ ev) (λc ec=>by rw [yD (nt c _ ec)]; exact ec) λc xs ec=>by rw [yD (nt c _ ec)]; exact ec
     rintro rfl
     rcases hcv with z | z
     ·rw [<- z,hC5] at eb
      cases eb
     ·rw [hC5] at z
      cases z
   exact I2.call' (s':={ s6 with heap:=h' }) (ch:=fp) I6.os un ok5 I6.bare λb hb=>⟨(f2 b hb).2.2.2.1,(f2 b hb).2.1,(f2 b hb).2.2.2.2.1,(f2 b hb).2.2.2.2.2⟩
  ·refine zi (T.item (wU X scope (zg own caps) HD.objs.size s2 H2 fp) rfl rfl rfl hc i _ s5 σ5 H5 _ I5 (stat5 fr5) st5 go) λr s6 ⟨u,hr,h6⟩=>?_
   subst hr
   refine zi h6 λ_ s7 ⟨x,H7,I7,r7,y7,st7,fr7⟩=>?_
   have I7':=I7.pinned (stat5 fr7) (T.obj _ _ st7)
   refine zi (hg HD.objs.size s2 H2 fp _ s7 σ5 H7 x u _ I7' r7 (step x H7 y7)) λ_ s8 ⟨σ8,H8,I8,q8⟩=>?_
   refine zi (he HD.objs.size s2 H2 fp _ s8 σ8 H8 _ I8 q8) λyv s9 ⟨y,H9,I9,r9,n9⟩=>?_
   obtain ⟨m',hm',w9⟩:=hN y σ8 H9 n9
   have pD9:=(I9.pin (s2.heap.objs.size,yf its k) (List.mem_append_right _ (List.mem_append_left _ List.mem_cons_self))).2.1
   have hl:its.length=ys.length:=rv5.length.symm
   refine Wp (Y:=wU X scope (zg own caps) HD.objs.size s2 H2 fp) (its:=its) (k:=k) (pl:=qV fp s7.heap) I9 (statD pD9) rfl (by omega) λh' k' tk keep I'=>?_
   refine ⟨m',hm',i + 1,ys++[y],σ8,H9,its++[yv],k',I',?_,λb hb=>?_,rv5.append (.cons r9 .nil),?_,w9⟩
   ·refine T.keep _ _ _ st7 λb hb o eb=>keep b o (neD b hb) ?_
    exact (I9.pin (b,o) (List.mem_append_right _ (List.mem_append_right _ (qW hb eb)))).1
   ·obtain ⟨o,eb,_⟩:=T.obj _ _ st7 b hb
    exact (I9.pin (b,o) (List.mem_append_right _ (List.mem_append_right _ (qW hb eb)))).2.1
   ·rw [List.length_append,List.length_singleton]
    omega
 exact codeAny_compStart_list (loop _ rfl) (T.self _ 0 _ _ _ (T.keep _ _ _ st2 λb hb o eb=>old b o eb) (loop _ rfl))
theorem yu (B:jv X scope own caps) (hc:X.calm=true) (hi:PI X tg iter wi) (hg:∀ C s₀ H₀ ex,PG (wU X scope (zg own caps) C s₀ H₀ ex) tg g)
  (he:∀ C s₀ H₀ ex,PE (wU X scope (zg own caps) C s₀ H₀ ex) elt te) (hs:∀ x,foldedSetIterable iter X.env x=pure x:=by intro _; rfl) :
  PE X (.ListComp elt [⟨tg,iter,[],0⟩] scope pos) (Ys own caps wi g te):=by
 intro pins s σ H Q I h
 rw [eval_ListComp]
 refine wpAny_comprehension_free (use:=none) rfl hs (Yp B.free) B.kind B.locs ?_
 refine zi (hi pins s σ H _ I h) λxv s1 h1=>zi h1 λitv s2 h2=>?_
 obtain ⟨it,fp,tn,J,H2,e,I2,T,st2,f2,W,⟨m0,w0⟩,turn⟩:=h2
 subst e
 refine Wq (RR:=λacc C=>compPost (model X.prog X.w) X.A X.xe none (EP X pins σ Q) acc C) B hc hg he I2 T st2 f2 w0 turn λD C s6 H6 ys m hn hC J6 hC6 q=>?_
 exact ⟨m,hn,λh' sb=>⟨.ref D,_,J6 h' sb,rfl,q⟩⟩
theorem vy {i:Nat} {y:Str} {py spos:Pos} (hN:X.N.Nodup) (hy:X.N[i]? = some y) (hl:X.env.scope.names.lookup y=some .local) (B:jv X scope own caps) (hc:X.calm=true) (hi:PI X tg iter wi) (hg:∀ C s₀ H₀ ex,PG (wU X scope (zg own caps) C s₀ H₀ ex) tg g)
  (he:∀ C s₀ H₀ ex,PE (wU X scope (zg own caps) C s₀ H₀ ex) elt te) (hsw:swapsWith (.ListComp elt [⟨tg,iter,[],0⟩] scope pos) (some (.Name y py)) spos.line X.env=pure true) (hs:∀ x,foldedSetIterable iter X.env x=pure x:=by intro _; rfl) :
  PS X (.Assign [.Name y py] (.ListComp elt [⟨tg,iter,[],0⟩] scope pos) spos) (kH (Ys own caps wi g te) (YW i)):=by
 intro pins s σ H D0 I h
 rw [exec_Assign_Name_used _ _ _ _ hsw]
 refine wpAny_bind (wpAny_standAt (wpAny_bind ?_))
 change wpAny _ X.A (do let _ <- comprehension (.ListComp elt [⟨tg,iter,[],0⟩] scope pos) scope X.env _ (newList []) false (eval iter X.env) (some (assign (.Name y py) X.env))) _ _ s
 refine wpAny_bind (wpAny_mono (wpAny_comprehension_free (use:=some (assign (.Name y py) X.env)) (Q:=λ_ s'=>SP X pins D0 .next s') rfl hs (Yp B.free) B.kind B.locs ?_) (λ_ s' hq=>wpAny_pure (wpAny_pure hq)) λ_ _ e=>e)
 refine zi (hi pins s σ H _ I h) λxv s1 h1=>zi h1 λitv s2 h2=>?_
 obtain ⟨it,fp,tn,J,H2,e,I2,T,st2,f2,W,⟨m0,w0⟩,turn⟩:=h2
 subst e
 refine Wq (Q:=λx H1=>D0.nx (σ.set i (some x)) H1) (RR:=λacc C=>compPost (model X.prog X.w) X.A X.xe (some (assign (.Name y py) X.env)) (λ_ s'=>SP X pins D0 .next s') acc C) B hc hg he I2 T st2 f2 w0 turn λD C s6 H6 ys m hn hC J6 hC6 q=>?_
 have I6:zI X pins σ (upd H6 D (.lst ys)) s6:=J6 s6.heap (.refl ..)
 have CL:C≠X.env.locals:=λz=>by rw [z] at hC; exact absurd (Nat.lt_of_lt_of_le I2.lt hC) (Nat.lt_irrefl _)
 have CC:∀ x c,X.env.cells.lookup x=some c->c≠C:=λx c ec z=>by
  obtain ⟨v,o,ho,_⟩:=I2.cell x c ec
  rw [z] at ho
  exact absurd (Nat.lt_of_lt_of_le (Heap.lt_size ho) hC) (Nat.lt_irrefl _)
 have CP:∀ p∈X.pn++pins,p.1≠C:=λp hp z=>by
  have hl:=Heap.lt_size (I2.pin p hp).1
  rw [z] at hl
  exact absurd (Nat.lt_of_lt_of_le hl hC) (Nat.lt_irrefl _)
 change wpAny _ X.A (assign (.Name y py) X.env (.ref D)) _ _ s6
 refine wpAny_assign_Name (WA I6 hN hy (.inl hl) (v:=.ref D) rfl (λs7 I7 ⟨a,sb,ha⟩=>?_) (.inr hl))
 have aC:C≠a:=λz=>by
  rcases ha with e | e
  ·exact CL (z.trans e)
  ·exact CC _ _ e z.symm
 refine ⟨m,hn.sameBut sb aC,λh' sb'=>⟨_,_,I7.turned (h':=h') (t':=s7.toks) (it:=C) (λb o hb eb=>sb'.extBut b o hb eb) hC6 CL (.inr (Nat.le_trans I2.sz hC)) CC CP,q⟩⟩
end
end L2
namespace L2
open PySem PySem.Spec PyProof.Rows
theorem yi {K:PySem.W.Frag} {a:Addr} {xs:List V} {g:TG} {te:TE} {σ0:St} {H:Hp} {Q:VK} (Pv:Nat->List V->St->Hp->Prop) (h0:Pv 0 [] σ0 H) (hl:∀ i ys σ H,i<=xs.length->Pv i ys σ H->zE K H a xs/\ys.length<=i) (hz:xs.length<=sizeLine)
  (hs:∀ i x ys σ H,xs[i]? = some x->Pv i ys σ H->g x σ H λσ2 H2=>te σ2 H2 λy H3=>Pv (i + 1) (ys++[y]) σ2 H3)
  (hd:∀ ys σ H,Pv xs.length ys σ H->∀ p,H p=none->Q (.ref p) (upd H p (.lst ys))) :
  kX (qT K a) g te Q σ0 H:=by
 refine ⟨λi m ys σ H=>m=xs.length - i/\i<=xs.length/\Pv i ys σ H,⟨xs.length,by simp,Nat.zero_le _,h0⟩,?_⟩
 rintro i m ys σ H ⟨rfl,hi,p⟩
 obtain ⟨q,hy⟩:=hl i ys σ H hi p
 by_cases hlt:i < xs.length
 ·refine .inr ⟨⟨xs,xs[i],q,by simp [hlt]⟩,by omega,λy σ' H'=>Pv (i + 1) (ys++[y]) σ' H',λy σ' H' z=>⟨xs.length - (i + 1),by omega,rfl,hlt,z⟩,λx H' y=>?_⟩
  obtain ⟨e,y⟩:=y
  subst e
  exact hs i x ys σ _ (y xs q) p
 ·have e:i=xs.length:=by omega
  subst e
  exact .inl ⟨⟨xs,q,Nat.le_refl _⟩,hd ys σ H p⟩
theorem qb {lo:Int} {n:Nat} {g:TG} {te:TE} {σ0:St} {H:Hp} {Q:VK} (Pv:Nat->List V->St->Hp->Prop) (h0:Pv 0 [] σ0 H) (hl:∀ i ys σ H,Pv i ys σ H->ys.length<=i) (hz:n<=sizeLine)
  (hs:∀ i ys σ H,i < n->Pv i ys σ H->g (.int (lo + i)) σ H λσ2 H2=>te σ2 H2 λy H3=>Pv (i + 1) (ys++[y]) σ2 H3)
  (hd:∀ ys σ H,Pv n ys σ H->∀ p,H p=none->Q (.ref p) (upd H p (.lst ys))):kX (jl lo n) g te Q σ0 H:=by
 refine ⟨λi m ys σ H=>m=n - i/\i<=n/\Pv i ys σ H,⟨n,by simp,Nat.zero_le _,h0⟩,?_⟩
 rintro i m ys σ H ⟨rfl,hi,p⟩
 have hy:=hl i ys σ H p
 by_cases hlt:i < n
 ·refine .inr ⟨hlt,by omega,λy σ' H'=>Pv (i + 1) (ys++[y]) σ' H',λy σ' H' z=>⟨n - (i + 1),by omega,rfl,hlt,z⟩,λx H' y=>?_⟩
  obtain ⟨e,y⟩:=y
  subst e y
  exact hs i ys σ _ hlt p
 ·have e:i=n:=by omega
  subst e
  exact .inl ⟨Nat.le_refl _,hd ys σ H p⟩
structure Fn (P:Program) (w:World) (K:PySem.W.Frag) (mg:Str->Option Value) (base:Heap) (x:Str) (ps:List Str) (k:Nat) (sp:Sp):Prop where
 ex:∃ f fd,zJ P w K mg base zh k f fd ps sp/\mg x=some (.ref f)/\PySem.W.keepIn K (.ref f)=true/\wS K fd ps []
theorem Fn.mono {P:Program} {w:World} {K:PySem.W.Frag} {mg:Str->Option Value} {base:Heap} {x:Str} {ps:List Str} {j k:Nat} {sp:Sp} (F:Fn P w K mg base x ps j sp) (h:j<=k:=by decide):Fn P w K mg base x ps k sp:=by
 obtain ⟨f,fd,a,b,c,d⟩:=F.ex
 exact ⟨f,fd,a.mono h,b,c,d⟩
theorem zR {X:Cx} {x:Str} {ps:List Str} {k:Nat} {sp:Sp} {e:Expr} {es:List Expr} {t:TA} {p pos:Pos} (F:Fn X.prog X.w X.K X.mg X.base x ps k sp) (hr:zy k X.A) (hg:Gl X x) (ha:PA X (e :: es) t)
  (hdb:(x == ("__debug__" : Str))=false:=by decide) (he:starEach (e :: es) X.env=(false,eval e X.env) :: starEach es X.env:=by rfl) (hpl:(backTo pos (starEach es X.env)).any (·.1)=false:=by rfl) :
  PE X (.Call (.Name x p) (e :: es) [] pos) (Yl sp [] E0 t):=by
 obtain ⟨f,fd,a,b,c,d⟩:=F.ex
 exact WV a hr hg b c d .nil Zf ha hdb he hpl
end L2
namespace L2
open PySem PySem.Spec PyProof.Rows
theorem yo:bootBuiltins "isinstance" = some (.builtin "isinstance"):=by decide +kernel
theorem xc:bootBuiltins "len" = some (.builtin "len"):=by decide +kernel
theorem Wr:bootBuiltins "abs" = some (.builtin "abs"):=by decide +kernel
theorem jw:bootBuiltins "all" = some (.builtin "all"):=by decide +kernel
theorem Ws:bootBuiltins "int" = some (.type "int"):=by decide +kernel
theorem QU:bootBuiltins "bool" = some (.type "bool"):=by decide +kernel
theorem ww:bootBuiltins "tuple" = some (.type "tuple"):=by decide +kernel
theorem wM:bootBuiltins "list" = some (.type "list"):=by decide +kernel
theorem ux:bootBuiltins "str" = some (.type "str"):=by decide +kernel
section
variable (K:PySem.W.Frag)
theorem QV:PySem.W.kitOne K (.type "int") (.type "int")=some true:=by first | rfl | decide +kernel | (unfold PySem.W.kitOne; rw [if_pos (by decide +kernel)])
theorem QW:PySem.W.kitOne K (.type "int") (.type "bool")=some false:=by first | rfl | decide +kernel | (unfold PySem.W.kitOne; rw [if_neg (by decide +kernel)]; rfl)
theorem kY:PySem.W.kitOne K (.type "tuple") (.type "tuple")=some true:=by first | rfl | decide +kernel | (unfold PySem.W.kitOne; rw [if_pos (by decide +kernel)])
end
theorem xk {X:Cx} {scope:Scope} {own:List Str} (k:scope.kind=.function) (n:scope.names.all (λy=>y.2 != .cell && y.2 != .free && (y.2 != .local || scope.names.lookup y.1 == some .local))=true:=by first | rfl | decide +kernel):jv X scope own []:=by
 have z:∀ y∈scope.names,(y.2 != .cell && y.2 != .free && (y.2 != .local || scope.names.lookup y.1 == some .local))=true:=List.all_eq_true.mp n
 refine ⟨k,λy hy e=>?_,λy hy e=>?_,λy hy e=>?_,λp hp=>by cases hp⟩
 ·have:=z y hy
  rw [e] at this
  simp at this
 ·have:=z y hy
  rw [e] at this
  simpa using this
 ·have:=z y hy
  rw [e] at this
  simp at this
structure xQ (K:PySem.W.Frag) (x qual:Str) (st:Stmt) (f:Addr) (fd:FuncData) (d:Value):Prop where
 ex:∃ (oc:Value) (od:Option Addr) (kV doc pm:Value) (an:Option Addr) (cdv ct:Value) (osl:Array (Option Value)) (T:Addr) (oT:Obj) (n:Nat),
  fd=PySem.W.fnOf x qual (zn st) (zl st) (zL st) (.ref T) kV doc pm an cdv ct/\K.lookup f=some ⟨oc,od,.func fd,osl⟩/\PySem.W.codeIn K cdv qual=true/\K.lookup T=some oT/\oT.data=.seq #[d] n
 kp:PySem.W.keepIn K (.ref f)=true
theorem xQ.ok {P:Program} {w:World} {K:PySem.W.Frag} {mg:Str->Option Value} {base:Heap} {x qual:Str} {st:Stmt} {f:Addr} {fd:FuncData} {d:Value} {N ps:List Str} {k:Nat} {sp:Sp} (F:xQ K x qual st f fd d) (S:zq N ps (zL st))
  (len:∀ vs H Q E,sp vs H Q E->vs.length=ps.length)
  (hbody:∀ (cdv:Value) (A:Around) (outer:List Env) (s:Shared) (H:Hp) (vs:List V) (Q:VK) (E:XK),zy k (A.deeper (envOfC qual (zL st) s.heap.objs.size f cdv))->sp vs H Q E->
   ∃ t,vC (zQ zh P w K mg base N qual (zL st) f cdv A outer s H E).nox (zl st) t/\t { nx:=λ_ H'=>Q .non H',rt:=Q } (uu N vs) H):zJ P w K mg base zh (k + 1) f fd ps sp:=by
 obtain ⟨oc,od,kV,doc,pm,an,cdv,ct,osl,T,oT,n,rfl,lk,hcd,_⟩:=F.ex
 refine Wb lk hcd S len λA outer s H vs Q E hr hsp=>?_
 obtain ⟨t,h,q⟩:=hbody cdv A outer s H vs Q E hr hsp
 exact ⟨t,h.nox,q⟩
end L2
namespace L2
open PySem PySem.Spec PyProof.Rows
theorem Yt {K:PySem.W.Frag} {x qual:Str} {st:Stmt} {f T:Addr} {oc kV doc pm cdv ct d:Value} {od an:Option Addr} {osl:Array (Option Value)} {oT:Obj} {n:Nat} (l:K.lookup f=some ⟨oc,od,.func (PySem.W.fnOf x qual (zn st) (zl st) (zL st) (.ref T) kV doc pm an cdv ct),osl⟩)
  (c:PySem.W.codeIn K cdv qual=true) (k:PySem.W.keepIn K (.ref f)=true) (t:K.lookup T=some oT) (e:oT.data=.seq #[d] n):xQ K x qual st f (PySem.W.fnOf x qual (zn st) (zl st) (zL st) (.ref T) kV doc pm an cdv ct) d:=
 ⟨⟨oc,od,kV,doc,pm,an,cdv,ct,osl,T,oT,n,rfl,l,c,t,e⟩,k⟩
theorem xQ.binds {K:PySem.W.Frag} {x qual:Str} {st:Stmt} {f:Addr} {fd:FuncData} {d:Value} {ps:List Str} (F:xQ K x qual st f fd d)
  (h:∀ (T:Addr) (kV doc pm:Value) (an:Option Addr) (cdv ct:Value) (us:List Value),us.length=ps.length->∃ k:Option (Array Value)->Sem (List (Str × Value)),
   bindArgs (PySem.W.fnOf x qual (zn st) (zl st) (zL st) (.ref T) kV doc pm an cdv ct) ⟨us,[]⟩=seqItems? (.ref T) >>= k/\k (some #[d])=pure (ps.zip us)):wS K fd ps []:=by
 obtain ⟨oc,od,kV,doc,pm,an,cdv,ct,osl,T,oT,n,rfl,lk,hcd,t,e⟩:=F.ex
 intro s us X hl
 rw [List.append_nil] at hl |-
 obtain ⟨k,h1,h2⟩:=h T kV doc pm an cdv ct us hl
 exact .of_defaults (T:=T) rfl (X T oT t) e h1 h2
end L2
namespace L2
open PySem PySem.Spec PyProof.Rows
theorem xr {X:Cx} {scope S:Scope} {own N:List Str} {caps:List (Nat × Str)} (k:scope.kind=.function) (n:scope.names.all (λy=>y.2 != .cell && (y.2 != .local || scope.names.lookup y.1 == some .local))=true)
  (hS:X.env.scope=S) (hc:∃ n,X.env.cells=cellsFrom n S.names []) (hN:X.N=N) (fr:scope.names.all (λy=>y.2 != .free || S.names.lookup y.1 == some .cell)=true)
  (cp:caps.all (λp=>N[p.1]? == some p.2 && scope.names.lookup p.2 == some .free && S.names.lookup p.2 == some .cell)=true):jv X scope own caps:=by
 have z:∀ y∈scope.names,(y.2 != .cell && (y.2 != .local || scope.names.lookup y.1 == some .local))=true:=List.all_eq_true.mp n
 obtain ⟨nn,hc⟩:=hc
 refine ⟨k,λy hy e=>?_,λy hy e=>?_,λy hy e=>?_,λp hp=>?_⟩
 ·have:=z y hy
  rw [e] at this
  simp at this
 ·have:=z y hy
  rw [e] at this
  simpa using this
 ·have q:=List.all_eq_true.mp fr y hy
  rw [e] at q
  have q2:S.names.lookup y.1=some .cell:=by simpa using q
  rw [hc]
  exact PySem.W.cellsFrom_some S.names nn [] (.inl q2)
 ·have q:=List.all_eq_true.mp cp p hp
  simp only [Bool.and_eq_true,beq_iff_eq] at q
  refine ⟨by rw [hN]; exact q.1.1,q.1.2,.inl ?_⟩
  show X.env.scope.names.lookup p.2=some .cell
  rw [hS]
  exact q.2
structure wN (P:Program) (w:World) (K:PySem.W.Frag) (mg:Str->Option Value) (base:Heap) (x:Str) (ps:List Str) (k:Nat) (sp:Sp) (dv:V):Prop where
 ex:∃ f fd d,zJ P w K mg base zh k f fd ps sp/\mg x=some (.ref f)/\PySem.W.keepIn K (.ref f)=true/\wS K fd ps []/\wS K fd ps [d]/\zS dv d
theorem wN.mono {P:Program} {w:World} {K:PySem.W.Frag} {mg:Str->Option Value} {base:Heap} {x:Str} {ps:List Str} {j k:Nat} {sp:Sp} {dv:V} (F:wN P w K mg base x ps j sp dv) (h:j<=k:=by decide):wN P w K mg base x ps k sp dv:=by
 obtain ⟨f,fd,d,a,b,c,e⟩:=F.ex
 exact ⟨f,fd,d,a.mono h,b,c,e⟩
theorem wN.fn {P:Program} {w:World} {K:PySem.W.Frag} {mg:Str->Option Value} {base:Heap} {x:Str} {ps:List Str} {k:Nat} {sp:Sp} {dv:V} (F:wN P w K mg base x ps k sp dv):Fn P w K mg base x ps k sp:=by
 obtain ⟨f,fd,d,a,b,c,e,_⟩:=F.ex
 exact ⟨f,fd,a,b,c,e⟩
theorem uB {X:Cx} {x:Str} {ps:List Str} {k:Nat} {sp:Sp} {e:Expr} {es:List Expr} {t:TA} {p pos:Pos} {dv:V} (F:wN X.prog X.w X.K X.mg X.base x ps k sp dv) (hr:zy k X.A) (hg:Gl X x) (ha:PA X (e :: es) t)
  (hdb:(x == ("__debug__" : Str))=false:=by decide) (he:starEach (e :: es) X.env=(false,eval e X.env) :: starEach es X.env:=by rfl) (hpl:(backTo pos (starEach es X.env)).any (·.1)=false:=by rfl) :
  PE X (.Call (.Name x p) (e :: es) [] pos) (Yl sp [dv] E0 t):=by
 obtain ⟨f,fd,d,a,b,c,_,h2,r⟩:=F.ex
 exact WV a hr hg b c h2 (.cons r .nil) Zf ha hdb he hpl
theorem xQ.binds1 {K:PySem.W.Frag} {x qual:Str} {st:Stmt} {f:Addr} {fd:FuncData} {d:Value} {ps:List Str} (F:xQ K x qual st f fd d)
  (h:∀ (T:Addr) (kV doc pm:Value) (an:Option Addr) (cdv ct:Value) (us:List Value),us.length + 1=ps.length->∃ k:Option (Array Value)->Sem (List (Str × Value)),
   bindArgs (PySem.W.fnOf x qual (zn st) (zl st) (zL st) (.ref T) kV doc pm an cdv ct) ⟨us,[]⟩=seqItems? (.ref T) >>= k/\k (some #[d])=pure (ps.zip (us++[d]))):wS K fd ps [d]:=by
 obtain ⟨oc,od,kV,doc,pm,an,cdv,ct,osl,T,oT,n,rfl,lk,hcd,t,e⟩:=F.ex
 intro s us X hl
 rw [List.length_append,List.length_singleton] at hl
 obtain ⟨k,h1,h2⟩:=h T kV doc pm an cdv ct us hl
 exact .of_defaults (T:=T) rfl (X T oT t) e h1 h2
end L2
namespace L2
theorem xG {b:Bool} {A B:Prop} (e:b=true) (h:A):if b=true then A else B:=by
 rw [if_pos e]
 exact h
theorem yH {b:Bool} {A B:Prop} (e:b=false) (h:B):if b=true then A else B:=by
 rw [if_neg (by rw [e]; exact Bool.false_ne_true)]
 exact h
theorem jP {i j:Int} (h:i=j):decide (V.int i=V.int j)=true:=decide_eq_true (by rw [h])
theorem uf {i j:Int} (h:i≠j):decide (V.int i=V.int j)=false:=decide_eq_false λe=>h (by injection e)
theorem qc {i j:Int} (h:i=j):(!decide (V.int i=V.int j))=false:=by rw [jP h]; rfl
end L2
set_option maxRecDepth 100000
namespace L2
open PySem
section
variable {prog:Program} {w:World} {A:Around} {E:Value->Shared->Prop} {s:Shared}
end
section
variable {prog:Program} {w:World} {A:Around} {E:Value->Shared->Prop} {s:Shared}
end
end L2
namespace L2
open PySem PySem.Spec PyProof.Rows
theorem Wt {vs:Array Value} (v:Option Value):Data.fields vs≠Data.cell v:=λz=>by cases z
theorem zI.turnT {X:Cx} {pins:List (Addr × Obj)} {σ:St} {H:Hp} {s:Shared} {h':Heap} {tk:Nat} {ch:List Addr} {T:Addr} {x y:V} {u v:Value} (I:zI X pins σ H s) (hf:∀ b∈ch,yP X pins H b) (keep:∀ b o,b∉ch->s.heap.get? b=some o->h'.get? b=some o)
  (hT:s.heap.objs.size<=T) (p:IsPair h' T u v) (rx:zS x u) (ry:zS y v):zI X pins σ (upd H T (.tup [x,y])) { s with heap:=h',toks:=tk }:=by
 have fr:H T=none:=I.hok.fresh hT
 have nT:∀ b o,s.heap.get? b=some o->b≠T:=λb o e z=>by rw [z] at e; exact absurd (Nat.lt_of_lt_of_le (Heap.lt_size e) hT) (Nat.lt_irrefl _)
 have uY:∀ b o,H b=some o->b∉ch:=λb o e z=>by rw [(hf b z).1] at e; cases e
 refine I.step (ch:=ch) (λb hb=>⟨(hf b hb).2.2.2.1,(hf b hb).2.1,(hf b hb).2.2.2.2.1,(hf b hb).2.2.2.2.2⟩) (λb o _ _ hc e _=>keep b o hc e) (λb o _ _ hc e _=>⟨o.slots,keep b o hc e⟩)
  (λb o _ e n=>by rw [yD (nT b o e)]; exact n) (λb o hc e=>⟨o,keep b o hc e⟩) (λb xs e=>by rw [yD (vR e fr)]; exact e) (λb o w e=>by rw [yD (vR e fr)]; exact e)
  (λb ps e=>⟨#[],by rw [yD (vR e fr),e]; simp⟩) (λm hm=>?_) (λb w e=>?_) I.bare
 ·obtain ⟨o,es,ep,ho,r⟩:=hm
  exact ⟨o,es,ep,keep _ o (λz=>(hf _ z).2.1 rfl) ho,r⟩
 ·by_cases hb:b=T
  ·subst hb
   rw [zG] at e
   cases e
   exact ⟨by show 2<=sizeLine; decide,[u,v],.cons rx (.cons ry .nil),⟨_,p,rfl,_,rfl⟩⟩
  ·rw [yD hb] at e
   refine (I.hok b w e).stay (λc q hc ec=>keep c q ?_ ec) (λc ec=>by rw [yD (vR ec fr)]; exact ec) λc xs ec=>by rw [yD (vR ec fr)]; exact ec
   rcases hc with z | z
   ·rw [z]
    exact uY b w e
   ·exact uY c _ z
theorem zI.turnN {X:Cx} {pins:List (Addr × Obj)} {σ:St} {H:Hp} {s:Shared} {h':Heap} {tk:Nat} {ch:List Addr} (I:zI X pins σ H s) (hf:∀ b∈ch,yP X pins H b) (keep:∀ b o,b∉ch->s.heap.get? b=some o->h'.get? b=some o) :
  zI X pins σ H { s with heap:=h',toks:=tk }:=by
 have uY:∀ b o,H b=some o->b∉ch:=λb o e z=>by rw [(hf b z).1] at e; cases e
 refine I.step (ch:=ch) (λb hb=>⟨(hf b hb).2.2.2.1,(hf b hb).2.1,(hf b hb).2.2.2.2.1,(hf b hb).2.2.2.2.2⟩) (λb o _ _ hc e _=>keep b o hc e) (λb o _ _ hc e _=>⟨o.slots,keep b o hc e⟩)
  (λb o _ e n=>n) (λb o hc e=>⟨o,keep b o hc e⟩) (λb xs e=>e) (λb o w e=>e) (λb ps e=>⟨#[],by rw [e]; simp⟩) (λm hm=>?_) (λb w e=>?_) I.bare
 ·obtain ⟨o,es,ep,ho,r⟩:=hm
  exact ⟨o,es,ep,keep _ o (λz=>(hf _ z).2.1 rfl) ho,r⟩
 ·refine (I.hok b w e).stay (λc q hc ec=>keep c q ?_ ec) (λc ec=>ec) λc xs ec=>ec
  rcases hc with z | z
  ·rw [z]
   exact uY b w e
  ·exact uY c _ z
section
variable {X:Cx} {es:List Expr} {kk:Nat} {tp:Pos}
end
end L2
namespace L2
open PySem PySem.Spec PyProof.Rows
section
variable {κ:Type} [DecidableEq κ]
noncomputable def xR (kvs:List (κ × V)) (k:κ):Option V:=(kvs.find? λkv=>decide (kv.1=k)).map (·.2)
noncomputable def wV (kvs:List (κ × V)) (k:κ) (v:V):List (κ × V):=
 if (kvs.any λkv=>decide (kv.1=k))=true then kvs.map (λkv=>if kv.1=k then (kv.1,v) else kv) else kvs++[(k,v)]
noncomputable def Wu (kvs:List (κ × V)) (k:κ):List (κ × V):=kvs.filter λkv=>decide (kv.1≠k)
theorem Yu {p:κ × V} {r:List (κ × V)} {k:κ} (e:p.1=k):xR (p :: r) k=some p.2:=by simp [xR,List.find?_cons,e]
theorem Yv {p:κ × V} {r:List (κ × V)} {k:κ} (e:¬ p.1=k):xR (p :: r) k=xR r k:=by simp [xR,List.find?_cons,e]
theorem Wv (k:κ):∀ kvs:List (κ × V),(kvs.any λkv=>decide (kv.1=k))=(xR kvs k).isSome
 | []=>rfl
 | p :: r=>by
  rw [List.any_cons]
  by_cases e:p.1=k
  ·simp only [Yu e,decide_eq_true e,Bool.true_or,Option.isSome_some]
  ·rw [Yv e,decide_eq_false e,Bool.false_or]; exact Wv k r
theorem yl.isSome_eq {o:Option V} {u:Option Value} (r:yl o u):o.isSome=u.isSome:=by
 cases o with
 | none=>cases u with
  | none=>rfl
  | some _=>exact (show False from r).elim
 | some _=>cases u with
  | none=>exact (show False from r).elim
  | some _=>rfl
theorem yl.getD {o:Option V} {u:Option Value} {d:V} {d':Value} (r:yl o u) (rd:zS d d'):zS (o.getD d) (u.getD d'):=by
 cases o with
 | none=>cases u with
  | none=>exact rd
  | some _=>exact (show False from r).elim
 | some _=>cases u with
  | none=>exact (show False from r).elim
  | some _=>exact r
theorem KV.val {kvs:List (κ × V)} {vs:List (κ × Value)} (r:KV kvs vs) (k:κ):yl (xR kvs k) (valueAt vs k):=by
 unfold KV at r
 induction r with
 | nil=>exact True.intro
 | @cons p q ps qs h t ih=>
  obtain ⟨h1,h2⟩:=h
  by_cases e:p.1=k
  ·have e':q.1=k:=h1.symm.trans e
   have b:valueAt (q :: qs) k=some q.2:=by simp [valueAt,List.find?_cons,e']
   rw [Yu e,b]; exact h2
  ·have e':¬ q.1=k:=λz=>e (h1.trans z)
   have b:valueAt (q :: qs) k=valueAt qs k:=by simp [valueAt,List.find?_cons,e']
   rw [Yv e,b]; exact ih
theorem KV.any {kvs:List (κ × V)} {vs:List (κ × Value)} (r:KV kvs vs) (k:κ):(kvs.any λkv=>decide (kv.1=k))=vs.any λkv=>decide (kv.1=k):=by
 unfold KV at r
 induction r with
 | nil=>rfl
 | cons h t ih=>rw [List.any_cons,List.any_cons,ih,h.1]
theorem KV.repl {kvs:List (κ × V)} {vs:List (κ × Value)} (r:KV kvs vs) (k:κ) {y:V} {u:Value} (ry:zS y u) :
  KV (kvs.map λkv=>if kv.1=k then (kv.1,y) else kv) (vs.map λkv=>if kv.1=k then (kv.1,u) else kv):=by
 unfold KV at r |-
 induction r with
 | nil=>exact .nil
 | @cons p q ps qs h t ih=>
  rw [List.map_cons,List.map_cons]
  refine .cons ?_ ih
  obtain ⟨h1,h2⟩:=h
  by_cases e:p.1=k
  ·rw [if_pos e,if_pos (h1.symm.trans e)]; exact ⟨h1,ry⟩
  ·rw [if_neg e,if_neg (λz=>e (h1.trans z))]; exact ⟨h1,h2⟩
theorem KV.put {kvs:List (κ × V)} {vs:List (κ × Value)} (r:KV kvs vs) (k:κ) {y:V} {u:Value} (ry:zS y u):KV (wV kvs k y) (stored vs k u):=by
 unfold wV stored
 rw [r.any k]
 by_cases e:(vs.any λkv=>decide (kv.1=k))=true
 ·rw [if_pos e,if_pos e]; exact r.repl k ry
 ·rw [if_neg e,if_neg e]; exact Paired.snoc r ⟨rfl,ry⟩
theorem KV.drop {kvs:List (κ × V)} {vs:List (κ × Value)} (r:KV kvs vs) (k:κ):KV (Wu kvs k) (without vs k):=by
 unfold KV at r |-
 unfold Wu without
 induction r with
 | nil=>exact .nil
 | @cons p q ps qs h t ih=>
  obtain ⟨h1,h2⟩:=h
  rw [List.filter_cons,List.filter_cons]
  by_cases e:p.1=k
  ·have a:¬ decide (p.1≠k)=true:=by simp [e]
   have b:¬ decide (q.1≠k)=true:=by simp [h1.symm.trans e]
   rw [if_neg a,if_neg b]; exact ih
  ·have e':¬ q.1=k:=λz=>e (h1.trans z)
   have a:decide (p.1≠k)=true:=by simp [e]
   have b:decide (q.1≠k)=true:=by simp [e']
   rw [if_pos a,if_pos b]; exact .cons ⟨h1,h2⟩ ih
theorem KV.length {kvs:List (κ × V)} {vs:List (κ × Value)} (r:KV kvs vs):kvs.length=vs.length:=Paired.length r
end
noncomputable abbrev KT (H:Hp):List (List yR × V)->List (List yR × Addr × Value)->Prop:=Paired λp q=>p.1=q.1/\H q.2.1=some (.tup (p.1.map kV))/\zS p.2 q.2.2
theorem KT.val {H:Hp} {kvs:List (List yR × V)} {xs:List (List yR × Addr × Value)} (r:KT H kvs xs) (k:List yR):yl (xR kvs k) ((atKey xs k).map (·.2)):=by
 induction r with
 | nil=>exact True.intro
 | @cons p q ps qs h t ih=>
  obtain ⟨h1,_,h2⟩:=h
  by_cases e:p.1=k
  ·have e':q.1=k:=h1.symm.trans e
   have b:atKey (q :: qs) k=some q.2:=by simp [atKey,List.find?_cons,e']
   rw [Yu e,b]; exact h2
  ·have e':¬ q.1=k:=λz=>e (h1.trans z)
   have b:atKey (q :: qs) k=atKey qs k:=by simp [atKey,List.find?_cons,e']
   rw [Yv e,b]; exact ih
theorem KT.repl {H:Hp} {kvs:List (List yR × V)} {xs:List (List yR × Addr × Value)} (r:KT H kvs xs) (k:List yR) {y:V} {u:Value} (ry:zS y u) :
  KT H (kvs.map λkv=>if kv.1=k then (kv.1,y) else kv) (xs.map (putAt k u)):=by
 induction r with
 | nil=>exact .nil
 | @cons p q ps qs h t ih=>
  rw [List.map_cons,List.map_cons]
  refine .cons ?_ ih
  obtain ⟨h1,h2,h3⟩:=h
  unfold putAt
  by_cases e:p.1=k
  ·rw [if_pos e,if_pos (h1.symm.trans e)]; exact ⟨h1,h2,ry⟩
  ·rw [if_neg e,if_neg (λz=>e (h1.trans z))]; exact ⟨h1,h2,h3⟩
theorem KT.put {H:Hp} {kvs:List (List yR × V)} {xs:List (List yR × Addr × Value)} (r:KT H kvs xs) (k:List yR) {b:Addr} {y:V} {u:Value} (hb:H b=some (.tup (k.map kV))) (ry:zS y u) :
  KT H (wV kvs k y) (storedH xs k b u):=by
 have e:(kvs.any λkv=>decide (kv.1=k))=(atKey xs k).isSome:=by
  rw [Wv,(r.val k).isSome_eq,Option.isSome_map]
 unfold wV storedH
 rw [e]
 by_cases q:(atKey xs k).isSome=true
 ·rw [if_pos q,if_pos q]; exact r.repl k ry
 ·rw [if_neg q,if_neg q]; exact Paired.snoc r ⟨rfl,hb,ry⟩
theorem KT.keeps {H H':Hp} {kvs:List (List yR × V)} {xs:List (List yR × Addr × Value)} (r:KT H kvs xs) (ht:∀ b ys,H b=some (.tup ys)->H' b=some (.tup ys)):KT H' kvs xs:=
 Paired.mapP r λ_ _ z=>⟨z.1,ht _ _ z.2.1,z.2.2⟩
section
variable {P:Program} {w:World} {H:Hp} {h:Heap} {a:Addr}
end
noncomputable def uy (H:Hp) (a:Addr) (y:V) (r:Option V):Prop:=
 (∃ kvs k,Rd H a (.dK kvs)/\y=kV k/\r=xR kvs k)\/∃ kvs k b,Rd H a (.dT kvs)/\y=.ref b/\H b=some (.tup (k.map kV))/\r=xR kvs k
noncomputable def uz (H:Hp) (a:Addr) (y v:V) (H':Hp):Prop:=
 (∃ kvs k,H a=some (.dK kvs)/\y=kV k/\kvs.length < sizeLine/\H'=upd H a (.dK (wV kvs k v)))∨
 ∃ kvs k b,H a=some (.dT kvs)/\y=.ref b/\H b=some (.tup (k.map kV))/\kvs.length < sizeLine/\H'=upd H a (.dT (wV kvs k v))
theorem uy.k {H:Hp} {a:Addr} {kvs:List (yR × V)} {k:yR} (e:H a=some (.dK kvs)):uy H a (kV k) (xR kvs k):=.inl ⟨kvs,k,.inl e,rfl,rfl⟩
theorem uy.t {H:Hp} {a b:Addr} {kvs:List (List yR × V)} {k:List yR} (e:H a=some (.dT kvs)) (eb:H b=some (.tup (k.map kV))):uy H a (.ref b) (xR kvs k):=.inr ⟨kvs,k,b,.inl e,rfl,eb,rfl⟩
theorem uz.k {H:Hp} {a:Addr} {kvs:List (yR × V)} {k:yR} {v:V} (e:H a=some (.dK kvs)) (hl:kvs.length < sizeLine):uz H a (kV k) v (upd H a (.dK (wV kvs k v))):=.inl ⟨kvs,k,e,rfl,hl,rfl⟩
theorem uz.t {H:Hp} {a b:Addr} {kvs:List (List yR × V)} {k:List yR} {v:V} (e:H a=some (.dT kvs)) (eb:H b=some (.tup (k.map kV))) (hl:kvs.length < sizeLine) :
  uz H a (.ref b) v (upd H a (.dT (wV kvs k v))):=.inr ⟨kvs,k,b,e,rfl,eb,hl,rfl⟩
section
variable {X:Cx} {pins:List (Addr × Obj)} {σ:St} {H:Hp} {s:Shared} {a:Addr} {y v:V} {u r:Value} {o:Option V} {A:Around} {E:Value->Shared->Prop}
theorem zI.big (I:zI X pins σ H s):sysModules < s.heap.objs.size:=by
 have h:mainGlobals < s.heap.objs.size:=(I.mod.glob.keeps I.bk).lt
 exact Nat.lt_trans (by decide) h
end
section
variable {X:Cx} {pins:List (Addr × Obj)} {σ:St} {H:Hp} {s:Shared} {a:Addr} {kvs:List (yR × V)} {k:yR} {u:Value} {A:Around} {E:Value->Shared->Prop}
end
section
variable {X:Cx} {o i e value:Expr} {pos pos' tpos:Pos} {td ty tv:TE}
end
section
variable {X:Cx} {pos:Pos}
end
end L2
namespace L2
open PySem
section
variable {prog:Program} {w:World} {A:Around} {R:Result->Shared->Prop} {s:Shared}
end
end L2
namespace L2
open PySem PySem.Spec PyProof.Rows
section
variable {X:Cx} {scope:Scope} {own:List Str} {caps:List (Nat × Str)} {elt tg iter cond:Expr} {wi:TI} {g:TG} {tc:TT} {te:TE} {pos:Pos}
end
end L2
namespace L2
open PySem PySem.Spec PyProof.Rows
section
variable {prog:Program} {w:World} {A:Around} {E:Value->Shared->Prop} {s:Shared}
end
end L2
namespace L2
open PySem PySem.Spec PyProof.Rows
theorem kZ {K:PySem.W.Frag} {a:Addr} {xs:List V} {g:TG} {te:TE} {σ0:St} {H:Hp} {Q:VK} (Pv:Nat->List V->St->Hp->Prop) (h0:Pv 0 [] σ0 H) (hl:∀ i ys σ H,i<=xs.length->Pv i ys σ H->zW K H a xs/\ys.length<=i) (hz:xs.length<=sizeLine)
  (hs:∀ i x ys σ H,xs[i]? = some x->Pv i ys σ H->g x σ H λσ2 H2=>te σ2 H2 λy H3=>Pv (i + 1) (ys++[y]) σ2 H3)
  (hd:∀ ys σ H,Pv xs.length ys σ H->∀ p,H p=none->Q (.ref p) (upd H p (.lst ys))) :
  kX (YZ K a) g te Q σ0 H:=by
 refine ⟨λi m ys σ H=>m=xs.length - i/\i<=xs.length/\Pv i ys σ H,⟨xs.length,by simp,Nat.zero_le _,h0⟩,?_⟩
 rintro i m ys σ H ⟨rfl,hi,p⟩
 obtain ⟨q,hy⟩:=hl i ys σ H hi p
 by_cases hlt:i < xs.length
 ·refine .inr ⟨⟨xs,xs[i],q,by simp [hlt]⟩,by omega,λy σ' H'=>Pv (i + 1) (ys++[y]) σ' H',λy σ' H' z=>⟨xs.length - (i + 1),by omega,rfl,hlt,z⟩,λx H' y=>?_⟩
  obtain ⟨e,y⟩:=y
  subst e
  exact hs i x ys σ _ (y xs q) p
 ·have e:i=xs.length:=by omega
  subst e
  exact .inl ⟨⟨xs,q,Nat.le_refl _⟩,hd ys σ H p⟩
section
variable {X:Cx}
end
end L2
namespace L2
open PySem PySem.Spec PyProof.Rows
section
variable {X:Cx}
end
end L2
namespace L2
open PySem
theorem Ww:bootBuiltins "max" = some (.builtin "max"):=by decide +kernel
end L2
namespace L2
open PySem PySem.Spec PyProof.Rows
section
variable {X:Cx}
end
end L2
namespace L2
open PySem PySem.Spec PyProof.Rows
theorem ka {a b c d:Nat} (h1:a < b) (h2:b<=c) (h3:c + 1<=d):d≠a:=by omega
theorem Yw {a b c:Nat} (h1:c=a + 1) (h2:c + 1<=b):b≠a:=by omega
theorem Zi {x:Str} {c:Addr}:∀ (names:List (Str × NameKind)) (n:Nat) (acc:List (Str × Addr)),(cellsFrom n names acc).lookup x=some c->((x,NameKind.cell)∈names/\n<=c)\/acc.lookup x=some c
 | [],_,_,h=>.inr h
 | (y,k) :: r,n,acc,h=>by
  unfold cellsFrom at h
  split at h
  ·rename_i hk
   rcases Zi r (n + 1) ((y,n) :: acc) h with ⟨a,b⟩ | z
   ·exact .inl ⟨List.mem_cons_of_mem _ a,by omega⟩
   ·rw [List.lookup_cons] at z
    by_cases e:(x == y)=true
    ·simp only [e] at z
     have e1:x=y:=eq_of_beq e
     have e2:k=.cell:=eq_of_beq hk
     subst e1
     subst e2
     cases z
     exact .inl ⟨List.mem_cons_self,Nat.le_refl _⟩
    ·have e':(x == y)=false:=by simpa using e
     simp only [e'] at z
     exact .inr z
  ·rcases Zi r n acc h with ⟨a,b⟩ | z
   ·exact .inl ⟨List.mem_cons_of_mem _ a,b⟩
   ·exact .inr z
theorem Yx {x:Str}:∀ (names:List (Str × NameKind)) (n:Nat) (acc:List (Str × Addr)),(x,NameKind.cell)∉names->(cellsFrom n names acc).lookup x=acc.lookup x
 | [],_,_,_=>rfl
 | (y,k) :: r,n,acc,h=>by
  have hr:(x,NameKind.cell)∉r:=λz=>h (List.mem_cons_of_mem _ z)
  unfold cellsFrom
  split
  ·rename_i hk
   have e2:k=.cell:=eq_of_beq hk
   rw [Yx r _ _ hr,List.lookup_cons]
   have e':(x == y)=false:=by
    cases q:x == y with
    | false=>rfl
    | true=>exact absurd (by rw [eq_of_beq q,e2]; exact List.mem_cons_self) h
   simp only [e']
  ·exact Yx r _ _ hr
theorem Yy:∀ (names:List (Str × NameKind)) (n:Nat) (acc:List (Str × Addr)),(∀ x c,acc.lookup x=some c->c < n)->(∀ x y c,acc.lookup x=some c->acc.lookup y=some c->x=y)->
  ∀ x y c,(cellsFrom n names acc).lookup x=some c->(cellsFrom n names acc).lookup y=some c->x=y
 | [],_,_,_,h2=>h2
 | (z,k) :: r,n,acc,h1,h2=>by
  unfold cellsFrom
  split
  ·have look:∀ x c,((z,n) :: acc).lookup x=some c->(x=z/\c=n)\/acc.lookup x=some c:=λx c e=>by
    rw [List.lookup_cons] at e
    cases q:x == z with
    | true=>
     simp only [q] at e
     exact .inl ⟨eq_of_beq q,(Option.some.inj e).symm⟩
    | false=>
     simp only [q] at e
     exact .inr e
   refine Yy r (n + 1) ((z,n) :: acc) (λx c e=>?_) λx y c e1 e2=>?_
   ·rcases look x c e with ⟨_,e⟩ | e
    ·rw [e]
     exact Nat.lt_succ_self n
    ·exact Nat.lt_succ_of_lt (h1 x c e)
   ·rcases look x c e1 with ⟨a1,b1⟩ | a1 <;> rcases look y c e2 with ⟨a2,b2⟩ | a2
    ·rw [a1,a2]
    ·have:=h1 y c a2
     rw [b1] at this
     exact absurd this (Nat.lt_irrefl n)
    ·have:=h1 x c a1
     rw [b2] at this
     exact absurd this (Nat.lt_irrefl n)
    ·exact h2 x y c a1 a2
  ·exact Yy r n acc h1 h2
theorem Yz {x:Str} {c:Addr}:∀ (names:List (Str × NameKind)) (h:Heap) (acc:List (Str × Addr)),(cellsFrom h.objs.size names acc).lookup x=some c->acc.lookup x=some c\/(pushCells h names).IsCell c none
 | [],_,_,e=>.inl e
 | (y,k) :: r,h,acc,e=>by
  unfold cellsFrom at e
  unfold pushCells
  split at e
  ·rename_i hk
   rw [if_pos hk]
   have q:=Yz (x:=x) (c:=c) r (h.push { cls:=.type "cell",data:=.cell none }) ((y,h.objs.size) :: acc) (by rw [Heap.size_push]; exact e)
   rcases q with q | q
   ·rw [List.lookup_cons] at q
    cases z:x == y with
    | true=>
     simp only [z] at q
     cases q
     exact .inr ⟨_,pushCells_keeps r _ _ _ (Heap.get?_push_size _ rfl),rfl⟩
    | false=>
     simp only [z] at q
     exact .inl q
   ·exact .inr q
  ·rename_i hk
   rw [if_neg hk]
   exact Yz r h acc e
theorem qd:∀ {l:List (Str × NameKind)} {x:Str} {k:NameKind},(l.map (·.1)).Nodup->(x,k)∈l->l.lookup x=some k
 | [],_,_,_,h=>by cases h
 | (y,j) :: r,x,k,nd,h=>by
  rw [List.map_cons,List.nodup_cons] at nd
  rw [List.lookup_cons]
  rcases List.mem_cons.mp h with e | h
  ·cases e
   rw [beq_self_eq_true]
  ·have ne:(x == y)=false:=by
    cases q:x == y with
    | false=>rfl
    | true=>exact absurd (by rw [<- eq_of_beq q]; exact List.mem_map.mpr ⟨(x,k),h,rfl⟩) nd.1
   simp only [ne]
   exact qd nd.2 h
theorem QX {M:Model} {A:Around} {E:Value->Shared->Prop} {s:Shared} {scope:Scope} {globals:Addr} {closure:List (Str × Addr)} {qual:Str} {func:Option Addr} {code:Value} {env:Env} {builtins:Addr} {Q:Env->Shared->Prop}
  (h:Q (newEnv scope s.heap.objs.size globals (cellsFrom (s.heap.objs.size + 1) scope.names closure) qual func code (some env) builtins) { s with heap:=pushCells (s.heap.push { cls:=.type "dict",data:=.dict #[] }) scope.names }) :
  wpAny M A (newFunctionEnv scope globals closure [] qual func code (some env) builtins) Q E s:=by
 simp only [newFunctionEnv,Option.isSome_some,if_true]
 refine wpAny_bind (wpAny_alloc ?_)
 refine wpAny_bind (wpAny_layCells _ (λname kind cells=>by cases hkc:kind == NameKind.cell <;> simp [hkc]) _ _ _ _ ?_)
 rw [show ({ s with heap:=s.heap.push { cls:=.type "dict",data:=.dict #[] } }:Shared).heap.objs.size=s.heap.objs.size + 1 from Heap.size_push ..]
 simp only [List.forIn_nil]
 exact wpAny_bind (wpAny_pure (wpAny_pure h))
noncomputable abbrev wx (X:Cx) (scope:Scope) (N:List Str) (C:Addr) (s₀:Shared) (H₀:Hp) (ex:List Addr):Cx:=
 { X with N:=N,s₀:=s₀,H₀:=H₀,env:=compEnvC scope (cellsFrom (C + 1) scope.names (wL scope X.env)) C X.env,outer:=X.stack,ex:=ex,fn:=λx=>scope.names.lookup x == some .cell,pn:=[],xe:=λ_ _=>False }
structure jx (X:Cx) (scope:Scope) (own:List Str) (caps:List (Nat × Str)):Prop where
 kind:scope.kind=.function
 nod:(scope.names.map (·.1)).Nodup
 locs:∀ y∈scope.names,y.2=.local->scope.names.lookup y.1=some .local
 free:∀ y∈scope.names,y.2=.free->(X.env.cells.lookup y.1).isSome=true
 caps:∀ p∈caps,X.N[p.1]? = some p.2/\scope.names.lookup p.2=some .free/\(X.env.kindOf p.2=some .cell\/X.env.kindOf p.2=some .free)
section
variable {X:Cx} {scope:Scope} {own:List Str} {caps:List (Nat × Str)} {pins:List (Addr × Obj)} {σ:St} {H:Hp} {s s4:Shared} {C D:Addr} {fp:List Addr}
theorem Zj (B:jx X scope own caps) {x:Str} {c n:Nat} (e:(cellsFrom n scope.names (wL scope X.env)).lookup x=some c):((x,NameKind.cell)∈scope.names/\n<=c)\/X.env.cells.lookup x=some c:=
 (Zi _ _ _ e).imp id λz=>(vJ B.free z).1
theorem Wx (I:zI X pins σ H s) {x:Str} {c:Addr} (e:X.env.cells.lookup x=some c):c < s.heap.objs.size:=by
 obtain ⟨v,o,ho,_⟩:=I.cell x c e
 exact Heap.lt_size ho
theorem QY (B:jx X scope own caps) (I:zI X pins σ H s) (hf:∀ b∈fp,yP X pins H b) (hC:s.heap.objs.size<=C) (hlt:∀ b∈fp,b < s.heap.objs.size):(wx X scope (zg own caps) C s H fp).Ok where
 mod:=I.ok.mod
 kind:=B.kind
 glob:=I.ok.glob
 blt:=I.ok.blt
 above:=hC
 inj:=Yy _ _ _ (λx c e=>Nat.lt_of_lt_of_le (Wx I (vJ B.free e).1) (Nat.le_succ_of_le hC)) λx y c h1 h2=>I.ok.inj x y c (vJ B.free h1).1 (vJ B.free h2).1
 has:=λx h=>by
  have fr:(x,NameKind.free)∈scope.names->∃ c,(cellsFrom (C + 1) scope.names (wL scope X.env)).lookup x=some c:=λz=>by
   obtain ⟨c,e⟩:=kT (env:=X.env) z
   exact Option.isSome_iff_exists.mp (PySem.W.cellsFrom_some _ _ _ (.inr (by rw [e]; rfl)))
  have ce:(x,NameKind.cell)∈scope.names->∃ c,(cellsFrom (C + 1) scope.names (wL scope X.env)).lookup x=some c:=λz=>
   Option.isSome_iff_exists.mp (PySem.W.cellsFrom_some _ _ _ (.inl (qd B.nod z)))
  rcases h with h | h
  ·rcases Wl (show (relabel scope X.env).names.lookup x=some .cell from h) with ⟨_,z | z⟩ | z
   ·exact fr z
   ·exact ce z
   ·exact ce z
  ·rcases Wl (show (relabel scope X.env).names.lookup x=some .free from h) with ⟨z,_⟩ | z
   ·cases z
   ·exact fr z
 cab:=λx c h e=>by
  have hx:scope.names.lookup x=some .cell:=eq_of_beq h
  rcases Zi _ _ _ e with ⟨_,z⟩ | z
  ·exact Nat.le_trans hC (Nat.le_of_succ_le z)
  ·have:=qd B.nod (vJ B.free z).2
   rw [hx] at this
   cases this
 hd:=I.ok.hd
 frames:=I.ok.frames
 stk:=.inl rfl
 exf:=λb hb=>⟨λe=>by have:=hlt b hb; rw [e] at this; exact absurd (Nat.lt_of_lt_of_le this hC) (Nat.lt_irrefl _),λx c e=>by
  rcases Zj B e with ⟨_,z⟩ | z
  ·exact ka (hlt b hb) hC z
  ·exact (hf b hb).2.2.2.2.1 x c z⟩
 bs:=I.bs
 bsz:=Nat.le_trans I.ok.bsz I.sz
 noex:=λb o e hb=>by
  rcases (hf b hb).2.2.2.1 with z | z
  ·exact I.ok.noex b o e z
  ·exact absurd (Nat.lt_of_lt_of_le (Heap.lt_size e) (Nat.le_trans I.ok.bsz z)) (Nat.lt_irrefl _)
 exfs:=λb hb z=>by
  rcases List.mem_cons.mp (I.stkSub b z) with e | z
  ·exact (hf b hb).2.1 e
  ·exact (hf b hb).2.2.1 z
 funs:=I.stack
 frf:=I.stkFree
theorem QZ (B:jx X scope own caps) (I:zI X pins σ H s) (hf:∀ b∈fp,yP X pins H b) (hC:s.heap.objs.size<=C) (hlt:∀ b∈fp,b < s.heap.objs.size)
  {m:Str->Option Value} (hn:s4.heap.Ns C m) (hk:∀ b o,s.heap.get? b=some o->s4.heap.get? b=some o) (hcell:∀ x c,(cellsFrom (C + 1) scope.names (wL scope X.env)).lookup x=some c->(wL scope X.env).lookup x=some c\/s4.heap.IsCell c none) (ho:s4.os=s.os) (hb:AllBare s4.gens) :
  zI (wx X scope (zg own caps) C s H fp) [] (vK own caps σ) H s4 where
 ok:=QY B I hf hC hlt
 os:=ho
 bare:=hb
 base:=Un.kept hk
 loc:=⟨m,hn,λi x v h1 h2 h3=>by
  obtain ⟨j,hm,hs⟩:=Wo h1 h2
  obtain ⟨c1,c2,c3⟩:=B.caps _ hm
  obtain ⟨m',_,hl⟩:=I.loc
  have vis:g7 X.env.scope x:=c3.elim (λz=>.inr (.inl z)) λz=>.inr (.inr z)
  obtain ⟨u,r,l⟩:=hl j x v c1 hs vis
  refine ⟨u,r,.inr ?_⟩
  have hm2:(x,NameKind.free)∈scope.names:=jO c2
  obtain ⟨c',hc'⟩:=kT (env:=X.env) hm2
  have hc2:=(vJ B.free hc').1
  have noc:(x,NameKind.cell)∉scope.names:=λz=>by
   have:=qd B.nod z
   rw [c2] at this
   cases this
  refine ⟨?_,c',(Yx _ _ _ noc).trans hc',?_⟩
  ·show (relabel scope X.env).names.lookup x=some .cell\/(relabel scope X.env).names.lookup x=some .free
   rw [Zh,c2,Option.map_some]
   split
   ·exact .inl rfl
   ·exact .inr rfl
  ·rcases l with ⟨k,_⟩ | ⟨_,c,e,z⟩
   ·rcases c3 with c3 | c3 <;> rw [c3] at k <;> cases k
   ·rw [hc2] at e
    cases e
    obtain ⟨o,e1,e2⟩:=z
    exact ⟨o,hk _ o e1,e2⟩⟩
 cell:=λx c e=>by
  rcases hcell x c e with z | z
  ·obtain ⟨v,o,e1,e2⟩:=I.cell x c (vJ B.free z).1
   exact ⟨v,o,hk _ o e1,e2⟩
  ·exact ⟨none,z⟩
 free:=I.hok.fresh hC
 freeC:=λx c e=>by
  rcases Zj B e with ⟨_,z⟩ | z
  ·exact I.hok.fresh (Nat.le_trans hC (Nat.le_of_succ_le z))
  ·exact I.freeC x c z
 pin:=λp hp=>by simp at hp
 hok:=I.hok.kept hk
 len:=by
  show (vK own caps σ).length=(zg own caps).length
  unfold vK zg
  simp
end
section
variable {X:Cx} {scope:Scope} {own:List Str} {caps:List (Nat × Str)} {elt tg iter cond:Expr} {wi:TI} {g:TG} {tc:TT} {te:TE} {pos:Pos}
theorem Qa {pins:List (Addr × Obj)} {σ:St} {H2:Hp} {s2:Shared} {it:Addr} {fp:List Addr} {tn:Nat->Heap->Prop} {J:It} {W:Nat->Nat->List V->St->Hp->Prop} {m0:Nat} {Q:VK} {E:Value->Shared->Prop} {RR:Value->Addr->Result->Shared->Prop}
  (B:jx X scope own caps) (hc:X.calm=true) (hg:∀ C s₀ H₀ ex,PG (wx X scope (zg own caps) C s₀ H₀ ex) tg g) (he:∀ C s₀ H₀ ex,PE (wx X scope (zg own caps) C s₀ H₀ ex) elt te)
  (I2:zI X pins σ H2 s2) (T:wF X.prog X.w X.K tg J fp it tn) (st2:tn 0 s2.heap) (f2:∀ b∈fp,yP X pins H2 b) (w0:W 0 m0 [] (vK own caps σ) H2)
  (turn:∀ i m ys σ1 H,W i m ys σ1 H->(J.stop i H/\∀ p,H p=none->Q (.ref p) (upd H p (.lst ys)))∨
   (J.go i H/\ys.length < sizeLine/\∃ N:V->St->Hp->Prop,(∀ y σ' H',N y σ' H'->∃ m',m' < m/\W (i + 1) m' (ys++[y]) σ' H')/\∀ x H',J.yld i H x H'->g x σ1 H' λσ2 H2=>te σ2 H2 λy H3=>N y σ2 H3))
  (hRR:∀ D C s6 H6 ys m,s6.heap.Ns C m->s2.heap.objs.size<=C->(∀ h',Heap.SameBut C s6.heap h'->zI X pins σ (upd H6 D (.lst ys)) { s6 with heap:=h' })->upd H6 D (.lst ys) C=none->Q (.ref D) (upd H6 D (.lst ys))->RR (.ref D) C (.ok .next) s6) :
  wpAny (model X.prog X.w) X.A (newList []) (λacc s3=>wpAny (model X.prog X.w) X.A (newFunctionEnv scope X.env.globals (wL scope X.env) [] X.env.qual none .none (some X.env)) (λcenv s4=>
   codeAny (model X.prog X.w) X.A (.compStart (.ListComp elt [⟨tg,iter,[],0⟩] scope pos) 0 (.ref it) acc { cenv with scope:=relabel scope X.env }) (RR acc cenv.locals) s4) E s3) E s2:=by
 have hlt:∀ b∈fp,b < s2.heap.objs.size:=λb hb=>by
  obtain ⟨o,ho,_⟩:=T.obj _ _ st2 b hb
  exact Heap.lt_size ho
 refine wpAny_newObj_type (QX ?_)
 dsimp only
 generalize hP:s2.heap.push { cls:=.type "list",dict:=none,data:=.seq ([]:List Value).toArray }=HD
 have hns:(pushCells (HD.push { cls:=.type "dict",data:=.dict #[] }) scope.names).Ns HD.objs.size (λ_=>none):=(Heap.Ns.new HD (.type "dict")).keeps (pushCells_keeps _ _)
 have hkp:∀ b o,HD.get? b=some o->(pushCells (HD.push { cls:=.type "dict",data:=.dict #[] }) scope.names).get? b=some o:=λb o e=>pushCells_keeps _ _ b o (Heap.get?_push_of_some _ e)
 have hcell:∀ x c,(cellsFrom (HD.objs.size + 1) scope.names (wL scope X.env)).lookup x=some c->(wL scope X.env).lookup x=some c\/(pushCells (HD.push { cls:=.type "dict",data:=.dict #[] }) scope.names).IsCell c none:=λx c e=>
  Yz _ _ _ (by rw [Heap.size_push]; exact e)
 generalize hP4:pushCells (HD.push { cls:=.type "dict",data:=.dict #[] }) scope.names=h4 at hns hkp hcell |-
 have hCD:HD.objs.size=s2.heap.objs.size + 1:=by rw [<- hP,Heap.size_push]
 have hDC:s2.heap.objs.size≠HD.objs.size:=by omega
 have hle:s2.heap.objs.size<=HD.objs.size:=by omega
 have old:∀ b o,s2.heap.get? b=some o->h4.get? b=some o:=λb o eb=>hkp b o (by rw [<- hP]; exact Heap.get?_push_of_some _ eb)
 have hD4:h4.get? s2.heap.objs.size=some { cls:=.type "list",data:=.seq ([]:List Value).toArray 0 }:=hkp _ _ (by rw [<- hP]; exact Heap.get?_push_size _ rfl)
 have IY:zI (wx X scope (zg own caps) HD.objs.size s2 H2 fp) [] (vK own caps σ) H2 { s2 with heap:=h4 }:=
  QZ B I2 f2 (by omega) hlt hns old hcell rfl I2.bare
 have stat:∀ {H':Hp},(∀ b∈fp,H' b=none)->∀ b∈fp,yP (wx X scope (zg own caps) HD.objs.size s2 H2 fp) [] H' b:=λ{H'} hn b hb=>by
  have hb2:=hlt b hb
  refine ⟨hn b hb,?_,λz=>?_,.inl hb,λx c ec=>(match Zj B ec with | .inl z=>ka hb2 hle z.2 | .inr z=>(f2 b hb).2.2.2.2.1 x c z),λp hp=>by simp at hp⟩
  ·exact Nat.ne_of_lt (Nat.lt_of_lt_of_le hb2 hle)
  ·rcases List.mem_cons.mp (I2.stkSub b z) with e | z
   ·exact (f2 b hb).2.1 e
   ·exact (f2 b hb).2.2.1 z
 have statD:∀ {H':Hp},H' s2.heap.objs.size=none->yP (wx X scope (zg own caps) HD.objs.size s2 H2 fp) [] H' s2.heap.objs.size:=λ{H'} hn=>by
  refine ⟨hn,hDC,λz=>?_,.inr (Nat.le_refl _),λx c ec z=>?_,λp hp=>by simp at hp⟩
  ·obtain ⟨_,o,ho,_⟩:=I2.stack.mem z
   exact absurd (Heap.lt_size ho) (Nat.lt_irrefl _)
  ·rcases Zj B ec with ⟨_,y⟩ | y
   ·exact Yw hCD y z
   ·have:=Wx I2 y
    rw [z] at this
    exact Nat.lt_irrefl _ this
 have neD:∀ b∈fp,b≠s2.heap.objs.size:=λb hb=>Nat.ne_of_lt (hlt b hb)
 have IY':zI (wx X scope (zg own caps) HD.objs.size s2 H2 fp) [(s2.heap.objs.size,yf [] 0)] (vK own caps σ) H2 { s2 with heap:=h4 }:=
  IY.pins_of λp hp=>by
   rw [List.mem_singleton.mp hp]
   have z:=statD (I2.hok.fresh (Nat.le_refl _))
   exact ⟨hD4,z.1,z.2.1,z.2.2.1,λv z=>by cases z⟩
 have loop:∀ s3:Shared,s3={ s2 with heap:=h4 }->
   codeAny (model X.prog X.w) X.A (.compLoop (.ListComp elt [⟨tg,iter,[],0⟩] scope pos) 0 (.ref it) (.ref s2.heap.objs.size) (compEnvC scope (cellsFrom (HD.objs.size + 1) scope.names (wL scope X.env)) HD.objs.size X.env))
    (RR (.ref s2.heap.objs.size) HD.objs.size) s3:=by
  rintro s3 rfl
  refine Wm (λn s'=>∃ i ys σ' H' its k,zI (wx X scope (zg own caps) HD.objs.size s2 H2 fp) [(s2.heap.objs.size,yf its k)] σ' H' s'/\tn i s'.heap/\(∀ b∈fp,H' b=none)∧
   zN ys its/\ys.length<=sizeLine/\W i n ys σ' H') ?_ m0 ⟨0,[],_,H2,[],0,IY',T.keep _ _ _ st2 λb hb o eb=>old b o eb,λb hb=>(f2 b hb).1,.nil,Nat.zero_le _,w0⟩
  rintro n s5 ⟨i,ys,σ5,H5,its,k,I5,st5,fr5,rv5,hz5,w5⟩
  have stat5:∀ {H':Hp},(∀ b∈fp,H' b=none)->∀ b∈fp,yP (wx X scope (zg own caps) HD.objs.size s2 H2 fp) [(s2.heap.objs.size,yf its k)] H' b:=λ{H'} hn b hb=>by
   obtain ⟨a1,a2,a3,a4,a5,_⟩:=stat hn b hb
   refine ⟨a1,a2,a3,a4,a5,λp hp=>?_⟩
   have hp':p∈[(s2.heap.objs.size,yf its k)]:=hp
   rw [List.mem_singleton.mp hp']
   exact Ne.symm (neD b hb)
  rcases turn i n ys σ5 H5 w5 with ⟨stop,qn⟩ | ⟨go,hlen,N,hN,step⟩
  ·refine zi (T.done (wx X scope (zg own caps) HD.objs.size s2 H2 fp) rfl rfl rfl hc i _ s5 σ5 H5 _ I5 (stat5 fr5) st5 stop) λr s6 ⟨hr,I6⟩=>?_
   subst hr
   obtain ⟨pD1,pD2,_⟩:=I6.pin (s2.heap.objs.size,yf its k) (List.mem_append_right _ List.mem_cons_self)
   obtain ⟨m6,hn6,_⟩:=I6.loc
   refine hRR _ _ s6 H5 ys m6 hn6 (by omega) (λh' sb=>?_) (by rw [yD (Ne.symm hDC)]; exact I6.free) (qn _ pD2)
   have hC5:H5 HD.objs.size=none:=I6.free
   have nb:∀ b o,s2.heap.get? b=some o->b≠HD.objs.size/\b≠s2.heap.objs.size:=λb o eb=>by
    have hb:=Heap.lt_size eb
    exact ⟨Nat.ne_of_lt (Nat.lt_of_lt_of_le hb hle),Nat.ne_of_lt hb⟩
   have nt:∀ b o,H5 b=some o->b≠s2.heap.objs.size:=λb o eb z=>by rw [z] at eb; rw [show H5 s2.heap.objs.size=none from pD2] at eb; cases eb
   have un:Un (vc X.stack) fp H2 (upd H5 s2.heap.objs.size (.lst ys)) s2.heap h':=
    ⟨λb o eb n1 n2 n3=>sb.extBut b o (nb b o eb).1 (I6.base.keep b o eb n1 n2 n3),
     λb o eb n1 n2 n3=>by
      obtain ⟨sl,e1⟩:=I6.base.slot b o eb n1 n2 n3
      exact ⟨sl,sb.extBut b _ (nb b o eb).1 e1⟩,
     λb o eb n1 n3=>by
      rw [yD (nb b o eb).2]
      exact I6.base.free b o eb n1 n3,
     λb o eb n3=>by
      obtain ⟨o',e1⟩:=I6.base.there b o eb n3
      exact ⟨o',sb.extBut b _ (nb b o eb).1 e1⟩,
     λb xs eb=>by
      have e1:=I6.base.tups b xs eb
      rw [yD (nt b _ e1)]
      exact e1,
     λb o u eb=>by
      have e1:=I6.base.frzs b o u eb
      rw [yD (nt b _ e1)]
      exact e1,
     λb ps eb=>by
      obtain ⟨more,e1⟩:=I6.base.tbls b ps eb
      refine ⟨more,?_⟩
      rw [yD (nt b _ e1)]
      exact e1⟩
   have ok5:xN X.prog X.w (upd H5 s2.heap.objs.size (.lst ys)) h':=λb u eb=>by
    by_cases hb:b=s2.heap.objs.size
    ·subst hb
     rw [zG] at eb
     cases eb
     exact ⟨hz5,its,k,rv5,sb.extBut _ _ hDC pD1⟩
    ·rw [yD hb] at eb
     refine (I6.hok b u eb).stay (λc v hcv ev=>sb.extBut c v ?_ ev) (λc ec=>by rw [yD (nt c _ ec)]; exact ec) λc xs ec=>by rw [yD (nt c _ ec)]; exact ec
     rintro rfl
     rcases hcv with z | z
     ·rw [<- z,hC5] at eb
      cases eb
     ·rw [hC5] at z
      cases z
   exact I2.call' (s':={ s6 with heap:=h' }) (ch:=fp) I6.os un ok5 I6.bare λb hb=>⟨(f2 b hb).2.2.2.1,(f2 b hb).2.1,(f2 b hb).2.2.2.2.1,(f2 b hb).2.2.2.2.2⟩
  ·refine zi (T.item (wx X scope (zg own caps) HD.objs.size s2 H2 fp) rfl rfl rfl hc i _ s5 σ5 H5 _ I5 (stat5 fr5) st5 go) λr s6 ⟨u,hr,h6⟩=>?_
   subst hr
   refine zi h6 λ_ s7 ⟨x,H7,I7,r7,y7,st7,fr7⟩=>?_
   have I7':=I7.pinned (stat5 fr7) (T.obj _ _ st7)
   refine zi (hg HD.objs.size s2 H2 fp _ s7 σ5 H7 x u _ I7' r7 (step x H7 y7)) λ_ s8 ⟨σ8,H8,I8,q8⟩=>?_
   refine zi (he HD.objs.size s2 H2 fp _ s8 σ8 H8 _ I8 q8) λyv s9 ⟨y,H9,I9,r9,n9⟩=>?_
   obtain ⟨m',hm',w9⟩:=hN y σ8 H9 n9
   have pD9:=(I9.pin (s2.heap.objs.size,yf its k) (List.mem_append_right _ (List.mem_append_left _ List.mem_cons_self))).2.1
   have hl:its.length=ys.length:=rv5.length.symm
   refine Wp (Y:=wx X scope (zg own caps) HD.objs.size s2 H2 fp) (its:=its) (k:=k) (pl:=qV fp s7.heap) I9 (statD pD9) rfl (by omega) λh' k' tk keep I'=>?_
   refine ⟨m',hm',i + 1,ys++[y],σ8,H9,its++[yv],k',I',?_,λb hb=>?_,rv5.append (.cons r9 .nil),?_,w9⟩
   ·refine T.keep _ _ _ st7 λb hb o eb=>keep b o (neD b hb) ?_
    exact (I9.pin (b,o) (List.mem_append_right _ (List.mem_append_right _ (qW hb eb)))).1
   ·obtain ⟨o,eb,_⟩:=T.obj _ _ st7 b hb
    exact (I9.pin (b,o) (List.mem_append_right _ (List.mem_append_right _ (qW hb eb)))).2.1
   ·rw [List.length_append,List.length_singleton]
    omega
 exact codeAny_compStart_list (loop _ rfl) (T.self _ 0 _ _ _ (T.keep _ _ _ st2 λb hb o eb=>old b o eb) (loop _ rfl))
theorem Wy (B:jx X scope own caps) (hc:X.calm=true) (hi:PI X tg iter wi) (hg:∀ C s₀ H₀ ex,PG (wx X scope (zg own caps) C s₀ H₀ ex) tg g)
  (he:∀ C s₀ H₀ ex,PE (wx X scope (zg own caps) C s₀ H₀ ex) elt te) (hs:∀ x,foldedSetIterable iter X.env x=pure x:=by intro _; rfl) :
  PE X (.ListComp elt [⟨tg,iter,[],0⟩] scope pos) (Ys own caps wi g te):=by
 intro pins s σ H Q I h
 rw [eval_ListComp]
 refine wpAny_comprehension_free (use:=none) rfl hs (Yp B.free) B.kind B.locs ?_
 refine zi (hi pins s σ H _ I h) λxv s1 h1=>zi h1 λitv s2 h2=>?_
 obtain ⟨it,fp,tn,J,H2,e,I2,T,st2,f2,W,⟨m0,w0⟩,turn⟩:=h2
 subst e
 refine Qa (RR:=λacc C=>compPost (model X.prog X.w) X.A X.xe none (EP X pins σ Q) acc C) B hc hg he I2 T st2 f2 w0 turn λD C s6 H6 ys m hn hC J6 hC6 q=>?_
 exact ⟨m,hn,λh' sb=>⟨.ref D,_,J6 h' sb,rfl,q⟩⟩
end
theorem Qb {X:Cx} {scope S:Scope} {own N:List Str} {caps:List (Nat × Str)} (k:scope.kind=.function) (nd:(scope.names.map (·.1)).Nodup)
  (hS:X.env.scope=S) (hc:∃ n,X.env.cells=cellsFrom n S.names []) (hN:X.N=N) (fr:scope.names.all (λy=>y.2 != .free || S.names.lookup y.1 == some .cell)=true)
  (cp:caps.all (λp=>N[p.1]? == some p.2 && scope.names.lookup p.2 == some .free && S.names.lookup p.2 == some .cell)=true):jx X scope own caps:=by
 obtain ⟨nn,hc⟩:=hc
 refine ⟨k,nd,λy hy e=>?_,λy hy e=>?_,λp hp=>?_⟩
 ·exact qd nd (by rw [<- e]; exact hy)
 ·have q:=List.all_eq_true.mp fr y hy
  rw [e] at q
  have q2:S.names.lookup y.1=some .cell:=by simpa using q
  rw [hc]
  exact PySem.W.cellsFrom_some S.names nn [] (.inl q2)
 ·have q:=List.all_eq_true.mp cp p hp
  simp only [Bool.and_eq_true,beq_iff_eq] at q
  refine ⟨by rw [hN]; exact q.1.1,q.1.2,.inl ?_⟩
  show X.env.scope.names.lookup p.2=some .cell
  rw [hS]
  exact q.2
theorem Qc {Y:Cx} {scope S:Scope} {own own0:List Str} {caps caps0:List (Nat × Str)} {C:Addr} {s₀:Shared} {H₀:Hp} {ex:List Addr} (k:scope.kind=.function) (nd:(scope.names.map (·.1)).Nodup)
  (ndS:(S.names.map (·.1)).Nodup) (fr:scope.names.all (λy=>y.2 != .free || S.names.lookup y.1 == some .cell || S.names.lookup y.1 == some .free)=true)
  (cp:caps.all (λp=>(zg own0 caps0)[p.1]? == some p.2 && scope.names.lookup p.2 == some .free)=true):jx (wx Y S (zg own0 caps0) C s₀ H₀ ex) scope own caps:=by
 have fr':∀ y∈scope.names,y.2=.free->S.names.lookup y.1=some .cell\/S.names.lookup y.1=some .free:=λy hy e=>by
  have q:=List.all_eq_true.mp fr y hy
  rw [e] at q
  simpa using q
 refine ⟨k,nd,λy hy e=>?_,λy hy e=>?_,λp hp=>?_⟩
 ·exact qd nd (by rw [<- e]; exact hy)
 ·show ((cellsFrom (C + 1) S.names (wL S Y.env)).lookup y.1).isSome=true
  refine PySem.W.cellsFrom_some _ _ _ ?_
  rcases fr' y hy e with z | z
  ·exact .inl z
  ·obtain ⟨c,e⟩:=kT (env:=Y.env) (jO z)
   exact .inr (by rw [e]; rfl)
 ·have q:=List.all_eq_true.mp cp p hp
  simp only [Bool.and_eq_true,beq_iff_eq] at q
  refine ⟨q.1,q.2,?_⟩
  show (relabel S Y.env).names.lookup p.2=some .cell\/(relabel S Y.env).names.lookup p.2=some .free
  rw [Zh]
  rcases fr' _ (jO q.2) rfl with z | z
  ·left
   show (S.names.lookup p.2).map _=_
   rw [z]
   rfl
  ·show (S.names.lookup p.2).map _=_\/(S.names.lookup p.2).map _=_
   rw [z,Option.map_some]
   split
   ·exact .inl rfl
   ·exact .inr rfl
end L2
namespace Sh
open PySem L2
noncomputable def jQ (ns:List Int) (k:Int):Int:=(ns[k.toNat]?).getD 0
inductive jy (K:PySem.W.Frag) (vs:List V) (H:Hp) (Q:VK) (E:XK):Prop
 | mk (a:Addr) (ns:List Int) (k:Int) (_:vs=[.ref a,.int k]) (_:zE K H a (ns.map V.int)) (_:0<=k) (_:Q (.int (jQ ns k)) H):jy K vs H Q E
theorem zK {H:Hp} {p:Addr} (h:H p=none) (o:HO):zC H (upd H p o):=λb u q=>by rw [yD (vR q h)]; exact q
theorem Y0 {x y:V}:xC [x,y] 0=some x:=rfl
theorem Y1 {x y:V}:xC [x,y] 1=some y:=rfl
noncomputable def Tp (H:Hp) (v:V) (xs:List V):Prop:=∃ a,v=.ref a/\H a=some (.tup xs)
theorem Tp.same {H H':Hp} {v:V} {xs:List V} (s:zC H H') (h:Tp H v xs):Tp H' v xs:=let ⟨r,e,q⟩:=h; ⟨r,e,s _ _ q⟩
theorem Tp.upd {H:Hp} {v:V} {xs:List V} {l:Addr} {o o':HO} (hl:H l=some o) (n:∀ ys,o≠.tup ys) (h:Tp H v xs):Tp (upd H l o') v xs:=by
 obtain ⟨r,e,q⟩:=h
 exact ⟨r,e,by rw [yD (X8 q hl λz=>n _ z.symm)]; exact q⟩
theorem yp {α β:Type} {R:α->β->Prop}:∀ {xs:List α} {ys:List β} {i:Nat} {x:α},Paired R xs ys->xs[i]? = some x->∃ y,ys[i]? = some y/\R x y
 | _,_,_,_,.nil,e=>by simp at e
 | _,_,0,_,.cons r _,e=>by simp at e; subst e; exact ⟨_,rfl,r⟩
 | _,_,i + 1,x,.cons _ t,e=>by
  obtain ⟨y,h1,h2⟩:=yp (i:=i) (x:=x) t (by simpa using e)
  exact ⟨y,by simpa using h1,h2⟩
theorem vT {α β:Type} {R:α->β->Prop} {x:α} {y:β} (r:R x y):∀ {xs:List α} {ys:List β},Paired R xs ys->Paired R (xs++[x]) (ys++[y])
 | _,_,.nil=>.cons r .nil
 | _,_,.cons q t=>.cons q (vT r t)
theorem jz {α:Type} {l:List α} {i:Nat} {x:α} (h:l[i]? = some x):l.take (i + 1)=l.take i++[x]:=by
 obtain ⟨hi,e⟩:=List.getElem?_eq_some_iff.mp h
 rw [List.take_succ_eq_append_getElem hi,e]
theorem uC {H H':Hp} {g:Addr} {o:HO} (h:zC H H') (hg:H g=none):zC H (upd H' g o):=λb u e=>by
 rw [yD (vR e hg)]
 exact h b u e
theorem Wz {α β:Type} (f:β->α->β) (b:β) {l:List α} {i:Nat} {x:α} (h:l[i]? = some x):(l.take (i + 1)).foldl f b=f ((l.take i).foldl f b) x:=by
 rw [jz h,List.foldl_append]
 rfl
noncomputable abbrev zf (H:Hp) (vs:List V) (ks:List (List Int)):Prop:=Paired (λv (k:List Int)=>Tp H v (k.map V.int)) vs ks
theorem zf.same {H H':Hp} {vs:List V} {ks:List (List Int)} (s:zC H H') (h:zf H vs ks):zf H' vs ks:=Paired.mapP h λ_ _ z=>Tp.same s z
theorem zf.upd {H:Hp} {vs:List V} {ks:List (List Int)} {l:Addr} {o o':HO} (hl:H l=some o) (n:∀ ys,o≠.tup ys) (h:zf H vs ks):zf (upd H l o') vs ks:=Paired.mapP h λ_ _ z=>Tp.upd hl n z
theorem u6 {K:PySem.W.Frag} {H:Hp}:∀ ws:List Int,wv K H (ws.map V.int) (ws.map PyData.int)
 | []=>.nil
 | w :: r=>.cons (.int w) (u6 r)
theorem qe:∀ ws:List Int,PyData.canLayAll0 (ws.map PyData.int)=true
 | []=>rfl
 | w :: r=>by
  show (PyData.canLay0 (.int w) && PyData.canLayAll0 (r.map PyData.int))=true
  rw [qe r]
  rfl
theorem qf:∀ ws:List Int,PyData.depthAll (ws.map PyData.int)=0
 | []=>rfl
 | w :: r=>by
  show max 0 (PyData.depthAll (r.map PyData.int))=0
  rw [qf r]
  rfl
theorem W0 (js:List Int):(PyData.list (js.map PyData.int)).canLay0=true:=qe js
theorem Qd (js:List Int):(PyData.list (js.map PyData.int)).depth<=60:=by
 show PyData.depthAll (js.map PyData.int) + 1<=60
 rw [qf]
 decide
theorem u7 (K:PySem.W.Frag):PySem.W.kitOne K (.type "list") (.type "list")=some true:=by first | rfl | decide +kernel | (unfold PySem.W.kitOne; rw [if_pos (by decide +kernel)])
inductive kb (K:PySem.W.Frag) (vs:List V) (H:Hp) (Q:VK) (E:XK):Prop
 | mk (a:Addr) (ns:List Int) (_:vs=[.ref a]) (_:zE K H a (ns.map V.int)) (_:ns.length<=63) (_:∀ H',Q (.bl true) H'):kb K vs H Q E
inductive jR (vs:List V) (H:Hp) (Q:VK) (E:XK):Prop
 | mk (c m:Int) (_:vs=[.int c,.int m]) (_:0<=m) (_:m<=100) (_:∀ (r:Addr) (H':Hp) (xs:List Int),zC H H'->H r=none->H' r=some (.lst (xs.map V.int))->xs.length=m.toNat->(∀ x∈xs,0<=x/\x < 10 ^ 45)->Q (.ref r) H'):jR vs H Q E
theorem vU {xs:List Int} {i:Nat} {x:V} (h:(xs.map V.int)[i]? = some x):∃ z,xs[i]? = some z/\x=V.int z:=by
 rw [List.getElem?_map] at h
 cases e:xs[i]? with
 | none=>rw [e] at h; cases h
 | some z=>rw [e] at h; exact ⟨z,rfl,(Option.some.inj h).symm⟩
end Sh
namespace L2
open PySem PySem.Spec PyProof.Rows
section
variable {X:Cx} {es:List Expr} {kk:Nat} {tp:Pos}
end
end L2
namespace L2
open PySem PySem.Spec PyProof.Rows
section
variable {X:Cx}
noncomputable def Y2 (K:PySem.W.Frag):R2:=λx y H Q=>∃ d e:PyData,Dp K H x d/\Dp K H y e/\d.canLay0=true/\e.canLay0=true/\d.depth<=60/\e.depth<=60/\Q (.bl (PyData.eqv d e)) H
theorem Qe (hu:X.A.units + 64 < cLine):xU X (compareOp .Eq) (Y2 X.K):=by
 intro pins s σ H x y v u Q I rx ry h
 obtain ⟨d,e,hx,hy,hc,hc',hd,hd',q⟩:=h
 obtain ⟨_,r1⟩:=hx.reads I rx
 obtain ⟨_,r2⟩:=hy.reads I ry
 exact SeqAt.compareEq_reads r1 r2 hc hc' (by omega) ⟨.bl _,H,I,rfl,q⟩
end
end L2
namespace Sh
open PySem L2
noncomputable def j0 (H:Hp) (v:V) (p:Int × Int):Prop:=∃ r,v=.ref r/\H r=some (.tup [.int p.1,.int p.2])
noncomputable abbrev qg (H:Hp) (vs:List V) (pts:List (Int × Int)):Prop:=Paired (j0 H) vs pts
theorem j0.same {H H':Hp} {v:V} {p:Int × Int} (s:zC H H') (h:j0 H v p):j0 H' v p:=let ⟨r,e,q⟩:=h; ⟨r,e,s _ _ q⟩
theorem qg.same {H H':Hp} {vs:List V} {pts:List (Int × Int)} (s:zC H H') (h:qg H vs pts):qg H' vs pts:=Paired.mapP h λ_ _ z=>z.same s
theorem j0.upd {H:Hp} {v:V} {p:Int × Int} {l:Addr} {xs:List V} {o:HO} (hl:H l=some (.lst xs)) (h:j0 H v p):j0 (upd H l o) v p:=by
 obtain ⟨r,e,q⟩:=h
 exact ⟨r,e,by rw [yD (X8 q hl (by intro z; cases z))]; exact q⟩
theorem qg.upd {H:Hp} {vs:List V} {pts:List (Int × Int)} {l:Addr} {xs:List V} {o:HO} (hl:H l=some (.lst xs)) (h:qg H vs pts):qg (upd H l o) vs pts:=Paired.mapP h λ_ _ z=>z.upd hl
structure Y3 (ws:List Int) (n:Nat):Prop where
 len:ws.length=n
 bd:∀ w∈ws,Bd 1000 w
structure kc (r:List Int) (n:Nat):Prop where
 len:r.length=n + 1
 bd:∀ x∈r,Bd 1000 x
theorem kc.rw {r:List Int} {n:Nat} (h:kc r n):Y3 (r.take n) n:=⟨by rw [List.length_take,h.len]; omega,λw hw=>h.bd w (List.mem_of_mem_take hw)⟩
theorem kc.at {r:List Int} {n j:Nat} (h:kc r n) (hj:j<=n):r[j]? = some (r.getD j 0)/\Bd 1000 (r.getD j 0):=by
 have e:r[j]? = some (r.getD j 0):=by
  rw [List.getD_eq_getElem?_getD,List.getElem?_eq_getElem (by have:=h.len; omega)]
  rfl
 exact ⟨e,h.bd _ (List.mem_of_getElem? e)⟩
noncomputable def yO (r:List Int):PyData:=.tuple (r.map PyData.int)
theorem uD {K:PySem.W.Frag} {H:Hp}:∀ {rv:List V} {rows:List (List Int)},zf H rv rows->wv K H rv (rows.map yO)
 | _,_,.nil=>.nil
 | _,_,.cons ⟨a,e,h⟩ t=>by
  subst e
  exact .cons (.tup (zW.of h) (u6 _)) (uD t)
theorem Y4:∀ rows:List (List Int),PyData.canLayAll0 (rows.map yO)=true
 | []=>rfl
 | r :: t=>by
  show (PyData.canLayAll0 (r.map PyData.int) && PyData.canLayAll0 (t.map yO))=true
  rw [qe,Y4 t]
  rfl
theorem Y5:∀ rows:List (List Int),PyData.depthAll (rows.map yO)<=1
 | []=>Nat.zero_le _
 | r :: t=>by
  show max (PyData.depthAll (r.map PyData.int) + 1) (PyData.depthAll (t.map yO))<=1
  rw [qf]
  have:=Y5 t
  omega
theorem Qf (rows:List (List Int)):(PyData.list (rows.map yO)).depth<=60:=by
 show PyData.depthAll (rows.map yO) + 1<=60
 have:=Y5 rows
 omega
theorem Y6 (rows:List (List Int)):(PyData.list (rows.map yO)).canLay0=true:=Y4 rows
end Sh
namespace L2
open PySem PySem.Spec PyProof.Rows
theorem Qg:bootBuiltins "min" = some (.builtin "min"):=by decide +kernel
section
variable {X:Cx}
end
end L2
namespace L2
open PySem PySem.Spec PyProof.Rows
noncomputable def kd (K:PySem.W.Frag) (a:Addr):It:=
 ⟨λi H=>∃ xs x,zE K H a xs/\xs[i]? = some x,
  λi H v H'=>∃ T x,v=.ref T/\H T=none/\H'=upd H T (.tup [.int (i:Int),x])/\∀ xs,zE K H a xs->xs[i]? = some x,
  λi H=>∃ xs,zE K H a xs/\i=xs.length⟩
theorem W1 {c x y:Addr} (h:c∉[x,y]):c≠x/\c≠y:=by
 simp only [List.mem_cons,List.not_mem_nil,or_false,not_or] at h
 exact h
theorem Qh {P:Program} {w:World} {K:PySem.W.Frag} {es:List Expr} {kk:Nat} {tp:Pos} {a e it:Addr} (ne:e≠it) :
  wF P w K (.Tuple es kk tp) (kd K a) [e,it] e (λi h=>(∃ old,IsEnum h e it i old)/\h.IsListIter it a i) where
 mem:=by simp
 obj:=λi h ⟨⟨old,t1⟩,t2⟩ c hc=>by
  simp only [List.mem_cons,List.not_mem_nil,or_false] at hc
  rcases hc with rfl | rfl
  ·exact ⟨_,t1,Wt⟩
  ·obtain ⟨o,e,_,d⟩:=t2
   exact ⟨o,e,by rw [d]; exact Wt⟩
 keep:=λi h h' ⟨⟨old,t1⟩,t2⟩ k=>⟨⟨old,k e (by simp) _ t1⟩,(by obtain ⟨o,q,r⟩:=t2; exact ⟨o,k it (by simp) o q,r⟩)⟩
 item:=by
  intro X hP hw hK hc i pins s σ H E I hf ⟨⟨old,t1⟩,t2⟩ hg
  subst hP hw hK
  obtain ⟨xs,x,hq,hx⟩:=hg
  obtain ⟨its,rv,p,_⟩:=I.list hq
  obtain ⟨u,hu,ru⟩:=rv.get hx
  refine wpAny_pyNext_enum_item t1 t2 p.isList (x:=u) (by simpa using hu) ne ?_
  intro h1 z1 z2 z3 z4 keep
  refine ⟨_,rfl,wpAny_letOwnedTupleGo_enum (s:={ s with heap:=h1,toks:=s.toks + 1 }) z1 λh2 z5 sb=>?_⟩
  have elt:e < s.heap.objs.size:=Heap.lt_size t1
  have keep2:∀ c o,c∉[e,it]->s.heap.get? c=some o->h2.get? c=some o:=λc o hc q=>by
   obtain ⟨c1,c2⟩:=W1 hc
   exact sb.extBut c o c1 (keep c o c1 c2 q)
  have pT:IsPair h2 s.heap.objs.size (.int i s.toks) u:=sb.extBut _ _ (Nat.ne_of_gt elt) z3
  have I':=I.turnT (h':=h2) (tk:=s.toks + 1) (ch:=[e,it]) (x:=.int (i:Int)) (y:=x) hf keep2 (Nat.le_refl _) pT ⟨_,rfl⟩ ru
  refine ⟨.ref s.heap.objs.size,_,I',rfl,⟨s.heap.objs.size,x,rfl,I.hok.fresh (Nat.le_refl _),rfl,λxs' q=>by rw [I.list_inj q hq]; exact hx⟩,
   ⟨⟨u,by simpa using z5⟩,z2.extBut sb.extBut (Ne.symm ne)⟩,λc hc=>?_⟩
  have:=(hf c hc).1
  rw [yD]
  ·exact this
  ·intro q
   obtain ⟨o,e1⟩:∃ o,s.heap.get? c=some o:=by
    simp only [List.mem_cons,List.not_mem_nil,or_false] at hc
    rcases hc with rfl | rfl
    ·exact ⟨_,t1⟩
    ·obtain ⟨o,e1,_⟩:=t2; exact ⟨o,e1⟩
   rw [q] at e1
   exact absurd (Heap.lt_size e1) (Nat.lt_irrefl _)
 done:=by
  intro X hP hw hK hc i pins s σ H E I hf ⟨⟨old,t1⟩,t2⟩ hg
  subst hP hw hK
  obtain ⟨xs,hq,e1⟩:=hg
  obtain ⟨its,rv,p,_⟩:=I.list hq
  have n1:its.length=xs.length:=rv.length.symm
  refine wpAny_pyNext_enum_end (I.ok.hd hc) t1 t2 p.isList (by simp; omega) ?_
  intro h1 ext
  refine ⟨rfl,I.turnN (h':=h1) (tk:=s.toks) (ch:=[e,it]) hf λc o hc q=>?_⟩
  exact ext c o (W1 hc).2 q
 self:=λ_ _ _ _ _ ⟨⟨_,st⟩,_⟩ h=>wpAny_pyIter_enum st h
section
variable {X:Cx} {es:List Expr} {kk:Nat} {tp:Pos}
noncomputable def kg (K:PySem.W.Frag) (ta:TA):TI:=λσ H R=>ta σ H λvs H1=>∃ a,vs=[.ref a]/\(∃ xs,zE K H1 a xs)/\R (kd K a) H1
theorem Qi {e1:Expr} {ta:TA} {p pos:Pos} (hg:Gl X "enumerate") (hm:X.mg "enumerate" = none) (ha:PA X [e1] ta) (hs:starEach [e1] X.env=[(false,eval e1 X.env)]:=by rfl) (hs2:starEach [] X.env=[]:=by rfl) :
  PI X (.Tuple es kk tp) (.Call (.Name "enumerate" p) [e1] [] pos) (kg X.K ta):=by
 intro pins s σ H R I h
 refine Call_ (qS I hg hm (show bootBuiltins "enumerate" = some (.type "enumerate") by decide +kernel) (PyProof.Rows.callWith_type1 (zi (ha pos pins s σ H _ I h) λus s1 ⟨vs,H1,I1,r1,q1⟩=>?_) (by rw [hs,hs2]) (by rw [hs2]; rfl)))
 obtain ⟨a,e,⟨xs,hx⟩,q⟩:=q1
 subst e
 obtain ⟨u,rfl,ru⟩:=vg r1
 cases ru
 obtain ⟨its,rv,p1,_⟩:=I1.list hx
 have la:a < s1.heap.objs.size:=by obtain ⟨o,n,e,_⟩:=p1; exact Heap.lt_size e
 refine call_enumerate_list p1.isList λh' z1 z2 _ keep=>wpAny_pyIter_enum z1 ?_
 have I2:zI X pins σ H1 { s1 with heap:=h' }:=I1.kept (t':=s1.toks) keep
 refine ⟨s1.heap.objs.size + 1,[s1.heap.objs.size + 1,s1.heap.objs.size],_,_,H1,rfl,I2,Qh (a:=a) (Nat.succ_ne_self _),⟨⟨_,z1⟩,z2⟩,λc hc=>?_,q⟩
 have ge:s1.heap.objs.size<=c:=by
  simp only [List.mem_cons,List.not_mem_nil,or_false] at hc
  rcases hc with rfl | rfl
  ·exact Nat.le_add_right _ 1
  ·exact Nat.le_refl _
 exact I1.fpOk ge (I1.hok.fresh ge)
end
theorem Qj {K:PySem.W.Frag} {a:Addr} {xs:List V} {g:TG} {tb:TS} {D:wC} {σ:St} {H:Hp} (Pv:Nat->St->Hp->Prop) (h0:Pv 0 σ H) (hl:∀ i σ H,i<=xs.length->Pv i σ H->zE K H a xs)
  (hs:∀ i x T σ H,xs[i]? = some x->H T=none->Pv i σ H->g (.ref T) σ (upd H T (.tup [.int (i:Int),x])) λσ2 H2=>tb { D with nx:=Pv (i + 1),ct:=Pv (i + 1),bk:=D.nx } σ2 H2) (hd:∀ σ H,Pv xs.length σ H->D.nx σ H) :
  ∃ W:Nat->Nat->St->Hp->Prop,(∃ m,W 0 m σ H)/\∀ i m σ H,W i m σ H->
   ((kd K a).stop i H/\D.nx σ H)\/((kd K a).go i H/\∃ N:St->Hp->Prop,(∀ σ' H',N σ' H'->∃ m',m' < m/\W (i + 1) m' σ' H')/\∀ x H',(kd K a).yld i H x H'->g x σ H' λσ2 H2=>tb { D with nx:=N,ct:=N,bk:=D.nx } σ2 H2):=by
 refine ⟨λi m σ H=>m=xs.length - i/\i<=xs.length/\Pv i σ H,⟨xs.length,by simp,Nat.zero_le _,h0⟩,?_⟩
 rintro i m σ H ⟨rfl,hi,p⟩
 have q1:=hl i σ H hi p
 by_cases hlt:i < xs.length
 ·refine .inr ⟨⟨xs,xs[i],q1,by simp [hlt]⟩,Pv (i + 1),λσ' H' p'=>⟨xs.length - (i + 1),by omega,rfl,hlt,p'⟩,λv H' y=>?_⟩
  obtain ⟨T,x,rfl,hT,rfl,c1⟩:=y
  exact hs i x T σ H (c1 xs q1) hT p
 ·have e:i=xs.length:=by omega
  subst e
  exact .inl ⟨⟨xs,q1,rfl⟩,hd σ H p⟩
end L2
namespace Sh
open PySem L2
inductive Kd where
 | int | bool | non | str | lst | tup | dic
 deriving DecidableEq
noncomputable def Kd.nm:Kd->String
 | .int=>"int" | .bool=>"bool" | .non=>"NoneType" | .str=>"str" | .lst=>"list" | .tup=>"tuple" | .dic=>"dict"
noncomputable def Kd.whole:Kd->Bool
 | .int=>true
 | _=>false
noncomputable def Kd.isInt:Kd->Bool
 | .int=>true
 | .bool=>true
 | _=>false
noncomputable def Kd.isTup:Kd->Bool
 | .tup=>true
 | _=>false
inductive vz (H:Hp):V->Kd->Prop where
 | non:vz H .non .non
 | bl (b:Bool):vz H (.bl b) .bool
 | int (i:Int):vz H (.int i) .int
 | str (x:Str):vz H (.str x) .str
 | lst {a:Addr} {xs:List V} (e:H a=some (.lst xs)):vz H (.ref a) .lst
 | tup {a:Addr} {xs:List V} (e:H a=some (.tup xs)):vz H (.ref a) .tup
 | dic {a:Addr} {kvs:List (yR × V)} (e:H a=some (.dK kvs)):vz H (.ref a) .dic
theorem vz.ty {K:PySem.W.Frag} {H:Hp} {x:V} {k:Kd} (h:vz H x k):ym K H x (.type k.nm):=by
 cases h with
 | non=>exact .non
 | bl b=>exact .bl b
 | int i=>exact .int i
 | str x=>exact .str x
 | lst e=>exact .lst e
 | tup e=>exact .tup e
 | dic e=>exact .dK e
theorem vz.same {H H':Hp} {x:V} {k:Kd} (s:zC H H') (h:vz H x k):vz H' x k:=by
 cases h with
 | non=>exact .non
 | bl b=>exact .bl b
 | int i=>exact .int i
 | str x=>exact .str x
 | lst e=>exact .lst (s _ _ e)
 | tup e=>exact .tup (s _ _ e)
 | dic e=>exact .dic (s _ _ e)
noncomputable def Kd.isLst:Kd->Bool
 | .lst=>true
 | _=>false
section
variable (K:PySem.W.Frag)
theorem Y7 (k:Kd):PySem.W.kitOne K (.type k.nm) (.type "tuple")=some k.isTup:=by
 cases k <;> first | rfl | decide +kernel | (unfold PySem.W.kitOne; rw [if_pos (by decide +kernel)]; rfl) | (unfold PySem.W.kitOne; rw [if_neg (by decide +kernel)]; rfl)
theorem kh (k:Kd):PySem.W.kitOne K (.type k.nm) (.type "list")=some k.isLst:=by
 cases k <;> first | rfl | decide +kernel | (unfold PySem.W.kitOne; rw [if_pos (by decide +kernel)]; rfl) | (unfold PySem.W.kitOne; rw [if_neg (by decide +kernel)]; rfl)
end
end Sh
namespace L2
open PySem PySem.Spec PyProof.Rows
section
variable {X:Cx}
end
end L2
namespace L2
open PySem PySem.Spec PyProof.Rows
structure zF (K:PySem.W.Frag) (mg:Str->Option Value) (x:Str) (C:Addr):Prop where
 cl:uc K C
 mgC:mg x=some (.ref C)
 ha:PySem.W.findIn K (.ref C) "__class__" = some (some (.builtin "object.__class__"))
 hn:PySem.W.specialIn K (.builtin "object.__class__") "__get__" = some (some (.builtin "getset_descriptor.__get__"))
 htk:PySem.W.takesIn K (.builtin "object.__class__")=some true
 hm:PySem.W.mroIn K C (.type "object")=some true
theorem zF.ty {K:PySem.W.Frag} {mg:Str->Option Value} {x:Str} {C a dx:Addr} {H:Hp} {fs:List (Str × V)} (T:zF K mg x C) (e:H a=some (.ins C dx fs)):ym K H (.ref a) (.ref C):=.ins e T.cl T.ha T.hn T.htk T.hm
structure ug (P:Program) (w:World) (K:PySem.W.Frag) (mg:Str->Option Value) (base:Heap) (C:Addr) (m:Str) (ps:List Str) (k:Nat) (sp:Sp):Prop where
 ex:∃ f fd,zJ P w K mg base zh k f fd ps sp/\jq K C m f/\wS K fd ps []
structure xz (P:Program) (w:World) (K:PySem.W.Frag) (mg:Str->Option Value) (base:Heap) (C:Addr) (ps:List Str) (k:Nat) (sp:Sp):Prop where
 ex:∃ f fd,zJ P w K mg base zh k f fd ps sp/\Mk K C f/\wS K fd ps []
structure xf (P:Program) (w:World) (K:PySem.W.Frag) (mg:Str->Option Value) (base:Heap) (C:Addr) (ps:List Str) (k:Nat) (sp:Sp) (dv:V):Prop where
 ex:∃ f fd d,zJ P w K mg base zh k f fd ps sp/\Mk K C f/\wS K fd ps []/\wS K fd ps [d]/\zS dv d
theorem ug.mono {P:Program} {w:World} {K:PySem.W.Frag} {mg:Str->Option Value} {base:Heap} {C:Addr} {m:Str} {ps:List Str} {j k:Nat} {sp:Sp} (F:ug P w K mg base C m ps j sp) (h:j<=k:=by decide):ug P w K mg base C m ps k sp:=by
 obtain ⟨f,fd,a,b,c⟩:=F.ex
 exact ⟨f,fd,a.mono h,b,c⟩
theorem xz.mono {P:Program} {w:World} {K:PySem.W.Frag} {mg:Str->Option Value} {base:Heap} {C:Addr} {ps:List Str} {j k:Nat} {sp:Sp} (F:xz P w K mg base C ps j sp) (h:j<=k:=by decide):xz P w K mg base C ps k sp:=by
 obtain ⟨f,fd,a,b,c⟩:=F.ex
 exact ⟨f,fd,a.mono h,b,c⟩
theorem xf.mono {P:Program} {w:World} {K:PySem.W.Frag} {mg:Str->Option Value} {base:Heap} {C:Addr} {ps:List Str} {j k:Nat} {sp:Sp} {dv:V} (F:xf P w K mg base C ps j sp dv) (h:j<=k:=by decide):xf P w K mg base C ps k sp dv:=by
 obtain ⟨f,fd,d,a,b,c⟩:=F.ex
 exact ⟨f,fd,d,a.mono h,b,c⟩
theorem xf.fn {P:Program} {w:World} {K:PySem.W.Frag} {mg:Str->Option Value} {base:Heap} {C:Addr} {ps:List Str} {k:Nat} {sp:Sp} {dv:V} (F:xf P w K mg base C ps k sp dv):xz P w K mg base C ps k sp:=by
 obtain ⟨f,fd,d,a,b,c,_⟩:=F.ex
 exact ⟨f,fd,a,b,c⟩
section
variable {X:Cx} {C:Addr} {m x:Str} {ps:List Str} {k:Nat} {sp:Sp} {o e:Expr} {es:List Expr} {ta:TE} {t:TA} {p pos apos:Pos} {dv:V}
theorem Zk {pl:Sem Bool} (F:ug X.prog X.w X.K X.mg X.base C m ps k sp) (T:zF X.K X.mg x C) (hr:zy k X.A) (he:PE X o ta)
  (ht:eval (.Call (.Attribute o m apos) [] [] pos) X.env=(do
   let ov <- eval o X.env
   standAt apos.atName
   let (f,first) <- holding [ov] (getMethod ov m pl)
   callWith pos f first (backTo pos (starEach [] X.env)) (backToKw pos (keywordEach [] X.env))):=by rfl) :
  PE X (.Call (.Attribute o m apos) [] [] pos) (WS C m sp [] E0 ta jr):=by
 obtain ⟨f,fd,a,b,c⟩:=F.ex
 exact Jy he T.cl b a hr c .nil Zf ht
theorem vV (F:xz X.prog X.w X.K X.mg X.base C ps k sp) (T:zF X.K X.mg x C) (hr:zy (k + 1) X.A) (hg:Gl X x) (ha:PA X (e :: es) t)
  (hdb:(x == ("__debug__" : Str))=false:=by decide) (he:starEach (e :: es) X.env=(false,eval e X.env) :: starEach es X.env:=by rfl) (hpl:(backTo pos (starEach es X.env)).any (·.1)=false:=by rfl) :
  PE X (.Call (.Name x p) (e :: es) [] pos) (WT C sp [] E0 t):=by
 obtain ⟨f,fd,a,b,c⟩:=F.ex
 exact J0 b a hr hg T.mgC c .nil Zf ha hdb he hpl
theorem wy (T:zF X.K X.mg x C) (hg:Gl X x) (hd:(x == ("__debug__" : Str))=false:=by decide):PE X (.Name x pos) (tC (.ref C)):=YN hg T.mgC rfl hd
noncomputable def wW (K:PySem.W.Frag):List V->Hp->VK->Prop:=λxs H Q=>∃ x C t b,xs=[x,.ref C]/\ym K H x t/\PySem.W.kitOne K t (.ref C)=some b/\Q (.bl b) H
theorem wz:ya X (.builtin "isinstance") (wW X.K):=by
 intro pins s σ H xs us Q I r h
 obtain ⟨x,C,t,b,rfl,ty,e,q⟩:=h
 obtain ⟨u,v,rfl,ru,rv⟩:=Yg r
 cases (show v=Value.ref C from rv)
 exact WR I ru ty e λtk=>⟨.bl b,H,I.tok tk,rfl,q⟩
end
end L2
namespace L2
open PySem PySem.Spec PyProof.Rows
section
variable {X:Cx} {pos:Pos}
theorem Zl {x:Str} {n:Int} (hg:Gl X x) (h:∃ t,X.mg x=some (.int n t)) (hd:(x == ("__debug__" : Str))=false:=by decide):PE X (.Name x pos) (tC (.int n)):=
 let ⟨t,e⟩:=h
 YN hg e ⟨t,rfl⟩ hd
end
noncomputable def Y8:Sp:=λ_ _ _ _=>False
theorem zJ.none {P:Program} {w:World} {K:PySem.W.Frag} {mg:Str->Option Value} {base:Heap} {CX:vG} {k:Nat} {f:Addr} {fd:FuncData} {ps:List Str}:zJ P w K mg base CX k f fd ps Y8:=
 ⟨λ_ _ _ _ h=>h.elim,λ_ _ _ _ _ _ _ _ _ _ _ _ _ h=>h.elim⟩
end L2
namespace L2
open PySem PySem.Spec PyProof.Rows PySem.SeqAt
section
variable {X:Cx}
end
end L2
namespace L2
open PySem PySem.Spec PyProof.Rows
open PySem
theorem zC.seqT {K:PySem.W.Frag} {H H':Hp} {a:Addr} {xs:List V} (e:zC H H') (h:zW K H a xs):zW K H' a xs:=by
 rcases h with (h | ⟨o,h⟩) | h
 ·exact .inl (.inl (e _ _ h))
 ·exact .inl (.inr ⟨o,e _ _ h⟩)
 ·exact .inr h
noncomputable def Zm (K:PySem.W.Frag) (H:Hp) (a:Addr) (xs:List V):Prop:=zW K H a xs\/zE K H a xs
theorem Zm.same {K:PySem.W.Frag} {H H':Hp} {a:Addr} {xs:List V} (s:zC H H') (h:Zm K H a xs):Zm K H' a xs:=h.imp (λz=>s.seqT z) (λz=>s.seq z)
section
variable {X:Cx} {es:List Expr} {kk:Nat} {tp:Pos}
end
section
variable {prog:Program} {w:World} {A:Around} {E:Value->Shared->Prop}
theorem W2 {it l:Addr} {xs:Array Value} (ne:l≠it):∀ (m j:Nat) (s:Shared) (R:List Value->Shared->Prop),s.heap.IsListIter it l j->s.heap.IsList l xs->j + m<=xs.size->
  (∀ g,g.IsListIter it l (j + m)->Heap.SameBut it s.heap g->R ((xs.toList.drop j).take m) { s with heap:=g })->wpAny (model prog w) A (draw (.ref it) m) R E s
 | 0,j,s,R,hi,_,_,k=>wpAny_pure (by simpa using k s.heap hi (Heap.SameBut.refl ..))
 | m + 1,j,s,R,hi,hl,le,k=>by
  have lt:j < xs.size:=by omega
  have step:=λg (z:Heap.SameBut it s.heap g)=>(hl.extBut z.extBut ne:g.IsList l xs)
  show wpAny _ _ (pyNext (.ref it) >>= _) R E s
  refine wpAny_bind (wpAny_pyNext_list_item hi hl (x:=xs[j]) (by simp [lt]) λg1 i1 b1=>?_)
  refine wpAny_bind (wpAny_holding (W2 ne m (j + 1) _ _ i1 (step g1 b1) (by omega) λg2 i2 b2=>wpAny_pure ?_))
  have z:=k g2 (by rw [show j + (m + 1)=j + 1 + m by omega]; exact i2) (b1.trans b2)
  rw [show xs.toList.drop j=xs[j] :: xs.toList.drop (j + 1) by simp [List.drop_eq_getElem_cons,lt],List.take_succ_cons] at z
  exact z
theorem Qk {s:Shared} {l:Addr} {xs:Array Value} {R:List Value->Shared->Prop} (hd:A.handled=none) (hl:s.heap.IsList l xs)
  (k:∀ g,Heap.ExtBut s.heap.objs.size s.heap g->R xs.toList { s with heap:=g }):wpAny (model prog w) A (unpackItems (.ref l) xs.size none) R E s:=by
 have ne:l≠s.heap.objs.size:=by
  obtain ⟨o,eo,_⟩:=hl
  exact Nat.ne_of_lt (Heap.lt_size eo)
 unfold unpackItems
 refine wpAny_bind ?_
 unfold notIterableAtAll
 refine wpAny_bind (wpAny_specialOf hl.typeIs slot_list_iter.lookup ?_)
 refine wpAny_pure ?_
 simp only [Bool.false_eq_true,if_false]
 refine wpAny_bind (wpAny_holding (wpAny_pyIter_list hl ?_))
 refine wpAny_bind (wpAny_holding (W2 ne xs.size 0 _ _ ⟨_,Heap.get?_push_size _ rfl,rfl,rfl⟩ (hl.push _) (by omega) λg1 i1 b1=>?_))
 rw [show List.take xs.size (List.drop 0 xs.toList)=xs.toList by rw [List.drop_zero]; exact List.take_of_length_le (by simp),if_neg (by simp)]
 refine wpAny_bind (wpAny_holding (wpAny_pyNext_list_end hd i1 ((hl.push _).extBut b1.extBut ne) (by simp) λg2 x2=>?_))
 simp only [Option.isSome_none,Bool.false_eq_true,if_false]
 exact wpAny_pure (k g2 λc o n e=>x2 c o n (b1.extBut c o n (Heap.get?_push_of_some _ e)))
end
section
variable {X:Cx} {pos:Pos}
noncomputable def Y9 (K:PySem.W.Frag) (n:Nat) (t:ur):TG:=λv σ H Q=>∃ a xs,v=.ref a/\zE K H a xs/\xs.length=n/\t xs σ H Q
theorem Ql {es:List Expr} {k:Nat} {t:ur} {n:Nat} (hc:X.calm=true) (h:kF X es t)
  (hn:(assignEach es X.env).length=n:=by rfl) (hst:(assignEach es X.env).findIdx? (·.1)=none:=by rfl):PG X (.Tuple es k pos) (Y9 X.K n t):=by
 intro pins s σ H v u Q I r hw
 obtain ⟨a,xs,e1,hq,hl,hw⟩:=hw
 subst e1
 cases r
 obtain ⟨its,rv,ht,hz⟩:=I.list hq
 rw [assign_Tuple]
 refine wpAny_bind (wpAny_standAt ?_)
 unfold unpack
 rw [show (assignEach es X.env).length=its.toArray.size by simp [hn,<- hl,rv.length],hst]
 refine wpAny_bind (wpAny_holding (Qk (I.ok.hd hc) ht.isList λg hx=>?_))
 have I1:zI X pins σ H { s with heap:=g }:=I.kept (t':=s.toks) λb o e=>hx b o (Nat.ne_of_lt (Heap.lt_size e)) e
 exact h pins _ σ H xs _ Q I1 (by simpa using rv) hw
end
end L2
namespace L2
open PySem PySem.Spec PyProof.Rows
section
variable {X:Cx}
end
end L2
namespace Sh
open PySem L2
noncomputable def uE (H:Hp) (v:V) (r:List Int):Prop:=∃ a,v=.ref a/\H a=some (.lst (r.map V.int))
noncomputable abbrev zU (H:Hp) (vs:List V) (tab:List (List Int)):Prop:=Paired (uE H) vs tab
theorem uE.same {H H':Hp} {v:V} {r:List Int} (s:zC H H') (h:uE H v r):uE H' v r:=let ⟨a,e,q⟩:=h; ⟨a,e,s _ _ q⟩
theorem zU.same {H H':Hp} {vs:List V} {tab:List (List Int)} (s:zC H H') (h:zU H vs tab):zU H' vs tab:=Paired.mapP h λ_ _ z=>z.same s
noncomputable def zr (p:Addr) (H H':Hp):Prop:=∀ b o,H b=some o->b≠p->H' b=some o
theorem zC.but {p:Addr} {H H':Hp} (s:zC H H'):zr p H H':=λb o e _=>s b o e
theorem zr.trans {p:Addr} {H H1 H2:Hp} (a:zr p H H1) (b:zr p H1 H2):zr p H H2:=λc o e n=>b c o (a c o e n) n
theorem y0 (p:Addr) (H:Hp) (o:HO):zr p H (upd H p o):=λb u e n=>by rw [yD n]; exact e
noncomputable def xg (H0 H:Hp) (v:V) (r:List Int):Prop:=∃ a,v=.ref a/\H0 a=none/\H a=some (.lst (r.map V.int))
inductive u8 (vs:List V) (H:Hp) (Q:VK) (E:XK):Prop
 | mk (i d:Int) (_:vs=[.int i,.int d]) (_:Q (.int i) H):u8 vs H Q E
noncomputable def jA:Sp:=λvs H Q _=>(∃ i d:Int,vs=[.int i,.int d]/\Q (.int i) H)∨
 (∃ (a:Addr) (ns:List Int) (d:Int),vs=[.ref a,.int d]/\1<=d/\H a=some (.lst (ns.map V.int))/\ns.length<=900/\∀ l H',zC H H'->H l=none->H' l=some (.lst (ns.map V.int))->Q (.ref l) H')∨
 (∃ (a:Addr) (ns:List Int) (d:Int),vs=[.ref a,.int d]/\1<=d/\H a=some (.tup (ns.map V.int))/\ns.length<=900/\∀ t H',zC H H'->H t=none->H' t=some (.tup (ns.map V.int))->Q (.ref t) H')
noncomputable def vM:Sp:=λvs H Q E=>jA vs H Q E∨
 (∃ (a:Addr) (rv:List V) (rows:List (List Int)) (d:Int),vs=[.ref a,.int d]/\2<=d/\H a=some (.lst rv)/\zf H rv rows/\rows.length<=900/\(∀ r∈rows,r.length<=900)/\∀ l lv H',zC H H'->H l=none->H' l=some (.lst lv)->zf H' lv rows->Q (.ref l) H')∨
 (∃ (a:Addr) (tv:List V) (tab:List (List Int)) (d:Int),vs=[.ref a,.int d]/\2<=d/\H a=some (.lst tv)/\zU H tv tab/\tab.length<=900/\(∀ r∈tab,r.length<=900)/\∀ l lv H',zC H H'->H l=none->H' l=some (.lst lv)->Paired (xg H H') lv tab->Q (.ref l) H')
inductive jS (vs:List V) (H:Hp) (Q:VK) (E:XK):Prop
 | mk (i:Int) (_:vs=[.int i]) (_:Q (.bl true) H):jS vs H Q E
inductive ki (vs:List V) (H:Hp) (Q:VK) (E:XK):Prop
 | mk (a:Addr) (ns:List Int) (_:vs=[.ref a,.int (ns.length:Int)]) (_:H a=some (.lst (ns.map V.int))) (_:ns.length<=900) (_:∀ H',zC H H'->Q (.bl true) H'):ki vs H Q E
inductive Zn (vs:List V) (H:Hp) (Q:VK) (E:XK):Prop
 | mk (a:Addr) (tv:List V) (tab:List (List Int)) (w:Nat) (_:vs=[.ref a,.int (tab.length:Int),.int (w:Int)]) (_:H a=some (.lst tv)) (_:zU H tv tab) (_:tab.length<=900) (_:(∀ r∈tab,r.length=w)) (_:w<=900) (_:∀ H',zC H H'->Q (.bl true) H'):Zn vs H Q E
inductive Zo (vs:List V) (H:Hp) (Q:VK) (E:XK):Prop
 | mk (a:Addr) (ns:List Int) (n:Nat) (_:vs=[.ref a,.int (n:Int)]) (_:H a=some (.tup (ns.map V.int))) (_:ns.length=n + 1) (_:n<=800) (_:∀ H',zC H H'->Q (.bl true) H'):Zo vs H Q E
inductive Zp (vs:List V) (H:Hp) (Q:VK) (E:XK):Prop
 | mk (a:Addr) (rv:List V) (rows:List (List Int)) (n:Nat) (_:vs=[.ref a,.int (n:Int)]) (_:H a=some (.lst rv)) (_:zf H rv rows) (_:rows.length<=900) (_:(∀ r∈rows,r.length=n + 1)) (_:n<=800) (_:∀ H',zC H H'->Q (.bl true) H'):Zp vs H Q E
inductive Zq (vs:List V) (H:Hp) (Q:VK) (E:XK):Prop
 | mk (a:Addr) (lo hi:Int) (_:vs=[.ref a]) (_:H a=some (.tup [.int lo,.int hi])) (_:lo<=hi) (_:Q (.bl true) H):Zq vs H Q E
structure MD where
 rows:List (List Int)
 nexts:List (List Int)
 steer:List Int
 push:List (List Int)
 add:List Int
 div:Int
structure xH (m:MD) (n p:Nat):Prop where
 rows:∀ r∈m.rows,r.length=n + 1
 few:m.rows.length<=900
 nexts:m.nexts.length=n/\∀ r∈m.nexts,r.length=n
 steer:m.steer.length=n
 push:m.push.length=n/\∀ r∈m.push,r.length=p
 add:m.add.length=n
 div:1<=m.div
 n3:n<=3
 p6:p<=12
noncomputable def XA (r n s p a:V) (d:Int):List (Str × V):=[("rows",r),("nexts",n),("steer",s),("push",p),("add",a),("divisor",.int d)]
structure kj (C:Addr) (H:Hp) (o:Addr) (m:MD) where
 dx:Addr
 r:Addr
 rv:List V
 n:Addr
 nv:List V
 s:Addr
 p:Addr
 pv:List V
 a:Addr
structure kj.Ok {C:Addr} {H:Hp} {o:Addr} {m:MD} (M:kj C H o m):Prop where
 ins:H o=some (.ins C M.dx (XA (.ref M.r) (.ref M.n) (.ref M.s) (.ref M.p) (.ref M.a) m.div))
 hr:H M.r=some (.lst M.rv)
 hrv:zf H M.rv m.rows
 hn:H M.n=some (.lst M.nv)
 hnv:zU H M.nv m.nexts
 hs:H M.s=some (.lst (m.steer.map V.int))
 hp:H M.p=some (.lst M.pv)
 hpv:zU H M.pv m.push
 ha:H M.a=some (.lst (m.add.map V.int))
noncomputable def vA (C:Addr) (H:Hp) (v:V) (m:MD):Prop:=∃ (o:Addr) (M:kj C H o m),v=.ref o/\M.Ok
theorem vA.same {C:Addr} {H H':Hp} {v:V} {m:MD} (s:zC H H') (h:vA C H v m):vA C H' v m:=
 let ⟨o,M,e,k⟩:=h
 ⟨o,⟨M.dx,M.r,M.rv,M.n,M.nv,M.s,M.p,M.pv,M.a⟩,e,⟨s _ _ k.ins,s _ _ k.hr,zf.same s k.hrv,s _ _ k.hn,zU.same s k.hnv,s _ _ k.hs,s _ _ k.hp,zU.same s k.hpv,s _ _ k.ha⟩⟩
inductive kl (C:Addr) (vs:List V) (H:Hp) (Q:VK) (E:XK):Prop
 | mk (o dx ra na sa pa aa:Addr) (rv nv pv:List V) (m:MD) (n p:Nat) (_:vs=[.ref o,.ref ra,.ref na,.ref sa,.ref pa,.ref aa,.int m.div]) (_:H o=some (.ins C dx [])) (_:xH m n p) (_:H ra=some (.lst rv)) (_:zf H rv m.rows) (_:H na=some (.lst nv)) (_:zU H nv m.nexts) (_:H sa=some (.lst (m.steer.map V.int))) (_:H pa=some (.lst pv)) (_:zU H pv m.push) (_:H aa=some (.lst (m.add.map V.int))) (_:∀ (M:kj C H o m) (H':Hp),zr o H H'->(kj.mk (C:=C) (H:=H') (o:=o) (m:=m) M.dx M.r M.rv M.n M.nv M.s M.p M.pv M.a).Ok->H M.r=none->H M.n=none->H M.s=none->H M.p=none->H M.a=none->Paired (xg H H') M.nv m.nexts->Paired (xg H H') M.pv m.push->Q .non H'):kl C vs H Q E
inductive Zr (C:Addr) (vs:List V) (H:Hp) (Q:VK) (E:XK):Prop
 | mk (v:V) (m:MD) (n p:Nat) (_:vs=[v,.int (n:Int),.int (p:Int)]) (_:vA C H v m) (_:xH m n p) (_:∀ H',zC H H'->Q (.bl true) H'):Zr C vs H Q E
noncomputable def vN (H:Hp) (v:V) (b:Int × Int):Prop:=∃ a,v=.ref a/\H a=some (.tup [.int b.1,.int b.2])
theorem vN.same {H H':Hp} {v:V} {b:Int × Int} (s:zC H H') (h:vN H v b):vN H' v b:=let ⟨a,e,q⟩:=h; ⟨a,e,s _ _ q⟩
structure j1 (n:Nat) (bs:List (Int × Int)) (ms:List MD):Prop where
 n1:1<=n
 n3:n<=3
 bok:∀ b∈bs,b.1<=b.2
 b6:bs.length<=6
 m1:1<=ms.length
 m40:ms.length<=40
 mok:∀ m∈ms,xH m n bs.length
inductive Zs (C:Addr) (vs:List V) (H:Hp) (Q:VK) (E:XK):Prop
 | mk (pa ma:Addr) (pv mv:List V) (n:Nat) (bs:List (Int × Int)) (ms:List MD) (_:vs=[.int (n:Int),.ref pa,.ref ma]) (_:H pa=some (.lst pv)) (_:Paired (vN H) pv bs) (_:H ma=some (.lst mv)) (_:Paired (vA C H) mv ms) (_:j1 n bs ms) (_:∀ H',zC H H'->Q (.bl true) H'):Zs C vs H Q E
noncomputable def W3 (n:Int) (p m:V):List (Str × V):=[("many",.int n),("kept_pushes",p),("kept_modes",m)]
structure jT (C CM:Addr) (H:Hp) (o:Addr) (n:Nat) (bs:List (Int × Int)) (ms:List MD) (pv mv:List V) (kp km:Addr):Prop where
 ins:∃ dx,H o=some (.ins C dx (W3 (n:Int) (.ref kp) (.ref km)))
 hp:H kp=some (.lst pv)
 hpv:Paired (vN H) pv bs
 hm:H km=some (.lst mv)
 hmv:Paired (vA CM H) mv ms
theorem jT.same {C CM:Addr} {H H':Hp} {o:Addr} {n:Nat} {bs:List (Int × Int)} {ms:List MD} {pv mv:List V} {kp km:Addr} (s:zC H H') (h:jT C CM H o n bs ms pv mv kp km):jT C CM H' o n bs ms pv mv kp km:=
 ⟨let ⟨dx,e⟩:=h.ins; ⟨dx,s _ _ e⟩,s _ _ h.hp,Paired.mapP h.hpv λ_ _ z=>z.same s,s _ _ h.hm,Paired.mapP h.hmv λ_ _ z=>z.same s⟩
inductive kn (C CM:Addr) (vs:List V) (H:Hp) (Q:VK) (E:XK):Prop
 | mk (o dx pa ma:Addr) (pv mv:List V) (n:Nat) (bs:List (Int × Int)) (ms:List MD) (_:vs=[.ref o,.int (n:Int),.ref pa,.ref ma]) (_:H o=some (.ins C dx [])) (_:H pa=some (.lst pv)) (_:Paired (vN H) pv bs) (_:H ma=some (.lst mv)) (_:Paired (vA CM H) mv ms) (_:j1 n bs ms) (_:∀ (kp km:Addr) (H':Hp),zr o H H'->H kp=none->H km=none->kp≠km->H' o=some (.ins C dx (W3 (n:Int) (.ref kp) (.ref km)))->H' kp=some (.lst pv)->H' km=some (.lst mv)->Q .non H'):kn C CM vs H Q E
inductive ko (C CM:Addr) (vs:List V) (H:Hp) (Q:VK) (E:XK):Prop
 | mk (o kp km:Addr) (n:Nat) (bs:List (Int × Int)) (ms:List MD) (pv mv:List V) (_:vs=[.ref o]) (_:jT C CM H o n bs ms pv mv kp km) (_:∀ l H',zC H H'->H l=none->H' l=some (.lst pv)->Q (.ref l) H'):ko C CM vs H Q E
inductive kq (C CM:Addr) (vs:List V) (H:Hp) (Q:VK) (E:XK):Prop
 | mk (o kp km:Addr) (n:Nat) (bs:List (Int × Int)) (ms:List MD) (pv mv:List V) (_:vs=[.ref o]) (_:jT C CM H o n bs ms pv mv kp km) (_:∀ l H',zC H H'->H l=none->H' l=some (.lst mv)->Q (.ref l) H'):kq C CM vs H Q E
theorem uh {K:PySem.W.Frag} {C:Addr}:PySem.W.kitOne K (.ref C) (.ref C)=some true:=by
 unfold PySem.W.kitOne
 rw [if_pos (by simp)]
theorem j2:∀ n:Nat,(List.replicate n true).all id=true
 | 0=>rfl
 | n + 1=>by rw [List.replicate_succ,List.all_cons,j2 n]; rfl
theorem keepB {o:Addr} {H H':Hp} {C dx:Addr} {fs:List (Str × V)} (ho:H o=some (.ins C dx fs)) (s:zr o H H') {a:Addr} {u:HO} (h:H a=some u) (hu:u≠.ins C dx fs):H' a=some u:=
 s _ _ h λe=>hu (by rw [e,ho] at h; exact (Option.some.inj h).symm)
theorem j3 {o:Addr} {H H':Hp} (s:zr o H H') {x:HO} (ho:H' o=some x) {l:Addr} (h:H' l=none):H l=none:=by
 cases e:H l with
 | none=>rfl
 | some u=>
  have n:l≠o:=λz=>by rw [z,ho] at h; cases h
  rw [s _ _ e n] at h
  cases h
theorem zf.keepB {o:Addr} {H H':Hp} {C dx:Addr} {fs:List (Str × V)} (ho:H o=some (.ins C dx fs)) (s:zr o H H') {vs:List V} {rows:List (List Int)} (h:zf H vs rows):zf H' vs rows:=
 Paired.mapP h λ_ _ ⟨a,e,q⟩=>⟨a,e,Sh.keepB ho s q λz=>by cases z⟩
theorem zU.keepB {o:Addr} {H H':Hp} {C dx:Addr} {fs:List (Str × V)} (ho:H o=some (.ins C dx fs)) (s:zr o H H') {vs:List V} {tab:List (List Int)} (h:zU H vs tab):zU H' vs tab:=
 Paired.mapP h λ_ _ ⟨a,e,q⟩=>⟨a,e,Sh.keepB ho s q λz=>by cases z⟩
theorem xg.tab {H0 H:Hp} {vs:List V} {tab:List (List Int)} (h:Paired (xg H0 H) vs tab):zU H vs tab:=Paired.mapP h λ_ _ ⟨a,e,_,q⟩=>⟨a,e,q⟩
theorem Qm (r n s p a:V) (d:Int):zB "divisor" (.int d) (zB "add" a (zB "push" p (zB "steer" s (zB "nexts" n (zB "rows" r [])))))=XA r n s p a d:=rfl
end Sh
namespace Sh
open PySem L2
noncomputable def xI (B:List Addr) (H H':Hp):Prop:=∀ b o,H b=some o->b∉B->H' b=some o
theorem xI.refl (B:List Addr) (H:Hp):xI B H H:=λ_ _ e _=>e
theorem xI.put {B:List Addr} {H H':Hp} {x:Addr} (o:HO) (h:xI B H H') (hx:x∈B):xI B H (upd H' x o):=λb u e nb=>by
 rw [yD (λe'=>by rw [e'] at nb; exact nb hx)]
 exact h b u e nb
theorem xI.new {B:List Addr} {H H':Hp} {x:Addr} (o:HO) (h:xI B H H') (hx:H' x=none):xI B H (upd H' x o):=λb u e nb=>by
 have z:=h b u e nb
 rw [yD (λe'=>by rw [e',hx] at z; cases z)]
 exact z
theorem xI.trans {B:List Addr} {H H1 H2:Hp} (a:xI B H H1) (b:xI B H1 H2):xI B H H2:=λc o e n=>b c o (a c o e n) n
theorem xI.same {B:List Addr} {H H1 H2:Hp} (a:xI B H H1) (b:zC H1 H2):xI B H H2:=λc o e n=>b c o (a c o e n)
theorem xI.of {B:List Addr} {H H1:Hp} (s:zC H H1):xI B H H1:=λc o e _=>s c o e
theorem xI.cut {A B:List Addr} {H H1:Hp} (h1:xI A H H1) (h:∀ x∈A,x∉B->H x=none):xI B H H1:=λb o e n=>h1 _ _ e λz=>by
 rw [h b z n] at e
 cases e
theorem xI.free {B:List Addr} {H H':Hp} (s:xI B H H') {l:Addr} (h:H' l=none) (n:l∉B):H l=none:=by
 cases e:H l with
 | none=>rfl
 | some u=>rw [s _ _ e n] at h; cases h
noncomputable def zz (B:List Addr) (H:Hp):Hp:=λb=>if b∈B then none else H b
theorem uG {B:List Addr} {H:Hp}:zC (zz B H) H:=λb o h=>by
 unfold zz at h
 by_cases e:b∈B
 ·rw [if_pos e] at h; cases h
 ·rw [if_neg e] at h; exact h
theorem j4 {B:List Addr} {H:Hp} {b:Addr} (e:b∉B):zz B H b=H b:=by unfold zz; rw [if_neg e]
theorem W4 {B:List Addr} {H:Hp} {b:Addr} (e:b∈B):zz B H b=none:=by unfold zz; rw [if_pos e]
theorem W5 {B:List Addr} {H:Hp} {b:Addr} {o:HO} (h:zz B H b=some o):b∉B:=λe=>by rw [W4 e] at h; cases h
theorem XB {B:List Addr} {H H':Hp} (s:xI B H H'):zC (zz B H) (zz B H'):=λb o h=>by
 have e:=W5 h
 rw [j4 e] at h |-
 exact s _ _ h e
theorem W6 {B:List Addr} {H H':Hp} (s:zC H H'):zC (zz B H) (zz B H'):=XB λb o h _=>s _ _ h
theorem j5 {B:List Addr} {H H':Hp} (f:∀ x∈B,H x=none) (s:zC H H'):zC H (zz B H'):=λb o h=>by
 rw [j4 (λe=>by rw [f b e] at h; cases h)]
 exact s _ _ h
theorem vW {H H1 H2:Hp} {x:Addr} (s:zC H H1) (b:zr x H1 H2) (n:H x=none):zC H H2:=λc o e=>b _ _ (s _ _ e) (vR e n)
theorem vX {H:Hp} {x dx:Addr} (hx:H x=none) (hdx:H dx=none) (ne:dx≠x) (u o:HO):zC H (upd (upd H dx u) x o):=
 (zK hdx _).trans (zK ((yD (Ne.symm ne)).trans hx) _)
end Sh
namespace L2
open PySem PySem.Spec PyProof.Rows
section
variable {X:Cx} {e:Expr}
end
theorem zJ.no {P:Program} {w:World} {K:PySem.W.Frag} {mg:Str->Option Value} {base:Heap} {CX:vG} {k:Nat} {f:Addr} {fd:FuncData} {ps:List Str} {sp:Sp} (hn:∀ vs H Q E,¬ sp vs H Q E):zJ P w K mg base CX k f fd ps sp:=
 ⟨λ_ _ _ _ h=>(hn _ _ _ _ h).elim,λ_ _ _ _ _ _ _ _ _ _ _ _ _ h=>(hn _ _ _ _ h).elim⟩
end L2
namespace Sh
inductive RT where
 | str (ns:List Int) (a d:Int)
 | stp (t:RT) (lo hi:Int)
 | prt (row:List Int) (x y:RT)
noncomputable def RT.dep:RT->Nat
 | .str _ _ _=>1
 | .stp t _ _=>t.dep + 1
 | .prt _ x y=>max x.dep y.dep + 1
theorem RT.dep_pos (t:RT):1<=t.dep:=by cases t <;> simp [RT.dep]
noncomputable def RT.rows:RT->List (List Int)
 | .str _ _ _=>[]
 | .stp t _ _=>t.rows
 | .prt r x y=>[r]++x.rows++y.rows
end Sh
namespace Sh
open PySem L2
noncomputable def wG (n:Nat):RT->Prop
 | .str ns a d=>ns.length=n/\(∀ x∈ns,Bd 300 x)/\Bd 300 a/\0 < d/\Bd 300 d
 | .stp t lo hi=>wG n t/\Bd 300 lo/\Bd 300 hi
 | .prt r x y=>(r.length=n + 1/\∀ z∈r,Bd 300 z)/\wG n x/\wG n y
noncomputable def j6 (l:V) (a d:Int):List (Str × V):=[("numbers",l),("add",.int a),("divisor",.int d)]
noncomputable def j7 (u:V) (lo hi:Int):List (Str × V):=[("rule",u),("low",.int lo),("high",.int hi)]
noncomputable def j8 (r u w:V):List (Str × V):=[("row",r),("rule",u),("other",w)]
noncomputable def yx (C1 C2 C3:Addr) (H:Hp):V->RT->Prop
 | v,.str ns a d=>∃ o dx la,v=.ref o/\H o=some (.ins C1 dx (j6 (.ref la) a d))/\H la=some (.lst (ns.map V.int))
 | v,.stp t lo hi=>∃ o dx u,v=.ref o/\H o=some (.ins C2 dx (j7 u lo hi))/\yx C1 C2 C3 H u t
 | v,.prt r x y=>∃ o dx ra u w,v=.ref o/\H o=some (.ins C3 dx (j8 (.ref ra) u w))/\H ra=some (.tup (r.map V.int))/\yx C1 C2 C3 H u x/\yx C1 C2 C3 H w y
theorem yx.same {C1 C2 C3:Addr} {H H':Hp} (s:zC H H'):∀ {t:RT} {v:V},yx C1 C2 C3 H v t->yx C1 C2 C3 H' v t
 | .str ..,_,⟨o,dx,la,e,h1,h2⟩=>⟨o,dx,la,e,s _ _ h1,s _ _ h2⟩
 | .stp ..,_,⟨o,dx,u,e,h1,h2⟩=>⟨o,dx,u,e,s _ _ h1,yx.same s h2⟩
 | .prt ..,_,⟨o,dx,ra,u,w,e,h1,h2,h3,h4⟩=>⟨o,dx,ra,u,w,e,s _ _ h1,s _ _ h2,yx.same s h3,yx.same s h4⟩
noncomputable def vO (H:Hp):V->RT->Prop
 | v,.str ns a d=>∃ o la,v=.ref o/\H o=some (.tup [.str "straight",.ref la,.int a,.int d])/\H la=some (.lst (ns.map V.int))
 | v,.stp t lo hi=>∃ o u,v=.ref o/\H o=some (.tup [.str "stopped",u,.int lo,.int hi])/\vO H u t
 | v,.prt r x y=>∃ o ra u w,v=.ref o/\H o=some (.tup [.str "parted",.ref ra,u,w])/\H ra=some (.tup (r.map V.int))/\vO H u x/\vO H w y
theorem vO.same {H H':Hp} (s:zC H H'):∀ {t:RT} {v:V},vO H v t->vO H' v t
 | .str ..,_,⟨o,la,e,h1,h2⟩=>⟨o,la,e,s _ _ h1,s _ _ h2⟩
 | .stp ..,_,⟨o,u,e,h1,h2⟩=>⟨o,u,e,s _ _ h1,vO.same s h2⟩
 | .prt ..,_,⟨o,ra,u,w,e,h1,h2,h3,h4⟩=>⟨o,ra,u,w,e,s _ _ h1,s _ _ h2,vO.same s h3,vO.same s h4⟩
noncomputable def XC:RT->Bool | .str ..=>true | _=>false
theorem wG.row {n:Nat} {r:List Int} (h:r.length=n + 1/\∀ z∈r,Bd 300 z):kc r n:=⟨h.1,λx hx=>(h.2 x hx).mono⟩
theorem wG.rows {n:Nat}:∀ {t:RT},wG n t->∀ r∈t.rows,r.length=n + 1/\∀ z∈r,Bd 300 z
 | .str ..,_=>λr hr=>by cases hr
 | .stp ..,h=>λr hr=>wG.rows h.1 r hr
 | .prt q x y,h=>λr hr=>by
  rcases List.mem_append.mp hr with hr | hr
  ·rcases List.mem_append.mp hr with hr | hr
   ·rw [List.mem_singleton.mp hr]; exact h.1
   ·exact wG.rows h.2.1 r hr
  ·exact wG.rows h.2.2 r hr
inductive kr (C:Addr) (vs:List V) (H:Hp) (Q:VK) (E:XK):Prop
 | mk (o dx la:Addr) (ns:List Int) (a d:Int) (_:vs=[.ref o,.ref la,.int a,.int d]) (_:H o=some (.ins C dx [])) (_:H la=some (.lst (ns.map V.int))) (_:ns.length<=900) (_:∀ l H',zr o H H'->H l=none->H' o=some (.ins C dx (j6 (.ref l) a d))->H' l=some (.lst (ns.map V.int))->Q .non H'):kr C vs H Q E
inductive kt (C:Addr) (vs:List V) (H:Hp) (Q:VK) (E:XK):Prop
 | mk (o dx:Addr) (u:V) (lo hi:Int) (_:vs=[.ref o,u,.int lo,.int hi]) (_:H o=some (.ins C dx [])) (_:∀ H',zr o H H'->H' o=some (.ins C dx (j7 u lo hi))->Q .non H'):kt C vs H Q E
inductive ku (C:Addr) (vs:List V) (H:Hp) (Q:VK) (E:XK):Prop
 | mk (o dx ra:Addr) (r:List Int) (u w:V) (_:vs=[.ref o,.ref ra,u,w]) (_:H o=some (.ins C dx [])) (_:H ra=some (.tup (r.map V.int))) (_:r.length<=900) (_:∀ rb H',zr o H H'->H rb=none->H' o=some (.ins C dx (j8 (.ref rb) u w))->H' rb=some (.tup (r.map V.int))->Q .non H'):ku C vs H Q E
noncomputable def XD (H:Hp) (a:Addr):Prop:=∃ ns:List Int,H a=some (.lst (ns.map V.int))/\1<=ns.length
end Sh
namespace Sh
open PySem L2
theorem Qn:∀ {t:RT},XC t=true->∃ ns a d,t=.str ns a d
 | .str ns a d,_=>⟨ns,a,d,rfl⟩
 | .stp ..,h=>by cases h
 | .prt ..,h=>by cases h
theorem Qo (l:V) (a d:Int):zB "divisor" (.int d) (zB "add" (.int a) (zB "numbers" l []))=j6 l a d:=rfl
theorem Qp (u:V) (lo hi:Int):zB "high" (.int hi) (zB "low" (.int lo) (zB "rule" u []))=j7 u lo hi:=rfl
theorem Qq (r u w:V):zB "other" w (zB "rule" u (zB "row" r []))=j8 r u w:=rfl
theorem Zt (xs:List Int) {b:Nat} (hb:b<=xs.length):zk (xs.map V.int) none (some (b:Int))=(xs.take b).map V.int:=by
 have e2:HT.sIx (xs.map V.int).length (xs.map V.int).length (some (b:Int))=min b (xs.map V.int).length:=HT.sIx_nat _ _ b
 unfold zk
 rw [e2,HT.sIx_none,List.length_map,Nat.min_eq_left hb,<- List.map_drop,<- List.map_take]
 rfl
theorem W7 (xs:List Int) (a b:Nat):∃ zs:List Int,zk (xs.map V.int) (some (a:Int)) (some (b:Int))=zs.map V.int/\zs.length<=b - a:=by
 have e1:HT.sIx (xs.map V.int).length 0 (some (a:Int))=min a (xs.map V.int).length:=HT.sIx_nat _ 0 a
 have e2:HT.sIx (xs.map V.int).length (xs.map V.int).length (some (b:Int))=min b (xs.map V.int).length:=HT.sIx_nat _ _ b
 unfold zk
 rw [e1,e2,<- List.map_drop,<- List.map_take]
 refine ⟨_,rfl,?_⟩
 rw [List.length_take,List.length_drop,List.length_map]
 omega
theorem jB:decide (V.str "stopped" = V.str "straight")=false:=by decide +kernel
theorem jC:decide (V.str "parted" = V.str "straight")=false:=by decide +kernel
theorem jD:decide (V.str "parted" = V.str "stopped")=false:=by decide +kernel
theorem Qr {v u:V} {g:Int} (g0:0<=g) (g1:g < 2):∃ x y,xC [v,u] g=some x/\xC [u,v] g=some y/\((x=v/\y=u)\/(x=u/\y=v)):=by
 rcases (show g=0\/g=1 by omega) with e | e
 ·rw [e]; exact ⟨v,u,rfl,rfl,.inl ⟨rfl,rfl⟩⟩
 ·rw [e]; exact ⟨u,v,rfl,rfl,.inr ⟨rfl,rfl⟩⟩
noncomputable def jU (b:Int × Int):PyData:=.tuple [.int b.1,.int b.2]
theorem W8:∀ bs:List (Int × Int),PyData.canLayAll0 (bs.map jU)=true
 | []=>rfl
 | p :: t=>by
  show (true && PyData.canLayAll0 (t.map jU))=true
  rw [W8 t]
  rfl
theorem W9:∀ bs:List (Int × Int),PyData.depthAll (bs.map jU)<=1
 | []=>Nat.zero_le _
 | p :: t=>by
  show max (max 0 (max 0 0) + 1) (PyData.depthAll (t.map jU))<=1
  have:=W9 t
  omega
theorem Qs (bs:List (Int × Int)):PyData.depth (.list (bs.map jU))<=60:=by
 show PyData.depthAll (bs.map jU) + 1<=60
 have:=W9 bs
 omega
theorem XD.put {H:Hp} {b:Addr} {ns:List Int} (hn:1<=ns.length) {a:Addr} (h:XD H a):XD (upd H b (.lst (ns.map V.int))) a:=by
 by_cases e:a=b
 ·rw [e]; exact ⟨ns,zG,hn⟩
 ·obtain ⟨ms,h1,h2⟩:=h
  exact ⟨ms,(yD e).trans h1,h2⟩
end Sh
namespace L2
open PySem PySem.Spec PyProof.Rows Sh
section
variable {X:Cx}
end
end L2
set_option maxRecDepth 100000
namespace Sx
open PySem PySem.Builtin PySem.Builtin.Str
noncomputable def dN (m:Nat):List Nat:=(Nat.toDigits 10 m).map Char.toNat
theorem UA:∀ k,k < 10->(Nat.digitChar k).toNat=48 + k:=by decide
theorem XE {m:Nat} (h:m < 10):dN m=[48 + m]:=by
 unfold dN
 rw [Nat.toDigits_of_lt_base h]
 exact congrArg (λx=>[x]) (UA m h)
theorem XF {m:Nat} (h:10<=m):dN m=dN (m / 10)++[48 + m % 10]:=by
 unfold dN
 rw [Nat.toDigits_of_base_le (by decide) h,List.map_append]
 exact congrArg (λx=>_++[x]) (UA _ (Nat.mod_lt _ (by decide)))
theorem qh (m:Nat):∀ c∈dN m,48<=c/\c<=57:=by
 induction m using Nat.strongRecOn with
 | _ m ih=>
  intro c hc
  by_cases h:m < 10
  ·rw [XE h] at hc
   have:=List.mem_singleton.mp hc
   omega
  ·rw [XF (by omega)] at hc
   rcases List.mem_append.mp hc with z | z
   ·exact ih (m / 10) (by omega) c z
   ·have:=List.mem_singleton.mp z
    omega
theorem Zu {m:Nat} (h:m < 10 ^ 60):(dN m).length<=60:=by
 unfold dN
 rw [List.length_map]
 exact (Nat.length_toDigits_le_iff (by decide) (by decide)).mpr h
theorem XG (m:Nat):0 < (dN m).length:=by
 unfold dN
 rw [List.length_map]
 exact Nat.length_toDigits_pos
theorem kx {m:Nat} (h:m≠0):∃ c l,dN m=c :: l/\49<=c/\c<=57:=by
 induction m using Nat.strongRecOn with
 | _ m ih=>
  by_cases h1:m < 10
  ·exact ⟨48 + m,[],XE h1,by omega,by omega⟩
  ·obtain ⟨c,l,e,a,b⟩:=ih (m / 10) (by omega) (by omega)
   exact ⟨c,l++[48 + m % 10],by rw [XF (by omega),e]; rfl,a,b⟩
theorem Qt (m:Nat):(dN m).foldl (λa c=>a * 10 + (c - 48)) 0=m:=by
 induction m using Nat.strongRecOn with
 | _ m ih=>
  by_cases h1:m < 10
  ·rw [XE h1]
   show 0 * 10 + (48 + m - 48)=m
   omega
  ·rw [XF (by omega),List.foldl_append,ih (m / 10) (by omega)]
   show m / 10 * 10 + (48 + m % 10 - 48)=m
   omega
noncomputable def sN (i:Int):Str:=Str.ofString (toString i)
theorem uH {i:Int} (h:0<=i):(sN i).cps.toList=dN i.natAbs:=by
 obtain ⟨m,rfl⟩:=Int.eq_ofNat_of_zero_le h
 unfold sN
 rw [show toString ((m:Nat):Int)=toString (Int.ofNat m) from rfl,PyProof.Rows.text_ofNat]
 rfl
theorem j9 {i:Int} (h:i < 0):(sN i).cps.toList=45 :: dN i.natAbs:=by
 have e:=uH (show 0<=0 - i by omega)
 unfold sN at e |-
 rw [PyProof.Rows.toString_neg h,Str.ofString_eq_toList,String.toList_append,List.map_append]
 rw [Str.ofString_eq_toList] at e
 show [45]++List.map Char.toNat (toString (0 - i)).toList=_
 have e':List.map Char.toNat (toString (0 - i)).toList=dN (0 - i).natAbs:=e
 rw [e',show (0 - i).natAbs=i.natAbs by omega]
 rfl
theorem ui (i:Int):∀ c∈(sN i).cps.toList,c=45\/(48<=c/\c<=57):=by
 intro c hc
 by_cases h:0<=i
 ·rw [uH h] at hc
  exact .inr (qh _ c hc)
 ·rw [j9 (by omega)] at hc
  rcases List.mem_cons.mp hc with z | z
  ·exact .inl z
  ·exact .inr (qh _ c z)
theorem y8 (x:Str):x.cps.toList.length=x.length:=by simp [Str.length]
theorem jV {i:Int} (h:i.natAbs < 10 ^ 60):1<=(sN i).length/\(sN i).length<=61:=by
 have a:=XG i.natAbs
 have b:=Zu h
 rw [<- y8]
 by_cases h:0<=i
 ·rw [uH h]; omega
 ·rw [j9 (by omega),List.length_cons]; omega
theorem ky {x y:Str} (h:x.cps.toList=y.cps.toList):x=y:=by
 apply Str.ext'
 exact Array.toList_inj.mp h
theorem Zv (x y:Str):(x++y).cps.toList=x.cps.toList++y.cps.toList:=by rw [Str.cps_append,Array.toList_append]
theorem Zw (y a b:Str) (l:List Str):(Str.join y (a :: b :: l)).cps.toList=a.cps.toList++(y.cps.toList++(Str.join y (b :: l)).cps.toList):=by
 show (a++y++Str.join y (b :: l)).cps.toList=_
 rw [Zv,Zv,List.append_assoc]
open StrLaws in
theorem UB {x y:Str} {k c:Nat} {b r:List Nat} (hy:y.cps.toList=b++c :: r) (h:At x y x.length k):x.cps.toList[k + b.length]? = some c:=by
 have e:=h.2
 rw [subAt_eq] at e
 have e':=eq_of_beq e
 rw [hy] at e'
 have:((x.cps.toList.drop k).take y.length)[b.length]? = some c:=by rw [e',List.getElem?_append_right (Nat.le_refl _),Nat.sub_self]; rfl
 have hl:b.length < y.length:=by rw [<- y8,hy,List.length_append,List.length_cons]; omega
 rw [List.getElem?_take_of_lt hl,List.getElem?_drop] at this
 exact this
open StrLaws in
theorem UC {x y:Str} {k:Nat} {r:List Nat} (hk:k<=x.length) (h:x.cps.toList.drop k=y.cps.toList++r):At x y x.length k:=by
 have hl:(x.cps.toList.drop k).length=(y.cps.toList++r).length:=by rw [h]
 rw [List.length_drop,List.length_append,y8,y8] at hl
 refine ⟨by omega,?_⟩
 rw [subAt_eq,h,List.take_left' (y8 y)]
 exact beq_self_eq_true _
theorem UD (x:Str) (a b:Nat):(strSub x a b).cps.toList=(x.cps.toList.drop a).take (b - a):=StrLaws.strSub_toList ..
open StrLaws in
theorem UE {x y:Str} {c:Nat} {b r:List Nat} (hy:y.cps.toList=b++c :: r) (hb:c∉b):∀ (ps:List Str) (p:Str) (cuts:List Nat) (a f:Nat),a<=x.length->x.cps.toList.drop a=(Str.join y (p :: ps)).cps.toList->(∀ q∈p :: ps,c∉q.cps.toList)->
  ChainG x y x.length a cuts f->(∀ k,f<=k->¬ At x y x.length k)->partsFrom x y.length a cuts=p :: ps
 | [],p,[],a,f,_,hd,hf,hG,hn=>by
  have e:x.cps.toList.drop a=p.cps.toList:=hd
  refine congrArg (λz=>[z]) (ky ?_)
  rw [UD,<- e]
  exact List.take_of_length_le (by rw [List.length_drop,y8]; exact Nat.le_refl _)
 | [],p,d :: cs,a,f,_,hd,hf,hG,hn=>by
  have e:x.cps.toList.drop a=p.cps.toList:=hd
  have hA:=UB hy hG.2.1
  have:c∈p.cps.toList:=by
   rw [<- e]
   refine List.mem_of_getElem? (i:=d + b.length - a) ?_
   rw [List.getElem?_drop,show a + (d + b.length - a)=d + b.length by have:=hG.1; omega]
   exact hA
  exact absurd this (hf p List.mem_cons_self)
 | q :: qs,p,[],a,f,ha,hd,hf,hG,hn=>by
  rw [Zw] at hd
  have hl:=congrArg List.length hd
  rw [List.length_drop,y8,List.length_append,List.length_append,y8,y8] at hl
  have e:f=a:=hG
  exact absurd (UC (x:=x) (y:=y) (k:=a + p.length) (by omega) (by rw [<- List.drop_drop,hd,List.drop_left' (y8 p)])) (hn _ (by omega))
 | q :: qs,p,d :: cs,a,f,ha,hd,hf,hG,hn=>by
  rw [Zw] at hd
  have hl:=congrArg List.length hd
  rw [List.length_drop,y8,List.length_append,List.length_append,y8,y8] at hl
  have hat:At x y x.length (a + p.length):=UC (by omega) (by rw [<- List.drop_drop,hd,List.drop_left' (y8 p)])
  have hda:=hG.1
  have h1:d<=a + p.length:=by
   apply Classical.byContradiction
   intro z
   exact hG.2.2.1 (a + p.length) (by omega) (by omega) hat
  have h2:a + p.length<=d:=by
   apply Classical.byContradiction
   intro z
   have hA:=UB hy hG.2.1
   have e2:(x.cps.toList.drop a)[d + b.length - a]? = some c:=by
    rw [List.getElem?_drop,show a + (d + b.length - a)=d + b.length by omega]
    exact hA
   rw [hd,hy] at e2
   have:c∈p.cps.toList:=by
    by_cases hi:d + b.length - a < p.length
    ·rw [List.getElem?_append_left (by rw [y8]; exact hi)] at e2
     exact List.mem_of_getElem? e2
    ·rw [List.getElem?_append_right (by rw [y8]; omega),List.append_assoc,List.getElem?_append_left (by rw [y8]; omega)] at e2
     exact absurd (List.mem_of_getElem? e2) hb
   exact hf p List.mem_cons_self this
  have e:d=a + p.length:=by omega
  subst e
  show strSub x a (a + p.length) :: partsFrom x y.length (a + p.length + y.length) cs=_
  have hb2:=hG.2.1.1
  rw [UE hy hb qs q cs (a + p.length + y.length) f (by omega) (by rw [<- List.drop_drop,<- List.drop_drop,hd,List.drop_left' (y8 p),List.drop_left' (y8 y)]) (λz hz=>hf z (List.mem_cons_of_mem _ hz)) hG.2.2.2 hn]
  refine congrArg (λz=>z :: q :: qs) (ky ?_)
  rw [UD,hd,show a + p.length - a=p.length by omega,List.take_left' (y8 p)]
theorem Qu (y:Str) (h:y.cps.all (· < 256)=true):Str.strKind y=1:=by unfold Str.strKind; rw [if_pos h]
theorem Qv (x:Str):1<=Str.strKind x:=by
 unfold Str.strKind
 split
 ·omega
 ·split <;> omega
theorem UF {y:Str} {c:Nat} {b r:List Nat} (hy:y.cps.toList=b++c :: r) (hb:c∉b) (hk:y.cps.all (· < 256)=true) {ps:List Str} (h0:ps≠[]) (hf:∀ q∈ps,c∉q.cps.toList):Txt.split (Txt.join y ps) y=ps:=by
 obtain ⟨p,ps,rfl⟩:=List.exists_cons_of_ne_nil h0
 have hj:Txt.join y (p :: ps)=Str.join y (p :: ps):=StrLaws.glued_eq_join ..
 rw [hj]
 generalize hx:Str.join y (p :: ps)=x
 have hl1:1<=y.length:=by rw [<- y8,hy,List.length_append,List.length_cons]; omega
 obtain ⟨f,hG,hn⟩:=StrLaws.occ_tight x y hl1
 have key:=UE hy hb ps p _ 0 f (Nat.zero_le _) (by rw [List.drop_zero,<- hx]) hf hG hn
 unfold Txt.split
 have k1:=Qu y hk
 have k2:=Qv x
 by_cases hs:x.length < y.length
 ·rw [if_pos (by rw [decide_eq_true hs]; rfl)]
  cases ps with
  | nil=>exact congrArg (λz=>[z]) hx.symm
  | cons q qs=>
   have:=congrArg List.length (Zw y p q qs)
   rw [hx,List.length_append,List.length_append,y8,y8,y8] at this
   omega
 ·rw [if_neg (by rw [decide_eq_false hs,decide_eq_false (by omega)]; decide)]
  split
  ·rename_i he
   rw [List.isEmpty_iff.mp he] at key
   rw [<- key]
   exact congrArg (λz=>[z]) (StrLaws.sub_whole x).symm
  ·rw [StrLaws.partsBetween_eq]
   exact key
theorem Qw {y:Str} {c:Nat} {r:List Nat} (hy:y.cps.toList=c :: r) (hk:y.cps.all (· < 256)=true) {ps:List Str} (h0:ps≠[]) (hf:∀ q∈ps,c∉q.cps.toList):Txt.split (Txt.join y ps) y=ps:=UF (b:=[]) hy (by nofun) hk h0 hf
theorem jW {y:Str} {ps:List Str} {B:Nat} (hB:∀ q∈ps,q.length<=B) (h:ps.length * (B + y.length)<=16000000):JoinOk y ps=true:=by
 unfold JoinOk
 rw [StrLaws.joinFits hB (by rw [<- Nat.mul_add]; omega)]
 rfl
theorem qi {y:Str} {c:Nat}:∀ {ps:List Str},c∈(Str.join y ps).cps.toList->c∈y.cps.toList\/∃ p∈ps,c∈p.cps.toList
 | [],h=>by cases h
 | [p],h=>.inr ⟨p,List.mem_cons_self,h⟩
 | p :: q :: ps,h=>by
  rw [Zw] at h
  rcases List.mem_append.mp h with z | z
  ·exact .inr ⟨p,List.mem_cons_self,z⟩
  ·rcases List.mem_append.mp z with z | z
   ·exact .inl z
   ·rcases qi z with z | ⟨p',a,b⟩
    ·exact .inl z
    ·exact .inr ⟨p',List.mem_cons_of_mem _ a,b⟩
end Sx
set_option maxRecDepth 100000
namespace Sx
open PySem PySem.Builtin PySem.Builtin.Str
theorem Qx:typeLookup (.type "str") "__int__" = pure none:=by rw [typeLookup_type,builtinLookup_eq_fast]; kernel_rfl
theorem Qy:typeLookup (.type "str") "__index__" = pure none:=by rw [typeLookup_type,builtinLookup_eq_fast]; kernel_rfl
theorem Qz:typeLookup (.type "str") "__trunc__" = pure none:=by rw [typeLookup_type,builtinLookup_eq_fast]; kernel_rfl
theorem XH {c:Nat} (h:48<=c/\c<=57):c=48\/c=49\/c=50\/c=51\/c=52\/c=53\/c=54\/c=55\/c=56\/c=57:=by omega
theorem UG {f:Array Nat × Bool->Nat->Option (Array Nat × Bool)} (hf:∀ a b c,48<=c->c<=57->f (a,b) c=some (a.push (c - 48),true)):∀ (L:List Nat) (a:Array Nat) (b:Bool),(∀ c∈L,48<=c/\c<=57)->List.foldlM f (a,b) L=some ((a++(L.map (· - 48)).toArray),(b || !L.isEmpty))
 | [],a,b,_=>by
  cases b <;> simp
 | c :: L,a,b,h=>by
  have z:=h c List.mem_cons_self
  rw [List.foldlM_cons,hf a b c z.1 z.2]
  show List.foldlM f (a.push (c - 48),true) L=_
  rw [UG hf L _ _ λd hd=>h d (List.mem_cons_of_mem _ hd)]
  cases b <;> simp
theorem UH {f:Array Nat × Bool->Nat->Option (Array Nat × Bool)} {g:Array Nat × Bool->Option (Array Nat)} (hf:∀ a b,f (a,b) 48=some (a.push 0,true)/\f (a,b) 49=some (a.push 1,true)/\f (a,b) 50=some (a.push 2,true)/\f (a,b) 51=some (a.push 3,true)/\f (a,b) 52=some (a.push 4,true)/\f (a,b) 53=some (a.push 5,true)/\f (a,b) 54=some (a.push 6,true)/\f (a,b) 55=some (a.push 7,true)/\f (a,b) 56=some (a.push 8,true)/\f (a,b) 57=some (a.push 9,true)) (hg:∀ a,g (a,true)=some a) {L:List Nat} (h:∀ c∈L,48<=c/\c<=57) (h0:L≠[]):Option.bind (List.foldlM f (#[],false) L) g=some (L.map (· - 48)).toArray:=by
 rw [UG (f:=f) (λa b c h1 h2=>by
  obtain ⟨a0,a1,a2,a3,a4,a5,a6,a7,a8,a9⟩:=hf a b
  rcases XH ⟨h1,h2⟩ with e | e | e | e | e | e | e | e | e | e <;> rw [e] <;> assumption) L _ _ h]
 cases L with
 | nil=>exact absurd rfl h0
 | cons c L=>
  show g (#[]++_,true)=_
  rw [hg]
  simp
theorem UI {p:Nat->Bool} {L:List Nat} (h:∀ c∈L,p c=false):(List.dropWhile p L.reverse).reverse=L:=by
 have e:List.dropWhile p L.reverse=L.reverse:=by
  cases hL:L.reverse with
  | nil=>rfl
  | cons c l=>exact List.dropWhile_cons_of_neg (by rw [h c (List.mem_reverse.mp (by rw [hL]; exact List.mem_cons_self))]; exact Bool.false_ne_true)
 rw [e,List.reverse_reverse]
theorem UJ (i:Int):(sN i).cps.all (· < 128)=true:=by
 rw [<- Array.all_toList]
 exact List.all_eq_true.mpr λc hc=>decide_eq_true (by rcases ui i c hc with z | z <;> omega)
theorem UK (i:Int):(sN i).cps.toList.takeWhile (· != 0)=(sN i).cps.toList:=by
 have key:∀ l:List Nat,(∀ c∈l,c≠0)->l.takeWhile (· != 0)=l:=by
  intro l
  induction l with
  | nil=>intro _; rfl
  | cons c l ih=>
   intro h
   rw [List.takeWhile_cons_of_pos (by simpa using h c List.mem_cons_self),ih λd hd=>h d (List.mem_cons_of_mem _ hd)]
 exact key _ λc hc=>by rcases ui i c hc with z | z <;> omega
theorem UL (m:Nat):((dN m).map (· - 48)).toArray.foldl (λa d=>a * 10 + d) 0=m:=by
 rw [List.foldl_toArray,List.foldl_map]
 exact Qt m
theorem kz {α:Type} {a b c:Bool} {x y z v w:α} (ha:a=false) (hb:b=false) (hc:c=false) (h:(if a=true then x else if b=true then y else if c=true then z else v)=w):v=w:=by
 subst ha hb hc
 exact h
theorem Q0 {p:Nat->Bool} {c:Nat} {l:List Nat} (h:p c=false):List.dropWhile p (c :: l)=c :: l:=List.dropWhile_cons_of_neg (by rw [h]; exact Bool.false_ne_true)
theorem UM {p:Nat->Bool} (h:p 48=false/\p 49=false/\p 50=false/\p 51=false/\p 52=false/\p 53=false/\p 54=false/\p 55=false/\p 56=false/\p 57=false) {L:List Nat} (hL:∀ c∈L,48<=c/\c<=57):∀ c∈L,p c=false:=by
 intro c hc
 obtain ⟨a0,a1,a2,a3,a4,a5,a6,a7,a8,a9⟩:=h
 rcases XH (hL c hc) with e | e | e | e | e | e | e | e | e | e <;> rw [e] <;> assumption
theorem meets_int_text (i:Int) (t:Tok) (hi:i.natAbs < 10 ^ 60):Meets («int.__new__» ⟨[.type "int",.str (sN i) t],[]⟩) (λ_ R s=>R (.ok (.ret (.int i s.toks))) { s with toks:=s.toks + 1 }):=by
 refine Meets.of_wp λprog w A R s h=>?_
 unfold «int.__new__»
 refine wpAny_bind (wpAny_pure ?_)
 refine wpAny_bind (wpAny_of_eq PySem.F.conv_sub_int ?_)
 refine wpAny_bind (wpAny_of_eq PySem.F.madeHere_int ?_)
 refine wpAny_bind (m:=pure PUnit.unit) (wpAny_pure ?_)
 refine wpAny_bind ?_
 refine wpAny_bind (m:=callSpecial? (.str (sN i) t) (Str.ofString "__int__")) (wpAny_callSpecial?_none (typeIs_str _ _ _) Qx ?_)
 refine wpAny_bind (m:=specialOf (.str (sN i) t) (Str.ofString "__index__")) (wpAny_specialOf (typeIs_str _ _ _) Qy ?_)
 refine wpAny_bind (m:=specialOf (.str (sN i) t) (Str.ofString "__trunc__")) (wpAny_specialOf (typeIs_str _ _ _) Qz ?_)
 refine wpAny_bind (m:=pure (some _)) (wpAny_pure ?_)
 rw [if_pos (UJ i)]
 dsimp only
 show wpAny _ _ (if ((sN i).cps.toList.takeWhile (· != 0)).length<=640 then _ else _) _ _ _
 rw [if_pos (by rw [UK,y8]; have:=(jV hi).2; omega)]
 refine wpAny_bind (wpAny_pure ?_)
 rw [UK]
 dsimp only
 by_cases h0:0<=i
 ·rw [uH h0]
  by_cases hz:i=0
  ·subst hz
   exact wpAny_mkInt (wpAny_pure ⟨_,rfl,h⟩)
  ·obtain ⟨c,l,e,c1,c2⟩:=kx (m:=i.natAbs) (by omega)
   have al:=qh i.natAbs
   have va:=UL i.natAbs
   have le:=Zu hi
   rw [e] at al va le |-
   have hsz:¬ ((c :: l).map (· - 48)).toArray.size > 6000:=by rw [List.size_toArray,List.length_map]; omega
   have fin:(((((c :: l).map (· - 48)).toArray.foldl (λa d=>a * 10 + d) 0:Nat)):Int)=i:=by rw [va]; omega
   rcases (by omega:c=49\/c=50\/c=51\/c=52\/c=53\/c=54\/c=55\/c=56\/c=57) with rfl | rfl | rfl | rfl | rfl | rfl | rfl | rfl | rfl
   all_goals
    split
    all_goals rename_i heq
    all_goals (conv at heq=>lhs; whnf)
    all_goals split at heq
    all_goals rename_i h1
    all_goals rw [Q0 rfl,UI (UM ⟨rfl,rfl,rfl,rfl,rfl,rfl,rfl,rfl,rfl,rfl⟩ al)] at h1
    all_goals cases h1.symm.trans (UH (λa b=>⟨rfl,rfl,rfl,rfl,rfl,rfl,rfl,rfl,rfl,rfl⟩) (λa=>rfl) al (by nofun))
    all_goals cases kz rfl (by rw [decide_eq_false hsz]; rfl) rfl heq
    rw [if_pos (beq_self_eq_true _)]
    refine wpAny_mkInt ?_
    rw [if_pos (by decide),if_neg Bool.false_ne_true,fin]
    exact wpAny_pure ⟨_,rfl,h⟩
 ·rw [j9 (by omega)]
  obtain ⟨c,l,e,c1,c2⟩:=kx (m:=i.natAbs) (by omega)
  have al:=qh i.natAbs
  have va:=UL i.natAbs
  have le:=Zu hi
  rw [e] at al va le |-
  have hsz:¬ ((c :: l).map (· - 48)).toArray.size > 6000:=by rw [List.size_toArray,List.length_map]; omega
  have fin : -(((((c :: l).map (· - 48)).toArray.foldl (λa d=>a * 10 + d) 0:Nat)):Int)=i:=by rw [va]; omega
  rcases (by omega:c=49\/c=50\/c=51\/c=52\/c=53\/c=54\/c=55\/c=56\/c=57) with rfl | rfl | rfl | rfl | rfl | rfl | rfl | rfl | rfl
  all_goals
   split
   all_goals rename_i heq
   all_goals (conv at heq=>lhs; whnf)
   all_goals split at heq
   all_goals rename_i h1
   all_goals rw [UI (UM ⟨rfl,rfl,rfl,rfl,rfl,rfl,rfl,rfl,rfl,rfl⟩ al)] at h1
   all_goals cases h1.symm.trans (UH (λa b=>⟨rfl,rfl,rfl,rfl,rfl,rfl,rfl,rfl,rfl,rfl⟩) (λa=>rfl) al (by nofun))
   all_goals cases kz rfl (by rw [decide_eq_false hsz]; rfl) rfl heq
   rw [if_pos (beq_self_eq_true _)]
   refine wpAny_mkInt ?_
   rw [if_pos (by decide),if_pos rfl,fin]
   exact wpAny_pure ⟨_,rfl,h⟩
end Sx
set_option maxRecDepth 100000
namespace Sx
open PySem PySem.Builtin PySem.Builtin.Str
noncomputable abbrev Nm (i:Int):Prop:=i.natAbs < 10 ^ 60
theorem XI {x:Str} {c d:Nat} {r:List Nat} (h:x.cps.toList=d :: r):Txt.startswith x ⟨#[c]⟩=(d == c):=by
 unfold Txt.startswith
 have hl:x.length=r.length + 1:=by rw [<- y8,h]; rfl
 rw [StrLaws.subAt_eq,h,decide_eq_true (show 0 + (⟨#[c]⟩:Str).length<=x.length by rw [hl]; show 0 + 1<=_; omega)]
 show (true && ((d :: (r.take 0)) == [c]))=_
 simp
theorem Q1 {i:Int} (h:i < 0):Txt.startswith (sN i) (Str.ofString "-")=true:=by
 rw [show Str.ofString "-" = ⟨#[45]⟩ by decide +kernel,XI (j9 h)]
 rfl
theorem UN (m:Nat):∃ c l,dN m=c :: l/\48<=c/\c<=57:=by
 have h:=XG m
 cases e:dN m with
 | nil=>rw [e] at h; cases h
 | cons c l=>exact ⟨c,l,rfl,qh m c (by rw [e]; exact List.mem_cons_self)⟩
theorem Q2 {i:Int} (h:0<=i):Txt.startswith (sN i) (Str.ofString "-")=false:=by
 obtain ⟨c,l,e,a,b⟩:=UN i.natAbs
 rw [show Str.ofString "-" = ⟨#[45]⟩ by decide +kernel,XI ((uH h).trans e)]
 exact beq_eq_false_iff_ne.mpr (by omega)
theorem Q3 {i:Int} (h:0 < i):Txt.startswith (sN i) (Str.ofString "0")=false:=by
 obtain ⟨c,l,e,a,b⟩:=kx (m:=i.natAbs) (by omega)
 rw [show Str.ofString "0" = ⟨#[48]⟩ by decide +kernel,XI ((uH (by omega)).trans e)]
 exact beq_eq_false_iff_ne.mpr (by omega)
theorem Q4 {i:Int} (h:i < 0):Txt.slice (sN i) (some 1) none=sN (-i):=by
 have hl:1<=(sN i).length:=by rw [<- y8,j9 h]; exact Nat.succ_pos _
 rw [PyProof.Rows.slice_from_eq (b:=((sN i).length:Int)) (by decide) (by omega) rfl]
 refine ky ?_
 show ((sN i).cps.toList.drop 1).take _=_
 rw [uH (show 0<=-i by omega),List.take_of_length_le (by rw [List.length_drop,y8]; omega),j9 h,show (-i).natAbs=i.natAbs by omega]
 rfl
theorem UO (i:Int):sN i≠Str.ofString "-0":=by
 intro e
 have h:(sN i).cps.toList=[45,48]:=by rw [e]; decide +kernel
 by_cases h0:0<=i
 ·obtain ⟨c,l,e,a,b⟩:=UN i.natAbs
  rw [uH h0,e] at h
  have:=(List.cons.inj h).1
  omega
 ·obtain ⟨c,l,e,a,b⟩:=kx (m:=i.natAbs) (by omega)
  rw [j9 (by omega),e] at h
  have:=(List.cons.inj (List.cons.inj h).2).1
  omega
theorem Q5:sN 0=Str.ofString "0":=rfl
theorem Q6 {i:Int} (h:0 < i):sN i≠Str.ofString "0":=by
 intro e
 have h2:(sN i).cps.toList=[48]:=by rw [e]; decide +kernel
 obtain ⟨c,l,e,a,b⟩:=kx (m:=i.natAbs) (by omega)
 rw [uH (by omega),e] at h2
 have:=(List.cons.inj h2).1
 omega
theorem Q7 {c:Nat} (h:48<=c/\c<=57):(!(occurrences (Str.ofString "0123456789") ⟨#[c]⟩ 0 (Str.ofString "0123456789").length 1).isEmpty)=true:=by
 rcases XH h with e | e | e | e | e | e | e | e | e | e <;> subst e <;> decide +kernel
noncomputable abbrev yI:Str:=Str.ofString " "
noncomputable abbrev Q8:Str:=Str.ofString "/"
noncomputable abbrev jX:Str:=Str.ofString ", "
theorem qA:yI.cps.toList=[32]:=by decide +kernel
theorem XJ:jX.cps.toList=[44,32]:=by decide +kernel
noncomputable def sF (p:Int × Int):Str:=if p.2=1 then sN p.1 else sN p.1++Q8++sN p.2
theorem qj {y:Str} {c:Nat} {r:List Nat} (hy:y.cps.toList=c :: r) (hk:y.cps.all (· < 256)=true) {ps:List Str} (h0:ps≠[]) (hf:∀ q∈ps,c∉q.cps.toList):Txt.split (Str.join y ps) y=ps:=by
 have z:=Qw hy hk h0 hf
 rw [show Txt.join y ps=Str.join y ps from StrLaws.glued_eq_join ..] at z
 exact z
noncomputable def sW (r:List Int):Str:=Str.join yI (r.map sN)
noncomputable def sP (ps:List (Int × Int)):Str:=Str.join yI (ps.map sF)
noncomputable def sR (room:List (List Int)):Str:=Str.join jX (room.map sW)
theorem ZA {α β:Type} {f:α->β} {l:List α} (h:l≠[]):l.map f≠[]:=λz=>h (List.map_eq_nil_iff.mp z)
theorem Q9 {r:List Int} (h:r≠[]):Txt.split (sW r) yI=r.map sN:=
 qj qA (by decide +kernel) (ZA h) λq hq=>by
  obtain ⟨i,_,rfl⟩:=List.mem_map.mp hq
  intro hc
  rcases ui i _ hc with z | z <;> omega
theorem XM (r:List Int):∀ c∈(sW r).cps.toList,c=32\/(45<=c/\c<=57):=λc hc=>by
 rcases qi hc with z | ⟨p,hp,z⟩
 ·rw [qA] at z
  exact .inl (List.mem_singleton.mp z)
 ·obtain ⟨i,_,rfl⟩:=List.mem_map.mp hp
  rcases ui i _ z with z | z <;> omega
theorem KA {room:List (List Int)} (h:room≠[]):Txt.split (sR room) jX=room.map sW:=
 qj XJ (by decide +kernel) (ZA h) λq hq hc=>by
  obtain ⟨i,_,rfl⟩:=List.mem_map.mp hq
  rcases XM i _ hc with z | z <;> omega
theorem ZB {y:Str} {ps:List Str} {B:Nat} (hB:∀ q∈ps,q.length<=B):(Str.join y ps).length<=ps.length * (B + y.length):=by
 have h1:=StrLaws.join_length_le y ps
 have h2:=StrLaws.sumLen_le ps hB
 rw [Nat.mul_add]
 omega
theorem ZC {room:List (List Int)} (h:room≠[]):sR room≠Str.ofString "all":=by
 intro e
 have hm:97∈(sR room).cps.toList:=by rw [e]; decide +kernel
 rcases qi hm with z | ⟨p,hp,z⟩
 ·rw [XJ] at z
  simp at z
 ·obtain ⟨r,_,rfl⟩:=List.mem_map.mp hp
  rcases XM r _ z with z | z <;> omega
end Sx
namespace L2
open PySem PySem.Spec PyProof.Rows PySem.Builtin PySem.Builtin.Str
noncomputable def XN (z:Str):It:=⟨λi _=>i < z.cps.size,λi H x H'=>H'=H/\∃ c,z.cps[i]? = some c/\x=.str ⟨#[c]⟩,λi _=>z.cps.size<=i⟩
theorem KB {P:Program} {w:World} {K:PySem.W.Frag} {tg:Expr} (it:Addr) (z:Str) (t:Tok):wF P w K tg (XN z) [it] it (λi h=>h.IsStrIter it "str_ascii_iterator" z t i) where
 mem:=by simp
 obj:=λi h st b hb=>by
  have e:b=it:=by simpa using hb
  subst e
  obtain ⟨o,e,c,d⟩:=st
  exact ⟨o,e,λv z=>by rw [d] at z; cases z⟩
 keep:=λi h h' st k=>let ⟨o,ho,r⟩:=st; ⟨o,k it (by simp) o ho,r⟩
 item:=by
  intro X hP hw hK hc i pins s σ H E I hf st hg
  subst hP hw hK
  obtain ⟨f0,f1,f2,f3,f4,f5⟩:=hf it (by simp)
  have hg':i < z.cps.size:=hg
  have hx:z.cps[i]? = some z.cps[i]:=by simp [hg']
  refine wpAny_pyNext_ascii_item st hx λh' st' sb=>?_
  have I1:zI X pins σ H { s with heap:=h',toks:=s.toks + 1 }:=I.turned (λb o hb e=>(sb.2 b hb).trans e) f0 f1 f3 f4 f5
  obtain ⟨o,e,c,d⟩:=id st'
  exact ⟨_,rfl,kI (s:={ s with heap:=h',toks:=s.toks + 1 }) e c d (by decide) ⟨.str ⟨#[z.cps[i]]⟩,H,I1,⟨_,rfl⟩,⟨rfl,_,hx,rfl⟩,st',λb hb=>(hf b hb).1⟩⟩
 done:=by
  intro X hP hw hK hc i pins s σ H E I hf st hg
  subst hP hw hK
  obtain ⟨f0,f1,f2,f3,f4,f5⟩:=hf it (by simp)
  have hg':z.cps.size<=i:=hg
  exact wpAny_pyNext_ascii_end (I.ok.hd hc) st (by simp; omega) λh' eb=>⟨rfl,I.turned (t':=s.toks) (λb o hb e=>eb b o hb e) f0 f1 f3 f4 f5⟩
 self:=λ_ _ _ _ _ st h=>wpAny_pyIter_striter_ascii st h
section
variable {X:Cx} {tg:Expr}
noncomputable def XO (tl:TE):TI:=λσ H R=>tl σ H λx H1=>∃ z,x=.str z/\z.cps.all (· < 128)=true/\R (XN z) H1
theorem KC {l:Expr} {tl:TE} (hl:PE X l tl):PI X tg l (XO tl):=by
 intro pins s σ H R I h
 refine zi (hl pins s σ H _ I h) λv s1 ⟨x,H1,I1,r1,q1⟩=>?_
 obtain ⟨z,e,ha,q⟩:=q1
 subst e
 obtain ⟨t,rfl⟩:=r1
 refine wpAny_pyIter_ascii ha ?_
 refine ⟨s1.heap.objs.size,[s1.heap.objs.size],_,_,H1,rfl,I1.kept (t':=s1.toks) λb o e=>Heap.get?_push_of_some _ e,KB _ z t,⟨_,Heap.get?_push_size _ rfl,rfl,rfl⟩,λb hb=>?_,q⟩
 have e:b=s1.heap.objs.size:=by simpa using hb
 subst e
 exact I1.fpOk (Nat.le_refl _) (I1.hok.fresh (Nat.le_refl _))
theorem KD {z:Str} {g:TG} {te:TE} {σ0:St} {H:Hp} {Q:VK} (Pv:Nat->List V->St->Hp->Prop) (h0:Pv 0 [] σ0 H) (hl:∀ i ys σ H,Pv i ys σ H->ys.length<=i) (hz:z.cps.size<=sizeLine)
  (hs:∀ i c ys σ H,z.cps[i]? = some c->Pv i ys σ H->g (.str ⟨#[c]⟩) σ H λσ2 H2=>te σ2 H2 λy H3=>Pv (i + 1) (ys++[y]) σ2 H3)
  (hd:∀ ys σ H,Pv z.cps.size ys σ H->∀ p,H p=none->Q (.ref p) (upd H p (.lst ys))):kX (XN z) g te Q σ0 H:=by
 refine ⟨λi m ys σ H=>m=z.cps.size - i/\i<=z.cps.size/\Pv i ys σ H,⟨z.cps.size,by simp,Nat.zero_le _,h0⟩,?_⟩
 rintro i m ys σ H ⟨rfl,hi,p⟩
 have hy:=hl i ys σ H p
 by_cases hlt:i < z.cps.size
 ·refine .inr ⟨hlt,by omega,λy σ' H'=>Pv (i + 1) (ys++[y]) σ' H',λy σ' H' q=>⟨z.cps.size - (i + 1),by omega,rfl,hlt,q⟩,λx H' y=>?_⟩
  obtain ⟨e,c,hc,e2⟩:=y
  subst e e2
  exact hs i c ys σ _ hc p
 ·have e:i=z.cps.size:=by omega
  subst e
  exact .inl ⟨Nat.le_refl _,hd ys σ H p⟩
end
theorem UP:∀ {ts:List Str} {us:List Value},zN (ts.map V.str) us->∃ l:List (Str × Tok),us=strValues l/\l.map (·.1)=ts
 | [],_,.nil=>⟨[],rfl,rfl⟩
 | x :: ts,_,.cons ⟨t,e⟩ r=>by
  subst e
  obtain ⟨l,e1,e2⟩:=UP r
  exact ⟨(x,t) :: l,by rw [e1]; rfl,by rw [<- e2]; rfl⟩
theorem UQ:∀ l:List (Str × Tok),zN ((l.map (·.1)).map V.str) (strValues l)
 | []=>.nil
 | (x,t) :: l=>.cons ⟨t,rfl⟩ (UQ l)
noncomputable def ZD (K:PySem.W.Frag) (x:V) (vs:List V) (H:Hp) (Q:VK):Prop:=∃ sep l ts,x=.str sep/\vs=[.ref l]/\zE K H l (ts.map V.str)/\JoinOk sep ts=true/\Q (.str (Str.join sep ts)) H
section
variable {X:Cx}
theorem uj:kR X "str.join" (ZD X.K):=by
 intro pins s σ H x vs v us Q I rx rv h
 obtain ⟨sep,l,ts,rfl,rfl,hq,ok,q⟩:=h
 obtain ⟨t,rfl⟩:=rx
 obtain ⟨u,rfl,ru⟩:=rv.one
 cases (show u=Value.ref l from ru)
 obtain ⟨its,rvs,pl,hz⟩:=I.list hq
 obtain ⟨ls,rfl,e⟩:=UP rvs
 refine SC.join pl.isList e ok λt' k=>?_
 rw [show Txt.join sep ts=Str.join sep ts from StrLaws.glued_eq_join ..]
 exact ⟨.str _,H,I.tok k,⟨t',rfl⟩,q⟩
theorem Zx:kR X "str.split" (λx vs H Q=>∃ z y,x=.str z/\vs=[.str y]/\(y.length == 0)=false/\z.length + 1<=sizeLine/\∀ p,H p=none->Q (.ref p) (upd H p (.lst ((Txt.split z y).map V.str)))):=by
 intro pins s σ H x vs v us Q I rx rv h
 obtain ⟨z,y,rfl,rfl,hy,hz,q⟩:=h
 obtain ⟨t,rfl⟩:=rx
 obtain ⟨u,rfl,t2,rfl⟩:=rv.one
 have hy1:1<=y.length:=by
  have:=(beq_eq_false_iff_ne.mp hy)
  omega
 have w1:=PyProof.Rows.split_weight z y hy1
 have w:(Txt.split z y).length<=sizeLine:=by omega
 have fin:∀ (l:List (Str × Tok)) (k:Nat),l.map (·.1)=Txt.split z y->EP X pins σ Q (.ref s.heap.objs.size) { s with heap:=s.heap.push { cls:=.type "list",data:=.seq (strValues l).toArray },toks:=k }:=λl k e=>
  ⟨.ref _,_,I.lnew (ys:=(Txt.split z y).map V.str) (by rw [<- e]; exact UQ l) (by rw [List.length_map]; exact w),rfl,q _ I.fresh⟩
 cases h1:(decide (z.length < y.length) || decide (strKind z < strKind y))
 ·cases hf:(occurrences z y 0 z.length (z.length + 1)).isEmpty
  ·have e':Txt.split z y=partsBetween z (occurrences z y 0 z.length (z.length + 1)) y.length:=(if_neg (ne_true_of_eq_false h1)).trans (if_neg (ne_true_of_eq_false hf))
   refine call_meets F.slot_str_split (typeIs_str _ _ _) F.entry_str_split (F.args_str_split_2 _ _) (meets_str_split_sep z y t t2 h1 hy hf (by omega) (by rw [<- e']; exact w)) ?_
   show wants _ _ _ { s with toks:=_,heap:=s.heap.push { cls:=.type "list",data:=.seq (strsFrom s.toks (partsBetween z (occurrences z y 0 z.length (z.length + 1)) y.length)).toArray } }
   rw [strsFrom_eq]
   exact fin (numbered s.toks _) _ ((numbered_texts _ _).trans e'.symm)
  ·exact call_meets F.slot_str_split (typeIs_str _ _ _) F.entry_str_split (F.args_str_split_2 _ _) (meets_str_split_not_found z y t t2 h1 hy hf)
    (fin [(z,t)] _ ((if_neg (ne_true_of_eq_false h1)).trans (if_pos hf)).symm)
 ·exact call_meets F.slot_str_split (typeIs_str _ _ _) F.entry_str_split (F.args_str_split_2 _ _) (meets_str_split_cannot_occur z y t t2 h1)
   (fin [(z,t)] _ (if_pos h1).symm)
theorem UR:kR X "str.startswith" (λx vs H Q=>∃ z y,x=.str z/\vs=[.str y]/\Q (.bl (Txt.startswith z y)) H):=by
 intro pins s σ H x vs v us Q I rx rv h
 obtain ⟨z,y,rfl,rfl,q⟩:=h
 obtain ⟨t,rfl⟩:=rx
 obtain ⟨u,rfl,t2,rfl⟩:=rv.one
 exact SC.startswith ⟨.bl _,H,I,rfl,q⟩
theorem KF:uv X (λx lo hi H Q=>∃ z i,x=.str z/\lo=some i/\hi=none/\z.length<=sizeLine/\Q (.str (Txt.slice z (some i) none)) H):=by
 intro pins s σ H x v vl vu lo hi sl Q I rx hs pl pu h
 obtain ⟨z,i,rfl,rfl,rfl,hz,q⟩:=h
 obtain ⟨t,rfl⟩:=rx
 cases pl with
 | int _ u=>
  cases pu
  refine ⟨"str",_,F.slot_str_getitem.lookup,typeIs_str _ _ _,wpAny_getItem_str_slice (l:=some (i,u)) (u:=none) (st:=none) hs rfl ?_⟩
  exact post_val_or_str ⟨Nat.le_trans (Txt.slice_le z _ _) hz,λt' k=>⟨.str _,H,I.tok k,⟨t',rfl⟩,q⟩⟩
theorem wO:xU X (binaryOp .Add) (λx y H Q=>∃ i j,x=.str i/\y=.str j/\i.length + j.length<=sizeLine/\Q (.str (i++j)) H):=by
 intro pins s σ H x y v u Q I rx ry h
 obtain ⟨i,j,rfl,rfl,hz,q⟩:=h
 obtain ⟨t,rfl⟩:=rx
 obtain ⟨t2,rfl⟩:=ry
 exact SB.add (λt' k=>⟨.str _,H,I.tok k,⟨t',rfl⟩,q⟩) hz
theorem KG:ya X (.type "int") (λxs H Q=>∃ i:Int,xs=[.str (Sx.sN i)]/\i.natAbs < 10 ^ 60/\Q (.int i) H):=by
 intro pins s σ H xs us Q I r h
 obtain ⟨i,rfl,hz,q⟩:=h
 obtain ⟨u,rfl,t,rfl⟩:=vg r
 exact call_int_1 (Sx.meets_int_text i t hz) ⟨typeIs_int _ _ _,⟨.int i,H,I.tok _,⟨_,rfl⟩,q⟩⟩
theorem jY:ya X (.type "str") (λxs H Q=>(∃ i:Int,xs=[.int i]/\i.natAbs < 10 ^ 60/\Q (.str (Sx.sN i)) H)\/∃ x,xs=[.str x]/\Q (.str x) H):=by
 intro pins s σ H xs us Q I r h
 rcases h with ⟨i,rfl,hz,q⟩ | ⟨x,rfl,q⟩
 ·obtain ⟨u,rfl,t,rfl⟩:=vg r
  refine PySem.P.str_of_int ?_ ⟨.str _,H,I.tok _,⟨_,rfl⟩,q⟩
  by_cases h0:i.natAbs=0
  ·rw [h0]; decide
  ·exact (Nat.log2_lt h0).mpr (Nat.lt_trans hz (by decide +kernel))
 ·obtain ⟨u,rfl,t,rfl⟩:=vg r
  exact PySem.P.str_of_str ⟨.str _,H,I,⟨_,rfl⟩,q⟩
theorem US {tg l:Expr} {w1 w2:TI} (h1:PI X tg l w1) (h2:PI X tg l w2):PI X tg l (λσ H R=>w1 σ H R\/w2 σ H R):=by
 intro pins s σ H R I h
 rcases h with h | h
 ·exact h1 pins s σ H R I h
 ·exact h2 pins s σ H R I h
variable {pos:Pos}
theorem jZ {x:Str} {n:Str} (hg:Gl X x) (h:∃ t,X.mg x=some (.str n t)) (hd:(x == ("__debug__" : Str))=false:=by decide):PE X (.Name x pos) (tC (.str n)):=
 let ⟨t,e⟩:=h
 YN hg e ⟨t,rfl⟩ hd
end
theorem KH (K:PySem.W.Frag):PySem.W.kitOne K (.type "str") (.type "str")=some true:=by first | rfl | decide +kernel | (unfold PySem.W.kitOne; rw [if_pos (by decide +kernel)])
end L2
namespace L2
open PySem PySem.Spec PyProof.Rows
noncomputable def ZE (K:PySem.W.Frag) (a:Addr) (n:Nat):It:=
 ⟨λi H=>i < n/\∃ xs,zE K H a xs/\xs.length=n,λi H x H'=>H'=H/\∀ xs,zE K H a xs->xs[n - 1 - i]? = some x,λi _=>i=n⟩
theorem KI {P:Program} {w:World} {K:PySem.W.Frag} {tg:Expr} (a it:Addr) (n:Nat):wF P w K tg (ZE K a n) [it] it (λi h=>h.IsRevIter it a ((n:Int) - 1 - (i:Int))) where
 mem:=by simp
 obj:=λi h st b hb=>by
  have e:b=it:=by simpa using hb
  subst e
  obtain ⟨o,e,c,d⟩:=st
  exact ⟨o,e,λv z=>by rw [d] at z; cases z⟩
 keep:=λi h h' st k=>st.at λo e=>k it (by simp) o e
 item:=by
  intro X hP hw hK hc i pins s σ H E I hf st hg
  subst hP hw hK
  obtain ⟨hi,xs,hq,hn⟩:=hg
  obtain ⟨its,rv,p,hz⟩:=I.list hq
  have hx:xs[n - 1 - i]? = some (xs[n - 1 - i]'(by omega)):=List.getElem?_eq_getElem (by omega)
  obtain ⟨u,hu,ru⟩:=rv.get hx
  obtain ⟨f0,f1,f2,f3,f4,f5⟩:=hf it (by simp)
  have e1:(n:Int) - 1 - (i:Int)=((n - 1 - i:Nat):Int):=by omega
  rw [e1] at st
  refine wpAny_pyNext_rev_item st p.isList (x:=u) (by simpa using hu) λh' st' sb=>?_
  have I1:zI X pins σ H { s with heap:=h' }:=I.turned (t':=s.toks) (λb o hb e=>(sb.2 b hb).trans e) f0 f1 f3 f4 f5
  obtain ⟨o,e,c,d⟩:=id st'
  rw [show ((n - 1 - i:Nat):Int) - 1=(n:Int) - 1 - ((i + 1:Nat):Int) by omega] at st'
  exact ⟨u,rfl,kI (s:={ s with heap:=h' }) e c d (by decide) ⟨_,H,I1,ru,⟨rfl,λys hy=>by rw [I.list_inj hy hq]; exact hx⟩,st',λb hb=>(hf b hb).1⟩⟩
 done:=by
  intro X hP hw hK hc i pins s σ H E I hf st hg
  subst hP hw hK
  obtain ⟨f0,f1,f2,f3,f4,f5⟩:=hf it (by simp)
  have e1:(n:Int) - 1 - (i:Int) = -1:=by rw [show i=n from hg]; omega
  rw [e1] at st
  exact wpAny_pyNext_rev_end (I.ok.hd hc) st λh' eb=>⟨rfl,I.turned (t':=s.toks) (λb o hb e=>eb b o hb e) f0 f1 f3 f4 f5⟩
 self:=λ_ _ _ _ _ st h=>wpAny_pyIter_revIter st h
section
variable {X:Cx} {tg:Expr}
noncomputable def XQ (K:PySem.W.Frag) (ta:TA):TI:=λσ H R=>ta σ H λvs H1=>∃ a xs,vs=[.ref a]/\zE K H1 a xs/\R (ZE K a xs.length) H1
theorem KJ {e1:Expr} {ta:TA} {p pos:Pos} (hg:Gl X "reversed") (hm:X.mg "reversed" = none) (ha:PA X [e1] ta) (hs:starEach [e1] X.env=[(false,eval e1 X.env)]:=by rfl) (hs2:starEach [] X.env=[]:=by rfl) :
  PI X tg (.Call (.Name "reversed" p) [e1] [] pos) (XQ X.K ta):=by
 intro pins s σ H R I h
 refine Call_ (qS I hg hm (show bootBuiltins "reversed" = some (.type "reversed") by decide +kernel) (PyProof.Rows.callWith_type1 (zi (ha pos pins s σ H _ I h) λus s1 ⟨vs,H1,I1,r1,q1⟩=>?_) (by rw [hs,hs2]) (by rw [hs2]; rfl)))
 obtain ⟨a,xs,e,hx,q⟩:=q1
 subst e
 obtain ⟨u,rfl,ru⟩:=vg r1
 cases ru
 obtain ⟨its,rv,p1,_⟩:=I1.list hx
 refine call_reversed_list p1.isList ?_
 have hit:(s1.heap.push (revObj a ((its.toArray.size:Int) - 1))).IsRevIter s1.heap.objs.size a ((xs.length:Int) - 1 - ((0:Nat):Int)):=by
  refine ⟨_,Heap.get?_push_size _ rfl,rfl,?_⟩
  have:=rv.length
  show (revObj a _).data=_
  unfold revObj
  rw [show ((its.toArray.size:Nat):Int) - 1=(xs.length:Int) - 1 - ((0:Nat):Int) by simp; omega]
 refine wpAny_pyIter_revIter (s:={ s1 with heap:=_ }) hit ?_
 refine ⟨s1.heap.objs.size,[s1.heap.objs.size],_,_,H1,rfl,I1.kept (t':=s1.toks) λb o e=>Heap.get?_push_of_some _ e,KI a _ xs.length,hit,λb hb=>?_,q⟩
 have e:b=s1.heap.objs.size:=by simpa using hb
 subst e
 exact I1.fpOk (Nat.le_refl _) (I1.hok.fresh (Nat.le_refl _))
end
theorem KL {K:PySem.W.Frag} {a:Addr} {xs:List V} {g:TG} {tb:TS} {D:wC} {σ:St} {H:Hp} (Pv:Nat->St->Hp->Prop) (h0:Pv 0 σ H) (hl:∀ i σ H,i<=xs.length->Pv i σ H->zE K H a xs)
  (hs:∀ i x σ H,xs.reverse[i]? = some x->Pv i σ H->g x σ H λσ2 H2=>tb { D with nx:=Pv (i + 1),ct:=Pv (i + 1),bk:=D.nx } σ2 H2) (hd:∀ σ H,Pv xs.length σ H->D.nx σ H) :
  ∃ W:Nat->Nat->St->Hp->Prop,(∃ m,W 0 m σ H)/\∀ i m σ H,W i m σ H->
   ((ZE K a xs.length).stop i H/\D.nx σ H)\/((ZE K a xs.length).go i H/\∃ N:St->Hp->Prop,(∀ σ' H',N σ' H'->∃ m',m' < m/\W (i + 1) m' σ' H')/\∀ x H',(ZE K a xs.length).yld i H x H'->g x σ H' λσ2 H2=>tb { D with nx:=N,ct:=N,bk:=D.nx } σ2 H2):=by
 refine ⟨λi m σ H=>m=xs.length - i/\i<=xs.length/\Pv i σ H,⟨xs.length,by simp,Nat.zero_le _,h0⟩,?_⟩
 rintro i m σ H ⟨rfl,hi,p⟩
 have q:=hl i σ H hi p
 by_cases hlt:i < xs.length
 ·refine .inr ⟨⟨hlt,xs,q,rfl⟩,Pv (i + 1),λσ' H' p'=>⟨xs.length - (i + 1),by omega,rfl,hlt,p'⟩,λx H' y=>?_⟩
  obtain ⟨e,y⟩:=y
  subst e
  exact hs i x σ _ (by rw [List.getElem?_reverse hlt]; exact y xs q) p
 ·have e:i=xs.length:=by omega
  subst e
  exact .inl ⟨rfl,hd σ H p⟩
end L2
namespace L2
open PySem PySem.Spec PyProof.Rows
section
variable {X:Cx}
theorem KM (hc:X.calm=true):ya X (.builtin "min") (λxs H Q=>∃ (p:Addr) (ns:List Int),xs=[.ref p]/\zE X.K H p (ns.map V.int)/\0 < ns.length/\∀ M,M∈ns->(∀ a∈ns,M<=a)->Q (.int M) H):=by
 intro pins s σ H xs us Q I r h
 obtain ⟨p,ns,rfl,hl,h0,q⟩:=h
 obtain ⟨u,rfl,rx⟩:=vg r
 obtain rfl:u=.ref p:=rx
 obtain ⟨its,rv,pl,hz⟩:=I.list hl
 have hi:∀ {xs:List Int} {ys:List Value},zN (xs.map V.int) ys->IntsAre ys xs:=by
  intro xs
  induction xs with
  | nil=>intro ys h; cases h; exact .nil
  | cons x xs ih=>
   intro ys h
   cases h with
   | cons h1 h2=>
    obtain ⟨t,rfl⟩:=h1
    exact .cons x t (ih h2)
 have hA:=hi rv
 obtain ⟨xs,e⟩:=hA.allInts.items
 have hns:ns=xs.toList.map (·.1):=by rw [<- hA.numsOf,<- nums_intItems,<- e]
 have hsz:0 < xs.size:=by
  have h3:=h0
  rw [hns,List.length_map,Array.length_toList] at h3
  exact h3
 have hl2:=pl.isList
 rw [e] at hl2
 refine min_intList (I.ok.hd hc) hl2 hsz λv h' tk hv hk=>?_
 obtain ⟨t,rfl⟩:=intItems_at hv
 obtain ⟨h1,h2⟩:=argBest_lt (numAt xs) (xs.size - 1)
 refine ⟨.int _,H,I.kept hk,⟨t,rfl⟩,q _ ?_ λa ha=>?_⟩
 ·rw [hns,numAt_eq]
  rw [List.getD_eq_getElem?_getD,List.getElem?_eq_getElem (by rw [List.length_map,Array.length_toList]; omega)]
  exact List.getElem_mem _
 ·rw [hns] at ha
  obtain ⟨j,hj,rfl⟩:=mem_getD ha
  rw [List.length_map,Array.length_toList] at hj
  have:=h2 j (by omega)
  rw [<- numAt_eq]
  exact this
theorem KN (hc:X.calm=true):ya X (.builtin "max") (λxs H Q=>∃ (p:Addr) (ns:List Int),xs=[.ref p]/\zE X.K H p (ns.map V.int)/\0 < ns.length/\∀ M,M∈ns->(∀ a∈ns,a<=M)->Q (.int M) H):=by
 intro pins s σ H xs us Q I r h
 obtain ⟨p,ns,rfl,hl,h0,q⟩:=h
 obtain ⟨u,rfl,rx⟩:=vg r
 obtain rfl:u=.ref p:=rx
 obtain ⟨its,rv,pl,hz⟩:=I.list hl
 have hi:∀ {xs:List Int} {ys:List Value},zN (xs.map V.int) ys->IntsAre ys xs:=by
  intro xs
  induction xs with
  | nil=>intro ys h; cases h; exact .nil
  | cons x xs ih=>
   intro ys h
   cases h with
   | cons h1 h2=>
    obtain ⟨t,rfl⟩:=h1
    exact .cons x t (ih h2)
 have hA:=hi rv
 obtain ⟨xs,e⟩:=hA.allInts.items
 have hns:ns=xs.toList.map (·.1):=by rw [<- hA.numsOf,<- nums_intItems,<- e]
 have hsz:0 < xs.size:=by
  have h3:=h0
  rw [hns,List.length_map,Array.length_toList] at h3
  exact h3
 have hl2:=pl.isList
 rw [e] at hl2
 refine max_intList (I.ok.hd hc) hl2 hsz λv h' tk hv hk=>?_
 obtain ⟨t,rfl⟩:=intItems_at hv
 obtain ⟨h1,h2⟩:=argBest_gt (numAt xs) (xs.size - 1)
 refine ⟨.int _,H,I.kept hk,⟨t,rfl⟩,q _ ?_ λa ha=>?_⟩
 ·rw [hns,numAt_eq]
  rw [List.getD_eq_getElem?_getD,List.getElem?_eq_getElem (by rw [List.length_map,Array.length_toList]; omega)]
  exact List.getElem_mem _
 ·rw [hns] at ha
  obtain ⟨j,hj,rfl⟩:=mem_getD ha
  rw [List.length_map,Array.length_toList] at hj
  have:=h2 j (by omega)
  rw [numAt_eq] at this
  exact this
end
end L2
set_option maxRecDepth 100000
namespace Sx
open PySem PySem.Builtin PySem.Builtin.Str Sh
noncomputable abbrev qk:Str:=Str.ofString "\n"
noncomputable abbrev yj:Str:=Str.ofString " | "
noncomputable abbrev wH:Str:=Str.ofString "straight"
noncomputable abbrev wI:Str:=Str.ofString "stopped"
noncomputable abbrev wX:Str:=Str.ofString "parted"
theorem ZF:qk.cps.toList=[10]:=by decide +kernel
theorem KO:yj.cps.toList=[32]++124 :: [32]:=by decide +kernel
theorem XR (y:Str):∀ {l m:List Str},l≠[]->m≠[]->Str.join y (l++m)=Str.join y l++y++Str.join y m
 | [],_,h,_=>absurd rfl h
 | [a],[],_,h=>absurd rfl h
 | [a],b :: m,_,_=>rfl
 | a :: b :: l,m,_,h=>by
  show a++y++Str.join y (b :: l++m)=a++y++Str.join y (b :: l)++y++Str.join y m
  rw [XR y (l:=b :: l) (by nofun) h]
  refine ky ?_
  simp only [Zv,List.append_assoc]
theorem Zy (y:Str):∀ {L:List (List Str)},(∀ l∈L,l≠[])->Str.join y (L.map (Str.join y))=Str.join y L.flatten
 | [],_=>rfl
 | [l],_=>by rw [List.flatten_cons,List.flatten_nil,List.append_nil]; rfl
 | l :: m :: L,h=>by
  have h2:∀ x∈m :: L,x≠[]:=λx hx=>h x (List.mem_cons_of_mem _ hx)
  show Str.join y l++y++Str.join y ((m :: L).map (Str.join y))=_
  rw [Zy y h2,show (l :: m :: L).flatten=l++(m :: L).flatten from rfl,XR y (h l List.mem_cons_self) (by
   rw [List.flatten_cons]
   intro z
   exact h m (List.mem_cons_of_mem _ List.mem_cons_self) (List.append_eq_nil_iff.mp z).1)]
theorem UT (y a:Str) {l:List Str} (h:l≠[]):a++y++Str.join y l=Str.join y (a :: l):=(XR y (l:=[a]) (by nofun) h).symm
inductive Wd where
 | num (i:Int)
 | str
 | stp
 | prt
noncomputable def wJ:Wd->Str
 | .num i=>sN i
 | .str=>wH
 | .stp=>wI
 | .prt=>wX
noncomputable def wd:RT->List Wd
 | .str ns a d=>.str :: (ns++[a,d]).map .num
 | .stp t lo hi=>.stp :: .num lo :: .num hi :: wd t
 | .prt r x y=>.prt :: (r.map .num++(wd x++wd y))
noncomputable def xX (t:RT):Str:=Str.join yI ((wd t).map wJ)
noncomputable def uI (n:Nat):RT->Prop
 | .str ns a d=>ns.length=n/\(∀ x∈ns,Nm x)/\Nm a/\Nm d
 | .stp t lo hi=>uI n t/\Nm lo/\Nm hi
 | .prt r x y=>(r.length=n + 1/\∀ z∈r,Nm z)/\uI n x/\uI n y
theorem ZG (t:RT):(wd t).map wJ≠[]:=by cases t <;> nofun
theorem UU (l:List Int):(l.map Wd.num).map wJ=l.map sN:=by rw [List.map_map]; rfl
theorem UV (ns:List Int) (a d:Int):xX (.str ns a d)=Str.join yI (wH :: (ns++[a,d]).map sN):=by
 show Str.join yI (wH :: ((ns++[a,d]).map Wd.num).map wJ)=_
 rw [UU]
theorem UW {a b c d:List Str} (ha:a≠[]) (hb:b≠[]) (hc:c≠[]) (hd:d≠[]):∀ l∈[a,b,c,d],l≠[]:=λl hl=>by
 simp only [List.mem_cons,List.not_mem_nil,or_false] at hl
 rcases hl with e | e | e | e <;> rw [e] <;> assumption
theorem UX (a b c d:List Str):[a,b,c,d].flatten=a++(b++(c++d)):=by
 rw [List.flatten_cons,List.flatten_cons,List.flatten_cons,List.flatten_cons,List.flatten_nil,List.append_nil]
theorem KP (t:RT) (lo hi:Int):Str.join yI [wI,sN lo,sN hi,xX t]=xX (.stp t lo hi):=by
 have z:=Zy yI (UW (a:=[wI]) (b:=[sN lo]) (c:=[sN hi]) (d:=(wd t).map wJ) (by nofun) (by nofun) (by nofun) (ZG t))
 rw [UX] at z
 exact z
theorem KQ (t:RT) (lo hi:Int):Str.join yI [wI,sW [lo,hi],xX t]=xX (.stp t lo hi):=by
 have z:=Zy yI (L:=[[wI],[sN lo,sN hi],(wd t).map wJ]) (λl hl=>by
  simp only [List.mem_cons,List.not_mem_nil,or_false] at hl
  rcases hl with e | e | e <;> rw [e]
  ·nofun
  ·nofun
  ·exact ZG t)
 rw [List.flatten_cons,List.flatten_cons,List.flatten_cons,List.flatten_nil,List.append_nil] at z
 exact z
theorem UY (r:List Int) (x y:RT) (h:r≠[]):Str.join yI [wX,sW r,xX x,xX y]=xX (.prt r x y):=by
 have z:=Zy yI (UW (a:=[wX]) (b:=r.map sN) (c:=(wd x).map wJ) (d:=(wd y).map wJ) (by nofun) (ZA h) (ZG x) (ZG y))
 rw [UX] at z
 refine z.trans ?_
 show _=Str.join yI (wX :: (r.map Wd.num++(wd x++wd y)).map wJ)
 rw [List.map_append,List.map_append,UU]
 rfl
theorem ZH (w:Wd):32∉(wJ w).cps.toList:=by
 cases w with
 | num i=>intro hc; rcases ui i _ hc with z | z <;> omega
 | str=>decide +kernel
 | stp=>decide +kernel
 | prt=>decide +kernel
theorem KR (t:RT):Txt.split (xX t) yI=(wd t).map wJ:=
 qj qA (by decide +kernel) (ZG t) λq hq=>by
  obtain ⟨w,_,rfl⟩:=List.mem_map.mp hq
  exact ZH w
theorem ZI {n:Nat}:∀ {t:RT},uI n t->∀ i,Wd.num i∈wd t->Nm i
 | .str ns a d,⟨_,h1,h2,h3⟩,i,hi=>by
  rcases List.mem_cons.mp hi with z | z
  ·cases z
  ·obtain ⟨j,hj,e⟩:=List.mem_map.mp z
   cases e
   rcases List.mem_append.mp hj with z | z
   ·exact h1 _ z
   ·simp only [List.mem_cons,List.not_mem_nil,or_false] at z
    rcases z with e | e <;> rw [e] <;> assumption
 | .stp t lo _,⟨h1,h2,h3⟩,i,hi=>by
  rcases List.mem_cons.mp hi with z | z
  ·cases z
  ·rcases List.mem_cons.mp z with z | z
   ·cases z; exact h2
   ·rcases List.mem_cons.mp z with z | z
    ·cases z; exact h3
    ·exact ZI h1 i z
 | .prt r x y,⟨h1,h2,h3⟩,i,hi=>by
  rcases List.mem_cons.mp hi with z | z
  ·cases z
  ·rcases List.mem_append.mp z with z | z
   ·obtain ⟨j,hj,e⟩:=List.mem_map.mp z
    cases e
    exact h1.2 _ hj
   ·rcases List.mem_append.mp z with z | z
    ·exact ZI h2 i z
    ·exact ZI h3 i z
theorem KS {w:Wd} (h:∀ i,w=.num i->Nm i):(wJ w).length<=61:=by
 cases w with
 | num i=>exact (jV (h i rfl)).2
 | str=>decide +kernel
 | stp=>decide +kernel
 | prt=>decide +kernel
theorem UZ {n:Nat} {t:RT} (h:uI n t) (hl:(wd t).length<=70):(xX t).length<=4340:=by
 have:=ZB (y:=yI) (ps:=(wd t).map wJ) (B:=61) (λq hq=>by
  obtain ⟨w,hw,rfl⟩:=List.mem_map.mp hq
  exact KS λi e=>ZI h i (e ▸ hw))
 rw [List.length_map,show yI.length=1 by decide +kernel] at this
 have z:(wd t).length * (61 + 1)<=70 * 62:=Nat.mul_le_mul hl (Nat.le_refl _)
 show (Str.join yI ((wd t).map wJ)).length<=_
 omega
inductive Im where
 | num (i:Int)
 | rul (t:RT)
inductive ZJ (n:Nat):Wd->List Im->List Im->Prop where
 | num {i:Int} {bs:List Im}:ZJ n (.num i) bs (.num i :: bs)
 | str {ns:List Int} {a d:Int} {bs:List Im}:ns.length=n->ZJ n .str ((ns++[a,d]).map .num++bs) (.rul (.str ns a d) :: bs)
 | stp {t:RT} {lo hi:Int} {bs:List Im}:ZJ n .stp (.num lo :: .num hi :: .rul t :: bs) (.rul (.stp t lo hi) :: bs)
 | prt {r:List Int} {x y:RT} {bs:List Im}:r.length=n + 1->ZJ n .prt (r.map .num++.rul x :: .rul y :: bs) (.rul (.prt r x y) :: bs)
noncomputable def Go (n:Nat):List Wd->List Im->List Im->Prop
 | [],a,b=>a=b
 | w :: ws,a,b=>∃ c,ZJ n w a c/\Go n ws c b
theorem ja {n:Nat}:∀ {u v:List Wd} {a b c:List Im},Go n u a b->Go n v b c->Go n (u++v) a c
 | [],_,_,_,_,h,g=>by cases (show _=_ from h); exact g
 | _ :: _,_,_,_,_,⟨d,h,k⟩,g=>⟨d,h,ja k g⟩
theorem Zz {n:Nat}:∀ (l:List Int) (bs:List Im),Go n (l.map Wd.num).reverse bs (l.map Im.num++bs)
 | [],_=>rfl
 | x :: l,bs=>by
  rw [List.map_cons,List.reverse_cons]
  exact ja (Zz l bs) ⟨_,.num,rfl⟩
theorem Z0 {n:Nat}:∀ (t:RT) (bs:List Im),uI n t->Go n (wd t).reverse bs (.rul t :: bs)
 | .str ns a d,bs,h=>by
  show Go n (Wd.str :: (ns++[a,d]).map Wd.num).reverse _ _
  rw [List.reverse_cons]
  exact ja (Zz _ bs) ⟨_,.str h.1,rfl⟩
 | .stp t lo hi,bs,h=>by
  show Go n (Wd.stp :: ([lo,hi].map Wd.num++wd t)).reverse _ _
  rw [List.reverse_cons,List.reverse_append]
  exact ja (ja (Z0 t bs h.1) (Zz [lo,hi] _)) ⟨_,.stp,rfl⟩
 | .prt r x y,bs,h=>by
  show Go n (Wd.prt :: (r.map Wd.num++(wd x++wd y))).reverse _ _
  rw [List.reverse_cons,List.reverse_append,List.reverse_append]
  exact ja (ja (ja (Z0 y bs h.2.2) (Z0 x _ h.2.1)) (Zz r _)) ⟨_,.prt h.1.1,rfl⟩
theorem XS {i:Int} {z:Str} (h:∃ c∈z.cps.toList,58<=c):sN i≠z:=by
 intro e
 obtain ⟨c,hz,hc⟩:=h
 have:c∈(sN i).cps.toList:=by rw [e]; exact hz
 rcases ui i c this with z | z <;> omega
theorem KU (i:Int):sN i≠wH:=XS ⟨115,by decide +kernel,by decide⟩
theorem KW (i:Int):sN i≠wI:=XS ⟨115,by decide +kernel,by decide⟩
theorem KY (i:Int):sN i≠wX:=XS ⟨112,by decide +kernel,by decide⟩
noncomputable def yq (room:List (List Int)):Str:=if room=[] then Str.ofString "all" else sR room
theorem Ua (room:List (List Int)):124∉(yq room).cps.toList:=by
 unfold yq
 split
 ·decide +kernel
 ·intro hc
  rcases qi hc with z | ⟨p,hp,z⟩
  ·rw [XJ] at z
   simp at z
  ·obtain ⟨r,_,rfl⟩:=List.mem_map.mp hp
   rcases XM r _ z with z | z <;> omega
noncomputable def wP (k:Bool):Str:=if k then Str.ofString "settles" else Str.ofString "comes"
noncomputable def v3 (k:Bool) (t:Int):Str:=Str.join yI [wP k,sN t]
noncomputable def jE (k:Bool) (t:Int) (ss rs:List (List Int)):Str:=Str.join yj [v3 k t,yq ss,yq rs]
theorem XT (k:Bool):124∉(wP k).cps.toList/\32∉(wP k).cps.toList/\(wP k).length<=7:=by cases k <;> decide +kernel
theorem KZ (k:Bool) (t:Int):124∉(v3 k t).cps.toList:=by
 intro hc
 rcases qi hc with z | ⟨p,hp,z⟩
 ·rw [qA] at z
  simp at z
 ·simp only [List.mem_cons,List.not_mem_nil,or_false] at hp
  rcases hp with e | e <;> rw [e] at z
  ·exact (XT k).1 z
  ·rcases ui t _ z with z | z <;> omega
theorem Ka (k:Bool) (t:Int):Txt.split (v3 k t) yI=[wP k,sN t]:=
 qj qA (by decide +kernel) (by nofun) λq hq hc=>by
  simp only [List.mem_cons,List.not_mem_nil,or_false] at hq
  rcases hq with e | e <;> rw [e] at hc
  ·exact (XT k).2.1 hc
  ·rcases ui t _ hc with z | z <;> omega
theorem Kb {y:Str} {c:Nat} {b r:List Nat} (hy:y.cps.toList=b++c :: r) (hb:c∉b) (hk:y.cps.all (· < 256)=true) {ps:List Str} (h0:ps≠[]) (hf:∀ q∈ps,c∉q.cps.toList):Txt.split (Str.join y ps) y=ps:=by
 have z:=UF hy hb hk h0 hf
 rw [show Txt.join y ps=Str.join y ps from StrLaws.glued_eq_join ..] at z
 exact z
theorem Kc (k:Bool) (t:Int) (ss rs:List (List Int)):Txt.split (jE k t ss rs) yj=[v3 k t,yq ss,yq rs]:=
 Kb KO (by decide) (by decide +kernel) (by nofun) λq hq=>by
  simp only [List.mem_cons,List.not_mem_nil,or_false] at hq
  rcases hq with e | e | e <;> rw [e]
  ·exact KZ k t
  ·exact Ua ss
  ·exact Ua rs
theorem Ub (k:Bool) (t:Int) (ss rs:List (List Int)):(wP k++yI++sN t)++(yj++yq ss++yj++yq rs)=jE k t ss rs:=by
 show _=v3 k t++yj++(yq ss++yj++yq rs)
 show _=(wP k++yI++sN t)++yj++(yq ss++yj++yq rs)
 refine ky ?_
 simp only [Zv,List.append_assoc]
noncomputable abbrev Ln:=Str × List Int
noncomputable def uk (l:Ln):List Str:=l.1 :: l.2.map sN
noncomputable def xh (l:Ln):Str:=Str.join yI (uk l)
noncomputable def xA (l:Ln):Prop:=32∉l.1.cps.toList/\10∉l.1.cps.toList/\l.1.length<=10/\1<=l.2.length/\l.2.length<=11/\∀ x∈l.2,Nm x
theorem Ke {l:Ln} (h:xA l):Txt.split (xh l) yI=uk l:=
 qj qA (by decide +kernel) (by nofun) λq hq hc=>by
  rcases List.mem_cons.mp hq with e | e
  ·rw [e] at hc; exact h.1 hc
  ·obtain ⟨i,_,rfl⟩:=List.mem_map.mp e
   rcases ui i _ hc with z | z <;> omega
theorem Kf {l:Ln} (h:xA l):10∉(xh l).cps.toList:=by
 intro hc
 rcases qi hc with z | ⟨p,hp,z⟩
 ·rw [qA] at z
  simp at z
 ·rcases List.mem_cons.mp hp with e | e
  ·rw [e] at z; exact h.2.1 z
  ·obtain ⟨i,_,rfl⟩:=List.mem_map.mp e
   rcases ui i _ z with z | z <;> omega
theorem ZK {l:Ln} (h:xA l):(xh l).length<=744:=by
 have:=ZB (y:=yI) (ps:=uk l) (B:=61) (λq hq=>by
  rcases List.mem_cons.mp hq with e | e
  ·rw [e]; have:=h.2.2.1; omega
  ·obtain ⟨i,hi,rfl⟩:=List.mem_map.mp e
   exact (jV (h.2.2.2.2.2 i hi)).2)
 have e:(uk l).length=l.2.length + 1:=by show (l.1 :: l.2.map sN).length=_; rw [List.length_cons,List.length_map]
 rw [e,show yI.length=1 by decide +kernel] at this
 have z:(l.2.length + 1) * (61 + 1)<=12 * 62:=Nat.mul_le_mul (by have:=h.2.2.2.2.1; omega) (Nat.le_refl _)
 show (Str.join yI (uk l)).length<=_
 omega
noncomputable def jF (ls:List Ln):Str:=Str.join qk (ls.map xh)
theorem Kg {ls:List Ln} (h0:ls≠[]) (h:∀ l∈ls,xA l):Txt.split (jF ls) qk=ls.map xh:=
 qj ZF (by decide +kernel) (ZA h0) λq hq=>by
  obtain ⟨l,hl,rfl⟩:=List.mem_map.mp hq
  exact Kf (h l hl)
theorem Kh {ls:List Ln} (h:∀ l∈ls,xA l) (h2:ls.length<=100):(jF ls).length<=74500:=by
 have:=ZB (y:=qk) (ps:=ls.map xh) (B:=744) (λq hq=>by
  obtain ⟨l,hl,rfl⟩:=List.mem_map.mp hq
  exact ZK (h l hl))
 rw [List.length_map,show qk.length=1 by decide +kernel] at this
 have z:ls.length * (744 + 1)<=100 * 745:=Nat.mul_le_mul h2 (Nat.le_refl _)
 show (Str.join qk (ls.map xh)).length<=_
 omega
theorem ql (w:Str) {ns:List Int} (h:ns≠[]):w++yI++sW ns=xh (w,ns):=UT yI w (ZA h)
noncomputable def wK (w:Str) (bs:List (List Ln)) (l:Ln):List (List Ln):=if l.1=w then bs++[[l]] else bs.dropLast++[bs.getLast?.getD []++[l]]
theorem Uc {w:Str} (acc:List (List Ln)):∀ (r b:List Ln),(∀ l∈r,l.1≠w)->r.foldl (wK w) (acc++[b])=acc++[b++r]
 | [],b,_=>by rw [List.append_nil]; rfl
 | l :: r,b,h=>by
  have e:wK w (acc++[b]) l=acc++[b++[l]]:=by
   unfold wK
   rw [if_neg (h l List.mem_cons_self),List.dropLast_concat,List.getLast?_concat]
   rfl
  show r.foldl (wK w) (wK w (acc++[b]) l)=_
  rw [e,Uc acc r (b++[l]) λx hx=>h x (List.mem_cons_of_mem _ hx),List.append_assoc]
  rfl
noncomputable def jG (w:Str) (b:List Ln):Prop:=∃ l r,b=l :: r/\l.1=w/\∀ x∈r,x.1≠w
theorem Ud {w:Str}:∀ (bs acc:List (List Ln)),(∀ b∈bs,jG w b)->bs.flatten.foldl (wK w) acc=acc++bs
 | [],acc,_=>by rw [List.append_nil]; rfl
 | b :: bs,acc,h=>by
  obtain ⟨l,r,rfl,hl,hr⟩:=h b List.mem_cons_self
  rw [List.flatten_cons,List.foldl_append]
  have e:(l :: r).foldl (wK w) acc=acc++[l :: r]:=by
   show r.foldl (wK w) (wK w acc l)=_
   rw [show wK w acc l=acc++[[l]] by unfold wK; rw [if_pos hl],Uc acc r [l] hr]
   rfl
  rw [e,Ud bs (acc++[l :: r]) λx hx=>h x (List.mem_cons_of_mem _ hx),List.append_assoc]
  rfl
end Sx
namespace K92
open PySem L2 Sh Sx
noncomputable def top (i:Nat):Stmt:=PySem.Challenge.pw_steadyhand_k92_rules_claims_things_as_te.main.body.getD i (.Pass ⟨0,0,0,0⟩)
structure Bl (mg:Str->Option Value):Prop where
 isinstance_:mg "isinstance" = none
 int_:mg "int" = none
 bool_:mg "bool" = none
 tuple_:mg "tuple" = none
 len_:mg "len" = none
 abs_:mg "abs" = none
 list_:mg "list" = none
 range_:mg "range" = none
 max_:mg "max" = none
 min_:mg "min" = none
 all_:mg "all" = none
 str_:mg "str" = none
 enumerate_:mg "enumerate" = none
 reversed_:mg "reversed" = none
 FIGURES_:∃ t,mg "FIGURES" = some (.str (Str.ofString "0123456789") t)
 MOST_FIGURES_:∃ t,mg "MOST_FIGURES" = some (.int 60 t)
 NO_ROWS_:∃ t,mg "NO_ROWS" = some (.str (Str.ofString "all") t)
 ROW_BREAK_:∃ t,mg "ROW_BREAK" = some (.str (Str.ofString ", ") t)
 PART_BREAK_:∃ t,mg "PART_BREAK" = some (.str (Str.ofString " | ") t)
 MOST_NUMBERS_:∃ t,mg "MOST_NUMBERS" = some (.int 3 t)
 MOST_PUSHES_:∃ t,mg "MOST_PUSHES" = some (.int 6 t)
 MOST_MODES_:∃ t,mg "MOST_MODES" = some (.int 40 t)
structure wY (K:PySem.W.Frag) (C:Addr):Prop where
 no:True
structure wb (K:PySem.W.Frag) (C:Addr):Prop where
 n_start:yw K C "start"
 n_rows:yw K C "rows"
 n_turn:yw K C "turn"
structure wf (K:PySem.W.Frag) (C:Addr):Prop where
 n_start:yw K C "start"
 n_goal:yw K C "goal"
 n_turns:yw K C "turns"
structure wg (K:PySem.W.Frag) (C:Addr):Prop where
 no:True
structure wj (K:PySem.W.Frag) (C:Addr):Prop where
 n_numbers:yw K C "numbers"
 n_add:yw K C "add"
 n_divisor:yw K C "divisor"
structure wk (K:PySem.W.Frag) (C:Addr):Prop where
 n_rule:yw K C "rule"
 n_low:yw K C "low"
 n_high:yw K C "high"
structure wm (K:PySem.W.Frag) (C:Addr):Prop where
 n_row:yw K C "row"
 n_rule:yw K C "rule"
 n_other:yw K C "other"
structure wn (K:PySem.W.Frag) (C:Addr):Prop where
 n_rows:yw K C "rows"
 n_nexts:yw K C "nexts"
 n_steer:yw K C "steer"
 n_push:yw K C "push"
 n_add:yw K C "add"
 n_divisor:yw K C "divisor"
structure wo (K:PySem.W.Frag) (C:Addr):Prop where
 n_many:yw K C "many"
 n_kept_pushes:yw K C "kept_pushes"
 n_kept_modes:yw K C "kept_modes"
structure wp (K:PySem.W.Frag) (R C1 C2 C3 D D1 D2:Addr):Prop where
 k21:PySem.W.kitOne K (.ref C2) (.ref C1)=some false
 k31:PySem.W.kitOne K (.ref C3) (.ref C1)=some false
 k12:PySem.W.kitOne K (.ref C1) (.ref C2)=some false
 k32:PySem.W.kitOne K (.ref C3) (.ref C2)=some false
 k13:PySem.W.kitOne K (.ref C1) (.ref C3)=some false
 t1:PySem.W.kitOne K (.ref C1) (.ref R)=some true
 t2:PySem.W.kitOne K (.ref C2) (.ref R)=some true
 t3:PySem.W.kitOne K (.ref C3) (.ref R)=some true
 iR:PySem.W.kitOne K (.type "int") (.ref R)=some false
 sc:PySem.W.kitOne K (.ref D1) (.ref D2)=some false
 cs:PySem.W.kitOne K (.ref D2) (.ref D1)=some false
 ts:PySem.W.kitOne K (.ref D1) (.ref D)=some true
noncomputable def tx:V->Str
 | .int i=>sN i
 | .str x=>x
 | _=>Str.ofString ""
noncomputable def v4 (v:V):Prop:=(∃ i:Int,v=.int i/\Nm i)\/∃ x:Str,v=.str x/\x.length<=100000
theorem Ue {v:V} (h:v4 v):(tx v).length<=100000:=by
 rcases h with ⟨i,rfl,h⟩ | ⟨x,rfl,h⟩
 ·have:=(jV h).2
  show (sN i).length<=_
  omega
 ·exact h
theorem ul (r:List Int):(r.map V.int).map tx=r.map sN:=by rw [List.map_map]; rfl
theorem jH:16777216<=sizeLine:=by decide
theorem uJ:yI.length=1:=by decide +kernel
theorem qB:jX.length=2:=by decide +kernel
theorem xY {α:Type} {l:List α} {i:Nat} {x:α} (h:l[i]? = some x):l.take (i + 1)=l.take i++[x]:=by rw [List.take_add_one,h]; rfl
noncomputable def v5 (K:PySem.W.Frag):Sp:=λvs H Q _=>∃ (a:Addr) (xs:List V),vs=[.ref a]/\Zm K H a xs/\xs.length<=12/\(∀ x∈xs,v4 x)/\∀ H',zC H H'->Q (.str (Str.join yI (xs.map tx))) H'
noncomputable def vY (n:Nat) (room:List (List Int)):Prop:=room.length<=6/\n<=4/\∀ r∈room,r.length=n/\∀ x∈r,Nm x
noncomputable def qm (K:PySem.W.Frag):Sp:=λvs H Q _=>∃ (a:Addr) (rv:List V) (room:List (List Int)) (n:Nat),vs=[.ref a]/\zE K H a rv/\zf H rv room/\vY n room/\∀ H',zC H H'->Q (.str (yq room)) H'
theorem jb {n:Nat} {r:List Int} (h1:r.length=n) (h2:n<=4) (h:∀ x∈r,Nm x):(sW r).length<=248:=by
 have:=ZB (y:=yI) (ps:=r.map sN) (B:=61) (λq hq=>by
  obtain ⟨i,hi,rfl⟩:=List.mem_map.mp hq
  exact (jV (h i hi)).2)
 rw [List.length_map,uJ] at this
 show (Str.join yI (r.map sN)).length<=_
 have z:r.length * (61 + 1)<=4 * 62:=Nat.mul_le_mul (by omega) (Nat.le_refl _)
 omega
theorem Uf {n:Nat} {room:List (List Int)} (h:vY n room):(sR room).length<=1500:=by
 have:=ZB (y:=jX) (ps:=room.map sW) (B:=248) (λq hq=>by
  obtain ⟨i,hi,rfl⟩:=List.mem_map.mp hq
  exact jb (h.2.2 i hi).1 h.2.1 (h.2.2 i hi).2)
 rw [List.length_map,qB] at this
 show (Str.join jX (room.map sW)).length<=_
 have z:room.length * (248 + 2)<=6 * 250:=Nat.mul_le_mul h.1 (Nat.le_refl _)
 omega
noncomputable def qo:Sp:=λvs H Q _=>∃ z y:Str,vs=[.str z,.str y]/\(y.length == 0)=false/\z.length<=100000/\∀ p H',zC H H'->H p=none->H' p=some (.lst ((Txt.split z y).map V.str))->Q (.ref p) H'
noncomputable def ZL:Sp:=λvs H Q _=>∃ i:Int,vs=[.str (sN i)]/\Nm i/\∀ H',zC H H'->Q (.int i) H'
noncomputable def XU:Sp:=λvs H Q _=>∃ i:Int,vs=[.str (sN i)]/\0<=i/\Nm i/\∀ H',zC H H'->Q (.bl true) H'
noncomputable def Z1 (K:PySem.W.Frag):Sp:=λvs H Q _=>∃ (a:Addr) (ns:List Int),vs=[.ref a,.int ((ns.length:Nat):Int)]/\zE K H a ((ns.map sN).map V.str)/\ns.length<=12/\(∀ x∈ns,Nm x)/\∀ p H',zC H H'->H p=none->H' p=some (.lst (ns.map V.int))->Q (.ref p) H'
noncomputable def XV:Sp:=λvs H Q _=>∃ (room:List (List Int)) (n:Nat),vs=[.str (sR room),.int (n:Int)]/\1<=n/\room≠[]/\vY n room/\∀ l lv H',zC H H'->H l=none->H' l=some (.lst lv)->zf H' lv room->Q (.ref l) H'
noncomputable def XW:Sp:=λvs H Q _=>∃ (room:List (List Int)) (n:Nat),vs=[.str (yq room),.int (n:Int)]/\vY (n + 1) room/\∀ l lv H',zC H H'->H l=none->H' l=some (.lst lv)->zf H' lv room->Q (.ref l) H'
theorem Ki (xs:List V) (h:1<=xs.length):zk xs (some 1) none=xs.drop 1:=by
 have e1:HT.sIx xs.length 0 (some 1)=min 1 xs.length:=HT.sIx_nat _ _ 1
 have e2:HT.sIx xs.length xs.length none=xs.length:=rfl
 unfold zk
 rw [e1,e2,show min 1 xs.length=1 by omega,List.take_of_length_le (by rw [List.length_drop]; omega)]
theorem Z2 {H:Hp} {vs:List V} {ks:List (List Int)} {t:Addr} {k:List Int} (h:H t=some (.tup (k.map V.int))) (z:zf H vs ks):zf H (vs++[.ref t]) (ks++[k]):=by
 induction z with
 | nil=>exact .cons ⟨t,rfl,h⟩ .nil
 | cons a _ ih=>exact .cons a ih
theorem Kj (i:Nat):(List.replicate i true).all id=true:=List.all_eq_true.mpr λx hx=>by rw [(List.mem_replicate.mp hx).2]; rfl
theorem Kk (x:Str):x.cps.size=x.length:=rfl
theorem Kl {i:Int} (h:0<=i) (n:Nm i):1<=(sN i).length/\(sN i).length<=60:=by
 have a:=XG i.natAbs
 have b:=Zu n
 rw [<- y8,uH h]
 exact ⟨a,b⟩
noncomputable def wq (s r:V) (t:Int):List (Str × V):=[("start",s),("rows",r),("turn",.int t)]
noncomputable def wr (s g:V) (t:Int):List (Str × V):=[("start",s),("goal",g),("turns",.int t)]
theorem Km (s r:V) (t:Int):zB "turn" (.int t) (zB "rows" r (zB "start" s []))=wq s r t:=rfl
theorem Kn (s r:V) (t:Int):zB "turns" (.int t) (zB "goal" r (zB "start" s []))=wr s r t:=rfl
noncomputable def Ko (CS CC:Addr) (k:Bool) (dx:Addr) (s r:V) (t:Int):HO:=if k then .ins CS dx (wq s r t) else .ins CC dx (wr s r t)
structure Ug (CS CC:Addr) (H:Hp) (k:Bool) (v:V) (ss rs:List (List Int)) (t:Int) (o dx sa ra:Addr) (sv rv:List V):Prop where
 e:v=.ref o
 ins:H o=some (Ko CS CC k dx (.ref sa) (.ref ra) t)
 hs:H sa=some (.lst sv)
 hsv:zf H sv ss
 hr:H ra=some (.lst rv)
 hrv:zf H rv rs
noncomputable def jc (C:Addr) (F:V->V->Int->List (Str × V)):Sp:=λvs H Q _=>∃ (o dx sa ra:Addr) (sv rv:List V) (ss rs:List (List Int)) (t:Int),vs=[.ref o,.ref sa,.ref ra,.int t]/\H o=some (.ins C dx [])/\H sa=some (.lst sv)/\zf H sv ss/\H ra=some (.lst rv)/\zf H rv rs/\ss.length<=900/\(∀ r∈ss,r.length<=900)/\rs.length<=900/\(∀ r∈rs,r.length<=900)∧
 ∀ sb rb sw rw H',zr o H H'->H' o=some (.ins C dx (F (.ref sb) (.ref rb) t))->H' sb=some (.lst sw)->zf H' sw ss->H' rb=some (.lst rw)->zf H' rw rs->Q .non H'
section
variable {P:Program} {w:World} {K:PySem.W.Frag} {mg:Str->Option Value} {base:Heap}
noncomputable abbrev qp:Stmt:=top 7
theorem Kp:zq ["thing"] ["thing"] (zL qp):=.a
noncomputable abbrev vZ:Stmt:=top 11
theorem XX:zq ["value","depth"] ["value","depth"] (zL vZ):=.a
noncomputable abbrev qq:Stmt:=top 9
theorem Kq:zq ["value","count"] ["value","count"] (zL qq):=.a
noncomputable abbrev qC:Stmt:=top 10
theorem Kr:zq ["value","tall","wide"] ["value","tall","wide"] (zL qC):=.a
noncomputable abbrev qr:Stmt:=top 17
theorem Ks:zq ["value","many"] ["value","many"] (zL qr):=.a
noncomputable abbrev qD:Stmt:=top 18
theorem Kt:zq ["value","many"] ["value","many"] (zL qD):=.a
noncomputable abbrev qt:Stmt:=top 31
theorem Ku:zq ["value"] ["value"] (zL qt):=.a
noncomputable abbrev qu:Stmt:=uw (top 28) 0
theorem Kv:zq ["self","rows","nexts","steer","push","add","divisor"] ["self","rows","nexts","steer","push","add","divisor"] (zL qu):=.a
noncomputable abbrev qw:Stmt:=top 32
theorem Kw:zq ["value","many","wide"] ["value","many","wide"] (zL qw):=.a
noncomputable abbrev qE:Stmt:=top 30
theorem Kx:zq ["many","pushes","modes"] ["many","pushes","modes"] (zL qE):=.a
noncomputable abbrev qx:Stmt:=uw (top 29) 0
theorem Ky:zq ["self","many","pushes","modes"] ["self","many","pushes","modes"] (zL qx):=.a
noncomputable abbrev qy:Stmt:=uw (top 29) 1
theorem Kz:zq ["self"] ["self"] (zL qy):=.a
noncomputable abbrev qz:Stmt:=uw (top 29) 2
theorem K0:zq ["self"] ["self"] (zL qz):=.a
noncomputable abbrev q4:Stmt:=uw (top 21) 0
theorem K2:zq ["self","numbers","add","divisor"] ["self","numbers","add","divisor"] (zL q4):=.a
noncomputable abbrev q5:Stmt:=uw (top 22) 0
theorem K3:zq ["self","rule","low","high"] ["self","rule","low","high"] (zL q5):=.a
noncomputable abbrev q9:Stmt:=uw (top 23) 0
theorem K4:zq ["self","row","rule","other"] ["self","row","rule","other"] (zL q9):=.a
noncomputable abbrev gA:Stmt:=uw (top 14) 0
theorem K5:zq ["self","start","rows","turn"] ["self","start","rows","turn"] (zL gA):=.a
noncomputable abbrev gB:Stmt:=uw (top 15) 0
theorem K6:zq ["self","start","goal","turns"] ["self","start","goal","turns"] (zL gB):=.a
variable {aClaim aSettles aComes aRule ab ae ac af au:Addr} (TClaim:zF K mg "Claim" aClaim) (AClaim:wY K aClaim) (TSettles:zF K mg "Settles" aSettles) (ASettles:wb K aSettles) (TComes:zF K mg "Comes" aComes) (AComes:wf K aComes) (TRule:zF K mg "Rule" aRule) (ARule:wg K aRule) (aj:zF K mg "Straight" ab) (ap:wj K ab) (ak:zF K mg "Stopped" ae) (aq:wk K ae) (ai:zF K mg "Parted" ac) (ao:wm K ac) (ag:zF K mg "Mode" af) (ah:wn K af) (am:zF K mg "Thing" au) (ar:wo K au) (Y:wp K aRule ab ae ac aClaim aSettles aComes)
include TClaim AClaim TSettles ASettles TComes AComes TRule ARule aj ap ak aq ai ao ag ah am ar Y
theorem K7 {k:Nat} {f:Addr} {fd:FuncData} (F:yC K "is_whole" "is_whole" qp f fd) (B:Bl mg):zJ P w K mg base zh (k + 1) f fd ["thing"] jS:=by
 refine F.ok Kp (λvs H Q E h=>?_) (λcdv A outer s H vs Q E hr h=>?_)
 ·obtain ⟨_,rfl,_⟩:=h
  rfl
 obtain ⟨i,rfl,q⟩:=h
 refine ⟨_,(zO (zY (ve (zm wT rfl B.isinstance_ yo (zA (L2.pv 0) (zA (wQ (v:=.ty "int") (u:=.type "int") rfl B.int_ Ws rfl) zD))) (uZ (WE (zm wT rfl B.isinstance_ yo (zA (L2.pv 0) (zA (wQ (v:=.ty "bool") (u:=.type "bool") rfl B.bool_ QU rfl) zD)))))))),?_⟩
 try dsimp only [zQ,Cx.nox,Cx.wish]
 refine ⟨_,rfl,_,_,_,_,rfl,.int _,QV _,_,rfl,yd ?_⟩
 exact ⟨_,rfl,_,_,_,_,rfl,.int _,QW _,_,rfl,q⟩
theorem K8 {k:Nat} {f:Addr} {fd:FuncData} {dv:Value} (F:xQ K "copied" "copied" vZ f fd dv) (B:Bl mg) (av:wN P w K mg base "copied" ["value","depth"] k Y8 (.int 5)):zJ P w K mg base zh (k + 1) f fd ["value","depth"] u8:=by
 refine F.ok XX (λvs H Q E h=>?_) (λcdv A outer s H vs Q E hr h=>?_)
 ·obtain ⟨_,_,rfl,_⟩:=h
  rfl
 refine ⟨_,(zM (zo (yK xB (L2.pv 1) zH (zp _)) (zO (zY (L2.pv 0))) yA)
  (zM (zo (yX (zm wT rfl B.isinstance_ yo (zA (L2.pv 0) (zA (wQ (v:=.ty "list") (u:=.type "list") rfl B.list_ wM rfl) zD)))) (zO (zY (yu (own:=["part"]) (caps:=[(1,"depth")]) (xr (S:=zL vZ) (N:=["value","depth"]) rfl (by decide +kernel) rfl ⟨_,rfl⟩ rfl (by decide +kernel) (by decide +kernel)) rfl (yU (L2.pv 0)) (λ_ _ _ _=>zw (i:=0) (show (["part","depth"]:List Str).Nodup by decide +kernel) rfl (Or.inl rfl)) (λ_ _ _ _=>(zR av.fn hr rfl (zA (L2.pv 0) (zA (zP vS (L2.pv 1) zH) zD))))))) yA)
  (zM (zo (yX (zm wT rfl B.isinstance_ yo (zA (L2.pv 0) (zA (wQ (v:=.ty "tuple") (u:=.type "tuple") rfl B.tuple_ ww rfl) zD)))) (zO (zY (yz ue rfl B.tuple_ ww (zA (yu (own:=["part"]) (caps:=[(1,"depth")]) (xr (S:=zL vZ) (N:=["value","depth"]) rfl (by decide +kernel) rfl ⟨_,rfl⟩ rfl (by decide +kernel) (by decide +kernel)) rfl (qU (L2.pv 0)) (λ_ _ _ _=>zw (i:=0) (show (["part","depth"]:List Str).Nodup by decide +kernel) rfl (Or.inl rfl)) (λ_ _ _ _=>(zR av.fn hr rfl (zA (L2.pv 0) (zA (zP vS (L2.pv 1) zH) zD))))) zD)))) yA)
  (zO (zY (L2.pv 0)))))),?_⟩
 try dsimp only [zQ,Cx.nox,Cx.wish]
 obtain ⟨i,d,rfl,q⟩:=h
 refine ⟨_,rfl,rfl,_,rfl,?_⟩
 by_cases d0:d=0
 ·exact xG (jP d0) ⟨_,rfl,q⟩
 refine yH (uf d0) ?_
 refine ⟨_,rfl,_,_,_,_,rfl,.int i,kh K .int,_,rfl,zX ?_⟩
 refine ⟨_,rfl,_,_,_,_,rfl,.int i,Y7 K .int,_,rfl,zX ?_⟩
 exact ⟨_,rfl,q⟩
theorem K9 {k:Nat} {f:Addr} {fd:FuncData} {dv:Value} (F:xQ K "copied" "copied" vZ f fd dv) (B:Bl mg) (av:wN P w K mg base "copied" ["value","depth"] k u8 (.int 5)):zJ P w K mg base zh (k + 1) f fd ["value","depth"] jA:=by
 refine F.ok XX (λvs H Q E h=>?_) (λcdv A outer s H vs Q E hr h=>?_)
 ·obtain ⟨i,d,rfl,_⟩ | ⟨a,ns,d,rfl,_⟩ | ⟨a,ns,d,rfl,_⟩:=h
  all_goals rfl
 refine ⟨_,(zM (zo (yK xB (L2.pv 1) zH (zp _)) (zO (zY (L2.pv 0))) yA)
  (zM (zo (yX (zm wT rfl B.isinstance_ yo (zA (L2.pv 0) (zA (wQ (v:=.ty "list") (u:=.type "list") rfl B.list_ wM rfl) zD)))) (zO (zY (yu (own:=["part"]) (caps:=[(1,"depth")]) (xr (S:=zL vZ) (N:=["value","depth"]) rfl (by decide +kernel) rfl ⟨_,rfl⟩ rfl (by decide +kernel) (by decide +kernel)) rfl (yU (L2.pv 0)) (λ_ _ _ _=>zw (i:=0) (show (["part","depth"]:List Str).Nodup by decide +kernel) rfl (Or.inl rfl)) (λ_ _ _ _=>(zR av.fn hr rfl (zA (L2.pv 0) (zA (zP vS (L2.pv 1) zH) zD))))))) yA)
  (zM (zo (yX (zm wT rfl B.isinstance_ yo (zA (L2.pv 0) (zA (wQ (v:=.ty "tuple") (u:=.type "tuple") rfl B.tuple_ ww rfl) zD)))) (zO (zY (yz ue rfl B.tuple_ ww (zA (yu (own:=["part"]) (caps:=[(1,"depth")]) (xr (S:=zL vZ) (N:=["value","depth"]) rfl (by decide +kernel) rfl ⟨_,rfl⟩ rfl (by decide +kernel) (by decide +kernel)) rfl (qU (L2.pv 0)) (λ_ _ _ _=>zw (i:=0) (show (["part","depth"]:List Str).Nodup by decide +kernel) rfl (Or.inl rfl)) (λ_ _ _ _=>(zR av.fn hr rfl (zA (L2.pv 0) (zA (zP vS (L2.pv 1) zH) zD))))) zD)))) yA)
  (zO (zY (L2.pv 0)))))),?_⟩
 try dsimp only [zQ,Cx.nox,Cx.wish]
 rcases h with h | h | h
 ·obtain ⟨i,d,rfl,q⟩:=h
  refine ⟨_,rfl,rfl,_,rfl,?_⟩
  by_cases d0:d=0
  ·exact xG (jP d0) ⟨_,rfl,q⟩
  refine yH (uf d0) ?_
  refine ⟨_,rfl,_,_,_,_,rfl,.int i,kh K .int,_,rfl,zX ?_⟩
  refine ⟨_,rfl,_,_,_,_,rfl,.int i,Y7 K .int,_,rfl,zX ?_⟩
  exact ⟨_,rfl,q⟩
 ·obtain ⟨a,ns,d,rfl,d1,ha,few,q⟩:=h
  refine ⟨_,rfl,rfl,_,rfl,yH (uf (by omega)) ?_⟩
  refine ⟨_,rfl,_,_,_,_,rfl,.lst ha,u7 K,_,rfl,yd ?_⟩
  refine ⟨_,rfl,a,rfl,⟨_,zE.of ha⟩,yi (K:=K) (a:=a) (xs:=ns.map V.int) (λi ys σ H'=>ys=(ns.take i).map V.int/\(∃ o,σ=[o,some (.int d)])/\H'=H)
   ⟨rfl,⟨none,rfl⟩,rfl⟩ (λi ys σ H' hi ⟨e1,_,e3⟩=>⟨by rw [e3]; exact zE.of ha,by rw [e1,List.length_map,List.length_take]; exact Nat.min_le_left _ _⟩) (by rw [List.length_map]; exact Nat.le_of_lt (yn (by omega))) ?_ ?_⟩
  ·rintro i x ys σ H' hi ⟨rfl,⟨o,rfl⟩,rfl⟩
   obtain ⟨z,hz,rfl⟩:=vU hi
   refine ⟨_,rfl,_,rfl,_,_,rfl,rfl,⟨z,d - 1,rfl,?_,⟨_,rfl⟩,rfl⟩⟩
   rw [jz hz,List.map_append]
   rfl
  rintro ys σ H' ⟨rfl,⟨o,rfl⟩,rfl⟩ l hl
  refine q l _ (zK hl _) hl (zG.trans ?_)
  rw [List.length_map,List.take_length]
 ·obtain ⟨a,ns,d,rfl,d1,ha,few,q⟩:=h
  refine ⟨_,rfl,rfl,_,rfl,yH (uf (by omega)) ?_⟩
  refine ⟨_,rfl,_,_,_,_,rfl,.tup ha,kh K .tup,_,rfl,zX ?_⟩
  refine ⟨_,rfl,_,_,_,_,rfl,.tup ha,kY K,_,rfl,yd ?_⟩
  refine ⟨_,rfl,a,rfl,⟨_,zW.of ha⟩,kZ (K:=K) (a:=a) (xs:=ns.map V.int) (λi ys σ H'=>ys=(ns.take i).map V.int/\(∃ o,σ=[o,some (.int d)])/\H'=H)
   ⟨rfl,⟨none,rfl⟩,rfl⟩ (λi ys σ H' hi ⟨e1,_,e3⟩=>⟨by rw [e3]; exact zW.of ha,by rw [e1,List.length_map,List.length_take]; exact Nat.min_le_left _ _⟩) (by rw [List.length_map]; exact Nat.le_of_lt (yn (by omega))) ?_ ?_⟩
  ·rintro i x ys σ H' hi ⟨rfl,⟨o,rfl⟩,rfl⟩
   obtain ⟨z,hz,rfl⟩:=vU hi
   refine ⟨_,rfl,_,rfl,_,_,rfl,rfl,⟨z,d - 1,rfl,?_,⟨_,rfl⟩,rfl⟩⟩
   rw [jz hz,List.map_append]
   rfl
  rintro ys σ H' ⟨rfl,⟨o,rfl⟩,rfl⟩ l hl
  refine ⟨l,_,rfl,.inl ⟨zE.of zG,λt ht=>?_⟩⟩
  refine q t _ ((zK hl _).trans (zK ht _)) ((zK hl _).free ht) (zG.trans ?_)
  rw [List.length_map,List.take_length]
theorem zH7 {k:Nat} {f:Addr} {fd:FuncData} {dv:Value} (F:xQ K "copied" "copied" vZ f fd dv) (B:Bl mg) (av:wN P w K mg base "copied" ["value","depth"] k jA (.int 5)):zJ P w K mg base zh (k + 1) f fd ["value","depth"] vM:=by
 refine F.ok XX (λvs H Q E h=>?_) (λcdv A outer s H vs Q E hr h=>?_)
 ·obtain (⟨i,d,rfl,_⟩ | ⟨a,ns,d,rfl,_⟩ | ⟨a,ns,d,rfl,_⟩) | ⟨a,rv,rows,d,rfl,_⟩ | ⟨a,tv,tab,d,rfl,_⟩:=h
  all_goals rfl
 refine ⟨_,(zM (zo (yK xB (L2.pv 1) zH (zp _)) (zO (zY (L2.pv 0))) yA)
  (zM (zo (yX (zm wT rfl B.isinstance_ yo (zA (L2.pv 0) (zA (wQ (v:=.ty "list") (u:=.type "list") rfl B.list_ wM rfl) zD)))) (zO (zY (yu (own:=["part"]) (caps:=[(1,"depth")]) (xr (S:=zL vZ) (N:=["value","depth"]) rfl (by decide +kernel) rfl ⟨_,rfl⟩ rfl (by decide +kernel) (by decide +kernel)) rfl (yU (L2.pv 0)) (λ_ _ _ _=>zw (i:=0) (show (["part","depth"]:List Str).Nodup by decide +kernel) rfl (Or.inl rfl)) (λ_ _ _ _=>(zR av.fn hr rfl (zA (L2.pv 0) (zA (zP vS (L2.pv 1) zH) zD))))))) yA)
  (zM (zo (yX (zm wT rfl B.isinstance_ yo (zA (L2.pv 0) (zA (wQ (v:=.ty "tuple") (u:=.type "tuple") rfl B.tuple_ ww rfl) zD)))) (zO (zY (yz ue rfl B.tuple_ ww (zA (yu (own:=["part"]) (caps:=[(1,"depth")]) (xr (S:=zL vZ) (N:=["value","depth"]) rfl (by decide +kernel) rfl ⟨_,rfl⟩ rfl (by decide +kernel) (by decide +kernel)) rfl (qU (L2.pv 0)) (λ_ _ _ _=>zw (i:=0) (show (["part","depth"]:List Str).Nodup by decide +kernel) rfl (Or.inl rfl)) (λ_ _ _ _=>(zR av.fn hr rfl (zA (L2.pv 0) (zA (zP vS (L2.pv 1) zH) zD))))) zD)))) yA)
  (zO (zY (L2.pv 0)))))),?_⟩
 try dsimp only [zQ,Cx.nox,Cx.wish]
 rcases h with (h | h | h) | h | h
 ·obtain ⟨i,d,rfl,q⟩:=h
  refine ⟨_,rfl,rfl,_,rfl,?_⟩
  by_cases d0:d=0
  ·exact xG (jP d0) ⟨_,rfl,q⟩
  refine yH (uf d0) ?_
  refine ⟨_,rfl,_,_,_,_,rfl,.int i,kh K .int,_,rfl,zX ?_⟩
  refine ⟨_,rfl,_,_,_,_,rfl,.int i,Y7 K .int,_,rfl,zX ?_⟩
  exact ⟨_,rfl,q⟩
 ·obtain ⟨a,ns,d,rfl,d1,ha,few,q⟩:=h
  refine ⟨_,rfl,rfl,_,rfl,yH (uf (by omega)) ?_⟩
  refine ⟨_,rfl,_,_,_,_,rfl,.lst ha,u7 K,_,rfl,yd ?_⟩
  refine ⟨_,rfl,a,rfl,⟨_,zE.of ha⟩,yi (K:=K) (a:=a) (xs:=ns.map V.int) (λi ys σ H'=>ys=(ns.take i).map V.int/\(∃ o,σ=[o,some (.int d)])/\H'=H)
   ⟨rfl,⟨none,rfl⟩,rfl⟩ (λi ys σ H' hi ⟨e1,_,e3⟩=>⟨by rw [e3]; exact zE.of ha,by rw [e1,List.length_map,List.length_take]; exact Nat.min_le_left _ _⟩) (by rw [List.length_map]; exact Nat.le_of_lt (yn (by omega))) ?_ ?_⟩
  ·rintro i x ys σ H' hi ⟨rfl,⟨o,rfl⟩,rfl⟩
   obtain ⟨z,hz,rfl⟩:=vU hi
   refine ⟨_,rfl,_,rfl,_,_,rfl,rfl,.inl ⟨z,d - 1,rfl,?_,⟨_,rfl⟩,rfl⟩⟩
   rw [jz hz,List.map_append]
   rfl
  rintro ys σ H' ⟨rfl,⟨o,rfl⟩,rfl⟩ l hl
  refine q l _ (zK hl _) hl (zG.trans ?_)
  rw [List.length_map,List.take_length]
 ·obtain ⟨a,ns,d,rfl,d1,ha,few,q⟩:=h
  refine ⟨_,rfl,rfl,_,rfl,yH (uf (by omega)) ?_⟩
  refine ⟨_,rfl,_,_,_,_,rfl,.tup ha,kh K .tup,_,rfl,zX ?_⟩
  refine ⟨_,rfl,_,_,_,_,rfl,.tup ha,kY K,_,rfl,yd ?_⟩
  refine ⟨_,rfl,a,rfl,⟨_,zW.of ha⟩,kZ (K:=K) (a:=a) (xs:=ns.map V.int) (λi ys σ H'=>ys=(ns.take i).map V.int/\(∃ o,σ=[o,some (.int d)])/\H'=H)
   ⟨rfl,⟨none,rfl⟩,rfl⟩ (λi ys σ H' hi ⟨e1,_,e3⟩=>⟨by rw [e3]; exact zW.of ha,by rw [e1,List.length_map,List.length_take]; exact Nat.min_le_left _ _⟩) (by rw [List.length_map]; exact Nat.le_of_lt (yn (by omega))) ?_ ?_⟩
  ·rintro i x ys σ H' hi ⟨rfl,⟨o,rfl⟩,rfl⟩
   obtain ⟨z,hz,rfl⟩:=vU hi
   refine ⟨_,rfl,_,rfl,_,_,rfl,rfl,.inl ⟨z,d - 1,rfl,?_,⟨_,rfl⟩,rfl⟩⟩
   rw [jz hz,List.map_append]
   rfl
  rintro ys σ H' ⟨rfl,⟨o,rfl⟩,rfl⟩ l hl
  refine ⟨l,_,rfl,.inl ⟨zE.of zG,λt ht=>?_⟩⟩
  refine q t _ ((zK hl _).trans (zK ht _)) ((zK hl _).free ht) (zG.trans ?_)
  rw [List.length_map,List.take_length]
 ·obtain ⟨a,rv,rows,d,rfl,d1,ha,hrv,few,rl,q⟩:=h
  have lr:rv.length=rows.length:=Paired.length hrv
  refine ⟨_,rfl,rfl,_,rfl,yH (uf (by omega)) ?_⟩
  refine ⟨_,rfl,_,_,_,_,rfl,.lst ha,u7 K,_,rfl,yd ?_⟩
  refine ⟨_,rfl,a,rfl,⟨_,zE.of ha⟩,yi (K:=K) (a:=a) (xs:=rv) (λi ys σ H'=>zf H' ys (rows.take i)/\(∃ o,σ=[o,some (.int d)])/\zC H H')
   ⟨.nil,⟨none,rfl⟩,zC.refl _⟩ (λi ys σ H' hi ⟨e1,_,sm⟩=>⟨zE.of (sm _ _ ha),by have:=Paired.length e1; rw [List.length_take] at this; omega⟩) (Nat.le_of_lt (yn (by omega))) ?_ ?_⟩
  ·rintro i x ys σ H' hi ⟨hys,⟨o,rfl⟩,sm⟩
   obtain ⟨r,hr',b,rfl,eb⟩:=yp hrv hi
   refine ⟨_,rfl,_,rfl,_,_,rfl,rfl,.inr (.inr ⟨b,r,d - 1,rfl,(by omega),sm _ _ eb,rl r (List.mem_of_getElem? hr'),λt H2 s2 _ et=>?_⟩)⟩
   refine ⟨?_,⟨_,rfl⟩,sm.trans s2⟩
   rw [jz hr']
   exact vT (R:=λv (k:List Int)=>Tp H2 v (k.map V.int)) ⟨t,rfl,et⟩ (zf.same s2 hys)
  rintro ys σ H' ⟨hys,⟨o,rfl⟩,sm⟩ l hl
  rw [lr,List.take_length] at hys
  exact q l ys _ (sm.trans (zK hl _)) (sm.free hl) zG (zf.same (zK hl _) hys)
 ·obtain ⟨a,tv,tab,d,rfl,d1,ha,htv,few,rl,q⟩:=h
  have lr:tv.length=tab.length:=Paired.length htv
  refine ⟨_,rfl,rfl,_,rfl,yH (uf (by omega)) ?_⟩
  refine ⟨_,rfl,_,_,_,_,rfl,.lst ha,u7 K,_,rfl,yd ?_⟩
  refine ⟨_,rfl,a,rfl,⟨_,zE.of ha⟩,yi (K:=K) (a:=a) (xs:=tv) (λi ys σ H'=>Paired (xg H H') ys (tab.take i)/\(∃ o,σ=[o,some (.int d)])/\zC H H')
   ⟨.nil,⟨none,rfl⟩,zC.refl _⟩ (λi ys σ H' hi ⟨e1,_,sm⟩=>⟨zE.of (sm _ _ ha),by have:=Paired.length e1; rw [List.length_take] at this; omega⟩) (Nat.le_of_lt (yn (by omega))) ?_ ?_⟩
  ·rintro i x ys σ H' hi ⟨hys,⟨o,rfl⟩,sm⟩
   obtain ⟨r,hr',b,rfl,eb⟩:=yp htv hi
   refine ⟨_,rfl,_,rfl,_,_,rfl,rfl,.inr (.inl ⟨b,r,d - 1,rfl,(by omega),sm _ _ eb,rl r (List.mem_of_getElem? hr'),λt H2 s2 tn et=>?_⟩)⟩
   refine ⟨?_,⟨_,rfl⟩,sm.trans s2⟩
   rw [jz hr']
   exact vT (R:=xg H H2) ⟨t,rfl,sm.free tn,et⟩ (Paired.mapP hys λ_ _ ⟨c,e,n,k⟩=>⟨c,e,n,s2 _ _ k⟩)
  rintro ys σ H' ⟨hys,⟨o,rfl⟩,sm⟩ l hl
  rw [lr,List.take_length] at hys
  have z:=zK hl (HO.lst ys)
  exact q l ys _ (sm.trans z) (sm.free hl) zG (Paired.mapP hys λ_ _ ⟨c,e,n,k⟩=>⟨c,e,n,z _ _ k⟩)
theorem zGv {k:Nat} {f:Addr} {fd:FuncData} (F:yC K "is_numbers" "is_numbers" qq f fd) (B:Bl mg) (ay:Fn P w K mg base "is_whole" ["thing"] k jS):zJ P w K mg base zh (k + 1) f fd ["value","count"] ki:=by
 refine F.ok Kq (λvs H Q E h=>?_) (λcdv A outer s H vs Q E hr h=>?_)
 ·obtain ⟨_,_,rfl,_⟩:=h
  rfl
 obtain ⟨a,ns,rfl,ha,few,q⟩:=h
 refine ⟨_,(zO (zY (ve (zm wT rfl B.isinstance_ yo (zA (L2.pv 0) (zA (wQ (v:=.ty "list") (u:=.type "list") rfl B.list_ wM rfl) zD))) (ve (ub xB (zm xq rfl B.len_ xc (zA (L2.pv 0) zD)) (L2.pv 1) (zp _)) (uZ (zm (ju rfl) rfl B.all_ jw (zA (yu (own:=["number"]) (caps:=[]) (xk rfl) rfl (yU (L2.pv 0)) (λ_ _ _ _=>zw (i:=0) (show (["number"]:List Str).Nodup by decide +kernel) rfl (Or.inl rfl)) (λ_ _ _ _=>(zR ay hr rfl (zA (L2.pv 0) zD)))) zD))))))),?_⟩
 try dsimp only [zQ,Cx.nox,Cx.wish]
 refine ⟨_,rfl,_,_,_,_,rfl,.lst ha,u7 K,_,rfl,yd ?_⟩
 refine ⟨_,rfl,a,_,rfl,.inl (zE.of ha),_,rfl,rfl,_,rfl,xG (jP (by rw [List.length_map])) ?_⟩
 refine ⟨_,rfl,a,rfl,⟨_,zE.of ha⟩,yi (K:=K) (a:=a) (xs:=ns.map V.int) (λi ys σ H'=>ys=(List.replicate i true).map V.bl/\(∃ o,σ=[o])/\H'=H)
  ⟨rfl,⟨none,rfl⟩,rfl⟩ (λi ys σ H' hi ⟨e1,_,e3⟩=>⟨by rw [e3]; exact zE.of ha,by rw [e1,List.length_map,List.length_replicate]; exact Nat.le_refl _⟩) (by rw [List.length_map]; exact Nat.le_of_lt (yn (by omega))) ?_ ?_⟩
 ·rintro i x ys σ H' hi ⟨rfl,⟨o,rfl⟩,rfl⟩
  obtain ⟨z,hz,rfl⟩:=vU hi
  refine ⟨_,rfl,z,rfl,?_,⟨_,rfl⟩,rfl⟩
  rw [List.replicate_succ',List.map_append]
  rfl
 rintro ys σ H' ⟨rfl,⟨o,rfl⟩,rfl⟩ l hl
 refine ⟨l,List.replicate _ true,rfl,zE.of zG,?_⟩
 rw [j2]
 exact q _ (zK hl _)
theorem zH5 {k:Nat} {f:Addr} {fd:FuncData} (F:yC K "is_table" "is_table" qC f fd) (B:Bl mg) (aN:Fn P w K mg base "is_numbers" ["value","count"] k ki):zJ P w K mg base zh (k + 1) f fd ["value","tall","wide"] Zn:=by
 refine F.ok Kr (λvs H Q E h=>?_) (λcdv A outer s H vs Q E hr h=>?_)
 ·obtain ⟨_,_,_,_,rfl,_⟩:=h
  rfl
 obtain ⟨a,tv,tab,w0,rfl,ha,htv,few,tw,w9,q⟩:=h
 refine ⟨_,(zO (zY (ve (zm wT rfl B.isinstance_ yo (zA (L2.pv 0) (zA (wQ (v:=.ty "list") (u:=.type "list") rfl B.list_ wM rfl) zD))) (ve (ub xB (zm xq rfl B.len_ xc (zA (L2.pv 0) zD)) (L2.pv 1) (zp _)) (uZ (zm (ju rfl) rfl B.all_ jw (zA (yu (own:=["part"]) (caps:=[(2,"wide")]) (xr (S:=zL qC) (N:=["value","tall","wide"]) rfl (by decide +kernel) rfl ⟨_,rfl⟩ rfl (by decide +kernel) (by decide +kernel)) rfl (yU (L2.pv 0)) (λ_ _ _ _=>zw (i:=0) (show (["part","wide"]:List Str).Nodup by decide +kernel) rfl (Or.inl rfl)) (λ_ _ _ _=>(zR aN hr rfl (zA (L2.pv 0) (zA (L2.pv 1) zD))))) zD))))))),?_⟩
 try dsimp only [zQ,Cx.nox,Cx.wish]
 have lt:tv.length=tab.length:=Paired.length htv
 refine ⟨_,rfl,_,_,_,_,rfl,.lst ha,u7 K,_,rfl,yd ?_⟩
 refine ⟨_,rfl,a,_,rfl,.inl (zE.of ha),_,rfl,rfl,_,rfl,xG (jP (by omega)) ?_⟩
 refine ⟨_,rfl,a,rfl,⟨_,zE.of ha⟩,yi (K:=K) (a:=a) (xs:=tv) (λi ys σ H'=>ys=(List.replicate i true).map V.bl/\(∃ o,σ=[o,some (.int (w0:Int))])/\zC H H')
  ⟨rfl,⟨none,rfl⟩,zC.refl _⟩ (λi ys σ H' hi ⟨e1,_,sm⟩=>⟨zE.of (sm _ _ ha),by rw [e1,List.length_map,List.length_replicate]; exact Nat.le_refl _⟩) (Nat.le_of_lt (yn (by omega))) ?_ ?_⟩
 ·rintro i x ys σ H' hi ⟨rfl,⟨o,rfl⟩,sm⟩
  obtain ⟨r,hr',b,rfl,eb⟩:=yp htv hi
  have lw:=tw r (List.mem_of_getElem? hr')
  refine ⟨_,rfl,_,rfl,b,r,(by rw [lw]; rfl),sm _ _ eb,(by omega),λH2 s2=>⟨?_,⟨_,rfl⟩,sm.trans s2⟩⟩
  rw [List.replicate_succ',List.map_append]
  rfl
 rintro ys σ H' ⟨rfl,⟨o,rfl⟩,sm⟩ l hl
 refine ⟨l,List.replicate _ true,rfl,zE.of zG,?_⟩
 rw [j2]
 exact q _ (sm.trans (zK hl _))
theorem zJ1 {k:Nat} {f:Addr} {fd:FuncData} (F:yC K "is_row" "is_row" qr f fd) (B:Bl mg) (ay:Fn P w K mg base "is_whole" ["thing"] k jS):zJ P w K mg base zh (k + 1) f fd ["value","many"] Zo:=by
 refine F.ok Ks (λvs H Q E h=>?_) (λcdv A outer s H vs Q E hr h=>?_)
 ·obtain ⟨_,_,_,rfl,_⟩:=h
  rfl
 obtain ⟨a,ns,n,rfl,ha,ln,few,q⟩:=h
 refine ⟨_,(zO (zY (ve (zm wT rfl B.isinstance_ yo (zA (L2.pv 0) (zA (wQ (v:=.ty "tuple") (u:=.type "tuple") rfl B.tuple_ ww rfl) zD))) (ve (ub xB (zm xq rfl B.len_ xc (zA (L2.pv 0) zD)) (zP yS (L2.pv 1) zH) (zp _)) (uZ (zm (ju rfl) rfl B.all_ jw (zA (yu (own:=["number"]) (caps:=[]) (xk rfl) rfl (qU (L2.pv 0)) (λ_ _ _ _=>zw (i:=0) (show (["number"]:List Str).Nodup by decide +kernel) rfl (Or.inl rfl)) (λ_ _ _ _=>(zR ay hr rfl (zA (L2.pv 0) zD)))) zD))))))),?_⟩
 try dsimp only [zQ,Cx.nox,Cx.wish]
 refine ⟨_,rfl,_,_,_,_,rfl,.tup ha,kY K,_,rfl,yd ?_⟩
 refine ⟨_,rfl,a,_,rfl,.inr (zW.of ha),_,rfl,_,_,rfl,rfl,rfl,_,rfl,xG (jP (by rw [List.length_map,ln]; omega)) ?_⟩
 refine ⟨_,rfl,a,rfl,⟨_,zW.of ha⟩,kZ (K:=K) (a:=a) (xs:=ns.map V.int) (λi ys σ H'=>ys=(List.replicate i true).map V.bl/\(∃ o,σ=[o])/\H'=H)
  ⟨rfl,⟨none,rfl⟩,rfl⟩ (λi ys σ H' hi ⟨e1,_,e3⟩=>⟨by rw [e3]; exact zW.of ha,by rw [e1,List.length_map,List.length_replicate]; exact Nat.le_refl _⟩) (by rw [List.length_map]; exact Nat.le_of_lt (yn (by omega))) ?_ ?_⟩
 ·rintro i x ys σ H' hi ⟨rfl,⟨o,rfl⟩,rfl⟩
  obtain ⟨z,hz,rfl⟩:=vU hi
  refine ⟨_,rfl,z,rfl,?_,⟨_,rfl⟩,rfl⟩
  rw [List.replicate_succ',List.map_append]
  rfl
 rintro ys σ H' ⟨rfl,⟨o,rfl⟩,rfl⟩ l hl
 refine ⟨l,List.replicate _ true,rfl,zE.of zG,?_⟩
 rw [j2]
 exact q _ (zK hl _)
theorem zI8 {k:Nat} {f:Addr} {fd:FuncData} (F:yC K "is_room" "is_room" qD f fd) (B:Bl mg) (dd:Fn P w K mg base "is_row" ["value","many"] k Zo):zJ P w K mg base zh (k + 1) f fd ["value","many"] Zp:=by
 refine F.ok Kt (λvs H Q E h=>?_) (λcdv A outer s H vs Q E hr h=>?_)
 ·obtain ⟨_,_,_,_,rfl,_⟩:=h
  rfl
 obtain ⟨a,rv,rows,n,rfl,ha,hrv,few,rl,n8,q⟩:=h
 refine ⟨_,(zO (zY (ve (zm wT rfl B.isinstance_ yo (zA (L2.pv 0) (zA (wQ (v:=.ty "list") (u:=.type "list") rfl B.list_ wM rfl) zD))) (uZ (zm (ju rfl) rfl B.all_ jw (zA (yu (own:=["row"]) (caps:=[(1,"many")]) (xr (S:=zL qD) (N:=["value","many"]) rfl (by decide +kernel) rfl ⟨_,rfl⟩ rfl (by decide +kernel) (by decide +kernel)) rfl (yU (L2.pv 0)) (λ_ _ _ _=>zw (i:=0) (show (["row","many"]:List Str).Nodup by decide +kernel) rfl (Or.inl rfl)) (λ_ _ _ _=>(zR dd hr rfl (zA (L2.pv 0) (zA (L2.pv 1) zD))))) zD)))))),?_⟩
 try dsimp only [zQ,Cx.nox,Cx.wish]
 have lr:rv.length=rows.length:=Paired.length hrv
 refine ⟨_,rfl,_,_,_,_,rfl,.lst ha,u7 K,_,rfl,yd ?_⟩
 refine ⟨_,rfl,a,rfl,⟨_,zE.of ha⟩,yi (K:=K) (a:=a) (xs:=rv) (λi ys σ H'=>ys=(List.replicate i true).map V.bl/\(∃ o,σ=[o,some (.int (n:Int))])/\zC H H')
  ⟨rfl,⟨none,rfl⟩,zC.refl _⟩ (λi ys σ H' hi ⟨e1,_,sm⟩=>⟨zE.of (sm _ _ ha),by rw [e1,List.length_map,List.length_replicate]; exact Nat.le_refl _⟩) (Nat.le_of_lt (yn (by omega))) ?_ ?_⟩
 ·rintro i x ys σ H' hi ⟨rfl,⟨o,rfl⟩,sm⟩
  obtain ⟨r,hr',b,rfl,eb⟩:=yp hrv hi
  refine ⟨_,rfl,_,rfl,b,r,n,rfl,sm _ _ eb,rl r (List.mem_of_getElem? hr'),(by omega),λH2 s2=>⟨?_,⟨_,rfl⟩,sm.trans s2⟩⟩
  rw [List.replicate_succ',List.map_append]
  rfl
 rintro ys σ H' ⟨rfl,⟨o,rfl⟩,sm⟩ l hl
 refine ⟨l,List.replicate _ true,rfl,zE.of zG,?_⟩
 rw [j2]
 exact q _ (sm.trans (zK hl _))
theorem zI9 {k:Nat} {f:Addr} {fd:FuncData} (F:yC K "is_push" "is_push" qt f fd) (B:Bl mg) (ay:Fn P w K mg base "is_whole" ["thing"] k jS):zJ P w K mg base zh (k + 1) f fd ["value"] Zq:=by
 refine F.ok Ku (λvs H Q E h=>?_) (λcdv A outer s H vs Q E hr h=>?_)
 ·obtain ⟨_,_,_,rfl,_⟩:=h
  rfl
 obtain ⟨a,lo,hi,rfl,ha,lh,q⟩:=h
 refine ⟨_,(zM (zo (PW.pt (xZ (xO (yX (zm wT rfl B.isinstance_ yo (zA (L2.pv 0) (zA (wQ (v:=.ty "tuple") (u:=.type "tuple") rfl B.tuple_ ww rfl) zD))))) (wR (yK vf (zm xq rfl B.len_ xc (zA (L2.pv 0) zD)) zH (zp _))))) (zO (zY xy)) yA)
  (zO (zY (ve (zR ay hr rfl (zA (zZ yb (L2.pv 0) zH (λ_ _=>rfl)) zD)) (ve (zR ay hr rfl (zA (zZ yb (L2.pv 0) zH (λ_ _=>rfl)) zD)) (uZ (ub kN (zZ yb (L2.pv 0) zH (λ_ _=>rfl)) (zZ yb (L2.pv 0) zH (λ_ _=>rfl)) (zp _)))))))),?_⟩
 try dsimp only [zQ,Cx.nox,Cx.wish]
 refine ⟨_,rfl,_,_,_,_,rfl,.tup ha,kY K,_,rfl,zX ?_⟩
 refine ⟨_,rfl,a,_,rfl,.inr (zW.of ha),rfl,_,rfl,kS rfl ?_⟩
 refine ⟨_,rfl,a,_,0,_,rfl,rfl,zW.of ha,Y0,lo,rfl,_,rfl,yd ?_⟩
 refine ⟨_,rfl,a,_,1,_,rfl,rfl,zW.of ha,Y1,hi,rfl,_,rfl,yd ?_⟩
 refine ⟨_,rfl,a,_,0,_,rfl,rfl,zW.of ha,Y0,_,rfl,a,_,1,_,rfl,rfl,zW.of ha,Y1,_,_,rfl,rfl,?_⟩
 have z:decide (lo<=hi)=true:=decide_eq_true lh
 show Q (.bl (decide (lo<=hi))) H
 rw [z]
 exact q
theorem zFJ {k:Nat} {f:Addr} {fd:FuncData} (F:yC K "__init__" "Mode.__init__" qu f fd) (B:Bl mg) (av:wN P w K mg base "copied" ["value","depth"] k vM (.int 5)):zJ P w K mg base zh (k + 1) f fd ["self","rows","nexts","steer","push","add","divisor"] (kl af):=by
 refine F.ok Kv (λvs H Q E h=>?_) (λcdv A outer s H vs Q E hr h=>?_)
 ·obtain ⟨_,_,_,_,_,_,_,_,_,_,_,_,_,rfl,_⟩:=h
  rfl
 obtain ⟨o,dx,ra,na,sa,pa,aa,rv,nv,pv,m,n0,p0,rfl,ho,MO,hra,hrv,hna,hnv,hsa,hpa,hpv,haa,q⟩:=h
 refine ⟨_,(zM (xV (L2.pv 0) (uB av hr rfl (zA (L2.pv 1) zD)) rfl)
  (zM (xV (L2.pv 0) (uB av hr rfl (zA (L2.pv 2) zD)) rfl)
  (zM (xV (L2.pv 0) (uB av hr rfl (zA (L2.pv 3) zD)) rfl)
  (zM (xV (L2.pv 0) (uB av hr rfl (zA (L2.pv 4) zD)) rfl)
  (zM (xV (L2.pv 0) (uB av hr rfl (zA (L2.pv 5) zD)) rfl)
  (zO (xV (L2.pv 0) (L2.pv 6) rfl))))))),?_⟩
 try dsimp only [zQ,Cx.nox,Cx.wish]
 have n3:=MO.n3
 have p6:=MO.p6
 have G0:zr o H H:=λ_ _ e _=>e
 refine ⟨_,rfl,.inr (.inl ⟨ra,rv,m.rows,5,rfl,(by decide),hra,hrv,MO.few,(λx hx=>by have:=MO.rows x hx; omega),λr lr H1 s1 fr er hr=>?_⟩)⟩
 refine ⟨_,rfl,o,af,dx,_,rfl,(s1 _ _ ho),ag.cl,ah.n_rows,(by show 0 < 1000; decide),?_⟩
 have o1:=zG (H:=H1) (a:=o) (o:=HO.ins af dx (zB "rows" (.ref r) []))
 have G1:zr o H (upd H1 o (HO.ins af dx (zB "rows" (.ref r) []))):=G0.trans ((zC.but s1).trans (y0 o H1 _))
 have T1:zr o H1 (upd H1 o (HO.ins af dx (zB "rows" (.ref r) []))):=y0 o H1 _
 have b1:=s1 _ _ ho
 obtain ⟨J1,hJ1⟩:∃ J,J=upd H1 o (HO.ins af dx (zB "rows" (.ref r) [])):=⟨_,rfl⟩
 rw [<- hJ1] at o1 G1 T1 |-
 refine ⟨_,rfl,.inr (.inr ⟨na,nv,m.nexts,5,rfl,(by decide),(keepB ho G1 hna (λz=>by cases z)),(zU.keepB ho G1 hnv),(by have:=MO.nexts.1; omega),(λx hx=>by have:=MO.nexts.2 x hx; omega),λn ln H2 s2 fn en hn=>?_⟩)⟩
 refine ⟨_,rfl,o,af,dx,_,rfl,(s2 _ _ o1),ag.cl,ah.n_nexts,(by show 1 < 1000; decide),?_⟩
 have o2:=zG (H:=H2) (a:=o) (o:=HO.ins af dx (zB "nexts" (.ref n) (zB "rows" (.ref r) [])))
 have G2:zr o H (upd H2 o (HO.ins af dx (zB "nexts" (.ref n) (zB "rows" (.ref r) [])))):=G1.trans ((zC.but s2).trans (y0 o H2 _))
 have T2:zr o H2 (upd H2 o (HO.ins af dx (zB "nexts" (.ref n) (zB "rows" (.ref r) [])))):=y0 o H2 _
 have b2:=s2 _ _ o1
 obtain ⟨J2,hJ2⟩:∃ J,J=upd H2 o (HO.ins af dx (zB "nexts" (.ref n) (zB "rows" (.ref r) []))):=⟨_,rfl⟩
 rw [<- hJ2] at o2 G2 T2 |-
 refine ⟨_,rfl,.inl (.inr (.inl ⟨sa,m.steer,5,rfl,(by decide),(keepB ho G2 hsa (λz=>by cases z)),(by have:=MO.steer; omega),λs H3 s3 fs es=>?_⟩))⟩
 refine ⟨_,rfl,o,af,dx,_,rfl,(s3 _ _ o2),ag.cl,ah.n_steer,(by show 2 < 1000; decide),?_⟩
 have o3:=zG (H:=H3) (a:=o) (o:=HO.ins af dx (zB "steer" (.ref s) (zB "nexts" (.ref n) (zB "rows" (.ref r) []))))
 have G3:zr o H (upd H3 o (HO.ins af dx (zB "steer" (.ref s) (zB "nexts" (.ref n) (zB "rows" (.ref r) []))))):=G2.trans ((zC.but s3).trans (y0 o H3 _))
 have T3:zr o H3 (upd H3 o (HO.ins af dx (zB "steer" (.ref s) (zB "nexts" (.ref n) (zB "rows" (.ref r) []))))):=y0 o H3 _
 have b3:=s3 _ _ o2
 obtain ⟨J3,hJ3⟩:∃ J,J=upd H3 o (HO.ins af dx (zB "steer" (.ref s) (zB "nexts" (.ref n) (zB "rows" (.ref r) [])))):=⟨_,rfl⟩
 rw [<- hJ3] at o3 G3 T3 |-
 refine ⟨_,rfl,.inr (.inr ⟨pa,pv,m.push,5,rfl,(by decide),(keepB ho G3 hpa (λz=>by cases z)),(zU.keepB ho G3 hpv),(by have:=MO.push.1; omega),(λx hx=>by have:=MO.push.2 x hx; omega),λp lp H4 s4 fp ep hp=>?_⟩)⟩
 refine ⟨_,rfl,o,af,dx,_,rfl,(s4 _ _ o3),ag.cl,ah.n_push,(by show 3 < 1000; decide),?_⟩
 have o4:=zG (H:=H4) (a:=o) (o:=HO.ins af dx (zB "push" (.ref p) (zB "steer" (.ref s) (zB "nexts" (.ref n) (zB "rows" (.ref r) [])))))
 have G4:zr o H (upd H4 o (HO.ins af dx (zB "push" (.ref p) (zB "steer" (.ref s) (zB "nexts" (.ref n) (zB "rows" (.ref r) [])))))):=G3.trans ((zC.but s4).trans (y0 o H4 _))
 have T4:zr o H4 (upd H4 o (HO.ins af dx (zB "push" (.ref p) (zB "steer" (.ref s) (zB "nexts" (.ref n) (zB "rows" (.ref r) [])))))):=y0 o H4 _
 have b4:=s4 _ _ o3
 obtain ⟨J4,hJ4⟩:∃ J,J=upd H4 o (HO.ins af dx (zB "push" (.ref p) (zB "steer" (.ref s) (zB "nexts" (.ref n) (zB "rows" (.ref r) []))))):=⟨_,rfl⟩
 rw [<- hJ4] at o4 G4 T4 |-
 refine ⟨_,rfl,.inl (.inr (.inl ⟨aa,m.add,5,rfl,(by decide),(keepB ho G4 haa (λz=>by cases z)),(by have:=MO.add; omega),λa H5 s5 fa ea=>?_⟩))⟩
 refine ⟨_,rfl,o,af,dx,_,rfl,(s5 _ _ o4),ag.cl,ah.n_add,(by show 4 < 1000; decide),?_⟩
 have o5:=zG (H:=H5) (a:=o) (o:=HO.ins af dx (zB "add" (.ref a) (zB "push" (.ref p) (zB "steer" (.ref s) (zB "nexts" (.ref n) (zB "rows" (.ref r) []))))))
 have G5:zr o H (upd H5 o (HO.ins af dx (zB "add" (.ref a) (zB "push" (.ref p) (zB "steer" (.ref s) (zB "nexts" (.ref n) (zB "rows" (.ref r) []))))))):=G4.trans ((zC.but s5).trans (y0 o H5 _))
 have T5:zr o H5 (upd H5 o (HO.ins af dx (zB "add" (.ref a) (zB "push" (.ref p) (zB "steer" (.ref s) (zB "nexts" (.ref n) (zB "rows" (.ref r) []))))))):=y0 o H5 _
 have b5:=s5 _ _ o4
 obtain ⟨J5,hJ5⟩:∃ J,J=upd H5 o (HO.ins af dx (zB "add" (.ref a) (zB "push" (.ref p) (zB "steer" (.ref s) (zB "nexts" (.ref n) (zB "rows" (.ref r) [])))))):=⟨_,rfl⟩
 rw [<- hJ5] at o5 G5 T5 |-
 refine ⟨_,rfl,_,rfl,o,af,dx,_,rfl,o5,ag.cl,ah.n_divisor,(by show 5 < 1000; decide),?_⟩
 have e6:upd J5 o (HO.ins af dx (zB "divisor" (.int m.div) (zB "add" (.ref a) (zB "push" (.ref p) (zB "steer" (.ref s) (zB "nexts" (.ref n) (zB "rows" (.ref r) []))))))) o=some (.ins af dx (XA (.ref r) (.ref n) (.ref s) (.ref p) (.ref a) m.div)):=zG.trans (by rw [Qm])
 have T6:zr o J5 (upd J5 o (HO.ins af dx (zB "divisor" (.int m.div) (zB "add" (.ref a) (zB "push" (.ref p) (zB "steer" (.ref s) (zB "nexts" (.ref n) (zB "rows" (.ref r) [])))))))):=y0 o J5 _
 obtain ⟨J6,hJ6⟩:∃ J,J=upd J5 o (HO.ins af dx (zB "divisor" (.int m.div) (zB "add" (.ref a) (zB "push" (.ref p) (zB "steer" (.ref s) (zB "nexts" (.ref n) (zB "rows" (.ref r) []))))))):=⟨_,rfl⟩
 rw [<- hJ6] at e6 T6 |-
 have U5:zr o H5 J6:=T5.trans T6
 have U4:zr o H4 J6:=T4.trans ((zC.but s5).trans U5)
 have U3:zr o H3 J6:=T3.trans ((zC.but s4).trans U4)
 have U2:zr o H2 J6:=T2.trans ((zC.but s3).trans U3)
 have U1:zr o H1 J6:=T1.trans ((zC.but s2).trans U2)
 have G6:zr o H J6:=G5.trans T6
 have nH:∀ {k:Nat} {Hk:Hp} {x:HO},zr o H Hk->Hk o=some x->∀ {vs:List V} {tab:List (List Int)} {Hj:Hp},Paired (xg Hk Hj) vs tab->zr o Hj J6->(∃ y,Hj o=some y/\∀ l,HO.lst l≠y)->Paired (xg H J6) vs tab:=λG e _ _ _ z U ⟨y,ey,ny⟩=>
  Paired.mapP z λ_ _ ⟨c,e1,e2,e3⟩=>⟨c,e1,j3 G e e2,U _ _ e3 λw=>by rw [w,ey] at e3; exact ny _ (Option.some.inj e3).symm⟩
 have NI:∀ (fs:List (Str × V)) (l:List V),HO.lst l≠.ins af dx fs:=λ_ _ z=>by cases z
 refine q ⟨dx,r,lr,n,ln,s,p,lp,a⟩ J6 G6 ⟨e6,keepB b1 U1 er (NI _ _),zf.keepB b1 U1 hr,keepB b2 U2 en (NI _ _),zU.keepB b2 U2 (xg.tab hn),keepB b3 U3 es (NI _ _),keepB b4 U4 ep (NI _ _),zU.keepB b4 U4 (xg.tab hp),keepB b5 U5 ea (NI _ _)⟩ fr (j3 G1 o1 fn) (j3 G2 o2 fs) (j3 G3 o3 fp) (j3 G4 o4 fa) (nH (k:=0) G1 o1 hn U2 ⟨_,b2,NI _⟩) (nH (k:=0) G3 o3 hp U4 ⟨_,b4,NI _⟩)
theorem zJA {k:Nat} {f:Addr} {fd:FuncData} (F:yC K "is_mode" "is_mode" qw f fd) (B:Bl mg) (de:Fn P w K mg base "is_room" ["value","many"] k Zp) (cW:Fn P w K mg base "is_table" ["value","tall","wide"] k Zn) (aN:Fn P w K mg base "is_numbers" ["value","count"] k ki) (ay:Fn P w K mg base "is_whole" ["thing"] k jS):zJ P w K mg base zh (k + 1) f fd ["value","many","wide"] (Zr af):=by
 refine F.ok Kw (λvs H Q E h=>?_) (λcdv A outer s H vs Q E hr h=>?_)
 ·obtain ⟨_,_,_,_,rfl,_⟩:=h
  rfl
 obtain ⟨v,m,n,p,rfl,⟨o,M,rfl,k0⟩,MO,q⟩:=h
 refine ⟨_,(zM (zo (PW.pt (xZ (xO (yX (zm (show ya _ _ (wW K) from wz) rfl B.isinstance_ yo (zA (L2.pv 0) (zA (wy ag rfl) zD))))) (wR (xO (yX (zR de hr rfl (zA (yN (L2.pv 0) rfl) (zA (L2.pv 1) zD)))))))) (zO (zY xy)) yA)
  (zM (zo (PW.pt (xZ (xO (yX (zR cW hr rfl (zA (yN (L2.pv 0) rfl) (zA (L2.pv 1) (zA (L2.pv 1) zD)))))) (wR (xO (yX (zR cW hr rfl (zA (yN (L2.pv 0) rfl) (zA (L2.pv 1) (zA (L2.pv 2) zD))))))))) (zO (zY xy)) yA)
  (zM (zo (PW.pt (xZ (xO (yX (zR aN hr rfl (zA (yN (L2.pv 0) rfl) (zA (L2.pv 1) zD))))) (wR (xO (yX (zR aN hr rfl (zA (yN (L2.pv 0) rfl) (zA (L2.pv 1) zD)))))))) (zO (zY xy)) yA)
  (zO (zY (ve (zR ay hr rfl (zA (yN (L2.pv 0) rfl) zD)) (uZ (ub WN (yN (L2.pv 0) rfl) zH (zp _))))))))),?_⟩
 try dsimp only [zQ,Cx.nox,Cx.wish]
 have n3:=MO.n3
 have p6:=MO.p6
 refine ⟨_,rfl,_,_,_,_,rfl,(ag.ty k0.ins),uh,_,rfl,zX ?_⟩
 refine ⟨_,rfl,o,af,M.dx,_,_,rfl,k0.ins,ag.cl,ah.n_rows,rfl,_,rfl,M.r,M.rv,m.rows,n,rfl,k0.hr,k0.hrv,MO.few,MO.rows,(by omega),λH1 s1=>?_⟩
 refine ⟨_,rfl,zX ?_⟩
 refine ⟨_,rfl,o,af,M.dx,_,_,rfl,(s1 _ _ k0.ins),ag.cl,ah.n_nexts,rfl,_,rfl,_,rfl,M.n,M.nv,m.nexts,n,(by rw [MO.nexts.1]; rfl),s1 _ _ k0.hn,k0.hnv.same s1,(by have:=MO.nexts.1; omega),MO.nexts.2,(by omega),λH2 s2=>?_⟩
 have s12:=s1.trans s2
 refine ⟨_,rfl,zX ?_⟩
 refine ⟨_,rfl,o,af,M.dx,_,_,rfl,(s12 _ _ k0.ins),ag.cl,ah.n_push,rfl,_,rfl,_,rfl,M.p,M.pv,m.push,p,(by rw [MO.push.1]; rfl),s12 _ _ k0.hp,k0.hpv.same s12,(by have:=MO.push.1; omega),MO.push.2,(by omega),λH3 s3=>?_⟩
 have s13:=s12.trans s3
 refine ⟨_,rfl,zX ?_⟩
 refine ⟨_,rfl,o,af,M.dx,_,_,rfl,(s13 _ _ k0.ins),ag.cl,ah.n_steer,rfl,_,rfl,M.s,m.steer,(by rw [MO.steer]; rfl),s13 _ _ k0.hs,(by have:=MO.steer; omega),λH4 s4=>?_⟩
 have s14:=s13.trans s4
 refine ⟨_,rfl,zX ?_⟩
 refine ⟨_,rfl,o,af,M.dx,_,_,rfl,(s14 _ _ k0.ins),ag.cl,ah.n_add,rfl,_,rfl,M.a,m.add,(by rw [MO.add]; rfl),s14 _ _ k0.ha,(by have:=MO.add; omega),λH5 s5=>?_⟩
 have s15:=s14.trans s5
 refine ⟨_,rfl,zX ?_⟩
 refine ⟨_,rfl,o,af,M.dx,_,_,rfl,(s15 _ _ k0.ins),ag.cl,ah.n_divisor,rfl,m.div,rfl,_,rfl,yd ?_⟩
 refine ⟨_,rfl,o,af,M.dx,_,_,rfl,(s15 _ _ k0.ins),ag.cl,ah.n_divisor,rfl,_,_,rfl,rfl,?_⟩
 have z:decide (m.div ≥ 1)=true:=decide_eq_true MO.div
 show Q (.bl (decide (m.div ≥ 1))) H5
 rw [z]
 exact q _ s15
theorem zH6 {k:Nat} {f:Addr} {fd:FuncData} (F:yC K "is_sound" "is_sound" qE f fd) (B:Bl mg) (ay:Fn P w K mg base "is_whole" ["thing"] k jS) (df:Fn P w K mg base "is_push" ["value"] k Zq) (dg:Fn P w K mg base "is_mode" ["value","many","wide"] k (Zr af)):zJ P w K mg base zh (k + 1) f fd ["many","pushes","modes"] (Zs af):=by
 refine F.ok Kx (λvs H Q E h=>?_) (λcdv A outer s H vs Q E hr h=>?_)
 ·obtain ⟨_,_,_,_,_,_,_,rfl,_⟩:=h
  rfl
 obtain ⟨pa,ma,pv,mv,n,bs,ms,rfl,hpa,hpv,hma,hmv,TO,q⟩:=h
 refine ⟨_,(zM (zo (PW.pt (xZ (xO (yX (zR ay hr rfl (zA (L2.pv 0) zD)))) (xZ (yK jM (L2.pv 0) zH (zp _)) (wR (yK Zc (L2.pv 0) (Zl rfl B.MOST_NUMBERS_) (zp _)))))) (zO (zY xy)) yA)
  (zM (zo (PW.pt (xZ (xO (yX (zm wT rfl B.isinstance_ yo (zA (L2.pv 1) (zA (wQ (v:=.ty "list") (u:=.type "list") rfl B.list_ wM rfl) zD))))) (wR (xO (yX (zm (ju rfl) rfl B.all_ jw (zA (yu (own:=["push"]) (caps:=[]) (xk rfl) rfl (yU (L2.pv 1)) (λ_ _ _ _=>zw (i:=0) (show (["push"]:List Str).Nodup by decide +kernel) rfl (Or.inl rfl)) (λ_ _ _ _=>(zR df hr rfl (zA (L2.pv 0) zD)))) zD))))))) (zO (zY xy)) yA)
  (zM (zo (PW.pt (xZ (xO (yX (zm wT rfl B.isinstance_ yo (zA (L2.pv 2) (zA (wQ (v:=.ty "list") (u:=.type "list") rfl B.list_ wM rfl) zD))))) (wR (yK xB (zm xq rfl B.len_ xc (zA (L2.pv 2) zD)) zH (zp _))))) (zO (zY xy)) yA)
  (zO (zY (zm (ju rfl) rfl B.all_ jw (zA (yu (own:=["mode"]) (caps:=[(0,"many"),(1,"pushes")]) (xr (S:=zL qE) (N:=["many","pushes","modes"]) rfl (by decide +kernel) rfl ⟨_,rfl⟩ rfl (by decide +kernel) (by decide +kernel)) rfl (yU (L2.pv 2)) (λ_ _ _ _=>zw (i:=0) (show (["mode","many","pushes"]:List Str).Nodup by decide +kernel) rfl (Or.inl rfl)) (λ_ _ _ _=>(zR dg hr rfl (zA (L2.pv 0) (zA (L2.pv 1) (zA (zm (show ya _ _ (λxs H Q=>∃ p ys,xs=[V.ref p]/\(zE K H p ys\/zW K H p ys)/\Q (V.int ys.length) H) from xq) rfl B.len_ xc (zA (L2.pv 2) zD)) zD)))))) zD))))))),?_⟩
 try dsimp only [zQ,Cx.nox,Cx.wish]
 have n1:=TO.n1
 have n3:=TO.n3
 have b6:=TO.b6
 have m1:=TO.m1
 have m40:=TO.m40
 have lp:pv.length=bs.length:=Paired.length hpv
 have lm:mv.length=ms.length:=Paired.length hmv
 refine ⟨_,rfl,(n:Int),rfl,_,rfl,zX ?_⟩
 refine ⟨_,rfl,_,_,rfl,rfl,_,rfl,yH (decide_eq_false (show ¬ ((n:Int) < 1) by omega)) ?_⟩
 refine ⟨_,rfl,_,_,rfl,rfl,_,rfl,yH (decide_eq_false (show ¬ ((n:Int) > 3) by omega)) ?_⟩
 refine ⟨_,rfl,_,_,_,_,rfl,.lst hpa,u7 K,_,rfl,zX ?_⟩
 refine ⟨_,rfl,pa,rfl,⟨_,zE.of hpa⟩,yi (K:=K) (a:=pa) (xs:=pv) (λi ys σ H'=>ys=(List.replicate i true).map V.bl/\(∃ o,σ=[o])/\H'=H)
  ⟨rfl,⟨none,rfl⟩,rfl⟩ (λi ys σ H' hi ⟨e1,_,e3⟩=>⟨by rw [e3]; exact zE.of hpa,by rw [e1,List.length_map,List.length_replicate]; exact Nat.le_refl _⟩) (Nat.le_of_lt (yn (by omega))) ?_ ?_⟩
 ·rintro i x ys σ H' hi ⟨rfl,⟨o,rfl⟩,rfl⟩
  obtain ⟨b,hb,c,rfl,ec⟩:=yp hpv hi
  refine ⟨_,rfl,c,b.1,b.2,rfl,ec,TO.bok b (List.mem_of_getElem? hb),?_,⟨_,rfl⟩,rfl⟩
  rw [List.replicate_succ',List.map_append]
  rfl
 rintro ys σ H1 ⟨rfl,⟨o,rfl⟩,rfl⟩ l1 hl1
 refine ⟨l1,List.replicate _ true,rfl,zE.of zG,?_⟩
 rw [j2]
 refine ⟨_,rfl,zX ?_⟩
 have s1:=zK hl1 (HO.lst ((List.replicate pv.length true).map V.bl))
 obtain ⟨H2,hH2⟩:∃ H2,H2=upd H1 l1 (HO.lst ((List.replicate pv.length true).map V.bl)):=⟨_,rfl⟩
 rw [<- hH2] at s1 |-
 have hma2:=s1 _ _ hma
 refine ⟨_,rfl,_,_,_,_,rfl,.lst hma2,u7 K,_,rfl,zX ?_⟩
 refine ⟨_,rfl,ma,_,rfl,.inl (zE.of hma2),rfl,_,rfl,yH (uf (by omega)) ?_⟩
 refine ⟨_,rfl,ma,rfl,⟨_,zE.of hma2⟩,yi (K:=K) (a:=ma) (xs:=mv) (λi ys σ H'=>ys=(List.replicate i true).map V.bl/\(∃ o,σ=[o,some (.int (n:Int)),some (.ref pa)])/\zC H2 H')
  ⟨rfl,⟨none,rfl⟩,zC.refl _⟩ (λi ys σ H' hi ⟨e1,_,sm⟩=>⟨zE.of (sm _ _ hma2),by rw [e1,List.length_map,List.length_replicate]; exact Nat.le_refl _⟩) (Nat.le_of_lt (yn (by omega))) ?_ ?_⟩
 ·rintro i x ys σ H' hi ⟨rfl,⟨o,rfl⟩,sm⟩
  obtain ⟨md,hmd,hx⟩:=yp hmv hi
  have s2:=s1.trans sm
  refine ⟨_,rfl,_,rfl,_,rfl,pa,_,rfl,.inl (zE.of (s2 _ _ hpa)),x,md,n,bs.length,(by rw [lp]; rfl),hx.same s2,TO.mok md (List.mem_of_getElem? hmd),λH3 s3=>⟨?_,⟨_,rfl⟩,sm.trans s3⟩⟩
  rw [List.replicate_succ',List.map_append]
  rfl
 rintro ys σ H3 ⟨rfl,⟨o,rfl⟩,sm⟩ l hl
 refine ⟨l,List.replicate _ true,rfl,zE.of zG,?_⟩
 rw [j2]
 exact q _ (s1.trans (sm.trans (zK hl _)))
theorem zE7 {k:Nat} {f:Addr} {fd:FuncData} (F:yC K "__init__" "Thing.__init__" qx f fd) (B:Bl mg) (dh:Fn P w K mg base "is_sound" ["many","pushes","modes"] k (Zs af)):zJ P w K mg base zh (k + 1) f fd ["self","many","pushes","modes"] (kn au af):=by
 refine F.ok Ky (λvs H Q E h=>?_) (λcdv A outer s H vs Q E hr h=>?_)
 ·obtain ⟨_,_,_,_,_,_,_,_,_,rfl,_⟩:=h
  rfl
 obtain ⟨o,dx,pa,ma,pv,mv,n,bs,ms,rfl,ho,hpa,hpv,hma,hmv,TO,q⟩:=h
 refine ⟨_,(zM (zo (xO (yX (zR dh hr rfl (zA (L2.pv 1) (zA (L2.pv 2) (zA (L2.pv 3) zD)))))) (zO vD) yA)
  (zM (zo (PW.pt (xZ (yK Zc (zm xq rfl B.len_ xc (zA (L2.pv 2) zD)) (Zl rfl B.MOST_PUSHES_) (zp _)) (wR (yK Zc (zm xq rfl B.len_ xc (zA (L2.pv 3) zD)) (Zl rfl B.MOST_MODES_) (zp _))))) (zO vD) yA)
  (zM (xV (L2.pv 0) (L2.pv 1) rfl)
  (zM (xV (L2.pv 0) (yz ud rfl B.list_ wM (zA (L2.pv 2) zD)) rfl)
  (zO (xV (L2.pv 0) (yz ud rfl B.list_ wM (zA (L2.pv 3) zD)) rfl)))))),?_⟩
 try dsimp only [zQ,Cx.nox,Cx.wish]
 have b6:=TO.b6
 have m40:=TO.m40
 have lp:pv.length=bs.length:=Paired.length hpv
 have lm:mv.length=ms.length:=Paired.length hmv
 refine ⟨_,rfl,_,rfl,_,rfl,pa,ma,pv,mv,n,bs,ms,rfl,hpa,hpv,hma,hmv,TO,λH1 s1=>?_⟩
 refine ⟨_,rfl,zX ?_⟩
 refine ⟨_,rfl,pa,_,rfl,.inl (zE.of (s1 _ _ hpa)),_,_,rfl,rfl,_,rfl,yH (decide_eq_false (show ¬ ((pv.length:Int) > 6) by omega)) ?_⟩
 refine ⟨_,rfl,ma,_,rfl,.inl (zE.of (s1 _ _ hma)),_,_,rfl,rfl,_,rfl,yH (decide_eq_false (show ¬ ((mv.length:Int) > 40) by omega)) ?_⟩
 have ho1:=s1 _ _ ho
 refine ⟨_,rfl,_,rfl,o,au,dx,_,rfl,ho1,am.cl,ar.n_many,(by show 0 < 1000; decide),?_⟩
 have NI:∀ (fs:List (Str × V)) (l:List V),HO.lst l≠.ins au dx fs:=λ_ _ z=>by cases z
 have e2:=zG (H:=H1) (a:=o) (o:=HO.ins au dx (zB "many" (.int (n:Int)) []))
 have T2:zr o H1 (upd H1 o (HO.ins au dx (zB "many" (.int (n:Int)) []))):=y0 o H1 _
 obtain ⟨H2,hH2⟩:∃ H2,H2=upd H1 o (HO.ins au dx (zB "many" (.int (n:Int)) [])):=⟨_,rfl⟩
 rw [<- hH2] at e2 T2 |-
 have hpa2:=keepB ho1 T2 (s1 _ _ hpa) (NI _ _)
 have hma2:=keepB ho1 T2 (s1 _ _ hma) (NI _ _)
 refine ⟨_,rfl,pa,pv,rfl,.inl (zE.of hpa2),λkp hkp=>?_⟩
 have z3:=zK hkp (HO.lst pv)
 have ekp:=zG (H:=H2) (a:=kp) (o:=HO.lst pv)
 have G2:zr o H H2:=(zC.but s1).trans T2
 have nkp:=j3 G2 e2 hkp
 obtain ⟨H3,hH3⟩:∃ H3,H3=upd H2 kp (HO.lst pv):=⟨_,rfl⟩
 rw [<- hH3] at z3 ekp |-
 refine ⟨_,rfl,o,au,dx,_,rfl,(z3 _ _ e2),am.cl,ar.n_kept_pushes,(by show 1 < 1000; decide),?_⟩
 have e4:=zG (H:=H3) (a:=o) (o:=HO.ins au dx (zB "kept_pushes" (.ref kp) (zB "many" (.int (n:Int)) [])))
 have T4:zr o H3 (upd H3 o (HO.ins au dx (zB "kept_pushes" (.ref kp) (zB "many" (.int (n:Int)) [])))):=y0 o H3 _
 obtain ⟨H4,hH4⟩:∃ H4,H4=upd H3 o (HO.ins au dx (zB "kept_pushes" (.ref kp) (zB "many" (.int (n:Int)) []))):=⟨_,rfl⟩
 rw [<- hH4] at e4 T4 |-
 have e23:=z3 _ _ e2
 have hma4:=keepB e23 T4 (z3 _ _ hma2) (NI _ _)
 have hkp4:=keepB e23 T4 ekp (NI _ _)
 refine ⟨_,rfl,ma,mv,rfl,.inl (zE.of hma4),λkm hkm=>?_⟩
 have z5:=zK hkm (HO.lst mv)
 have ekm:=zG (H:=H4) (a:=km) (o:=HO.lst mv)
 have G4:zr o H H4:=G2.trans ((zC.but z3).trans T4)
 have nkm:=j3 G4 e4 hkm
 have nkk:kp≠km:=vR hkp4 hkm
 obtain ⟨H5,hH5⟩:∃ H5,H5=upd H4 km (HO.lst mv):=⟨_,rfl⟩
 rw [<- hH5] at z5 ekm |-
 have e45:=z5 _ _ e4
 refine ⟨_,rfl,o,au,dx,_,rfl,(z5 _ _ e4),am.cl,ar.n_kept_modes,(by show 2 < 1000; decide),?_⟩
 have T6:zr o H5 (upd H5 o (HO.ins au dx (zB "kept_modes" (.ref km) (zB "kept_pushes" (.ref kp) (zB "many" (.int (n:Int)) []))))):=y0 o H5 _
 exact q kp km _ (G4.trans ((zC.but z5).trans T6)) nkp nkm nkk zG (keepB e45 T6 (z5 _ _ hkp4) (NI _ _)) (keepB e45 T6 ekm (NI _ _))
theorem zFq {k:Nat} {f:Addr} {fd:FuncData} (F:yC K "pushes" "Thing.pushes" qy f fd) (B:Bl mg):zJ P w K mg base zh (k + 1) f fd ["self"] (ko au af):=by
 refine F.ok Kz (λvs H Q E h=>?_) (λcdv A outer s H vs Q E hr h=>?_)
 ·obtain ⟨_,_,_,_,_,_,_,_,rfl,_⟩:=h
  rfl
 obtain ⟨o,kp,km,n,bs,ms,pv,mv,rfl,TA,q⟩:=h
 refine ⟨_,(zO (zY (yz ud rfl B.list_ wM (zA (yN (L2.pv 0) rfl) zD)))),?_⟩
 try dsimp only [zQ,Cx.nox,Cx.wish]
 obtain ⟨dx,ins⟩:=TA.ins
 refine ⟨_,rfl,o,au,dx,_,_,rfl,ins,am.cl,ar.n_kept_pushes,rfl,kp,pv,rfl,.inl (zE.of TA.hp),λl hl=>?_⟩
 exact q l _ (zK hl _) hl zG
theorem zGE {k:Nat} {f:Addr} {fd:FuncData} (F:yC K "modes" "Thing.modes" qz f fd) (B:Bl mg):zJ P w K mg base zh (k + 1) f fd ["self"] (kq au af):=by
 refine F.ok K0 (λvs H Q E h=>?_) (λcdv A outer s H vs Q E hr h=>?_)
 ·obtain ⟨_,_,_,_,_,_,_,_,rfl,_⟩:=h
  rfl
 obtain ⟨o,kp,km,n,bs,ms,pv,mv,rfl,TA,q⟩:=h
 refine ⟨_,(zO (zY (yz ud rfl B.list_ wM (zA (yN (L2.pv 0) rfl) zD)))),?_⟩
 try dsimp only [zQ,Cx.nox,Cx.wish]
 obtain ⟨dx,ins⟩:=TA.ins
 refine ⟨_,rfl,o,au,dx,_,_,rfl,ins,am.cl,ar.n_kept_modes,rfl,km,mv,rfl,.inl (zE.of TA.hm),λl hl=>?_⟩
 exact q l _ (zK hl _) hl zG
theorem zEP {k:Nat} {f:Addr} {fd:FuncData} {dv:Value} (F:xQ K "__init__" "Straight.__init__" q4 f fd dv) (B:Bl mg) (av:wN P w K mg base "copied" ["value","depth"] k vM (.int 5)):zJ P w K mg base zh (k + 1) f fd ["self","numbers","add","divisor"] (kr ab):=by
 refine F.ok K2 (λvs H Q E h=>?_) (λcdv A outer s H vs Q E hr h=>?_)
 ·obtain ⟨_,_,_,_,_,_,rfl,_⟩:=h
  rfl
 obtain ⟨o,dx,la,ns,a,d,rfl,ho,hla,few,q⟩:=h
 refine ⟨_,(zM (xV (L2.pv 0) (uB av hr rfl (zA (L2.pv 1) zD)) rfl)
  (zM (xV (L2.pv 0) (L2.pv 2) rfl)
  (zO (xV (L2.pv 0) (L2.pv 3) rfl)))),?_⟩
 try dsimp only [zQ,Cx.nox,Cx.wish]
 refine ⟨_,rfl,.inl (.inr (.inl ⟨la,ns,5,rfl,(by decide),hla,few,λl H1 s1 fl el=>?_⟩))⟩
 have ho1:=s1 _ _ ho
 refine ⟨_,rfl,o,ab,dx,_,rfl,ho1,aj.cl,ap.n_numbers,(by show 0 < 1000; decide),?_⟩
 have o1:=zG (H:=H1) (a:=o) (o:=HO.ins ab dx (zB "numbers" (.ref l) []))
 have T1:zr o H1 (upd H1 o (HO.ins ab dx (zB "numbers" (.ref l) []))):=y0 o H1 _
 obtain ⟨J1,hJ1⟩:∃ J,J=upd H1 o (HO.ins ab dx (zB "numbers" (.ref l) [])):=⟨_,rfl⟩
 rw [<- hJ1] at o1 T1 |-
 refine ⟨_,rfl,_,rfl,o,ab,dx,_,rfl,o1,aj.cl,ap.n_add,(by show 1 < 1000; decide),?_⟩
 have o2:=zG (H:=J1) (a:=o) (o:=HO.ins ab dx (zB "add" (.int a) (zB "numbers" (.ref l) [])))
 have T2:zr o J1 (upd J1 o (HO.ins ab dx (zB "add" (.int a) (zB "numbers" (.ref l) [])))):=y0 o J1 _
 obtain ⟨J2,hJ2⟩:∃ J,J=upd J1 o (HO.ins ab dx (zB "add" (.int a) (zB "numbers" (.ref l) []))):=⟨_,rfl⟩
 rw [<- hJ2] at o2 T2 |-
 refine ⟨_,rfl,_,rfl,o,ab,dx,_,rfl,o2,aj.cl,ap.n_divisor,(by show 2 < 1000; decide),?_⟩
 have o3:=zG (H:=J2) (a:=o) (o:=HO.ins ab dx (zB "divisor" (.int d) (zB "add" (.int a) (zB "numbers" (.ref l) []))))
 have T3:zr o J2 (upd J2 o (HO.ins ab dx (zB "divisor" (.int d) (zB "add" (.int a) (zB "numbers" (.ref l) []))))):=y0 o J2 _
 obtain ⟨J3,hJ3⟩:∃ J,J=upd J2 o (HO.ins ab dx (zB "divisor" (.int d) (zB "add" (.int a) (zB "numbers" (.ref l) [])))):=⟨_,rfl⟩
 rw [<- hJ3] at o3 T3 |-
 have T13:zr o H1 J3:=T1.trans (T2.trans T3)
 exact q l J3 ((zC.but s1).trans T13) fl (o3.trans (by rw [Qo])) (keepB ho1 T13 el (λz=>by cases z))
theorem zEa {k:Nat} {f:Addr} {fd:FuncData} (F:yC K "__init__" "Stopped.__init__" q5 f fd) (B:Bl mg):zJ P w K mg base zh (k + 1) f fd ["self","rule","low","high"] (kt ae):=by
 refine F.ok K3 (λvs H Q E h=>?_) (λcdv A outer s H vs Q E hr h=>?_)
 ·obtain ⟨_,_,_,_,_,rfl,_⟩:=h
  rfl
 obtain ⟨o,dx,u,lo,hi,rfl,ho,q⟩:=h
 refine ⟨_,(zM (xV (L2.pv 0) (L2.pv 1) rfl)
  (zM (xV (L2.pv 0) (L2.pv 2) rfl)
  (zO (xV (L2.pv 0) (L2.pv 3) rfl)))),?_⟩
 try dsimp only [zQ,Cx.nox,Cx.wish]
 obtain ⟨H1,hH1⟩:∃ H1,H1=H:=⟨_,rfl⟩
 rw [<- hH1] at ho q |-
 have ho1:=ho
 refine ⟨_,rfl,_,rfl,o,ae,dx,_,rfl,ho1,ak.cl,aq.n_rule,(by show 0 < 1000; decide),?_⟩
 have o1:=zG (H:=H1) (a:=o) (o:=HO.ins ae dx (zB "rule" u []))
 have T1:zr o H1 (upd H1 o (HO.ins ae dx (zB "rule" u []))):=y0 o H1 _
 obtain ⟨J1,hJ1⟩:∃ J,J=upd H1 o (HO.ins ae dx (zB "rule" u [])):=⟨_,rfl⟩
 rw [<- hJ1] at o1 T1 |-
 refine ⟨_,rfl,_,rfl,o,ae,dx,_,rfl,o1,ak.cl,aq.n_low,(by show 1 < 1000; decide),?_⟩
 have o2:=zG (H:=J1) (a:=o) (o:=HO.ins ae dx (zB "low" (.int lo) (zB "rule" u [])))
 have T2:zr o J1 (upd J1 o (HO.ins ae dx (zB "low" (.int lo) (zB "rule" u [])))):=y0 o J1 _
 obtain ⟨J2,hJ2⟩:∃ J,J=upd J1 o (HO.ins ae dx (zB "low" (.int lo) (zB "rule" u []))):=⟨_,rfl⟩
 rw [<- hJ2] at o2 T2 |-
 refine ⟨_,rfl,_,rfl,o,ae,dx,_,rfl,o2,ak.cl,aq.n_high,(by show 2 < 1000; decide),?_⟩
 have o3:=zG (H:=J2) (a:=o) (o:=HO.ins ae dx (zB "high" (.int hi) (zB "low" (.int lo) (zB "rule" u []))))
 have T3:zr o J2 (upd J2 o (HO.ins ae dx (zB "high" (.int hi) (zB "low" (.int lo) (zB "rule" u []))))):=y0 o J2 _
 obtain ⟨J3,hJ3⟩:∃ J,J=upd J2 o (HO.ins ae dx (zB "high" (.int hi) (zB "low" (.int lo) (zB "rule" u [])))):=⟨_,rfl⟩
 rw [<- hJ3] at o3 T3 |-
 have T13:zr o H1 J3:=T1.trans (T2.trans T3)
 exact q J3 T13 (o3.trans (by rw [Qp]))
theorem zEq {k:Nat} {f:Addr} {fd:FuncData} (F:yC K "__init__" "Parted.__init__" q9 f fd) (B:Bl mg) (av:wN P w K mg base "copied" ["value","depth"] k vM (.int 5)):zJ P w K mg base zh (k + 1) f fd ["self","row","rule","other"] (ku ac):=by
 refine F.ok K4 (λvs H Q E h=>?_) (λcdv A outer s H vs Q E hr h=>?_)
 ·obtain ⟨_,_,_,_,_,_,rfl,_⟩:=h
  rfl
 obtain ⟨o,dx,ra,r,u,w,rfl,ho,hra,few,q⟩:=h
 refine ⟨_,(zM (xV (L2.pv 0) (uB av hr rfl (zA (L2.pv 1) zD)) rfl)
  (zM (xV (L2.pv 0) (L2.pv 2) rfl)
  (zO (xV (L2.pv 0) (L2.pv 3) rfl)))),?_⟩
 try dsimp only [zQ,Cx.nox,Cx.wish]
 refine ⟨_,rfl,.inl (.inr (.inr ⟨ra,r,5,rfl,(by decide),hra,few,λl H1 s1 fl el=>?_⟩))⟩
 have ho1:=s1 _ _ ho
 refine ⟨_,rfl,o,ac,dx,_,rfl,ho1,ai.cl,ao.n_row,(by show 0 < 1000; decide),?_⟩
 have o1:=zG (H:=H1) (a:=o) (o:=HO.ins ac dx (zB "row" (.ref l) []))
 have T1:zr o H1 (upd H1 o (HO.ins ac dx (zB "row" (.ref l) []))):=y0 o H1 _
 obtain ⟨J1,hJ1⟩:∃ J,J=upd H1 o (HO.ins ac dx (zB "row" (.ref l) [])):=⟨_,rfl⟩
 rw [<- hJ1] at o1 T1 |-
 refine ⟨_,rfl,_,rfl,o,ac,dx,_,rfl,o1,ai.cl,ao.n_rule,(by show 1 < 1000; decide),?_⟩
 have o2:=zG (H:=J1) (a:=o) (o:=HO.ins ac dx (zB "rule" u (zB "row" (.ref l) [])))
 have T2:zr o J1 (upd J1 o (HO.ins ac dx (zB "rule" u (zB "row" (.ref l) [])))):=y0 o J1 _
 obtain ⟨J2,hJ2⟩:∃ J,J=upd J1 o (HO.ins ac dx (zB "rule" u (zB "row" (.ref l) []))):=⟨_,rfl⟩
 rw [<- hJ2] at o2 T2 |-
 refine ⟨_,rfl,_,rfl,o,ac,dx,_,rfl,o2,ai.cl,ao.n_other,(by show 2 < 1000; decide),?_⟩
 have o3:=zG (H:=J2) (a:=o) (o:=HO.ins ac dx (zB "other" w (zB "rule" u (zB "row" (.ref l) []))))
 have T3:zr o J2 (upd J2 o (HO.ins ac dx (zB "other" w (zB "rule" u (zB "row" (.ref l) []))))):=y0 o J2 _
 obtain ⟨J3,hJ3⟩:∃ J,J=upd J2 o (HO.ins ac dx (zB "other" w (zB "rule" u (zB "row" (.ref l) [])))):=⟨_,rfl⟩
 rw [<- hJ3] at o3 T3 |-
 have T13:zr o H1 J3:=T1.trans (T2.trans T3)
 exact q l J3 ((zC.but s1).trans T13) fl (o3.trans (by rw [Qq])) (keepB ho1 T13 el (λz=>by cases z))
theorem zEb {k:Nat} {f:Addr} {fd:FuncData} {dv:Value} (F:xQ K "__init__" "Settles.__init__" gA f fd dv) (B:Bl mg) (av:wN P w K mg base "copied" ["value","depth"] k vM (.int 5)):zJ P w K mg base zh (k + 1) f fd ["self","start","rows","turn"] (jc aSettles wq):=by
 refine F.ok K5 (λvs H Q E h=>?_) (λcdv A outer s H vs Q E hr h=>?_)
 ·obtain ⟨_,_,_,_,_,_,_,_,_,rfl,_⟩:=h
  rfl
 obtain ⟨o,dx,sa,ra,sv,rv,ss,rs,t,rfl,ho,hsa,hsv,hra,hrv,s9,s8,r9,r8,q⟩:=h
 refine ⟨_,(zM (xV (L2.pv 0) (uB av hr rfl (zA (L2.pv 1) zD)) rfl)
  (zM (xV (L2.pv 0) (uB av hr rfl (zA (L2.pv 2) zD)) rfl)
  (zO (xV (L2.pv 0) (L2.pv 3) rfl)))),?_⟩
 try dsimp only [zQ,Cx.nox,Cx.wish]
 refine ⟨_,rfl,.inr (.inl ⟨sa,sv,ss,5,rfl,(by decide),hsa,hsv,s9,s8,λl lv H1 s1 fl el wl=>?_⟩)⟩
 have ho1:=s1 _ _ ho
 refine ⟨_,rfl,o,aSettles,dx,_,rfl,ho1,TSettles.cl,ASettles.n_start,(by show 0 < 1000; decide),?_⟩
 have o1:=zG (H:=H1) (a:=o) (o:=HO.ins aSettles dx (zB "start" (.ref l) []))
 have T1:zr o H1 (upd H1 o (HO.ins aSettles dx (zB "start" (.ref l) []))):=y0 o H1 _
 obtain ⟨J1,hJ1⟩:∃ J,J=upd H1 o (HO.ins aSettles dx (zB "start" (.ref l) [])):=⟨_,rfl⟩
 rw [<- hJ1] at o1 T1 |-
 have T01:=(zC.but s1).trans T1
 have kB:=λ{a:Addr} {u:List V} (h:H a=some (.lst u))=>keepB ho T01 h (λz=>by cases z)
 refine ⟨_,rfl,.inr (.inl ⟨ra,rv,rs,5,rfl,(by decide),kB hra,zf.keepB ho T01 hrv,r9,r8,λl2 lv2 H2 s2 fl2 el2 wl2=>?_⟩)⟩
 have o1':=s2 _ _ o1
 refine ⟨_,rfl,o,aSettles,dx,_,rfl,o1',TSettles.cl,ASettles.n_rows,(by show 1 < 1000; decide),?_⟩
 have o2:=zG (H:=H2) (a:=o) (o:=HO.ins aSettles dx (zB "rows" (.ref l2) (zB "start" (.ref l) [])))
 have T2:zr o H2 (upd H2 o (HO.ins aSettles dx (zB "rows" (.ref l2) (zB "start" (.ref l) [])))):=y0 o H2 _
 obtain ⟨J2,hJ2⟩:∃ J,J=upd H2 o (HO.ins aSettles dx (zB "rows" (.ref l2) (zB "start" (.ref l) []))):=⟨_,rfl⟩
 rw [<- hJ2] at o2 T2 |-
 refine ⟨_,rfl,_,rfl,o,aSettles,dx,_,rfl,o2,TSettles.cl,ASettles.n_turn,(by show 2 < 1000; decide),?_⟩
 have o3:=zG (H:=J2) (a:=o) (o:=HO.ins aSettles dx (zB "turn" (.int t) (zB "rows" (.ref l2) (zB "start" (.ref l) []))))
 have T3:zr o J2 (upd J2 o (HO.ins aSettles dx (zB "turn" (.int t) (zB "rows" (.ref l2) (zB "start" (.ref l) []))))):=y0 o J2 _
 obtain ⟨J3,hJ3⟩:∃ J,J=upd J2 o (HO.ins aSettles dx (zB "turn" (.int t) (zB "rows" (.ref l2) (zB "start" (.ref l) [])))):=⟨_,rfl⟩
 rw [<- hJ3] at o3 T3 |-
 have T13:zr o H1 J3:=T1.trans ((zC.but s2).trans (T2.trans T3))
 have T23:zr o H2 J3:=T2.trans T3
 exact q l l2 lv lv2 J3 ((zC.but s1).trans T13) (o3.trans (by rw [Km])) (keepB ho1 T13 el (λz=>by cases z)) (zf.keepB ho1 T13 wl) (keepB o1' T23 el2 (λz=>by cases z)) (zf.keepB o1' T23 wl2)
theorem zE8 {k:Nat} {f:Addr} {fd:FuncData} (F:yC K "__init__" "Comes.__init__" gB f fd) (B:Bl mg) (av:wN P w K mg base "copied" ["value","depth"] k vM (.int 5)):zJ P w K mg base zh (k + 1) f fd ["self","start","goal","turns"] (jc aComes wr):=by
 refine F.ok K6 (λvs H Q E h=>?_) (λcdv A outer s H vs Q E hr h=>?_)
 ·obtain ⟨_,_,_,_,_,_,_,_,_,rfl,_⟩:=h
  rfl
 obtain ⟨o,dx,sa,ra,sv,rv,ss,rs,t,rfl,ho,hsa,hsv,hra,hrv,s9,s8,r9,r8,q⟩:=h
 refine ⟨_,(zM (xV (L2.pv 0) (uB av hr rfl (zA (L2.pv 1) zD)) rfl)
  (zM (xV (L2.pv 0) (uB av hr rfl (zA (L2.pv 2) zD)) rfl)
  (zO (xV (L2.pv 0) (L2.pv 3) rfl)))),?_⟩
 try dsimp only [zQ,Cx.nox,Cx.wish]
 refine ⟨_,rfl,.inr (.inl ⟨sa,sv,ss,5,rfl,(by decide),hsa,hsv,s9,s8,λl lv H1 s1 fl el wl=>?_⟩)⟩
 have ho1:=s1 _ _ ho
 refine ⟨_,rfl,o,aComes,dx,_,rfl,ho1,TComes.cl,AComes.n_start,(by show 0 < 1000; decide),?_⟩
 have o1:=zG (H:=H1) (a:=o) (o:=HO.ins aComes dx (zB "start" (.ref l) []))
 have T1:zr o H1 (upd H1 o (HO.ins aComes dx (zB "start" (.ref l) []))):=y0 o H1 _
 obtain ⟨J1,hJ1⟩:∃ J,J=upd H1 o (HO.ins aComes dx (zB "start" (.ref l) [])):=⟨_,rfl⟩
 rw [<- hJ1] at o1 T1 |-
 have T01:=(zC.but s1).trans T1
 have kB:=λ{a:Addr} {u:List V} (h:H a=some (.lst u))=>keepB ho T01 h (λz=>by cases z)
 refine ⟨_,rfl,.inr (.inl ⟨ra,rv,rs,5,rfl,(by decide),kB hra,zf.keepB ho T01 hrv,r9,r8,λl2 lv2 H2 s2 fl2 el2 wl2=>?_⟩)⟩
 have o1':=s2 _ _ o1
 refine ⟨_,rfl,o,aComes,dx,_,rfl,o1',TComes.cl,AComes.n_goal,(by show 1 < 1000; decide),?_⟩
 have o2:=zG (H:=H2) (a:=o) (o:=HO.ins aComes dx (zB "goal" (.ref l2) (zB "start" (.ref l) [])))
 have T2:zr o H2 (upd H2 o (HO.ins aComes dx (zB "goal" (.ref l2) (zB "start" (.ref l) [])))):=y0 o H2 _
 obtain ⟨J2,hJ2⟩:∃ J,J=upd H2 o (HO.ins aComes dx (zB "goal" (.ref l2) (zB "start" (.ref l) []))):=⟨_,rfl⟩
 rw [<- hJ2] at o2 T2 |-
 refine ⟨_,rfl,_,rfl,o,aComes,dx,_,rfl,o2,TComes.cl,AComes.n_turns,(by show 2 < 1000; decide),?_⟩
 have o3:=zG (H:=J2) (a:=o) (o:=HO.ins aComes dx (zB "turns" (.int t) (zB "goal" (.ref l2) (zB "start" (.ref l) []))))
 have T3:zr o J2 (upd J2 o (HO.ins aComes dx (zB "turns" (.int t) (zB "goal" (.ref l2) (zB "start" (.ref l) []))))):=y0 o J2 _
 obtain ⟨J3,hJ3⟩:∃ J,J=upd J2 o (HO.ins aComes dx (zB "turns" (.int t) (zB "goal" (.ref l2) (zB "start" (.ref l) [])))):=⟨_,rfl⟩
 rw [<- hJ3] at o3 T3 |-
 have T13:zr o H1 J3:=T1.trans ((zC.but s2).trans (T2.trans T3))
 have T23:zr o H2 J3:=T2.trans T3
 exact q l l2 lv lv2 J3 ((zC.but s1).trans T13) (o3.trans (by rw [Kn])) (keepB ho1 T13 el (λz=>by cases z)) (zf.keepB ho1 T13 wl) (keepB o1' T23 el2 (λz=>by cases z)) (zf.keepB o1' T23 wl2)
end
section
variable {P:Program} {w:World} {K:PySem.W.Frag} {mg:Str->Option Value} {base:Heap}
noncomputable abbrev gC:Stmt:=top 39
theorem zGj:zq ["words"] ["words"] (zL gC):=.a
noncomputable abbrev gD:Stmt:=top 40
theorem zHI:zq ["room"] ["room"] (zL gD):=.a
noncomputable abbrev gE:Stmt:=top 45
theorem zGi:zq ["text","separator"] ["text","separator"] (zL gE):=.a
noncomputable abbrev gF:Stmt:=top 47
theorem zF7:zq ["text"] ["text"] (zL gF):=.a
noncomputable abbrev gG:Stmt:=top 46
theorem Uh:zq ["text","figures"] ["text"] (zL gG):=.a
noncomputable abbrev gH:Stmt:=top 48
theorem zFh:zq ["words","count"] ["words","count"] (zL gH):=.a
noncomputable abbrev qF:Stmt:=top 49
theorem zF3:zq ["text","count"] ["text","count"] (zL qF):=.a
noncomputable abbrev gI:Stmt:=top 50
theorem zHJ:zq ["text","many"] ["text","many"] (zL gI):=.a
variable {aClaim aSettles aComes aRule ab ae ac af au:Addr} (TClaim:zF K mg "Claim" aClaim) (AClaim:wY K aClaim) (TSettles:zF K mg "Settles" aSettles) (ASettles:wb K aSettles) (TComes:zF K mg "Comes" aComes) (AComes:wf K aComes) (TRule:zF K mg "Rule" aRule) (ARule:wg K aRule) (aj:zF K mg "Straight" ab) (ap:wj K ab) (ak:zF K mg "Stopped" ae) (aq:wk K ae) (ai:zF K mg "Parted" ac) (ao:wm K ac) (ag:zF K mg "Mode" af) (ah:wn K af) (am:zF K mg "Thing" au) (ar:wo K au) (Y:wp K aRule ab ae ac aClaim aSettles aComes)
include TClaim AClaim TSettles ASettles TComes AComes TRule ARule aj ap ak aq ai ao ag ah am ar Y
theorem zGp {k:Nat} {f:Addr} {fd:FuncData} (F:yC K "show_words" "show_words" gC f fd) (B:Bl mg):zJ P w K mg base zh (k + 1) f fd ["words"] (v5 K):=by
 refine F.ok zGj (λvs H Q E h=>?_) (λcdv A outer s H vs Q E hr h=>?_)
 ·obtain ⟨_,_,rfl,_⟩:=h
  rfl
 obtain ⟨a,xs,rfl,hS,n10,ok,q⟩:=h
 refine ⟨_,(zO (zY (xD PySem.F.plainAttrs_str PySem.F.slot_str_join PySem.F.type_str_join uj zu (zA (yu (own:=["word"]) (caps:=[]) (xk rfl) rfl (US (yU (L2.pv 0)) (qU (L2.pv 0))) (λ_ _ _ _=>zw (i:=0) (show (["word"]:List Str).Nodup by decide +kernel) rfl (Or.inl rfl)) (λ_ _ _ _=>(yz jY rfl B.str_ ux (zA (L2.pv 0) zD)))) zD)))),?_⟩
 try dsimp only [zQ,Cx.nox,Cx.wish]
 have jo:JoinOk yI (xs.map tx)=true:=jW (B:=100000) (λy hy=>by
  obtain ⟨x,hx,rfl⟩:=List.mem_map.mp hy
  exact Ue (ok x hx)) (by
   rw [List.length_map,uJ]
   have:=Nat.mul_le_mul n10 (Nat.le_refl (100000 + 1))
   omega)
 rcases hS with hS | hS
 ·refine ⟨rfl,.inr ⟨_,rfl,a,rfl,⟨_,hS⟩,kZ (K:=K) (a:=a) (xs:=xs) (λi ys σ H'=>ys=((xs.take i).map tx).map V.str/\(∃ o,σ=[o])/\H'=H)
    ⟨rfl,⟨none,rfl⟩,rfl⟩ (λi ys σ H' _ ⟨e,_,e2⟩=>⟨by rw [e2]; exact hS,by rw [e,List.length_map,List.length_map,List.length_take]; omega⟩) (Nat.le_of_lt (yn (by omega))) ?_ ?_⟩⟩
  ·rintro i x ys σ H' hx ⟨rfl,⟨o,rfl⟩,rfl⟩
   have st:∀ y:V,y=.str (tx x)->((xs.take i).map tx).map V.str++[y]=((xs.take (i + 1)).map tx).map V.str:=λy e=>by rw [xY hx,List.map_append,List.map_append,e]; rfl
   rcases ok x (List.mem_of_getElem? hx) with ⟨j,rfl,hj⟩ | ⟨z,rfl,hz⟩
   ·exact ⟨_,rfl,.inl ⟨j,rfl,hj,st _ rfl,⟨_,rfl⟩,rfl⟩⟩
   ·exact ⟨_,rfl,.inr ⟨z,rfl,st _ rfl,⟨_,rfl⟩,rfl⟩⟩
  rintro ys σ H' ⟨rfl,⟨o,rfl⟩,rfl⟩ l hl
  rw [List.take_length]
  exact ⟨_,l,xs.map tx,rfl,rfl,zE.of zG,jo,q _ (zK hl _)⟩
 ·refine ⟨rfl,.inl ⟨_,rfl,a,rfl,⟨_,hS⟩,yi (K:=K) (a:=a) (xs:=xs) (λi ys σ H'=>ys=((xs.take i).map tx).map V.str/\(∃ o,σ=[o])/\H'=H)
    ⟨rfl,⟨none,rfl⟩,rfl⟩ (λi ys σ H' _ ⟨e,_,e2⟩=>⟨by rw [e2]; exact hS,by rw [e,List.length_map,List.length_map,List.length_take]; omega⟩) (Nat.le_of_lt (yn (by omega))) ?_ ?_⟩⟩
  ·rintro i x ys σ H' hx ⟨rfl,⟨o,rfl⟩,rfl⟩
   have st:∀ y:V,y=.str (tx x)->((xs.take i).map tx).map V.str++[y]=((xs.take (i + 1)).map tx).map V.str:=λy e=>by rw [xY hx,List.map_append,List.map_append,e]; rfl
   rcases ok x (List.mem_of_getElem? hx) with ⟨j,rfl,hj⟩ | ⟨z,rfl,hz⟩
   ·exact ⟨_,rfl,.inl ⟨j,rfl,hj,st _ rfl,⟨_,rfl⟩,rfl⟩⟩
   ·exact ⟨_,rfl,.inr ⟨z,rfl,st _ rfl,⟨_,rfl⟩,rfl⟩⟩
  rintro ys σ H' ⟨rfl,⟨o,rfl⟩,rfl⟩ l hl
  rw [List.take_length]
  exact ⟨_,l,xs.map tx,rfl,rfl,zE.of zG,jo,q _ (zK hl _)⟩
theorem zHP {k:Nat} {f:Addr} {fd:FuncData} (F:yC K "show_room" "show_room" gD f fd) (B:Bl mg) (aw:Fn P w K mg base "show_words" ["words"] k (v5 K)):zJ P w K mg base zh (k + 1) f fd ["room"] (qm K):=by
 refine F.ok zHI (λvs H Q E h=>?_) (λcdv A outer s H vs Q E hr h=>?_)
 ·obtain ⟨_,_,_,_,rfl,_⟩:=h
  rfl
 obtain ⟨a,rv,room,n,rfl,ha,hrv,RT,q⟩:=h
 refine ⟨_,(zM (zo (yK xB (zm xq rfl B.len_ xc (zA (L2.pv 0) zD)) zH (zp _)) (zO (zY (jZ rfl B.NO_ROWS_))) yA)
  (zO (zY (xD PySem.F.plainAttrs_str PySem.F.slot_str_join PySem.F.type_str_join uj (jZ rfl B.ROW_BREAK_) (zA (yu (own:=["row"]) (caps:=[]) (xk rfl) rfl (yU (L2.pv 0)) (λ_ _ _ _=>zw (i:=0) (show (["row"]:List Str).Nodup by decide +kernel) rfl (Or.inl rfl)) (λ_ _ _ _=>(zR aw hr rfl (zA (L2.pv 0) zD)))) zD))))),?_⟩
 try dsimp only [zQ,Cx.nox,Cx.wish]
 have lr:rv.length=room.length:=Paired.length hrv
 obtain ⟨r6,n4,rok⟩:=id RT
 refine ⟨_,rfl,a,_,rfl,.inl ha,rfl,_,rfl,?_⟩
 by_cases e0:room=[]
 ·refine xG (jP (by rw [lr,e0]; rfl)) ?_
  have z:=q _ (zC.refl H)
  rw [show yq room=_ from if_pos e0] at z
  exact z
 ·have hpos:0 < room.length:=List.length_pos_iff.mpr e0
  refine yH (decide_eq_false λz=>by have:=V.int.inj z; omega) ?_
  have jo:JoinOk jX (room.map sW)=true:=jW (B:=248) (λy hy=>by
   obtain ⟨x,hx,rfl⟩:=List.mem_map.mp hy
   exact jb (rok x hx).1 n4 (rok x hx).2) (by
    rw [List.length_map,qB]
    have:=Nat.mul_le_mul r6 (Nat.le_refl (248 + 2))
    omega)
  refine ⟨rfl,_,rfl,a,rfl,⟨_,ha⟩,yi (K:=K) (a:=a) (xs:=rv) (λi ys σ H'=>ys=((room.take i).map sW).map V.str/\(∃ o,σ=[o])/\zC H H')
   ⟨rfl,⟨none,rfl⟩,zC.refl _⟩ (λi ys σ H' _ ⟨e,_,sm⟩=>⟨sm.seq ha,by rw [e,List.length_map,List.length_map,List.length_take]; omega⟩) (Nat.le_of_lt (yn (by omega))) ?_ ?_⟩
  ·rintro i x ys σ H' hx ⟨rfl,⟨o,rfl⟩,sm⟩
   obtain ⟨r,hr',t,rfl,ht⟩:=yp hrv hx
   obtain ⟨rl,rb⟩:=rok r (List.mem_of_getElem? hr')
   refine ⟨_,rfl,t,r.map V.int,rfl,.inl (zW.of (sm _ _ ht)),(by rw [List.length_map]; omega),(λx hx=>?_),λH3 s3=>⟨?_,⟨_,rfl⟩,sm.trans s3⟩⟩
   ·obtain ⟨j,hj,rfl⟩:=List.mem_map.mp hx
    exact .inl ⟨j,rfl,rb j hj⟩
   ·rw [xY hr',List.map_append,List.map_append,ul]
    rfl
  rintro ys σ H' ⟨rfl,⟨o,rfl⟩,sm⟩ l hl
  rw [lr,List.take_length]
  have z:=q _ (sm.trans (zK hl (HO.lst ((room.map sW).map V.str))))
  rw [show yq room=_ from if_neg e0] at z
  exact ⟨_,l,room.map sW,rfl,rfl,zE.of zG,jo,z⟩
theorem zGo {k:Nat} {f:Addr} {fd:FuncData} (F:yC K "split_text" "split_text" gE f fd) (B:Bl mg):zJ P w K mg base zh (k + 1) f fd ["text","separator"] qo:=by
 refine F.ok zGi (λvs H Q E h=>?_) (λcdv A outer s H vs Q E hr h=>?_)
 ·obtain ⟨_,_,rfl,_⟩:=h
  rfl
 obtain ⟨z,y,rfl,hy,hz,q⟩:=h
 refine ⟨_,(zM (zo (xO (yX (zm wT rfl B.isinstance_ yo (zA (L2.pv 0) (zA (wQ (v:=.ty "str") (u:=.type "str") rfl B.str_ ux rfl) zD))))) (zO vD) yA)
  (zO (zY (xD PySem.F.plainAttrs_str PySem.F.slot_str_split PySem.F.type_str_split Zx (L2.pv 0) (zA (L2.pv 1) zD))))),?_⟩
 try dsimp only [zQ,Cx.nox,Cx.wish]
 have l16:=jH
 refine ⟨_,rfl,_,_,_,_,rfl,.str _,KH _,_,rfl,zX ?_⟩
 exact ⟨_,rfl,rfl,_,rfl,z,y,rfl,rfl,hy,by omega,λp hp=>q p _ (zK hp _) hp zG⟩
theorem zGD {k:Nat} {f:Addr} {fd:FuncData} (F:yC K "are_figures" "are_figures" gF f fd) (B:Bl mg):zJ P w K mg base zh (k + 1) f fd ["text"] XU:=by
 refine F.ok zF7 (λvs H Q E h=>?_) (λcdv A outer s H vs Q E hr h=>?_)
 ·obtain ⟨_,rfl,_⟩:=h
  rfl
 obtain ⟨i,rfl,i0,ni,q⟩:=h
 refine ⟨_,(zM (zo (PW.pt (xZ (yK jM (zm Wh rfl B.len_ xc (zA (L2.pv 0) zD)) zH (zp _)) (xZ (yK Zc (zm Wh rfl B.len_ xc (zA (L2.pv 0) zD)) (Zl rfl B.MOST_FIGURES_) (zp _)) (wR (xO (yX (zm (ju rfl) rfl B.all_ jw (zA (yu (own:=["sign"]) (caps:=[]) (xk rfl) rfl (KC (L2.pv 0)) (λ_ _ _ _=>zw (i:=0) (show (["sign"]:List Str).Nodup by decide +kernel) rfl (Or.inl rfl)) (λ_ _ _ _=>(ub Jk (L2.pv 0) (jZ rfl B.FIGURES_) (by rfl)))) zD)))))))) (zO (zY xy)) yA)
  (zO (zY (kC (ub xB (L2.pv 0) zu (zp _)) (uZ (WE (xD PySem.F.plainAttrs_str PySem.F.slot_str_startswith PySem.F.type_str_startswith UR (L2.pv 0) (zA zu zD)))))))),?_⟩
 try dsimp only [zQ,Cx.nox,Cx.wish]
 obtain ⟨l1,l60⟩:=Kl i0 ni
 have l16:=jH
 refine ⟨_,rfl,_,rfl,(by omega),_,_,rfl,rfl,_,rfl,yH (decide_eq_false (by omega)) ?_⟩
 refine ⟨_,rfl,_,rfl,(by omega),_,_,rfl,rfl,_,rfl,yH (decide_eq_false (by omega)) ?_⟩
 refine ⟨_,rfl,sN i,rfl,UJ i,KD (z:=sN i) (λj ys σ H'=>ys=(List.replicate j true).map V.bl/\(∃ o,σ=[o])/\H'=H)
  ⟨rfl,⟨none,rfl⟩,rfl⟩ (λj ys σ H' ⟨e,_⟩=>by rw [e,List.length_map,List.length_replicate]; exact Nat.le_refl _) (by rw [Kk]; omega) ?_ ?_⟩
 ·rintro j c ys σ H' hc ⟨rfl,⟨o,rfl⟩,rfl⟩
  have hm:c∈(sN i).cps.toList:=List.mem_of_getElem? (i:=j) (by rw [Array.getElem?_toList]; exact hc)
  rw [uH i0] at hm
  refine ⟨_,rfl,_,_,rfl,rfl,?_,⟨_,rfl⟩,rfl⟩
  rw [Q7 (qh _ c hm),List.replicate_succ',List.map_append]
  rfl
 rintro ys σ H' ⟨rfl,⟨o,rfl⟩,rfl⟩ l hl
 refine ⟨l,List.replicate (sN i).cps.size true,rfl,zE.of zG,?_⟩
 rw [Kj]
 refine ⟨_,rfl,zX ?_⟩
 have sm:=zK hl (HO.lst ((List.replicate (sN i).cps.size true).map V.bl))
 by_cases h0:i=0
 ·subst h0
  exact ⟨_,rfl,rfl,_,rfl,xG (decide_eq_true (by rw [Q5])) (q _ sm)⟩
 ·refine ⟨_,rfl,rfl,_,rfl,yH (decide_eq_false λz=>Q6 (by omega) (V.str.inj z)) ?_⟩
  refine ⟨_,rfl,rfl,_,_,rfl,rfl,_,rfl,?_⟩
  show Q (V.bl (!Txt.startswith (sN i) (Str.ofString "0"))) _
  rw [Q3 (by omega)]
  exact q _ sm
theorem zGA {k:Nat} {f:Addr} {fd:FuncData} (F:yC K "read_number" "read_number" gG f fd) (B:Bl mg) (di:Fn P w K mg base "are_figures" ["text"] k XU):zJ P w K mg base zh (k + 1) f fd ["text"] ZL:=by
 refine F.ok Uh (λvs H Q E h=>?_) (λcdv A outer s H vs Q E hr h=>?_)
 ·obtain ⟨_,rfl,_⟩:=h
  rfl
 obtain ⟨i,rfl,ni,q⟩:=h
 refine ⟨_,(zM (yG (i:=1) Uh.nd rfl (Or.inl rfl) (JX (yX (xD PySem.F.plainAttrs_str PySem.F.slot_str_startswith PySem.F.type_str_startswith UR (L2.pv 0) (zA zu zD))) (xW KF (L2.pv 0) (yh zH) vh) (L2.pv 0)))
  (zM (zo (PW.pt (xZ (xO (yX (zR di hr rfl (zA (L2.pv 1) zD)))) (wR (yK xB (L2.pv 0) zu (zp _))))) (zO vD) yA)
  (zO (zY (yz KG rfl B.int_ Ws (zA (L2.pv 0) zD)))))),?_⟩
 try dsimp only [zQ,Cx.nox,Cx.wish]
 have l16:=jH
 have ll:=(jV ni).2
 by_cases h0:i < 0
 ·refine ⟨_,rfl,rfl,_,_,rfl,rfl,_,rfl,xG (Q1 h0) ?_⟩
  refine ⟨_,rfl,_,rfl,sN i,1,rfl,rfl,rfl,(by omega),?_⟩
  rw [Q4 h0]
  refine ⟨_,rfl,-i,rfl,(by omega),(show (-i).natAbs < 10 ^ 60 by rw [Int.natAbs_neg]; exact ni),λH1 s1=>⟨_,rfl,zX ?_⟩⟩
  refine ⟨_,rfl,rfl,_,rfl,yH (decide_eq_false λz=>UO i (V.str.inj z)) ?_⟩
  exact ⟨_,rfl,i,rfl,ni,q _ s1⟩
 ·refine ⟨_,rfl,rfl,_,_,rfl,rfl,_,rfl,yH (Q2 (by omega)) ?_⟩
  refine ⟨_,rfl,_,rfl,i,rfl,(by omega),ni,λH1 s1=>⟨_,rfl,zX ?_⟩⟩
  refine ⟨_,rfl,rfl,_,rfl,yH (decide_eq_false λz=>UO i (V.str.inj z)) ?_⟩
  exact ⟨_,rfl,i,rfl,ni,q _ s1⟩
theorem zFn {k:Nat} {f:Addr} {fd:FuncData} (F:yC K "read_numbers" "read_numbers" gH f fd) (B:Bl mg) (aH:Fn P w K mg base "read_number" ["text"] k ZL):zJ P w K mg base zh (k + 1) f fd ["words","count"] (Z1 K):=by
 refine F.ok zFh (λvs H Q E h=>?_) (λcdv A outer s H vs Q E hr h=>?_)
 ·obtain ⟨_,_,rfl,_⟩:=h
  rfl
 obtain ⟨a,ns,rfl,ha,n10,ok,q⟩:=h
 refine ⟨_,(zM (zo (yK vf (zm xq rfl B.len_ xc (zA (L2.pv 0) zD)) (L2.pv 1) (zp _)) (zO vD) yA)
  (zO (zY (yu (own:=["word"]) (caps:=[]) (xk rfl) rfl (yU (L2.pv 0)) (λ_ _ _ _=>zw (i:=0) (show (["word"]:List Str).Nodup by decide +kernel) rfl (Or.inl rfl)) (λ_ _ _ _=>(zR aH hr rfl (zA (L2.pv 0) zD))))))),?_⟩
 try dsimp only [zQ,Cx.nox,Cx.wish]
 refine ⟨_,rfl,a,_,rfl,.inl ha,_,rfl,rfl,_,rfl,yH (qc (by rw [List.length_map,List.length_map])) ?_⟩
 refine ⟨_,rfl,a,rfl,⟨_,ha⟩,yi (K:=K) (a:=a) (xs:=(ns.map sN).map V.str) (λi ys σ H'=>ys=(ns.take i).map V.int/\(∃ o,σ=[o])/\zC H H')
  ⟨rfl,⟨none,rfl⟩,zC.refl _⟩ (λi ys σ H' _ ⟨e,_,sm⟩=>⟨sm.seq ha,by rw [e,List.length_map,List.length_take]; omega⟩) (by rw [List.length_map,List.length_map]; exact Nat.le_of_lt (yn (by omega))) ?_ ?_⟩
 ·rintro i x ys σ H' hx ⟨rfl,⟨o,rfl⟩,sm⟩
  obtain ⟨n,hn,rfl⟩:∃ n,ns[i]? = some n/\x=V.str (sN n):=by
   rw [List.getElem?_map,List.getElem?_map] at hx
   cases e:ns[i]? with
   | none=>rw [e] at hx; cases hx
   | some n=>rw [e] at hx; exact ⟨n,rfl,(Option.some.inj hx).symm⟩
  refine ⟨_,rfl,n,rfl,ok n (List.mem_of_getElem? hn),λH3 s3=>⟨?_,⟨_,rfl⟩,sm.trans s3⟩⟩
  rw [xY hn,List.map_append]
  rfl
 rintro ys σ H' ⟨rfl,⟨o,rfl⟩,sm⟩ l hl
 have e:((ns.map sN).map V.str).length=ns.length:=by rw [List.length_map,List.length_map]
 rw [e,List.take_length]
 exact q l _ (sm.trans (zK hl _)) (sm.free hl) zG
theorem zF9 {k:Nat} {f:Addr} {fd:FuncData} (F:yC K "read_tuples" "read_tuples" qF f fd) (B:Bl mg) (aD:Fn P w K mg base "split_text" ["text","separator"] k qo) (aQ:Fn P w K mg base "read_numbers" ["words","count"] k (Z1 K)):zJ P w K mg base zh (k + 1) f fd ["text","count"] XV:=by
 refine F.ok zF3 (λvs H Q E h=>?_) (λcdv A outer s H vs Q E hr h=>?_)
 ·obtain ⟨_,_,rfl,_⟩:=h
  rfl
 obtain ⟨room,n,rfl,n1,h0,RT,q⟩:=h
 refine ⟨_,(zO (zY (yu (own:=["part"]) (caps:=[(1,"count")]) (xr (S:=zL qF) (N:=["text","count"]) rfl (by decide +kernel) rfl ⟨_,rfl⟩ rfl (by decide +kernel) (by decide +kernel)) rfl (yU (zR aD hr rfl (zA (L2.pv 0) (zA (jZ rfl B.ROW_BREAK_) zD)))) (λ_ _ _ _=>zw (i:=0) (show (["part","count"]:List Str).Nodup by decide +kernel) rfl (Or.inl rfl)) (λ_ _ _ _=>(yz (show ya _ _ (λxs H Q=>∃ p ys,xs=[V.ref p]/\((zE K H p ys/\∀ l,H l=none->Q (V.ref l) (upd H l (HO.tup ys)))\/(zW K H p ys/\Q (V.ref p) H))) from ue) rfl B.tuple_ ww (zA (zR aQ hr rfl (zA (show PE _ _ (Yn K _ _ _ _) from xD PySem.F.plainAttrs_str PySem.F.slot_str_split PySem.F.type_str_split Zx (L2.pv 0) (zA zu zD)) (zA (L2.pv 1) zD))) zD)))))),?_⟩
 try dsimp only [zQ,Cx.nox,Cx.wish]
 have ll:=Uf RT
 have l16:=jH
 obtain ⟨r6,n4,rok⟩:=id RT
 refine ⟨_,rfl,sR room,_,rfl,(by decide +kernel),(by omega),λa H1 s1 ha0 ha=>?_⟩
 rw [show Txt.split (sR room) (Str.ofString ", ")=room.map sW from KA h0] at ha
 have el:((room.map sW).map V.str).length=room.length:=by rw [List.length_map,List.length_map]
 refine ⟨a,rfl,⟨_,zE.of ha⟩,yi (K:=K) (a:=a) (xs:=(room.map sW).map V.str) (λi ys σ H'=>zf H' ys (room.take i)/\(∃ o,σ=[o,some (.int (n:Int))])/\zC H1 H')
  ⟨.nil,⟨none,rfl⟩,zC.refl _⟩ (λi ys σ H' _ ⟨e,_,sm⟩=>⟨zE.of (sm _ _ ha),by have:=Paired.length e; rw [List.length_take] at this; omega⟩) (by rw [el]; exact Nat.le_of_lt (yn (by omega))) ?_ ?_⟩
 ·rintro i x ys σ H' hx ⟨hz,⟨o,rfl⟩,sm⟩
  obtain ⟨r,hr',rfl⟩:∃ r,room[i]? = some r/\x=V.str (sW r):=by
   rw [List.getElem?_map,List.getElem?_map] at hx
   cases e:room[i]? with
   | none=>rw [e] at hx; cases hx
   | some n=>rw [e] at hx; exact ⟨n,rfl,(Option.some.inj hx).symm⟩
  obtain ⟨rl,rb⟩:=rok r (List.mem_of_getElem? hr')
  have lw:=jb rl n4 rb
  refine ⟨_,rfl,rfl,sW r,yI,rfl,rfl,(by decide +kernel),(by omega),λb hb=>?_⟩
  have z2:=zK hb (HO.lst ((Txt.split (sW r) yI).map V.str))
  have eb:=zG (H:=H') (a:=b) (o:=HO.lst ((Txt.split (sW r) yI).map V.str))
  rw [Q9 (by intro z; rw [z] at rl; have:(0:Nat)=n:=rl; omega)] at z2 eb |-
  refine ⟨_,rfl,b,r,(by rw [rl]; rfl),zE.of eb,(by omega),rb,λc H3 s3 hc0 hc=>?_⟩
  refine ⟨c,_,rfl,.inl ⟨zE.of hc,λt ht=>?_⟩⟩
  have z4:=z2.trans (s3.trans (zK ht (HO.tup (r.map V.int))))
  refine ⟨?_,⟨_,rfl⟩,sm.trans z4⟩
  rw [xY hr']
  exact Z2 zG (zf.same z4 hz)
 rintro ys σ H' ⟨hz,⟨o,rfl⟩,sm⟩ l hl
 rw [el,List.take_length] at hz
 exact q l ys _ (s1.trans (sm.trans (zK hl _))) ((s1.trans sm).free hl) zG (zf.same (zK hl _) hz)
theorem zHR {k:Nat} {f:Addr} {fd:FuncData} (F:yC K "read_room" "read_room" gI f fd) (B:Bl mg) (dj:Fn P w K mg base "read_tuples" ["text","count"] k XV):zJ P w K mg base zh (k + 1) f fd ["text","many"] XW:=by
 refine F.ok zHJ (λvs H Q E h=>?_) (λcdv A outer s H vs Q E hr h=>?_)
 ·obtain ⟨_,_,rfl,_⟩:=h
  rfl
 obtain ⟨room,n,rfl,RT,q⟩:=h
 refine ⟨_,(zM (zo (yK xB (L2.pv 0) (jZ rfl B.NO_ROWS_) (zp _)) (zO (zY (ye zD))) yA)
  (zO (zY (zR dj hr rfl (zA (L2.pv 0) (zA (zP yS (L2.pv 1) zH) zD)))))),?_⟩
 try dsimp only [zQ,Cx.nox,Cx.wish]
 by_cases h0:room=[]
 ·rw [show yq room=_ from if_pos h0]
  refine ⟨_,rfl,rfl,_,rfl,xG (decide_eq_true rfl) ?_⟩
  refine ⟨(by show 0<=sizeLine; decide),λl hl=>?_⟩
  exact q l [] _ (zK hl _) hl zG (by rw [h0]; exact .nil)
 ·rw [show yq room=_ from if_neg h0]
  refine ⟨_,rfl,rfl,_,rfl,yH (decide_eq_false λz=>ZC h0 (V.str.inj z)) ?_⟩
  exact ⟨_,rfl,_,rfl,_,_,rfl,rfl,room,n + 1,rfl,(by omega),h0,RT,q⟩
end
theorem vP {i:Int} (h:Nm i):v4 (.int i):=.inl ⟨i,rfl,h⟩
theorem vj {z:Str} (h:z.length<=100000):v4 (.str z):=.inr ⟨z,rfl,h⟩
theorem vk:∀ x∈([]:List V),v4 x:=λ_ h=>by cases h
theorem xJ {v:V} {vs:List V} (h:v4 v) (t:∀ x∈vs,v4 x):∀ x∈v :: vs,v4 x:=λx hx=>by
 rcases List.mem_cons.mp hx with e | e
 ·rw [e]; exact h
 ·exact t x e
theorem uK {ns:List Int} (h:∀ x∈ns,Nm x):∀ x∈ns.map V.int,v4 x:=λx hx=>by
 obtain ⟨j,hj,rfl⟩:=List.mem_map.mp hx
 exact vP (h j hj)
theorem qG {a b:List V} (h:∀ x∈a,v4 x) (t:∀ x∈b,v4 x):∀ x∈a++b,v4 x:=λx hx=>(List.mem_append.mp hx).elim (h x) (t x)
theorem qH (a b:List V):(a++b).map tx=a.map tx++b.map tx:=List.map_append
theorem yT {n:Nat} (h:n<=900):n<=sizeLine:=Nat.le_of_lt (yn (by omega))
noncomputable def xK (n:Nat) (t:RT):Prop:=n<=3/\uI n t/\(wd t).length<=70
theorem xK.stp {n:Nat} {t:RT} {lo hi:Int} (h:xK n (.stp t lo hi)):xK n t:=⟨h.1,h.2.1.1,by have z:(wd t).length + 1 + 1 + 1<=70:=h.2.2; omega⟩
theorem xK.prt {n:Nat} {r:List Int} {x y:RT} (h:xK n (.prt r x y)):xK n x/\xK n y:=by
 have z:(r.map Wd.num++(wd x++wd y)).length + 1<=70:=h.2.2
 rw [List.length_append,List.length_append] at z
 exact ⟨⟨h.1,h.2.1.2.1,by omega⟩,⟨h.1,h.2.1.2.2,by omega⟩⟩
theorem xK.len {n:Nat} {t:RT} (h:xK n t):(xX t).length<=100000:=Nat.le_trans (UZ h.2.1 h.2.2) (by decide)
noncomputable def uL (C1 C2 C3:Addr) (d:Nat):Sp:=λvs H Q _=>∃ (v:V) (n:Nat) (t:RT),vs=[v]/\t.dep<=d/\yx C1 C2 C3 H v t/\xK n t/\∀ H',zC H H'->Q (.str (xX t)) H'
theorem zHq {C1 C2 C3:Addr}:∀ vs H Q E,¬ uL C1 C2 C3 0 vs H Q E:=by
 rintro _ _ _ _ ⟨_,_,t,_,h,_⟩
 have:=t.dep_pos
 omega
noncomputable def XY (CS CC:Addr):Sp:=λvs H Q _=>∃ (v:V) (k:Bool) (ss rs:List (List Int)) (t:Int) (o dx sa ra:Addr) (sv rv:List V) (n:Nat),vs=[v]/\Ug CS CC H k v ss rs t o dx sa ra sv rv/\vY n ss/\vY n rs/\Nm t/\∀ H',zC H H'->Q (.str (jE k t ss rs)) H'
theorem jd {n:Nat} {room:List (List Int)} (h:vY n room):(yq room).length<=1500:=by
 unfold yq
 split
 ·decide +kernel
 ·exact Uf h
theorem Z3 {k:Bool} {t:Int} (h:Nm t):(v3 k t).length<=1500:=by
 have z:=(XT k).2.2
 have y:=(jV h).2
 show (wP k++yI++sN t).length<=_
 rw [Str.length_append,Str.length_append,uJ]
 omega
theorem Ui {a b c:Str} (h1:a.length<=1500) (h2:b.length<=1500) (h3:c.length<=1500):JoinOk yj [a,b,c]=true:=
 jW (B:=1500) (λq hq=>by
  simp only [List.mem_cons,List.not_mem_nil,or_false] at hq
  rcases hq with e | e | e <;> rw [e] <;> assumption) (by show 3 * (1500 + yj.length)<=_; rw [show yj.length=3 by decide +kernel]; decide)
theorem XZ {n:Nat} {k:Bool} {t:Int} {ss rs:List (List Int)} (h1:vY n ss) (h2:vY n rs) (h:Nm t):(jE k t ss rs).length<=5000:=by
 have a:=Z3 (k:=k) h
 have b:=jd h1
 have c:=jd h2
 show (v3 k t++yj++(yq ss++yj++yq rs)).length<=_
 rw [Str.length_append,Str.length_append,Str.length_append,Str.length_append,show yj.length=3 by decide +kernel]
 omega
section
variable {P:Program} {w:World} {K:PySem.W.Frag} {mg:Str->Option Value} {base:Heap}
noncomputable abbrev gJ:Stmt:=top 41
theorem zHH:zq ["rule"] ["rule"] (zL gJ):=.a
noncomputable abbrev gK:Stmt:=top 42
theorem zGk:zq ["claim"] ["claim"] (zL gK):=.a
variable {aClaim aSettles aComes aRule ab ae ac af au:Addr} (TClaim:zF K mg "Claim" aClaim) (AClaim:wY K aClaim) (TSettles:zF K mg "Settles" aSettles) (ASettles:wb K aSettles) (TComes:zF K mg "Comes" aComes) (AComes:wf K aComes) (TRule:zF K mg "Rule" aRule) (ARule:wg K aRule) (aj:zF K mg "Straight" ab) (ap:wj K ab) (ak:zF K mg "Stopped" ae) (aq:wk K ae) (ai:zF K mg "Parted" ac) (ao:wm K ac) (ag:zF K mg "Mode" af) (ah:wn K af) (am:zF K mg "Thing" au) (ar:wo K au) (Y:wp K aRule ab ae ac aClaim aSettles aComes)
include TClaim AClaim TSettles ASettles TComes AComes TRule ARule aj ap ak aq ai ao ag ah am ar Y
theorem gL {k:Nat} {f:Addr} {fd:FuncData} {d:Nat} (F:yC K "show_rule" "show_rule" gJ f fd) (B:Bl mg) (aw:Fn P w K mg base "show_words" ["words"] k (v5 K)) (aI:Fn P w K mg base "show_rule" ["rule"] k (uL ab ae ac d)):zJ P w K mg base zh (k + 1) f fd ["rule"] (uL ab ae ac (d + 1)):=by
 refine F.ok zHH (λvs H Q E h=>?_) (λcdv A outer s H vs Q E hr h=>?_)
 ·obtain ⟨_,_,_,rfl,_⟩:=h
  rfl
 obtain ⟨v,n,t,rfl,dp,hR,RO,q⟩:=h
 refine ⟨_,(zM (zo (yX (zm (show ya _ _ (wW K) from wz) rfl B.isinstance_ yo (zA (L2.pv 0) (zA (wy ak rfl) zD)))) (zO (zY (zR aw hr rfl (zA (ye (zA zu (zA (yN (L2.pv 0) rfl) (zA (yN (L2.pv 0) rfl) (zA (zR aI hr rfl (zA (yN (L2.pv 0) rfl) zD)) zD))))) zD)))) yA)
  (zM (zo (yX (zm (show ya _ _ (wW K) from wz) rfl B.isinstance_ yo (zA (L2.pv 0) (zA (wy ai rfl) zD)))) (zO (zY (zR aw hr rfl (zA (ye (zA zu (zA (zR aw hr rfl (zA (yN (L2.pv 0) rfl) zD)) (zA (zR aI hr rfl (zA (yN (L2.pv 0) rfl) zD)) (zA (zR aI hr rfl (zA (yN (L2.pv 0) rfl) zD)) zD))))) zD)))) yA)
  (zO (zY (zR aw hr rfl (zA (zP vI (zP vI (ye (zA zu zD)) (yN (L2.pv 0) rfl)) (ye (zA (yN (L2.pv 0) rfl) (zA (yN (L2.pv 0) rfl) zD)))) zD)))))),?_⟩
 try dsimp only [zQ,Cx.nox,Cx.wish]
 cases t with
 | str ns a d0=>
  obtain ⟨o,dx,la,rfl,ins,ela⟩:=hR
  obtain ⟨n3,⟨ln,nn,na,nd⟩,_⟩:=id RO
  refine ⟨_,rfl,_,_,_,_,rfl,(aj.ty ins),Y.k12,_,rfl,zX ?_⟩
  refine ⟨_,rfl,_,_,_,_,rfl,(aj.ty ins),Y.k13,_,rfl,zX ?_⟩
  refine ⟨(by show 1<=sizeLine; decide),λl1 h1=>?_⟩
  have z1:=zK h1 (HO.lst [V.str wH])
  refine ⟨_,rfl,o,ab,dx,_,_,rfl,(z1 _ _ ins),aj.cl,ap.n_numbers,rfl,l1,la,_,_,rfl,rfl,zG,z1 _ _ ela,yT (by rw [List.length_map]; show 1 + ns.length<=900; omega),λl2 h2=>?_⟩
  have z2:=z1.trans (zK h2 (HO.lst ([V.str wH]++ns.map V.int)))
  refine ⟨_,rfl,o,ab,dx,_,_,rfl,(z2 _ _ ins),aj.cl,ap.n_add,rfl,_,rfl,o,ab,dx,_,_,rfl,(z2 _ _ ins),aj.cl,ap.n_divisor,rfl,(by show 2<=sizeLine; decide),λl3 h3=>?_⟩
  have y3:=zK h3 (HO.lst [V.int a,V.int d0])
  refine ⟨l2,l3,_,_,rfl,rfl,y3 _ _ zG,zG,yT (by rw [List.length_append,List.length_map]; show 1 + ns.length + 2<=900; omega),λl4 h4=>?_⟩
  refine ⟨l4,_,rfl,.inr (zE.of zG),(by rw [List.length_append,List.length_append,List.length_map]; show 1 + ns.length + 2<=12; omega),qG (qG (xJ (vj (by decide +kernel)) vk) (uK nn)) (xJ (vP na) (xJ (vP nd) vk)),λH5 s5=>?_⟩
  have z:=q H5 ((z2.trans y3).trans ((zK h4 _).trans s5))
  rw [UV,List.map_append] at z
  rw [qH,qH,ul]
  exact z
 | stp t1 lo hi=>
  obtain ⟨o,dx,u,rfl,ins,hu⟩:=hR
  refine ⟨_,rfl,_,_,_,_,rfl,(ak.ty ins),uh,_,rfl,yd ?_⟩
  refine ⟨_,rfl,o,ae,dx,_,_,rfl,ins,ak.cl,aq.n_low,rfl,_,rfl,o,ae,dx,_,_,rfl,ins,ak.cl,aq.n_high,rfl,_,rfl,o,ae,dx,_,_,rfl,ins,ak.cl,aq.n_rule,rfl,u,n,t1,rfl,Nat.le_of_succ_le_succ dp,hu,RO.stp,λH1 s1=>?_⟩
  refine ⟨(by show 4<=sizeLine; decide),λl1 h1=>?_⟩
  refine ⟨l1,_,rfl,.inr (zE.of zG),(by show 4<=12; decide),xJ (vj (by decide +kernel)) (xJ (vP RO.2.1.2.1) (xJ (vP RO.2.1.2.2) (xJ (vj RO.stp.len) vk))),λH2 s2=>?_⟩
  have z:=q H2 (s1.trans ((zK h1 _).trans s2))
  rw [<- KP] at z
  exact z
 | prt r x y=>
  obtain ⟨o,dx,ra,u,w2,rfl,ins,era,hu,hw⟩:=hR
  have dp2:max x.dep y.dep<=d:=Nat.le_of_succ_le_succ dp
  obtain ⟨n3,⟨⟨rl,rn⟩,_⟩,_⟩:=id RO
  refine ⟨_,rfl,_,_,_,_,rfl,(ai.ty ins),Y.k32,_,rfl,zX ?_⟩
  refine ⟨_,rfl,_,_,_,_,rfl,(ai.ty ins),uh,_,rfl,yd ?_⟩
  refine ⟨_,rfl,o,ac,dx,_,_,rfl,ins,ai.cl,ao.n_row,rfl,ra,r.map V.int,rfl,.inl (zW.of era),(by rw [List.length_map]; omega),uK rn,λH1 s1=>?_⟩
  refine ⟨_,rfl,o,ac,dx,_,_,rfl,(s1 _ _ ins),ai.cl,ao.n_rule,rfl,u,n,x,rfl,(by omega),hu.same s1,RO.prt.1,λH2 s2=>?_⟩
  have s12:=s1.trans s2
  refine ⟨_,rfl,o,ac,dx,_,_,rfl,(s12 _ _ ins),ai.cl,ao.n_other,rfl,w2,n,y,rfl,(by omega),hw.same s12,RO.prt.2,λH3 s3=>?_⟩
  refine ⟨(by show 4<=sizeLine; decide),λl1 h1=>?_⟩
  rw [ul]
  refine ⟨l1,_,rfl,.inr (zE.of zG),(by show 4<=12; decide),xJ (vj (by decide +kernel)) (xJ (vj ?_) (xJ (vj RO.prt.1.len) (xJ (vj RO.prt.2.len) vk))),λH4 s4=>?_⟩
  ·exact Nat.le_trans (jb rl (by omega) rn) (by decide)
  have z:=q H4 (s12.trans (s3.trans ((zK h1 _).trans s4)))
  rw [<- UY _ _ _ (by intro e; rw [e] at rl; cases rl)] at z
  exact z
theorem zGr {k:Nat} {f:Addr} {fd:FuncData} (F:yC K "show_claim" "show_claim" gK f fd) (B:Bl mg) (aO:Fn P w K mg base "show_room" ["room"] k (qm K)) (aw:Fn P w K mg base "show_words" ["words"] k (v5 K)):zJ P w K mg base zh (k + 1) f fd ["claim"] (XY aSettles aComes):=by
 refine F.ok zGk (λvs H Q E h=>?_) (λcdv A outer s H vs Q E hr h=>?_)
 ·obtain ⟨_,_,_,_,_,_,_,_,_,_,_,_,rfl,_⟩:=h
  rfl
 obtain ⟨v,k,ss,rs,t,o,dx,sa,ra,sv,rv,n,rfl,hc,R1,R2,nt,q⟩:=h
 refine ⟨_,(zM (zo (yX (zm (show ya _ _ (wW K) from wz) rfl B.isinstance_ yo (zA (L2.pv 0) (zA (wy TSettles rfl) zD)))) (zO (zY (xD PySem.F.plainAttrs_str PySem.F.slot_str_join PySem.F.type_str_join uj (jZ rfl B.PART_BREAK_) (zA (ye (zA (zR aw hr rfl (zA (ye (zA zu (zA (yN (L2.pv 0) rfl) zD))) zD)) (zA (zR aO hr rfl (zA (yN (L2.pv 0) rfl) zD)) (zA (zR aO hr rfl (zA (yN (L2.pv 0) rfl) zD)) zD)))) zD)))) yA)
  (zO (zY (xD PySem.F.plainAttrs_str PySem.F.slot_str_join PySem.F.type_str_join uj (jZ rfl B.PART_BREAK_) (zA (ye (zA (zR aw hr rfl (zA (ye (zA zu (zA (yN (L2.pv 0) rfl) zD))) zD)) (zA (zR aO hr rfl (zA (yN (L2.pv 0) rfl) zD)) (zA (zR aO hr rfl (zA (yN (L2.pv 0) rfl) zD)) zD)))) zD))))),?_⟩
 try dsimp only [zQ,Cx.nox,Cx.wish]
 obtain ⟨rfl,ins,hs,hsv,hr',hrv⟩:=hc
 cases k with
 | true=>
  have ins:H o=some (.ins aSettles dx (wq (.ref sa) (.ref ra) t)):=ins
  refine ⟨_,rfl,_,_,_,_,rfl,(TSettles.ty ins),uh,_,rfl,yd ?_⟩
  refine ⟨rfl,_,rfl,o,aSettles,dx,_,_,rfl,ins,TSettles.cl,ASettles.n_turn,rfl,(by show 2<=sizeLine; decide),λl1 h1=>?_⟩
  have z1:=zK h1 (HO.lst [V.str (wP true),V.int t])
  refine ⟨l1,_,rfl,.inr (zE.of zG),(by show 2<=12; decide),xJ (vj (by decide +kernel)) (xJ (vP nt) vk),λH2 s2=>?_⟩
  have y2:=z1.trans s2
  refine ⟨_,rfl,o,aSettles,dx,_,_,rfl,(y2 _ _ ins),TSettles.cl,ASettles.n_start,rfl,sa,sv,ss,n,rfl,zE.of (y2 _ _ hs),zf.same y2 hsv,R1,λH3 s3=>?_⟩
  have y3:=y2.trans s3
  refine ⟨_,rfl,o,aSettles,dx,_,_,rfl,(y3 _ _ ins),TSettles.cl,ASettles.n_rows,rfl,ra,rv,rs,n,rfl,zE.of (y3 _ _ hr'),zf.same y3 hrv,R2,λH4 s4=>?_⟩
  refine ⟨(by show 3<=sizeLine; decide),λl5 h5=>?_⟩
  exact ⟨_,l5,[v3 true t,yq ss,yq rs],rfl,rfl,zE.of zG,Ui (Z3 nt) (jd R1) (jd R2),q _ (y3.trans (s4.trans (zK h5 _)))⟩
 | false=>
  have ins:H o=some (.ins aComes dx (wr (.ref sa) (.ref ra) t)):=ins
  refine ⟨_,rfl,_,_,_,_,rfl,(TComes.ty ins),Y.cs,_,rfl,zX ?_⟩
  refine ⟨rfl,_,rfl,o,aComes,dx,_,_,rfl,ins,TComes.cl,AComes.n_turns,rfl,(by show 2<=sizeLine; decide),λl1 h1=>?_⟩
  have z1:=zK h1 (HO.lst [V.str (wP false),V.int t])
  refine ⟨l1,_,rfl,.inr (zE.of zG),(by show 2<=12; decide),xJ (vj (by decide +kernel)) (xJ (vP nt) vk),λH2 s2=>?_⟩
  have y2:=z1.trans s2
  refine ⟨_,rfl,o,aComes,dx,_,_,rfl,(y2 _ _ ins),TComes.cl,AComes.n_start,rfl,sa,sv,ss,n,rfl,zE.of (y2 _ _ hs),zf.same y2 hsv,R1,λH3 s3=>?_⟩
  have y3:=y2.trans s3
  refine ⟨_,rfl,o,aComes,dx,_,_,rfl,(y3 _ _ ins),TComes.cl,AComes.n_goal,rfl,ra,rv,rs,n,rfl,zE.of (y3 _ _ hr'),zf.same y3 hrv,R2,λH4 s4=>?_⟩
  refine ⟨(by show 3<=sizeLine; decide),λl5 h5=>?_⟩
  exact ⟨_,l5,[v3 false t,yq ss,yq rs],rfl,rfl,zE.of zG,Ui (Z3 nt) (jd R1) (jd R2),q _ (y3.trans (s4.trans (zK h5 _)))⟩
end
noncomputable abbrev yk:Str:=Str.ofString "numbers"
noncomputable abbrev qI:Str:=Str.ofString "push"
noncomputable abbrev xE:Str:=Str.ofString "mode"
noncomputable abbrev yr:Str:=Str.ofString "row"
noncomputable abbrev vB:Str:=Str.ofString "next"
noncomputable def xL (m:MD) (i:Nat):List Int:=m.nexts.getD i []++[m.steer.getD i 0]++m.push.getD i []++[m.add.getD i 0]
noncomputable def yQ (m:MD):List Ln:=m.rows.map λr=>(yr,r)
noncomputable def yg (m:MD) (n:Nat):List Ln:=(List.range n).map λi=>(vB,xL m i)
noncomputable def xS (m:MD):List Ln:=(xE,[m.div]) :: (yQ m++yg m m.nexts.length)
noncomputable def xF (bs:List (Int × Int)):List Ln:=bs.map λb=>(qI,[b.1,b.2])
noncomputable def xT (n:Nat) (bs:List (Int × Int)) (ms:List MD):List Ln:=(yk,[(n:Int)]) :: (xF bs++(ms.map xS).flatten)
structure xu (m:MD):Prop where
 few:m.rows.length<=3
 rows:∀ r∈m.rows,∀ x∈r,Nm x
 nexts:∀ r∈m.nexts,∀ x∈r,Nm x
 steer:∀ x∈m.steer,Nm x
 push:∀ r∈m.push,∀ x∈r,Nm x
 add:∀ x∈m.add,Nm x
 div:Nm m.div
structure uM (n:Nat) (bs:List (Int × Int)) (ms:List MD):Prop where
 ok:j1 n bs ms
 m4:ms.length<=4
 push:∀ b∈bs,Nm b.1/\Nm b.2
 mode:∀ m∈ms,xu m
theorem vb {α:Type} {l:List α} {i:Nat} {d:α} (h:i < l.length):l.getD i d∈l:=by
 rw [List.getD_eq_getElem?_getD,List.getElem?_eq_getElem h]
 exact List.getElem_mem h
theorem Z4 {m:MD} {n p i:Nat} (h:xH m n p) (k:xu m) (hi:i < n):(xL m i).length=n + p + 2/\∀ x∈xL m i,Nm x:=by
 have g1:=vb (l:=m.nexts) (d:=[]) (i:=i) (by rw [h.nexts.1]; exact hi)
 have g2:=vb (l:=m.steer) (d:=0) (i:=i) (by rw [h.steer]; exact hi)
 have g3:=vb (l:=m.push) (d:=[]) (i:=i) (by rw [h.push.1]; exact hi)
 have g4:=vb (l:=m.add) (d:=0) (i:=i) (by rw [h.add]; exact hi)
 have l1:=h.nexts.2 _ g1
 have l3:=h.push.2 _ g3
 unfold xL
 refine ⟨by rw [List.length_append,List.length_append,List.length_append,l1,l3]; show n + 1 + p + 1=_; omega,λx hx=>?_⟩
 rcases List.mem_append.mp hx with hx | hx
 ·rcases List.mem_append.mp hx with hx | hx
  ·rcases List.mem_append.mp hx with hx | hx
   ·exact k.nexts _ g1 x hx
   ·rw [List.mem_singleton.mp hx]; exact k.steer _ g2
  ·exact k.push _ g3 x hx
 ·rw [List.mem_singleton.mp hx]; exact k.add _ g4
theorem qJ {w:Str} {ns:List Int} (hw:32∉w.cps.toList/\10∉w.cps.toList/\w.length<=10) (h1:1<=ns.length) (h2:ns.length<=11) (h:∀ x∈ns,Nm x):xA (w,ns):=⟨hw.1,hw.2.1,hw.2.2,h1,h2,h⟩
theorem Uj {m:MD} {n p:Nat} (h:xH m n p) (k:xu m) (p6:p<=6):∀ l∈yg m n,xA l/\l.1=vB:=λl hl=>by
 obtain ⟨i,hi,rfl⟩:=List.mem_map.mp hl
 obtain ⟨a,b⟩:=Z4 h k (List.mem_range.mp hi)
 have:=h.n3
 exact ⟨qJ (by decide +kernel) (by omega) (by omega) b,rfl⟩
theorem Uk {m:MD} {n p:Nat} (h:xH m n p) (k:xu m):∀ l∈yQ m,xA l/\l.1=yr:=λl hl=>by
 obtain ⟨r,hr,rfl⟩:=List.mem_map.mp hl
 have a:=h.rows r hr
 have:=h.n3
 exact ⟨qJ (by decide +kernel) (by omega) (by omega) (k.rows r hr),rfl⟩
theorem gM {w:Str} {i:Int} (hw:32∉w.cps.toList/\10∉w.cps.toList/\w.length<=10) (h:Nm i):xA (w,[i]):=qJ hw (by show 1<=1; decide) (by show 1<=11; decide) λx hx=>by rw [List.mem_singleton.mp hx]; exact h
theorem zLw {m:MD} {n p:Nat} (h:xH m n p) (k:xu m) (p6:p<=6):∀ l∈xS m,xA l:=λl hl=>by
 rcases List.mem_cons.mp hl with e | e
 ·rw [e]; exact gM (by decide +kernel) k.div
 ·rcases List.mem_append.mp e with e | e
  ·exact (Uk h k l e).1
  ·rw [h.nexts.1] at e; exact (Uj h k p6 l e).1
theorem ZM {m:MD} {n p:Nat} (h:xH m n p) (k:xu m):(xS m).length<=7:=by
 have:=h.n3
 have:=k.few
 have:=h.nexts.1
 unfold xS yQ yg
 rw [List.length_cons,List.length_append,List.length_map,List.length_map,List.length_range]
 omega
theorem Z5 {α β:Type} {f:α->List β} {B:Nat}:∀ {l:List α},(∀ x∈l,(f x).length<=B)->(l.map f).flatten.length<=l.length * B
 | [],_=>Nat.zero_le _
 | x :: l,h=>by
  rw [List.map_cons,List.flatten_cons,List.length_append,List.length_cons,Nat.succ_mul]
  have:=h x List.mem_cons_self
  have:=Z5 (l:=l) λy hy=>h y (List.mem_cons_of_mem _ hy)
  omega
theorem Ul {bs:List (Int × Int)} (h:∀ b∈bs,Nm b.1/\Nm b.2):∀ l∈xF bs,xA l:=λl hl=>by
 obtain ⟨b,hb,rfl⟩:=List.mem_map.mp hl
 refine qJ (by decide +kernel) (by show 1<=2; decide) (by show 2<=11; decide) λx hx=>?_
 rcases List.mem_cons.mp hx with e | e
 ·rw [e]; exact (h b hb).1
 ·rw [List.mem_singleton.mp e]; exact (h b hb).2
theorem Z6 {n:Nat} (h:n<=3):Nm (n:Int):=by
 show ((n:Int)).natAbs < 10 ^ 60
 have:(3:Nat) < 10 ^ 60:=by decide
 omega
theorem Xa {n:Nat} {bs:List (Int × Int)} {ms:List MD} (h:uM n bs ms):(∀ l∈xT n bs ms,xA l)/\(xT n bs ms).length<=100:=by
 constructor
 ·intro l hl
  rcases List.mem_cons.mp hl with e | e
  ·rw [e]; exact gM (by decide +kernel) (Z6 h.ok.n3)
  ·rcases List.mem_append.mp e with e | e
   ·exact Ul h.push l e
   ·obtain ⟨b,hb,hl⟩:=List.mem_flatten.mp e
    obtain ⟨m,hm,rfl⟩:=List.mem_map.mp hb
    exact zLw (h.ok.mok m hm) (h.mode m hm) h.ok.b6 l hl
 ·have f:=Z5 (f:=xS) (B:=7) (l:=ms) λm hm=>ZM (h.ok.mok m hm) (h.mode m hm)
  have:=h.m4
  have:=h.ok.b6
  unfold xT xF
  rw [List.length_cons,List.length_append,List.length_map]
  omega
noncomputable def zV (ls:List Ln):List V:=ls.map λl=>V.str (xh l)
theorem gN (a b:List Ln):zV (a++b)=zV a++zV b:=List.map_append
theorem zJV (a:Ln) (b c:List Ln) (y:Ln):zV (a :: (b++(c++[y])))=zV (a :: (b++c))++[V.str (xh y)]:=by rw [<- List.append_assoc]; exact gN (a :: (b++c)) [y]
theorem zJW (a:Ln) (b c d:List Ln):zV (a :: (b++(c++d)))=zV (a :: (b++c))++zV d:=by rw [<- List.append_assoc]; exact gN (a :: (b++c)) d
theorem vm (a:List Ln):(zV a).length=a.length:=List.length_map ..
theorem Um (a:List Ln):zV a=(a.map xh).map V.str:=by rw [List.map_map]; rfl
noncomputable def Xb (C:Addr):Sp:=λvs H Q _=>∃ (v:V) (m:MD) (n p:Nat),vs=[v]/\vA C H v m/\xH m n p/\xu m/\p<=6/\∀ l H',zC H H'->H l=none->H' l=some (.lst (zV (xS m)))->Q (.ref l) H'
noncomputable def Xc (C CM:Addr):Sp:=λvs H Q _=>∃ (o kp km:Addr) (n:Nat) (bs:List (Int × Int)) (ms:List MD) (pv mv:List V),vs=[.ref o]/\jT C CM H o n bs ms pv mv kp km/\uM n bs ms/\∀ H',zC H H'->Q (.str (jF (xT n bs ms))) H'
theorem zKs {m:MD} {i:Nat}:([V.str vB]++(m.nexts.getD i []).map V.int++[V.int (m.steer.getD i 0)]++(m.push.getD i []).map V.int++[V.int (m.add.getD i 0)]).map tx=uk (vB,xL m i):=by
 unfold uk xL
 rw [qH,qH,qH,qH,ul,ul]
 show _=vB :: List.map sN (m.nexts.getD i []++[m.steer.getD i 0]++m.push.getD i []++[m.add.getD i 0])
 rw [List.map_append,List.map_append,List.map_append]
 rfl
theorem Xd {α:Type} {l:List α} {i:Nat} {x d:α} (h:l[i]? = some x):l.getD i d=x:=by rw [List.getD_eq_getElem?_getD,h]; rfl
theorem qK {α:Type} (f:Nat->α) (i:Nat):(List.range (i + 1)).map f=(List.range i).map f++[f i]:=by rw [List.range_succ,List.map_append]; rfl
section
variable {P:Program} {w:World} {K:PySem.W.Frag} {mg:Str->Option Value} {base:Heap}
noncomputable abbrev gO:Stmt:=top 44
theorem ZN:zq ["mode","lines","row","place","numbers"] ["mode"] (zL gO):=.a
noncomputable abbrev gP:Stmt:=top 43
theorem Z7:zq ["thing","lines","push","mode"] ["thing"] (zL gP):=.a
variable {aClaim aSettles aComes aRule ab ae ac af au:Addr} (TClaim:zF K mg "Claim" aClaim) (AClaim:wY K aClaim) (TSettles:zF K mg "Settles" aSettles) (ASettles:wb K aSettles) (TComes:zF K mg "Comes" aComes) (AComes:wf K aComes) (TRule:zF K mg "Rule" aRule) (ARule:wg K aRule) (aj:zF K mg "Straight" ab) (ap:wj K ab) (ak:zF K mg "Stopped" ae) (aq:wk K ae) (ai:zF K mg "Parted" ac) (ao:wm K ac) (ag:zF K mg "Mode" af) (ah:wn K af) (am:zF K mg "Thing" au) (ar:wo K au) (Y:wp K aRule ab ae ac aClaim aSettles aComes)
include TClaim AClaim TSettles ASettles TComes AComes TRule ARule aj ap ak aq ai ao ag ah am ar Y
theorem zGu {k:Nat} {f:Addr} {fd:FuncData} (F:yC K "mode_lines" "mode_lines" gO f fd) (B:Bl mg) (aw:Fn P w K mg base "show_words" ["words"] k (v5 K)):zJ P w K mg base zh (k + 1) f fd ["mode"] (Xb af):=by
 refine F.ok ZN (λvs H Q E h=>?_) (λcdv A outer s H vs Q E hr h=>?_)
 ·obtain ⟨_,_,_,_,rfl,_⟩:=h
  rfl
 obtain ⟨v,m,n,p,rfl,hv,MO,NM,p6,q⟩:=h
 refine ⟨_,(zM (yG (i:=1) ZN.nd rfl (Or.inl rfl) (ye (zA (zR aw hr rfl (zA (ye (zA zu (zA (yN (L2.pv 0) rfl) zD))) zD)) zD)))
  (zM (vt PassesOwn.never rfl (yU (yN (L2.pv 0) rfl)) (zw (i:=2) ZN.nd rfl (Or.inl rfl)) (zO (vq (xD PySem.F.plainAttrs_list PySem.F.slot_list_append PySem.F.type_list_append v8 (L2.pv 1) (zA (zP wO zu (zR aw hr rfl (zA (L2.pv 2) zD))) zD)))))
  (zM (vt PassesOwn.never rfl (Qi rfl B.enumerate_ (zA (yN (L2.pv 0) rfl) zD)) (JZ rfl (jK (zw (i:=3) ZN.nd rfl (Or.inl rfl)) (jK (zw (i:=4) ZN.nd rfl (Or.inl rfl)) WF))) (zO (vq (xD PySem.F.plainAttrs_list PySem.F.slot_list_append PySem.F.type_list_append v8 (L2.pv 1) (zA (zR aw hr rfl (zA (zP vI (zP vI (zP vI (zP vI (ye (zA zu zD)) (L2.pv 4)) (ye (zA (zZ yJ (yN (L2.pv 0) rfl) (L2.pv 3) (λ_ _=>rfl)) zD))) (zZ yJ (yN (L2.pv 0) rfl) (L2.pv 3) (λ_ _=>rfl))) (ye (zA (zZ yJ (yN (L2.pv 0) rfl) (L2.pv 3) (λ_ _=>rfl)) zD))) zD)) zD)))))
  (zO (zY (L2.pv 1)))))),?_⟩
 try dsimp only [zQ,Cx.nox,Cx.wish]
 obtain ⟨o,M,rfl,ok⟩:=hv
 have n3:=MO.n3
 have few:=NM.few
 refine ⟨_,rfl,o,af,M.dx,_,_,rfl,ok.ins,ag.cl,ah.n_divisor,rfl,(by show 2<=sizeLine; decide),λl0 h0=>?_⟩
 refine ⟨l0,_,rfl,.inr (zE.of zG),(by show 2<=12; decide),xJ (vj (by decide +kernel)) (xJ (vP NM.div) vk),λH1 s1=>?_⟩
 have y1:=(zK h0 _).trans s1
 refine ⟨(by show 1<=sizeLine; decide),λl1 h1=>?_⟩
 have f1:H l1=none:=y1.free h1
 have y2:=y1.trans (zK h1 (HO.lst (zV [(xE,[m.div])])))
 have lr:M.rv.length=m.rows.length:=Paired.length ok.hrv
 have ln:M.nv.length=m.nexts.length:=Paired.length ok.hnv
 have nn:=MO.nexts.1
 refine ⟨_,rfl,o,af,M.dx,_,_,rfl,(y2 _ _ ok.ins),ag.cl,ah.n_rows,rfl,M.r,rfl,⟨_,zE.of (y2 _ _ ok.hr)⟩,qX (K:=K) (a:=M.r) (xs:=M.rv) (λi σ H'=>(∃ a b c,σ=[some (.ref o),some (.ref l1),a,b,c])/\zC H H'/\H' l1=some (.lst (zV ((xE,[m.div]) :: (m.rows.take i).map λr=>(yr,r)))))
  ⟨⟨_,_,_,rfl⟩,y2,zG⟩ (λi σ H' _ ⟨_,sm,_⟩=>zE.of (sm _ _ ok.hr)) ?_ ?_⟩
 ·rintro i x σ H' hx ⟨⟨a,b,c,rfl⟩,sm,hl⟩
  obtain ⟨r,hr',t,rfl,ht⟩:=yp ok.hrv hx
  have rm:=List.mem_of_getElem? hr'
  have rl:=MO.rows r rm
  have i3:=(List.getElem?_eq_some_iff.mp hr').1
  refine ⟨_,rfl,.inl ⟨rfl,_,zE.of hl⟩,_,rfl,t,r.map V.int,rfl,.inl (zW.of (sm _ _ ht)),(by rw [List.length_map]; omega),uK (NM.rows r rm),λH3 s3=>?_⟩
  rw [ul]
  have lw:=jb rl (by omega) (NM.rows r rm)
  refine ⟨_,_,rfl,rfl,?_,l1,_,_,rfl,rfl,s3 _ _ hl,yn ?_,⟨_,_,_,rfl⟩,uC (sm.trans s3) f1,zG.trans ?_⟩
  ·show (Str.ofString "row ").length + (sW r).length<=_
   have l16:=jH
   rw [show (Str.ofString "row ").length=4 by decide +kernel]
   omega
  ·rw [vm,List.length_cons,List.length_map,List.length_take]; omega
  ·rw [xY hr',List.map_append,<- List.cons_append,gN,show Str.ofString "row " = yr++yI by decide +kernel]
   have e:=ql yr (ns:=r) (by intro z; rw [z] at rl; cases rl)
   show some (HO.lst (_++[V.str (yr++yI++sW r)]))=_
   rw [e]
   rfl
 rintro σ H' ⟨⟨a,b,c,rfl⟩,sm,hl⟩
 rw [lr,List.take_length] at hl
 refine ⟨_,rfl,o,af,M.dx,_,_,rfl,(sm _ _ ok.ins),ag.cl,ah.n_nexts,rfl,M.n,rfl,⟨_,zE.of (sm _ _ ok.hn)⟩,Qj (K:=K) (a:=M.n) (xs:=M.nv) (λi σ H'=>(∃ a b c,σ=[some (.ref o),some (.ref l1),a,b,c])/\zC H H'/\H' l1=some (.lst (zV ((xE,[m.div]) :: (yQ m++yg m i)))))
  ⟨⟨_,_,_,rfl⟩,sm,by rw [show yg m 0=[] from rfl,List.append_nil]; exact hl⟩ (λi σ H' _ ⟨_,sm,_⟩=>zE.of (sm _ _ ok.hn)) ?_ ?_⟩
 ·rintro i x T σ H' hx hT ⟨⟨a,b,c,rfl⟩,sm,hl⟩
  obtain ⟨r,hr',t,rfl,ht⟩:=yp ok.hnv hx
  have il:=(List.getElem?_eq_some_iff.mp hr').1
  rw [nn] at il
  have zT:=zK hT (HO.tup [V.int (i:Int),V.ref t])
  obtain ⟨sl,sn⟩:=Z4 MO NM il
  have y3:=sm.trans zT
  have e1:m.nexts.getD i []=r:=Xd hr'
  have a2:(m.steer.map V.int)[i]? = some (V.int (m.steer.getD i 0)):=by rw [List.getElem?_map,List.getElem?_eq_getElem (by rw [MO.steer]; exact il),List.getD_eq_getElem?_getD,List.getElem?_eq_getElem (by rw [MO.steer]; exact il)]; rfl
  have a4:(m.add.map V.int)[i]? = some (V.int (m.add.getD i 0)):=by rw [List.getElem?_map,List.getElem?_eq_getElem (by rw [MO.add]; exact il),List.getD_eq_getElem?_getD,List.getElem?_eq_getElem (by rw [MO.add]; exact il)]; rfl
  have lp:M.pv.length=m.push.length:=Paired.length ok.hpv
  have a3:M.pv[i]? = some (M.pv[i]'(by rw [lp,MO.push.1]; exact il)):=List.getElem?_eq_getElem _
  obtain ⟨pr,hpr,pa,epa,hpa⟩:=yp ok.hpv a3
  have e3:m.push.getD i []=pr:=Xd hpr
  have l1':(m.nexts.getD i []).length=n:=MO.nexts.2 _ (vb (by rw [nn]; exact il))
  have l3':(m.push.getD i []).length=p:=MO.push.2 _ (vb (by rw [MO.push.1]; exact il))
  rw [<- e1] at ht
  rw [<- e3] at hpa
  refine ⟨T,_,rfl,zW.of zG,rfl,_,_,rfl,_,_,rfl,rfl,?_⟩
  have hlT:=zT _ _ hl
  generalize upd H' T (HO.tup [V.int (i:Int),V.ref t])=K1 at zT y3 hlT |-
  refine ⟨_,rfl,.inl ⟨rfl,_,zE.of hlT⟩,(by show 1<=sizeLine; decide),λb1 hb1=>?_⟩
  have w1:=zK hb1 (HO.lst [V.str vB])
  refine ⟨_,rfl,b1,t,_,_,rfl,rfl,zG,(y3.trans w1) _ _ ht,yT (by rw [List.length_map,l1']; show 1 + n<=900; omega),λb2 hb2=>?_⟩
  have w2:=w1.trans (zK hb2 (HO.lst ([V.str vB]++(m.nexts.getD i []).map V.int)))
  have u2:=y3.trans w2
  refine ⟨_,rfl,o,af,M.dx,_,_,rfl,(u2 _ _ ok.ins),ag.cl,ah.n_steer,rfl,_,rfl,M.s,_,_,_,rfl,rfl,zE.of (u2 _ _ ok.hs),xo a2,(by show 1<=sizeLine; decide),λb3 hb3=>?_⟩
  have x3:=zK hb3 (HO.lst [V.int (m.steer.getD i 0)])
  refine ⟨b2,b3,_,_,rfl,rfl,x3 _ _ zG,zG,yT (by rw [List.length_append,List.length_map,l1']; show 1 + n + 1<=900; omega),λb4 hb4=>?_⟩
  have w4:=w2.trans (x3.trans (zK hb4 (HO.lst ([V.str vB]++(m.nexts.getD i []).map V.int++[V.int (m.steer.getD i 0)]))))
  have u4:=y3.trans w4
  refine ⟨_,rfl,o,af,M.dx,_,_,rfl,(u4 _ _ ok.ins),ag.cl,ah.n_push,rfl,_,rfl,M.p,_,_,_,rfl,rfl,zE.of (u4 _ _ ok.hp),xo a3,?_⟩
  rw [epa]
  refine ⟨b4,pa,_,_,rfl,rfl,zG,u4 _ _ hpa,yT (by rw [List.length_append,List.length_append,List.length_map,List.length_map,l1',l3']; show 1 + n + 1 + p<=900; omega),λb5 hb5=>?_⟩
  have w5:=w4.trans (zK hb5 (HO.lst ([V.str vB]++(m.nexts.getD i []).map V.int++[V.int (m.steer.getD i 0)]++(m.push.getD i []).map V.int)))
  have u5:=y3.trans w5
  refine ⟨_,rfl,o,af,M.dx,_,_,rfl,(u5 _ _ ok.ins),ag.cl,ah.n_add,rfl,_,rfl,M.a,_,_,_,rfl,rfl,zE.of (u5 _ _ ok.ha),xo a4,(by show 1<=sizeLine; decide),λb6 hb6=>?_⟩
  have x6:=zK hb6 (HO.lst [V.int (m.add.getD i 0)])
  refine ⟨b5,b6,_,_,rfl,rfl,x6 _ _ zG,zG,yT (by rw [List.length_append,List.length_append,List.length_append,List.length_map,List.length_map,l1',l3']; show 1 + n + 1 + p + 1<=900; omega),λb7 hb7=>?_⟩
  refine ⟨b7,_,rfl,.inr (zE.of zG),(by rw [List.length_append,List.length_append,List.length_append,List.length_append,List.length_map,List.length_map,l1',l3']; show 1 + n + 1 + p + 1<=12; omega),?_,λH3 s3=>?_⟩
  ·have gm:=λ{x:Int} (hx:x∈xL m i)=>sn x hx
   have u1:∀ x∈m.nexts.getD i [],Nm x:=NM.nexts _ (vb (by rw [nn]; exact il))
   have u3:∀ x∈m.push.getD i [],Nm x:=NM.push _ (vb (by rw [MO.push.1]; exact il))
   exact qG (qG (qG (qG (xJ (vj (by decide +kernel)) vk) (uK u1)) (xJ (vP (NM.steer _ (vb (by rw [MO.steer]; exact il)))) vk)) (uK u3)) (xJ (vP (NM.add _ (vb (by rw [MO.add]; exact il)))) vk)
  have w7:=w5.trans (x6.trans ((zK hb7 _).trans s3))
  rw [zKs]
  refine ⟨l1,_,_,rfl,rfl,w7 _ _ hlT,yn ?_,⟨_,_,_,rfl⟩,uC (y3.trans w7) f1,zG.trans ?_⟩
  ·unfold yQ yg
   rw [vm,List.length_cons,List.length_append,List.length_map,List.length_map,List.length_range]; omega
  ·unfold yg
   rw [qK,zJV]
   rfl
 rintro σ H' ⟨⟨a,b,c,rfl⟩,sm,hl⟩
 rw [ln] at hl
 exact ⟨_,rfl,q l1 H' sm f1 hl⟩
theorem zGq {k:Nat} {f:Addr} {fd:FuncData} (F:yC K "show_thing" "show_thing" gP f fd) (B:Bl mg) (aw:Fn P w K mg base "show_words" ["words"] k (v5 K)) (aR:ug P w K mg base au "pushes" ["self"] k (ko au af)) (aS:ug P w K mg base au "modes" ["self"] k (kq au af)) (dk:Fn P w K mg base "mode_lines" ["mode"] k (Xb af)):zJ P w K mg base zh (k + 1) f fd ["thing"] (Xc au af):=by
 refine F.ok Z7 (λvs H Q E h=>?_) (λcdv A outer s H vs Q E hr h=>?_)
 ·obtain ⟨_,_,_,_,_,_,_,_,rfl,_⟩:=h
  rfl
 obtain ⟨o,kp,km,n,bs,ms,pv,mv,rfl,hT,TN,q⟩:=h
 have hrm:=hr
 refine ⟨_,(zM (yG (i:=1) Z7.nd rfl (Or.inl rfl) (ye (zA (zR aw hr rfl (zA (ye (zA zu (zA (yN (L2.pv 0) rfl) zD))) zD)) zD)))
  (zM (vt PassesOwn.never rfl (yU (Zk aR am hrm (L2.pv 0))) (zw (i:=2) Z7.nd rfl (Or.inl rfl)) (zO (vq (xD PySem.F.plainAttrs_list PySem.F.slot_list_append PySem.F.type_list_append v8 (L2.pv 1) (zA (zR aw hr rfl (zA (ye (zA zu (zA (zZ yb (L2.pv 2) zH (λ_ _=>rfl)) (zA (zZ yb (L2.pv 2) zH (λ_ _=>rfl)) zD)))) zD)) zD)))))
  (zM (vt PassesOwn.never rfl (yU (Zk aS am hrm (L2.pv 0))) (zw (i:=3) Z7.nd rfl (Or.inl rfl)) (zO (vq (xD PySem.F.plainAttrs_list PySem.F.slot_list_extend PySem.F.type_list_extend QJ (L2.pv 1) (zA (zR dk hr rfl (zA (L2.pv 3) zD)) zD)))))
  (zO (zY (xD PySem.F.plainAttrs_str PySem.F.slot_str_join PySem.F.type_str_join uj zu (zA (L2.pv 1) zD))))))),?_⟩
 try dsimp only [zQ,Cx.nox,Cx.wish]
 obtain ⟨dx,ins⟩:=hT.ins
 obtain ⟨lok,l100⟩:=Xa TN
 have n3:=TN.ok.n3
 have b6:=TN.ok.b6
 refine ⟨_,rfl,o,au,dx,_,_,rfl,ins,am.cl,ar.n_many,rfl,(by show 2<=sizeLine; decide),λl0 h0=>?_⟩
 refine ⟨l0,_,rfl,.inr (zE.of zG),(by show 2<=12; decide),xJ (vj (by decide +kernel)) (xJ (vP (Z6 n3)) vk),λH1 s1=>?_⟩
 have y1:=(zK h0 _).trans s1
 refine ⟨(by show 1<=sizeLine; decide),λl1 h1=>?_⟩
 have f1:H l1=none:=y1.free h1
 have y2:=y1.trans (zK h1 (HO.lst (zV [(yk,[(n:Int)])])))
 have lb:pv.length=bs.length:=Paired.length hT.hpv
 have lm:mv.length=ms.length:=Paired.length hT.hmv
 refine ⟨_,rfl,o,dx,_,rfl,y2 _ _ ins,rfl,o,kp,km,n,bs,ms,pv,mv,rfl,hT.same y2,λpl H2 s2 fp ep=>?_⟩
 have y3:=y2.trans s2
 have ne1:pl≠l1:=λe=>by rw [e] at fp; rw [zG] at fp; cases fp
 refine ⟨pl,rfl,⟨_,zE.of ep⟩,qX (K:=K) (a:=pl) (xs:=pv) (λi σ H'=>(∃ a b,σ=[some (.ref o),some (.ref l1),a,b])/\zC H H'/\H' pl=some (.lst pv)/\H' l1=some (.lst (zV ((yk,[(n:Int)]) :: xF (bs.take i)))))
  ⟨⟨_,_,rfl⟩,y3,ep,s2 _ _ zG⟩ (λi σ H' _ ⟨_,_,z,_⟩=>zE.of z) ?_ ?_⟩
 ·rintro i x σ H' hx ⟨⟨a,b,rfl⟩,sm,hp,hl⟩
  obtain ⟨b,hb',t,rfl,ht⟩:=yp hT.hpv hx
  have bm:=TN.push b (List.mem_of_getElem? hb')
  have il:=(List.getElem?_eq_some_iff.mp hb').1
  have ht':=sm _ _ ht
  refine ⟨_,rfl,.inl ⟨rfl,_,zE.of hl⟩,_,rfl,t,_,0,_,rfl,rfl,zW.of ht',Y0,_,rfl,t,_,1,_,rfl,rfl,zW.of ht',Y1,(by show 3<=sizeLine; decide),λl2 h2=>?_⟩
  refine ⟨l2,_,rfl,.inr (zE.of zG),(by show 3<=12; decide),xJ (vj (by decide +kernel)) (xJ (vP bm.1) (xJ (vP bm.2) vk)),λH3 s3=>?_⟩
  have w:=(zK h2 _).trans s3
  refine ⟨l1,_,_,rfl,rfl,w _ _ hl,yn ?_,⟨_,_,rfl⟩,uC (sm.trans w) f1,(yD ne1).trans (w _ _ hp),zG.trans ?_⟩
  ·unfold xF
   rw [vm,List.length_cons,List.length_map,List.length_take]; omega
  ·unfold xF
   rw [xY hb',List.map_append,<- List.cons_append,gN]
   rfl
 rintro σ H' ⟨⟨a,b,rfl⟩,sm,hp,hl⟩
 rw [lb,List.take_length] at hl
 refine ⟨_,rfl,o,dx,_,rfl,sm _ _ ins,rfl,o,kp,km,n,bs,ms,pv,mv,rfl,hT.same sm,λml H2 s2 fm em=>?_⟩
 have y4:=sm.trans s2
 have ne2:ml≠l1:=λe=>by rw [e,hl] at fm; cases fm
 have lt:=l100
 unfold xT at lt
 rw [List.length_cons,List.length_append] at lt
 refine ⟨ml,rfl,⟨_,zE.of em⟩,qX (K:=K) (a:=ml) (xs:=mv) (λi σ H'=>(∃ a b,σ=[some (.ref o),some (.ref l1),a,b])/\zC H H'/\H' ml=some (.lst mv)/\H' l1=some (.lst (zV ((yk,[(n:Int)]) :: (xF bs++((ms.take i).map xS).flatten)))))
  ⟨⟨_,_,rfl⟩,y4,em,by rw [show ((ms.take 0).map xS).flatten=[] from rfl,List.append_nil]; exact s2 _ _ hl⟩ (λi σ H' _ ⟨_,_,z,_⟩=>zE.of z) ?_ ?_⟩
 ·rintro i x σ H' hx ⟨⟨a,b,rfl⟩,sm,hp,hl⟩
  obtain ⟨m,hm',hv⟩:=yp hT.hmv hx
  have mm:=List.mem_of_getElem? hm'
  have ml7:=ZM (TN.ok.mok m mm) (TN.mode m mm)
  have fl:=Z5 (f:=xS) (B:=7) (l:=ms.take i) λm hm=>ZM (TN.ok.mok m (List.mem_of_mem_take hm)) (TN.mode m (List.mem_of_mem_take hm))
  rw [List.length_take] at fl
  have m4:=TN.m4
  refine ⟨_,rfl,.inl ⟨rfl,_,zE.of hl⟩,_,rfl,x,m,n,bs.length,rfl,hv.same sm,TN.ok.mok m mm,TN.mode m mm,b6,λl2 H3 s3 f2 e2=>?_⟩
  refine ⟨l1,l2,_,_,rfl,rfl,s3 _ _ hl,e2,yT ?_,⟨_,_,rfl⟩,uC (sm.trans s3) f1,(yD ne2).trans (s3 _ _ hp),zG.trans ?_⟩
  ·unfold xF
   rw [vm,vm,List.length_cons,List.length_append,List.length_map]; omega
  ·rw [xY hm',List.map_append,List.flatten_append,zJW]
   show _=some (HO.lst (_++zV (xS m++[])))
   rw [List.append_nil]
 rintro σ H' ⟨⟨a,b,rfl⟩,sm,hp,hl⟩
 rw [lm,List.take_length] at hl
 have hl:H' l1=some (.lst (zV (xT n bs ms))):=hl
 rw [Um] at hl
 refine ⟨rfl,_,rfl,_,l1,(xT n bs ms).map xh,rfl,rfl,zE.of hl,jW (B:=744) (λy hy=>?_) ?_,q H' sm⟩
 ·obtain ⟨l,hl,rfl⟩:=List.mem_map.mp hy
  exact ZK (lok l hl)
 ·rw [List.length_map,show (Str.ofString "\n").length=1 by decide +kernel]
  have:=Nat.mul_le_mul l100 (Nat.le_refl (744 + 1))
  omega
end
theorem Xe {a b:List V} {z:Int} (hz:z = -(b.length:Int)) (hb:1<=b.length):zk (a++b) none (some z)=a:=by
 have e2:HT.sIx (a++b).length (a++b).length (some z)=a.length:=by
  show (if z < 0 then (z + ((a++b).length:Int)).toNat else min z.toNat (a++b).length)=a.length
  rw [if_pos (by omega),List.length_append]
  omega
 unfold zk
 rw [HT.sIx_none,e2,List.drop_zero,Nat.sub_zero,List.take_left' rfl]
noncomputable def ZO:Sp:=λvs H Q _=>∃ (b:Addr) (xs top:List V) (c:Int),vs=[.ref b,.int c]/\c=(top.length:Int)/\H b=some (.lst (xs++top.reverse))/\top.length<=10/\∀ l H',zC H H'->H l=none->H' l=some (.lst top)->Q (.ref l) H'
noncomputable def ZP:Sp:=λvs H Q _=>∃ i:Int,vs=[.int i]/\Q (.int i) H
noncomputable def ZQ (C1 C2 C3:Addr):Sp:=λvs H Q _=>∃ (v:V) (t:RT),vs=[v]/\yx C1 C2 C3 H v t/\Q v H
noncomputable def Xf (C1 C2 C3:Addr):Sp:=λvs H Q _=>∃ (b:Addr) (xs:List V) (ns:List Int) (a d:Int) (n:Nat),vs=[.ref b,.int (n:Int)]/\ns.length=n/\n<=3/\H b=some (.lst (xs++((ns++[a,d]).map V.int).reverse))/\xs.length<=100∧
 ∀ l v H',zC H H'->H l=none->H' l=some (.lst (xs++[v]))->yx C1 C2 C3 (zz [l] H') v (.str ns a d)->Q (.ref l) H'
noncomputable def Xg (C1 C2 C3:Addr):Sp:=λvs H Q _=>∃ (b:Addr) (xs:List V) (u:V) (t:RT) (lo hi:Int),vs=[.ref b]/\H b=some (.lst (xs++[V.int lo,V.int hi,u].reverse))/\yx C1 C2 C3 H u t/\xs.length<=100∧
 ∀ l v H',zC H H'->H l=none->H' l=some (.lst (xs++[v]))->yx C1 C2 C3 (zz [l] H') v (.stp t lo hi)->Q (.ref l) H'
noncomputable def Xh (C1 C2 C3:Addr):Sp:=λvs H Q _=>∃ (b:Addr) (xs:List V) (r:List Int) (u w:V) (x y:RT) (n:Nat),vs=[.ref b,.int (n:Int)]/\r.length=n + 1/\n<=3/\H b=some (.lst (xs++(r.map V.int++[u,w]).reverse))/\yx C1 C2 C3 H u x/\yx C1 C2 C3 H w y/\xs.length<=100∧
 ∀ l v H',zC H H'->H l=none->H' l=some (.lst (xs++[v]))->yx C1 C2 C3 (zz [l] H') v (.prt r x y)->Q (.ref l) H'
theorem zNA {xs top:List V} {i:Nat} {c:Int} (h:i < top.length) (hc:c=((xs++top.reverse).length:Int) - 1 - (i:Int)):∃ v,top[i]? = some v/\xC (xs++top.reverse) c=some v:=by
 refine ⟨top[i],List.getElem?_eq_getElem h,?_⟩
 have e:c=((xs.length + (top.length - 1 - i):Nat):Int):=by rw [hc,List.length_append,List.length_reverse]; omega
 rw [e]
 refine xo ?_
 rw [List.getElem?_append_right (by omega),Nat.add_sub_cancel_left,List.getElem?_reverse (by omega),show top.length - 1 - (top.length - 1 - i)=i by omega,List.getElem?_eq_getElem h]
section
variable {P:Program} {w:World} {K:PySem.W.Frag} {mg:Str->Option Value} {base:Heap}
noncomputable abbrev qL:Stmt:=top 52
theorem zKh:zq ["behind","count"] ["behind","count"] (zL qL):=.a
noncomputable abbrev gQ:Stmt:=top 53
theorem zGm:zq ["value"] ["value"] (zL gQ):=.a
noncomputable abbrev gR:Stmt:=top 54
theorem zHx:zq ["value"] ["value"] (zL gR):=.a
noncomputable abbrev gS:Stmt:=top 55
theorem Uo:zq ["behind","many","numbers"] ["behind","many"] (zL gS):=.a
noncomputable abbrev gT:Stmt:=top 56
theorem Up:zq ["behind","found"] ["behind"] (zL gT):=.a
noncomputable abbrev gU:Stmt:=top 57
theorem Xi:zq ["behind","many","found","row"] ["behind","many"] (zL gU):=.a
variable {aClaim aSettles aComes aRule ab ae ac af au:Addr} (TClaim:zF K mg "Claim" aClaim) (AClaim:wY K aClaim) (TSettles:zF K mg "Settles" aSettles) (ASettles:wb K aSettles) (TComes:zF K mg "Comes" aComes) (AComes:wf K aComes) (TRule:zF K mg "Rule" aRule) (ARule:wg K aRule) (aj:zF K mg "Straight" ab) (ap:wj K ab) (ak:zF K mg "Stopped" ae) (aq:wk K ae) (ai:zF K mg "Parted" ac) (ao:wm K ac) (ag:zF K mg "Mode" af) (ah:wn K af) (am:zF K mg "Thing" au) (ar:wo K au) (Y:wp K aRule ab ae ac aClaim aSettles aComes)
include TClaim AClaim TSettles ASettles TComes AComes TRule ARule aj ap ak aq ai ao ag ah am ar Y
theorem zKr {k:Nat} {f:Addr} {fd:FuncData} (F:yC K "taken" "taken" qL f fd) (B:Bl mg):zJ P w K mg base zh (k + 1) f fd ["behind","count"] ZO:=by
 refine F.ok zKh (λvs H Q E h=>?_) (λcdv A outer s H vs Q E hr h=>?_)
 ·obtain ⟨_,_,_,_,rfl,_⟩:=h
  rfl
 obtain ⟨b,xs,top,c,rfl,hc,hb,t10,q⟩:=h
 refine ⟨_,(zM (zo (yK jM (zm xq rfl B.len_ xc (zA (L2.pv 0) zD)) (L2.pv 1) (zp _)) (zO vD) yA)
  (zO (zY (yu (own:=["place"]) (caps:=[(0,"behind")]) (xr (S:=zL qL) (N:=["behind","count"]) rfl (by decide +kernel) rfl ⟨_,rfl⟩ rfl (by decide +kernel) (by decide +kernel)) rfl (ua rfl B.range_ (zA (L2.pv 1) zD)) (λ_ _ _ _=>zw (i:=0) (show (["place","behind"]:List Str).Nodup by decide +kernel) rfl (Or.inl rfl)) (λ_ _ _ _=>(zZ (show vx _ (xp K) from yJ) (L2.pv 1) (zP vS (zP vS (zm (show ya _ _ (λxs H Q=>∃ p ys,xs=[V.ref p]/\(zE K H p ys\/zW K H p ys)/\Q (V.int ys.length) H) from xq) rfl B.len_ xc (zA (L2.pv 1) zD)) zH) (L2.pv 0)) (λ_ _=>rfl))))))),?_⟩
 try dsimp only [zQ,Cx.nox,Cx.wish]
 have ll:(xs++top.reverse).length=xs.length + top.length:=by rw [List.length_append,List.length_reverse]
 refine ⟨_,rfl,b,_,rfl,.inl (zE.of hb),_,rfl,_,_,rfl,rfl,_,rfl,yH (decide_eq_false (by omega)) ?_⟩
 refine ⟨_,rfl,c,rfl,(by omega),(by omega),qb (lo:=0) (n:=c.toNat) (λi ys σ H'=>ys=top.take i/\(∃ o,σ=[o,some (.ref b)])/\H'=H)
  ⟨rfl,⟨none,rfl⟩,rfl⟩ (λi ys σ H' ⟨e1,_,_⟩=>by rw [e1,List.length_take]; exact Nat.min_le_left _ _) (yT (by omega)) ?_ ?_⟩
 ·rintro i ys σ H' hi ⟨rfl,⟨o,rfl⟩,rfl⟩
  obtain ⟨v,hv,ha⟩:=zNA (xs:=xs) (top:=top) (i:=i) (c:=((xs++top.reverse).length:Int) - 1 - (0 + (i:Int))) (by omega) (by omega)
  refine ⟨_,rfl,_,rfl,b,_,rfl,.inl (zE.of hb),_,_,rfl,rfl,_,rfl,_,_,rfl,rfl,b,_,_,_,rfl,rfl,zE.of hb,ha,?_,⟨_,rfl⟩,rfl⟩
  rw [xY hv]
 rintro ys σ H' ⟨rfl,⟨o,rfl⟩,rfl⟩ l hl
 refine q l _ (zK hl _) hl (zG.trans ?_)
 rw [show c.toNat=top.length by omega,List.take_length]
theorem zGw {k:Nat} {f:Addr} {fd:FuncData} (F:yC K "ask_number" "ask_number" gQ f fd) (B:Bl mg):zJ P w K mg base zh (k + 1) f fd ["value"] ZP:=by
 refine F.ok zGm (λvs H Q E h=>?_) (λcdv A outer s H vs Q E hr h=>?_)
 ·obtain ⟨_,rfl,_⟩:=h
  rfl
 obtain ⟨i,rfl,q⟩:=h
 refine ⟨_,(zM (zo (yX (zm (show ya _ _ (wW K) from wz) rfl B.isinstance_ yo (zA (L2.pv 0) (zA (wy TRule rfl) zD)))) (zO vD) yA)
  (zO (zY (L2.pv 0)))),?_⟩
 try dsimp only [zQ,Cx.nox,Cx.wish]
 refine ⟨_,rfl,_,_,_,_,rfl,.int _,Y.iR,_,rfl,zX ?_⟩
 exact ⟨_,rfl,q⟩
theorem zIA {k:Nat} {f:Addr} {fd:FuncData} (F:yC K "ask_rule" "ask_rule" gR f fd) (B:Bl mg):zJ P w K mg base zh (k + 1) f fd ["value"] (ZQ ab ae ac):=by
 refine F.ok zHx (λvs H Q E h=>?_) (λcdv A outer s H vs Q E hr h=>?_)
 ·obtain ⟨_,_,rfl,_⟩:=h
  rfl
 obtain ⟨v,t,rfl,hR,q⟩:=h
 refine ⟨_,(zM (zo (xO (yX (zm (show ya _ _ (wW K) from wz) rfl B.isinstance_ yo (zA (L2.pv 0) (zA (wy TRule rfl) zD))))) (zO vD) yA)
  (zO (zY (L2.pv 0)))),?_⟩
 try dsimp only [zQ,Cx.nox,Cx.wish]
 cases t with
 | str ns a d0=>
  obtain ⟨o,dx,la,rfl,ins,ela⟩:=hR
  refine ⟨_,rfl,_,_,_,_,rfl,(aj.ty ins),Y.t1,_,rfl,zX ?_⟩
  exact ⟨_,rfl,q⟩
 | stp t1 lo hi=>
  obtain ⟨o,dx,u,rfl,ins,hu⟩:=hR
  refine ⟨_,rfl,_,_,_,_,rfl,(ak.ty ins),Y.t2,_,rfl,zX ?_⟩
  exact ⟨_,rfl,q⟩
 | prt r x y=>
  obtain ⟨o,dx,ra,u,w2,rfl,ins,era,hu,hw⟩:=hR
  refine ⟨_,rfl,_,_,_,_,rfl,(ai.ty ins),Y.t3,_,rfl,zX ?_⟩
  exact ⟨_,rfl,q⟩
theorem zE5 {k:Nat} {f:Addr} {fd:FuncData} (F:yC K "straight_ahead" "straight_ahead" gS f fd) (B:Bl mg) (aJ:Fn P w K mg base "taken" ["behind","count"] (k + 1) ZO) (aE:Fn P w K mg base "ask_number" ["value"] (k + 1) ZP) (aT:xf P w K mg base ab ["self","numbers","add","divisor"] k (kr ab) (.int 1)):zJ P w K mg base zh (k + 1 + 1) f fd ["behind","many"] (Xf ab ae ac):=by
 refine F.ok Uo (λvs H Q E h=>?_) (λcdv A outer s H vs Q E hr h=>?_)
 ·obtain ⟨_,_,_,_,_,_,rfl,_⟩:=h
  rfl
 obtain ⟨b,xs,ns,a,d,n,rfl,ln,n3,hb,x1,q⟩:=h
 refine ⟨_,(zM (vy (i:=2) Uo.nd rfl rfl (own:=["value"]) (caps:=[]) (xk rfl) rfl (yU (zR aJ hr rfl (zA (L2.pv 0) (zA (zP yS (L2.pv 1) zH) zD)))) (λ_ _ _ _=>zw (i:=0) (show (["value"]:List Str).Nodup by decide +kernel) rfl (Or.inl rfl)) (λ_ _ _ _=>(zR aE hr rfl (zA (L2.pv 0) zD))) rfl)
  (zO (zY (zP vI (xW xb (L2.pv 0) vh (yh (zP vS (qY qZ (L2.pv 1)) zH))) (ye (zA (vV aT.fn aj hr rfl (zA (xW xb (L2.pv 2) vh (yh (L2.pv 1))) (zA (zZ yJ (L2.pv 2) (L2.pv 1) (λ_ _=>rfl)) (zA (zZ yJ (L2.pv 2) (zP yS (L2.pv 1) zH) (λ_ _=>rfl)) zD)))) zD)))))),?_⟩
 try dsimp only [zQ,Cx.nox,Cx.wish]
 have ll:(ns++[a,d]).length=n + 2:=by rw [List.length_append,ln]; rfl
 refine ⟨_,rfl,_,rfl,_,_,rfl,rfl,b,xs,(ns++[a,d]).map V.int,_,rfl,(by rw [List.length_map,ll]; omega),hb,(by rw [List.length_map,ll]; omega),λl1 H1 s1 f1 e1=>?_⟩
 refine ⟨l1,rfl,⟨_,zE.of e1⟩,yi (K:=K) (a:=l1) (xs:=(ns++[a,d]).map V.int) (λi ys σ H'=>ys=((ns++[a,d]).take i).map V.int/\(∃ o,σ=[o])/\H'=H1)
  ⟨rfl,⟨none,rfl⟩,rfl⟩ (λi ys σ H' _ ⟨g1,_,g3⟩=>⟨by rw [g3]; exact zE.of e1,by rw [g1,List.length_map,List.length_take]; exact Nat.min_le_left _ _⟩) (yT (by rw [List.length_map]; omega)) ?_ ?_⟩
 ·rintro i x ys σ H' hi ⟨rfl,⟨o,rfl⟩,rfl⟩
  obtain ⟨z,hz,rfl⟩:=vU hi
  refine ⟨_,rfl,z,rfl,?_,⟨_,rfl⟩,rfl⟩
  rw [xY hz,List.map_append]
  rfl
 rintro ys σ H' ⟨rfl,⟨o,rfl⟩,rfl⟩ l2 h2
 rw [List.length_map,List.take_length]
 have w2:=zK h2 (HO.lst ((ns++[a,d]).map V.int))
 have y2:=s1.trans w2
 have e2:=zG (H:=H') (a:=l2) (o:=HO.lst ((ns++[a,d]).map V.int))
 generalize upd H' l2 (HO.lst ((ns++[a,d]).map V.int))=H2 at w2 y2 e2 |-
 refine ⟨_,rfl,_,rfl,_,rfl,_,_,rfl,rfl,_,rfl,b,_,rfl,zE.of (y2 _ _ hb),λl3 h3=>?_⟩
 rw [show zk (xs++((ns++[a,d]).map V.int).reverse) none (some (-(n:Int) - 2))=xs from Xe (by rw [List.length_reverse,List.length_map,ll]; omega) (by rw [List.length_reverse,List.length_map,ll]; omega)]
 have w3:=zK h3 (HO.lst xs)
 have y3:=y2.trans w3
 have a1:xC ((ns++[a,d]).map V.int) (n:Int)=some (V.int a):=xo (by rw [List.getElem?_map,List.getElem?_append_right (by omega),ln,Nat.sub_self]; rfl)
 have a2:xC ((ns++[a,d]).map V.int) ((n:Int) + 1)=some (V.int d):=by
  rw [show (n:Int) + 1=((n + 1:Nat):Int) by omega]
  exact xo (by rw [List.getElem?_map,List.getElem?_append_right (by omega),ln,Nat.add_sub_cancel_left]; rfl)
 refine ⟨_,rfl,_,rfl,_,rfl,l2,_,rfl,zE.of (w3 _ _ e2),λl4 h4=>?_⟩
 rw [Zt (ns++[a,d]) (b:=n) (by omega),List.take_left' ln]
 have w4:=w3.trans (zK h4 (HO.lst (ns.map V.int)))
 refine ⟨_,rfl,_,rfl,l2,_,_,_,rfl,rfl,zE.of (w4 _ _ e2),a1,_,rfl,_,rfl,_,_,rfl,rfl,l2,_,_,_,rfl,rfl,zE.of (w4 _ _ e2),a2,λx dx hx hdx ne=>?_⟩
 have zx:=vX hx hdx ne (HO.own x) (HO.ins ab dx [])
 have ex0:=zG (H:=upd (upd (upd H2 l3 (HO.lst xs)) l4 (HO.lst (ns.map V.int))) dx (HO.own x)) (a:=x) (o:=HO.ins ab dx [])
 obtain ⟨HX,hHX⟩:∃ HX,HX=upd (upd (upd (upd H2 l3 (HO.lst xs)) l4 (HO.lst (ns.map V.int))) dx (HO.own x)) x (HO.ins ab dx []):=⟨_,rfl⟩
 rw [<- hHX] at zx ex0 |-
 refine ⟨x,dx,l4,ns,a,d,rfl,ex0,zx _ _ zG,(by omega),λl H4 sb fl eo4 el=>⟨rfl,?_⟩⟩
 have s4:=(zK h4 (HO.lst (ns.map V.int))).trans (vW zx sb hx)
 have y4:=y3.trans s4
 refine ⟨(by show 1<=sizeLine; decide),λl5 h5=>?_⟩
 have w5:=zK h5 (HO.lst [V.ref x])
 refine ⟨l3,l5,_,_,rfl,rfl,w5 _ _ (s4 _ _ (zG)),zG,yT (by show xs.length + 1<=900; omega),λl6 h6=>?_⟩
 have w6:=zK h6 (HO.lst (xs++[V.ref x]))
 have s6:=j5 (B:=[l6]) (λz hz=>by rw [List.mem_singleton.mp hz]; exact h6) w6
 have y6:=y4.trans (w5.trans w6)
 exact q l6 (.ref x) _ y6 ((y4.trans w5).free h6) zG ⟨x,dx,l,rfl,s6 _ _ (w5 _ _ eo4),s6 _ _ (w5 _ _ el)⟩
theorem zFI {k:Nat} {f:Addr} {fd:FuncData} (F:yC K "stopped_ahead" "stopped_ahead" gT f fd) (B:Bl mg) (aJ:Fn P w K mg base "taken" ["behind","count"] (k + 1) ZO) (aU:xz P w K mg base ae ["self","rule","low","high"] k (kt ae)) (aE:Fn P w K mg base "ask_number" ["value"] (k + 1) ZP) (aF:Fn P w K mg base "ask_rule" ["value"] (k + 1) (ZQ ab ae ac)):zJ P w K mg base zh (k + 1 + 1) f fd ["behind"] (Xg ab ae ac):=by
 refine F.ok Up (λvs H Q E h=>?_) (λcdv A outer s H vs Q E hr h=>?_)
 ·obtain ⟨_,_,_,_,_,_,rfl,_⟩:=h
  rfl
 obtain ⟨b,xs,u,t,lo,hi,rfl,hb,hu,x1,q⟩:=h
 refine ⟨_,(zM (yG (i:=1) Up.nd rfl (Or.inl rfl) (zR aJ hr rfl (zA (L2.pv 0) (zA zH zD))))
  (zO (zY (zP vI (xW xb (L2.pv 0) vh (yh (qY qZ zH))) (ye (zA (vV aU ak hr rfl (zA (zR aF hr rfl (zA (zZ yJ (L2.pv 1) zH (λ_ _=>rfl)) zD)) (zA (zR aE hr rfl (zA (zZ yJ (L2.pv 1) zH (λ_ _=>rfl)) zD)) (zA (zR aE hr rfl (zA (zZ yJ (L2.pv 1) zH (λ_ _=>rfl)) zD)) zD)))) zD)))))),?_⟩
 try dsimp only [zQ,Cx.nox,Cx.wish]
 refine ⟨_,rfl,b,xs,[V.int lo,V.int hi,u],_,rfl,rfl,hb,(by show 3<=10; decide),λl1 H1 s1 f1 e1=>?_⟩
 refine ⟨_,rfl,_,rfl,_,rfl,b,_,rfl,zE.of (s1 _ _ hb),λl3 h3=>?_⟩
 rw [show zk (xs++[V.int lo,V.int hi,u].reverse) none (some (-3))=xs from Xe rfl (by show 1<=3; decide)]
 have w3:=zK h3 (HO.lst xs)
 have y3:=s1.trans w3
 have e3:=w3 _ _ e1
 refine ⟨_,rfl,l1,_,2,_,rfl,rfl,zE.of e3,rfl,u,t,rfl,hu.same y3,_,rfl,l1,_,0,_,rfl,rfl,zE.of e3,rfl,lo,rfl,_,rfl,l1,_,1,_,rfl,rfl,zE.of e3,rfl,hi,rfl,λx dx hx hdx ne=>?_⟩
 have zx:=vX hx hdx ne (HO.own x) (HO.ins ae dx [])
 have ex0:=zG (H:=upd (upd H1 l3 (HO.lst xs)) dx (HO.own x)) (a:=x) (o:=HO.ins ae dx [])
 obtain ⟨HX,hHX⟩:∃ HX,HX=upd (upd (upd H1 l3 (HO.lst xs)) dx (HO.own x)) x (HO.ins ae dx []):=⟨_,rfl⟩
 rw [<- hHX] at zx ex0 |-
 refine ⟨x,dx,u,lo,hi,rfl,ex0,λH4 sb eo4=>⟨rfl,?_⟩⟩
 have s4:=vW zx sb hx
 have y4:=y3.trans s4
 refine ⟨(by show 1<=sizeLine; decide),λl5 h5=>?_⟩
 have w5:=zK h5 (HO.lst [V.ref x])
 refine ⟨l3,l5,_,_,rfl,rfl,w5 _ _ (s4 _ _ (zG)),zG,yT (by show xs.length + 1<=900; omega),λl6 h6=>?_⟩
 have w6:=zK h6 (HO.lst (xs++[V.ref x]))
 have s6:=j5 (B:=[l6]) (λz hz=>by rw [List.mem_singleton.mp hz]; exact h6) w6
 have y6:=y4.trans (w5.trans w6)
 exact q l6 (.ref x) _ y6 ((y4.trans w5).free h6) zG ⟨x,dx,u,rfl,s6 _ _ (w5 _ _ eo4),yx.same (y4.trans (w5.trans s6)) hu⟩
theorem zFo {k:Nat} {f:Addr} {fd:FuncData} (F:yC K "parted_ahead" "parted_ahead" gU f fd) (B:Bl mg) (aJ:Fn P w K mg base "taken" ["behind","count"] (k + 1) ZO) (aE:Fn P w K mg base "ask_number" ["value"] (k + 1) ZP) (aV:xz P w K mg base ac ["self","row","rule","other"] k (ku ac)) (aF:Fn P w K mg base "ask_rule" ["value"] (k + 1) (ZQ ab ae ac)):zJ P w K mg base zh (k + 1 + 1) f fd ["behind","many"] (Xh ab ae ac):=by
 refine F.ok Xi (λvs H Q E h=>?_) (λcdv A outer s H vs Q E hr h=>?_)
 ·obtain ⟨_,_,_,_,_,_,_,_,rfl,_⟩:=h
  rfl
 obtain ⟨b,xs,r,u,v2,tx1,ty1,n,rfl,lr,n3,hb,hu,hw,x1,q⟩:=h
 refine ⟨_,(zM (yG (i:=2) Xi.nd rfl (Or.inl rfl) (zR aJ hr rfl (zA (L2.pv 0) (zA (zP yS (L2.pv 1) zH) zD))))
  (zM (yG (i:=3) Xi.nd rfl (Or.inl rfl) (yz ue rfl B.tuple_ ww (zA (yu (own:=["value"]) (caps:=[]) (xk rfl) rfl (yU (xW xb (L2.pv 2) vh (yh (zP yS (L2.pv 1) zH)))) (λ_ _ _ _=>zw (i:=0) (show (["value"]:List Str).Nodup by decide +kernel) rfl (Or.inl rfl)) (λ_ _ _ _=>(zR aE hr rfl (zA (L2.pv 0) zD)))) zD)))
  (zO (zY (zP vI (xW xb (L2.pv 0) vh (yh (zP vS (qY qZ (L2.pv 1)) zH))) (ye (zA (vV aV ai hr rfl (zA (L2.pv 3) (zA (zR aF hr rfl (zA (zZ yJ (L2.pv 2) (zP yS (L2.pv 1) zH) (λ_ _=>rfl)) zD)) (zA (zR aF hr rfl (zA (zZ yJ (L2.pv 2) (zP yS (L2.pv 1) zH) (λ_ _=>rfl)) zD)) zD)))) zD))))))),?_⟩
 try dsimp only [zQ,Cx.nox,Cx.wish]
 have ll:(r.map V.int++[u,v2]).length=n + 3:=by rw [List.length_append,List.length_map,lr]; rfl
 refine ⟨_,rfl,_,rfl,_,_,rfl,rfl,b,xs,r.map V.int++[u,v2],_,rfl,(by rw [ll]; omega),hb,(by rw [ll]; omega),λl1 H1 s1 f1 e1=>?_⟩
 refine ⟨_,rfl,_,rfl,_,_,rfl,rfl,_,rfl,l1,_,rfl,zE.of e1,λlc hc=>?_⟩
 rw [show zk (r.map V.int++[u,v2]) none (some ((n:Int) + 1))=r.map V.int from by
  have e2:HT.sIx (r.map V.int++[u,v2]).length (r.map V.int++[u,v2]).length (some ((n + 1:Nat):Int))=min (n + 1) (r.map V.int++[u,v2]).length:=HT.sIx_nat _ _ _
  unfold zk
  rw [show (n:Int) + 1=((n + 1:Nat):Int) by omega,e2,HT.sIx_none,ll,List.drop_zero,Nat.sub_zero,show min (n + 1) (n + 3)=n + 1 by omega,List.take_left' (by rw [List.length_map,lr])]]
 have wc:=zK hc (HO.lst (r.map V.int))
 refine ⟨lc,rfl,⟨_,zE.of zG⟩,yi (K:=K) (a:=lc) (xs:=r.map V.int) (λi ys σ H'=>ys=(r.take i).map V.int/\(∃ o,σ=[o])/\H'=upd H1 lc (HO.lst (r.map V.int)))
  ⟨rfl,⟨none,rfl⟩,rfl⟩ (λi ys σ H' _ ⟨g1,_,g3⟩=>⟨by rw [g3]; exact zE.of zG,by rw [g1,List.length_map,List.length_take]; exact Nat.min_le_left _ _⟩) (yT (by rw [List.length_map]; omega)) ?_ ?_⟩
 ·rintro i x ys σ H' hi ⟨rfl,⟨o,rfl⟩,rfl⟩
  obtain ⟨z,hz,rfl⟩:=vU hi
  refine ⟨_,rfl,z,rfl,?_,⟨_,rfl⟩,rfl⟩
  rw [xY hz,List.map_append]
  rfl
 rintro ys σ H' ⟨rfl,⟨o,rfl⟩,rfl⟩ l2 h2
 rw [List.length_map,List.take_length]
 have w2:=wc.trans (zK h2 (HO.lst (r.map V.int)))
 refine ⟨l2,_,rfl,.inl ⟨zE.of zG,λt ht=>?_⟩⟩
 have wt:=w2.trans (zK ht (HO.tup (r.map V.int)))
 have et:=zG (H:=upd (upd H1 lc (HO.lst (r.map V.int))) l2 (HO.lst (r.map V.int))) (a:=t) (o:=HO.tup (r.map V.int))
 generalize upd (upd (upd H1 lc (HO.lst (r.map V.int))) l2 (HO.lst (r.map V.int))) t (HO.tup (r.map V.int))=H2 at wt et |-
 have y2:=s1.trans wt
 refine ⟨_,rfl,_,rfl,_,rfl,_,_,rfl,rfl,_,rfl,b,_,rfl,zE.of (y2 _ _ hb),λl3 h3=>?_⟩
 rw [show zk (xs++(r.map V.int++[u,v2]).reverse) none (some (-(n:Int) - 3))=xs from Xe (by rw [List.length_reverse,ll]; omega) (by rw [List.length_reverse,ll]; omega)]
 have w3:=zK h3 (HO.lst xs)
 have y3:=y2.trans w3
 have e3:=(wt.trans w3) _ _ e1
 have a1:xC (r.map V.int++[u,v2]) ((n:Int) + 1)=some u:=by
  rw [show (n:Int) + 1=((n + 1:Nat):Int) by omega]
  exact xo (by rw [List.getElem?_append_right (by rw [List.length_map]; omega),List.length_map,lr,Nat.sub_self]; rfl)
 have a2:xC (r.map V.int++[u,v2]) ((n:Int) + 2)=some v2:=by
  rw [show (n:Int) + 2=((n + 2:Nat):Int) by omega]
  exact xo (by rw [List.getElem?_append_right (by rw [List.length_map]; omega),List.length_map,lr,show n + 2 - (n + 1)=1 by omega]; rfl)
 refine ⟨_,rfl,_,rfl,_,rfl,_,_,rfl,rfl,l1,_,_,_,rfl,rfl,zE.of e3,a1,u,tx1,rfl,hu.same y3,_,rfl,_,rfl,_,_,rfl,rfl,l1,_,_,_,rfl,rfl,zE.of e3,a2,v2,ty1,rfl,hw.same y3,λx dx hx hdx ne=>?_⟩
 have zx:=vX hx hdx ne (HO.own x) (HO.ins ac dx [])
 have ex0:=zG (H:=upd (upd H2 l3 (HO.lst xs)) dx (HO.own x)) (a:=x) (o:=HO.ins ac dx [])
 obtain ⟨HX,hHX⟩:∃ HX,HX=upd (upd (upd H2 l3 (HO.lst xs)) dx (HO.own x)) x (HO.ins ac dx []):=⟨_,rfl⟩
 rw [<- hHX] at zx ex0 |-
 refine ⟨x,dx,t,r,u,v2,rfl,ex0,zx _ _ (w3 _ _ et),(by omega),λrb H4 sb fl eo4 el=>⟨rfl,?_⟩⟩
 have s4:=vW zx sb hx
 have y4:=y3.trans s4
 refine ⟨(by show 1<=sizeLine; decide),λl5 h5=>?_⟩
 have w5:=zK h5 (HO.lst [V.ref x])
 refine ⟨l3,l5,_,_,rfl,rfl,w5 _ _ (s4 _ _ (zG)),zG,yT (by show xs.length + 1<=900; omega),λl6 h6=>?_⟩
 have w6:=zK h6 (HO.lst (xs++[V.ref x]))
 have s6:=j5 (B:=[l6]) (λz hz=>by rw [List.mem_singleton.mp hz]; exact h6) w6
 have y6:=y4.trans (w5.trans w6)
 exact q l6 (.ref x) _ y6 ((y4.trans w5).free h6) zG ⟨x,dx,rb,u,v2,rfl,s6 _ _ (w5 _ _ eo4),s6 _ _ (w5 _ _ el),yx.same (y4.trans (w5.trans s6)) hu,yx.same (y4.trans (w5.trans s6)) hw⟩
end
noncomputable def v6 (C1 C2 C3:Addr) (H:Hp) (v:V):Im->Prop
 | .num i=>v=.int i
 | .rul t=>yx C1 C2 C3 H v t
theorem v6.same {C1 C2 C3:Addr} {H H':Hp} (s:zC H H') {v:V}:∀ {m:Im},v6 C1 C2 C3 H v m->v6 C1 C2 C3 H' v m
 | .num _,h=>h
 | .rul _,h=>yx.same s h
theorem Z8 {C1 C2 C3:Addr} {H H':Hp} (s:zC H H') {vs:List V} {ms:List Im} (h:Paired (v6 C1 C2 C3 H) vs ms):Paired (v6 C1 C2 C3 H') vs ms:=Paired.mapP h λ_ _ z=>z.same s
theorem Z9 {C1 C2 C3:Addr} {H:Hp}:∀ (l:List Int) {vs:List V} {ms:List Im},Paired (v6 C1 C2 C3 H) vs (l.map Im.num++ms)->∃ us,vs=l.map V.int++us/\Paired (v6 C1 C2 C3 H) us ms
 | [],vs,_,h=>⟨vs,rfl,h⟩
 | x :: l,_,_,.cons a h=>by
  obtain ⟨us,e,h2⟩:=Z9 l h
  have a:_=V.int x:=a
  exact ⟨us,by rw [e,a]; rfl,h2⟩
theorem Uq {b:Addr} {H:Hp} {o:HO}:zC (zz [b] H) (zz [b] (upd H b o)):=XB (xI.put o (xI.refl _ _) (List.mem_singleton.mpr rfl))
noncomputable def Xj (C1 C2 C3:Addr):Sp:=λvs H Q _=>∃ (t:RT) (n:Nat),vs=[.str (xX t),.int (n:Int)]/\xK n t/\∀ v H',zC H H'->yx C1 C2 C3 H' v t->Q v H'
section
variable {P:Program} {w:World} {K:PySem.W.Frag} {mg:Str->Option Value} {base:Heap}
noncomputable abbrev gW:Stmt:=top 51
theorem gX:zq ["text","many","behind","word"] ["text","many"] (zL gW):=.a
variable {aClaim aSettles aComes aRule ab ae ac af au:Addr} (TClaim:zF K mg "Claim" aClaim) (AClaim:wY K aClaim) (TSettles:zF K mg "Settles" aSettles) (ASettles:wb K aSettles) (TComes:zF K mg "Comes" aComes) (AComes:wf K aComes) (TRule:zF K mg "Rule" aRule) (ARule:wg K aRule) (aj:zF K mg "Straight" ab) (ap:wj K ab) (ak:zF K mg "Stopped" ae) (aq:wk K ae) (ai:zF K mg "Parted" ac) (ao:wm K ac) (ag:zF K mg "Mode" af) (ah:wn K af) (am:zF K mg "Thing" au) (ar:wo K au) (Y:wp K aRule ab ae ac aClaim aSettles aComes)
include TClaim AClaim TSettles ASettles TComes AComes TRule ARule aj ap ak aq ai ao ag ah am ar Y
theorem zHQ {k:Nat} {f:Addr} {fd:FuncData} (F:yC K "read_rule" "read_rule" gW f fd) (B:Bl mg) (aD:Fn P w K mg base "split_text" ["text","separator"] k qo) (dl:Fn P w K mg base "straight_ahead" ["behind","many"] k (Xf ab ae ac)) (dm:Fn P w K mg base "stopped_ahead" ["behind"] k (Xg ab ae ac)) (dn:Fn P w K mg base "parted_ahead" ["behind","many"] k (Xh ab ae ac)) (aH:Fn P w K mg base "read_number" ["text"] k ZL) (aF:Fn P w K mg base "ask_rule" ["value"] k (ZQ ab ae ac)):zJ P w K mg base zh (k + 1) f fd ["text","many"] (Xj ab ae ac):=by
 refine F.ok gX (λvs H Q E h=>?_) (λcdv A outer s H vs Q E hr h=>?_)
 ·obtain ⟨_,_,rfl,_⟩:=h
  rfl
 obtain ⟨t,n,rfl,RO,q⟩:=h
 refine ⟨_,(zM (yG (i:=2) gX.nd rfl (Or.inl rfl) (ye zD))
  (zM (vt PassesOwn.never rfl (KJ rfl B.reversed_ (zA (zR aD hr rfl (zA (L2.pv 0) (zA zu zD))) zD)) (zw (i:=3) gX.nd rfl (Or.inl rfl)) (zO (zo (yK xB (L2.pv 3) zu (zp _)) (zO (yG (i:=2) gX.nd rfl (Or.inl rfl) (zR dl hr rfl (zA (L2.pv 2) (zA (L2.pv 1) zD))))) (zO (zo (yK xB (L2.pv 3) zu (zp _)) (zO (yG (i:=2) gX.nd rfl (Or.inl rfl) (zR dm hr rfl (zA (L2.pv 2) zD)))) (zO (zo (yK xB (L2.pv 3) zu (zp _)) (zO (yG (i:=2) gX.nd rfl (Or.inl rfl) (zR dn hr rfl (zA (L2.pv 2) (zA (L2.pv 1) zD))))) (zO (vq (xD PySem.F.plainAttrs_list PySem.F.slot_list_append PySem.F.type_list_append v8 (L2.pv 2) (zA (zR aH hr rfl (zA (L2.pv 3) zD)) zD)))))))))))
  (zM (zo (yK vf (zm xq rfl B.len_ xc (zA (L2.pv 2) zD)) zH (zp _)) (zO vD) yA)
  (zO (zY (zR aF hr rfl (zA (zZ yJ (L2.pv 2) zH (λ_ _=>rfl)) zD))))))),?_⟩
 try dsimp only [zQ,Cx.nox,Cx.wish]
 obtain ⟨n3,TN,w70⟩:=id RO
 have tl:=UZ TN w70
 refine ⟨(by show 0<=sizeLine; decide),λb0 hb0=>?_⟩
 refine ⟨_,rfl,xX t,_,rfl,(by decide +kernel),(by omega),λa H1 s1 fa ea=>?_⟩
 rw [show Txt.split (xX t) (Str.ofString " ")=(wd t).map wJ from KR t] at ea
 have e0:H1 b0=some (.lst []):=s1 _ _ zG
 have na:a≠b0:=λe=>by rw [e,zG] at fa; cases fa
 have S0:zC H (zz [b0] H1):=j5 (λz hz=>by rw [List.mem_singleton.mp hz]; exact hb0) ((zK hb0 _).trans s1)
 have ea0:zz [b0] H1 a=some (.lst (((wd t).map wJ).map V.str)):=(j4 (λz=>na (List.mem_singleton.mp z))).trans ea
 have xl:(((wd t).map wJ).map V.str).length=(wd t).length:=by rw [List.length_map,List.length_map]
 refine ⟨a,_,rfl,zE.of ea,KL (K:=K) (a:=a) (xs:=((wd t).map wJ).map V.str) (λi σ H'=>∃ (b:Addr) (tops:List V) (bs:List Im) (o:Option V),σ=[some (.str (xX t)),some (.int (n:Int)),some (.ref b),o]/\zC (zz [b0] H1) H'/\zz [b0] H1 b=none/\H' b=some (.lst tops.reverse)/\Paired (v6 ab ae ac (zz [b] H')) tops bs/\Go n ((wd t).reverse.drop i) bs [.rul t]/\tops.length<=i)
  ⟨b0,[],[],_,rfl,uG,W4 (List.mem_singleton.mpr rfl),e0,.nil,Z0 t [] TN,Nat.le_refl _⟩ (λi σ H' _ ⟨_,_,_,_,_,sm,_⟩=>zE.of (sm _ _ ea0)) ?_ ?_⟩
 ·rintro i x σ H' hx ⟨b,tops,bs,o,rfl,sm,fb,hb,hit,hgo,li⟩
  rw [<- List.map_reverse,<- List.map_reverse,List.getElem?_map,List.getElem?_map] at hx
  obtain ⟨w,hw,rfl⟩:∃ w,(wd t).reverse[i]? = some w/\x=V.str (wJ w):=by
   cases e:(wd t).reverse[i]? with
   | none=>rw [e] at hx; cases hx
   | some w=>rw [e] at hx; exact ⟨w,rfl,(Option.some.inj hx).symm⟩
  have hlt:=(List.getElem?_eq_some_iff.mp hw).1
  rw [List.length_reverse] at hlt
  rw [List.drop_eq_getElem_cons (by rw [List.length_reverse]; exact hlt),(List.getElem?_eq_some_iff.mp hw).2] at hgo
  obtain ⟨c,hs,hgo⟩:=hgo
  cases hs with
  | @num j=>
   have nj:Nm j:=ZI TN j (List.mem_reverse.mp (List.mem_of_getElem? hw))
   refine ⟨_,rfl,rfl,_,rfl,yH (decide_eq_false λz=>KU j (V.str.inj z)) ?_⟩
   refine ⟨_,rfl,rfl,_,rfl,yH (decide_eq_false λz=>KW j (V.str.inj z)) ?_⟩
   refine ⟨_,rfl,rfl,_,rfl,yH (decide_eq_false λz=>KY j (V.str.inj z)) ?_⟩
   refine ⟨_,rfl,.inl ⟨rfl,_,zE.of hb⟩,_,rfl,j,rfl,nj,λH3 s3=>?_⟩
   refine ⟨b,_,_,rfl,rfl,s3 _ _ hb,yn (by rw [List.length_reverse]; omega),?_⟩
   refine ⟨b,.int j :: tops,.num j :: bs,_,rfl,uC (sm.trans s3) fb,fb,by rw [List.reverse_cons]; exact zG,.cons (show V.int j=V.int j from rfl) (Z8 ((W6 s3).trans Uq) hit),hgo,?_⟩
   rw [List.length_cons]; omega
  | @str ns a1 d1 bs' ln=>
   obtain ⟨us,rfl,hus⟩:=Z9 (ns++[a1,d1]) hit
   rw [List.reverse_append] at hb
   rw [List.length_append] at li
   refine ⟨_,rfl,rfl,_,rfl,xG (decide_eq_true rfl) ?_⟩
   refine ⟨_,rfl,_,rfl,b,us.reverse,ns,a1,d1,n,rfl,ln,n3,hb,(by rw [List.length_reverse]; omega),λl v H3 s3 fl el hv=>?_⟩
   refine ⟨l,v :: us,.rul (.str ns a1 d1) :: bs',_,rfl,sm.trans s3,sm.free fl,by rw [List.reverse_cons]; exact el,.cons (show v6 ab ae ac (zz [l] H3) v (.rul (.str ns a1 d1)) from hv) (Z8 (uG.trans (j5 (B:=[l]) (λz hz=>by rw [List.mem_singleton.mp hz]; exact fl) s3)) hus),hgo,?_⟩
   rw [List.length_map,List.length_append] at li
   have li:ns.length + 2 + us.length<=i:=li
   rw [List.length_cons]; omega
  | @stp t1 lo hi bs'=>
   obtain ⟨us,rfl,hus⟩:∃ us,tops=V.int lo :: V.int hi :: us/\Paired (v6 ab ae ac (zz [b] H')) us (.rul t1 :: bs'):=Z9 [lo,hi] hit
   cases hus with
   | @cons u _ us _ hu hus=>
   have li:us.length + 1 + 1 + 1<=i:=li
   rw [show (V.int lo :: V.int hi :: u :: us).reverse=us.reverse++[V.int lo,V.int hi,u].reverse from List.reverse_append (as:=[V.int lo,V.int hi,u])] at hb
   refine ⟨_,rfl,rfl,_,rfl,yH jB ?_⟩
   refine ⟨_,rfl,rfl,_,rfl,xG (decide_eq_true rfl) ?_⟩
   refine ⟨_,rfl,b,us.reverse,u,t1,lo,hi,rfl,hb,yx.same uG hu,(by rw [List.length_reverse]; omega),λl v H3 s3 fl el hv=>?_⟩
   refine ⟨l,v :: us,.rul (.stp t1 lo hi) :: bs',_,rfl,sm.trans s3,sm.free fl,by rw [List.reverse_cons]; exact el,.cons (show v6 ab ae ac (zz [l] H3) v (.rul (.stp t1 lo hi)) from hv) (Z8 (uG.trans (j5 (B:=[l]) (λz hz=>by rw [List.mem_singleton.mp hz]; exact fl) s3)) hus),hgo,?_⟩
   rw [List.length_cons]; omega
  | @prt r x1 y1 bs' lr=>
   obtain ⟨us,rfl,hus⟩:=Z9 r hit
   cases hus with
   | @cons u _ us _ hu hus=>
   cases hus with
   | @cons u2 _ us _ hu2 hus=>
   have e4:(r.map V.int++u :: u2 :: us).reverse=us.reverse++(r.map V.int++[u,u2]).reverse:=by
    rw [show r.map V.int++u :: u2 :: us=(r.map V.int++[u,u2])++us by rw [List.append_assoc]; rfl,List.reverse_append]
   rw [e4] at hb
   rw [List.length_append] at li
   have li:(r.map V.int).length + (us.length + 1 + 1)<=i:=li
   refine ⟨_,rfl,rfl,_,rfl,yH jC ?_⟩
   refine ⟨_,rfl,rfl,_,rfl,yH jD ?_⟩
   refine ⟨_,rfl,rfl,_,rfl,xG (decide_eq_true rfl) ?_⟩
   refine ⟨_,rfl,_,rfl,b,us.reverse,r,u,u2,x1,y1,n,rfl,lr,n3,hb,yx.same uG hu,yx.same uG hu2,(by rw [List.length_reverse]; omega),λl v H3 s3 fl el hv=>?_⟩
   refine ⟨l,v :: us,.rul (.prt r x1 y1) :: bs',_,rfl,sm.trans s3,sm.free fl,by rw [List.reverse_cons]; exact el,.cons (show v6 ab ae ac (zz [l] H3) v (.rul (.prt r x1 y1)) from hv) (Z8 (uG.trans (j5 (B:=[l]) (λz hz=>by rw [List.mem_singleton.mp hz]; exact fl) s3)) hus),hgo,?_⟩
   rw [List.length_cons]; omega
 rintro σ H' ⟨b,tops,bs,o,rfl,sm,fb,hb,hit,hgo,li⟩
 rw [xl,List.drop_eq_nil_of_le (by rw [List.length_reverse]; exact Nat.le_refl _)] at hgo
 cases (show bs=[.rul t] from hgo)
 cases hit with
 | @cons v _ us _ hv hus=>
 cases hus
 refine ⟨_,rfl,b,_,rfl,.inl (zE.of hb),rfl,_,rfl,yH (qc rfl) ?_⟩
 exact ⟨_,rfl,b,_,0,_,rfl,rfl,zE.of hb,rfl,v,t,rfl,yx.same uG hv,q v H' (S0.trans sm) (yx.same uG hv)⟩
end
theorem gY {x y:Str} (h:x=y):(!decide (V.str x=V.str y))=false:=by rw [h,decide_eq_true rfl]; rfl
noncomputable def Xk (CS CC:Addr):Sp:=λvs H Q _=>∃ (k:Bool) (t:Int) (ss rs:List (List Int)) (n:Nat),vs=[.str (jE k t ss rs),.int (n:Int)]/\vY (n + 1) ss/\vY (n + 1) rs/\0<=t/\Nm t∧
 ∀ v o dx sa ra sv rv H',zC H H'->Ug CS CC H' k v ss rs t o dx sa ra sv rv->Q v H'
theorem vY.few {n:Nat} {room:List (List Int)} (h:vY n room):room.length<=900/\∀ r∈room,r.length<=900:=⟨by have:=h.1; omega,λr hr=>by have:=(h.2.2 r hr).1; have:=h.2.1; omega⟩
theorem cne:decide (V.str (wP false)=V.str (Str.ofString "settles"))=false:=by decide +kernel
noncomputable def xw (H:Hp) (v:V) (l:Ln):Prop:=∃ a,v=.ref a/\H a=some (.lst ((uk l).map V.str))
theorem xw.same {H H':Hp} (s:zC H H') {v:V} {l:Ln} (h:xw H v l):xw H' v l:=let ⟨a,e,q⟩:=h; ⟨a,e,s _ _ q⟩
theorem YA {H H':Hp} (s:zC H H') {vs:List V} {ls:List Ln} (h:Paired (xw H) vs ls):Paired (xw H') vs ls:=Paired.mapP h λ_ _ z=>z.same s
theorem ZR {l:Ln}:xC ((uk l).map V.str) 0=some (V.str l.1):=xo (j:=0) rfl
noncomputable def YB:Sp:=λvs H Q _=>∃ (v:V) (l:Ln) (c:Int),vs=[v,.str l.1,.int c]/\xw H v l/\xA l/\c=(l.2.length:Int)/\∀ p H',zC H H'->H p=none->H' p=some (.lst (l.2.map V.int))->Q (.ref p) H'
noncomputable def uo (H0 H:Hp) (v:V) (b:List Ln):Prop:=∃ a bv,v=.ref a/\H a=some (.lst bv)/\Paired (xw H0) bv b
theorem uo.same {H0 H H':Hp} (s:zC H H') {v:V} {b:List Ln} (h:uo H0 H v b):uo H0 H' v b:=let ⟨a,bv,e,q,z⟩:=h; ⟨a,bv,e,s _ _ q,z⟩
theorem Xl {H0 H H':Hp} (s:zC H H') {vs:List V} {bs:List (List Ln)} (h:Paired (uo H0 H) vs bs):Paired (uo H0 H') vs bs:=Paired.mapP h λ_ _ z=>z.same s
noncomputable def Xm:Sp:=λvs H Q _=>∃ (a:Addr) (lv:List V) (bks:List (List Ln)),vs=[.ref a]/\H a=some (.lst lv)/\Paired (xw H) lv bks.flatten/\(∀ b∈bks,jG xE b)/\lv.length<=900/\∀ l blv H',zC H H'->H l=none->H' l=some (.lst blv)->Paired (uo H H') blv bks->Q (.ref l) H'
structure Bls (H H':Hp) (L:Addr) (cur:List (List Ln)) (i:Nat) (iv:List V) (al:Addr) (lv:List V) (ib:List (List Ln)) (lb:List Ln):Prop where
 hL:H' L=some (.lst (iv++[.ref al]))
 ne:al≠L
 fr:H al=none
 ha:H' al=some (.lst lv)
 pl:Paired (xw H) lv lb
 pi:Paired (uo H (zz [L,al] H')) iv ib
 e:cur=ib++[lb]
 l1:iv.length + 1<=i
 l2:lv.length<=i
theorem Wz {w:Str} {ls:List Ln} {i:Nat} {l:Ln} (h:ls[i]? = some l):(ls.take (i + 1)).foldl (wK w) []=wK w ((ls.take i).foldl (wK w) []) l:=by rw [xY h,List.foldl_append]; rfl
theorem Ur {w:Str} {bs:List (List Ln)} {l:Ln} (h:l.1=w):wK w bs l=bs++[[l]]:=if_pos h
theorem zK9 {w:Str} {a:List (List Ln)} {b:List Ln} {l:Ln} (h:¬ l.1=w):wK w (a++[b]) l=a++[b++[l]]:=by
 unfold wK
 rw [if_neg h,List.dropLast_concat,List.getLast?_concat]
 rfl
theorem zKD {w:Str} {bks:List (List Ln)} (h:∀ b∈bks,jG w b) {l:Ln} (e:bks.flatten[0]? = some l):l.1=w:=by
 cases bks with
 | nil=>cases e
 | cons b bs=>
  obtain ⟨x,r,rfl,hx,_⟩:=h b List.mem_cons_self
  have e:some x=some l:=e
  rw [<- Option.some.inj e]
  exact hx
section
variable {P:Program} {w:World} {K:PySem.W.Frag} {mg:Str->Option Value} {base:Heap}
noncomputable abbrev gZ:Stmt:=top 58
theorem YC:zq ["text","many","parts","words","turn"] ["text","many"] (zL gZ):=.a
noncomputable abbrev ga:Stmt:=top 60
theorem zE0:zq ["words","name","count"] ["words","name","count"] (zL ga):=.a
noncomputable abbrev gb:Stmt:=top 61
theorem Xn:zq ["lines","blocks","words"] ["lines"] (zL gb):=.a
variable {aClaim aSettles aComes aRule ab ae ac af au:Addr} (TClaim:zF K mg "Claim" aClaim) (AClaim:wY K aClaim) (TSettles:zF K mg "Settles" aSettles) (ASettles:wb K aSettles) (TComes:zF K mg "Comes" aComes) (AComes:wf K aComes) (TRule:zF K mg "Rule" aRule) (ARule:wg K aRule) (aj:zF K mg "Straight" ab) (ap:wj K ab) (ak:zF K mg "Stopped" ae) (aq:wk K ae) (ai:zF K mg "Parted" ac) (ao:wm K ac) (ag:zF K mg "Mode" af) (ah:wn K af) (am:zF K mg "Thing" au) (ar:wo K au) (Y:wp K aRule ab ae ac aClaim aSettles aComes)
include TClaim AClaim TSettles ASettles TComes AComes TRule ARule aj ap ak aq ai ao ag ah am ar Y
theorem zGt {k:Nat} {f:Addr} {fd:FuncData} (F:yC K "read_claim" "read_claim" gZ f fd) (B:Bl mg) (aD:Fn P w K mg base "split_text" ["text","separator"] (k + 1) qo) (aH:Fn P w K mg base "read_number" ["text"] (k + 1) ZL) (aW:xf P w K mg base aSettles ["self","start","rows","turn"] k (jc aSettles wq) (.int 0)) (aP:Fn P w K mg base "read_room" ["text","many"] (k + 1) XW) (aX:xz P w K mg base aComes ["self","start","goal","turns"] k (jc aComes wr)):zJ P w K mg base zh (k + 1 + 1) f fd ["text","many"] (Xk aSettles aComes):=by
 refine F.ok YC (λvs H Q E h=>?_) (λcdv A outer s H vs Q E hr h=>?_)
 ·obtain ⟨_,_,_,_,_,rfl,_⟩:=h
  rfl
 obtain ⟨b,t,ss,rs,n,rfl,R1,R2,t0,nt,q⟩:=h
 refine ⟨_,(zM (yG (i:=2) YC.nd rfl (Or.inl rfl) (zR aD hr rfl (zA (L2.pv 0) (zA (jZ rfl B.PART_BREAK_) zD))))
  (zM (yG (i:=3) YC.nd rfl (Or.inl rfl) (xD PySem.F.plainAttrs_str PySem.F.slot_str_split PySem.F.type_str_split Zx (zZ yJ (L2.pv 2) zH (λ_ _=>rfl)) (zA zu zD)))
  (zM (zo (PW.pt (xZ (yK vf (zm xq rfl B.len_ xc (zA (L2.pv 2) zD)) zH (zp _)) (wR (yK vf (zm xq rfl B.len_ xc (zA (L2.pv 3) zD)) zH (zp _))))) (zO vD) yA)
  (zM (yG (i:=4) YC.nd rfl (Or.inl rfl) (zR aH hr rfl (zA (zZ yJ (L2.pv 3) zH (λ_ _=>rfl)) zD)))
  (zM (zo (yK jM (L2.pv 4) zH (zp _)) (zO vD) yA)
  (zM (zo (yK xB (zZ yJ (L2.pv 3) zH (λ_ _=>rfl)) zu (zp _)) (zO (zY (vV aW.fn TSettles hr rfl (zA (zR aP hr rfl (zA (zZ yJ (L2.pv 2) zH (λ_ _=>rfl)) (zA (L2.pv 1) zD))) (zA (zR aP hr rfl (zA (zZ yJ (L2.pv 2) zH (λ_ _=>rfl)) (zA (L2.pv 1) zD))) (zA (L2.pv 4) zD)))))) yA)
  (zM (zo (yK xB (zZ yJ (L2.pv 3) zH (λ_ _=>rfl)) zu (zp _)) (zO (zY (vV aX TComes hr rfl (zA (zR aP hr rfl (zA (zZ yJ (L2.pv 2) zH (λ_ _=>rfl)) (zA (L2.pv 1) zD))) (zA (zR aP hr rfl (zA (zZ yJ (L2.pv 2) zH (λ_ _=>rfl)) (zA (L2.pv 1) zD))) (zA (L2.pv 4) zD)))))) yA)
  (zO vD)))))))),?_⟩
 try dsimp only [zQ,Cx.nox,Cx.wish]
 have tl:=XZ (k:=b) R1 R2 nt
 have l16:=jH
 refine ⟨_,rfl,jE b t ss rs,_,rfl,(by decide +kernel),(by omega),λa H1 s1 fa ea=>?_⟩
 rw [show Txt.split (jE b t ss rs) (Str.ofString " | ")=[v3 b t,yq ss,yq rs] from Kc b t ss rs] at ea
 have hl:=Z3 (k:=b) nt
 refine ⟨_,rfl,a,_,0,_,rfl,rfl,zE.of ea,rfl,rfl,v3 b t,_,rfl,rfl,(by decide +kernel),(by omega),λc hc=>?_⟩
 rw [show Txt.split (v3 b t) (Str.ofString " ")=[wP b,sN t] from Ka b t]
 have w2:=zK hc (HO.lst ([wP b,sN t].map V.str))
 have ec:=zG (H:=H1) (a:=c) (o:=HO.lst ([wP b,sN t].map V.str))
 generalize upd H1 c (HO.lst ([wP b,sN t].map V.str))=H2 at w2 ec |-
 refine ⟨_,rfl,a,_,rfl,.inl (zE.of (w2 _ _ ea)),rfl,_,rfl,yH (qc rfl) ?_⟩
 refine ⟨_,rfl,c,_,rfl,.inl (zE.of ec),rfl,_,rfl,yH (qc rfl) ?_⟩
 refine ⟨_,rfl,c,_,1,_,rfl,rfl,zE.of ec,rfl,t,rfl,nt,λH3 s3=>?_⟩
 have y3:=w2.trans s3
 have ec3:=s3 _ _ ec
 refine ⟨_,rfl,_,_,rfl,rfl,_,rfl,yH (decide_eq_false (by omega)) ?_⟩
 cases b with
 | true=>
  refine ⟨_,rfl,c,_,0,_,rfl,rfl,zE.of ec3,rfl,rfl,_,rfl,xG (decide_eq_true rfl) ?_⟩
  refine ⟨_,rfl,a,_,1,_,rfl,rfl,zE.of (y3 _ _ ea),rfl,_,rfl,ss,n,rfl,R1,λl1 v1 H4 s4 f4 e4 w4=>?_⟩
  refine ⟨_,rfl,a,_,2,_,rfl,rfl,zE.of ((y3.trans s4) _ _ ea),rfl,_,rfl,rs,n,rfl,R2,λl2 v2 H5 s5 f5 e5 w5=>?_⟩
  refine ⟨_,rfl,λx dx hx hdx ne=>?_⟩
  have zx:=vX hx hdx ne (HO.own x) (HO.ins aSettles dx [])
  have ex0:=zG (H:=upd (H5) dx (HO.own x)) (a:=x) (o:=HO.ins aSettles dx [])
  obtain ⟨HX,hHX⟩:∃ HX,HX=upd (upd (H5) dx (HO.own x)) x (HO.ins aSettles dx []):=⟨_,rfl⟩
  rw [<- hHX] at zx ex0 |-
  refine ⟨x,dx,l1,l2,v1,v2,ss,rs,t,rfl,ex0,(s5.trans zx) _ _ e4,zf.same (s5.trans zx) w4,zx _ _ e5,zf.same zx w5,R1.few.1,R1.few.2,R2.few.1,R2.few.2,λsb rb sw rw' H6 sB eo esb wsb erb wrb=>⟨rfl,?_⟩⟩
  exact q (.ref x) x dx sb rb sw rw' H6 (s1.trans (y3.trans (s4.trans (s5.trans (vW zx sB hx))))) ⟨rfl,eo,esb,wsb,erb,wrb⟩
 | false=>
  refine ⟨_,rfl,c,_,0,_,rfl,rfl,zE.of ec3,rfl,rfl,_,rfl,yH cne ?_⟩
  refine ⟨_,rfl,c,_,0,_,rfl,rfl,zE.of ec3,rfl,rfl,_,rfl,xG (decide_eq_true rfl) ?_⟩
  refine ⟨_,rfl,a,_,1,_,rfl,rfl,zE.of (y3 _ _ ea),rfl,_,rfl,ss,n,rfl,R1,λl1 v1 H4 s4 f4 e4 w4=>?_⟩
  refine ⟨_,rfl,a,_,2,_,rfl,rfl,zE.of ((y3.trans s4) _ _ ea),rfl,_,rfl,rs,n,rfl,R2,λl2 v2 H5 s5 f5 e5 w5=>?_⟩
  refine ⟨_,rfl,λx dx hx hdx ne=>?_⟩
  have zx:=vX hx hdx ne (HO.own x) (HO.ins aComes dx [])
  have ex0:=zG (H:=upd (H5) dx (HO.own x)) (a:=x) (o:=HO.ins aComes dx [])
  obtain ⟨HX,hHX⟩:∃ HX,HX=upd (upd (H5) dx (HO.own x)) x (HO.ins aComes dx []):=⟨_,rfl⟩
  rw [<- hHX] at zx ex0 |-
  refine ⟨x,dx,l1,l2,v1,v2,ss,rs,t,rfl,ex0,(s5.trans zx) _ _ e4,zf.same (s5.trans zx) w4,zx _ _ e5,zf.same zx w5,R1.few.1,R1.few.2,R2.few.1,R2.few.2,λsb rb sw rw' H6 sB eo esb wsb erb wrb=>⟨rfl,?_⟩⟩
  exact q (.ref x) x dx sb rb sw rw' H6 (s1.trans (y3.trans (s4.trans (s5.trans (vW zx sB hx))))) ⟨rfl,eo,esb,wsb,erb,wrb⟩
theorem zE6 {k:Nat} {f:Addr} {fd:FuncData} (F:yC K "numbers_behind" "numbers_behind" ga f fd) (B:Bl mg) (aQ:Fn P w K mg base "read_numbers" ["words","count"] k (Z1 K)):zJ P w K mg base zh (k + 1) f fd ["words","name","count"] YB:=by
 refine F.ok zE0 (λvs H Q E h=>?_) (λcdv A outer s H vs Q E hr h=>?_)
 ·obtain ⟨_,_,_,rfl,_⟩:=h
  rfl
 obtain ⟨v,l,c,rfl,hv,LO,hc,q⟩:=h
 refine ⟨_,(zM (zo (yK vf (zZ yJ (L2.pv 0) zH (λ_ _=>rfl)) (L2.pv 1) (zp _)) (zO vD) yA)
  (zO (zY (zR aQ hr rfl (zA (xW xb (L2.pv 0) (yh zH) vh) (zA (L2.pv 2) zD)))))),?_⟩
 try dsimp only [zQ,Cx.nox,Cx.wish]
 obtain ⟨a,rfl,ha⟩:=hv
 refine ⟨_,rfl,a,_,0,_,rfl,rfl,zE.of ha,ZR,_,rfl,rfl,_,rfl,yH (gY rfl) ?_⟩
 refine ⟨_,rfl,_,rfl,a,_,rfl,zE.of ha,λp hp=>?_⟩
 rw [Ki _ (by show 1<=((l.2.map sN).map V.str).length + 1; omega)]
 rw [hc]
 refine ⟨_,rfl,p,l.2,rfl,zE.of zG,(by have:=LO.2.2.2.2.1; omega),LO.2.2.2.2.2,λp2 H2 s2 f2 e2=>?_⟩
 exact q p2 H2 ((zK hp _).trans s2) ((zK hp _).free f2) e2
theorem zGB {k:Nat} {f:Addr} {fd:FuncData} (F:yC K "mode_blocks" "mode_blocks" gb f fd) (B:Bl mg):zJ P w K mg base zh (k + 1) f fd ["lines"] Xm:=by
 refine F.ok Xn (λvs H Q E h=>?_) (λcdv A outer s H vs Q E hr h=>?_)
 ·obtain ⟨_,_,_,rfl,_⟩:=h
  rfl
 obtain ⟨a,lv,bks,rfl,ha,hlv,hbk,l9,q⟩:=h
 refine ⟨_,(zM (yG (i:=1) Xn.nd rfl (Or.inl rfl) (ye zD))
  (zM (vt PassesOwn.never rfl (yU (L2.pv 0)) (zw (i:=2) Xn.nd rfl (Or.inl rfl)) (zO (zo (yK xB (zZ yJ (L2.pv 2) zH (λ_ _=>rfl)) zu (zp _)) (zO (vq (xD PySem.F.plainAttrs_list PySem.F.slot_list_append PySem.F.type_list_append v8 (L2.pv 1) (zA (ye (zA (L2.pv 2) zD)) zD)))) (zO (zo (yK xB (zm xq rfl B.len_ xc (zA (L2.pv 1) zD)) zH (zp _)) (zO vD) (zO (vq (xD PySem.F.plainAttrs_list PySem.F.slot_list_append PySem.F.type_list_append v8 (zZ yJ (L2.pv 1) (qY qZ zH) (λ_ _=>rfl)) (zA (L2.pv 2) zD)))))))))
  (zO (zY (L2.pv 1))))),?_⟩
 try dsimp only [zQ,Cx.nox,Cx.wish]
 have ll:lv.length=bks.flatten.length:=Paired.length hlv
 refine ⟨(by show 0<=sizeLine; decide),λL fL=>?_⟩
 refine ⟨_,rfl,a,rfl,⟨_,zE.of (zK fL _ _ _ ha)⟩,qX (K:=K) (a:=a) (xs:=lv) (λi σ H'=>(∃ o,σ=[some (.ref a),some (.ref L),o])/\zC H H'/\((i=0/\H' L=some (.lst []))\/∃ iv al lv ib lb,Bls H H' L ((bks.flatten.take i).foldl (wK xE) []) i iv al lv ib lb))
  ⟨⟨_,rfl⟩,zK fL _,.inl ⟨rfl,zG⟩⟩ (λi σ H' _ ⟨_,sm,_⟩=>zE.of (sm _ _ ha)) ?_ ?_⟩
 ·rintro i x σ H' hx ⟨⟨o,rfl⟩,sm,hst⟩
  obtain ⟨l,hl,xa,rfl,hxa⟩:=yp hlv hx
  have il:=(List.getElem?_eq_some_iff.mp hx).1
  have hxa':=sm _ _ hxa
  have LX:xw H (.ref xa) l:=⟨xa,rfl,hxa⟩
  rw [Wz hl]
  by_cases hm:l.1=xE
  ·refine ⟨_,rfl,xa,_,0,_,rfl,rfl,zE.of hxa',ZR,rfl,_,rfl,xG (decide_eq_true (congrArg V.str hm)) ?_⟩
   rcases hst with ⟨i0,hL⟩ | ⟨iv,al,zv,ib,lb,B⟩
   ·refine ⟨_,rfl,.inl ⟨rfl,_,zE.of hL⟩,_,rfl,(by show 1<=sizeLine; decide),λal hal=>?_⟩
    have ne:al≠L:=λe=>by rw [e,hL] at hal; cases hal
    refine ⟨L,_,_,rfl,rfl,zK hal _ _ _ hL,yn (by show 0<=1000; omega),⟨_,rfl⟩,uC (sm.trans (zK hal _)) fL,.inr ⟨[],al,[.ref xa],[],[l],?_⟩⟩
    rw [i0]
    exact ⟨zG,ne,sm.free hal,(yD ne).trans zG,.cons LX .nil,.nil,Ur hm,Nat.le_refl _,Nat.le_refl _⟩
   ·have hL:=B.hL
    refine ⟨_,rfl,.inl ⟨rfl,_,zE.of hL⟩,_,rfl,(by show 1<=sizeLine; decide),λa2 ha2=>?_⟩
    have ne:a2≠L:=λe=>by rw [e,hL] at ha2; cases ha2
    have ne2:al≠a2:=λe=>by rw [<- e,B.ha] at ha2; cases ha2
    have b1:=B.l1
    refine ⟨L,_,_,rfl,rfl,zK ha2 _ _ _ hL,yn (by rw [List.length_append]; show iv.length + 1<=1000; omega),⟨_,rfl⟩,uC (sm.trans (zK ha2 _)) fL,.inr ⟨iv++[.ref al],a2,[.ref xa],ib++[lb],[l],?_⟩⟩
    have S:zC (zz [L,al] H') (zz [L,a2] (upd (upd H' a2 (HO.lst [V.ref xa])) L (HO.lst (iv++[V.ref al]++[V.ref a2])))):=λb u hb=>by
     have hn:=W5 hb
     rw [j4 hn] at hb
     have n1:b≠L:=λe=>hn (by rw [e]; exact List.mem_cons_self)
     have n2:b≠a2:=λe=>by rw [e,ha2] at hb; cases hb
     rw [j4 (λz=>by rcases List.mem_cons.mp z with e | e; exact n1 e; exact n2 (List.mem_singleton.mp e)),yD n1,yD n2]
     exact hb
    refine ⟨zG,ne,sm.free ha2,(yD ne).trans zG,.cons LX .nil,vT (R:=uo H _) ⟨al,zv,rfl,?_,B.pl⟩ (Xl S B.pi),?_,?_,?_⟩
    ·rw [j4 (λz=>by rcases List.mem_cons.mp z with e | e; exact B.ne e; exact ne2 (List.mem_singleton.mp e)),yD B.ne,yD ne2]
     exact B.ha
    ·rw [Ur hm,B.e]
    ·rw [List.length_append]; show iv.length + 1 + 1<=i + 1; omega
    ·show 1<=i + 1; omega
  ·refine ⟨_,rfl,xa,_,0,_,rfl,rfl,zE.of hxa',ZR,rfl,_,rfl,yH (decide_eq_false λz=>hm (V.str.inj z)) ?_⟩
   rcases hst with ⟨i0,hL⟩ | ⟨iv,al,zv,ib,lb,B⟩
   ·rw [i0] at hl
    exact absurd (zKD hbk hl) hm
   ·have hL:=B.hL
    have b1:=B.l1
    have b2:=B.l2
    refine ⟨_,rfl,L,_,rfl,.inl (zE.of hL),rfl,_,rfl,yH (decide_eq_false λz=>?_) ?_⟩
    ·have:=V.int.inj z
     rw [List.length_append] at this
     have:((iv.length + 1:Nat):Int)=0:=this
     omega
    refine ⟨_,rfl,_,rfl,L,_,_,_,rfl,rfl,zE.of hL,Wf _ _,.inl ⟨rfl,_,zE.of B.ha⟩,_,rfl,al,_,_,rfl,rfl,B.ha,yn (by omega),⟨_,rfl⟩,uC sm B.fr,.inr ⟨iv,al,zv++[.ref xa],ib,lb++[l],?_⟩⟩
    refine ⟨(yD (Ne.symm B.ne)).trans hL,B.ne,B.fr,zG,vT LX B.pl,Xl (XB (xI.put _ (xI.refl _ _) (List.mem_cons_of_mem _ List.mem_cons_self))) B.pi,?_,by omega,by rw [List.length_append]; show zv.length + 1<=i + 1; omega⟩
    rw [B.e,zK9 hm]
 rintro σ H' ⟨⟨o,rfl⟩,sm,hst⟩
 have fin:(bks.flatten.take lv.length).foldl (wK xE) []=bks:=by rw [ll,List.take_length,Ud bks [] hbk]; rfl
 rcases hst with ⟨i0,hL⟩ | ⟨iv,al,zv,ib,lb,B⟩
 ·rw [i0] at fin
  exact ⟨_,rfl,q L [] H' sm fL hL (by rw [<- fin]; exact .nil)⟩
 ·have e:=B.e
  rw [fin] at e
  refine ⟨_,rfl,q L _ H' sm fL B.hL ?_⟩
  rw [e]
  exact vT (R:=uo H _) ⟨al,zv,rfl,B.ha,B.pl⟩ (Xl uG B.pi)
end
theorem Xo {α β:Type} {R:α->β->Prop}:∀ {ys zs:List β} {xs:List α},Paired R xs (ys++zs)->∃ a b,xs=a++b/\Paired R a ys/\Paired R b zs
 | [],_,xs,h=>⟨[],xs,rfl,.nil,h⟩
 | _ :: _,_,_,.cons r h=>let ⟨a,b,e,h1,h2⟩:=Xo h; ⟨_ :: a,b,by rw [e]; rfl,.cons r h1,h2⟩
theorem Us {a b c:List V} {i j:Int} (hi:i=(a.length:Int)) (hj:j=(a.length:Int) + (b.length:Int)):zk (a++(b++c)) (some i) (some j)=b:=by
 have e1:HT.sIx (a++(b++c)).length 0 (some i)=min a.length (a++(b++c)).length:=by rw [hi]; exact HT.sIx_nat _ _ _
 have e2:HT.sIx (a++(b++c)).length (a++(b++c)).length (some j)=min (a.length + b.length) (a++(b++c)).length:=by
  rw [show j=((a.length + b.length:Nat):Int) by omega]; exact HT.sIx_nat _ _ _
 unfold zk
 rw [e1,e2,List.length_append,List.length_append,show min a.length (a.length + (b.length + c.length))=a.length by omega,show min (a.length + b.length) (a.length + (b.length + c.length))=a.length + b.length by omega,Nat.add_sub_cancel_left,List.drop_left' rfl,List.take_left' rfl]
theorem Ut {a b:List V} {i:Int} (hi:i=(a.length:Int)):zk (a++b) (some i) none=b:=by
 have e1:HT.sIx (a++b).length 0 (some i)=min a.length (a++b).length:=by rw [hi]; exact HT.sIx_nat _ _ _
 have e2:HT.sIx (a++b).length (a++b).length none=(a++b).length:=rfl
 unfold zk
 rw [e1,e2,List.length_append,show min a.length (a.length + b.length)=a.length by omega,Nat.add_sub_cancel_left,List.drop_left' rfl,List.take_of_length_le (Nat.le_refl _)]
theorem YD {α:Type} {d:α} {l:List α} {n:Nat} (h:l.length=n):(List.range n).map (λi=>l.getD i d)=l:=by
 refine List.ext_getElem (by rw [List.length_map,List.length_range,h]) λi h1 h2=>?_
 rw [List.getElem_map,List.getElem_range,List.getD_eq_getElem?_getD,List.getElem?_eq_getElem h2]
 rfl
theorem Uu {m:MD} {i:Nat} {l:Ln} (h:(yQ m)[i]? = some l):∃ r,m.rows[i]? = some r/\l=(yr,r):=by
 unfold yQ at h
 rw [List.getElem?_map] at h
 cases e:m.rows[i]? with
 | none=>rw [e] at h; cases h
 | some r=>rw [e] at h; exact ⟨r,rfl,(Option.some.inj h).symm⟩
theorem Uv {m:MD} {n i:Nat} {l:Ln} (h:(yg m n)[i]? = some l):i < n/\l=(vB,xL m i):=by
 have hi:=(List.getElem?_eq_some_iff.mp h).1
 unfold yg at h hi
 rw [List.length_map,List.length_range] at hi
 rw [List.getElem?_map,List.getElem?_range hi] at h
 exact ⟨hi,(Option.some.inj h).symm⟩
theorem ZS {H:Hp} {vs:List V} {tab:List (List Int)} {t:Addr} {r:List Int} (h:H t=some (.lst (r.map V.int))) (z:zU H vs tab):zU H (vs++[.ref t]) (tab++[r]):=vT (R:=uE H) ⟨t,rfl,h⟩ z
theorem ZT:decide (V.str vB=V.str yr)=false:=by decide +kernel
noncomputable def qM (m:MD) (n:Nat):List (List Int):=(List.range n).map (xL m)
theorem YE {m:MD} {n p i:Nat} (h:xH m n p) (hi:i < n):zk ((xL m i).map V.int) none (some (n:Int))=(m.nexts.getD i []).map V.int/\xC ((xL m i).map V.int) (n:Int)=some (V.int (m.steer.getD i 0))∧
  zk ((xL m i).map V.int) (some ((n:Int) + 1)) (some (-1))=(m.push.getD i []).map V.int/\xC ((xL m i).map V.int) (-1)=some (V.int (m.add.getD i 0)):=by
 have l1:(m.nexts.getD i []).length=n:=h.nexts.2 _ (vb (by rw [h.nexts.1]; exact hi))
 have l3:(m.push.getD i []).length=p:=h.push.2 _ (vb (by rw [h.push.1]; exact hi))
 unfold xL
 generalize m.nexts.getD i []=A at *
 generalize m.push.getD i []=C at *
 generalize m.steer.getD i 0=b
 generalize m.add.getD i 0=d
 have e:(A++[b]++C++[d]).map V.int=A.map V.int++(V.int b :: (C.map V.int++[V.int d])):=by
  rw [List.map_append,List.map_append,List.map_append,List.append_assoc,List.append_assoc]
  rfl
 have la:(A.map V.int).length=n:=by rw [List.length_map,l1]
 refine ⟨?_,?_,?_,?_⟩
 ·rw [Zt _ (b:=n) (by rw [List.length_append,List.length_append,List.length_append,l1]; omega),List.append_assoc,List.append_assoc,List.take_left' l1]
 ·rw [e]
  exact xo (by rw [List.getElem?_append_right (by omega),la,Nat.sub_self]; rfl)
 ·have e2:A.map V.int++(V.int b :: (C.map V.int++[V.int d]))=(A.map V.int++[V.int b])++(C.map V.int++[V.int d]):=by rw [List.append_assoc]; rfl
  rw [e,e2]
  have n1:(A.map V.int++[V.int b]).length=n + 1:=by rw [List.length_append,la]; rfl
  have tl:((A.map V.int++[V.int b])++(C.map V.int++[V.int d])).length=n + 1 + (p + 1):=by rw [List.length_append,n1,List.length_append,List.length_map,l3]; rfl
  have q1:HT.sIx ((A.map V.int++[V.int b])++(C.map V.int++[V.int d])).length 0 (some ((n:Int) + 1))=n + 1:=by
   rw [show (n:Int) + 1=((n + 1:Nat):Int) by omega]
   exact (HT.sIx_nat _ _ _).trans (by rw [tl]; omega)
  have q2:HT.sIx ((A.map V.int++[V.int b])++(C.map V.int++[V.int d])).length ((A.map V.int++[V.int b])++(C.map V.int++[V.int d])).length (some (-1))=n + 1 + p:=by
   show (if (-1:Int) < 0 then ((-1:Int) + (((A.map V.int++[V.int b])++(C.map V.int++[V.int d])).length:Int)).toNat else min (-1:Int).toNat ((A.map V.int++[V.int b])++(C.map V.int++[V.int d])).length)=_
   rw [if_pos (by decide),tl]
   omega
  unfold zk
  rw [q1,q2,Nat.add_sub_cancel_left,List.drop_left' n1,List.take_left' (by rw [List.length_map,l3])]
 ·rw [e,<- List.cons_append,<- List.append_assoc]
  exact Wf _ _
noncomputable def Xp (C:Addr):Sp:=λvs H Q _=>∃ (v:V) (m:MD) (n p:Nat),vs=[v,.int (n:Int),.int (p:Int)]/\uo H H v (xS m)/\xH m n p/\xu m/\p<=6/\1<=n/\∀ v' H',zC H H'->vA C H' v' m->Q v' H'
section
variable {P:Program} {w:World} {K:PySem.W.Frag} {mg:Str->Option Value} {base:Heap}
noncomputable abbrev uO:Stmt:=top 62
theorem gc:zq ["block","many","wide","divisor","head","rows","lines"] ["block","many","wide"] (zL uO):=.a
variable {aClaim aSettles aComes aRule ab ae ac af au:Addr} (TClaim:zF K mg "Claim" aClaim) (AClaim:wY K aClaim) (TSettles:zF K mg "Settles" aSettles) (ASettles:wb K aSettles) (TComes:zF K mg "Comes" aComes) (AComes:wf K aComes) (TRule:zF K mg "Rule" aRule) (ARule:wg K aRule) (aj:zF K mg "Straight" ab) (ap:wj K ab) (ak:zF K mg "Stopped" ae) (aq:wk K ae) (ai:zF K mg "Parted" ac) (ao:wm K ac) (ag:zF K mg "Mode" af) (ah:wn K af) (am:zF K mg "Thing" au) (ar:wo K au) (Y:wp K aRule ab ae ac aClaim aSettles aComes)
include TClaim AClaim TSettles ASettles TComes AComes TRule ARule aj ap ak aq ai ao ag ah am ar Y
theorem zHS {k:Nat} {f:Addr} {fd:FuncData} (F:yC K "read_mode" "read_mode" uO f fd) (B:Bl mg) (aG:Fn P w K mg base "numbers_behind" ["words","name","count"] (k + 1) YB) (aY:xz P w K mg base af ["self","rows","nexts","steer","push","add","divisor"] k (kl af)):zJ P w K mg base zh (k + 1 + 1) f fd ["block","many","wide"] (Xp af):=by
 refine F.ok gc (λvs H Q E h=>?_) (λcdv A outer s H vs Q E hr h=>?_)
 ·obtain ⟨_,_,_,_,rfl,_⟩:=h
  rfl
 obtain ⟨v,m,n,p,rfl,hv,MO,NM,p6,n1,q⟩:=h
 refine ⟨_,(zM (yG (i:=3) gc.nd rfl (Or.inl rfl) (zZ yJ (zR aG hr rfl (zA (zZ yJ (L2.pv 0) zH (λ_ _=>rfl)) (zA zu (zA zH zD)))) zH (λ_ _=>rfl)))
  (zM (yG (i:=4) gc.nd rfl (Or.inl rfl) zH)
  (zM (WG PassesOwn.never (PW.pt (WD (yK jM (L2.pv 4) (zm xq rfl B.len_ xc (zA (L2.pv 0) zD)) (zp _)) (WC (yK xB (zZ yJ (zZ yJ (L2.pv 0) (L2.pv 4) (λ_ _=>rfl)) zH (λ_ _=>rfl)) zu (zp _))))) (zO (yG (i:=4) gc.nd rfl (Or.inl rfl) (zP yS (L2.pv 4) zH))))
  (zM (vy (i:=5) gc.nd rfl rfl (own:=["words"]) (caps:=[(1,"many")]) (xr (S:=zL uO) (N:=["block","many","wide","divisor","head","rows","lines"]) rfl (by decide +kernel) rfl ⟨_,rfl⟩ rfl (by decide +kernel) (by decide +kernel)) rfl (yU (xW xb (L2.pv 0) (yh zH) (yh (L2.pv 4)))) (λ_ _ _ _=>zw (i:=0) (show (["words","many"]:List Str).Nodup by decide +kernel) rfl (Or.inl rfl)) (λ_ _ _ _=>(yz (show ya _ _ (λxs H Q=>∃ p ys,xs=[V.ref p]/\((zE K H p ys/\∀ l,H l=none->Q (V.ref l) (upd H l (HO.tup ys)))\/(zW K H p ys/\Q (V.ref p) H))) from ue) rfl B.tuple_ ww (zA (zR aG hr rfl (zA (L2.pv 0) (zA zu (zA (zP yS (L2.pv 1) zH) zD)))) zD))) rfl)
  (zM (zo (yK vf (zP vS (zm xq rfl B.len_ xc (zA (L2.pv 0) zD)) (L2.pv 4)) (zm (Jl rfl) rfl B.max_ Ww (zA (L2.pv 1) (zA zH zD))) (zp _)) (zO vD) yA)
  (zM (vy (i:=6) gc.nd rfl rfl (own:=["words"]) (caps:=[(1,"many"),(2,"wide")]) (xr (S:=zL uO) (N:=["block","many","wide","divisor","head","rows","lines"]) rfl (by decide +kernel) rfl ⟨_,rfl⟩ rfl (by decide +kernel) (by decide +kernel)) rfl (yU (xW xb (L2.pv 0) (yh (L2.pv 4)) vh)) (λ_ _ _ _=>zw (i:=0) (show (["words","many","wide"]:List Str).Nodup by decide +kernel) rfl (Or.inl rfl)) (λ_ _ _ _=>(zR aG hr rfl (zA (L2.pv 0) (zA zu (zA (zP yS (zP yS (L2.pv 1) (L2.pv 2)) zH) zD))))) rfl)
  (zO (zY (vV aY ag hr rfl (zA (L2.pv 5) (zA (yu (own:=["line"]) (caps:=[(1,"many")]) (xr (S:=zL uO) (N:=["block","many","wide","divisor","head","rows","lines"]) rfl (by decide +kernel) rfl ⟨_,rfl⟩ rfl (by decide +kernel) (by decide +kernel)) rfl (yU (L2.pv 6)) (λ_ _ _ _=>zw (i:=0) (show (["line","many"]:List Str).Nodup by decide +kernel) rfl (Or.inl rfl)) (λ_ _ _ _=>(xW (show uv _ (vH K) from xb) (L2.pv 0) vh (yh (L2.pv 1))))) (zA (yu (own:=["line"]) (caps:=[(1,"many")]) (xr (S:=zL uO) (N:=["block","many","wide","divisor","head","rows","lines"]) rfl (by decide +kernel) rfl ⟨_,rfl⟩ rfl (by decide +kernel) (by decide +kernel)) rfl (yU (L2.pv 6)) (λ_ _ _ _=>zw (i:=0) (show (["line","many"]:List Str).Nodup by decide +kernel) rfl (Or.inl rfl)) (λ_ _ _ _=>(zZ (show vx _ (xp K) from yJ) (L2.pv 0) (L2.pv 1) (λ_ _=>rfl)))) (zA (yu (own:=["line"]) (caps:=[(1,"many")]) (xr (S:=zL uO) (N:=["block","many","wide","divisor","head","rows","lines"]) rfl (by decide +kernel) rfl ⟨_,rfl⟩ rfl (by decide +kernel) (by decide +kernel)) rfl (yU (L2.pv 6)) (λ_ _ _ _=>zw (i:=0) (show (["line","many"]:List Str).Nodup by decide +kernel) rfl (Or.inl rfl)) (λ_ _ _ _=>(xW (show uv _ (vH K) from xb) (L2.pv 0) (yh (zP yS (L2.pv 1) zH)) (yh (qY qZ zH))))) (zA (yu (own:=["line"]) (caps:=[]) (xk rfl) rfl (yU (L2.pv 6)) (λ_ _ _ _=>zw (i:=0) (show (["line"]:List Str).Nodup by decide +kernel) rfl (Or.inl rfl)) (λ_ _ _ _=>(zZ (show vx _ (xp K) from yJ) (L2.pv 0) (qY qZ zH) (λ_ _=>rfl)))) (zA (L2.pv 3) zD))))))))))))))),?_⟩
 try dsimp only [zQ,Cx.nox,Cx.wish]
 obtain ⟨a,bv,rfl,ha,hbv⟩:=hv
 have n3:=MO.n3
 have few:=NM.few
 have nn:=MO.nexts.1
 obtain ⟨v0,rv,xv,rfl,h0,hrv,hxv⟩:∃ v0 rv xv,bv=v0 :: (rv++xv)/\xw H v0 (xE,[m.div])/\Paired (xw H) rv (yQ m)/\Paired (xw H) xv (yg m n):=by
  rw [show xS m=(xE,[m.div]) :: (yQ m++yg m n) by unfold xS; rw [nn]] at hbv
  cases hbv with
  | @cons v0 _ bv _ h0 hb=>
  obtain ⟨rv,xv,rfl,h1,h2⟩:=Xo hb
  exact ⟨v0,rv,xv,rfl,h0,h1,h2⟩
 have lr:rv.length=m.rows.length:=by rw [Paired.length hrv]; unfold yQ; rw [List.length_map]
 have lx:xv.length=n:=by rw [Paired.length hxv]; unfold yg; rw [List.length_map,List.length_range]
 have lb:(v0 :: (rv++xv)).length=rv.length + n + 1:=by rw [List.length_cons,List.length_append,lx]
 refine ⟨_,rfl,a,_,0,_,rfl,rfl,zE.of ha,xo (j:=0) rfl,v0,(xE,[m.div]),1,rfl,h0,gM (by decide +kernel) NM.div,rfl,λp1 H1 s1 f1 e1=>⟨p1,_,0,_,rfl,rfl,zE.of e1,rfl,?_⟩⟩
 have ha1:=s1 _ _ ha
 refine ⟨λk σ H'=>∃ h:Nat,σ=[some (.ref a),some (.int (n:Int)),some (.int (p:Int)),some (.int m.div),some (.int (h:Int)),none,none]/\H'=H1/\1<=h/\h<=rv.length + 1/\k=rv.length + 1 - h,⟨rv.length,1,rfl,rfl,Nat.le_refl _,by omega,by omega⟩,?_⟩
 rintro k σ H' ⟨h,rfl,rfl,h1,h2,rfl⟩
 refine ⟨_,rfl,_,rfl,a,_,rfl,.inl (zE.of ha1),_,_,rfl,rfl,_,rfl,xG (decide_eq_true (by rw [lb]; omega)) ?_⟩
 have gt:∃ v l,(v0 :: (rv++xv))[h]? = some v/\xw H v l/\l.1=if h<=rv.length then yr else vB:=by
  obtain ⟨g,rfl⟩:∃ g,h=g + 1:=⟨h - 1,by omega⟩
  show ∃ v l,(rv++xv)[g]? = some v/\_
  by_cases c:g < rv.length
  ·have hx:=List.getElem?_eq_getElem c
   obtain ⟨l,hl,hv⟩:=yp hrv hx
   obtain ⟨r,_,rfl⟩:=Uu hl
   exact ⟨_,_,(List.getElem?_append_left c).trans hx,hv,by rw [if_pos (by omega)]⟩
  ·have hx:xv[g - rv.length]? = some (xv[g - rv.length]'(by omega)):=List.getElem?_eq_getElem _
   obtain ⟨l,hl,hv⟩:=yp hxv hx
   obtain ⟨_,rfl⟩:=Uv hl
   exact ⟨_,_,(List.getElem?_append_right (by omega)).trans hx,hv,by rw [if_neg (by omega)]⟩
 obtain ⟨v,l,hx,⟨xa,rfl,hxa⟩,hl⟩:=gt
 refine ⟨_,rfl,_,rfl,a,_,_,_,rfl,rfl,zE.of ha1,xo hx,xa,_,0,_,rfl,rfl,zE.of (s1 _ _ hxa),ZR,rfl,_,rfl,?_⟩
 rw [hl]
 by_cases c:h<=rv.length
 ·rw [if_pos c]
  refine xG (decide_eq_true rfl) ⟨λσ' H2=>σ'=[some (.ref a),some (.int (n:Int)),some (.int (p:Int)),some (.int m.div),some (.int ((h + 1:Nat):Int)),none,none]/\H2=H',?_,_,rfl,_,_,rfl,rfl,rfl,rfl⟩
  rintro σ' H2 ⟨rfl,rfl⟩
  exact ⟨rv.length - h,by omega,h + 1,rfl,rfl,by omega,by omega,by omega⟩
 rw [if_neg c]
 refine yH ZT ?_
 obtain rfl:h=rv.length + 1:=by omega
 refine ⟨_,rfl,_,rfl,_,rfl,_,rfl,a,_,rfl,zE.of ha1,λc1 hc1=>?_⟩
 rw [show zk (v0 :: (rv++xv)) (some 1) (some ((rv.length + 1:Nat):Int))=rv from Us (a:=[v0]) rfl (by show ((rv.length + 1:Nat):Int)=1 + (rv.length:Int); omega)]
 have w1:=zK hc1 (HO.lst rv)
 have y1:=s1.trans w1
 refine ⟨c1,rfl,⟨_,zE.of zG⟩,yi (K:=K) (a:=c1) (xs:=rv) (λi ys σ H2=>zf H2 ys (m.rows.take i)/\(∃ o,σ=[o,some (.int (n:Int))])/\zC (upd H' c1 (HO.lst rv)) H2)
  ⟨.nil,⟨none,rfl⟩,zC.refl _⟩ (λi ys σ H2 _ ⟨g1,_,sm⟩=>⟨zE.of (sm _ _ zG),by have:=Paired.length g1; rw [List.length_take] at this; omega⟩) (yT (by omega)) ?_ ?_⟩
 ·rintro i x ys σ H2 hx ⟨hy,⟨o,rfl⟩,sm⟩
  obtain ⟨l,hl,hv⟩:=yp hrv hx
  have lk:=(Uk MO NM l (List.mem_of_getElem? hl)).1
  obtain ⟨r,hr',rfl⟩:=Uu hl
  have rl:=MO.rows r (List.mem_of_getElem? hr')
  refine ⟨_,rfl,_,rfl,_,_,rfl,rfl,x,(yr,r),_,rfl,hv.same (y1.trans sm),lk,(by show (n:Int) + 1=((r.length:Nat):Int); omega),λp3 H3 s3 f3 e3=>⟨p3,_,rfl,.inl ⟨zE.of e3,λt ht=>?_⟩⟩⟩
  have z:=s3.trans (zK ht (HO.tup (r.map V.int)))
  refine ⟨?_,⟨_,rfl⟩,sm.trans z⟩
  rw [xY hr']
  exact Z2 zG (zf.same z hy)
 rintro vr σ H2 ⟨hvr,⟨o,rfl⟩,sm2⟩ l5 h5
 rw [lr,List.take_length] at hvr
 have w5:=zK h5 (HO.lst vr)
 have e5:=zG (H:=H2) (a:=l5) (o:=HO.lst vr)
 have y5:=y1.trans (sm2.trans w5)
 have hv5:=zf.same w5 hvr
 generalize upd H2 l5 (HO.lst vr)=H5 at w5 e5 y5 hv5 |-
 have ha5:=y5 _ _ ha
 refine ⟨_,rfl,a,_,rfl,.inl (zE.of ha5),_,rfl,_,_,rfl,rfl,_,rfl,_,_,rfl,rfl,_,rfl,yH (qc ?_) ?_⟩
 ·rw [lb,if_neg (by omega)]
  omega
 refine ⟨_,rfl,_,rfl,_,rfl,a,_,rfl,zE.of ha5,λc2 hc2=>?_⟩
 rw [show zk (v0 :: (rv++xv)) (some ((rv.length + 1:Nat):Int)) none=xv from Ut (a:=v0 :: rv) rfl]
 have w6:=zK hc2 (HO.lst xv)
 have y6:=y5.trans w6
 refine ⟨c2,rfl,⟨_,zE.of zG⟩,yi (K:=K) (a:=c2) (xs:=xv) (λi ys σ H2=>zU H2 ys ((List.range i).map (xL m))/\(∃ o,σ=[o,some (.int (n:Int)),some (.int (p:Int))])/\zC (upd H5 c2 (HO.lst xv)) H2)
  ⟨.nil,⟨none,rfl⟩,zC.refl _⟩ (λi ys σ H2 _ ⟨g1,_,sm⟩=>⟨zE.of (sm _ _ zG),by have:=Paired.length g1; rw [List.length_map,List.length_range] at this; omega⟩) (yT (by omega)) ?_ ?_⟩
 ·rintro i x ys σ H2 hx ⟨hy,⟨o,rfl⟩,sm⟩
  obtain ⟨l,hl,hv⟩:=yp hxv hx
  have lk:=(Uj MO NM p6 l (List.mem_of_getElem? hl)).1
  obtain ⟨il,rfl⟩:=Uv hl
  have nl:=(Z4 MO NM il).1
  refine ⟨_,rfl,_,rfl,_,rfl,_,_,rfl,rfl,_,_,rfl,rfl,x,(vB,xL m i),_,rfl,hv.same (y6.trans sm),lk,(by show (n:Int) + (p:Int) + 2=(((xL m i).length:Nat):Int); omega),λp3 H3 s3 f3 e3=>?_⟩
  refine ⟨?_,⟨_,rfl⟩,sm.trans s3⟩
  rw [qK]
  exact ZS e3 (zU.same s3 hy)
 rintro v7 σ H6 ⟨t6,⟨o,rfl⟩,sm6⟩ l7 h7
 rw [lx] at t6
 have w7:=zK h7 (HO.lst v7)
 have e7:=zG (H:=H6) (a:=l7) (o:=HO.lst v7)
 have y7:=w6.trans (sm6.trans w7)
 have t7:zU _ v7 (qM m n):=zU.same w7 t6
 have lx:(qM m n).length=n:=by unfold qM; rw [List.length_map,List.length_range]
 have l7':v7.length=n:=by rw [Paired.length t7,lx]
 have e5:=y7 _ _ e5
 have hv5:=zf.same y7 hv5
 have y7:=y5.trans y7
 generalize upd H6 l7 (HO.lst v7)=H7 at w7 e7 y7 t7 e5 hv5 |-
 have z7:=zC.refl H7
 refine ⟨_,rfl,?_⟩
 refine ⟨_,rfl,l7,rfl,⟨_,zE.of (z7 _ _ e7)⟩,yi (K:=K) (a:=l7) (xs:=v7) (λi ys σ H'=>zU H' ys ((List.range i).map λj=>m.nexts.getD j [])/\(∃ o,σ=[o,some (.int (n:Int))])/\zC H7 H')
  ⟨.nil,⟨none,rfl⟩,zC.refl _⟩ (λi ys σ H' _ ⟨g1,_,sm⟩=>⟨zE.of (sm _ _ (z7 _ _ e7)),by have:=Paired.length g1; rw [List.length_map,List.length_range] at this; omega⟩) (yT (by omega)) ?_ ?_⟩
 ·rintro i x ys σ H' hx ⟨hy,⟨o,rfl⟩,sm⟩
  obtain ⟨r,hr',t,rfl,ht⟩:=yp t7 hx
  have il:=(List.getElem?_eq_some_iff.mp hr').1
  rw [lx] at il
  obtain ⟨c1,c2,c3,c4⟩:=YE MO il
  have er:r=xL m i:=by
   unfold qM at hr'
   rw [List.getElem?_map,List.getElem?_range il] at hr'
   exact (Option.some.inj hr').symm
  rw [er] at ht
  refine ⟨_,rfl,_,rfl,_,rfl,t,_,rfl,zE.of (sm _ _ ht),λb hb=>?_⟩
  rw [c1]
  have z:=zK hb (HO.lst ((m.nexts.getD i []).map V.int))
  refine ⟨?_,⟨_,rfl⟩,sm.trans z⟩
  rw [qK]
  exact ZS zG (zU.same z hy)
 rintro ys σ H' ⟨hy,⟨o,rfl⟩,sm⟩ la hla
 have wa:=zK hla (HO.lst ys)
 have ea:=zG (H:=H') (a:=la) (o:=HO.lst ys)
 have ta:=zU.same wa hy
 rw [l7',YD nn] at ta
 have za:=sm.trans wa
 generalize upd H' la (HO.lst ys)=HA at wa ea ta za |-
 obtain ⟨va,hva⟩:∃ va,va=ys:=⟨_,rfl⟩
 rw [<- hva] at ea ta
 refine ⟨_,rfl,l7,rfl,⟨_,zE.of (za _ _ e7)⟩,yi (K:=K) (a:=l7) (xs:=v7) (λi ys σ H'=>ys=((List.range i).map λj=>m.steer.getD j 0).map V.int/\(∃ o,σ=[o,some (.int (n:Int))])/\H'=HA)
  ⟨rfl,⟨none,rfl⟩,rfl⟩ (λi ys σ H' _ ⟨g1,_,sm⟩=>⟨by rw [sm]; exact zE.of (za _ _ e7),by rw [g1,List.length_map,List.length_map,List.length_range]; exact Nat.le_refl _⟩) (yT (by omega)) ?_ ?_⟩
 ·rintro i x ys σ H' hx ⟨hy,⟨o,rfl⟩,sm⟩
  obtain ⟨r,hr',t,rfl,ht⟩:=yp t7 hx
  have il:=(List.getElem?_eq_some_iff.mp hr').1
  rw [lx] at il
  obtain ⟨c1,c2,c3,c4⟩:=YE MO il
  have er:r=xL m i:=by
   unfold qM at hr'
   rw [List.getElem?_map,List.getElem?_range il] at hr'
   exact (Option.some.inj hr').symm
  rw [er] at ht
  subst sm
  refine ⟨_,rfl,_,rfl,t,_,_,_,rfl,rfl,zE.of (za _ _ ht),c2,?_,⟨_,rfl⟩,rfl⟩
  rw [hy,qK,List.map_append]
  rfl
 rintro ys σ H' ⟨hy,⟨o,rfl⟩,sm⟩ lc hlc
 have wc:=zK hlc (HO.lst ys)
 subst sm
 rw [l7',YD MO.steer] at hy
 rw [hy] at wc |-
 have ec:=zG (H:=H') (a:=lc) (o:=HO.lst (m.steer.map V.int))
 generalize upd H' lc (HO.lst (m.steer.map V.int))=HC at wc ec |-
 have zc:=za.trans wc
 refine ⟨_,rfl,l7,rfl,⟨_,zE.of (zc _ _ e7)⟩,yi (K:=K) (a:=l7) (xs:=v7) (λi ys σ H'=>zU H' ys ((List.range i).map λj=>m.push.getD j [])/\(∃ o,σ=[o,some (.int (n:Int))])/\zC HC H')
  ⟨.nil,⟨none,rfl⟩,zC.refl _⟩ (λi ys σ H' _ ⟨g1,_,sm⟩=>⟨zE.of (sm _ _ (zc _ _ e7)),by have:=Paired.length g1; rw [List.length_map,List.length_range] at this; omega⟩) (yT (by omega)) ?_ ?_⟩
 ·rintro i x ys σ H' hx ⟨hy,⟨o,rfl⟩,sm⟩
  obtain ⟨r,hr',t,rfl,ht⟩:=yp t7 hx
  have il:=(List.getElem?_eq_some_iff.mp hr').1
  rw [lx] at il
  obtain ⟨c1,c2,c3,c4⟩:=YE MO il
  have er:r=xL m i:=by
   unfold qM at hr'
   rw [List.getElem?_map,List.getElem?_range il] at hr'
   exact (Option.some.inj hr').symm
  rw [er] at ht
  refine ⟨_,rfl,_,rfl,_,_,rfl,rfl,_,rfl,_,rfl,_,rfl,t,_,rfl,zE.of (sm _ _ (zc _ _ ht)),λb hb=>?_⟩
  rw [c3]
  have z:=zK hb (HO.lst ((m.push.getD i []).map V.int))
  refine ⟨?_,⟨_,rfl⟩,sm.trans z⟩
  rw [qK]
  exact ZS zG (zU.same z hy)
 rintro ys σ H' ⟨hy,⟨o,rfl⟩,sm⟩ ld hld
 have wd':=zK hld (HO.lst ys)
 have ed:=zG (H:=H') (a:=ld) (o:=HO.lst ys)
 have td:=zU.same wd' hy
 rw [l7',YD MO.push.1] at td
 have zd':=sm.trans wd'
 generalize upd H' ld (HO.lst ys)=HD at wd' ed td zd' |-
 obtain ⟨vd,hvd⟩:∃ vd,vd=ys:=⟨_,rfl⟩
 rw [<- hvd] at ed td
 have zd:=zc.trans zd'
 refine ⟨_,rfl,l7,rfl,⟨_,zE.of (zd _ _ e7)⟩,yi (K:=K) (a:=l7) (xs:=v7) (λi ys σ H'=>ys=((List.range i).map λj=>m.add.getD j 0).map V.int/\(∃ o,σ=[o])/\H'=HD)
  ⟨rfl,⟨none,rfl⟩,rfl⟩ (λi ys σ H' _ ⟨g1,_,sm⟩=>⟨by rw [sm]; exact zE.of (zd _ _ e7),by rw [g1,List.length_map,List.length_map,List.length_range]; exact Nat.le_refl _⟩) (yT (by omega)) ?_ ?_⟩
 ·rintro i x ys σ H' hx ⟨hy,⟨o,rfl⟩,sm⟩
  obtain ⟨r,hr',t,rfl,ht⟩:=yp t7 hx
  have il:=(List.getElem?_eq_some_iff.mp hr').1
  rw [lx] at il
  obtain ⟨c1,c2,c3,c4⟩:=YE MO il
  have er:r=xL m i:=by
   unfold qM at hr'
   rw [List.getElem?_map,List.getElem?_range il] at hr'
   exact (Option.some.inj hr').symm
  rw [er] at ht
  subst sm
  refine ⟨_,rfl,_,rfl,t,_,_,_,rfl,rfl,zE.of (zd _ _ ht),c4,?_,⟨_,rfl⟩,rfl⟩
  rw [hy,qK,List.map_append]
  rfl
 rintro ys σ H' ⟨hy,⟨o,rfl⟩,sm⟩ le hle
 have we:=zK hle (HO.lst ys)
 subst sm
 rw [l7',YD MO.add] at hy
 rw [hy] at we |-
 have ee:=zG (H:=H') (a:=le) (o:=HO.lst (m.add.map V.int))
 generalize upd H' le (HO.lst (m.add.map V.int))=HE at we ee |-
 have ze:=zd.trans we
 refine ⟨_,rfl,λx dx hx hdx ne=>?_⟩
 have zx:=vX hx hdx ne (HO.own x) (HO.ins af dx [])
 have ex0:=zG (H:=upd (HE) dx (HO.own x)) (a:=x) (o:=HO.ins af dx [])
 obtain ⟨HX,hHX⟩:∃ HX,HX=upd (upd (HE) dx (HO.own x)) x (HO.ins af dx []):=⟨_,rfl⟩
 rw [<- hHX] at zx ex0 |-
 have u1:=ze.trans zx
 have u2:=(wc.trans (zd'.trans we)).trans zx
 have u3:=(zd'.trans we).trans zx
 have u4:=we.trans zx
 refine ⟨x,dx,l5,la,lc,ld,le,vr,va,vd,m,n,p,rfl,ex0,MO,u1 _ _ e5,zf.same u1 hv5,u2 _ _ ea,zU.same u2 ta,u3 _ _ ec,u4 _ _ ed,zU.same u4 td,zx _ _ ee,λM HF sb ok _ _ _ _ _ _ _=>⟨rfl,?_⟩⟩
 exact q (.ref x) HF ((y7.trans ze).trans (vW zx sb hx)) ⟨x,_,rfl,ok⟩
end
theorem ZU:decide (V.str xE=V.str qI)=false:=by decide +kernel
theorem zLx (m:MD):jG xE (xS m):=⟨(xE,[m.div]),_,rfl,rfl,λx hx=>by
 rcases List.mem_append.mp hx with e | e
 ·obtain ⟨r,_,rfl⟩:=List.mem_map.mp e
  show yr≠xE
  decide +kernel
 ·obtain ⟨r,_,rfl⟩:=List.mem_map.mp e
  show vB≠xE
  decide +kernel⟩
theorem Uw {bs:List (Int × Int)} {i:Nat} {l:Ln} (h:(xF bs)[i]? = some l):∃ b,bs[i]? = some b/\l=(qI,[b.1,b.2]):=by
 unfold xF at h
 rw [List.getElem?_map] at h
 cases e:bs[i]? with
 | none=>rw [e] at h; cases h
 | some b=>rw [e] at h; exact ⟨b,rfl,(Option.some.inj h).symm⟩
theorem zKG {ms:List MD} (h:1<=ms.length):∃ l,(ms.map xS).flatten[0]? = some l/\l.1=xE:=by
 cases ms with
 | nil=>cases h
 | cons m ms=>exact ⟨(xE,[m.div]),rfl,rfl⟩
noncomputable def Xq (C CM:Addr):Sp:=λvs H Q _=>∃ (n:Nat) (bs:List (Int × Int)) (ms:List MD),vs=[.str (jF (xT n bs ms))]/\uM n bs ms/\∀ o kp km pv mv H',zC H H'->jT C CM H' o n bs ms pv mv kp km->Q (.ref o) H'
section
variable {P:Program} {w:World} {K:PySem.W.Frag} {mg:Str->Option Value} {base:Heap}
noncomputable abbrev qN:Stmt:=top 59
theorem qO:zq ["text","lines","many","head","pushes","modes"] ["text"] (zL qN):=.a
variable {aClaim aSettles aComes aRule ab ae ac af au:Addr} (TClaim:zF K mg "Claim" aClaim) (AClaim:wY K aClaim) (TSettles:zF K mg "Settles" aSettles) (ASettles:wb K aSettles) (TComes:zF K mg "Comes" aComes) (AComes:wf K aComes) (TRule:zF K mg "Rule" aRule) (ARule:wg K aRule) (aj:zF K mg "Straight" ab) (ap:wj K ab) (ak:zF K mg "Stopped" ae) (aq:wk K ae) (ai:zF K mg "Parted" ac) (ao:wm K ac) (ag:zF K mg "Mode" af) (ah:wn K af) (am:zF K mg "Thing" au) (ar:wo K au) (Y:wp K aRule ab ae ac aClaim aSettles aComes)
include TClaim AClaim TSettles ASettles TComes AComes TRule ARule aj ap ak aq ai ao ag ah am ar Y
theorem zGs {k:Nat} {f:Addr} {fd:FuncData} (F:yC K "read_thing" "read_thing" qN f fd) (B:Bl mg) (aD:Fn P w K mg base "split_text" ["text","separator"] (k + 1) qo) (aG:Fn P w K mg base "numbers_behind" ["words","name","count"] (k + 1) YB) (dq:Fn P w K mg base "mode_blocks" ["lines"] (k + 1) Xm) (dr:Fn P w K mg base "read_mode" ["block","many","wide"] (k + 1) (Xp af)) (aZ:xz P w K mg base au ["self","many","pushes","modes"] k (kn au af)):zJ P w K mg base zh (k + 1 + 1) f fd ["text"] (Xq au af):=by
 refine F.ok qO (λvs H Q E h=>?_) (λcdv A outer s H vs Q E hr h=>?_)
 ·obtain ⟨_,_,_,rfl,_⟩:=h
  rfl
 obtain ⟨n,bs,ms,rfl,TN,q⟩:=h
 refine ⟨_,(zM (vy (i:=1) qO.nd rfl rfl (own:=["line"]) (caps:=[]) (xk rfl) rfl (yU (zR aD hr rfl (zA (L2.pv 0) (zA zu zD)))) (λ_ _ _ _=>zw (i:=0) (show (["line"]:List Str).Nodup by decide +kernel) rfl (Or.inl rfl)) (λ_ _ _ _=>(show PE _ _ (Yn K _ _ _ _) from xD PySem.F.plainAttrs_str PySem.F.slot_str_split PySem.F.type_str_split Zx (L2.pv 0) (zA zu zD))) rfl)
  (zM (yG (i:=2) qO.nd rfl (Or.inr rfl) (zZ yJ (zR aG hr rfl (zA (zZ yJ (L2.pv 1) zH (λ_ _=>rfl)) (zA zu (zA zH zD)))) zH (λ_ _=>rfl)))
  (zM (yG (i:=3) qO.nd rfl (Or.inl rfl) zH)
  (zM (WG PassesOwn.never (PW.pt (WD (yK jM (L2.pv 3) (zm xq rfl B.len_ xc (zA (L2.pv 1) zD)) (zp _)) (WC (yK xB (zZ yJ (zZ yJ (L2.pv 1) (L2.pv 3) (λ_ _=>rfl)) zH (λ_ _=>rfl)) zu (zp _))))) (zO (yG (i:=3) qO.nd rfl (Or.inl rfl) (zP yS (L2.pv 3) zH))))
  (zM (yG (i:=4) qO.nd rfl (Or.inr rfl) (yu (own:=["words"]) (caps:=[]) (xk rfl) rfl (yU (xW xb (L2.pv 1) (yh zH) (yh (L2.pv 3)))) (λ_ _ _ _=>zw (i:=0) (show (["words"]:List Str).Nodup by decide +kernel) rfl (Or.inl rfl)) (λ_ _ _ _=>(yz (show ya _ _ (λxs H Q=>∃ p ys,xs=[V.ref p]/\((zE K H p ys/\∀ l,H l=none->Q (V.ref l) (upd H l (HO.tup ys)))\/(zW K H p ys/\Q (V.ref p) H))) from ue) rfl B.tuple_ ww (zA (zR aG hr rfl (zA (L2.pv 0) (zA zu (zA zH zD)))) zD)))))
  (zM (vy (i:=5) qO.nd rfl rfl (own:=["block"]) (caps:=[(2,"many"),(4,"pushes")]) (xr (S:=zL qN) (N:=["text","lines","many","head","pushes","modes"]) rfl (by decide +kernel) rfl ⟨_,rfl⟩ rfl (by decide +kernel) (by decide +kernel)) rfl (yU (zR dq hr rfl (zA (xW xb (L2.pv 1) (yh (L2.pv 3)) vh) zD))) (λ_ _ _ _=>zw (i:=0) (show (["block","many","pushes"]:List Str).Nodup by decide +kernel) rfl (Or.inl rfl)) (λ_ _ _ _=>(zR dr hr rfl (zA (L2.pv 0) (zA (L2.pv 1) (zA (zm (show ya _ _ (λxs H Q=>∃ p ys,xs=[V.ref p]/\(zE K H p ys\/zW K H p ys)/\Q (V.int ys.length) H) from xq) rfl B.len_ xc (zA (L2.pv 2) zD)) zD))))) rfl)
  (zO (zY (vV aZ am hr rfl (zA (L2.pv 2) (zA (L2.pv 4) (zA (L2.pv 5) zD)))))))))))),?_⟩
 try dsimp only [zQ,Cx.nox,Cx.wish]
 obtain ⟨lok,l100⟩:=Xa TN
 have sl:=Kh lok l100
 have l16:=jH
 have n3:=TN.ok.n3
 have b6:=TN.ok.b6
 refine ⟨_,rfl,jF (xT n bs ms),_,rfl,(by decide +kernel),(by omega),λa H1 s1 fa ea=>?_⟩
 rw [show Txt.split (jF (xT n bs ms)) (Str.ofString "\n")=(xT n bs ms).map xh from Kg (by nofun) lok] at ea
 have el:(((xT n bs ms).map xh).map V.str).length=(xT n bs ms).length:=by rw [List.length_map,List.length_map]
 refine ⟨a,rfl,⟨_,zE.of ea⟩,yi (K:=K) (a:=a) (xs:=((xT n bs ms).map xh).map V.str) (λi ys σ H'=>Paired (xw H') ys ((xT n bs ms).take i)/\(∃ o,σ=[o])/\zC H1 H')
  ⟨.nil,⟨none,rfl⟩,zC.refl _⟩ (λi ys σ H' _ ⟨g1,_,sm⟩=>⟨zE.of (sm _ _ ea),by have:=Paired.length g1; rw [List.length_take] at this; omega⟩) (yT (by omega)) ?_ ?_⟩
 ·rintro i x ys σ H' hx ⟨hy,⟨o,rfl⟩,sm⟩
  obtain ⟨l,hl,rfl⟩:∃ l,(xT n bs ms)[i]? = some l/\x=V.str (xh l):=by
   rw [List.getElem?_map,List.getElem?_map] at hx
   cases e:(xT n bs ms)[i]? with
   | none=>rw [e] at hx; cases hx
   | some l=>rw [e] at hx; exact ⟨l,rfl,(Option.some.inj hx).symm⟩
  have lo:=lok l (List.mem_of_getElem? hl)
  have ll:=ZK lo
  refine ⟨_,rfl,rfl,xh l,yI,rfl,rfl,(by decide +kernel),(by omega),λb hb=>?_⟩
  rw [Ke lo]
  have z:=zK hb (HO.lst ((uk l).map V.str))
  refine ⟨?_,⟨_,rfl⟩,sm.trans z⟩
  rw [xY hl]
  exact vT (R:=xw _) ⟨b,rfl,zG⟩ (YA z hy)
 rintro vL σ H2 ⟨hvL,⟨o,rfl⟩,sm2⟩ L hL
 rw [el,List.take_length] at hvL
 have w2:=zK hL (HO.lst vL)
 have eL:=zG (H:=H2) (a:=L) (o:=HO.lst vL)
 have hvL:=YA w2 hvL
 have y2:=s1.trans (sm2.trans w2)
 generalize upd H2 L (HO.lst vL)=H3 at w2 eL hvL y2 |-
 obtain ⟨v0,rv,xv,rfl,h0,hrv,hxv⟩:∃ v0 rv xv,vL=v0 :: (rv++xv)/\xw H3 v0 (yk,[(n:Int)])/\Paired (xw H3) rv (xF bs)/\Paired (xw H3) xv (ms.map xS).flatten:=by
  unfold xT at hvL
  cases hvL with
  | @cons v0 _ bv _ h0 hb=>
  obtain ⟨rv,xv,rfl,h1,h2⟩:=Xo hb
  exact ⟨v0,rv,xv,rfl,h0,h1,h2⟩
 have lr:rv.length=bs.length:=by rw [Paired.length hrv]; unfold xF; rw [List.length_map]
 have lt:=l100
 unfold xT at lt
 rw [List.length_cons,List.length_append] at lt
 have lx:xv.length<=100:=by rw [Paired.length hxv]; omega
 obtain ⟨lm,hlm,hlm1⟩:=zKG TN.ok.m1
 have x0:∃ v,xv[0]? = some v/\xw H3 v lm:=by
  cases hxv':xv with
  | nil=>rw [hxv'] at hxv; have:=Paired.length hxv; have:=(List.getElem?_eq_some_iff.mp hlm).1; rw [<- Paired.length hxv] at this; cases this
  | cons v _=>
   obtain ⟨l,hl,hv⟩:=yp hxv (i:=0) (x:=v) (by rw [hxv']; rfl)
   rw [hlm] at hl
   cases hl
   exact ⟨v,rfl,hv⟩
 have x1:1<=xv.length:=by obtain ⟨v,e,_⟩:=x0; exact (List.getElem?_eq_some_iff.mp e).1
 have lb:(v0 :: (rv++xv)).length=rv.length + xv.length + 1:=by rw [List.length_cons,List.length_append]
 refine ⟨_,rfl,L,_,0,_,rfl,rfl,zE.of eL,xo (j:=0) rfl,v0,(yk,[(n:Int)]),1,rfl,h0,gM (by decide +kernel) (Z6 n3),rfl,λp1 H4 s4 f4 e4=>⟨p1,_,0,_,rfl,rfl,zE.of e4,rfl,?_⟩⟩
 have eL4:=s4 _ _ eL
 refine ⟨λk σ H'=>∃ h:Nat,σ=[some (.str (jF (xT n bs ms))),some (.ref L),some (.int (n:Int)),some (.int (h:Int)),none,none]/\H'=H4/\1<=h/\h<=rv.length + 1/\k=rv.length + 1 - h,⟨rv.length,1,rfl,rfl,Nat.le_refl _,by omega,by omega⟩,?_⟩
 rintro k σ H' ⟨h,rfl,rfl,h1,h2,rfl⟩
 refine ⟨_,rfl,_,rfl,L,_,rfl,.inl (zE.of eL4),_,_,rfl,rfl,_,rfl,xG (decide_eq_true (by rw [lb]; omega)) ?_⟩
 have gt:∃ v l,(v0 :: (rv++xv))[h]? = some v/\xw H3 v l/\l.1=if h<=rv.length then qI else xE:=by
  obtain ⟨g,rfl⟩:∃ g,h=g + 1:=⟨h - 1,by omega⟩
  show ∃ v l,(rv++xv)[g]? = some v/\_
  by_cases c:g < rv.length
  ·have hx:=List.getElem?_eq_getElem c
   obtain ⟨l,hl,hv⟩:=yp hrv hx
   obtain ⟨r,_,rfl⟩:=Uw hl
   exact ⟨_,_,(List.getElem?_append_left c).trans hx,hv,by rw [if_pos (by omega)]⟩
  ·obtain ⟨v,hx,hv⟩:=x0
   exact ⟨v,lm,by rw [List.getElem?_append_right (by omega),show g - rv.length=0 by omega]; exact hx,hv,by rw [if_neg (by omega)]; exact hlm1⟩
 obtain ⟨v,l,hx,⟨xa,rfl,hxa⟩,hl⟩:=gt
 refine ⟨_,rfl,_,rfl,L,_,_,_,rfl,rfl,zE.of eL4,xo hx,xa,_,0,_,rfl,rfl,zE.of (s4 _ _ hxa),ZR,rfl,_,rfl,?_⟩
 rw [hl]
 by_cases c:h<=rv.length
 ·rw [if_pos c]
  refine xG (decide_eq_true rfl) ⟨λσ' H2=>σ'=[some (.str (jF (xT n bs ms))),some (.ref L),some (.int (n:Int)),some (.int ((h + 1:Nat):Int)),none,none]/\H2=H',?_,_,rfl,_,_,rfl,rfl,rfl,rfl⟩
  rintro σ' H2 ⟨rfl,rfl⟩
  exact ⟨rv.length - h,by omega,h + 1,rfl,rfl,by omega,by omega,by omega⟩
 rw [if_neg c]
 refine yH ZU ?_
 obtain rfl:h=rv.length + 1:=by omega
 refine ⟨_,rfl,_,rfl,_,rfl,_,rfl,L,_,rfl,zE.of eL4,λc1 hc1=>?_⟩
 rw [show zk (v0 :: (rv++xv)) (some 1) (some ((rv.length + 1:Nat):Int))=rv from Us (a:=[v0]) rfl (by show ((rv.length + 1:Nat):Int)=1 + (rv.length:Int); omega)]
 have w1:=zK hc1 (HO.lst rv)
 have y1:=s4.trans w1
 refine ⟨c1,rfl,⟨_,zE.of zG⟩,yi (K:=K) (a:=c1) (xs:=rv) (λi ys σ H2=>Paired (vN H2) ys (bs.take i)/\(∃ o,σ=[o])/\zC (upd H' c1 (HO.lst rv)) H2)
  ⟨.nil,⟨none,rfl⟩,zC.refl _⟩ (λi ys σ H2 _ ⟨g1,_,sm⟩=>⟨zE.of (sm _ _ zG),by have:=Paired.length g1; rw [List.length_take] at this; omega⟩) (yT (by omega)) ?_ ?_⟩
 ·rintro i x ys σ H2 hx ⟨hy,⟨o,rfl⟩,sm⟩
  obtain ⟨l,hl,hv⟩:=yp hrv hx
  have lk:=Ul TN.push l (List.mem_of_getElem? hl)
  obtain ⟨b,hb',rfl⟩:=Uw hl
  refine ⟨_,rfl,x,(qI,[b.1,b.2]),2,rfl,hv.same (y1.trans sm),lk,rfl,λp3 H3 s3 f3 e3=>⟨p3,_,rfl,.inl ⟨zE.of e3,λt ht=>?_⟩⟩⟩
  have z:=s3.trans (zK ht (HO.tup [V.int b.1,V.int b.2]))
  refine ⟨?_,⟨_,rfl⟩,sm.trans z⟩
  rw [xY hb']
  exact vT (R:=vN _) ⟨t,rfl,zG⟩ (Paired.mapP hy λ_ _ u=>u.same z)
 rintro pv σ H5 ⟨hpv,⟨o,rfl⟩,sm5⟩ lp h5
 rw [lr,List.take_length] at hpv
 have lpv:pv.length=bs.length:=Paired.length hpv
 have w5:=zK h5 (HO.lst pv)
 have e5:=zG (H:=H5) (a:=lp) (o:=HO.lst pv)
 have y5:=y1.trans (sm5.trans w5)
 have hv5:Paired (vN _) pv bs:=Paired.mapP hpv λ_ _ u=>u.same w5
 generalize upd H5 lp (HO.lst pv)=H6 at w5 e5 y5 hv5 |-
 refine ⟨_,rfl,_,rfl,_,rfl,L,_,rfl,zE.of (y5 _ _ eL),λc2 hc2=>?_⟩
 rw [show zk (v0 :: (rv++xv)) (some ((rv.length + 1:Nat):Int)) none=xv from Ut (a:=v0 :: rv) rfl]
 have w6:=zK hc2 (HO.lst xv)
 have y6:=y5.trans w6
 have e6:=zG (H:=H6) (a:=c2) (o:=HO.lst xv)
 generalize upd H6 c2 (HO.lst xv)=H7 at w6 y6 e6 |-
 refine ⟨c2,xv,ms.map xS,rfl,e6,YA y6 hxv,(λb hb=>?_),(by omega),λl8 b8 H8 s8 f8 e8 p8=>?_⟩
 ·obtain ⟨m,_,rfl⟩:=List.mem_map.mp hb
  exact zLx m
 have l8':b8.length=ms.length:=by rw [Paired.length p8,List.length_map]
 have m4:=TN.m4
 have z8:=w6.trans s8
 refine ⟨l8,rfl,⟨_,zE.of e8⟩,yi (K:=K) (a:=l8) (xs:=b8) (λi ys σ H'=>Paired (vA af H') ys (ms.take i)/\(∃ o,σ=[o,some (.int (n:Int)),some (.ref lp)])/\zC H8 H')
  ⟨.nil,⟨none,rfl⟩,zC.refl _⟩ (λi ys σ H' _ ⟨g1,_,sm⟩=>⟨zE.of (sm _ _ e8),by have:=Paired.length g1; rw [List.length_take] at this; omega⟩) (yT (by omega)) ?_ ?_⟩
 ·rintro i x ys σ H' hx ⟨hy,⟨o,rfl⟩,sm⟩
  obtain ⟨l,hl,hv⟩:=yp p8 hx
  rw [List.getElem?_map] at hl
  obtain ⟨m,hm',rfl⟩:∃ m,ms[i]? = some m/\l=xS m:=by
   cases e:ms[i]? with
   | none=>rw [e] at hl; cases hl
   | some m=>rw [e] at hl; exact ⟨m,rfl,(Option.some.inj hl).symm⟩
  have mm:=List.mem_of_getElem? hm'
  obtain ⟨ba,bv,rfl,hba,hbl⟩:=hv
  have MO:=TN.ok.mok m mm
  rw [<- lpv] at MO
  refine ⟨_,rfl,_,rfl,_,rfl,lp,_,rfl,.inl (zE.of ((z8.trans sm) _ _ e5)),.ref ba,m,n,pv.length,rfl,⟨ba,bv,rfl,sm _ _ hba,YA (s8.trans sm) hbl⟩,MO,TN.mode m mm,(by omega),TN.ok.n1,λv' H3 s3 hm3=>?_⟩
  refine ⟨?_,⟨_,rfl⟩,sm.trans s3⟩
  rw [xY hm']
  exact vT (R:=vA af _) hm3 (Paired.mapP hy λ_ _ u=>u.same s3)
 rintro mv σ H9 ⟨hmv,⟨o,rfl⟩,sm9⟩ lm9 h9
 rw [l8',List.take_length] at hmv
 have w9:=zK h9 (HO.lst mv)
 have e9:=zG (H:=H9) (a:=lm9) (o:=HO.lst mv)
 have hm9:Paired (vA af _) mv ms:=Paired.mapP hmv λ_ _ u=>u.same w9
 have z9:=z8.trans (sm9.trans w9)
 generalize upd H9 lm9 (HO.lst mv)=HA at w9 e9 hm9 z9 |-
 refine ⟨_,rfl,_,rfl,_,rfl,λx dx hx hdx ne=>?_⟩
 have zx:=vX hx hdx ne (HO.own x) (HO.ins au dx [])
 have ex0:=zG (H:=upd (HA) dx (HO.own x)) (a:=x) (o:=HO.ins au dx [])
 obtain ⟨HX,hHX⟩:∃ HX,HX=upd (upd (HA) dx (HO.own x)) x (HO.ins au dx []):=⟨_,rfl⟩
 rw [<- hHX] at zx ex0 |-
 have u9:=z9.trans zx
 refine ⟨x,dx,lp,lm9,pv,mv,n,bs,ms,rfl,ex0,u9 _ _ e5,Paired.mapP hv5 (λ_ _ u=>u.same u9),zx _ _ e9,Paired.mapP hm9 (λ_ _ u=>u.same zx),TN.ok,λkp km HF sb _ _ _ eo ekp ekm=>⟨rfl,?_⟩⟩
 have uF:=vW zx sb hx
 exact q x kp km pv mv HF (y2.trans (y5.trans (z9.trans uF))) ⟨⟨dx,eo⟩,ekp,Paired.mapP hv5 (λ_ _ u=>u.same (z9.trans uF)),ekm,Paired.mapP hm9 (λ_ _ u=>u.same uF)⟩
end
noncomputable def Sm (x:Int):Prop:=0<=x/\x < 10 ^ 45
theorem Sm.bd {x:Int} (h:Sm x):Bd 150 x:=by
 have:=h.1
 have:=h.2
 show x.natAbs < 2 ^ 150
 have:(10:Int) ^ 45 < 2 ^ 150:=by decide
 omega
noncomputable def je:Sp:=λvs H Q _=>∃ x:Int,vs=[.int x]/\Sm x/\∀ (y:Int) (H':Hp),zC H H'->Nm y->Q (.int y) H'
noncomputable def xM (n:Nat) (ns:List Int):Prop:=ns.length=n/\∀ x∈ns,Nm x
theorem xM.snoc {n:Nat} {ns:List Int} {y:Int} (h:xM n ns) (hy:Nm y):xM (n + 1) (ns++[y]):=⟨by rw [List.length_append,h.1]; rfl,λx hx=>by
 rcases List.mem_append.mp hx with e | e
 ·exact h.2 x e
 ·rw [List.mem_singleton.mp e]; exact hy⟩
theorem xM.nil:xM 0 []:=⟨rfl,λ_ h=>by cases h⟩
theorem xM.take {n k:Nat} {ns:List Int} (h:xM n ns) (hk:k<=n):xM k (ns.take k):=⟨by rw [List.length_take,h.1]; omega,λx hx=>h.2 x (List.mem_of_mem_take hx)⟩
theorem xM.at {n i:Nat} {ns:List Int} (h:xM n ns) (hi:i < n):∃ y,ns[i]? = some y/\Nm y:=by
 have hi:i < ns.length:=by rw [h.1]; exact hi
 exact ⟨_,List.getElem?_eq_getElem hi,h.2 _ (List.getElem_mem hi)⟩
noncomputable def Xr:Sp:=λvs H Q _=>∃ (c:Int) (n:Nat),vs=[.int c,.int (n:Int)]/\1<=n/\n<=3/\∀ (v:V) (t:RT) (H':Hp),zC H H'->vO H' v t->uI n t->XC t=true->Q v H'
noncomputable def Xs (K:PySem.W.Frag):Sp:=λvs H Q _=>∃ (ca:Addr) (cs:List Int) (n:Nat),vs=[.ref ca,.int (n:Int)]/\zE K H ca (cs.map V.int)/\1<=n/\n<=3/\∀ (v:V) (t:RT) (H':Hp),zC H H'->vO H' v t->xK n t->t.dep<=6->Q v H'
theorem Ux {n:Nat} {t:RT} (k:XC t=true) (h:uI n t):(wd t).length=n + 3/\t.dep=1:=by
 obtain ⟨ns,a,d,rfl⟩:=Qn k
 refine ⟨?_,rfl⟩
 show ((ns++[a,d]).map Wd.num).length + 1=_
 rw [List.length_map,List.length_append,h.1]
 rfl
theorem Uy (r:List Int) (x y:RT):(wd (.prt r x y)).length=1 + r.length + (wd x).length + (wd y).length:=by
 show (r.map Wd.num++(wd x++wd y)).length + 1=_
 rw [List.length_append,List.length_append,List.length_map]
 omega
theorem Xu {α:Type}:∀ {l:List α},l.length=5->∃ a b c d e,l=[a,b,c,d,e]
 | [a,b,c,d,e],_=>⟨a,b,c,d,e,rfl⟩
section
variable {P:Program} {w:World} {K:PySem.W.Frag} {mg:Str->Option Value} {base:Heap}
noncomputable abbrev gd:Stmt:=top 64
theorem zHM:zq ["_law_script","_law_k"] ["_law_script","_law_k"] (zL gd):=.a
noncomputable abbrev gf:Stmt:=top 65
theorem jf:zq ["_law_cell","_law_many","_law_found","_law_rest","_law_k","_law_number_here"] ["_law_cell","_law_many"] (zL gf):=.a
noncomputable abbrev jg:Stmt:=top 66
theorem YF:zq ["_law_number_here","_law_size"] ["_law_number_here"] (zL jg):=.a
noncomputable abbrev gg:Stmt:=top 67
theorem zI0:zq ["_law_numbers"] ["_law_numbers"] (zL gg):=.a
noncomputable abbrev gh:Stmt:=top 68
theorem Uz:zq ["_law_cell","_law_many","_law_numbers"] ["_law_cell","_law_many"] (zL gh):=.a
noncomputable abbrev gi:Stmt:=top 69
theorem jh:zq ["_law_cells","_law_many","_law_tree_here","_law_cell","_law_xs","_law_other","_law_row"] ["_law_cells","_law_many"] (zL gi):=.a
variable {aClaim aSettles aComes aRule ab ae ac af au:Addr} (TClaim:zF K mg "Claim" aClaim) (AClaim:wY K aClaim) (TSettles:zF K mg "Settles" aSettles) (ASettles:wb K aSettles) (TComes:zF K mg "Comes" aComes) (AComes:wf K aComes) (TRule:zF K mg "Rule" aRule) (ARule:wg K aRule) (aj:zF K mg "Straight" ab) (ap:wj K ab) (ak:zF K mg "Stopped" ae) (aq:wk K ae) (ai:zF K mg "Parted" ac) (ao:wm K ac) (ag:zF K mg "Mode" af) (ah:wn K af) (am:zF K mg "Thing" au) (ar:wo K au) (Y:wp K aRule ab ae ac aClaim aSettles aComes)
include TClaim AClaim TSettles ASettles TComes AComes TRule ARule aj ap ak aq ai ao ag ah am ar Y
theorem zHT {k:Nat} {f:Addr} {fd:FuncData} (F:yC K "_law_cell_at" "_law_cell_at" gd f fd) (B:Bl mg):zJ P w K mg base zh (k + 1) f fd ["_law_script","_law_k"] (jy K):=by
 refine F.ok zHM (λvs H Q E h=>?_) (λcdv A outer s H vs Q E hr h=>?_)
 ·obtain ⟨_,_,_,rfl,_⟩:=h
  rfl
 obtain ⟨a,ns,k,rfl,hS,h0,q⟩:=h
 refine ⟨_,(zM (zo (yK jM (L2.pv 1) (zm xq rfl B.len_ xc (zA (L2.pv 0) zD)) (zp _)) (zO (zY (zZ yJ (L2.pv 0) (L2.pv 1) (λ_ _=>rfl)))) yA)
  (zO (zY zH))),?_⟩
 try dsimp only [zQ,Cx.nox,Cx.wish]
 refine ⟨_,rfl,_,rfl,a,_,rfl,.inl hS,_,_,rfl,rfl,_,rfl,?_⟩
 refine vi (λc=>?_) (λc=>?_)
 ·have c':k < ((ns.map V.int).length:Int):=of_decide_eq_true c
  rw [List.length_map] at c'
  have hk:k.toNat < ns.length:=by omega
  have ek:k=((k.toNat:Nat):Int):=by omega
  have q0:xC (ns.map V.int) ((k.toNat:Nat):Int)=some (.int ns[k.toNat]):=xo (by rw [List.getElem?_map,List.getElem?_eq_getElem hk]; rfl)
  rw [<- ek] at q0
  refine ⟨_,rfl,_,rfl,a,_,k,.int (ns[k.toNat]),rfl,rfl,hS,q0,?_⟩
  ·have e:ns[k.toNat]=jQ ns k:=by unfold jQ; rw [List.getElem?_eq_getElem hk]; rfl
   rw [e]
   exact q
 ·have c':¬ k < ((ns.map V.int).length:Int):=λz=>c (decide_eq_true z)
  rw [List.length_map] at c'
  have e:(0:Int)=jQ ns k:=by unfold jQ; rw [List.getElem?_eq_none (by omega)]; rfl
  show Q (.int 0) H
  rw [e]
  exact q
theorem zH1 {k:Nat} {f:Addr} {fd:FuncData} (F:yC K "_law_stream" "_law_stream" gf f fd) (B:Bl mg):zJ P w K mg base zh (k + 1) f fd ["_law_cell","_law_many"] jR:=by
 refine F.ok jf (λvs H Q E h=>?_) (λcdv A outer s H vs Q E hr h=>?_)
 ·obtain ⟨_,_,rfl,_⟩:=h
  rfl
 obtain ⟨c,mm,rfl,m0,m10,q⟩:=h
 refine ⟨_,(zM (yG (i:=2) jf.nd rfl (Or.inl rfl) (ye zD))
  (zM (zo (yK WN (L2.pv 0) (zP jp zH zH) (zp _)) (zM (yG (i:=3) jf.nd rfl (Or.inl rfl) (zP vS (L2.pv 0) (zP jp zH zH)))
   (zM (vt PassesOwn.never rfl (ua rfl B.range_ (zA (L2.pv 1) zD)) (zw (i:=4) jf.nd rfl (Or.inl rfl)) (zM (vq (xD PySem.F.plainAttrs_list PySem.F.slot_list_append PySem.F.type_list_append v8 (L2.pv 2) (zA (zP xm (L2.pv 3) zH) zD)))
    (zO (yG (i:=3) jf.nd rfl (Or.inl rfl) (zP uA (L2.pv 3) zH)))))
   (zO (zY (L2.pv 2))))) yA)
  (zM (yG (i:=5) jf.nd rfl (Or.inl rfl) (zP yS (zP xm (L2.pv 0) zH) zH))
  (zM (vt PassesOwn.never rfl (ua rfl B.range_ (zA (zP yS (L2.pv 1) zH) zD)) (zw (i:=4) jf.nd rfl (Or.inl rfl)) (zM (yG (i:=5) jf.nd rfl (Or.inl rfl) (zP xm (zP yS (zP yS (zP wu (L2.pv 5) (L2.pv 5)) (zP wu zH (L2.pv 5))) (L2.pv 4)) zH))
   (zO (vq (xD PySem.F.plainAttrs_list PySem.F.slot_list_append PySem.F.type_list_append v8 (L2.pv 2) (zA (L2.pv 5) zD))))))
  (zO (zY (xW xb (L2.pv 2) (yh zH) vh))))))),?_⟩
 try dsimp only [zQ,Cx.nox,Cx.wish]
 have p0:(0:Int) < 2147483647:=by decide
 have b0:Bd 31 (2147483647:Int):=Bd.lit
 have big:(2147483647:Int) < 10 ^ 45:=by decide
 have bmod:∀ z:Int,Bd 31 (z.fmod 2147483647):=λz=>by
  have h1:=Int.fmod_nonneg_of_pos z p0
  have h2:=Int.fmod_lt_of_pos z p0
  have h3:(2147483647:Int).natAbs < 2 ^ 31:=b0
  show (z.fmod 2147483647).natAbs < 2 ^ 31
  omega
 refine ⟨(by show 0<=sizeLine; decide),λl hl=>?_⟩
 refine ⟨_,rfl,_,_,rfl,rfl,⟨by decide,by decide,by decide⟩,_,_,rfl,rfl,_,rfl,?_⟩
 refine vi (λcc=>?_) (λcc=>?_)
 ·refine ⟨_,rfl,_,_,rfl,rfl,⟨by decide,by decide,by decide⟩,_,_,rfl,rfl,?_⟩
  refine ⟨_,rfl,mm,rfl,(by omega),(by omega),ZZ (lo:=0) (n:=mm.toNat)
   (λi σ H2=>∃ (xs:List Int) (rs:Int) (kk:Option V),σ=[some (.int c),some (.int mm),some (.ref l),some (.int rs),kk,none]/\H2=upd H l (.lst (xs.map V.int))/\xs.length=i/\∀ x∈xs,0<=x/\x < 10 ^ 45)
   ⟨[],_,none,rfl,rfl,rfl,λx hx=>by cases hx⟩ ?_ ?_⟩
  ·rintro i σ H2 hi ⟨xs,rs,kk,rfl,rfl,hlen,hxs⟩
   refine ⟨_,rfl,.inl ⟨rfl,_,zE.of zG⟩,_,rfl,_,_,rfl,rfl,(show (2147483647:Int)≠0 by decide),l,_,_,rfl,rfl,zG,?_,?_⟩
   ·rw [List.length_map]
    exact yn (by omega)
   refine ⟨_,rfl,_,_,rfl,rfl,⟨(show (2147483647:Int)≠0 by decide),b0.mono⟩,?_⟩
   refine ⟨xs++[rs.fmod 2147483647],_,_,rfl,?_,?_,λx hx=>?_⟩
   ·rw [X7,List.map_append]
    rfl
   ·rw [List.length_append,hlen]
    rfl
   ·rcases List.mem_append.mp hx with hx | hx
    ·exact hxs x hx
    ·rw [List.mem_singleton.mp hx]
     have h2:=Int.fmod_lt_of_pos rs p0
     exact ⟨Int.fmod_nonneg_of_pos _ p0,by omega⟩
  ·rintro σ H2 ⟨xs,rs,kk,rfl,rfl,hlen,hxs⟩
   exact ⟨_,rfl,q l _ xs (zK hl _) hl zG hlen hxs⟩
 ·refine ⟨_,rfl,_,_,rfl,rfl,(show (2147483647:Int)≠0 by decide),_,_,rfl,rfl,?_⟩
  have bk:Bd 31 (48271:Int):=Bd.lit
  have hb0:Bd 62 (c.fmod 2147483647 + 48271):=((bmod c).add bk).mono
  refine ⟨_,rfl,_,_,rfl,rfl,mm + 2,rfl,(by omega),(by omega),ZZ (lo:=0) (n:=(mm + 2).toNat)
   (λi σ H2=>∃ (xs:List Int) (nh:Int) (kk:Option V),σ=[some (.int c),some (.int mm),some (.ref l),none,kk,some (.int nh)]/\H2=upd H l (.lst (xs.map V.int))/\xs.length=i/\Bd 62 nh/\∀ x∈xs,0<=x/\x < 10 ^ 45)
   ⟨[],_,none,rfl,rfl,rfl,hb0,λx hx=>by cases hx⟩ ?_ ?_⟩
  ·rintro i σ H2 hi ⟨xs,nh,kk,rfl,rfl,hlen,hnh,hxs⟩
   refine ⟨_,rfl,_,rfl,_,_,rfl,rfl,⟨hnh.mono,hnh.mono⟩,_,rfl,_,_,rfl,rfl,⟨bk.mono,hnh.mono⟩,_,_,rfl,rfl,_,rfl,_,_,rfl,rfl,_,_,rfl,rfl,(show (2147483647:Int)≠0 by decide),?_⟩
   refine ⟨_,rfl,.inl ⟨rfl,_,zE.of zG⟩,_,rfl,l,_,_,rfl,rfl,zG,?_,?_⟩
   ·rw [List.length_map]
    exact yn (by omega)
   refine ⟨xs++[(nh * nh + 48271 * nh + (0 + (i:Int))).fmod 2147483647],_,_,rfl,?_,?_,(bmod _).mono,λx hx=>?_⟩
   ·rw [X7,List.map_append]
    rfl
   ·rw [List.length_append,hlen]
    rfl
   ·rcases List.mem_append.mp hx with hx | hx
    ·exact hxs x hx
    ·rw [List.mem_singleton.mp hx]
     have h2:=Int.fmod_lt_of_pos (nh * nh + 48271 * nh + (0 + (i:Int))) p0
     exact ⟨Int.fmod_nonneg_of_pos _ p0,by omega⟩
  ·rintro σ H2 ⟨xs,nh,kk,rfl,rfl,hlen,hnh,hxs⟩
   refine ⟨_,rfl,_,rfl,l,_,rfl,zE.of zG,λp hp=>?_⟩
   have ec:zk (xs.map V.int) (some 2) none=(xs.drop 2).map V.int:=by
    have e1:HT.sIx (xs.map V.int).length 0 (some 2)=min 2 (xs.map V.int).length:=HT.sIx_nat _ 0 2
    unfold zk
    rw [e1,HT.sIx_none,List.length_map,hlen,show min 2 (mm + 2).toNat=2 by omega,<- List.map_drop,List.take_of_length_le (by rw [List.length_map,List.length_drop]; omega)]
   refine q p _ (xs.drop 2) ((zK hl _).trans (zK hp _)) ((zK hl _).free hp) (zG.trans (by rw [ec])) (by rw [List.length_drop]; omega) λx hx=>hxs x (List.mem_of_mem_drop hx)
theorem zH2 {k:Nat} {f:Addr} {fd:FuncData} (F:yC K "_law_number" "_law_number" jg f fd) (B:Bl mg):zJ P w K mg base zh (k + 1) f fd ["_law_number_here"] je:=by
 refine F.ok YF (λvs H Q E h=>?_) (λcdv A outer s H vs Q E hr h=>?_)
 ·obtain ⟨_,rfl,_⟩:=h
  rfl
 obtain ⟨x,rfl,sx,q⟩:=h
 obtain ⟨t2,T2,R2⟩:∃ t2,vC (zQ zh P w K mg base ["_law_number_here","_law_size"] "_law_number" (zL jg) f cdv A outer s H E).nox ((zl jg).drop 3) t2/\∀ (sz:Int),0<=sz->sz < 10 ^ 60->t2 { nx:=λ_ H'=>Q .non H',rt:=Q } [some (.int x),some (.int sz)] H:=by
  refine ⟨_,(zO (zY (zP wu (L2.pv 1) (zZ yJ (ye (zA zH (zA (zP vS zH zH) zD))) (zP xm (zP uA (L2.pv 0) zH) zH) (λ_ _=>rfl))))),?_⟩
  try dsimp only [zQ,Cx.nox,Cx.wish]
  intro sz s0 s1
  have b5:Bd 4 (5:Int):=Bd.lit
  have bs:Bd 200 sz:=by
   show sz.natAbs < 2 ^ 200
   have:(10:Int) ^ 60 < 2 ^ 200:=by decide
   omega
  have g0:=Int.fmod_nonneg_of_pos (x.fdiv 5) (show (0:Int) < 2 by decide)
  have g1:=Int.fmod_lt_of_pos (x.fdiv 5) (show (0:Int) < 2 by decide)
  refine ⟨_,rfl,_,_,rfl,rfl,(by show 2<=sizeLine; decide),λl hl=>?_⟩
  obtain ⟨mm,hm,hv⟩:∃ mm:Int,xC [V.int 1,V.int (0 - 1)] ((x.fdiv 5).fmod 2)=some (.int mm)/\(mm=1\/mm = -1):=by
   rcases (by omega:(x.fdiv 5).fmod 2=0\/(x.fdiv 5).fmod 2=1) with e | e
   ·exact ⟨1,by rw [e]; rfl,.inl rfl⟩
   ·exact ⟨-1,by rw [e]; rfl,.inr rfl⟩
  have bm:Bd 4 mm:=by
   show mm.natAbs < 2 ^ 4
   omega
  refine ⟨_,rfl,_,_,rfl,rfl,⟨by decide,b5.mono⟩,_,_,rfl,rfl,(show (2:Int)≠0 by decide),l,_,_,.int mm,rfl,rfl,zE.of zG,hm,_,_,rfl,rfl,⟨bs.mono,bm.mono⟩,?_⟩
  refine q _ _ (zK hl _) ?_
  show (sz * mm).natAbs < 10 ^ 60
  rw [Int.natAbs_mul,show mm.natAbs=1 by omega]
  omega
 refine ⟨_,(zM (yG (i:=1) YF.nd rfl (Or.inl rfl) (zP xm (zP uA (L2.pv 0) zH) zH))
  (zM (zo (yK xB (zP xm (L2.pv 0) zH) zH (zp _)) (zO (yG (i:=1) YF.nd rfl (Or.inl rfl) (zP xm (zP wu (L2.pv 0) zH) (zP jp zH zH)))) yA)
  (zM (zo (yK xB (zP xm (L2.pv 0) zH) zH (zp _)) (zO (yG (i:=1) YF.nd rfl (Or.inl rfl) (zP yS (zP jp zH zH) (zP xm (zP wu (L2.pv 0) (zP jp zH zH)) (zP wu zH (zP jp zH zH)))))) yA)
  T2))),?_⟩
 try dsimp only [zQ,Cx.nox,Cx.wish]
 have bx:=sx.bd
 have b10:Bd 4 (10:Int):=Bd.lit
 have b4:Bd 16 (48271:Int):=Bd.lit
 have b9:Bd 4 (9:Int):=Bd.lit
 have b50:Bd 200 ((10:Int) ^ (50:Int).toNat):=Bd.lit
 have b59:Bd 200 ((10:Int) ^ (59:Int).toNat):=Bd.lit
 refine ⟨_,rfl,_,_,rfl,rfl,⟨by decide,b10.mono⟩,_,_,rfl,rfl,(show (10:Int)≠0 by decide),?_⟩
 have t0:=Int.fmod_nonneg_of_pos (x.fdiv 10) (show (0:Int) < 10 by decide)
 have t1:=Int.fmod_lt_of_pos (x.fdiv 10) (show (0:Int) < 10 by decide)
 have big:(10:Int) < 10 ^ 60:=by decide
 have big2:(10:Int) ^ (20:Int).toNat < 10 ^ 60:=by decide
 refine ⟨_,rfl,_,_,rfl,rfl,(show (7:Int)≠0 by decide),rfl,_,rfl,?_⟩
 refine vi (λ_=>?_) (λ_=>?_)
 ·refine ⟨_,rfl,_,_,rfl,rfl,⟨bx.mono,b4.mono⟩,_,_,rfl,rfl,⟨by decide,by decide,by decide⟩,_,_,rfl,rfl,(show (10:Int) ^ (20:Int).toNat≠0 by decide),?_⟩
  have v0:=Int.fmod_nonneg_of_pos (x * 48271) (show (0:Int) < 10 ^ (20:Int).toNat by decide)
  have v1:=Int.fmod_lt_of_pos (x * 48271) (show (0:Int) < 10 ^ (20:Int).toNat by decide)
  refine ⟨_,rfl,_,_,rfl,rfl,(show (7:Int)≠0 by decide),rfl,_,rfl,?_⟩
  refine vi (λ_=>?_) (λ_=>?_)
  ·refine ⟨_,_,rfl,rfl,⟨by decide,by decide,by decide⟩,_,rfl,_,_,rfl,rfl,⟨by decide,by decide,by decide⟩,_,_,rfl,rfl,⟨bx.mono,b50.mono⟩,_,_,rfl,rfl,⟨by decide,by decide,by decide⟩,_,_,rfl,rfl,⟨b9.mono,b59.mono⟩,_,_,rfl,rfl,(show (9:Int) * 10 ^ (59:Int).toNat≠0 by decide),_,_,rfl,rfl,?_⟩
   have u0:=Int.fmod_nonneg_of_pos (x * 10 ^ (50:Int).toNat) (show (0:Int) < 9 * 10 ^ (59:Int).toNat by decide)
   have u1:=Int.fmod_lt_of_pos (x * 10 ^ (50:Int).toNat) (show (0:Int) < 9 * 10 ^ (59:Int).toNat by decide)
   exact R2 _ (Int.add_nonneg (by decide) u0) (Int.lt_of_lt_of_le (Int.add_lt_add_left u1 _) (by decide))
  ·exact R2 _ v0 (Int.lt_trans v1 big2)
 ·refine ⟨_,rfl,_,_,rfl,rfl,(show (7:Int)≠0 by decide),rfl,_,rfl,?_⟩
  refine vi (λ_=>?_) (λ_=>?_)
  ·refine ⟨_,_,rfl,rfl,⟨by decide,by decide,by decide⟩,_,rfl,_,_,rfl,rfl,⟨by decide,by decide,by decide⟩,_,_,rfl,rfl,⟨bx.mono,b50.mono⟩,_,_,rfl,rfl,⟨by decide,by decide,by decide⟩,_,_,rfl,rfl,⟨b9.mono,b59.mono⟩,_,_,rfl,rfl,(show (9:Int) * 10 ^ (59:Int).toNat≠0 by decide),_,_,rfl,rfl,?_⟩
   have u0:=Int.fmod_nonneg_of_pos (x * 10 ^ (50:Int).toNat) (show (0:Int) < 9 * 10 ^ (59:Int).toNat by decide)
   have u1:=Int.fmod_lt_of_pos (x * 10 ^ (50:Int).toNat) (show (0:Int) < 9 * 10 ^ (59:Int).toNat by decide)
   exact R2 _ (Int.add_nonneg (by decide) u0) (Int.lt_of_lt_of_le (Int.add_lt_add_left u1 _) (by decide))
  ·exact R2 _ t0 (Int.lt_trans t1 big)
theorem zI6 {k:Nat} {f:Addr} {fd:FuncData} (F:yC K "_law_words" "_law_words" gg f fd) (B:Bl mg):zJ P w K mg base zh (k + 1) f fd ["_law_numbers"] (v5 K):=by
 refine F.ok zI0 (λvs H Q E h=>?_) (λcdv A outer s H vs Q E hr h=>?_)
 ·obtain ⟨_,_,rfl,_⟩:=h
  rfl
 obtain ⟨a,xs,rfl,hS,n10,ok,q⟩:=h
 refine ⟨_,(zO (zY (xD PySem.F.plainAttrs_str PySem.F.slot_str_join PySem.F.type_str_join uj zu (zA (yu (own:=["_law_number_here"]) (caps:=[]) (xk rfl) rfl (US (yU (L2.pv 0)) (qU (L2.pv 0))) (λ_ _ _ _=>zw (i:=0) (show (["_law_number_here"]:List Str).Nodup by decide +kernel) rfl (Or.inl rfl)) (λ_ _ _ _=>(yz jY rfl B.str_ ux (zA (L2.pv 0) zD)))) zD)))),?_⟩
 try dsimp only [zQ,Cx.nox,Cx.wish]
 have jo:JoinOk yI (xs.map tx)=true:=jW (B:=100000) (λy hy=>by
  obtain ⟨x,hx,rfl⟩:=List.mem_map.mp hy
  exact Ue (ok x hx)) (by
   rw [List.length_map,uJ]
   have:=Nat.mul_le_mul n10 (Nat.le_refl (100000 + 1))
   omega)
 rcases hS with hS | hS
 ·refine ⟨rfl,.inr ⟨_,rfl,a,rfl,⟨_,hS⟩,kZ (K:=K) (a:=a) (xs:=xs) (λi ys σ H'=>ys=((xs.take i).map tx).map V.str/\(∃ o,σ=[o])/\H'=H)
    ⟨rfl,⟨none,rfl⟩,rfl⟩ (λi ys σ H' _ ⟨e,_,e2⟩=>⟨by rw [e2]; exact hS,by rw [e,List.length_map,List.length_map,List.length_take]; omega⟩) (Nat.le_of_lt (yn (by omega))) ?_ ?_⟩⟩
  ·rintro i x ys σ H' hx ⟨rfl,⟨o,rfl⟩,rfl⟩
   have st:∀ y:V,y=.str (tx x)->((xs.take i).map tx).map V.str++[y]=((xs.take (i + 1)).map tx).map V.str:=λy e=>by rw [xY hx,List.map_append,List.map_append,e]; rfl
   rcases ok x (List.mem_of_getElem? hx) with ⟨j,rfl,hj⟩ | ⟨z,rfl,hz⟩
   ·exact ⟨_,rfl,.inl ⟨j,rfl,hj,st _ rfl,⟨_,rfl⟩,rfl⟩⟩
   ·exact ⟨_,rfl,.inr ⟨z,rfl,st _ rfl,⟨_,rfl⟩,rfl⟩⟩
  rintro ys σ H' ⟨rfl,⟨o,rfl⟩,rfl⟩ l hl
  rw [List.take_length]
  exact ⟨_,l,xs.map tx,rfl,rfl,zE.of zG,jo,q _ (zK hl _)⟩
 ·refine ⟨rfl,.inl ⟨_,rfl,a,rfl,⟨_,hS⟩,yi (K:=K) (a:=a) (xs:=xs) (λi ys σ H'=>ys=((xs.take i).map tx).map V.str/\(∃ o,σ=[o])/\H'=H)
    ⟨rfl,⟨none,rfl⟩,rfl⟩ (λi ys σ H' _ ⟨e,_,e2⟩=>⟨by rw [e2]; exact hS,by rw [e,List.length_map,List.length_map,List.length_take]; omega⟩) (Nat.le_of_lt (yn (by omega))) ?_ ?_⟩⟩
  ·rintro i x ys σ H' hx ⟨rfl,⟨o,rfl⟩,rfl⟩
   have st:∀ y:V,y=.str (tx x)->((xs.take i).map tx).map V.str++[y]=((xs.take (i + 1)).map tx).map V.str:=λy e=>by rw [xY hx,List.map_append,List.map_append,e]; rfl
   rcases ok x (List.mem_of_getElem? hx) with ⟨j,rfl,hj⟩ | ⟨z,rfl,hz⟩
   ·exact ⟨_,rfl,.inl ⟨j,rfl,hj,st _ rfl,⟨_,rfl⟩,rfl⟩⟩
   ·exact ⟨_,rfl,.inr ⟨z,rfl,st _ rfl,⟨_,rfl⟩,rfl⟩⟩
  rintro ys σ H' ⟨rfl,⟨o,rfl⟩,rfl⟩ l hl
  rw [List.take_length]
  exact ⟨_,l,xs.map tx,rfl,rfl,zE.of zG,jo,q _ (zK hl _)⟩
theorem zJ0 {k:Nat} {f:Addr} {fd:FuncData} (F:yC K "_law_leaf" "_law_leaf" gh f fd) (B:Bl mg) (az:Fn P w K mg base "_law_stream" ["_law_cell","_law_many"] k jR) (ax:Fn P w K mg base "_law_number" ["_law_number_here"] k je):zJ P w K mg base zh (k + 1) f fd ["_law_cell","_law_many"] Xr:=by
 refine F.ok Uz (λvs H Q E h=>?_) (λcdv A outer s H vs Q E hr h=>?_)
 ·obtain ⟨_,_,rfl,_⟩:=h
  rfl
 obtain ⟨c,n,rfl,n1,n3,q⟩:=h
 refine ⟨_,(zM (vy (i:=2) Uz.nd rfl rfl (own:=["_law_number_here"]) (caps:=[]) (xk rfl) rfl (yU (zR az hr rfl (zA (L2.pv 0) (zA (zP yS (L2.pv 1) zH) zD)))) (λ_ _ _ _=>zw (i:=0) (show (["_law_number_here"]:List Str).Nodup by decide +kernel) rfl (Or.inl rfl)) (λ_ _ _ _=>(zR ax hr rfl (zA (L2.pv 0) zD))) rfl)
  (zO (zY (vv (zA zu (zA (xW xb (L2.pv 2) vh (yh (L2.pv 1))) (zA (zZ yJ (L2.pv 2) (L2.pv 1) (λ_ _=>rfl)) (zA (zZ yJ (L2.pv 2) (zP yS (L2.pv 1) zH) (λ_ _=>rfl)) zD)))))))),?_⟩
 try dsimp only [zQ,Cx.nox,Cx.wish]
 refine ⟨_,rfl,_,rfl,_,_,rfl,rfl,c,_,rfl,(by omega),(by omega),λr H1 xs s1 f1 e1 lx bx=>?_⟩
 have lx:xs.length=n + 2:=by rw [lx]; omega
 refine ⟨r,rfl,⟨_,zE.of e1⟩,yi (K:=K) (a:=r) (xs:=xs.map V.int) (λi ys σ H'=>(∃ ns,ys=ns.map V.int/\xM i ns)/\(∃ o,σ=[o])/\zC H1 H')
  ⟨⟨[],rfl,xM.nil⟩,⟨none,rfl⟩,zC.refl _⟩ (λi ys σ H' _ ⟨⟨ns,g1,g2⟩,_,sm⟩=>⟨zE.of (sm _ _ e1),by rw [g1,List.length_map,g2.1]; exact Nat.le_refl _⟩) (yT (by rw [List.length_map]; omega)) ?_ ?_⟩
 ·rintro i x ys σ H' hx ⟨⟨ns,rfl,hns⟩,⟨o,rfl⟩,sm⟩
  obtain ⟨z,hz,rfl⟩:=vU hx
  refine ⟨_,rfl,z,rfl,bx z (List.mem_of_getElem? hz),λy H3 s3 ny=>⟨⟨ns++[y],by rw [List.map_append]; rfl,hns.snoc ny⟩,⟨_,rfl⟩,sm.trans s3⟩⟩
 rintro ys σ H2 ⟨⟨ns,rfl,hns⟩,⟨o,rfl⟩,sm⟩ l2 h2
 rw [List.length_map,lx] at hns
 have w2:=zK h2 (HO.lst (ns.map V.int))
 have e2:=zG (H:=H2) (a:=l2) (o:=HO.lst (ns.map V.int))
 have y2:=s1.trans (sm.trans w2)
 generalize upd H2 l2 (HO.lst (ns.map V.int))=H3 at w2 e2 y2 |-
 obtain ⟨a,ha,na⟩:=hns.at (i:=n) (by omega)
 obtain ⟨d,hd,nd⟩:=hns.at (i:=n + 1) (by omega)
 refine ⟨_,rfl,_,rfl,_,rfl,l2,_,rfl,zE.of e2,λl3 h3=>?_⟩
 rw [Zt ns (b:=n) (by rw [hns.1]; omega)]
 have w3:=zK h3 (HO.lst ((ns.take n).map V.int))
 have a1:xC (ns.map V.int) (n:Int)=some (V.int a):=xo (by rw [List.getElem?_map,ha]; rfl)
 have a2:xC (ns.map V.int) ((n:Int) + 1)=some (V.int d):=by
  rw [show (n:Int) + 1=((n + 1:Nat):Int) by omega]
  exact xo (by rw [List.getElem?_map,hd]; rfl)
 refine ⟨_,rfl,_,rfl,l2,_,_,_,rfl,rfl,zE.of (w3 _ _ e2),a1,_,rfl,_,rfl,_,_,rfl,rfl,l2,_,_,_,rfl,rfl,zE.of (w3 _ _ e2),a2,(by show 4<=sizeLine; decide),λt ht=>?_⟩
 have w4:=zK ht (HO.tup [V.str wH,V.ref l3,V.int a,V.int d])
 exact q (.ref t) (.str (ns.take n) a d) _ (y2.trans (w3.trans w4)) ⟨t,l3,rfl,zG,w4 _ _ zG⟩ ⟨(hns.take (by omega)).1,(hns.take (by omega)).2,na,nd⟩ rfl
theorem zJy {k:Nat} {f:Addr} {fd:FuncData} (F:yC K "_law_tree" "_law_tree" gi f fd) (B:Bl mg) (cX:Fn P w K mg base "_law_leaf" ["_law_cell","_law_many"] k Xr) (aA:Fn P w K mg base "_law_cell_at" ["_law_script","_law_k"] k (jy K)) (az:Fn P w K mg base "_law_stream" ["_law_cell","_law_many"] k jR) (ax:Fn P w K mg base "_law_number" ["_law_number_here"] k je):zJ P w K mg base zh (k + 1) f fd ["_law_cells","_law_many"] (Xs K):=by
 refine F.ok jh (λvs H Q E h=>?_) (λcdv A outer s H vs Q E hr h=>?_)
 ·obtain ⟨_,_,_,rfl,_⟩:=h
  rfl
 obtain ⟨ca,cs,n,rfl,hca,n1,n3,q⟩:=h
 refine ⟨_,(zM (yG (i:=2) jh.nd rfl (Or.inl rfl) (zR cX hr rfl (zA (zR aA hr rfl (zA (L2.pv 0) (zA zH zD))) (zA (L2.pv 1) zD))))
  (zM (vt PassesOwn.never rfl (yU (xW xb (L2.pv 0) (yh zH) (yh zH))) (zw (i:=3) jh.nd rfl (Or.inl rfl)) (zM (yG (i:=4) jh.nd rfl (Or.inl rfl) (zR az hr rfl (zA (L2.pv 3) (zA zH zD))))
   (zO (zo (yK jM (zP xm (zZ yJ (L2.pv 4) zH (λ_ _=>rfl)) zH) zH (zp _)) (zO (yG (i:=2) jh.nd rfl (Or.inl rfl) (vv (zA zu (zA (L2.pv 2) (zA (zR ax hr rfl (zA (zZ yJ (L2.pv 4) zH (λ_ _=>rfl)) zD)) (zA (zR ax hr rfl (zA (zZ yJ (L2.pv 4) zH (λ_ _=>rfl)) zD)) zD))))))) (zM (yG (i:=5) jh.nd rfl (Or.inl rfl) (zR cX hr rfl (zA (zP uA (L2.pv 3) zH) (zA (L2.pv 1) zD))))
    (zM (yG (i:=6) jh.nd rfl (Or.inl rfl) (yz ue rfl B.tuple_ ww (zA (yu (own:=["_law_number_here"]) (caps:=[]) (xk rfl) rfl (yU (xW xb (L2.pv 4) vh (yh (zP yS (L2.pv 1) zH)))) (λ_ _ _ _=>zw (i:=0) (show (["_law_number_here"]:List Str).Nodup by decide +kernel) rfl (Or.inl rfl)) (λ_ _ _ _=>(zR ax hr rfl (zA (L2.pv 0) zD)))) zD)))
    (zO (yG (i:=2) jh.nd rfl (Or.inl rfl) (vv (zA zu (zA (L2.pv 6) (zA (zZ yJ (ye (zA (L2.pv 2) (zA (L2.pv 5) zD))) (zP xm (zZ yJ (L2.pv 4) zH (λ_ _=>rfl)) zH) (λ_ _=>rfl)) (zA (zZ yJ (ye (zA (L2.pv 5) (zA (L2.pv 2) zD))) (zP xm (zZ yJ (L2.pv 4) zH (λ_ _=>rfl)) zH) (λ_ _=>rfl)) zD)))))))))))))
  (zO (zY (L2.pv 2))))),?_⟩
 try dsimp only [zQ,Cx.nox,Cx.wish]
 have b7:Bd 4 (7:Int):=Bd.lit
 refine ⟨_,rfl,ca,cs,0,rfl,hca,(by decide),_,rfl,_,n,rfl,n1,n3,λv0 t0 H1 s1 tv0 tn0 k0=>?_⟩
 obtain ⟨wl0,dp0⟩:=Ux k0 tn0
 refine ⟨_,rfl,_,rfl,_,rfl,ca,_,rfl,s1.seq hca,λc1 hc1=>?_⟩
 obtain ⟨zs,ez,lz⟩:=W7 cs 1 6
 rw [show zk (cs.map V.int) (some 1) (some 6)=zs.map V.int from ez]
 have w1:=zK hc1 (HO.lst (zs.map V.int))
 have e1:=zG (H:=H1) (a:=c1) (o:=HO.lst (zs.map V.int))
 have y1:=s1.trans w1
 have tv0:=tv0.same w1
 generalize upd H1 c1 (HO.lst (zs.map V.int))=HA at w1 e1 y1 tv0 |-
 refine ⟨c1,rfl,⟨_,zE.of e1⟩,qX (K:=K) (a:=c1) (xs:=zs.map V.int) (λi σ H'=>∃ (v:V) (t:RT) (o3 o4 o5 o6:Option V),σ=[some (.ref ca),some (.int (n:Int)),some v,o3,o4,o5,o6]/\zC HA H'/\vO H' v t/\uI n t/\t.dep<=i + 1/\(wd t).length<=6 + 11 * i)
  ⟨v0,t0,_,_,_,_,rfl,zC.refl _,tv0,tn0,by omega,by omega⟩ (λi σ H' _ ⟨_,_,_,_,_,_,_,sm,_⟩=>zE.of (sm _ _ e1)) ?_ ?_⟩
 ·rintro i x σ H' hi ⟨v,t,o3,o4,o5,o6,rfl,sm,tv,tn,dpt,wl⟩
  obtain ⟨z,hz,rfl⟩:=vU hi
  refine ⟨_,rfl,z,5,rfl,(by decide),(by decide),λxa H2 xs s2 f2 e2 lx bx=>?_⟩
  have lx:xs.length=5:=lx
  obtain ⟨x0,x1,x2,x3,x4,rfl⟩:=Xu lx
  have bx0:=bx x0 (by simp)
  have bx1:=bx x1 (by simp)
  refine ⟨_,rfl,xa,_,4,_,rfl,rfl,zE.of e2,rfl,_,_,rfl,rfl,(show (5:Int)≠0 by decide),_,_,rfl,rfl,_,rfl,?_⟩
  refine vi (λ_=>?_) (λ_=>?_)
  ·refine ⟨_,rfl,_,rfl,xa,_,0,_,rfl,rfl,zE.of e2,rfl,x0,rfl,bx0,λy1 H3 s3 ny1=>?_⟩
   refine ⟨_,rfl,xa,_,1,_,rfl,rfl,zE.of (s3 _ _ e2),rfl,x1,rfl,bx1,λy2 H4 s4 ny2=>?_⟩
   refine ⟨(by show 4<=sizeLine; decide),λt4 h4=>?_⟩
   have w4:=zK h4 (HO.tup [V.str wI,v,V.int y1,V.int y2])
   have z4:=s2.trans (s3.trans (s4.trans w4))
   refine ⟨.ref t4,.stp t y1 y2,_,_,_,_,rfl,sm.trans z4,⟨t4,v,rfl,zG,tv.same z4⟩,⟨tn,ny1,ny2⟩,?_,?_⟩
   ·show t.dep + 1<=_
    omega
   ·show (wd t).length + 1 + 1 + 1<=_
    omega
  ·refine ⟨_,rfl,_,_,rfl,rfl,⟨by decide,b7.mono⟩,_,rfl,_,n,rfl,n1,n3,λv1 t1 H3 s3 tv1 tn1 k1=>?_⟩
   obtain ⟨wl1,dp1⟩:=Ux k1 tn1
   refine ⟨_,rfl,_,rfl,_,_,rfl,rfl,_,rfl,xa,_,rfl,zE.of (s3 _ _ e2),λc2 hc2=>?_⟩
   have ec:zk (([x0,x1,x2,x3,x4]:List Int).map V.int) none (some ((n:Int) + 1))=(([x0,x1,x2,x3,x4]:List Int).take (n + 1)).map V.int:=by
    rw [show (n:Int) + 1=((n + 1:Nat):Int) by omega]
    exact Zt _ (by show n + 1<=5; omega)
   rw [ec]
   obtain ⟨rs,hrs⟩:∃ rs,rs=([x0,x1,x2,x3,x4]:List Int).take (n + 1):=⟨_,rfl⟩
   have lrs:rs.length=n + 1:=by rw [hrs,List.length_take]; show min (n + 1) 5=_; omega
   have brs:∀ x∈rs,Sm x:=λx hx=>bx x (by rw [hrs] at hx; exact List.mem_of_mem_take hx)
   rw [<- hrs]
   have w3:=zK hc2 (HO.lst (rs.map V.int))
   have er:=zG (H:=H3) (a:=c2) (o:=HO.lst (rs.map V.int))
   generalize upd H3 c2 (HO.lst (rs.map V.int))=HB at w3 er |-
   refine ⟨c2,rfl,⟨_,zE.of er⟩,yi (K:=K) (a:=c2) (xs:=rs.map V.int) (λi ys σ H'=>(∃ ns,ys=ns.map V.int/\xM i ns)/\(∃ o,σ=[o])/\zC HB H')
    ⟨⟨[],rfl,xM.nil⟩,⟨none,rfl⟩,zC.refl _⟩ (λi ys σ H' _ ⟨⟨ns,g1,g2⟩,_,sm⟩=>⟨zE.of (sm _ _ er),by rw [g1,List.length_map,g2.1]; exact Nat.le_refl _⟩) (yT (by rw [List.length_map]; omega)) ?_ ?_⟩
   ·rintro i x ys σ H' hx ⟨⟨ns,rfl,hns⟩,⟨o,rfl⟩,sm⟩
    obtain ⟨z,hz,rfl⟩:=vU hx
    refine ⟨_,rfl,z,rfl,brs z (List.mem_of_getElem? hz),λy H3 s3 ny=>⟨⟨ns++[y],by rw [List.map_append]; rfl,hns.snoc ny⟩,⟨_,rfl⟩,sm.trans s3⟩⟩
   rintro ys σ H4 ⟨⟨ns,rfl,hns⟩,⟨o,rfl⟩,sm4⟩ l2 h2
   rw [List.length_map,lrs] at hns
   refine ⟨l2,_,rfl,.inl ⟨zE.of zG,λtr htr=>?_⟩⟩
   have w5:=(zK h2 (HO.lst (ns.map V.int))).trans (zK htr (HO.tup (ns.map V.int)))
   have e5:=zG (H:=upd H4 l2 (HO.lst (ns.map V.int))) (a:=tr) (o:=HO.tup (ns.map V.int))
   have y5:=s3.trans (w3.trans (sm4.trans w5))
   have t1':=tv1.same (w3.trans (sm4.trans w5))
   have e2:=y5 _ _ e2
   have tv:=tv.same (s2.trans y5)
   have y5:=s2.trans y5
   generalize upd (upd H4 l2 (HO.lst (ns.map V.int))) tr (HO.tup (ns.map V.int))=HC at w5 e5 y5 t1' e2 tv |-
   obtain ⟨p1,p2,hp1,hp2,hp⟩:=Qr (v:=v) (u:=v1) (g:=x4.fmod 2) (Int.fmod_nonneg_of_pos _ (by decide)) (Int.fmod_lt_of_pos _ (by decide))
   refine ⟨_,rfl,_,rfl,_,rfl,(by show 2<=sizeLine; decide),λl3 h3=>?_⟩
   have w6:=zK h3 (HO.lst [v,v1])
   refine ⟨_,rfl,xa,_,4,_,rfl,rfl,zE.of (w6 _ _ e2),rfl,_,_,rfl,rfl,(show (2:Int)≠0 by decide),l3,_,_,_,rfl,rfl,zE.of zG,hp1,_,rfl,_,rfl,(by show 2<=sizeLine; decide),λl4 h4=>?_⟩
   have w7:=w6.trans (zK h4 (HO.lst [v1,v]))
   refine ⟨_,rfl,xa,_,4,_,rfl,rfl,zE.of (w7 _ _ e2),rfl,_,_,rfl,rfl,(show (2:Int)≠0 by decide),l4,_,_,_,rfl,rfl,zE.of zG,hp2,(by show 4<=sizeLine; decide),λt4 ht4=>?_⟩
   have w8:=w7.trans (zK ht4 (HO.tup [V.str wX,V.ref tr,p1,p2]))
   have z8:=sm.trans (y5.trans w8)
   rcases hp with ⟨rfl,rfl⟩ | ⟨rfl,rfl⟩
   ·refine ⟨.ref t4,.prt ns t t1,_,_,_,_,rfl,z8,⟨t4,tr,_,_,rfl,zG,w8 _ _ e5,tv.same w8,t1'.same w8⟩,⟨hns,tn,tn1⟩,?_,?_⟩
    ·show max t.dep t1.dep + 1<=_
     omega
    ·rw [Uy,hns.1]; omega
   ·refine ⟨.ref t4,.prt ns t1 t,_,_,_,_,rfl,z8,⟨t4,tr,_,_,rfl,zG,w8 _ _ e5,t1'.same w8,tv.same w8⟩,⟨hns,tn1,tn⟩,?_,?_⟩
    ·show max t1.dep t.dep + 1<=_
     omega
    ·rw [Uy,hns.1]; omega
 rintro σ H' ⟨v,t,o3,o4,o5,o6,rfl,sm,tv,tn,dpt,wl⟩
 rw [List.length_map] at dpt wl
 exact ⟨_,rfl,q v t H' (y1.trans sm) tv ⟨n3,tn,by omega⟩ (by omega)⟩
end
noncomputable def uQ (C1 C2 C3:Addr) (d:Nat):Sp:=λvs H Q _=>∃ (v:V) (n:Nat) (t:RT),vs=[v]/\t.dep<=d/\vO H v t/\uI n t/\n<=3/\∀ (u:V) (H':Hp),zC H H'->yx C1 C2 C3 H' u t->Q u H'
theorem zHr {C1 C2 C3:Addr}:∀ vs H Q E,¬ uQ C1 C2 C3 0 vs H Q E:=by
 rintro _ _ _ _ ⟨_,_,t,_,h,_⟩
 have:=t.dep_pos
 omega
noncomputable def uT (d:Nat):Sp:=λvs H Q _=>∃ (v:V) (n:Nat) (t:RT),vs=[v]/\t.dep<=d/\vO H v t/\xK n t/\∀ H',zC H H'->Q (.str (xX t)) H'
theorem zIy:∀ vs H Q E,¬ uT 0 vs H Q E:=by
 rintro _ _ _ _ ⟨_,_,t,_,h,_⟩
 have:=t.dep_pos
 omega
noncomputable def uU (C1 C2 C3:Addr) (d:Nat):Sp:=λvs H Q _=>∃ (u v:V) (t:RT),vs=[u,v]/\t.dep<=d/\yx C1 C2 C3 H u t/\vO H v t/\∀ H',zC H H'->Q (.bl true) H'
theorem zIx {C1 C2 C3:Addr}:∀ vs H Q E,¬ uU C1 C2 C3 0 vs H Q E:=by
 rintro _ _ _ _ ⟨_,_,t,_,h,_⟩
 have:=t.dep_pos
 omega
theorem zL0 (ns:List Int) (a d:Int):PyData.canLay0 (.tuple [.list (ns.map PyData.int),.int a,.int d])=true:=by
 show (PyData.canLay0 (.list (ns.map PyData.int)) && true)=true
 rw [W0]
 rfl
theorem zMB (ns:List Int) (a d:Int):PyData.depth (.tuple [.list (ns.map PyData.int),.int a,.int d])<=60:=by
 show max (PyData.depth (.list (ns.map PyData.int))) (max 0 (max 0 0)) + 1<=60
 have:PyData.depthAll (ns.map PyData.int)<=0:=by
  clear a d
  induction ns with
  | nil=>exact Nat.le_refl _
  | cons x r ih=>exact Nat.max_le.mpr ⟨Nat.le_refl _,ih⟩
 show max (PyData.depthAll (ns.map PyData.int) + 1) _ + 1<=60
 omega
theorem zLz (r:List Int):PyData.canLay0 (yO r)=true:=W0 r
theorem zL8 (r:List Int):PyData.depth (yO r)<=60:=Qd r
theorem U0 {L:List Str} {B:Nat} (h:∀ q∈L,q.length<=B) (hB:B<=100000) (hl:L.length<=12):JoinOk yI L=true:=jW (B:=B) h (by
 rw [uJ]
 have:=Nat.mul_le_mul hl (show B + 1<=100001 by omega)
 omega)
theorem vQ {L:List Str} {B:Nat} {x:Str} (hx:x.length<=B) (h:∀ q∈L,q.length<=B):∀ q∈x :: L,q.length<=B:=λq hq=>by
 rcases List.mem_cons.mp hq with e | e
 ·rw [e]; exact hx
 ·exact h q e
theorem U6 {B:Nat}:∀ q∈([]:List Str),q.length<=B:=λ_ h=>by cases h
section
variable {P:Program} {w:World} {K:PySem.W.Frag} {mg:Str->Option Value} {base:Heap}
noncomputable abbrev gj:Stmt:=top 70
theorem zJf:zq ["_law_tree_here"] ["_law_tree_here"] (zL gj):=.a
noncomputable abbrev gk:Stmt:=top 71
theorem zF5:zq ["_law_tree_here"] ["_law_tree_here"] (zL gk):=.a
noncomputable abbrev gl:Stmt:=top 72
theorem zF4:zq ["_law_rule_here","_law_tree_here"] ["_law_rule_here","_law_tree_here"] (zL gl):=.a
variable {aClaim aSettles aComes aRule ab ae ac af au:Addr} (TClaim:zF K mg "Claim" aClaim) (AClaim:wY K aClaim) (TSettles:zF K mg "Settles" aSettles) (ASettles:wb K aSettles) (TComes:zF K mg "Comes" aComes) (AComes:wf K aComes) (TRule:zF K mg "Rule" aRule) (ARule:wg K aRule) (aj:zF K mg "Straight" ab) (ap:wj K ab) (ak:zF K mg "Stopped" ae) (aq:wk K ae) (ai:zF K mg "Parted" ac) (ao:wm K ac) (ag:zF K mg "Mode" af) (ah:wn K af) (am:zF K mg "Thing" au) (ar:wo K au) (Y:wp K aRule ab ae ac aClaim aSettles aComes)
include TClaim AClaim TSettles ASettles TComes AComes TRule ARule aj ap ak aq ai ao ag ah am ar Y
theorem gn {k:Nat} {f:Addr} {fd:FuncData} {d:Nat} (F:yC K "_law_rule" "_law_rule" gj f fd) (B:Bl mg) (aT:xf P w K mg base ab ["self","numbers","add","divisor"] k (kr ab) (.int 1)) (aU:xz P w K mg base ae ["self","rule","low","high"] k (kt ae)) (aK:Fn P w K mg base "_law_rule" ["_law_tree_here"] (k + 1) (uQ ab ae ac d)) (aV:xz P w K mg base ac ["self","row","rule","other"] k (ku ac)):zJ P w K mg base zh (k + 1 + 1) f fd ["_law_tree_here"] (uQ ab ae ac (d + 1)):=by
 refine F.ok zJf (λvs H Q E h=>?_) (λcdv A outer s H vs Q E hr h=>?_)
 ·obtain ⟨_,_,_,rfl,_⟩:=h
  rfl
 obtain ⟨v,n,t,rfl,dp,hT,SH,n8,q⟩:=h
 refine ⟨_,(zM (zo (yK xB (zZ yb (L2.pv 0) zH (λ_ _=>rfl)) zu (zp _)) (zO (zY (vV aT.fn aj hr rfl (zA (yz ud rfl B.list_ wM (zA (zZ yb (L2.pv 0) zH (λ_ _=>rfl)) zD)) (zA (zZ yb (L2.pv 0) zH (λ_ _=>rfl)) (zA (zZ yb (L2.pv 0) zH (λ_ _=>rfl)) zD)))))) yA)
  (zM (zo (yK xB (zZ yb (L2.pv 0) zH (λ_ _=>rfl)) zu (zp _)) (zO (zY (vV aU ak hr rfl (zA (zR aK hr rfl (zA (zZ yb (L2.pv 0) zH (λ_ _=>rfl)) zD)) (zA (zZ yb (L2.pv 0) zH (λ_ _=>rfl)) (zA (zZ yb (L2.pv 0) zH (λ_ _=>rfl)) zD)))))) yA)
  (zO (zY (vV aV ai hr rfl (zA (zZ yb (L2.pv 0) zH (λ_ _=>rfl)) (zA (zR aK hr rfl (zA (zZ yb (L2.pv 0) zH (λ_ _=>rfl)) zD)) (zA (zR aK hr rfl (zA (zZ yb (L2.pv 0) zH (λ_ _=>rfl)) zD)) zD)))))))),?_⟩
 try dsimp only [zQ,Cx.nox,Cx.wish]
 cases t with
 | str ns a d0=>
  obtain ⟨o,na,rfl,eo,ena⟩:=hT
  refine ⟨_,rfl,o,_,0,_,rfl,rfl,zW.of eo,rfl,rfl,_,rfl,xG (decide_eq_true rfl) ?_⟩
  refine ⟨_,rfl,o,_,1,_,rfl,rfl,zW.of eo,rfl,na,_,rfl,.inl (zE.of ena),λb hb=>?_⟩
  have zb:=zK hb (HO.lst (ns.map V.int))
  refine ⟨_,rfl,o,_,2,_,rfl,rfl,zW.of (zb _ _ eo),rfl,_,rfl,o,_,3,_,rfl,rfl,zW.of (zb _ _ eo),rfl,λx dx hx hdx ne=>?_⟩
  have zx:=vX hx hdx ne (HO.own x) (HO.ins ab dx [])
  have ex0:=zG (H:=upd (upd H b (HO.lst (ns.map V.int))) dx (HO.own x)) (a:=x) (o:=HO.ins ab dx [])
  obtain ⟨HX,hHX⟩:∃ HX,HX=upd (upd (upd H b (HO.lst (ns.map V.int))) dx (HO.own x)) x (HO.ins ab dx []):=⟨_,rfl⟩
  rw [<- hHX] at zx ex0 |-
  refine ⟨x,dx,b,ns,a,d0,rfl,ex0,zx _ _ zG,(by have:=SH.1; omega),λl H4 sb fl eo4 el=>⟨rfl,?_⟩⟩
  exact q (.ref x) H4 (zb.trans (vW zx sb hx)) ⟨x,dx,l,rfl,eo4,el⟩
 | stp t1 lo hi=>
  obtain ⟨o,u,rfl,eo,hu⟩:=hT
  refine ⟨_,rfl,o,_,0,_,rfl,rfl,zW.of eo,rfl,rfl,_,rfl,yH jB ?_⟩
  refine ⟨_,rfl,o,_,0,_,rfl,rfl,zW.of eo,rfl,rfl,_,rfl,xG (decide_eq_true rfl) ?_⟩
  refine ⟨_,rfl,o,_,1,_,rfl,rfl,zW.of eo,rfl,u,n,t1,rfl,Nat.le_of_succ_le_succ dp,hu,SH.1,n8,λu1 H1 s1 R1=>?_⟩
  refine ⟨_,rfl,o,_,2,_,rfl,rfl,zW.of (s1 _ _ eo),rfl,_,rfl,o,_,3,_,rfl,rfl,zW.of (s1 _ _ eo),rfl,λx dx hx hdx ne=>?_⟩
  have zx:=vX hx hdx ne (HO.own x) (HO.ins ae dx [])
  have ex0:=zG (H:=upd (H1) dx (HO.own x)) (a:=x) (o:=HO.ins ae dx [])
  obtain ⟨HX,hHX⟩:∃ HX,HX=upd (upd (H1) dx (HO.own x)) x (HO.ins ae dx []):=⟨_,rfl⟩
  rw [<- hHX] at zx ex0 |-
  refine ⟨x,dx,u1,lo,hi,rfl,ex0,λH4 sb eo4=>⟨rfl,?_⟩⟩
  have s4:=vW zx sb hx
  exact q (.ref x) H4 (s1.trans s4) ⟨x,dx,u1,rfl,eo4,R1.same s4⟩
 | prt r t1 t2=>
  obtain ⟨o,ra,u,w2,rfl,eo,era,hu,hw⟩:=hT
  have dp2:max t1.dep t2.dep<=d:=Nat.le_of_succ_le_succ dp
  refine ⟨_,rfl,o,_,0,_,rfl,rfl,zW.of eo,rfl,rfl,_,rfl,yH jC ?_⟩
  refine ⟨_,rfl,o,_,0,_,rfl,rfl,zW.of eo,rfl,rfl,_,rfl,yH jD ?_⟩
  refine ⟨_,rfl,o,_,1,_,rfl,rfl,zW.of eo,rfl,_,rfl,o,_,2,_,rfl,rfl,zW.of eo,rfl,u,n,t1,rfl,(by omega),hu,SH.2.1,n8,λu1 H1 s1 R1=>?_⟩
  refine ⟨_,rfl,o,_,3,_,rfl,rfl,zW.of (s1 _ _ eo),rfl,w2,n,t2,rfl,(by omega),hw.same s1,SH.2.2,n8,λu2 H2 s2 R2=>?_⟩
  intro x dx hx hdx ne
  have zx:=vX hx hdx ne (HO.own x) (HO.ins ac dx [])
  have ex0:=zG (H:=upd (H2) dx (HO.own x)) (a:=x) (o:=HO.ins ac dx [])
  obtain ⟨HX,hHX⟩:∃ HX,HX=upd (upd (H2) dx (HO.own x)) x (HO.ins ac dx []):=⟨_,rfl⟩
  rw [<- hHX] at zx ex0 |-
  refine ⟨x,dx,ra,r,u1,u2,rfl,ex0,zx _ _ (s2 _ _ (s1 _ _ era)),(by have:=SH.1.1; omega),λrb H4 sb frb eo4 eb4=>⟨rfl,?_⟩⟩
  have s4:=vW zx sb hx
  exact q (.ref x) H4 (s1.trans (s2.trans s4)) ⟨x,dx,rb,u1,u2,rfl,eo4,eb4,R1.same (s2.trans s4),R2.same s4⟩
theorem gp {k:Nat} {f:Addr} {fd:FuncData} {d:Nat} (F:yC K "_law_rule_text" "_law_rule_text" gk f fd) (B:Bl mg) (aB:Fn P w K mg base "_law_words" ["_law_numbers"] k (v5 K)) (aL:Fn P w K mg base "_law_rule_text" ["_law_tree_here"] k (uT d)):zJ P w K mg base zh (k + 1) f fd ["_law_tree_here"] (uT (d + 1)):=by
 refine F.ok zF5 (λvs H Q E h=>?_) (λcdv A outer s H vs Q E hr h=>?_)
 ·obtain ⟨_,_,_,rfl,_⟩:=h
  rfl
 obtain ⟨v,n,t,rfl,dp,hT,RO,q⟩:=h
 refine ⟨_,(zM (zo (yK xB (zZ yb (L2.pv 0) zH (λ_ _=>rfl)) zu (zp _)) (zO (zY (zP wO zu (zR aB hr rfl (zA (zP vI (zZ yb (L2.pv 0) zH (λ_ _=>rfl)) (ye (zA (zZ yb (L2.pv 0) zH (λ_ _=>rfl)) (zA (zZ yb (L2.pv 0) zH (λ_ _=>rfl)) zD)))) zD))))) yA)
  (zM (zo (yK xB (zZ yb (L2.pv 0) zH (λ_ _=>rfl)) zu (zp _)) (zO (zY (xD PySem.F.plainAttrs_str PySem.F.slot_str_join PySem.F.type_str_join uj zu (zA (ye (zA zu (zA (zR aB hr rfl (zA (ye (zA (zZ yb (L2.pv 0) zH (λ_ _=>rfl)) (zA (zZ yb (L2.pv 0) zH (λ_ _=>rfl)) zD))) zD)) (zA (zR aL hr rfl (zA (zZ yb (L2.pv 0) zH (λ_ _=>rfl)) zD)) zD)))) zD)))) yA)
  (zO (zY (xD PySem.F.plainAttrs_str PySem.F.slot_str_join PySem.F.type_str_join uj zu (zA (ye (zA zu (zA (zR aB hr rfl (zA (zZ yb (L2.pv 0) zH (λ_ _=>rfl)) zD)) (zA (zR aL hr rfl (zA (zZ yb (L2.pv 0) zH (λ_ _=>rfl)) zD)) (zA (zR aL hr rfl (zA (zZ yb (L2.pv 0) zH (λ_ _=>rfl)) zD)) zD))))) zD)))))),?_⟩
 try dsimp only [zQ,Cx.nox,Cx.wish]
 cases t with
 | str ns a d0=>
  obtain ⟨o,na,rfl,eo,ena⟩:=hT
  obtain ⟨n3,⟨ln,nn,nA,nD⟩,_⟩:=id RO
  have tl:=RO.len
  refine ⟨_,rfl,o,_,0,_,rfl,rfl,zW.of eo,rfl,rfl,_,rfl,xG (decide_eq_true rfl) ?_⟩
  refine ⟨_,rfl,o,_,1,_,rfl,rfl,zW.of eo,rfl,_,rfl,o,_,2,_,rfl,rfl,zW.of eo,rfl,_,rfl,o,_,3,_,rfl,rfl,zW.of eo,rfl,(by show 2<=sizeLine; decide),λl1 h1=>?_⟩
  have z1:=zK h1 (HO.lst [V.int a,V.int d0])
  refine ⟨na,l1,_,_,rfl,rfl,z1 _ _ ena,zG,yT (by rw [List.length_map]; show ns.length + 2<=900; omega),λl2 h2=>?_⟩
  have z2:=z1.trans (zK h2 (HO.lst (ns.map V.int++[V.int a,V.int d0])))
  refine ⟨l2,_,rfl,.inr (zE.of zG),(by rw [List.length_append,List.length_map]; show ns.length + 2<=12; omega),qG (uK nn) (xJ (vP nA) (xJ (vP nD) vk)),λH3 s3=>?_⟩
  have e:Str.ofString "straight "++Str.join yI ((ns.map V.int++[V.int a,V.int d0]).map tx)=xX (.str ns a d0):=by
   rw [qH,ul,show Str.ofString "straight " = wH++yI by decide +kernel,UT yI wH (by intro z; have:=congrArg List.length z; rw [List.length_append] at this; simp at this),UV,List.map_append]
   rfl
  have l16:=jH
  refine ⟨_,_,rfl,rfl,?_,?_⟩
  ·rw [<- Str.length_append,e]; omega
  ·rw [e]
   exact q H3 (z2.trans s3)
 | stp t1 lo hi=>
  obtain ⟨o,u,rfl,eo,hu⟩:=hT
  refine ⟨_,rfl,o,_,0,_,rfl,rfl,zW.of eo,rfl,rfl,_,rfl,yH jB ?_⟩
  refine ⟨_,rfl,o,_,0,_,rfl,rfl,zW.of eo,rfl,rfl,_,rfl,xG (decide_eq_true rfl) ?_⟩
  refine ⟨rfl,_,rfl,o,_,2,_,rfl,rfl,zW.of eo,rfl,_,rfl,o,_,3,_,rfl,rfl,zW.of eo,rfl,(by show 2<=sizeLine; decide),λl1 h1=>?_⟩
  have z1:=zK h1 (HO.lst [V.int lo,V.int hi])
  have nms:∀ x∈[lo,hi],Nm x:=λx hx=>by
   rcases List.mem_cons.mp hx with e | e
   ·rw [e]; exact RO.2.1.2.1
   ·rw [List.mem_singleton.mp e]; exact RO.2.1.2.2
  refine ⟨l1,[V.int lo,V.int hi],rfl,.inr (zE.of zG),(by show 2<=12; decide),uK nms,λH1 s1=>?_⟩
  have y1:=z1.trans s1
  refine ⟨_,rfl,o,_,1,_,rfl,rfl,zW.of (y1 _ _ eo),rfl,u,n,t1,rfl,Nat.le_of_succ_le_succ dp,hu.same y1,RO.stp,λH2 s2=>?_⟩
  refine ⟨(by show 3<=sizeLine; decide),λl3 h3=>?_⟩
  have z:=q _ (y1.trans (s2.trans (zK h3 (HO.lst [V.str wI,V.str (sW [lo,hi]),V.str (xX t1)]))))
  rw [<- KQ] at z
  refine ⟨_,l3,[wI,sW [lo,hi],xX t1],rfl,rfl,zE.of zG,U0 (vQ (B:=100000) (by decide +kernel) (vQ (Nat.le_trans (jb (n:=2) rfl (by decide) nms) (by decide)) (vQ RO.stp.len U6))) (Nat.le_refl _) (by show 3<=12; decide),z⟩
 | prt r x y=>
  obtain ⟨o,ra,u,w2,rfl,eo,era,hu,hw⟩:=hT
  have dp2:max x.dep y.dep<=d:=Nat.le_of_succ_le_succ dp
  obtain ⟨n3,⟨⟨rl,rn⟩,_⟩,_⟩:=id RO
  refine ⟨_,rfl,o,_,0,_,rfl,rfl,zW.of eo,rfl,rfl,_,rfl,yH jC ?_⟩
  refine ⟨_,rfl,o,_,0,_,rfl,rfl,zW.of eo,rfl,rfl,_,rfl,yH jD ?_⟩
  refine ⟨rfl,_,rfl,o,_,1,_,rfl,rfl,zW.of eo,rfl,ra,r.map V.int,rfl,.inl (zW.of era),(by rw [List.length_map]; omega),uK rn,λH1 s1=>?_⟩
  refine ⟨_,rfl,o,_,2,_,rfl,rfl,zW.of (s1 _ _ eo),rfl,u,n,x,rfl,(by omega),hu.same s1,RO.prt.1,λH2 s2=>?_⟩
  have y1:=s1.trans s2
  refine ⟨_,rfl,o,_,3,_,rfl,rfl,zW.of (y1 _ _ eo),rfl,w2,n,y,rfl,(by omega),hw.same y1,RO.prt.2,λH3 s3=>?_⟩
  refine ⟨(by show 4<=sizeLine; decide),λl3 h3=>?_⟩
  rw [ul]
  have z:=q _ (y1.trans (s3.trans (zK h3 (HO.lst [V.str wX,V.str (sW r),V.str (xX x),V.str (xX y)]))))
  rw [<- UY _ _ _ (by intro e; rw [e] at rl; cases rl)] at z
  exact ⟨_,l3,[wX,sW r,xX x,xX y],rfl,rfl,zE.of zG,U0 (vQ (B:=100000) (by decide +kernel) (vQ (Nat.le_trans (jb rl (by omega) rn) (by decide)) (vQ RO.prt.1.len (vQ RO.prt.2.len U6)))) (Nat.le_refl _) (by show 4<=12; decide),z⟩
theorem gq {k:Nat} {f:Addr} {fd:FuncData} {d:Nat} (F:yC K "_law_same_rule" "_law_same_rule" gl f fd) (B:Bl mg) (aM:Fn P w K mg base "_law_same_rule" ["_law_rule_here","_law_tree_here"] k (uU ab ae ac d)):zJ P w K mg base zh (k + 1) f fd ["_law_rule_here","_law_tree_here"] (uU ab ae ac (d + 1)):=by
 refine F.ok zF4 (λvs H Q E h=>?_) (λcdv A outer s H vs Q E hr h=>?_)
 ·obtain ⟨_,_,_,rfl,_⟩:=h
  rfl
 obtain ⟨u,v,t,rfl,dp,hR,hT,q⟩:=h
 refine ⟨_,(zM (zo (xO (yX (zm (show ya _ _ (wW K) from wz) rfl B.isinstance_ yo (zA (L2.pv 0) (zA (wy TRule rfl) zD))))) (zO (zY xy)) yA)
  (zM (zo (yK xB (zZ yb (L2.pv 1) zH (λ_ _=>rfl)) zu (zp _)) (zM (zo (xO (yX (zm (show ya _ _ (wW K) from wz) rfl B.isinstance_ yo (zA (L2.pv 0) (zA (wy aj rfl) zD))))) (zO (zY xy)) yA)
   (zO (zY (ub (Yr hr.units) (vv (zA (yN (L2.pv 0) rfl) (zA (yN (L2.pv 0) rfl) (zA (yN (L2.pv 0) rfl) zD)))) (vv (zA (zZ yb (L2.pv 1) zH (λ_ _=>rfl)) (zA (zZ yb (L2.pv 1) zH (λ_ _=>rfl)) (zA (zZ yb (L2.pv 1) zH (λ_ _=>rfl)) zD)))) (zp _))))) yA)
  (zM (zo (yK xB (zZ yb (L2.pv 1) zH (λ_ _=>rfl)) zu (zp _)) (zM (zo (PW.pt (xZ (xO (yX (zm (show ya _ _ (wW K) from wz) rfl B.isinstance_ yo (zA (L2.pv 0) (zA (wy ak rfl) zD))))) (wR (yK (Zg hr.units) (vv (zA (yN (L2.pv 0) rfl) (zA (yN (L2.pv 0) rfl) zD))) (vv (zA (zZ yb (L2.pv 1) zH (λ_ _=>rfl)) (zA (zZ yb (L2.pv 1) zH (λ_ _=>rfl)) zD))) (zp _))))) (zO (zY xy)) yA)
   (zO (zY (zR aM hr rfl (zA (yN (L2.pv 0) rfl) (zA (zZ yb (L2.pv 1) zH (λ_ _=>rfl)) zD)))))) yA)
  (zM (zo (PW.pt (xZ (xO (yX (zm (show ya _ _ (wW K) from wz) rfl B.isinstance_ yo (zA (L2.pv 0) (zA (wy ai rfl) zD))))) (xZ (yK (Zg hr.units) (yN (L2.pv 0) rfl) (zZ yb (L2.pv 1) zH (λ_ _=>rfl)) (zp _)) (wR (xO (yX (zm wT rfl B.isinstance_ yo (zA (yN (L2.pv 0) rfl) (zA (wQ (v:=.ty "tuple") (u:=.type "tuple") rfl B.tuple_ ww rfl) zD))))))))) (zO (zY xy)) yA)
  (zO (zY (ve (zR aM hr rfl (zA (yN (L2.pv 0) rfl) (zA (zZ yb (L2.pv 1) zH (λ_ _=>rfl)) zD))) (uZ (zR aM hr rfl (zA (yN (L2.pv 0) rfl) (zA (zZ yb (L2.pv 1) zH (λ_ _=>rfl)) zD))))))))))),?_⟩
 try dsimp only [zQ,Cx.nox,Cx.wish]
 cases t with
 | str ns a d0=>
  obtain ⟨ro,dx,la,rfl,ins,ela⟩:=hR
  obtain ⟨o,na,rfl,eo,ena⟩:=hT
  refine ⟨_,rfl,_,_,_,_,rfl,(aj.ty ins),Y.t1,_,rfl,zX ?_⟩
  refine ⟨_,rfl,o,_,0,_,rfl,rfl,zW.of eo,rfl,rfl,_,rfl,xG (decide_eq_true rfl) ?_⟩
  refine ⟨_,rfl,_,_,_,_,rfl,(aj.ty ins),uh,_,rfl,zX ?_⟩
  refine ⟨_,rfl,ro,ab,dx,_,_,rfl,ins,aj.cl,ap.n_numbers,rfl,_,rfl,ro,ab,dx,_,_,rfl,ins,aj.cl,ap.n_add,rfl,_,rfl,ro,ab,dx,_,_,rfl,ins,aj.cl,ap.n_divisor,rfl,(by show 3<=sizeLine; decide),λt3 h3=>?_⟩
  have zt:=zK h3 (HO.tup [V.ref la,V.int a,V.int d0])
  refine ⟨_,rfl,o,_,1,_,rfl,rfl,zW.of (zt _ _ eo),rfl,_,rfl,o,_,2,_,rfl,rfl,zW.of (zt _ _ eo),rfl,_,rfl,o,_,3,_,rfl,rfl,zW.of (zt _ _ eo),rfl,(by show 3<=sizeLine; decide),λt4 h4=>?_⟩
  have z4:=zK h4 (HO.tup [V.ref na,V.int a,V.int d0])
  have z5:=zt.trans z4
  exact ⟨.tuple [.list (ns.map PyData.int),.int a,.int d0],.tup (zW.of (z4 _ _ zG)) (.cons (.lst (zE.of (z5 _ _ ela)) (u6 _)) (.cons (.int _) (.cons (.int _) .nil))),.tup (zW.of zG) (.cons (.lst (zE.of (z5 _ _ ena)) (u6 _)) (.cons (.int _) (.cons (.int _) .nil))),zL0 _ _ _,zMB _ _ _,q _ z5⟩
 | stp t1 lo hi=>
  obtain ⟨ro,dx,u1,rfl,ins,hu⟩:=hR
  obtain ⟨o,v1,rfl,eo,hv⟩:=hT
  refine ⟨_,rfl,_,_,_,_,rfl,(ak.ty ins),Y.t2,_,rfl,zX ?_⟩
  refine ⟨_,rfl,o,_,0,_,rfl,rfl,zW.of eo,rfl,rfl,_,rfl,yH jB ?_⟩
  refine ⟨_,rfl,o,_,0,_,rfl,rfl,zW.of eo,rfl,rfl,_,rfl,xG (decide_eq_true rfl) ?_⟩
  refine ⟨_,rfl,_,_,_,_,rfl,(ak.ty ins),uh,_,rfl,zX ?_⟩
  refine ⟨_,rfl,ro,ae,dx,_,_,rfl,ins,ak.cl,aq.n_low,rfl,_,rfl,ro,ae,dx,_,_,rfl,ins,ak.cl,aq.n_high,rfl,(by show 2<=sizeLine; decide),λt3 h3=>?_⟩
  have zt:=zK h3 (HO.tup [V.int lo,V.int hi])
  refine ⟨_,rfl,o,_,2,_,rfl,rfl,zW.of (zt _ _ eo),rfl,_,rfl,o,_,3,_,rfl,rfl,zW.of (zt _ _ eo),rfl,(by show 2<=sizeLine; decide),λt4 h4=>?_⟩
  have z4:=zK h4 (HO.tup [V.int lo,V.int hi])
  have y2:=zt.trans z4
  refine ⟨.tuple [.int lo,.int hi],.tup (zW.of (z4 _ _ zG)) (.cons (.int _) (.cons (.int _) .nil)),.tup (zW.of zG) (.cons (.int _) (.cons (.int _) .nil)),rfl,(by show 1<=60; decide),_,rfl,zX ?_⟩
  exact ⟨_,rfl,ro,ae,dx,_,_,rfl,(y2 _ _ ins),ak.cl,aq.n_rule,rfl,_,rfl,o,_,1,_,rfl,rfl,zW.of (y2 _ _ eo),rfl,u1,v1,t1,rfl,Nat.le_of_succ_le_succ dp,hu.same y2,hv.same y2,λH' s=>q H' (y2.trans s)⟩
 | prt r x y=>
  obtain ⟨ro,dx,ra,u1,u2,rfl,ins,era,hu,hu2⟩:=hR
  obtain ⟨o,rb,v1,v2,rfl,eo,erb,hv,hv2⟩:=hT
  have dp2:max x.dep y.dep<=d:=Nat.le_of_succ_le_succ dp
  refine ⟨_,rfl,_,_,_,_,rfl,(ai.ty ins),Y.t3,_,rfl,zX ?_⟩
  refine ⟨_,rfl,o,_,0,_,rfl,rfl,zW.of eo,rfl,rfl,_,rfl,yH jC ?_⟩
  refine ⟨_,rfl,o,_,0,_,rfl,rfl,zW.of eo,rfl,rfl,_,rfl,yH jD ?_⟩
  refine ⟨_,rfl,_,_,_,_,rfl,(ai.ty ins),uh,_,rfl,zX ?_⟩
  refine ⟨_,rfl,ro,ac,dx,_,_,rfl,ins,ai.cl,ao.n_row,rfl,_,rfl,o,_,1,_,rfl,rfl,zW.of eo,rfl,yO r,.tup (zW.of era) (u6 _),.tup (zW.of erb) (u6 _),zLz r,zL8 r,_,rfl,zX ?_⟩
  refine ⟨_,rfl,ro,ac,dx,_,_,rfl,ins,ai.cl,ao.n_row,rfl,_,_,_,_,rfl,.tup era,kY K,_,rfl,zX ?_⟩
  refine ⟨_,rfl,ro,ac,dx,_,_,rfl,ins,ai.cl,ao.n_rule,rfl,_,rfl,o,_,2,_,rfl,rfl,zW.of eo,rfl,u1,v1,x,rfl,(by omega),hu,hv,λH1 s1=>⟨_,rfl,yd ?_⟩⟩
  exact ⟨_,rfl,ro,ac,dx,_,_,rfl,(s1 _ _ ins),ai.cl,ao.n_other,rfl,_,rfl,o,_,3,_,rfl,rfl,zW.of (s1 _ _ eo),rfl,u2,v2,y,rfl,(by omega),hu2.same s1,hv2.same s1,λH' s=>q H' (s1.trans s)⟩
end
theorem gr (xs:List Int) {a b:Nat} {i j:Int} (hi:i=(a:Int)) (hj:j=(b:Int)) (ha:a<=b) (hb:b<=xs.length):∃ zs:List Int,zk (xs.map V.int) (some i) (some j)=zs.map V.int/\zs.length=b - a/\∀ x∈zs,x∈xs:=by
 have e1:HT.sIx (xs.map V.int).length 0 (some i)=min a (xs.map V.int).length:=by rw [hi]; exact HT.sIx_nat _ 0 a
 have e2:HT.sIx (xs.map V.int).length (xs.map V.int).length (some j)=min b (xs.map V.int).length:=by rw [hj]; exact HT.sIx_nat _ _ b
 unfold zk
 rw [e1,e2,List.length_map,show min a xs.length=a by omega,show min b xs.length=b by omega,<- List.map_drop,<- List.map_take]
 exact ⟨_,rfl,by rw [List.length_take,List.length_drop]; omega,λx hx=>List.mem_of_mem_drop (List.mem_of_mem_take hx)⟩
noncomputable def Xv:Sp:=λvs H Q _=>∃ (c:Int) (n k:Nat) (kk:Int),vs=[.int c,.int (n:Int),.int kk]/\kk=(k:Int)/\n<=3/\k<=4/\∀ l lv room H',zC H H'->H l=none->H' l=some (.lst lv)->zf H' lv room->vY (n + 1) room->Q (.ref l) H'
noncomputable def gu (K:PySem.W.Frag):Sp:=λvs H Q _=>∃ (a:Addr) (ns:List Int) (n:Nat),vs=[.ref a,.int (n:Int)]/\zE K H a (ns.map V.int)/\1<=n/\n<=3/\∀ H',zC H H'->Q (.bl true) H'
theorem zI4 (room:List (List Int)):PyData.eqv (.list (room.map yO)) (.list [])=decide (room=[]):=by
 cases room with
 | nil=>rfl
 | cons r l=>rw [decide_eq_false (by nofun)]; rfl
theorem qP (c:Int) {d:Int} (h:0 < d):∃ k:Nat,c.fmod d=(k:Int)/\(k:Int) < d:=by
 have a:=Int.fmod_nonneg_of_pos c h
 have b:=Int.fmod_lt_of_pos c h
 exact ⟨(c.fmod d).toNat,by omega,by omega⟩
noncomputable def YG (ss rs:List (List Int)) (t:Int):PyData:=.tuple [.list (ss.map yO),.list (rs.map yO),.int t]
theorem U7 (ss rs:List (List Int)) (t:Int):PyData.canLay0 (YG ss rs t)=true:=by
 show (PyData.canLay0 (.list (ss.map yO)) && (PyData.canLay0 (.list (rs.map yO)) && true))=true
 rw [Y6,Y6]
 rfl
theorem U8 (rows:List (List Int)):PyData.depthAll (rows.map yO)<=1:=by
 induction rows with
 | nil=>exact Nat.zero_le _
 | cons r l ih=>
  refine Nat.max_le.mpr ⟨?_,ih⟩
  show PyData.depthAll (r.map PyData.int) + 1<=1
  have:PyData.depthAll (r.map PyData.int)<=0:=by
   induction r with
   | nil=>exact Nat.le_refl _
   | cons x r ih=>exact Nat.max_le.mpr ⟨Nat.le_refl _,ih⟩
  omega
theorem U9 (ss rs:List (List Int)) (t:Int):PyData.depth (YG ss rs t)<=60:=by
 show max (PyData.depthAll (ss.map yO) + 1) (max (PyData.depthAll (rs.map yO) + 1) (max 0 0)) + 1<=60
 have:=U8 ss
 have:=U8 rs
 omega
theorem JA (k:Bool):Str.ofString (if k then "settles " else "comes ")=wP k++yI:=by cases k <;> decide +kernel
theorem zMX (c:Int):Sm (c.fmod 2147483647):=⟨Int.fmod_nonneg_of_pos _ (by decide),Int.lt_trans (Int.fmod_lt_of_pos _ (by decide)) (by decide)⟩
section
variable {P:Program} {w:World} {K:PySem.W.Frag} {mg:Str->Option Value} {base:Heap}
noncomputable abbrev qQ:Stmt:=top 73
theorem JB:zq ["_law_cell","_law_many","_law_count","_law_xs"] ["_law_cell","_law_many","_law_count"] (zL qQ):=.a
noncomputable abbrev gv:Stmt:=top 74
theorem zF6:zq ["_law_room"] ["_law_room"] (zL gv):=.a
noncomputable abbrev gw:Stmt:=top 75
theorem up:zq ["_law_script","_law_many","_law_cell","_law_first","_law_second","_law_turn","_law_rooms","_law_one","_law_found","_law_other"] ["_law_script","_law_many"] (zL gw):=.a
variable {aClaim aSettles aComes aRule ab ae ac af au:Addr} (TClaim:zF K mg "Claim" aClaim) (AClaim:wY K aClaim) (TSettles:zF K mg "Settles" aSettles) (ASettles:wb K aSettles) (TComes:zF K mg "Comes" aComes) (AComes:wf K aComes) (TRule:zF K mg "Rule" aRule) (ARule:wg K aRule) (aj:zF K mg "Straight" ab) (ap:wj K ab) (ak:zF K mg "Stopped" ae) (aq:wk K ae) (ai:zF K mg "Parted" ac) (ao:wm K ac) (ag:zF K mg "Mode" af) (ah:wn K af) (am:zF K mg "Thing" au) (ar:wo K au) (Y:wp K aRule ab ae ac aClaim aSettles aComes)
include TClaim AClaim TSettles ASettles TComes AComes TRule ARule aj ap ak aq ai ao ag ah am ar Y
theorem zJz {k:Nat} {f:Addr} {fd:FuncData} (F:yC K "_law_rows" "_law_rows" qQ f fd) (B:Bl mg) (az:Fn P w K mg base "_law_stream" ["_law_cell","_law_many"] k jR) (ax:Fn P w K mg base "_law_number" ["_law_number_here"] k je):zJ P w K mg base zh (k + 1) f fd ["_law_cell","_law_many","_law_count"] Xv:=by
 refine F.ok JB (λvs H Q E h=>?_) (λcdv A outer s H vs Q E hr h=>?_)
 ·obtain ⟨_,_,_,_,rfl,_⟩:=h
  rfl
 obtain ⟨c,n,k,_,rfl,rfl,n3,k4,q⟩:=h
 refine ⟨_,(zM (yG (i:=3) JB.nd rfl (Or.inr rfl) (zR az hr rfl (zA (L2.pv 0) (zA (zP wu zH (L2.pv 2)) zD))))
  (zO (zY (Wy (own:=["_law_k"]) (caps:=[(1,"_law_many"),(3,"_law_xs")]) (Qb (S:=zL qQ) (N:=["_law_cell","_law_many","_law_count","_law_xs"]) rfl (by decide +kernel) rfl ⟨_,rfl⟩ rfl (by decide +kernel) (by decide +kernel)) rfl (ua rfl B.range_ (zA (L2.pv 2) zD)) (λ_ _ _ _=>zw (i:=0) (show (["_law_k","_law_many","_law_xs"]:List Str).Nodup by decide +kernel) rfl (Or.inl rfl)) (λ_ _ _ _=>(yz (show ya _ _ (λxs H Q=>∃ p ys,xs=[V.ref p]/\((zE K H p ys/\∀ l,H l=none->Q (V.ref l) (upd H l (HO.tup ys)))\/(zW K H p ys/\Q (V.ref p) H))) from ue) rfl B.tuple_ ww (zA (Wy (own:=["_law_number_here"]) (caps:=[]) (Qc rfl (by decide +kernel) (by decide +kernel) (by decide +kernel) (by decide +kernel)) rfl (show PI _ _ _ (WI K _) from yU (xW (show uv _ (vH K) from xb) (L2.pv 2) (yh (zP wu zH (L2.pv 0))) (yh (zP yS (zP yS (zP wu zH (L2.pv 0)) (L2.pv 1)) zH)))) (λ_ _ _ _=>zw (i:=0) (show (["_law_number_here"]:List Str).Nodup by decide +kernel) rfl (Or.inl rfl)) (λ_ _ _ _=>(zR ax hr rfl (zA (L2.pv 0) zD)))) zD))))))),?_⟩
 try dsimp only [zQ,Cx.nox,Cx.wish]
 have b4:Bd 4 (4:Int):=Bd.lit
 have bk:Bd 4 (k:Int):=by show ((k:Int)).natAbs < 2 ^ 4; omega
 refine ⟨_,rfl,_,rfl,_,_,rfl,rfl,⟨b4.mono,bk.mono⟩,c,_,rfl,(by omega),(by omega),λxa H1 xs s1 f1 e1 lx bx=>?_⟩
 have lx:xs.length=4 * k:=by rw [lx]; omega
 refine ⟨_,rfl,_,rfl,(by omega),(by omega),qb (lo:=0) (n:=((k:Int)).toNat) (λi ys σ H'=>(∃ room,zf H' ys room/\room.length=i/\∀ r∈room,xM (n + 1) r)/\(∃ o,σ=[o,some (.int (n:Int)),some (.ref xa)])/\zC H1 H')
  ⟨⟨[],.nil,rfl,λ_ h=>by cases h⟩,⟨none,rfl⟩,zC.refl _⟩ (λi ys σ H' ⟨⟨room,g1,g2,_⟩,_,_⟩=>by rw [Paired.length g1,g2]; exact Nat.le_refl _) (yT (by omega)) ?_ ?_⟩
 ·rintro i ys σ H' hi ⟨⟨room,hys,lr,hr'⟩,⟨o,rfl⟩,sm⟩
  have bi:Bd 4 (0 + (i:Int)):=by show (0 + (i:Int)).natAbs < 2 ^ 4; omega
  obtain ⟨zs,ez,lz,hz⟩:=gr xs (a:=4 * i) (b:=4 * i + n + 1) (i:=4 * (0 + (i:Int))) (j:=4 * (0 + (i:Int)) + (n:Int) + 1) (by omega) (by omega) (by omega) (by omega)
  refine ⟨_,rfl,_,rfl,_,_,rfl,rfl,⟨b4.mono,bi.mono⟩,_,rfl,_,rfl,_,_,rfl,rfl,⟨b4.mono,bi.mono⟩,_,rfl,_,_,rfl,rfl,_,_,rfl,rfl,_,rfl,xa,_,rfl,zE.of (sm _ _ e1),λc2 hc2=>?_⟩
  rw [ez]
  have w2:=zK hc2 (HO.lst (zs.map V.int))
  have e2:=zG (H:=H') (a:=c2) (o:=HO.lst (zs.map V.int))
  have bz:∀ x∈zs,Sm x:=λx hx=>bx x (hz x hx)
  generalize upd H' c2 (HO.lst (zs.map V.int))=H2 at w2 e2 |-
  refine ⟨c2,rfl,⟨_,zE.of e2⟩,yi (K:=K) (a:=c2) (xs:=zs.map V.int) (λi ys σ H'=>(∃ ns,ys=ns.map V.int/\xM i ns)/\(∃ o,σ=[o])/\zC H2 H')
   ⟨⟨[],rfl,xM.nil⟩,⟨none,rfl⟩,zC.refl _⟩ (λi ys σ H' _ ⟨⟨ns,g1,g2⟩,_,sm⟩=>⟨zE.of (sm _ _ e2),by rw [g1,List.length_map,g2.1]; exact Nat.le_refl _⟩) (yT (by rw [List.length_map]; omega)) ?_ ?_⟩
  ·rintro i x ys σ H' hx ⟨⟨ns,rfl,hns⟩,⟨o,rfl⟩,sm⟩
   obtain ⟨z,hz,rfl⟩:=vU hx
   refine ⟨_,rfl,z,rfl,bz z (List.mem_of_getElem? hz),λy H3 s3 ny=>⟨⟨ns++[y],by rw [List.map_append]; rfl,hns.snoc ny⟩,⟨_,rfl⟩,sm.trans s3⟩⟩
  rintro ys2 σ H4 ⟨⟨ns,rfl,hns⟩,⟨o,rfl⟩,sm4⟩ l2 h2
  rw [List.length_map,lz,show 4 * i + n + 1 - 4 * i=n + 1 by omega] at hns
  refine ⟨l2,_,rfl,.inl ⟨zE.of zG,λtr htr=>?_⟩⟩
  have w5:=w2.trans (sm4.trans ((zK h2 (HO.lst (ns.map V.int))).trans (zK htr (HO.tup (ns.map V.int)))))
  refine ⟨⟨room++[ns],Z2 zG (zf.same w5 hys),by rw [List.length_append,lr]; rfl,λr hr2=>?_⟩,⟨_,rfl⟩,sm.trans w5⟩
  rcases List.mem_append.mp hr2 with e | e
  ·exact hr' r e
  ·rw [List.mem_singleton.mp e]; exact hns
 rintro ys σ H' ⟨⟨room,hys,lr,hr'⟩,⟨o,rfl⟩,sm⟩ l hl
 have w:=zK hl (HO.lst ys)
 exact q l ys room _ (s1.trans (sm.trans w)) ((s1.trans sm).free hl) zG (zf.same w hys) ⟨by omega,by omega,λr h=>hr' r h⟩
theorem zGC {k:Nat} {f:Addr} {fd:FuncData} (F:yC K "_law_room_text" "_law_room_text" gv f fd) (B:Bl mg) (aB:Fn P w K mg base "_law_words" ["_law_numbers"] k (v5 K)):zJ P w K mg base zh (k + 1) f fd ["_law_room"] (qm K):=by
 refine F.ok zF6 (λvs H Q E h=>?_) (λcdv A outer s H vs Q E hr h=>?_)
 ·obtain ⟨_,_,_,_,rfl,_⟩:=h
  rfl
 obtain ⟨a,rv,room,n,rfl,ha,hrv,RT,q⟩:=h
 refine ⟨_,(zM (zo (yK (Qe hr.units) (L2.pv 0) (ye zD) (zp _)) (zO (zY zu)) yA)
  (zO (zY (xD PySem.F.plainAttrs_str PySem.F.slot_str_join PySem.F.type_str_join uj zu (zA (yu (own:=["_law_row"]) (caps:=[]) (xk rfl) rfl (yU (L2.pv 0)) (λ_ _ _ _=>zw (i:=0) (show (["_law_row"]:List Str).Nodup by decide +kernel) rfl (Or.inl rfl)) (λ_ _ _ _=>(zR aB hr rfl (zA (L2.pv 0) zD)))) zD))))),?_⟩
 try dsimp only [zQ,Cx.nox,Cx.wish]
 have lr:rv.length=room.length:=Paired.length hrv
 obtain ⟨r6,n4,rok⟩:=id RT
 refine ⟨_,rfl,(by show 0<=sizeLine; decide),λle hle=>?_⟩
 have we:=zK hle (HO.lst [])
 have q:∀ H',zC (upd H le (HO.lst [])) H'->Q (.str (yq room)) H':=λH' s=>q H' (we.trans s)
 have ha:=we.seq ha
 have hrv:=zf.same we hrv
 have ee:=zG (H:=H) (a:=le) (o:=HO.lst [])
 generalize upd H le (HO.lst [])=H at we q ha hrv ee |-
 refine ⟨.list (room.map yO),.list [],.lst ha (uD hrv),.lst (zE.of ee) .nil,Y6 _,rfl,Qf _,(by show 1<=60; decide),_,rfl,?_⟩
 rw [zI4]
 by_cases e0:room=[]
 ·refine xG (decide_eq_true e0) ?_
  have z:=q _ (zC.refl H)
  rw [show yq room=_ from if_pos e0] at z
  exact z
 ·have hpos:0 < room.length:=List.length_pos_iff.mpr e0
  refine yH (decide_eq_false e0) ?_
  have jo:JoinOk jX (room.map sW)=true:=jW (B:=248) (λy hy=>by
   obtain ⟨x,hx,rfl⟩:=List.mem_map.mp hy
   exact jb (rok x hx).1 n4 (rok x hx).2) (by
    rw [List.length_map,qB]
    have:=Nat.mul_le_mul r6 (Nat.le_refl (248 + 2))
    omega)
  refine ⟨rfl,_,rfl,a,rfl,⟨_,ha⟩,yi (K:=K) (a:=a) (xs:=rv) (λi ys σ H'=>ys=((room.take i).map sW).map V.str/\(∃ o,σ=[o])/\zC H H')
   ⟨rfl,⟨none,rfl⟩,zC.refl _⟩ (λi ys σ H' _ ⟨e,_,sm⟩=>⟨sm.seq ha,by rw [e,List.length_map,List.length_map,List.length_take]; omega⟩) (Nat.le_of_lt (yn (by omega))) ?_ ?_⟩
  ·rintro i x ys σ H' hx ⟨rfl,⟨o,rfl⟩,sm⟩
   obtain ⟨r,hr',t,rfl,ht⟩:=yp hrv hx
   obtain ⟨rl,rb⟩:=rok r (List.mem_of_getElem? hr')
   refine ⟨_,rfl,t,r.map V.int,rfl,.inl (zW.of (sm _ _ ht)),(by rw [List.length_map]; omega),(λx hx=>?_),λH3 s3=>⟨?_,⟨_,rfl⟩,sm.trans s3⟩⟩
   ·obtain ⟨j,hj,rfl⟩:=List.mem_map.mp hx
    exact .inl ⟨j,rfl,rb j hj⟩
   ·rw [xY hr',List.map_append,List.map_append,ul]
    rfl
  rintro ys σ H' ⟨rfl,⟨o,rfl⟩,sm⟩ l hl
  rw [lr,List.take_length]
  have z:=q _ (sm.trans (zK hl (HO.lst ((room.map sW).map V.str))))
  rw [show yq room=_ from if_neg e0] at z
  exact ⟨_,l,room.map sW,rfl,rfl,zE.of zG,jo,z⟩
theorem zH3 {k:Nat} {f:Addr} {fd:FuncData} (F:yC K "_law_claims" "_law_claims" gw f fd) (B:Bl mg) (aA:Fn P w K mg base "_law_cell_at" ["_law_script","_law_k"] (k + 1) (jy K)) (cY:Fn P w K mg base "_law_rows" ["_law_cell","_law_many","_law_count"] (k + 1) Xv) (ax:Fn P w K mg base "_law_number" ["_law_number_here"] (k + 1) je) (cZ:Fn P w K mg base "_law_room_text" ["_law_room"] (k + 1) (qm K)) (aW:xf P w K mg base aSettles ["self","start","rows","turn"] k (jc aSettles wq) (.int 0)) (da:Fn P w K mg base "show_claim" ["claim"] (k + 1) (XY aSettles aComes)) (db:Fn P w K mg base "read_claim" ["text","many"] (k + 1) (Xk aSettles aComes)) (aX:xz P w K mg base aComes ["self","start","goal","turns"] k (jc aComes wr)):zJ P w K mg base zh (k + 1 + 1) f fd ["_law_script","_law_many"] (gu K):=by
 refine F.ok up (λvs H Q E h=>?_) (λcdv A outer s H vs Q E hr h=>?_)
 ·obtain ⟨_,_,_,rfl,_⟩:=h
  rfl
 obtain ⟨a,ns,n,rfl,ha,n1,n3,q⟩:=h
 refine ⟨_,(zM (yG (i:=2) up.nd rfl (Or.inl rfl) (zR aA hr rfl (zA (L2.pv 0) (zA zH zD))))
  (zM (yG (i:=3) up.nd rfl (Or.inl rfl) (zR cY hr rfl (zA (zP uA (L2.pv 2) zH) (zA (L2.pv 1) (zA (zP xm (L2.pv 2) zH) zD)))))
  (zM (yG (i:=4) up.nd rfl (Or.inl rfl) (zR cY hr rfl (zA (zP yS (zP uA (L2.pv 2) zH) zH) (zA (L2.pv 1) (zA (zP xm (zP uA (L2.pv 2) zH) zH) zD)))))
  (zM (yG (i:=5) up.nd rfl (Or.inl rfl) (zm WO rfl B.abs_ Wr (zA (zR ax hr rfl (zA (zP xm (zP uA (L2.pv 2) zH) zH) zD)) zD)))
  (zM (yG (i:=6) up.nd rfl (Or.inl rfl) (zP wO (zP wO (zP wO zu (zR cZ hr rfl (zA (L2.pv 3) zD))) zu) (zR cZ hr rfl (zA (L2.pv 4) zD))))
  (zM (yG (i:=7) up.nd rfl (Or.inl rfl) (vV aW.fn TSettles hr rfl (zA (yz ud rfl B.list_ wM (zA (L2.pv 3) zD)) (zA (yz ud rfl B.list_ wM (zA (L2.pv 4) zD)) (zA (L2.pv 5) zD)))))
  (zM (zo (yK vf (zR da hr rfl (zA (L2.pv 7) zD)) (zP wO (zP wO zu (yz jY rfl B.str_ ux (zA (L2.pv 5) zD))) (L2.pv 6)) (zp _)) (zO (zY xy)) yA)
  (zM (yG (i:=8) up.nd rfl (Or.inl rfl) (zR db hr rfl (zA (zP wO (zP wO zu (yz jY rfl B.str_ ux (zA (L2.pv 5) zD))) (L2.pv 6)) (zA (L2.pv 1) zD))))
  (zM (zo (PW.pt (xZ (xO (yX (zm (show ya _ _ (wW K) from wz) rfl B.isinstance_ yo (zA (L2.pv 8) (zA (wy TSettles rfl) zD))))) (xZ (yX (zm (show ya _ _ (wW K) from wz) rfl B.isinstance_ yo (zA (L2.pv 8) (zA (wy TComes rfl) zD)))) (wR (xO (yX (zm (show ya _ _ (wW K) from wz) rfl B.isinstance_ yo (zA (L2.pv 8) (zA (wy TClaim rfl) zD))))))))) (zO (zY xy)) yA)
  (zM (zo (yK (Zg hr.units) (vv (zA (yN (L2.pv 8) rfl) (zA (yN (L2.pv 8) rfl) (zA (yN (L2.pv 8) rfl) zD)))) (vv (zA (L2.pv 3) (zA (L2.pv 4) (zA (L2.pv 5) zD)))) (zp _)) (zO (zY xy)) yA)
  (zM (yG (i:=9) up.nd rfl (Or.inl rfl) (vV aX TComes hr rfl (zA (yz ud rfl B.list_ wM (zA (L2.pv 3) zD)) (zA (yz ud rfl B.list_ wM (zA (L2.pv 4) zD)) (zA (L2.pv 5) zD)))))
  (zM (zo (yK vf (zR da hr rfl (zA (L2.pv 9) zD)) (zP wO (zP wO zu (yz jY rfl B.str_ ux (zA (L2.pv 5) zD))) (L2.pv 6)) (zp _)) (zO (zY xy)) yA)
  (zM (yG (i:=8) up.nd rfl (Or.inl rfl) (zR db hr rfl (zA (zP wO (zP wO zu (yz jY rfl B.str_ ux (zA (L2.pv 5) zD))) (L2.pv 6)) (zA (L2.pv 1) zD))))
  (zM (zo (PW.pt (xZ (xO (yX (zm (show ya _ _ (wW K) from wz) rfl B.isinstance_ yo (zA (L2.pv 8) (zA (wy TComes rfl) zD))))) (wR (yX (zm (show ya _ _ (wW K) from wz) rfl B.isinstance_ yo (zA (L2.pv 8) (zA (wy TSettles rfl) zD))))))) (zO (zY xy)) yA)
  (zO (zY (ub (Yr hr.units) (vv (zA (yN (L2.pv 8) rfl) (zA (yN (L2.pv 8) rfl) (zA (yN (L2.pv 8) rfl) zD)))) (vv (zA (L2.pv 3) (zA (L2.pv 4) (zA (L2.pv 5) zD)))) (zp _)))))))))))))))))),?_⟩
 try dsimp only [zQ,Cx.nox,Cx.wish]
 have b25:Bd 5 (25:Int):=Bd.lit
 have b5:Bd 5 (5:Int):=Bd.lit
 have b3:Bd 5 (3:Int):=Bd.lit
 have l16:=jH
 refine ⟨_,rfl,a,ns,7,rfl,ha,(by decide),?_⟩
 generalize jQ ns 7=cell
 obtain ⟨k1,hk1,k1'⟩:=qP cell (d:=5) (by decide)
 obtain ⟨k2,hk2,k2'⟩:=qP (cell.fdiv 5) (d:=5) (by decide)
 refine ⟨_,rfl,_,_,rfl,rfl,⟨by decide,b25.mono⟩,_,rfl,_,rfl,_,_,rfl,rfl,(show (5:Int)≠0 by decide),_,n,k1,_,rfl,hk1,n3,by omega,λl1 v1 ss H1 s1 f1 e1 w1 R1=>?_⟩
 refine ⟨_,rfl,_,_,rfl,rfl,⟨by decide,b25.mono⟩,_,_,rfl,rfl,_,rfl,_,rfl,_,_,rfl,rfl,⟨by decide,b5.mono⟩,_,_,rfl,rfl,(show (5:Int)≠0 by decide),_,n,k2,_,rfl,hk2,n3,by omega,λl2 v2 rs H2 s2 f2 e2 w2 R2=>?_⟩
 refine ⟨_,rfl,_,_,rfl,rfl,⟨by decide,b3.mono⟩,_,_,rfl,rfl,(show (2147483647:Int)≠0 by decide),_,rfl,zMX _,λy H3 s3 ny=>?_⟩
 refine ⟨_,rfl,?_⟩
 obtain ⟨t,ht,t0,nt⟩:∃ t:Int,t=(if y < 0 then -y else y)/\0<=t/\Nm t:=⟨_,rfl,by split <;> omega,by show (if y < 0 then -y else y).natAbs < 10 ^ 60; split <;> omega⟩
 rw [<- ht]
 have ln:=(jV nt).2
 have r1:=jd R1
 have r2:=jd R2
 have e1:=(s2.trans s3) _ _ e1
 have w1:=zf.same (s2.trans s3) w1
 have e2:=s3 _ _ e2
 have w2:=zf.same s3 w2
 have y3:=s1.trans (s2.trans s3)
 refine ⟨_,rfl,l1,v1,ss,n + 1,rfl,zE.of e1,w1,R1,λH4 s4=>?_⟩
 refine ⟨_,_,rfl,rfl,?_,_,_,rfl,rfl,?_,_,rfl,l2,v2,rs,n + 1,rfl,zE.of (s4 _ _ e2),zf.same s4 w2,R2,λH5 s5=>?_⟩
 ·rw [show (Str.ofString " | ").length=3 by decide +kernel]; omega
 ·rw [Str.length_append,show (Str.ofString " | ").length=3 by decide +kernel]; omega
 refine ⟨_,_,rfl,rfl,?_,?_⟩
 ·rw [Str.length_append,Str.length_append,show (Str.ofString " | ").length=3 by decide +kernel]; omega
 have y5:=y3.trans (s4.trans s5)
 have e1:=(s4.trans s5) _ _ e1
 have w1:=zf.same (s4.trans s5) w1
 have e2:=(s4.trans s5) _ _ e2
 have w2:=zf.same (s4.trans s5) w2
 obtain ⟨rooms,hrooms⟩:∃ rooms,rooms=yj++yq ss++yj++yq rs:=⟨_,rfl⟩
 rw [<- hrooms]
 have z5:=zC.refl H5
 have wd1:Str.ofString "settles " = wP true++yI:=JA true
 have eT:Str.ofString "settles "++sN t++rooms=jE true t ss rs:=by rw [wd1,hrooms]; exact Ub true t ss rs
 have len1:(Str.ofString "settles ").length + (sN t).length<=sizeLine:=by
  rw [show (Str.ofString "settles ").length=8 by decide +kernel]; omega
 have len2:(Str.ofString "settles "++sN t).length + rooms.length<=sizeLine:=by
  rw [<- Str.length_append,eT]
  have:=XZ (k:=true) R1 R2 nt
  omega
 refine ⟨_,rfl,l1,_,rfl,.inl (zE.of (z5 _ _ e1)),λp1 hp1=>?_⟩
 have u1:=zK hp1 (HO.lst v1)
 refine ⟨_,rfl,l2,_,rfl,.inl (zE.of ((z5.trans u1) _ _ e2)),λp2 hp2=>?_⟩
 have u2:=zK hp2 (HO.lst v2)
 have ep1:=u2 _ _ (zG (H:=H5) (a:=p1) (o:=HO.lst v1))
 have ep2:=zG (H:=upd H5 p1 (HO.lst v1)) (a:=p2) (o:=HO.lst v2)
 have u12:=u1.trans u2
 generalize upd (upd H5 p1 (HO.lst v1)) p2 (HO.lst v2)=HM at u2 ep1 ep2 u12 |-
 refine ⟨_,rfl,λx dx hx hdx ne=>?_⟩
 have zx:=vX hx hdx ne (HO.own x) (HO.ins aSettles dx [])
 have ex0:=zG (H:=upd (HM) dx (HO.own x)) (a:=x) (o:=HO.ins aSettles dx [])
 obtain ⟨HX,hHX⟩:∃ HX,HX=upd (upd (HM) dx (HO.own x)) x (HO.ins aSettles dx []):=⟨_,rfl⟩
 rw [<- hHX] at zx ex0 |-
 have um:=z5.trans (u12.trans zx)
 refine ⟨x,dx,p1,p2,v1,v2,ss,rs,t,rfl,ex0,zx _ _ ep1,zf.same um w1,zx _ _ ep2,zf.same um w2,R1.few.1,R1.few.2,R2.few.1,R2.few.2,λsb rb sw rw' HN sB eo esb wsb erb wrb=>⟨rfl,?_⟩⟩
 have uN:=z5.trans (u12.trans (vW zx sB hx))
 refine ⟨_,rfl,.ref x,true,ss,rs,t,x,dx,sb,rb,sw,rw',n + 1,rfl,⟨rfl,eo,esb,wsb,erb,wrb⟩,R1,R2,nt,λHP sP=>?_⟩
 have uP:=uN.trans sP
 refine ⟨_,rfl,.inl ⟨t,rfl,nt,_,_,rfl,rfl,len1,_,rfl,_,_,rfl,rfl,len2,rfl,_,rfl,yH (gY eT.symm) ?_⟩⟩
 refine ⟨_,rfl,.inl ⟨t,rfl,nt,_,_,rfl,rfl,len1,_,rfl,_,_,rfl,rfl,len2,_,rfl,true,t,ss,rs,n,by rw [eT]; rfl,R1,R2,t0,nt,λv o dy sa ra sv rv HR sR hc=>?_⟩⟩
 obtain ⟨rfl,ins,esa,wsa,era,wra⟩:=hc
 have ins:HR o=some (.ins aSettles dy (wq (.ref sa) (.ref ra) t)):=ins
 have uR:=uP.trans sR
 refine ⟨_,rfl,_,_,_,_,rfl,(TSettles.ty ins),uh,_,rfl,zX ?_⟩
 refine ⟨_,rfl,_,_,_,_,rfl,(TSettles.ty ins),Y.sc,_,rfl,zX ?_⟩
 refine ⟨_,rfl,_,_,_,_,rfl,(TSettles.ty ins),Y.ts,_,rfl,zX ?_⟩
 refine ⟨_,rfl,o,aSettles,dy,_,_,rfl,ins,TSettles.cl,ASettles.n_start,rfl,_,rfl,o,aSettles,dy,_,_,rfl,ins,TSettles.cl,ASettles.n_rows,rfl,_,rfl,o,aSettles,dy,_,_,rfl,ins,TSettles.cl,ASettles.n_turn,rfl,(by show 3<=sizeLine; decide),λt3 h3=>?_⟩
 have z3:=zK h3 (HO.tup [V.ref sa,V.ref ra,V.int t])
 refine ⟨_,rfl,_,rfl,_,rfl,(by show 3<=sizeLine; decide),λt4 h4=>?_⟩
 have z4:=zK h4 (HO.tup [V.ref l1,V.ref l2,V.int t])
 have z34:=z3.trans z4
 have uS:=uR.trans z34
 refine ⟨YG ss rs t,.tup (zW.of (z4 _ _ zG)) (.cons (.lst (zE.of (z34 _ _ esa)) (uD (zf.same z34 wsa))) (.cons (.lst (zE.of (z34 _ _ era)) (uD (zf.same z34 wra))) (.cons (.int _) .nil))),.tup (zW.of zG) (.cons (.lst (zE.of (uS _ _ e1)) (uD (zf.same uS w1))) (.cons (.lst (zE.of (uS _ _ e2)) (uD (zf.same uS w2))) (.cons (.int _) .nil))),U7 _ _ _,U9 _ _ _,_,rfl,zX ?_⟩
 clear z4 z34 z3 ins esa wsa era wra uR uP uN um zx ex0 u12 u1 u2 ep1 ep2 eo esb wsb erb wrb sP sR sB eT wd1 len1 len2
 generalize upd (upd HR t3 (HO.tup [V.ref sa,V.ref ra,V.int t])) t4 (HO.tup [V.ref l1,V.ref l2,V.int t])=HS at uS |-
 have wd1:Str.ofString "comes " = wP false++yI:=JA false
 have eT:Str.ofString "comes "++sN t++rooms=jE false t ss rs:=by rw [wd1,hrooms]; exact Ub false t ss rs
 have len1:(Str.ofString "comes ").length + (sN t).length<=sizeLine:=by
  rw [show (Str.ofString "comes ").length=6 by decide +kernel]; omega
 have len2:(Str.ofString "comes "++sN t).length + rooms.length<=sizeLine:=by
  rw [<- Str.length_append,eT]
  have:=XZ (k:=false) R1 R2 nt
  omega
 refine ⟨_,rfl,l1,_,rfl,.inl (zE.of (uS _ _ e1)),λp1 hp1=>?_⟩
 have u1:=zK hp1 (HO.lst v1)
 refine ⟨_,rfl,l2,_,rfl,.inl (zE.of ((uS.trans u1) _ _ e2)),λp2 hp2=>?_⟩
 have u2:=zK hp2 (HO.lst v2)
 have ep1:=u2 _ _ (zG (H:=HS) (a:=p1) (o:=HO.lst v1))
 have ep2:=zG (H:=upd HS p1 (HO.lst v1)) (a:=p2) (o:=HO.lst v2)
 have u12:=u1.trans u2
 generalize upd (upd HS p1 (HO.lst v1)) p2 (HO.lst v2)=HM at u2 ep1 ep2 u12 |-
 refine ⟨_,rfl,λx dx hx hdx ne=>?_⟩
 have zx:=vX hx hdx ne (HO.own x) (HO.ins aComes dx [])
 have ex0:=zG (H:=upd (HM) dx (HO.own x)) (a:=x) (o:=HO.ins aComes dx [])
 obtain ⟨HX,hHX⟩:∃ HX,HX=upd (upd (HM) dx (HO.own x)) x (HO.ins aComes dx []):=⟨_,rfl⟩
 rw [<- hHX] at zx ex0 |-
 have um:=uS.trans (u12.trans zx)
 refine ⟨x,dx,p1,p2,v1,v2,ss,rs,t,rfl,ex0,zx _ _ ep1,zf.same um w1,zx _ _ ep2,zf.same um w2,R1.few.1,R1.few.2,R2.few.1,R2.few.2,λsb rb sw rw' HN sB eo esb wsb erb wrb=>⟨rfl,?_⟩⟩
 have uN:=uS.trans (u12.trans (vW zx sB hx))
 refine ⟨_,rfl,.ref x,false,ss,rs,t,x,dx,sb,rb,sw,rw',n + 1,rfl,⟨rfl,eo,esb,wsb,erb,wrb⟩,R1,R2,nt,λHP sP=>?_⟩
 have uP:=uN.trans sP
 refine ⟨_,rfl,.inl ⟨t,rfl,nt,_,_,rfl,rfl,len1,_,rfl,_,_,rfl,rfl,len2,rfl,_,rfl,yH (gY eT.symm) ?_⟩⟩
 refine ⟨_,rfl,.inl ⟨t,rfl,nt,_,_,rfl,rfl,len1,_,rfl,_,_,rfl,rfl,len2,_,rfl,false,t,ss,rs,n,by rw [eT]; rfl,R1,R2,t0,nt,λv o dy sa ra sv rv HR sR hc=>?_⟩⟩
 obtain ⟨rfl,ins,esa,wsa,era,wra⟩:=hc
 have ins:HR o=some (.ins aComes dy (wr (.ref sa) (.ref ra) t)):=ins
 have uR:=uP.trans sR
 refine ⟨_,rfl,_,_,_,_,rfl,(TComes.ty ins),uh,_,rfl,zX ?_⟩
 refine ⟨_,rfl,_,_,_,_,rfl,(TComes.ty ins),Y.cs,_,rfl,zX ?_⟩
 refine ⟨_,rfl,o,aComes,dy,_,_,rfl,ins,TComes.cl,AComes.n_start,rfl,_,rfl,o,aComes,dy,_,_,rfl,ins,TComes.cl,AComes.n_goal,rfl,_,rfl,o,aComes,dy,_,_,rfl,ins,TComes.cl,AComes.n_turns,rfl,(by show 3<=sizeLine; decide),λt3 h3=>?_⟩
 have z3:=zK h3 (HO.tup [V.ref sa,V.ref ra,V.int t])
 refine ⟨_,rfl,_,rfl,_,rfl,(by show 3<=sizeLine; decide),λt4 h4=>?_⟩
 have z4:=zK h4 (HO.tup [V.ref l1,V.ref l2,V.int t])
 have z34:=z3.trans z4
 have uS:=uR.trans z34
 exact ⟨YG ss rs t,.tup (zW.of (z4 _ _ zG)) (.cons (.lst (zE.of (z34 _ _ esa)) (uD (zf.same z34 wsa))) (.cons (.lst (zE.of (z34 _ _ era)) (uD (zf.same z34 wra))) (.cons (.int _) .nil))),.tup (zW.of zG) (.cons (.lst (zE.of (uS _ _ e1)) (uD (zf.same uS w1))) (.cons (.lst (zE.of (uS _ _ e2)) (uD (zf.same uS w2))) (.cons (.int _) .nil))),U7 _ _ _,U9 _ _ _,q _ (y5.trans uS)⟩
end
structure ZV (pl r n s p a:Addr) (rv nv pv:List V) (H:Hp) (m:MD):Prop where
 hl:H pl=some (.lst [.ref r,.ref n,.ref s,.ref p,.ref a,.int m.div])
 hr:H r=some (.lst rv)
 hrv:zf H rv m.rows
 hn:H n=some (.lst nv)
 hnv:zU H nv m.nexts
 hs:H s=some (.lst (m.steer.map V.int))
 hp:H p=some (.lst pv)
 hpv:zU H pv m.push
 ha:H a=some (.lst (m.add.map V.int))
noncomputable def vo (H:Hp) (v:V) (m:MD):Prop:=∃ pl r n s p a rv nv pv,v=.ref pl/\ZV pl r n s p a rv nv pv H m
noncomputable def xi (r:List Int):PyData:=.list (r.map PyData.int)
theorem Xw {K:PySem.W.Frag} {H:Hp}:∀ {tv:List V} {tab:List (List Int)},zU H tv tab->wv K H tv (tab.map xi)
 | _,_,.nil=>.nil
 | _,_,.cons ⟨a,e,h⟩ t=>by
  subst e
  exact .cons (.lst (zE.of h) (u6 _)) (Xw t)
theorem Xx:∀ tab:List (List Int),PyData.canLayAll0 (tab.map xi)=true
 | []=>rfl
 | r :: t=>by
  show (PyData.canLayAll0 (r.map PyData.int) && PyData.canLayAll0 (t.map xi))=true
  rw [qe,Xx t]
  rfl
theorem Xy:∀ tab:List (List Int),PyData.depthAll (tab.map xi)<=1
 | []=>Nat.zero_le _
 | r :: t=>by
  show max (PyData.depthAll (r.map PyData.int) + 1) (PyData.depthAll (t.map xi))<=1
  rw [qf]
  have:=Xy t
  omega
noncomputable def gx (m:MD):List PyData:=[.list (m.rows.map yO),.list (m.nexts.map xi),.list (m.steer.map PyData.int),.list (m.push.map xi),.list (m.add.map PyData.int),.int m.div]
theorem zMr (m:MD):PyData.canLay0 (.list (gx m))=true:=by
 show (PyData.canLayAll0 (m.rows.map yO) && (PyData.canLayAll0 (m.nexts.map xi) && (PyData.canLayAll0 (m.steer.map PyData.int) && (PyData.canLayAll0 (m.push.map xi) && (PyData.canLayAll0 (m.add.map PyData.int) && (true && true))))))=true
 rw [Y4,Xx,qe,Xx,qe]
 rfl
theorem zM4 (m:MD):PyData.depth (.list (gx m))<=3:=by
 show max (PyData.depthAll (m.rows.map yO) + 1) (max (PyData.depthAll (m.nexts.map xi) + 1) (max (PyData.depthAll (m.steer.map PyData.int) + 1) (max (PyData.depthAll (m.push.map xi) + 1) (max (PyData.depthAll (m.add.map PyData.int) + 1) (max 0 0))))) + 1<=3
 rw [qf,qf]
 have:=Y5 m.rows
 have:=Xy m.nexts
 have:=Xy m.push
 omega
theorem zK5 {K:PySem.W.Frag} {H:Hp} {r n s p a:Addr} {rv nv pv:List V} {m:MD} (h1:H r=some (.lst rv)) (h2:zf H rv m.rows) (h3:H n=some (.lst nv)) (h4:zU H nv m.nexts) (h5:H s=some (.lst (m.steer.map V.int))) (h6:H p=some (.lst pv)) (h7:zU H pv m.push) (h8:H a=some (.lst (m.add.map V.int))) :
  wv K H [.ref r,.ref n,.ref s,.ref p,.ref a,.int m.div] (gx m):=
 .cons (.lst (zE.of h1) (uD h2)) (.cons (.lst (zE.of h3) (Xw h4)) (.cons (.lst (zE.of h5) (u6 _)) (.cons (.lst (zE.of h6) (Xw h7)) (.cons (.lst (zE.of h8) (u6 _)) (.cons (.int _) .nil)))))
theorem ZV.same {pl r n s p a:Addr} {rv nv pv:List V} {H H':Hp} {m:MD} (z:zC H H') (h:ZV pl r n s p a rv nv pv H m):ZV pl r n s p a rv nv pv H' m:=
 ⟨z _ _ h.hl,z _ _ h.hr,zf.same z h.hrv,z _ _ h.hn,zU.same z h.hnv,z _ _ h.hs,z _ _ h.hp,zU.same z h.hpv,z _ _ h.ha⟩
theorem Xz {K:PySem.W.Frag} {H:Hp}:∀ {pv:List V} {bs:List (Int × Int)},Paired (vN H) pv bs->wv K H pv (bs.map jU)
 | _,_,.nil=>.nil
 | _,_,.cons ⟨a,e,h⟩ t=>by
  subst e
  exact .cons (.tup (zW.of h) (.cons (.int _) (.cons (.int _) .nil))) (Xz t)
noncomputable def ji (m:MD):PyData:=.list (gx m)
theorem X0 {K:PySem.W.Frag} {H:Hp}:∀ {sv:List V} {ms:List MD},Paired (vo H) sv ms->wv K H sv (ms.map ji)
 | _,_,.nil=>.nil
 | _,_,.cons ⟨pl,r,n,s,p,a,rv,nv,pv,e,P⟩ t=>by
  subst e
  exact .cons (.lst (zE.of P.hl) (zK5 P.hr P.hrv P.hn P.hnv P.hs P.hp P.hpv P.ha)) (X0 t)
theorem JC:∀ ms:List MD,PyData.canLayAll0 (ms.map ji)=true
 | []=>rfl
 | m :: t=>by
  show (PyData.canLay0 (.list (gx m)) && PyData.canLayAll0 (t.map ji))=true
  rw [zMr,JC t]
  rfl
theorem JD:∀ ms:List MD,PyData.depthAll (ms.map ji)<=3
 | []=>Nat.zero_le _
 | m :: t=>by
  show max (PyData.depth (.list (gx m))) (PyData.depthAll (t.map ji))<=3
  have:=JD t
  have:=zM4 m
  omega
theorem zMA (ms:List MD):PyData.depth (.list (ms.map ji))<=60:=by
 show PyData.depthAll (ms.map ji) + 1<=60
 have:=JD ms
 omega
theorem vo.same {H H':Hp} {v:V} {m:MD} (z:zC H H') (h:vo H v m):vo H' v m:=let ⟨pl,r,n,s,p,a,rv,nv,pv,e,P⟩:=h; ⟨pl,r,n,s,p,a,rv,nv,pv,e,P.same z⟩
noncomputable def X1:Sp:=λvs H Q _=>∃ (c:Int) (n p:Nat) (pp:Int),vs=[.int c,.int (n:Int),.int pp]/\pp=(p:Int)/\1<=n/\n<=3/\p<=6/\∀ v m H',zC H H'->vo H' v m->xH m n p->xu m->Q v H'
noncomputable def X2:Sp:=λvs H Q _=>∃ (n:Nat) (pa sa:Addr) (pv sv:List V) (bs:List (Int × Int)) (ms:List MD),vs=[.int (n:Int),.ref pa,.ref sa]/\H pa=some (.lst pv)/\Paired (vN H) pv bs/\H sa=some (.lst sv)/\Paired (vo H) sv ms/\uM n bs ms/\∀ H',zC H H'->Q (.str (jF (xT n bs ms))) H'
theorem xM.sub {n k:Nat} {ns zs:List Int} (h:xM n ns) (hl:zs.length=k) (hz:∀ x∈zs,x∈ns):xM k zs:=⟨hl,λx hx=>h.2 x (hz x hx)⟩
theorem ZW {w:Str} {ns:List Int} {B:Nat} (h:xA (w,ns)) (h0:ns≠[]) (hB:744<=B):(w++yI).length + (sW ns).length<=B:=by
 have:=ZK h
 rw [<- ql w h0,Str.length_append] at this
 omega
theorem uV:744<=sizeLine:=by decide
section
variable {P:Program} {w:World} {K:PySem.W.Frag} {mg:Str->Option Value} {base:Heap}
noncomputable abbrev jI:Stmt:=top 76
theorem gy:zq ["_law_cell","_law_many","_law_wide","_law_xs","_law_numbers","_law_rows_here","_law_nexts","_law_push"] ["_law_cell","_law_many","_law_wide"] (zL jI):=.a
variable {aClaim aSettles aComes aRule ab ae ac af au:Addr} (TClaim:zF K mg "Claim" aClaim) (AClaim:wY K aClaim) (TSettles:zF K mg "Settles" aSettles) (ASettles:wb K aSettles) (TComes:zF K mg "Comes" aComes) (AComes:wf K aComes) (TRule:zF K mg "Rule" aRule) (ARule:wg K aRule) (aj:zF K mg "Straight" ab) (ap:wj K ab) (ak:zF K mg "Stopped" ae) (aq:wk K ae) (ai:zF K mg "Parted" ac) (ao:wm K ac) (ag:zF K mg "Mode" af) (ah:wn K af) (am:zF K mg "Thing" au) (ar:wo K au) (Y:wp K aRule ab ae ac aClaim aSettles aComes)
include TClaim AClaim TSettles ASettles TComes AComes TRule ARule aj ap ak aq ai ao ag ah am ar Y
theorem zI7 {k:Nat} {f:Addr} {fd:FuncData} (F:yC K "_law_parts" "_law_parts" jI f fd) (B:Bl mg) (az:Fn P w K mg base "_law_stream" ["_law_cell","_law_many"] k jR) (ax:Fn P w K mg base "_law_number" ["_law_number_here"] k je):zJ P w K mg base zh (k + 1) f fd ["_law_cell","_law_many","_law_wide"] X1:=by
 refine F.ok gy (λvs H Q E h=>?_) (λcdv A outer s H vs Q E hr h=>?_)
 ·obtain ⟨_,_,_,_,rfl,_⟩:=h
  rfl
 obtain ⟨c,n,p,_,rfl,rfl,n1,n3,p6,q⟩:=h
 refine ⟨_,(zM (yG (i:=3) gy.nd rfl (Or.inl rfl) (zR az hr rfl (zA (L2.pv 0) (zA zH zD))))
  (zM (yG (i:=4) gy.nd rfl (Or.inr rfl) (yu (own:=["_law_number_here"]) (caps:=[]) (xk rfl) rfl (yU (L2.pv 3)) (λ_ _ _ _=>zw (i:=0) (show (["_law_number_here"]:List Str).Nodup by decide +kernel) rfl (Or.inl rfl)) (λ_ _ _ _=>(zR ax hr rfl (zA (L2.pv 0) zD)))))
  (zM (vy (i:=5) gy.nd rfl rfl (own:=["_law_k"]) (caps:=[(1,"_law_many"),(4,"_law_numbers")]) (xr (S:=zL jI) (N:=["_law_cell","_law_many","_law_wide","_law_xs","_law_numbers","_law_rows_here","_law_nexts","_law_push"]) rfl (by decide +kernel) rfl ⟨_,rfl⟩ rfl (by decide +kernel) (by decide +kernel)) rfl (ua rfl B.range_ (zA (zP xm (zZ yJ (L2.pv 3) zH (λ_ _=>rfl)) zH) zD)) (λ_ _ _ _=>zw (i:=0) (show (["_law_k","_law_many","_law_numbers"]:List Str).Nodup by decide +kernel) rfl (Or.inl rfl)) (λ_ _ _ _=>(yz (show ya _ _ (λxs H Q=>∃ p ys,xs=[V.ref p]/\((zE K H p ys/\∀ l,H l=none->Q (V.ref l) (upd H l (HO.tup ys)))\/(zW K H p ys/\Q (V.ref p) H))) from ue) rfl B.tuple_ ww (zA (xW (show uv _ (vH K) from xb) (L2.pv 2) (yh (zP wu zH (L2.pv 0))) (yh (zP yS (zP yS (zP wu zH (L2.pv 0)) (L2.pv 1)) zH))) zD))) rfl)
  (zM (vy (i:=6) gy.nd rfl rfl (own:=["_law_i"]) (caps:=[(1,"_law_many"),(4,"_law_numbers")]) (xr (S:=zL jI) (N:=["_law_cell","_law_many","_law_wide","_law_xs","_law_numbers","_law_rows_here","_law_nexts","_law_push"]) rfl (by decide +kernel) rfl ⟨_,rfl⟩ rfl (by decide +kernel) (by decide +kernel)) rfl (ua rfl B.range_ (zA (L2.pv 1) zD)) (λ_ _ _ _=>zw (i:=0) (show (["_law_i","_law_many","_law_numbers"]:List Str).Nodup by decide +kernel) rfl (Or.inl rfl)) (λ_ _ _ _=>(xW (show uv _ (vH K) from xb) (L2.pv 2) (yh (zP yS zH (zP wu zH (L2.pv 0)))) (yh (zP yS (zP yS zH (zP wu zH (L2.pv 0))) (L2.pv 1))))) rfl)
  (zM (vy (i:=7) gy.nd rfl rfl (own:=["_law_i"]) (caps:=[(2,"_law_wide"),(4,"_law_numbers")]) (xr (S:=zL jI) (N:=["_law_cell","_law_many","_law_wide","_law_xs","_law_numbers","_law_rows_here","_law_nexts","_law_push"]) rfl (by decide +kernel) rfl ⟨_,rfl⟩ rfl (by decide +kernel) (by decide +kernel)) rfl (ua rfl B.range_ (zA (L2.pv 1) zD)) (λ_ _ _ _=>zw (i:=0) (show (["_law_i","_law_wide","_law_numbers"]:List Str).Nodup by decide +kernel) rfl (Or.inl rfl)) (λ_ _ _ _=>(xW (show uv _ (vH K) from xb) (L2.pv 2) (yh (zP yS zH (zP wu zH (L2.pv 0)))) (yh (zP yS (zP yS zH (zP wu zH (L2.pv 0))) (L2.pv 1))))) rfl)
  (zO (zY (ye (zA (L2.pv 5) (zA (L2.pv 6) (zA (xW xb (L2.pv 4) (yh zH) (yh (zP yS zH (L2.pv 1)))) (zA (L2.pv 7) (zA (xW xb (L2.pv 4) (yh zH) (yh (zP yS zH (L2.pv 1)))) (zA (zP yS zH (zP xm (zm WO rfl B.abs_ Wr (zA (zZ yJ (L2.pv 4) zH (λ_ _=>rfl)) zD)) (zP vS (zP jp zH zH) zH))) zD)))))))))))))),?_⟩
 try dsimp only [zQ,Cx.nox,Cx.wish]
 have b4:Bd 4 (4:Int):=Bd.lit
 have b3:Bd 4 (3:Int):=Bd.lit
 have b6:Bd 4 (6:Int):=Bd.lit
 refine ⟨_,rfl,c,60,rfl,(by decide),(by decide),λxa H1 xs s1 f1 e1 lx bx=>?_⟩
 have lx:xs.length=60:=lx
 refine ⟨_,rfl,xa,rfl,⟨_,zE.of e1⟩,yi (K:=K) (a:=xa) (xs:=xs.map V.int) (λi ys σ H'=>(∃ ns,ys=ns.map V.int/\xM i ns)/\(∃ o,σ=[o])/\zC H1 H')
  ⟨⟨[],rfl,xM.nil⟩,⟨none,rfl⟩,zC.refl _⟩ (λi ys σ H' _ ⟨⟨ns,g1,g2⟩,_,sm⟩=>⟨zE.of (sm _ _ e1),by rw [g1,List.length_map,g2.1]; exact Nat.le_refl _⟩) (yT (by rw [List.length_map]; omega)) ?_ ?_⟩
 ·rintro i x ys σ H' hx ⟨⟨ns,rfl,hns⟩,⟨o,rfl⟩,sm⟩
  obtain ⟨z,hz,rfl⟩:=vU hx
  refine ⟨_,rfl,z,rfl,bx z (List.mem_of_getElem? hz),λy H3 s3 ny=>⟨⟨ns++[y],by rw [List.map_append]; rfl,hns.snoc ny⟩,⟨_,rfl⟩,sm.trans s3⟩⟩
 rintro ys σ H2 ⟨⟨ns,rfl,hns⟩,⟨o,rfl⟩,sm⟩ nu hnu
 rw [List.length_map,lx] at hns
 have w2:=zK hnu (HO.lst (ns.map V.int))
 have en:=zG (H:=H2) (a:=nu) (o:=HO.lst (ns.map V.int))
 have y2:=s1.trans (sm.trans w2)
 have e1:=(sm.trans w2) _ _ e1
 generalize upd H2 nu (HO.lst (ns.map V.int))=H3 at w2 en y2 e1 |-
 have a59:xC (xs.map V.int) 59=some (V.int (xs[59]'(by omega))):=xo (j:=59) (by rw [List.getElem?_map,List.getElem?_eq_getElem (by omega)]; rfl)
 obtain ⟨k,hk,k4⟩:=qP (xs[59]'(by omega)) (d:=4) (by decide)
 refine ⟨_,rfl,xa,_,_,_,rfl,rfl,zE.of e1,a59,_,_,rfl,rfl,(show (4:Int)≠0 by decide),_,rfl,(by omega),(by omega),qb (lo:=0) (n:=((xs[59]'(by omega)).fmod 4).toNat) (λi ys σ H'=>(∃ room,zf H' ys room/\room.length=i/\∀ r∈room,xM (n + 1) r)/\(∃ o,σ=[o,some (.int (n:Int)),some (.ref nu)])/\zC H3 H')
  ⟨⟨[],.nil,rfl,λ_ h=>by cases h⟩,⟨none,rfl⟩,zC.refl _⟩ (λi ys σ H' ⟨⟨room,g1,g2,_⟩,_,_⟩=>by rw [Paired.length g1,g2]; exact Nat.le_refl _) (yT (by omega)) ?_ ?_⟩
 ·rintro i ys σ H' hi ⟨⟨room,hys,lr,hr'⟩,⟨o,rfl⟩,sm⟩
  have bi:Bd 4 (0 + (i:Int)):=by show (0 + (i:Int)).natAbs < 2 ^ 4; omega
  obtain ⟨zs,ez,lz,hz⟩:=gr ns (a:=4 * i) (b:=4 * i + n + 1) (i:=4 * (0 + (i:Int))) (j:=4 * (0 + (i:Int)) + (n:Int) + 1) (by omega) (by omega) (by omega) (by rw [hns.1]; omega)
  refine ⟨_,rfl,_,rfl,_,_,rfl,rfl,⟨b4.mono,bi.mono⟩,_,rfl,_,rfl,_,_,rfl,rfl,⟨b4.mono,bi.mono⟩,_,rfl,_,_,rfl,rfl,_,_,rfl,rfl,_,rfl,nu,_,rfl,zE.of (sm _ _ en),λc2 hc2=>?_⟩
  rw [ez]
  refine ⟨c2,_,rfl,.inl ⟨zE.of zG,λtr htr=>?_⟩⟩
  have w5:=(zK hc2 (HO.lst (zs.map V.int))).trans (zK htr (HO.tup (zs.map V.int)))
  refine ⟨⟨room++[zs],Z2 zG (zf.same w5 hys),by rw [List.length_append,lr]; rfl,λr hr2=>?_⟩,⟨_,rfl⟩,sm.trans w5⟩
  rcases List.mem_append.mp hr2 with e | e
  ·exact hr' r e
  ·rw [List.mem_singleton.mp e]; exact hns.sub (by omega) hz
 rintro vr σ H4 ⟨⟨room,hvr,lr,hroom⟩,⟨o,rfl⟩,sm4⟩ l5 h5
 have w5:=zK h5 (HO.lst vr)
 have e5:=zG (H:=H4) (a:=l5) (o:=HO.lst vr)
 have y5:=sm4.trans w5
 have hvr:=zf.same w5 hvr
 have en5:=y5 _ _ en
 generalize upd H4 l5 (HO.lst vr)=H5 at w5 e5 y5 hvr en5 |-
 refine ⟨_,rfl,_,rfl,(by omega),(by omega),qb (lo:=0) (n:=((n:Int)).toNat) (λi ys σ H'=>(∃ tab,zU H' ys tab/\tab.length=i/\∀ r∈tab,xM n r)/\(∃ o,σ=[o,some (.int (n:Int)),some (.ref nu)])/\zC H5 H')
  ⟨⟨[],.nil,rfl,λ_ h=>by cases h⟩,⟨none,rfl⟩,zC.refl _⟩ (λi ys σ H' ⟨⟨tab,g1,g2,_⟩,_,_⟩=>by rw [Paired.length g1,g2]; exact Nat.le_refl _) (yT (by omega)) ?_ ?_⟩
 ·rintro i ys σ H' hi ⟨⟨tab,hys,lt,ht'⟩,⟨o,rfl⟩,sm⟩
  have bi:Bd 4 (0 + (i:Int)):=by show (0 + (i:Int)).natAbs < 2 ^ 4; omega
  obtain ⟨zs,ez,lz,hz⟩:=gr ns (a:=12 + 3 * i) (b:=12 + 3 * i + n) (i:=12 + 3 * (0 + (i:Int))) (j:=12 + 3 * (0 + (i:Int)) + (n:Int)) (by omega) (by omega) (by omega) (by rw [hns.1]; omega)
  refine ⟨_,rfl,_,rfl,_,_,rfl,rfl,⟨b3.mono,bi.mono⟩,_,_,rfl,rfl,_,rfl,_,rfl,_,_,rfl,rfl,⟨b3.mono,bi.mono⟩,_,_,rfl,rfl,_,rfl,_,_,rfl,rfl,_,rfl,nu,_,rfl,zE.of (sm _ _ en5),λc2 hc2=>?_⟩
  rw [ez]
  have w2:=zK hc2 (HO.lst (zs.map V.int))
  refine ⟨⟨tab++[zs],ZS zG (zU.same w2 hys),by rw [List.length_append,lt]; rfl,λr hr2=>?_⟩,⟨_,rfl⟩,sm.trans w2⟩
  rcases List.mem_append.mp hr2 with e | e
  ·exact ht' r e
  ·rw [List.mem_singleton.mp e]; exact hns.sub (by omega) hz
 rintro vn σ H6 ⟨⟨nx,hvn,ln,hnx⟩,⟨o,rfl⟩,sm6⟩ l7 h7
 have w7:=zK h7 (HO.lst vn)
 have e7:=zG (H:=H6) (a:=l7) (o:=HO.lst vn)
 have y7:=sm6.trans w7
 have hvn:=zU.same w7 hvn
 have en7:=y7 _ _ en5
 have e5:=y7 _ _ e5
 have hvr:=zf.same y7 hvr
 generalize upd H6 l7 (HO.lst vn)=H7 at w7 e7 y7 hvn en7 e5 hvr |-
 refine ⟨_,rfl,_,rfl,(by omega),(by omega),qb (lo:=0) (n:=((n:Int)).toNat) (λi ys σ H'=>(∃ tab,zU H' ys tab/\tab.length=i/\∀ r∈tab,xM p r)/\(∃ o,σ=[o,some (.int (p:Int)),some (.ref nu)])/\zC H7 H')
  ⟨⟨[],.nil,rfl,λ_ h=>by cases h⟩,⟨none,rfl⟩,zC.refl _⟩ (λi ys σ H' ⟨⟨tab,g1,g2,_⟩,_,_⟩=>by rw [Paired.length g1,g2]; exact Nat.le_refl _) (yT (by omega)) ?_ ?_⟩
 ·rintro i ys σ H' hi ⟨⟨tab,hys,lt,ht'⟩,⟨o,rfl⟩,sm⟩
  have bi:Bd 4 (0 + (i:Int)):=by show (0 + (i:Int)).natAbs < 2 ^ 4; omega
  obtain ⟨zs,ez,lz,hz⟩:=gr ns (a:=24 + 6 * i) (b:=24 + 6 * i + p) (i:=24 + 6 * (0 + (i:Int))) (j:=24 + 6 * (0 + (i:Int)) + (p:Int)) (by omega) (by omega) (by omega) (by rw [hns.1]; omega)
  refine ⟨_,rfl,_,rfl,_,_,rfl,rfl,⟨b6.mono,bi.mono⟩,_,_,rfl,rfl,_,rfl,_,rfl,_,_,rfl,rfl,⟨b6.mono,bi.mono⟩,_,_,rfl,rfl,_,rfl,_,_,rfl,rfl,_,rfl,nu,_,rfl,zE.of (sm _ _ en7),λc2 hc2=>?_⟩
  rw [ez]
  have w2:=zK hc2 (HO.lst (zs.map V.int))
  refine ⟨⟨tab++[zs],ZS zG (zU.same w2 hys),by rw [List.length_append,lt]; rfl,λr hr2=>?_⟩,⟨_,rfl⟩,sm.trans w2⟩
  rcases List.mem_append.mp hr2 with e | e
  ·exact ht' r e
  ·rw [List.mem_singleton.mp e]; exact hns.sub (by omega) hz
 rintro vp σ H8 ⟨⟨pu,hvp,lp,hpu⟩,⟨o,rfl⟩,sm8⟩ l9 h9
 have w9:=zK h9 (HO.lst vp)
 have e9:=zG (H:=H8) (a:=l9) (o:=HO.lst vp)
 have y9:=sm8.trans w9
 have hvp:=zU.same w9 hvp
 have en9:=y9 _ _ en7
 have e5:=y9 _ _ e5
 have hvr:=zf.same y9 hvr
 have e7:=y9 _ _ e7
 have hvn:=zU.same y9 hvn
 have yy:=y2.trans (y5.trans (y7.trans y9))
 generalize upd H8 l9 (HO.lst vp)=H9 at w9 e9 y9 hvp en9 e5 hvr e7 hvn yy |-
 obtain ⟨st,es,ls,hst⟩:=gr ns (a:=21) (b:=21 + n) (i:=21) (j:=21 + (n:Int)) rfl (by omega) (by omega) (by rw [hns.1]; omega)
 obtain ⟨ad,ea,lA,had⟩:=gr ns (a:=42) (b:=42 + n) (i:=42) (j:=42 + (n:Int)) rfl (by omega) (by omega) (by rw [hns.1]; omega)
 obtain ⟨y,hy,ny⟩:=hns.at (i:=58) (by decide)
 have a58:xC (ns.map V.int) 58=some (V.int y):=xo (j:=58) (by rw [List.getElem?_map,hy]; rfl)
 refine ⟨_,rfl,_,rfl,_,rfl,_,rfl,_,rfl,_,_,rfl,rfl,_,rfl,nu,_,rfl,zE.of en9,λsa hsa=>?_⟩
 rw [es]
 have x1:=zK hsa (HO.lst (st.map V.int))
 refine ⟨_,rfl,_,rfl,_,rfl,_,rfl,_,_,rfl,rfl,_,rfl,nu,_,rfl,zE.of (x1 _ _ en9),λaa haa=>?_⟩
 rw [ea]
 have x2:=zK haa (HO.lst (ad.map V.int))
 have x12:=x1.trans x2
 refine ⟨_,rfl,nu,_,_,_,rfl,rfl,zE.of (x12 _ _ en9),a58,_,rfl,_,_,rfl,rfl,⟨by decide,by decide,by decide⟩,_,_,rfl,rfl,_,_,rfl,rfl,(show (10:Int) ^ (60:Int).toNat - 1≠0 by decide),_,_,rfl,rfl,(by show 6<=sizeLine; decide),λpl hpl=>?_⟩
 obtain ⟨dv,hdv⟩:∃ dv:Int,dv=1 + (if y < 0 then -y else y).fmod (10 ^ (60:Int).toNat - 1):=⟨_,rfl⟩
 show Q (V.ref pl) (upd (upd (upd H9 sa (HO.lst (st.map V.int))) aa (HO.lst (ad.map V.int))) pl (HO.lst [V.ref l5,V.ref l7,V.ref sa,V.ref l9,V.ref aa,V.int (1 + (if y < 0 then -y else y).fmod (10 ^ (60:Int).toNat - 1))]))
 rw [<- hdv]
 have d0:=Int.fmod_nonneg_of_pos (if y < 0 then -y else y) (show (0:Int) < 10 ^ (60:Int).toNat - 1 by decide)
 have d1:=Int.fmod_lt_of_pos (if y < 0 then -y else y) (show (0:Int) < 10 ^ (60:Int).toNat - 1 by decide)
 have x3:=zK hpl (HO.lst [V.ref l5,V.ref l7,V.ref sa,V.ref l9,V.ref aa,V.int dv])
 have z:=x12.trans x3
 have hs':=hns.sub (k:=n) (by omega) hst
 have ha':=hns.sub (k:=n) (by omega) had
 refine q (.ref pl) ⟨room,nx,st,pu,ad,dv⟩ _ (yy.trans z) ⟨pl,l5,l7,sa,l9,aa,vr,vn,vp,rfl,?_,z _ _ e5,zf.same z hvr,z _ _ e7,zU.same z hvn,(x2.trans x3) _ _ zG,z _ _ e9,zU.same z hvp,x3 _ _ zG⟩ ?_ ?_
 ·exact zG
 ·exact ⟨λr h=>(hroom r h).1,by show room.length<=900; omega,⟨by show nx.length=n; omega,λr h=>(hnx r h).1⟩,hs'.1,⟨by show pu.length=n; omega,λr h=>(hpu r h).1⟩,ha'.1,by show 1<=dv; omega,n3,by omega⟩
 ·refine ⟨by show room.length<=3; omega,λr h=>(hroom r h).2,λr h=>(hnx r h).2,hs'.2,λr h=>(hpu r h).2,ha'.2,?_⟩
  have d2:dv < 10 ^ 60:=by rw [hdv]; exact Int.lt_of_lt_of_le (Int.add_lt_add_left d1 1) (by decide)
  have d3:0<=dv:=by omega
  show dv.natAbs < 10 ^ 60
  clear hdv d0 d1
  omega
end
theorem JE:Str.ofString "numbers " = yk++yI:=by decide +kernel
theorem JF:Str.ofString "push " = qI++yI:=by decide +kernel
theorem JG:Str.ofString "mode " = xE++yI:=by decide +kernel
theorem JH:Str.ofString "row " = yr++yI:=by decide +kernel
theorem JI:Str.ofString "next " = vB++yI:=by decide +kernel
theorem X3 (ns:List Int):Str.join yI ((ns.map V.int).map tx)=sW ns:=by rw [ul]; rfl
theorem YH (a:List Ln) (l:Ln):zV a++[V.str (xh l)]=zV (a++[l]):=(gN a [l]).symm
theorem JJ (w:Str) (i:Int):w++yI++sN i=xh (w,[i]):=ql w (ns:=[i]) (by nofun)
theorem zLu (m:MD) (i:Nat):(xL m i).map V.int=(m.nexts.getD i []).map V.int++[V.int (m.steer.getD i 0)]++(m.push.getD i []).map V.int++[V.int (m.add.getD i 0)]:=by
 unfold xL
 rw [List.map_append,List.map_append,List.map_append]
 rfl
theorem JK {l:List Int} {i:Nat} (h:i < l.length):xC (l.map V.int) (i:Int)=some (V.int (l.getD i 0)):=xo (by rw [List.getElem?_map,List.getElem?_eq_getElem h,List.getD_eq_getElem?_getD,List.getElem?_eq_getElem h]; rfl)
theorem JL {H:Hp} {vs:List V} {tab:List (List Int)} {i:Nat} (h:zU H vs tab) (hi:i < tab.length):∃ t,xC vs (i:Int)=some (.ref t)/\H t=some (.lst ((tab.getD i []).map V.int)):=by
 have hl:vs.length=tab.length:=Paired.length h
 have hx:vs[i]? = some (vs[i]'(by omega)):=List.getElem?_eq_getElem (by omega)
 obtain ⟨r,hr,t,e,ht⟩:=yp h hx
 rw [e] at hx
 exact ⟨t,xo hx,by rw [Xd hr]; exact ht⟩
section
variable {P:Program} {w:World} {K:PySem.W.Frag} {mg:Str->Option Value} {base:Heap}
noncomputable abbrev gz:Stmt:=top 77
theorem uW:zq ["_law_many","_law_pushes","_law_some","_law_lines","_law_rows_here","_law_nexts","_law_steer","_law_push","_law_add","_law_divisor","_law_i","_law_numbers"] ["_law_many","_law_pushes","_law_some"] (zL gz):=.a
variable {aClaim aSettles aComes aRule ab ae ac af au:Addr} (TClaim:zF K mg "Claim" aClaim) (AClaim:wY K aClaim) (TSettles:zF K mg "Settles" aSettles) (ASettles:wb K aSettles) (TComes:zF K mg "Comes" aComes) (AComes:wf K aComes) (TRule:zF K mg "Rule" aRule) (ARule:wg K aRule) (aj:zF K mg "Straight" ab) (ap:wj K ab) (ak:zF K mg "Stopped" ae) (aq:wk K ae) (ai:zF K mg "Parted" ac) (ao:wm K ac) (ag:zF K mg "Mode" af) (ah:wn K af) (am:zF K mg "Thing" au) (ar:wo K au) (Y:wp K aRule ab ae ac aClaim aSettles aComes)
include TClaim AClaim TSettles ASettles TComes AComes TRule ARule aj ap ak aq ai ao ag ah am ar Y
theorem zFp {k:Nat} {f:Addr} {fd:FuncData} (F:yC K "_law_thing_text" "_law_thing_text" gz f fd) (B:Bl mg) (aB:Fn P w K mg base "_law_words" ["_law_numbers"] k (v5 K)):zJ P w K mg base zh (k + 1) f fd ["_law_many","_law_pushes","_law_some"] X2:=by
 refine F.ok uW (λvs H Q E h=>?_) (λcdv A outer s H vs Q E hr h=>?_)
 ·obtain ⟨_,_,_,_,_,_,_,rfl,_⟩:=h
  rfl
 obtain ⟨n,pa,sa,pv,sv,bs,ms,rfl,hpa,hpv,hsa,hsv,TN,q⟩:=h
 refine ⟨_,(zM (yG (i:=3) uW.nd rfl (Or.inl rfl) (zP vI (ye (zA (zP wO zu (yz jY rfl B.str_ ux (zA (L2.pv 0) zD))) zD)) (yu (own:=["_law_one"]) (caps:=[]) (xk rfl) rfl (yU (L2.pv 1)) (λ_ _ _ _=>zw (i:=0) (show (["_law_one"]:List Str).Nodup by decide +kernel) rfl (Or.inl rfl)) (λ_ _ _ _=>(zP wO zu (zR aB hr rfl (zA (L2.pv 0) zD)))))))
  (zM (vt PassesOwn.never rfl (yU (L2.pv 2)) (Ql rfl (jK (zw (i:=4) uW.nd rfl (Or.inl rfl)) (jK (zw (i:=5) uW.nd rfl (Or.inl rfl)) (jK (zw (i:=6) uW.nd rfl (Or.inl rfl)) (jK (zw (i:=7) uW.nd rfl (Or.inl rfl)) (jK (zw (i:=8) uW.nd rfl (Or.inl rfl)) (jK (zw (i:=9) uW.nd rfl (Or.inl rfl)) WF))))))) (zM (vq (xD PySem.F.plainAttrs_list PySem.F.slot_list_append PySem.F.type_list_append v8 (L2.pv 3) (zA (zP wO zu (yz jY rfl B.str_ ux (zA (L2.pv 9) zD))) zD)))
   (zM (yG (i:=3) uW.nd rfl (Or.inl rfl) (zP vI (L2.pv 3) (yu (own:=["_law_row"]) (caps:=[]) (xk rfl) rfl (yU (L2.pv 4)) (λ_ _ _ _=>zw (i:=0) (show (["_law_row"]:List Str).Nodup by decide +kernel) rfl (Or.inl rfl)) (λ_ _ _ _=>(zP wO zu (zR aB hr rfl (zA (L2.pv 0) zD)))))))
   (zO (vt PassesOwn.never rfl (ua rfl B.range_ (zA (L2.pv 0) zD)) (zw (i:=10) uW.nd rfl (Or.inl rfl)) (zM (yG (i:=11) uW.nd rfl (Or.inl rfl) (zP vI (zP vI (zP vI (zZ yJ (L2.pv 5) (L2.pv 10) (λ_ _=>rfl)) (ye (zA (zZ yJ (L2.pv 6) (L2.pv 10) (λ_ _=>rfl)) zD))) (zZ yJ (L2.pv 7) (L2.pv 10) (λ_ _=>rfl))) (ye (zA (zZ yJ (L2.pv 8) (L2.pv 10) (λ_ _=>rfl)) zD))))
    (zO (vq (xD PySem.F.plainAttrs_list PySem.F.slot_list_append PySem.F.type_list_append v8 (L2.pv 3) (zA (zP wO zu (zR aB hr rfl (zA (L2.pv 11) zD))) zD))))))))))
  (zO (zY (xD PySem.F.plainAttrs_str PySem.F.slot_str_join PySem.F.type_str_join uj zu (zA (L2.pv 3) zD)))))),?_⟩
 try dsimp only [zQ,Cx.nox,Cx.wish]
 obtain ⟨lok,l100⟩:=Xa TN
 have n3:=TN.ok.n3
 have b6:=TN.ok.b6
 have m4:=TN.m4
 have lb:pv.length=bs.length:=Paired.length hpv
 have lm:sv.length=ms.length:=Paired.length hsv
 have nn:=Z6 n3
 refine ⟨_,rfl,.inl ⟨_,rfl,nn,_,_,rfl,rfl,?_,(by show 1<=sizeLine; decide),λl0 h0=>?_⟩⟩
 ·rw [JE]; exact ZW (ns:=[(n:Int)]) (gM (by decide +kernel) nn) (by nofun) uV
 rw [JE,JJ]
 have w0:=zK h0 (HO.lst [V.str (xh (yk,[(n:Int)]))])
 have e0:_=some (HO.lst (zV [(yk,[(n:Int)])])):=zG (H:=H) (a:=l0) (o:=HO.lst [V.str (xh (yk,[(n:Int)]))])
 have hpa1:=w0 _ _ hpa
 generalize upd H l0 (HO.lst [V.str (xh (yk,[(n:Int)]))])=H1 at w0 e0 hpa1 |-
 refine ⟨_,rfl,pa,rfl,⟨_,zE.of hpa1⟩,yi (K:=K) (a:=pa) (xs:=pv) (λi ys σ H'=>ys=zV (xF (bs.take i))/\(∃ o,σ=[o])/\zC H1 H')
  ⟨rfl,⟨none,rfl⟩,zC.refl _⟩ (λi ys σ H' _ ⟨g1,_,sm⟩=>⟨zE.of (sm _ _ hpa1),by rw [g1,vm]; unfold xF; rw [List.length_map,List.length_take]; omega⟩) (yT (by omega)) ?_ ?_⟩
 ·rintro i x ys σ H' hx ⟨rfl,⟨o,rfl⟩,sm⟩
  obtain ⟨b,hb',t,rfl,ht⟩:=yp hpv hx
  have bm:=TN.push b (List.mem_of_getElem? hb')
  have nb:∀ x∈[b.1,b.2],Nm x:=λx hx=>by
   rcases List.mem_cons.mp hx with e | e
   ·rw [e]; exact bm.1
   ·rw [List.mem_singleton.mp e]; exact bm.2
  refine ⟨_,rfl,t,[b.1,b.2].map V.int,rfl,.inl (zW.of ((w0.trans sm) _ _ ht)),(by show 2<=12; decide),uK nb,λH3 s3=>?_⟩
  rw [X3]
  refine ⟨_,_,rfl,rfl,?_,?_,⟨_,rfl⟩,sm.trans s3⟩
  ·rw [JF]; exact ZW (qJ (by decide +kernel) (by show 1<=2; decide) (by show 2<=11; decide) nb) (by nofun) uV
  ·show zV (xF (bs.take i))++[V.str (Str.ofString "push "++sW [b.1,b.2])]=_
   rw [JF,ql qI (by nofun),YH]
   unfold xF
   rw [xY hb',List.map_append]
   rfl
 rintro ys σ H2 ⟨rfl,⟨o,rfl⟩,sm2⟩ lc hlc
 rw [lb,List.take_length]
 have wc:=zK hlc (HO.lst (zV (xF bs)))
 have yc:=sm2.trans wc
 refine ⟨l0,lc,_,_,rfl,rfl,yc _ _ e0,zG,yT (by rw [vm,vm]; unfold xF; rw [List.length_map]; show 1 + bs.length<=900; omega),λL hL=>?_⟩
 have yL:=w0.trans (yc.trans (zK hL (HO.lst (zV [(yk,[(n:Int)])]++zV (xF bs)))))
 have eL:=zG (H:=upd H2 lc (HO.lst (zV (xF bs)))) (a:=L) (o:=HO.lst (zV [(yk,[(n:Int)])]++zV (xF bs)))
 have fL:H L=none:=(w0.trans yc).free hL
 generalize upd (upd H2 lc (HO.lst (zV (xF bs)))) L (HO.lst (zV [(yk,[(n:Int)])]++zV (xF bs)))=H4 at yL eL |-
 have lt:=l100
 unfold xT at lt
 rw [List.length_cons,List.length_append] at lt
 refine ⟨_,rfl,sa,rfl,⟨_,zE.of (yL _ _ hsa)⟩,qX (K:=K) (a:=sa) (xs:=sv) (λi σ H'=>∃ (L:Addr) (o4 o5 o6 o7 o8 o9 o10 o11:Option V),σ=[some (.int (n:Int)),some (.ref pa),some (.ref sa),some (.ref L),o4,o5,o6,o7,o8,o9,o10,o11]/\zC H H'/\H L=none/\H' L=some (.lst (zV ((yk,[(n:Int)]) :: (xF bs++((ms.take i).map xS).flatten)))))
  ⟨L,_,_,_,_,_,_,_,_,rfl,yL,fL,by rw [show ((ms.take 0).map xS).flatten=[] from rfl,List.append_nil]; exact eL⟩ (λi σ H' _ ⟨_,_,_,_,_,_,_,_,_,_,sm,_⟩=>zE.of (sm _ _ hsa)) ?_ ?_⟩
 ·rintro i x σ H' hx ⟨L,o4,o5,o6,o7,o8,o9,o10,o11,rfl,sm,fL,hL⟩
  obtain ⟨m,hm',hv⟩:=yp hsv hx
  have mm:=List.mem_of_getElem? hm'
  have MO:=TN.ok.mok m mm
  have NM:=TN.mode m mm
  have few:=NM.few
  have nx:=MO.nexts.1
  have ml7:=ZM MO NM
  have fl:=Z5 (f:=xS) (B:=7) (l:=ms.take i) λm hm=>ZM (TN.ok.mok m (List.mem_of_mem_take hm)) (TN.mode m (List.mem_of_mem_take hm))
  rw [List.length_take] at fl
  obtain ⟨pl,r,nn',st,pp,ad,rv,nv,qv,rfl,P⟩:=hv.same sm
  obtain ⟨pre,hpre⟩:∃ pre,pre=(yk,[(n:Int)]) :: (xF bs++((ms.take i).map xS).flatten):=⟨_,rfl⟩
  have lpre:pre.length<=40:=by rw [hpre]; unfold xF; rw [List.length_cons,List.length_append,List.length_map]; omega
  rw [<- hpre] at hL
  refine ⟨pl,_,rfl,zE.of P.hl,rfl,_,_,rfl,_,_,rfl,_,_,rfl,_,_,rfl,_,_,rfl,_,_,rfl,rfl,?_⟩
  refine ⟨_,rfl,.inl ⟨rfl,_,zE.of hL⟩,_,rfl,.inl ⟨_,rfl,NM.div,_,_,rfl,rfl,?_,L,_,_,rfl,rfl,hL,yn (by rw [vm]; omega),?_⟩⟩
  ·rw [JG]; exact ZW (ns:=[m.div]) (gM (by decide +kernel) NM.div) (by nofun) uV
  rw [JG,JJ,YH]
  have eL:=zG (H:=H') (a:=L) (o:=HO.lst (zV (pre++[(xE,[m.div])])))
  have yL:=uC (o:=HO.lst (zV (pre++[(xE,[m.div])]))) sm fL
  have P':ZV pl r nn' st pp ad rv nv qv (upd H' L (HO.lst (zV (pre++[(xE,[m.div])])))) m:=by
   obtain ⟨pl2,r2,n2,s2,p2,a2,rv2,nv2,pv2,e2,P2⟩:=hv
   cases e2
   have z:=P2.same yL
   have h1:=P.hl
   rw [sm _ _ P2.hl] at h1
   cases h1
   have h2:=P.hr; rw [sm _ _ P2.hr] at h2; cases h2
   have h3:=P.hn; rw [sm _ _ P2.hn] at h3; cases h3
   have h4:=P.hp; rw [sm _ _ P2.hp] at h4; cases h4
   exact z
  clear P
  generalize upd H' L (HO.lst (zV (pre++[(xE,[m.div])])))=HA at eL yL P' |-
  have lr:rv.length=m.rows.length:=Paired.length P'.hrv
  refine ⟨_,rfl,_,rfl,r,rfl,⟨_,zE.of P'.hr⟩,yi (K:=K) (a:=r) (xs:=rv) (λi ys σ H'=>ys=zV ((m.rows.take i).map λr=>(yr,r))/\(∃ o,σ=[o])/\zC HA H')
   ⟨rfl,⟨none,rfl⟩,zC.refl _⟩ (λi ys σ H' _ ⟨g1,_,sm⟩=>⟨zE.of (sm _ _ P'.hr),by rw [g1,vm,List.length_map,List.length_take]; omega⟩) (yT (by omega)) ?_ ?_⟩
  ·rintro j x ys σ H' hx ⟨rfl,⟨o,rfl⟩,sm⟩
   obtain ⟨r1,hr',t,rfl,ht⟩:=yp P'.hrv hx
   have rm:=List.mem_of_getElem? hr'
   have rl:=MO.rows r1 rm
   have rn:r1≠[]:=by intro z; rw [z] at rl; cases rl
   refine ⟨_,rfl,t,r1.map V.int,rfl,.inl (zW.of (sm _ _ ht)),(by rw [List.length_map]; omega),uK (NM.rows r1 rm),λH3 s3=>?_⟩
   rw [X3]
   refine ⟨_,_,rfl,rfl,?_,?_,⟨_,rfl⟩,sm.trans s3⟩
   ·rw [JH]; exact ZW (qJ (by decide +kernel) (by omega) (by omega) (NM.rows r1 rm)) rn uV
   ·show zV ((m.rows.take j).map λr=>(yr,r))++[V.str (Str.ofString "row "++sW r1)]=_
    rw [JH,ql yr rn,YH,xY hr',List.map_append]
    rfl
  rintro ys σ HB ⟨rfl,⟨o,rfl⟩,smB⟩ lc hlc
  rw [lr,List.take_length,show (m.rows.map λr=>((yr,r):Ln))=yQ m from rfl]
  have wc:=smB.trans (zK hlc (HO.lst (zV (yQ m))))
  refine ⟨L,lc,_,_,rfl,rfl,wc _ _ eL,zG,yT (by rw [vm,vm,List.length_append,show (yQ m).length=m.rows.length from List.length_map ..]; show pre.length + 1 + m.rows.length<=900; omega),λL2 hL2=>?_⟩
  have w2:=wc.trans (zK hL2 (HO.lst (zV (pre++[(xE,[m.div])])++zV (yQ m))))
  have e2:=zG (H:=upd HB lc (HO.lst (zV (yQ m)))) (a:=L2) (o:=HO.lst (zV (pre++[(xE,[m.div])])++zV (yQ m)))
  have f2A:HA L2=none:=wc.free hL2
  have f2:H L2=none:=yL.free f2A
  have y2:=yL.trans w2
  have P2:=P'.same w2
  generalize upd (upd HB lc (HO.lst (zV (yQ m)))) L2 (HO.lst (zV (pre++[(xE,[m.div])])++zV (yQ m)))=HC at w2 e2 y2 P2 |-
  rw [<- gN] at e2
  refine ⟨_,rfl,_,rfl,(by omega),(by omega),ZZ (lo:=0) (n:=((n:Int)).toNat) (λj σ H'=>∃ o10 o11:Option V,σ=[some (.int (n:Int)),some (.ref pa),some (.ref sa),some (.ref L2),some (.ref r),some (.ref nn'),some (.ref st),some (.ref pp),some (.ref ad),some (.int m.div),o10,o11]/\zC HA H'/\H' L2=some (.lst (zV (pre++[(xE,[m.div])]++yQ m++yg m j))))
   ⟨_,_,rfl,w2,by rw [show yg m 0=[] from rfl,List.append_nil]; exact e2⟩ ?_ ?_⟩
  ·rintro j σ H' hj ⟨o10,o11,rfl,smA,hL2⟩
   have jn:j < n:=by omega
   have P:=P'.same smA
   obtain ⟨t1,a1,ht1⟩:=JL P.hnv (i:=j) (by omega)
   obtain ⟨t3,a3,ht3⟩:=JL P.hpv (i:=j) (by rw [MO.push.1]; exact jn)
   have a2:=JK (l:=m.steer) (i:=j) (by rw [MO.steer]; exact jn)
   have a4:=JK (l:=m.add) (i:=j) (by rw [MO.add]; exact jn)
   have zj:(0:Int) + (j:Int)=(j:Int):=Int.zero_add _
   obtain ⟨sl,sn⟩:=Z4 MO NM jn
   have l1':(m.nexts.getD j []).length=n:=MO.nexts.2 _ (vb (by rw [nx]; exact jn))
   have l3':(m.push.getD j []).length=bs.length:=MO.push.2 _ (vb (by rw [MO.push.1]; exact jn))
   rw [zj]
   refine ⟨_,rfl,_,rfl,nn',_,_,_,rfl,rfl,zE.of P.hn,a1,_,rfl,_,rfl,st,_,_,_,rfl,rfl,zE.of P.hs,a2,(by show 1<=sizeLine; decide),λb3 hb3=>?_⟩
   have x3:=zK hb3 (HO.lst [V.int (m.steer.getD j 0)])
   refine ⟨t1,b3,_,_,rfl,rfl,x3 _ _ ht1,zG,yT (by rw [List.length_map,l1']; show n + 1<=900; omega),λb4 hb4=>?_⟩
   have x4:=x3.trans (zK hb4 (HO.lst ((m.nexts.getD j []).map V.int++[V.int (m.steer.getD j 0)])))
   refine ⟨_,rfl,_,rfl,pp,_,_,_,rfl,rfl,zE.of (x4 _ _ P.hp),a3,b4,t3,_,_,rfl,rfl,zG,x4 _ _ ht3,yT (by rw [List.length_append,List.length_map,List.length_map,l1',l3']; show n + 1 + bs.length<=900; omega),λb5 hb5=>?_⟩
   have x5:=x4.trans (zK hb5 (HO.lst ((m.nexts.getD j []).map V.int++[V.int (m.steer.getD j 0)]++(m.push.getD j []).map V.int)))
   refine ⟨_,rfl,_,rfl,ad,_,_,_,rfl,rfl,zE.of (x5 _ _ P.ha),a4,(by show 1<=sizeLine; decide),λb6 hb6=>?_⟩
   have x6:=zK hb6 (HO.lst [V.int (m.add.getD j 0)])
   refine ⟨b5,b6,_,_,rfl,rfl,x6 _ _ zG,zG,yT (by rw [List.length_append,List.length_append,List.length_map,List.length_map,l1',l3']; show n + 1 + bs.length + 1<=900; omega),λb7 hb7=>?_⟩
   rw [<- zLu]
   have x7:=x5.trans (x6.trans (zK hb7 (HO.lst ((xL m j).map V.int))))
   refine ⟨_,rfl,.inl ⟨rfl,_,zE.of (x7 _ _ hL2)⟩,_,rfl,b7,(xL m j).map V.int,rfl,.inr (zE.of zG),(by rw [List.length_map,sl]; omega),uK sn,λH3 s3=>?_⟩
   rw [X3]
   have x8:=x7.trans s3
   have nne:xL m j≠[]:=by intro z; rw [z] at sl; cases sl
   refine ⟨_,_,rfl,rfl,?_,L2,_,_,rfl,rfl,x8 _ _ hL2,yn ?_,_,_,rfl,uC (smA.trans x8) f2A,zG.trans ?_⟩
   ·rw [JI]; exact ZW (qJ (by decide +kernel) (by omega) (by omega) sn) nne uV
   ·unfold yQ yg
    rw [vm,List.length_append,List.length_append,List.length_append,List.length_map,List.length_map,List.length_range]
    show pre.length + 1 + m.rows.length + j<=1000
    omega
   ·show some (HO.lst (_++[V.str (Str.ofString "next "++sW (xL m j))]))=_
    rw [JI,ql vB nne,YH]
    unfold yg
    rw [qK,List.append_assoc _ ((List.range j).map _)]
  rintro σ H' ⟨o10,o11,rfl,smA,hL2⟩
  refine ⟨L2,_,_,_,_,_,_,_,_,rfl,yL.trans smA,f2,hL2.trans ?_⟩
  rw [xY hm',List.map_append,List.flatten_append,hpre]
  refine congrArg (λz=>some (HO.lst (zV z))) ?_
  show _=(yk,[(n:Int)]) :: (xF bs++(((ms.take i).map xS).flatten++(xS m++[])))
  unfold xS
  rw [List.append_nil,nx,show ((n:Int)).toNat=n from rfl,<- List.append_assoc (xF bs),List.append_assoc _ _ (yg m n),List.append_assoc _ _ (yQ m++yg m n)]
  rfl
 rintro σ H' ⟨L,o4,o5,o6,o7,o8,o9,o10,o11,rfl,sm,fL,hL⟩
 rw [lm,List.take_length] at hL
 have hL:H' L=some (.lst (zV (xT n bs ms))):=hL
 rw [Um] at hL
 refine ⟨rfl,_,rfl,_,L,(xT n bs ms).map xh,rfl,rfl,zE.of hL,jW (B:=744) (λy hy=>?_) ?_,q H' sm⟩
 ·obtain ⟨l,hl,rfl⟩:=List.mem_map.mp hy
  exact ZK (lok l hl)
 ·rw [List.length_map,show (Str.ofString "\n").length=1 by decide +kernel]
  have:=Nat.mul_le_mul l100 (Nat.le_refl (744 + 1))
  omega
end
theorem jj {H H':Hp} {pv:List V} {bs:List (Int × Int)} (s:zC H H') (h:Paired (vN H) pv bs):Paired (vN H') pv bs:=Paired.mapP h λ_ _ z=>z.same s
theorem YI {C:Addr} {H H':Hp} {mv:List V} {ms:List MD} (s:zC H H') (h:Paired (vA C H) mv ms):Paired (vA C H') mv ms:=Paired.mapP h λ_ _ z=>z.same s
theorem g5 {H H':Hp} {mv:List V} {ms:List MD} (s:zC H H') (h:Paired (vo H) mv ms):Paired (vo H') mv ms:=Paired.mapP h λ_ _ z=>vo.same s z
section
variable {P:Program} {w:World} {K:PySem.W.Frag} {mg:Str->Option Value} {base:Heap}
noncomputable abbrev qR:Stmt:=top 78
theorem uX:zq ["_law_script","_law_many","_law_cell","_law_wide","_law_pushes","_law_k","_law_ends","_law_some","_law_thing","_law_text","_law_found","_law_told"] ["_law_script","_law_many"] (zL qR):=.a
variable {aClaim aSettles aComes aRule ab ae ac af au:Addr} (TClaim:zF K mg "Claim" aClaim) (AClaim:wY K aClaim) (TSettles:zF K mg "Settles" aSettles) (ASettles:wb K aSettles) (TComes:zF K mg "Comes" aComes) (AComes:wf K aComes) (TRule:zF K mg "Rule" aRule) (ARule:wg K aRule) (aj:zF K mg "Straight" ab) (ap:wj K ab) (ak:zF K mg "Stopped" ae) (aq:wk K ae) (ai:zF K mg "Parted" ac) (ao:wm K ac) (ag:zF K mg "Mode" af) (ah:wn K af) (am:zF K mg "Thing" au) (ar:wo K au) (Y:wp K aRule ab ae ac aClaim aSettles aComes)
include TClaim AClaim TSettles ASettles TComes AComes TRule ARule aj ap ak aq ai ao ag ah am ar Y
theorem zH0 {k:Nat} {f:Addr} {fd:FuncData} (F:yC K "_law_things" "_law_things" qR f fd) (B:Bl mg) (aA:Fn P w K mg base "_law_cell_at" ["_law_script","_law_k"] (k + 1) (jy K)) (az:Fn P w K mg base "_law_stream" ["_law_cell","_law_many"] (k + 1) jR) (ax:Fn P w K mg base "_law_number" ["_law_number_here"] (k + 1) je) (dt:Fn P w K mg base "_law_parts" ["_law_cell","_law_many","_law_wide"] (k + 1) X1) (aZ:xz P w K mg base au ["self","many","pushes","modes"] k (kn au af)) (aY:xz P w K mg base af ["self","rows","nexts","steer","push","add","divisor"] k (kl af)) (du:Fn P w K mg base "_law_thing_text" ["_law_many","_law_pushes","_law_some"] (k + 1) X2) (dc:Fn P w K mg base "show_thing" ["thing"] (k + 1) (Xc au af)) (dw:Fn P w K mg base "read_thing" ["text"] (k + 1) (Xq au af)) (aR:ug P w K mg base au "pushes" ["self"] (k + 1) (ko au af)) (aS:ug P w K mg base au "modes" ["self"] (k + 1) (kq au af)):zJ P w K mg base zh (k + 1 + 1) f fd ["_law_script","_law_many"] (gu K):=by
 refine F.ok uX (λvs H Q E h=>?_) (λcdv A outer s H vs Q E hr h=>?_)
 ·obtain ⟨_,_,_,rfl,_⟩:=h
  rfl
 obtain ⟨a,ns,n,rfl,ha,n1,n3,q⟩:=h
 have hrm:=hr
 refine ⟨_,(zM (yG (i:=2) uX.nd rfl (Or.inl rfl) (zR aA hr rfl (zA (L2.pv 0) (zA zH zD))))
  (zM (yG (i:=3) uX.nd rfl (Or.inr rfl) (zP xm (L2.pv 2) zH))
  (zM (yG (i:=4) uX.nd rfl (Or.inl rfl) (ye zD))
  (zM (vt PassesOwn.never rfl (ua rfl B.range_ (zA (L2.pv 3) zD)) (zw (i:=5) uX.nd rfl (Or.inl rfl)) (zM (vy (i:=6) uX.nd rfl rfl (own:=["_law_number_here"]) (caps:=[]) (xk rfl) rfl (yU (zR az hr rfl (zA (zP yS (zP uA (L2.pv 2) zH) (L2.pv 5)) (zA zH zD)))) (λ_ _ _ _=>zw (i:=0) (show (["_law_number_here"]:List Str).Nodup by decide +kernel) rfl (Or.inl rfl)) (λ_ _ _ _=>(zR ax hr rfl (zA (L2.pv 0) zD))) rfl)
   (zO (vq (xD PySem.F.plainAttrs_list PySem.F.slot_list_append PySem.F.type_list_append v8 (L2.pv 4) (zA (vv (zA (zm (KM rfl) rfl B.min_ Qg (zA (L2.pv 6) zD)) (zA (zm (KN rfl) rfl B.max_ Ww (zA (L2.pv 6) zD)) zD))) zD))))))
  (zM (vy (i:=7) uX.nd rfl rfl (own:=["_law_k"]) (caps:=[(0,"_law_script"),(1,"_law_many"),(3,"_law_wide")]) (xr (S:=zL qR) (N:=["_law_script","_law_many","_law_cell","_law_wide","_law_pushes","_law_k","_law_ends","_law_some","_law_thing","_law_text","_law_found","_law_told"]) rfl (by decide +kernel) rfl ⟨_,rfl⟩ rfl (by decide +kernel) (by decide +kernel)) rfl (ua rfl B.range_ (zA (zP yS zH (zP xm (zP uA (L2.pv 2) zH) zH)) zD)) (λ_ _ _ _=>zw (i:=0) (show (["_law_k","_law_script","_law_many","_law_wide"]:List Str).Nodup by decide +kernel) rfl (Or.inl rfl)) (λ_ _ _ _=>(zR dt hr rfl (zA (zP yS (zR aA hr rfl (zA (L2.pv 1) (zA (zP yS zH (L2.pv 0)) zD))) (zP wu zH (L2.pv 0))) (zA (L2.pv 2) (zA (L2.pv 3) zD))))) rfl)
  (zM (yG (i:=8) uX.nd rfl (Or.inl rfl) (vV aZ am hr rfl (zA (L2.pv 1) (zA (yz ud rfl B.list_ wM (zA (L2.pv 4) zD)) (zA (yu (own:=["_law_one"]) (caps:=[]) (xk rfl) rfl (yU (L2.pv 7)) (λ_ _ _ _=>zw (i:=0) (show (["_law_one"]:List Str).Nodup by decide +kernel) rfl (Or.inl rfl)) (λ_ _ _ _=>(vV aY ag hr rfl (zA (zZ (show vx _ (xp K) from yJ) (L2.pv 0) zH (λ_ _=>rfl)) (zA (zZ (show vx _ (xp K) from yJ) (L2.pv 0) zH (λ_ _=>rfl)) (zA (zZ (show vx _ (xp K) from yJ) (L2.pv 0) zH (λ_ _=>rfl)) (zA (zZ (show vx _ (xp K) from yJ) (L2.pv 0) zH (λ_ _=>rfl)) (zA (zZ (show vx _ (xp K) from yJ) (L2.pv 0) zH (λ_ _=>rfl)) (zA (zZ (show vx _ (xp K) from yJ) (L2.pv 0) zH (λ_ _=>rfl)) zD))))))))) zD)))))
  (zM (yG (i:=9) uX.nd rfl (Or.inl rfl) (zR du hr rfl (zA (L2.pv 1) (zA (L2.pv 4) (zA (L2.pv 7) zD)))))
  (zM (zo (yK vf (zR dc hr rfl (zA (L2.pv 8) zD)) (L2.pv 9) (zp _)) (zO (zY xy)) yA)
  (zM (yG (i:=10) uX.nd rfl (Or.inl rfl) (zR dw hr rfl (zA (L2.pv 9) zD)))
  (zM (zo (PW.pt (xZ (xO (yX (zm (show ya _ _ (wW K) from wz) rfl B.isinstance_ yo (zA (L2.pv 10) (zA (wy am rfl) zD))))) (xZ (yK vf (yN (L2.pv 10) rfl) (L2.pv 1) (zp _)) (xZ (yK (Zg hr.units) (Zk aR am hrm (L2.pv 10)) (L2.pv 4) (zp _)) (wR (yK vf (zR dc hr rfl (zA (L2.pv 10) zD)) (L2.pv 9) (zp _))))))) (zO (zY xy)) yA)
  (zM (vy (i:=11) uX.nd rfl rfl (own:=["_law_mode"]) (caps:=[]) (xk rfl) rfl (yU (Zk aS am hrm (L2.pv 10))) (λ_ _ _ _=>zw (i:=0) (show (["_law_mode"]:List Str).Nodup by decide +kernel) rfl (Or.inl rfl)) (λ_ _ _ _=>(ye (zA (show PE _ _ (vF K _ _) from yN (L2.pv 0) rfl) (zA (show PE _ _ (vF K _ _) from yN (L2.pv 0) rfl) (zA (show PE _ _ (vF K _ _) from yN (L2.pv 0) rfl) (zA (show PE _ _ (vF K _ _) from yN (L2.pv 0) rfl) (zA (show PE _ _ (vF K _ _) from yN (L2.pv 0) rfl) (zA (show PE _ _ (vF K _ _) from yN (L2.pv 0) rfl) zD)))))))) rfl)
  (zO (zY (ub (Yr hr.units) (L2.pv 11) (L2.pv 7) (zp _))))))))))))))),?_⟩
 try dsimp only [zQ,Cx.nox,Cx.wish]
 have b7:Bd 5 (7:Int):=Bd.lit
 have b79:Bd 20 (7919:Int):=Bd.lit
 refine ⟨_,rfl,a,ns,8,rfl,ha,(by decide),?_⟩
 generalize jQ ns 8=cell
 obtain ⟨p,hp,p7⟩:=qP cell (d:=7) (by decide)
 obtain ⟨k4,hk4,k4'⟩:=qP (cell.fdiv 7) (d:=4) (by decide)
 refine ⟨_,rfl,_,_,rfl,rfl,(show (7:Int)≠0 by decide),?_⟩
 refine ⟨(by show 0<=sizeLine; decide),λP0 hP0=>?_⟩
 refine ⟨_,rfl,_,rfl,(by omega),(by omega),ZZ (lo:=0) (n:=(cell.fmod 7).toNat) (λi σ H'=>∃ (o5 o6:Option V) (pvs:List V) (bs:List (Int × Int)),σ=[some (.ref a),some (.int (n:Int)),some (.int cell),some (.int (cell.fmod 7)),some (.ref P0),o5,o6,none,none,none,none,none]/\zC H H'/\H' P0=some (.lst pvs)/\Paired (vN (zz [P0] H')) pvs bs/\bs.length=i/\∀ b∈bs,b.1<=b.2/\Nm b.1/\Nm b.2)
  ⟨none,none,[],[],rfl,zK hP0 _,zG,.nil,rfl,λ_ h=>by cases h⟩ ?_ ?_⟩
 ·rintro i σ H' hi ⟨o5,o6,pvs,bs,rfl,sm,hP,hpv,lb,hb⟩
  refine ⟨_,rfl,_,_,rfl,rfl,⟨by decide,b7.mono⟩,_,rfl,_,_,rfl,rfl,_,2,rfl,(by decide),(by decide),λxa H1 xs s1 f1 e1 lx bx=>?_⟩
  have lx:xs.length=2:=lx
  refine ⟨xa,rfl,⟨_,zE.of e1⟩,yi (K:=K) (a:=xa) (xs:=xs.map V.int) (λi ys σ H'=>(∃ ns,ys=ns.map V.int/\xM i ns)/\(∃ o,σ=[o])/\zC H1 H')
   ⟨⟨[],rfl,xM.nil⟩,⟨none,rfl⟩,zC.refl _⟩ (λi ys σ H' _ ⟨⟨ns,g1,g2⟩,_,sm⟩=>⟨zE.of (sm _ _ e1),by rw [g1,List.length_map,g2.1]; exact Nat.le_refl _⟩) (yT (by rw [List.length_map]; omega)) ?_ ?_⟩
  ·rintro i x ys σ H' hx ⟨⟨ns,rfl,hns⟩,⟨o,rfl⟩,sm⟩
   obtain ⟨z,hz,rfl⟩:=vU hx
   refine ⟨_,rfl,z,rfl,bx z (List.mem_of_getElem? hz),λy H3 s3 ny=>⟨⟨ns++[y],by rw [List.map_append]; rfl,hns.snoc ny⟩,⟨_,rfl⟩,sm.trans s3⟩⟩
  rintro ys σ H2 ⟨⟨es,rfl,hes⟩,⟨o,rfl⟩,sm2⟩ le hle
  rw [List.length_map,lx] at hes
  have w2:=s1.trans (sm2.trans (zK hle (HO.lst (es.map V.int))))
  have ee:=zG (H:=H2) (a:=le) (o:=HO.lst (es.map V.int))
  generalize upd H2 le (HO.lst (es.map V.int))=H3 at w2 ee |-
  have e0:0 < es.length:=by rw [hes.1]; decide
  refine ⟨_,rfl,.inl ⟨rfl,_,zE.of (w2 _ _ hP)⟩,_,rfl,le,es,rfl,zE.of ee,e0,λM1 m1 q1=>?_⟩
  refine ⟨_,rfl,le,es,rfl,zE.of ee,e0,λM2 m2 q2=>?_⟩
  refine ⟨(by show 2<=sizeLine; decide),λt ht=>?_⟩
  have w3:=w2.trans (zK ht (HO.tup [V.int M1,V.int M2]))
  have nt:t≠P0:=λe=>by rw [e,w2 _ _ hP] at ht; cases ht
  have lp:=Paired.length hpv
  refine ⟨P0,_,_,rfl,rfl,w3 _ _ hP,yn (by omega),_,_,pvs++[.ref t],bs++[(M1,M2)],rfl,uC (sm.trans w3) hP0,zG,vT (R:=vN _) ⟨t,rfl,?_⟩ (jj ((W6 w3).trans Uq) hpv),by rw [List.length_append,lb]; rfl,λb hb2=>?_⟩
  ·rw [j4 (λz=>nt (List.mem_singleton.mp z)),yD nt]
   exact zG
  ·rcases List.mem_append.mp hb2 with e | e
   ·exact hb b e
   ·rw [List.mem_singleton.mp e]; exact ⟨q1 _ m2,hes.2 _ m1,hes.2 _ m2⟩
 rintro σ HA ⟨o5,o6,pvs,bs,rfl,smA,hP,hpv,lb,hb⟩
 have lb:bs.length=p:=by omega
 have hpv:=jj uG hpv
 have lpv:pvs.length=bs.length:=Paired.length hpv
 refine ⟨_,rfl,_,_,rfl,rfl,⟨by decide,b7.mono⟩,_,_,rfl,rfl,(show (4:Int)≠0 by decide),_,_,rfl,rfl,_,rfl,(by omega),(by omega),qb (lo:=0) (n:=(1 + (cell.fdiv 7).fmod 4).toNat) (λi ys σ H'=>(∃ ms,Paired (vo H') ys ms/\ms.length=i/\∀ m∈ms,xH m n p/\xu m)/\(∃ o,σ=[o,some (.ref a),some (.int (n:Int)),some (.int (cell.fmod 7))])/\zC HA H')
  ⟨⟨[],.nil,rfl,λ_ h=>by cases h⟩,⟨none,rfl⟩,zC.refl _⟩ (λi ys σ H' ⟨⟨ms,g1,g2,_⟩,_,_⟩=>by rw [Paired.length g1,g2]; exact Nat.le_refl _) (yT (by omega)) ?_ ?_⟩
 ·rintro i ys σ H' hi ⟨⟨ms,hys,lms,hms⟩,⟨o,rfl⟩,sm⟩
  have bi:Bd 10 (0 + (i:Int)):=by show (0 + (i:Int)).natAbs < 2 ^ 10; omega
  refine ⟨_,rfl,_,rfl,_,_,rfl,rfl,a,ns,_,rfl,(smA.trans sm).seq ha,(by omega),_,rfl,_,_,rfl,rfl,⟨b79.mono,bi.mono⟩,_,_,rfl,rfl,_,rfl,_,rfl,_,n,p,_,rfl,hp,n1,n3,by omega,λv m H3 s3 hv MO NM=>?_⟩
  refine ⟨⟨ms++[m],vT (R:=vo _) hv (g5 s3 hys),by rw [List.length_append,lms]; rfl,λm2 hm2=>?_⟩,⟨_,rfl⟩,sm.trans s3⟩
  rcases List.mem_append.mp hm2 with e | e
  ·exact hms m2 e
  ·rw [List.mem_singleton.mp e]; exact ⟨MO,NM⟩
 rintro sv σ HB ⟨⟨ms,hsv,lms,hms⟩,⟨o,rfl⟩,smB⟩ ls hls
 have wB:=zK hls (HO.lst sv)
 have eS:=zG (H:=HB) (a:=ls) (o:=HO.lst sv)
 have hsv:=g5 wB hsv
 have yB:=smB.trans wB
 have hP:=yB _ _ hP
 have hpv:=jj yB hpv
 have yB:=smA.trans yB
 generalize upd HB ls (HO.lst sv)=HC at wB eS hsv yB hP hpv |-
 have lsv:sv.length=ms.length:=Paired.length hsv
 have TN:uM n bs ms:=⟨⟨n1,n3,λb h=>(hb b h).1,by omega,by omega,by omega,λm h=>by rw [lb]; exact (hms m h).1⟩,by omega,λb h=>(hb b h).2,λm h=>(hms m h).2⟩
 have m4:=TN.m4
 refine ⟨_,rfl,_,rfl,P0,_,rfl,.inl (zE.of hP),λlp hlp=>?_⟩
 have wD:=zK hlp (HO.lst pvs)
 have eP:=zG (H:=HC) (a:=lp) (o:=HO.lst pvs)
 generalize upd HC lp (HO.lst pvs)=HD at wD eP |-
 refine ⟨_,rfl,ls,rfl,⟨_,zE.of (wD _ _ eS)⟩,yi (K:=K) (a:=ls) (xs:=sv) (λi ys σ H'=>Paired (vA af H') ys (ms.take i)/\(∃ o,σ=[o])/\zC HD H')
  ⟨.nil,⟨none,rfl⟩,zC.refl _⟩ (λi ys σ H' _ ⟨g1,_,sm⟩=>⟨zE.of ((wD.trans sm) _ _ eS),by have:=Paired.length g1; rw [List.length_take] at this; omega⟩) (yT (by omega)) ?_ ?_⟩
 ·rintro i x ys σ H' hx ⟨hy,⟨o,rfl⟩,sm⟩
  obtain ⟨m,hm',hv⟩:=yp hsv hx
  obtain ⟨pl,r,nn',st,pp,ad,rv,nv,qv,rfl,P⟩:=hv.same (wD.trans sm)
  have MO:=(hms m (List.mem_of_getElem? hm')).1
  refine ⟨_,rfl,pl,_,0,_,rfl,rfl,zE.of P.hl,rfl,_,rfl,pl,_,1,_,rfl,rfl,zE.of P.hl,rfl,_,rfl,pl,_,2,_,rfl,rfl,zE.of P.hl,rfl,_,rfl,pl,_,3,_,rfl,rfl,zE.of P.hl,rfl,_,rfl,pl,_,4,_,rfl,rfl,zE.of P.hl,rfl,_,rfl,pl,_,5,_,rfl,rfl,zE.of P.hl,rfl,λx dx hx hdx ne=>?_⟩
  have zx:=vX hx hdx ne (HO.own x) (HO.ins af dx [])
  have ex0:=zG (H:=upd (H') dx (HO.own x)) (a:=x) (o:=HO.ins af dx [])
  obtain ⟨HX,hHX⟩:∃ HX,HX=upd (upd (H') dx (HO.own x)) x (HO.ins af dx []):=⟨_,rfl⟩
  rw [<- hHX] at zx ex0 |-
  have P':=P.same zx
  refine ⟨x,dx,r,nn',st,pp,ad,rv,nv,qv,m,n,p,rfl,ex0,MO,P'.hr,P'.hrv,P'.hn,P'.hnv,P'.hs,P'.hp,P'.hpv,P'.ha,λM HF sb ok _ _ _ _ _ _ _=>⟨rfl,?_⟩⟩
  have uF:=vW zx sb hx
  refine ⟨?_,⟨_,rfl⟩,sm.trans uF⟩
  rw [xY hm']
  exact vT (R:=vA af _) ⟨x,_,rfl,ok⟩ (YI uF hy)
 rintro mv σ HE ⟨hmv,⟨o,rfl⟩,smE⟩ lmm hlm
 rw [lsv,List.take_length] at hmv
 have wE:=zK hlm (HO.lst mv)
 have eM:=zG (H:=HE) (a:=lmm) (o:=HO.lst mv)
 have hmv:=YI wE hmv
 have yE:=smE.trans wE
 have eP:=yE _ _ eP
 have yE:=wD.trans yE
 generalize upd HE lmm (HO.lst mv)=HG at wE eM hmv yE eP |-
 refine λx dx hx hdx ne=>?_
 have zx:=vX hx hdx ne (HO.own x) (HO.ins au dx [])
 have ex0:=zG (H:=upd (HG) dx (HO.own x)) (a:=x) (o:=HO.ins au dx [])
 obtain ⟨HX,hHX⟩:∃ HX,HX=upd (upd (HG) dx (HO.own x)) x (HO.ins au dx []):=⟨_,rfl⟩
 rw [<- hHX] at zx ex0 |-
 have u1:=yE.trans zx
 refine ⟨x,dx,lp,lmm,pvs,mv,n,bs,ms,rfl,ex0,zx _ _ eP,jj u1 hpv,zx _ _ eM,YI zx hmv,TN.ok,λkp km HF sb _ _ _ eo ekp ekm=>⟨rfl,?_⟩⟩
 have uF:=vW zx sb hx
 have yF:=yE.trans uF
 have TA:jT au af HF x n bs ms pvs mv kp km:=⟨⟨dx,eo⟩,ekp,jj yF hpv,ekm,YI uF hmv⟩
 have yF':=yB.trans yF
 have hP:=yF _ _ hP
 have hpv:=jj yF hpv
 have eS:=yF _ _ eS
 have hsv:=g5 yF hsv
 clear ex0 zx hHX u1 uF sb eo ekp ekm eM eP hmv yE yF
 refine ⟨_,rfl,_,rfl,_,rfl,n,P0,ls,pvs,sv,bs,ms,rfl,hP,hpv,eS,hsv,TN,λHT sT=>?_⟩
 refine ⟨_,rfl,x,kp,km,n,bs,ms,pvs,mv,rfl,TA.same sT,TN,λHU sU=>?_⟩
 refine ⟨_,rfl,rfl,_,rfl,yH (gY rfl) ?_⟩
 refine ⟨_,rfl,n,bs,ms,rfl,TN,λo kp2 km2 pv2 mv2 HV sV T2=>?_⟩
 obtain ⟨dx2,ins⟩:=T2.ins
 have yV:=sT.trans (sU.trans sV)
 refine ⟨_,rfl,_,_,_,_,rfl,(am.ty ins),uh,_,rfl,zX ?_⟩
 refine ⟨_,rfl,o,au,dx2,_,_,rfl,ins,am.cl,ar.n_many,rfl,_,rfl,rfl,_,rfl,yH (qc rfl) ?_⟩
 refine ⟨_,rfl,o,dx2,_,rfl,ins,rfl,o,kp2,km2,n,bs,ms,pv2,mv2,rfl,T2,λl1 HW sW' _ el1=>?_⟩
 have yW:=yV.trans sW'
 refine ⟨_,rfl,.list (bs.map jU),.lst (zE.of el1) (Xz (jj sW' T2.hpv)),.lst (zE.of (yW _ _ hP)) (Xz (jj yW hpv)),W8 bs,Qs bs,_,rfl,zX ?_⟩
 refine ⟨_,rfl,o,kp2,km2,n,bs,ms,pv2,mv2,rfl,T2.same sW',TN,λHX sX=>?_⟩
 refine ⟨_,rfl,rfl,_,rfl,yH (gY rfl) ?_⟩
 have sWX:=sW'.trans sX
 refine ⟨_,rfl,o,dx2,_,rfl,sWX _ _ ins,rfl,o,kp2,km2,n,bs,ms,pv2,mv2,rfl,T2.same sWX,λl2 HY sY _ el2=>?_⟩
 have T3:=T2.same (sWX.trans sY)
 have yY:=yV.trans (sWX.trans sY)
 have lmv2:mv2.length=ms.length:=Paired.length T3.hmv
 refine ⟨l2,rfl,⟨_,zE.of el2⟩,yi (K:=K) (a:=l2) (xs:=mv2) (λi ys σ H'=>Paired (vo H') ys (ms.take i)/\(∃ o,σ=[o])/\zC HY H')
  ⟨.nil,⟨none,rfl⟩,zC.refl _⟩ (λi ys σ H' _ ⟨g1,_,sm⟩=>⟨zE.of (sm _ _ el2),by have:=Paired.length g1; rw [List.length_take] at this; omega⟩) (yT (by omega)) ?_ ?_⟩
 ·rintro i x ys σ H' hx ⟨hy,⟨o1,rfl⟩,sm⟩
  obtain ⟨m,hm',hv⟩:=yp T3.hmv hx
  obtain ⟨o,M,rfl,ok⟩:=hv.same sm
  refine ⟨_,rfl,o,af,M.dx,_,_,rfl,ok.ins,ag.cl,ah.n_rows,rfl,_,rfl,o,af,M.dx,_,_,rfl,ok.ins,ag.cl,ah.n_nexts,rfl,_,rfl,o,af,M.dx,_,_,rfl,ok.ins,ag.cl,ah.n_steer,rfl,_,rfl,o,af,M.dx,_,_,rfl,ok.ins,ag.cl,ah.n_push,rfl,_,rfl,o,af,M.dx,_,_,rfl,ok.ins,ag.cl,ah.n_add,rfl,_,rfl,o,af,M.dx,_,_,rfl,ok.ins,ag.cl,ah.n_divisor,rfl,(by show 6<=sizeLine; decide),λb hb=>?_⟩
  have z:=zK hb (HO.lst [V.ref M.r,V.ref M.n,V.ref M.s,V.ref M.p,V.ref M.a,V.int m.div])
  refine ⟨?_,⟨_,rfl⟩,sm.trans z⟩
  rw [xY hm']
  exact vT (R:=vo _) ⟨b,M.r,M.n,M.s,M.p,M.a,M.rv,M.nv,M.pv,rfl,zG,z _ _ ok.hr,zf.same z ok.hrv,z _ _ ok.hn,zU.same z ok.hnv,z _ _ ok.hs,z _ _ ok.hp,zU.same z ok.hpv,z _ _ ok.ha⟩ (g5 z hy)
 rintro tv σ HZ ⟨htv,⟨o1,rfl⟩,smZ⟩ lt hlt
 rw [lmv2,List.take_length] at htv
 have wZ:=zK hlt (HO.lst tv)
 have yZ:=yY.trans (smZ.trans wZ)
 exact ⟨_,rfl,_,rfl,.list (ms.map ji),.lst (zE.of zG) (X0 (g5 wZ htv)),.lst (zE.of (yZ _ _ eS)) (X0 (g5 yZ hsv)),JC ms,zMA ms,q _ (yF'.trans yZ)⟩
end
section
variable {P:Program} {w:World} {K:PySem.W.Frag} {mg:Str->Option Value} {base:Heap}
noncomputable abbrev jJ:Stmt:=top 79
theorem YJ:zq ["_law_script","_law_many","_law_tree_here","_law_text"] ["_law_script"] (zL jJ):=.a
variable {aClaim aSettles aComes aRule ab ae ac af au:Addr} (TClaim:zF K mg "Claim" aClaim) (AClaim:wY K aClaim) (TSettles:zF K mg "Settles" aSettles) (ASettles:wb K aSettles) (TComes:zF K mg "Comes" aComes) (AComes:wf K aComes) (TRule:zF K mg "Rule" aRule) (ARule:wg K aRule) (aj:zF K mg "Straight" ab) (ap:wj K ab) (ak:zF K mg "Stopped" ae) (aq:wk K ae) (ai:zF K mg "Parted" ac) (ao:wm K ac) (ag:zF K mg "Mode" af) (ah:wn K af) (am:zF K mg "Thing" au) (ar:wo K au) (Y:wp K aRule ab ae ac aClaim aSettles aComes)
include TClaim AClaim TSettles ASettles TComes AComes TRule ARule aj ap ak aq ai ao ag ah am ar Y
theorem zMi {k:Nat} {f:Addr} {fd:FuncData} (F:yC K "law" "law" jJ f fd) (B:Bl mg) (aA:Fn P w K mg base "_law_cell_at" ["_law_script","_law_k"] k (jy K)) (dz:Fn P w K mg base "_law_tree" ["_law_cells","_law_many"] k (Xs K)) (aL:Fn P w K mg base "_law_rule_text" ["_law_tree_here"] k (uT 6)) (aM:Fn P w K mg base "_law_same_rule" ["_law_rule_here","_law_tree_here"] k (uU ab ae ac 6)) (dA:Fn P w K mg base "read_rule" ["text","many"] k (Xj ab ae ac)) (aI:Fn P w K mg base "show_rule" ["rule"] k (uL ab ae ac 6)) (aK:Fn P w K mg base "_law_rule" ["_law_tree_here"] k (uQ ab ae ac 6)) (dB:Fn P w K mg base "_law_things" ["_law_script","_law_many"] k (gu K)) (dC:Fn P w K mg base "_law_claims" ["_law_script","_law_many"] k (gu K)):zJ P w K mg base zh (k + 1) f fd ["_law_script"] (kb K):=by
 refine F.ok YJ (λvs H Q E h=>?_) (λcdv A outer s H vs Q E hr h=>?_)
 ·obtain ⟨_,_,rfl,_⟩:=h
  rfl
 obtain ⟨a,ns,rfl,hS,hn63,q⟩:=h
 refine ⟨_,(zM (yG (i:=1) YJ.nd rfl (Or.inl rfl) (zP yS zH (zP xm (zR aA hr rfl (zA (L2.pv 0) (zA zH zD))) zH)))
  (zM (yG (i:=2) YJ.nd rfl (Or.inl rfl) (zR dz hr rfl (zA (xW xb (L2.pv 0) (yh zH) (yh (zP yS zH (zP xm (zP uA (zR aA hr rfl (zA (L2.pv 0) (zA zH zD))) zH) zH)))) (zA (L2.pv 1) zD))))
  (zM (yG (i:=3) YJ.nd rfl (Or.inl rfl) (zR aL hr rfl (zA (L2.pv 2) zD)))
  (zM (zo (PW.pt (xZ (yK vf (zR aI hr rfl (zA (zR aK hr rfl (zA (L2.pv 2) zD)) zD)) (L2.pv 3) (zp _)) (wR (xO (yX (zR aM hr rfl (zA (zR dA hr rfl (zA (L2.pv 3) (zA (L2.pv 1) zD))) (zA (L2.pv 2) zD)))))))) (zO (zY xy)) yA)
  (zO (zY (ve (zR dC hr rfl (zA (L2.pv 0) (zA (L2.pv 1) zD))) (uZ (zR dB hr rfl (zA (L2.pv 0) (zA (L2.pv 1) zD))))))))))),?_⟩
 try dsimp only [zQ,Cx.nox,Cx.wish]
 have b3:Bd 2 (3:Int):=Bd.lit
 refine ⟨_,rfl,a,ns,0,rfl,hS,(by decide),?_⟩
 obtain ⟨c,hc⟩:∃ c,c=jQ ns 0:=⟨_,rfl⟩
 rw [<- hc]
 obtain ⟨n,hn⟩:∃ n:Nat,1 + c.fmod 3=(n:Int):=by
  obtain ⟨k,h1,_⟩:=qP c (d:=3) (by decide)
  exact ⟨k + 1,by omega⟩
 obtain ⟨b,hb⟩:∃ b:Nat,2 + (c.fdiv 3).fmod 6=(b:Int):=by
  obtain ⟨k,h1,_⟩:=qP (c.fdiv 3) (d:=6) (by decide)
  exact ⟨k + 2,by omega⟩
 have m0:=Int.fmod_nonneg_of_pos c (show (0:Int) < 3 by decide)
 have m1:=Int.fmod_lt_of_pos c (show (0:Int) < 3 by decide)
 have n1:1<=n:=by omega
 have n3:n<=3:=by omega
 refine ⟨_,_,rfl,rfl,(show (3:Int)≠0 by decide),_,_,rfl,rfl,?_⟩
 refine ⟨_,rfl,_,rfl,_,rfl,a,ns,0,rfl,hS,(by decide),_,_,rfl,rfl,⟨by decide,b3.mono⟩,_,_,rfl,rfl,(show (6:Int)≠0 by decide),_,_,rfl,rfl,_,rfl,a,_,rfl,hS,λc1 hc1=>?_⟩
 obtain ⟨zs,ez,_⟩:=W7 ns 1 b
 rw [<- hc,show zk (ns.map V.int) (some 1) (some (2 + (c.fdiv 3).fmod 6))=zs.map V.int by rw [hb]; exact ez]
 have w1:=zK hc1 (HO.lst (zs.map V.int))
 refine ⟨_,rfl,c1,zs,n,(by rw [<- hn]; rfl),zE.of zG,n1,n3,λv t H1 s1 tv RO dp=>?_⟩
 have y1:=w1.trans s1
 refine ⟨_,rfl,v,n,t,rfl,dp,tv,RO,λH2 s2=>?_⟩
 refine ⟨_,rfl,v,n,t,rfl,dp,tv.same s2,RO.2.1,n3,λu H3 s3 hu=>?_⟩
 refine ⟨u,n,t,rfl,dp,hu,RO,λH4 s4=>?_⟩
 refine ⟨_,rfl,rfl,_,rfl,yH (gY rfl) ?_⟩
 have y4:=s2.trans (s3.trans s4)
 refine ⟨_,rfl,_,rfl,t,n,(by rw [<- hn]; rfl),RO,λu2 H5 s5 hu2=>?_⟩
 have y5:=y4.trans s5
 refine ⟨_,rfl,u2,v,t,rfl,dp,hu2,tv.same y5,λH6 s6=>⟨_,rfl,zX ?_⟩⟩
 have y6:=y1.trans (y5.trans s6)
 refine ⟨_,rfl,_,rfl,a,ns,n,(by rw [<- hn]; rfl),y6.seq hS,n1,n3,λH7 s7=>⟨_,rfl,yd ?_⟩⟩
 exact ⟨_,rfl,_,rfl,a,ns,n,(by rw [<- hn]; rfl),(y6.trans s7).seq hS,n1,n3,λH8 _=>q H8⟩
end
end K92
namespace L2
theorem xj {α:Type} {P:List α->Prop} (h:∀ x0:α,P [x0]):∀ us:List α,us.length=1->P us
 | [x0],_=>h x0
theorem x9 {α:Type} {P:List α->Prop} (h:∀ x0 x1:α,P [x0,x1]):∀ us:List α,us.length=2->P us
 | [x0,x1],_=>h x0 x1
theorem jk {α:Type} {P:List α->Prop} (h:∀ x0 x1 x2:α,P [x0,x1,x2]):∀ us:List α,us.length=3->P us
 | [x0,x1,x2],_=>h x0 x1 x2
theorem g6 {α:Type} {P:List α->Prop} (h:∀ x0 x1 x2 x3:α,P [x0,x1,x2,x3]):∀ us:List α,us.length=4->P us
 | [x0,x1,x2,x3],_=>h x0 x1 x2 x3
theorem zNC {α:Type} {P:List α->Prop} (h:∀ x0 x1 x2 x3 x4 x5 x6:α,P [x0,x1,x2,x3,x4,x5,x6]):∀ us:List α,us.length=7->P us
 | [x0,x1,x2,x3,x4,x5,x6],_=>h x0 x1 x2 x3 x4 x5 x6
end L2
namespace K92
open PySem L2 Sh
theorem all_mk {l:W.OpenLaw} {w:World} {K:W.Frag} {h:Heap} {mg:Str->Option Value} {fa f0 f1 f2 f3 f4 f5 f6 f7 f8 f9 f10 f11 f12 f13 f14 f15 f16 f17 f18 f19 f20 f21 f22 f23 f24 f25 f26 f27 f28 f29 f30 f31 f32 f33 f34 f35 f36 f37 f38 f39 f40 f41 f42 f43 f44 f45 f46 f47 f48 f49 f50 f51 f52 f53 f54 f55 f56 f57:Addr} (X:K.In h) (G:h.Ns mainGlobals mg) (hfa:mg "law" = some (.ref fa))
  {od0 an0 od1 an1 od2 an2 od3 an3 od4 an4 od5 an5 od6 an6 od7 an7 od8 an8 od9 an9 od10 an10 od11 an11 od12 an12 od13 an13 od14 an14 od15 an15 od16 an16 od17 an17 od18 an18 od19 an19 od20 an20 od21 an21 od22 an22 od23 an23 od24 an24 od25 an25 od26 an26 od27 an27 od28 an28 od29 an29 od30 an30 od31 an31 od32 an32 od33 an33 od34 an34 od35 an35 od36 an36 od37 an37 od38 an38 od39 an39 od40 an40 od41 an41 od42 an42 od43 an43 od44 an44 od45 an45 od46 an46 od47 an47 od48 an48 od49 an49 od50 an50 od51 an51 od52 an52 od53 an53 od54 an54 od55 an55 od56 an56 od57 an57:Option Addr} {sl0 sl1 sl2 sl3 sl4 sl5 sl6 sl7 sl8 sl9 sl10 sl11 sl12 sl13 sl14 sl15 sl16 sl17 sl18 sl19 sl20 sl21 sl22 sl23 sl24 sl25 sl26 sl27 sl28 sl29 sl30 sl31 sl32 sl33 sl34 sl35 sl36 sl37 sl38 sl39 sl40 sl41 sl42 sl43 sl44 sl45 sl46 sl47 sl48 sl49 sl50 sl51 sl52 sl53 sl54 sl55 sl56 sl57:Array (Option Value)} {oc0 kV0 dc0 pm0 cd0 ct0 oc1 kV1 dc1 pm1 cd1 ct1 oc2 kV2 dc2 pm2 cd2 ct2 oc3 kV3 dc3 pm3 cd3 ct3 oc4 kV4 dc4 pm4 cd4 ct4 oc5 kV5 dc5 pm5 cd5 ct5 oc6 kV6 dc6 pm6 cd6 ct6 oc7 kV7 dc7 pm7 cd7 ct7 oc8 kV8 dc8 pm8 cd8 ct8 oc9 kV9 dc9 pm9 cd9 ct9 oc10 kV10 dc10 pm10 cd10 ct10 oc11 kV11 dc11 pm11 cd11 ct11 oc12 kV12 dc12 pm12 cd12 ct12 oc13 kV13 dc13 pm13 cd13 ct13 oc14 kV14 dc14 pm14 cd14 ct14 oc15 kV15 dc15 pm15 cd15 ct15 oc16 kV16 dc16 pm16 cd16 ct16 oc17 kV17 dc17 pm17 cd17 ct17 oc18 kV18 dc18 pm18 cd18 ct18 oc19 kV19 dc19 pm19 cd19 ct19 oc20 kV20 dc20 pm20 cd20 ct20 oc21 kV21 dc21 pm21 cd21 ct21 oc22 kV22 dc22 pm22 cd22 ct22 oc23 kV23 dc23 pm23 cd23 ct23 oc24 kV24 dc24 pm24 cd24 ct24 oc25 kV25 dc25 pm25 cd25 ct25 oc26 kV26 dc26 pm26 cd26 ct26 oc27 kV27 dc27 pm27 cd27 ct27 oc28 kV28 dc28 pm28 cd28 ct28 oc29 kV29 dc29 pm29 cd29 ct29 oc30 kV30 dc30 pm30 cd30 ct30 oc31 kV31 dc31 pm31 cd31 ct31 oc32 kV32 dc32 pm32 cd32 ct32 oc33 kV33 dc33 pm33 cd33 ct33 oc34 kV34 dc34 pm34 cd34 ct34 oc35 kV35 dc35 pm35 cd35 ct35 oc36 kV36 dc36 pm36 cd36 ct36 oc37 kV37 dc37 pm37 cd37 ct37 oc38 kV38 dc38 pm38 cd38 ct38 oc39 kV39 dc39 pm39 cd39 ct39 oc40 kV40 dc40 pm40 cd40 ct40 oc41 kV41 dc41 pm41 cd41 ct41 oc42 kV42 dc42 pm42 cd42 ct42 oc43 kV43 dc43 pm43 cd43 ct43 oc44 kV44 dc44 pm44 cd44 ct44 oc45 kV45 dc45 pm45 cd45 ct45 oc46 kV46 dc46 pm46 cd46 ct46 oc47 kV47 dc47 pm47 cd47 ct47 oc48 kV48 dc48 pm48 cd48 ct48 oc49 kV49 dc49 pm49 cd49 ct49 oc50 kV50 dc50 pm50 cd50 ct50 oc51 kV51 dc51 pm51 cd51 ct51 oc52 kV52 dc52 pm52 cd52 ct52 oc53 kV53 dc53 pm53 cd53 ct53 oc54 kV54 dc54 pm54 cd54 ct54 oc55 kV55 dc55 pm55 cd55 ct55 oc56 kV56 dc56 pm56 cd56 ct56 oc57 kV57 dc57 pm57 cd57 ct57:Value}
  {aClaim aSettles aComes aRule ab ae ac af au:Addr}
  (nm_Claim:W.nsIn K mainGlobals "Claim" = some (some (.ref aClaim)))
  (pg_Claim:W.plainGet K aClaim Str.empty=true)
  (hd_Claim:W.hasDictIn K aClaim=true)
  (po_Claim:W.plainOver K aClaim=true)
  (sa_Claim:W.findIn K (.ref aClaim) "__setattr__" = some (some (.builtin "object.__setattr__")))
  (mk_Claim:W.makesIn K aClaim=true)
  (kc_Claim:W.keepIn K (.ref aClaim)=true)
  (ha_Claim:W.findIn K (.ref aClaim) "__class__" = some (some (.builtin "object.__class__")))
  (hn_Claim:W.specialIn K (.builtin "object.__class__") "__get__" = some (some (.builtin "getset_descriptor.__get__")))
  (tk_Claim:W.takesIn K (.builtin "object.__class__")=some true)
  (hm_Claim:W.mroIn K aClaim (.type "object")=some true)
  (nm_Settles:W.nsIn K mainGlobals "Settles" = some (some (.ref aSettles)))
  (pg_Settles:W.plainGet K aSettles Str.empty=true)
  (hd_Settles:W.hasDictIn K aSettles=true)
  (po_Settles:W.plainOver K aSettles=true)
  (sa_Settles:W.findIn K (.ref aSettles) "__setattr__" = some (some (.builtin "object.__setattr__")))
  (mk_Settles:W.makesIn K aSettles=true)
  (kc_Settles:W.keepIn K (.ref aSettles)=true)
  (ha_Settles:W.findIn K (.ref aSettles) "__class__" = some (some (.builtin "object.__class__")))
  (hn_Settles:W.specialIn K (.builtin "object.__class__") "__get__" = some (some (.builtin "getset_descriptor.__get__")))
  (tk_Settles:W.takesIn K (.builtin "object.__class__")=some true)
  (hm_Settles:W.mroIn K aSettles (.type "object")=some true)
  (n_start_Settles:W.findIn K (.ref aSettles) "start" = some none)
  (n_rows_Settles:W.findIn K (.ref aSettles) "rows" = some none)
  (n_turn_Settles:W.findIn K (.ref aSettles) "turn" = some none)
  (nm_Comes:W.nsIn K mainGlobals "Comes" = some (some (.ref aComes)))
  (pg_Comes:W.plainGet K aComes Str.empty=true)
  (hd_Comes:W.hasDictIn K aComes=true)
  (po_Comes:W.plainOver K aComes=true)
  (sa_Comes:W.findIn K (.ref aComes) "__setattr__" = some (some (.builtin "object.__setattr__")))
  (mk_Comes:W.makesIn K aComes=true)
  (kc_Comes:W.keepIn K (.ref aComes)=true)
  (ha_Comes:W.findIn K (.ref aComes) "__class__" = some (some (.builtin "object.__class__")))
  (hn_Comes:W.specialIn K (.builtin "object.__class__") "__get__" = some (some (.builtin "getset_descriptor.__get__")))
  (tk_Comes:W.takesIn K (.builtin "object.__class__")=some true)
  (hm_Comes:W.mroIn K aComes (.type "object")=some true)
  (n_start_Comes:W.findIn K (.ref aComes) "start" = some none)
  (n_goal_Comes:W.findIn K (.ref aComes) "goal" = some none)
  (n_turns_Comes:W.findIn K (.ref aComes) "turns" = some none)
  (nm_Rule:W.nsIn K mainGlobals "Rule" = some (some (.ref aRule)))
  (pg_Rule:W.plainGet K aRule Str.empty=true)
  (hd_Rule:W.hasDictIn K aRule=true)
  (po_Rule:W.plainOver K aRule=true)
  (sa_Rule:W.findIn K (.ref aRule) "__setattr__" = some (some (.builtin "object.__setattr__")))
  (mk_Rule:W.makesIn K aRule=true)
  (kc_Rule:W.keepIn K (.ref aRule)=true)
  (ha_Rule:W.findIn K (.ref aRule) "__class__" = some (some (.builtin "object.__class__")))
  (hn_Rule:W.specialIn K (.builtin "object.__class__") "__get__" = some (some (.builtin "getset_descriptor.__get__")))
  (tk_Rule:W.takesIn K (.builtin "object.__class__")=some true)
  (hm_Rule:W.mroIn K aRule (.type "object")=some true)
  (bb:W.nsIn K mainGlobals "Straight" = some (some (.ref ab)))
  (bc:W.plainGet K ab Str.empty=true)
  (be:W.hasDictIn K ab=true)
  (bf:W.plainOver K ab=true)
  (bg:W.findIn K (.ref ab) "__setattr__" = some (some (.builtin "object.__setattr__")))
  (bh:W.makesIn K ab=true)
  (bj:W.keepIn K (.ref ab)=true)
  (bn:W.findIn K (.ref ab) "__class__" = some (some (.builtin "object.__class__")))
  (bo:W.specialIn K (.builtin "object.__class__") "__get__" = some (some (.builtin "getset_descriptor.__get__")))
  (bp:W.takesIn K (.builtin "object.__class__")=some true)
  (bq:W.mroIn K ab (.type "object")=some true)
  (br:W.findIn K (.ref ab) "numbers" = some none)
  (bu:W.findIn K (.ref ab) "add" = some none)
  (bw:W.findIn K (.ref ab) "divisor" = some none)
  (bA:W.nsIn K mainGlobals "Stopped" = some (some (.ref ae)))
  (bB:W.plainGet K ae Str.empty=true)
  (bC:W.hasDictIn K ae=true)
  (bD:W.plainOver K ae=true)
  (bE:W.findIn K (.ref ae) "__setattr__" = some (some (.builtin "object.__setattr__")))
  (bF:W.makesIn K ae=true)
  (bG:W.keepIn K (.ref ae)=true)
  (bH:W.findIn K (.ref ae) "__class__" = some (some (.builtin "object.__class__")))
  (bI:W.specialIn K (.builtin "object.__class__") "__get__" = some (some (.builtin "getset_descriptor.__get__")))
  (bJ:W.takesIn K (.builtin "object.__class__")=some true)
  (bK:W.mroIn K ae (.type "object")=some true)
  (bL:W.findIn K (.ref ae) "rule" = some none)
  (bM:W.findIn K (.ref ae) "low" = some none)
  (bN:W.findIn K (.ref ae) "high" = some none)
  (bO:W.nsIn K mainGlobals "Parted" = some (some (.ref ac)))
  (bP:W.plainGet K ac Str.empty=true)
  (bQ:W.hasDictIn K ac=true)
  (bR:W.plainOver K ac=true)
  (bS:W.findIn K (.ref ac) "__setattr__" = some (some (.builtin "object.__setattr__")))
  (bT:W.makesIn K ac=true)
  (bU:W.keepIn K (.ref ac)=true)
  (bV:W.findIn K (.ref ac) "__class__" = some (some (.builtin "object.__class__")))
  (bW:W.specialIn K (.builtin "object.__class__") "__get__" = some (some (.builtin "getset_descriptor.__get__")))
  (bX:W.takesIn K (.builtin "object.__class__")=some true)
  (bY:W.mroIn K ac (.type "object")=some true)
  (bZ:W.findIn K (.ref ac) "row" = some none)
  (cb:W.findIn K (.ref ac) "rule" = some none)
  (cf:W.findIn K (.ref ac) "other" = some none)
  (cg:W.nsIn K mainGlobals "Mode" = some (some (.ref af)))
  (ci:W.plainGet K af Str.empty=true)
  (cj:W.hasDictIn K af=true)
  (ck:W.plainOver K af=true)
  (cm:W.findIn K (.ref af) "__setattr__" = some (some (.builtin "object.__setattr__")))
  (cn:W.makesIn K af=true)
  (cq:W.keepIn K (.ref af)=true)
  (cr:W.findIn K (.ref af) "__class__" = some (some (.builtin "object.__class__")))
  (cu:W.specialIn K (.builtin "object.__class__") "__get__" = some (some (.builtin "getset_descriptor.__get__")))
  (cv:W.takesIn K (.builtin "object.__class__")=some true)
  (cw:W.mroIn K af (.type "object")=some true)
  (cx:W.findIn K (.ref af) "rows" = some none)
  (cy:W.findIn K (.ref af) "nexts" = some none)
  (cz:W.findIn K (.ref af) "steer" = some none)
  (cA:W.findIn K (.ref af) "push" = some none)
  (cB:W.findIn K (.ref af) "add" = some none)
  (cC:W.findIn K (.ref af) "divisor" = some none)
  (cD:W.nsIn K mainGlobals "Thing" = some (some (.ref au)))
  (cE:W.plainGet K au Str.empty=true)
  (cF:W.hasDictIn K au=true)
  (cG:W.plainOver K au=true)
  (cH:W.findIn K (.ref au) "__setattr__" = some (some (.builtin "object.__setattr__")))
  (cI:W.makesIn K au=true)
  (cJ:W.keepIn K (.ref au)=true)
  (cK:W.findIn K (.ref au) "__class__" = some (some (.builtin "object.__class__")))
  (cL:W.specialIn K (.builtin "object.__class__") "__get__" = some (some (.builtin "getset_descriptor.__get__")))
  (cM:W.takesIn K (.builtin "object.__class__")=some true)
  (cN:W.mroIn K au (.type "object")=some true)
  (cO:W.findIn K (.ref au) "many" = some none)
  (cP:W.findIn K (.ref au) "kept_pushes" = some none)
  (cQ:W.findIn K (.ref au) "kept_modes" = some none)
  (cR:W.kitOne K (.ref ae) (.ref ab)=some false)
  (cS:W.kitOne K (.ref ac) (.ref ab)=some false)
  (cT:W.kitOne K (.ref ab) (.ref ae)=some false)
  (cU:W.kitOne K (.ref ac) (.ref ae)=some false)
  (cV:W.kitOne K (.ref ab) (.ref ac)=some false)
  (kt_t1:W.kitOne K (.ref ab) (.ref aRule)=some true)
  (kt_t2:W.kitOne K (.ref ae) (.ref aRule)=some true)
  (kt_t3:W.kitOne K (.ref ac) (.ref aRule)=some true)
  (kt_iR:W.kitOne K (.type "int") (.ref aRule)=some false)
  (kt_sc:W.kitOne K (.ref aSettles) (.ref aComes)=some false)
  (kt_cs:W.kitOne K (.ref aComes) (.ref aSettles)=some false)
  (kt_ts:W.kitOne K (.ref aSettles) (.ref aClaim)=some true)
  {T1:Addr} {ocT1:Value} {odT1:Option Addr} {nT1:Nat} {slT1:Array (Option Value)} {tk1:Tok}
  {T13:Addr} {ocT13:Value} {odT13:Option Addr} {nT13:Nat} {slT13:Array (Option Value)} {tk13:Tok}
  {T16:Addr} {ocT16:Value} {odT16:Option Addr} {nT16:Nat} {slT16:Array (Option Value)} {tk16:Tok}
  (a0:W.nsIn K mainGlobals "is_whole" = some (some (.ref f0))) (l0:K.lookup f0=some ⟨oc0,od0,.func (W.fnOf "is_whole" "is_whole" (zn qp) (zl qp) (zL qp) .none kV0 dc0 pm0 an0 cd0 ct0),sl0⟩) (c0:W.codeIn K cd0 "is_whole" = true) (k0:W.keepIn K (.ref f0)=true)
  (a1:W.nsIn K mainGlobals "copied" = some (some (.ref f1))) (l1:K.lookup f1=some ⟨oc1,od1,.func (W.fnOf "copied" "copied" (zn vZ) (zl vZ) (zL vZ) (.ref T1) kV1 dc1 pm1 an1 cd1 ct1),sl1⟩) (c1:W.codeIn K cd1 "copied" = true) (k1:W.keepIn K (.ref f1)=true)
  (t1:K.lookup T1=some ⟨ocT1,odT1,.seq #[.int 5 tk1] nT1,slT1⟩)
  (a2:W.nsIn K mainGlobals "is_numbers" = some (some (.ref f2))) (l2:K.lookup f2=some ⟨oc2,od2,.func (W.fnOf "is_numbers" "is_numbers" (zn qq) (zl qq) (zL qq) .none kV2 dc2 pm2 an2 cd2 ct2),sl2⟩) (c2:W.codeIn K cd2 "is_numbers" = true) (k2:W.keepIn K (.ref f2)=true)
  (a3:W.nsIn K mainGlobals "is_table" = some (some (.ref f3))) (l3:K.lookup f3=some ⟨oc3,od3,.func (W.fnOf "is_table" "is_table" (zn qC) (zl qC) (zL qC) .none kV3 dc3 pm3 an3 cd3 ct3),sl3⟩) (c3:W.codeIn K cd3 "is_table" = true) (k3:W.keepIn K (.ref f3)=true)
  (a4:W.nsIn K mainGlobals "is_row" = some (some (.ref f4))) (l4:K.lookup f4=some ⟨oc4,od4,.func (W.fnOf "is_row" "is_row" (zn qr) (zl qr) (zL qr) .none kV4 dc4 pm4 an4 cd4 ct4),sl4⟩) (c4:W.codeIn K cd4 "is_row" = true) (k4:W.keepIn K (.ref f4)=true)
  (a5:W.nsIn K mainGlobals "is_room" = some (some (.ref f5))) (l5:K.lookup f5=some ⟨oc5,od5,.func (W.fnOf "is_room" "is_room" (zn qD) (zl qD) (zL qD) .none kV5 dc5 pm5 an5 cd5 ct5),sl5⟩) (c5:W.codeIn K cd5 "is_room" = true) (k5:W.keepIn K (.ref f5)=true)
  (a6:W.nsIn K mainGlobals "is_push" = some (some (.ref f6))) (l6:K.lookup f6=some ⟨oc6,od6,.func (W.fnOf "is_push" "is_push" (zn qt) (zl qt) (zL qt) .none kV6 dc6 pm6 an6 cd6 ct6),sl6⟩) (c6:W.codeIn K cd6 "is_push" = true) (k6:W.keepIn K (.ref f6)=true)
  (a7:W.findIn K (.ref af) "__init__" = some (some (.ref f7))) (i7:W.isFn K (.ref f7)=true) (l7:K.lookup f7=some ⟨oc7,od7,.func (W.fnOf "__init__" "Mode.__init__" (zn qu) (zl qu) (zL qu) .none kV7 dc7 pm7 an7 cd7 ct7),sl7⟩) (c7:W.codeIn K cd7 "Mode.__init__" = true) (k7:W.keepIn K (.ref f7)=true)
  (a8:W.nsIn K mainGlobals "is_mode" = some (some (.ref f8))) (l8:K.lookup f8=some ⟨oc8,od8,.func (W.fnOf "is_mode" "is_mode" (zn qw) (zl qw) (zL qw) .none kV8 dc8 pm8 an8 cd8 ct8),sl8⟩) (c8:W.codeIn K cd8 "is_mode" = true) (k8:W.keepIn K (.ref f8)=true)
  (a9:W.nsIn K mainGlobals "is_sound" = some (some (.ref f9))) (l9:K.lookup f9=some ⟨oc9,od9,.func (W.fnOf "is_sound" "is_sound" (zn qE) (zl qE) (zL qE) .none kV9 dc9 pm9 an9 cd9 ct9),sl9⟩) (c9:W.codeIn K cd9 "is_sound" = true) (k9:W.keepIn K (.ref f9)=true)
  (a10:W.findIn K (.ref au) "__init__" = some (some (.ref f10))) (i10:W.isFn K (.ref f10)=true) (l10:K.lookup f10=some ⟨oc10,od10,.func (W.fnOf "__init__" "Thing.__init__" (zn qx) (zl qx) (zL qx) .none kV10 dc10 pm10 an10 cd10 ct10),sl10⟩) (c10:W.codeIn K cd10 "Thing.__init__" = true) (k10:W.keepIn K (.ref f10)=true)
  (a11:W.findIn K (.ref au) "pushes" = some (some (.ref f11))) (i11:W.isFn K (.ref f11)=true) (l11:K.lookup f11=some ⟨oc11,od11,.func (W.fnOf "pushes" "Thing.pushes" (zn qy) (zl qy) (zL qy) .none kV11 dc11 pm11 an11 cd11 ct11),sl11⟩) (c11:W.codeIn K cd11 "Thing.pushes" = true) (k11:W.keepIn K (.ref f11)=true)
  (a12:W.findIn K (.ref au) "modes" = some (some (.ref f12))) (i12:W.isFn K (.ref f12)=true) (l12:K.lookup f12=some ⟨oc12,od12,.func (W.fnOf "modes" "Thing.modes" (zn qz) (zl qz) (zL qz) .none kV12 dc12 pm12 an12 cd12 ct12),sl12⟩) (c12:W.codeIn K cd12 "Thing.modes" = true) (k12:W.keepIn K (.ref f12)=true)
  (a13:W.findIn K (.ref ab) "__init__" = some (some (.ref f13))) (i13:W.isFn K (.ref f13)=true) (l13:K.lookup f13=some ⟨oc13,od13,.func (W.fnOf "__init__" "Straight.__init__" (zn q4) (zl q4) (zL q4) (.ref T13) kV13 dc13 pm13 an13 cd13 ct13),sl13⟩) (c13:W.codeIn K cd13 "Straight.__init__" = true) (k13:W.keepIn K (.ref f13)=true)
  (t13:K.lookup T13=some ⟨ocT13,odT13,.seq #[.int 1 tk13] nT13,slT13⟩)
  (a14:W.findIn K (.ref ae) "__init__" = some (some (.ref f14))) (i14:W.isFn K (.ref f14)=true) (l14:K.lookup f14=some ⟨oc14,od14,.func (W.fnOf "__init__" "Stopped.__init__" (zn q5) (zl q5) (zL q5) .none kV14 dc14 pm14 an14 cd14 ct14),sl14⟩) (c14:W.codeIn K cd14 "Stopped.__init__" = true) (k14:W.keepIn K (.ref f14)=true)
  (a15:W.findIn K (.ref ac) "__init__" = some (some (.ref f15))) (i15:W.isFn K (.ref f15)=true) (l15:K.lookup f15=some ⟨oc15,od15,.func (W.fnOf "__init__" "Parted.__init__" (zn q9) (zl q9) (zL q9) .none kV15 dc15 pm15 an15 cd15 ct15),sl15⟩) (c15:W.codeIn K cd15 "Parted.__init__" = true) (k15:W.keepIn K (.ref f15)=true)
  (a16:W.findIn K (.ref aSettles) "__init__" = some (some (.ref f16))) (i16:W.isFn K (.ref f16)=true) (l16:K.lookup f16=some ⟨oc16,od16,.func (W.fnOf "__init__" "Settles.__init__" (zn gA) (zl gA) (zL gA) (.ref T16) kV16 dc16 pm16 an16 cd16 ct16),sl16⟩) (c16:W.codeIn K cd16 "Settles.__init__" = true) (k16:W.keepIn K (.ref f16)=true)
  (t16:K.lookup T16=some ⟨ocT16,odT16,.seq #[.int 0 tk16] nT16,slT16⟩)
  (a17:W.findIn K (.ref aComes) "__init__" = some (some (.ref f17))) (i17:W.isFn K (.ref f17)=true) (l17:K.lookup f17=some ⟨oc17,od17,.func (W.fnOf "__init__" "Comes.__init__" (zn gB) (zl gB) (zL gB) .none kV17 dc17 pm17 an17 cd17 ct17),sl17⟩) (c17:W.codeIn K cd17 "Comes.__init__" = true) (k17:W.keepIn K (.ref f17)=true)
  (a18:W.nsIn K mainGlobals "show_words" = some (some (.ref f18))) (l18:K.lookup f18=some ⟨oc18,od18,.func (W.fnOf "show_words" "show_words" (zn gC) (zl gC) (zL gC) .none kV18 dc18 pm18 an18 cd18 ct18),sl18⟩) (c18:W.codeIn K cd18 "show_words" = true) (k18:W.keepIn K (.ref f18)=true)
  (a19:W.nsIn K mainGlobals "show_room" = some (some (.ref f19))) (l19:K.lookup f19=some ⟨oc19,od19,.func (W.fnOf "show_room" "show_room" (zn gD) (zl gD) (zL gD) .none kV19 dc19 pm19 an19 cd19 ct19),sl19⟩) (c19:W.codeIn K cd19 "show_room" = true) (k19:W.keepIn K (.ref f19)=true)
  (a20:W.nsIn K mainGlobals "split_text" = some (some (.ref f20))) (l20:K.lookup f20=some ⟨oc20,od20,.func (W.fnOf "split_text" "split_text" (zn gE) (zl gE) (zL gE) .none kV20 dc20 pm20 an20 cd20 ct20),sl20⟩) (c20:W.codeIn K cd20 "split_text" = true) (k20:W.keepIn K (.ref f20)=true)
  (a21:W.nsIn K mainGlobals "are_figures" = some (some (.ref f21))) (l21:K.lookup f21=some ⟨oc21,od21,.func (W.fnOf "are_figures" "are_figures" (zn gF) (zl gF) (zL gF) .none kV21 dc21 pm21 an21 cd21 ct21),sl21⟩) (c21:W.codeIn K cd21 "are_figures" = true) (k21:W.keepIn K (.ref f21)=true)
  (a22:W.nsIn K mainGlobals "read_number" = some (some (.ref f22))) (l22:K.lookup f22=some ⟨oc22,od22,.func (W.fnOf "read_number" "read_number" (zn gG) (zl gG) (zL gG) .none kV22 dc22 pm22 an22 cd22 ct22),sl22⟩) (c22:W.codeIn K cd22 "read_number" = true) (k22:W.keepIn K (.ref f22)=true)
  (a23:W.nsIn K mainGlobals "read_numbers" = some (some (.ref f23))) (l23:K.lookup f23=some ⟨oc23,od23,.func (W.fnOf "read_numbers" "read_numbers" (zn gH) (zl gH) (zL gH) .none kV23 dc23 pm23 an23 cd23 ct23),sl23⟩) (c23:W.codeIn K cd23 "read_numbers" = true) (k23:W.keepIn K (.ref f23)=true)
  (a24:W.nsIn K mainGlobals "read_tuples" = some (some (.ref f24))) (l24:K.lookup f24=some ⟨oc24,od24,.func (W.fnOf "read_tuples" "read_tuples" (zn qF) (zl qF) (zL qF) .none kV24 dc24 pm24 an24 cd24 ct24),sl24⟩) (c24:W.codeIn K cd24 "read_tuples" = true) (k24:W.keepIn K (.ref f24)=true)
  (a25:W.nsIn K mainGlobals "read_room" = some (some (.ref f25))) (l25:K.lookup f25=some ⟨oc25,od25,.func (W.fnOf "read_room" "read_room" (zn gI) (zl gI) (zL gI) .none kV25 dc25 pm25 an25 cd25 ct25),sl25⟩) (c25:W.codeIn K cd25 "read_room" = true) (k25:W.keepIn K (.ref f25)=true)
  (a26:W.nsIn K mainGlobals "show_rule" = some (some (.ref f26))) (l26:K.lookup f26=some ⟨oc26,od26,.func (W.fnOf "show_rule" "show_rule" (zn gJ) (zl gJ) (zL gJ) .none kV26 dc26 pm26 an26 cd26 ct26),sl26⟩) (c26:W.codeIn K cd26 "show_rule" = true) (k26:W.keepIn K (.ref f26)=true)
  (a27:W.nsIn K mainGlobals "show_claim" = some (some (.ref f27))) (l27:K.lookup f27=some ⟨oc27,od27,.func (W.fnOf "show_claim" "show_claim" (zn gK) (zl gK) (zL gK) .none kV27 dc27 pm27 an27 cd27 ct27),sl27⟩) (c27:W.codeIn K cd27 "show_claim" = true) (k27:W.keepIn K (.ref f27)=true)
  (a28:W.nsIn K mainGlobals "mode_lines" = some (some (.ref f28))) (l28:K.lookup f28=some ⟨oc28,od28,.func (W.fnOf "mode_lines" "mode_lines" (zn gO) (zl gO) (zL gO) .none kV28 dc28 pm28 an28 cd28 ct28),sl28⟩) (c28:W.codeIn K cd28 "mode_lines" = true) (k28:W.keepIn K (.ref f28)=true)
  (a29:W.nsIn K mainGlobals "show_thing" = some (some (.ref f29))) (l29:K.lookup f29=some ⟨oc29,od29,.func (W.fnOf "show_thing" "show_thing" (zn gP) (zl gP) (zL gP) .none kV29 dc29 pm29 an29 cd29 ct29),sl29⟩) (c29:W.codeIn K cd29 "show_thing" = true) (k29:W.keepIn K (.ref f29)=true)
  (a30:W.nsIn K mainGlobals "taken" = some (some (.ref f30))) (l30:K.lookup f30=some ⟨oc30,od30,.func (W.fnOf "taken" "taken" (zn qL) (zl qL) (zL qL) .none kV30 dc30 pm30 an30 cd30 ct30),sl30⟩) (c30:W.codeIn K cd30 "taken" = true) (k30:W.keepIn K (.ref f30)=true)
  (a31:W.nsIn K mainGlobals "ask_number" = some (some (.ref f31))) (l31:K.lookup f31=some ⟨oc31,od31,.func (W.fnOf "ask_number" "ask_number" (zn gQ) (zl gQ) (zL gQ) .none kV31 dc31 pm31 an31 cd31 ct31),sl31⟩) (c31:W.codeIn K cd31 "ask_number" = true) (k31:W.keepIn K (.ref f31)=true)
  (a32:W.nsIn K mainGlobals "ask_rule" = some (some (.ref f32))) (l32:K.lookup f32=some ⟨oc32,od32,.func (W.fnOf "ask_rule" "ask_rule" (zn gR) (zl gR) (zL gR) .none kV32 dc32 pm32 an32 cd32 ct32),sl32⟩) (c32:W.codeIn K cd32 "ask_rule" = true) (k32:W.keepIn K (.ref f32)=true)
  (a33:W.nsIn K mainGlobals "straight_ahead" = some (some (.ref f33))) (l33:K.lookup f33=some ⟨oc33,od33,.func (W.fnOf "straight_ahead" "straight_ahead" (zn gS) (zl gS) (zL gS) .none kV33 dc33 pm33 an33 cd33 ct33),sl33⟩) (c33:W.codeIn K cd33 "straight_ahead" = true) (k33:W.keepIn K (.ref f33)=true)
  (a34:W.nsIn K mainGlobals "stopped_ahead" = some (some (.ref f34))) (l34:K.lookup f34=some ⟨oc34,od34,.func (W.fnOf "stopped_ahead" "stopped_ahead" (zn gT) (zl gT) (zL gT) .none kV34 dc34 pm34 an34 cd34 ct34),sl34⟩) (c34:W.codeIn K cd34 "stopped_ahead" = true) (k34:W.keepIn K (.ref f34)=true)
  (a35:W.nsIn K mainGlobals "parted_ahead" = some (some (.ref f35))) (l35:K.lookup f35=some ⟨oc35,od35,.func (W.fnOf "parted_ahead" "parted_ahead" (zn gU) (zl gU) (zL gU) .none kV35 dc35 pm35 an35 cd35 ct35),sl35⟩) (c35:W.codeIn K cd35 "parted_ahead" = true) (k35:W.keepIn K (.ref f35)=true)
  (a36:W.nsIn K mainGlobals "read_rule" = some (some (.ref f36))) (l36:K.lookup f36=some ⟨oc36,od36,.func (W.fnOf "read_rule" "read_rule" (zn gW) (zl gW) (zL gW) .none kV36 dc36 pm36 an36 cd36 ct36),sl36⟩) (c36:W.codeIn K cd36 "read_rule" = true) (k36:W.keepIn K (.ref f36)=true)
  (a37:W.nsIn K mainGlobals "read_claim" = some (some (.ref f37))) (l37:K.lookup f37=some ⟨oc37,od37,.func (W.fnOf "read_claim" "read_claim" (zn gZ) (zl gZ) (zL gZ) .none kV37 dc37 pm37 an37 cd37 ct37),sl37⟩) (c37:W.codeIn K cd37 "read_claim" = true) (k37:W.keepIn K (.ref f37)=true)
  (a38:W.nsIn K mainGlobals "numbers_behind" = some (some (.ref f38))) (l38:K.lookup f38=some ⟨oc38,od38,.func (W.fnOf "numbers_behind" "numbers_behind" (zn ga) (zl ga) (zL ga) .none kV38 dc38 pm38 an38 cd38 ct38),sl38⟩) (c38:W.codeIn K cd38 "numbers_behind" = true) (k38:W.keepIn K (.ref f38)=true)
  (a39:W.nsIn K mainGlobals "mode_blocks" = some (some (.ref f39))) (l39:K.lookup f39=some ⟨oc39,od39,.func (W.fnOf "mode_blocks" "mode_blocks" (zn gb) (zl gb) (zL gb) .none kV39 dc39 pm39 an39 cd39 ct39),sl39⟩) (c39:W.codeIn K cd39 "mode_blocks" = true) (k39:W.keepIn K (.ref f39)=true)
  (a40:W.nsIn K mainGlobals "read_mode" = some (some (.ref f40))) (l40:K.lookup f40=some ⟨oc40,od40,.func (W.fnOf "read_mode" "read_mode" (zn uO) (zl uO) (zL uO) .none kV40 dc40 pm40 an40 cd40 ct40),sl40⟩) (c40:W.codeIn K cd40 "read_mode" = true) (k40:W.keepIn K (.ref f40)=true)
  (a41:W.nsIn K mainGlobals "read_thing" = some (some (.ref f41))) (l41:K.lookup f41=some ⟨oc41,od41,.func (W.fnOf "read_thing" "read_thing" (zn qN) (zl qN) (zL qN) .none kV41 dc41 pm41 an41 cd41 ct41),sl41⟩) (c41:W.codeIn K cd41 "read_thing" = true) (k41:W.keepIn K (.ref f41)=true)
  (a42:W.nsIn K mainGlobals "_law_cell_at" = some (some (.ref f42))) (l42:K.lookup f42=some ⟨oc42,od42,.func (W.fnOf "_law_cell_at" "_law_cell_at" (zn gd) (zl gd) (zL gd) .none kV42 dc42 pm42 an42 cd42 ct42),sl42⟩) (c42:W.codeIn K cd42 "_law_cell_at" = true) (k42:W.keepIn K (.ref f42)=true)
  (a43:W.nsIn K mainGlobals "_law_stream" = some (some (.ref f43))) (l43:K.lookup f43=some ⟨oc43,od43,.func (W.fnOf "_law_stream" "_law_stream" (zn gf) (zl gf) (zL gf) .none kV43 dc43 pm43 an43 cd43 ct43),sl43⟩) (c43:W.codeIn K cd43 "_law_stream" = true) (k43:W.keepIn K (.ref f43)=true)
  (a44:W.nsIn K mainGlobals "_law_number" = some (some (.ref f44))) (l44:K.lookup f44=some ⟨oc44,od44,.func (W.fnOf "_law_number" "_law_number" (zn jg) (zl jg) (zL jg) .none kV44 dc44 pm44 an44 cd44 ct44),sl44⟩) (c44:W.codeIn K cd44 "_law_number" = true) (k44:W.keepIn K (.ref f44)=true)
  (a45:W.nsIn K mainGlobals "_law_words" = some (some (.ref f45))) (l45:K.lookup f45=some ⟨oc45,od45,.func (W.fnOf "_law_words" "_law_words" (zn gg) (zl gg) (zL gg) .none kV45 dc45 pm45 an45 cd45 ct45),sl45⟩) (c45:W.codeIn K cd45 "_law_words" = true) (k45:W.keepIn K (.ref f45)=true)
  (a46:W.nsIn K mainGlobals "_law_leaf" = some (some (.ref f46))) (l46:K.lookup f46=some ⟨oc46,od46,.func (W.fnOf "_law_leaf" "_law_leaf" (zn gh) (zl gh) (zL gh) .none kV46 dc46 pm46 an46 cd46 ct46),sl46⟩) (c46:W.codeIn K cd46 "_law_leaf" = true) (k46:W.keepIn K (.ref f46)=true)
  (a47:W.nsIn K mainGlobals "_law_tree" = some (some (.ref f47))) (l47:K.lookup f47=some ⟨oc47,od47,.func (W.fnOf "_law_tree" "_law_tree" (zn gi) (zl gi) (zL gi) .none kV47 dc47 pm47 an47 cd47 ct47),sl47⟩) (c47:W.codeIn K cd47 "_law_tree" = true) (k47:W.keepIn K (.ref f47)=true)
  (a48:W.nsIn K mainGlobals "_law_rule" = some (some (.ref f48))) (l48:K.lookup f48=some ⟨oc48,od48,.func (W.fnOf "_law_rule" "_law_rule" (zn gj) (zl gj) (zL gj) .none kV48 dc48 pm48 an48 cd48 ct48),sl48⟩) (c48:W.codeIn K cd48 "_law_rule" = true) (k48:W.keepIn K (.ref f48)=true)
  (a49:W.nsIn K mainGlobals "_law_rule_text" = some (some (.ref f49))) (l49:K.lookup f49=some ⟨oc49,od49,.func (W.fnOf "_law_rule_text" "_law_rule_text" (zn gk) (zl gk) (zL gk) .none kV49 dc49 pm49 an49 cd49 ct49),sl49⟩) (c49:W.codeIn K cd49 "_law_rule_text" = true) (k49:W.keepIn K (.ref f49)=true)
  (a50:W.nsIn K mainGlobals "_law_same_rule" = some (some (.ref f50))) (l50:K.lookup f50=some ⟨oc50,od50,.func (W.fnOf "_law_same_rule" "_law_same_rule" (zn gl) (zl gl) (zL gl) .none kV50 dc50 pm50 an50 cd50 ct50),sl50⟩) (c50:W.codeIn K cd50 "_law_same_rule" = true) (k50:W.keepIn K (.ref f50)=true)
  (a51:W.nsIn K mainGlobals "_law_rows" = some (some (.ref f51))) (l51:K.lookup f51=some ⟨oc51,od51,.func (W.fnOf "_law_rows" "_law_rows" (zn qQ) (zl qQ) (zL qQ) .none kV51 dc51 pm51 an51 cd51 ct51),sl51⟩) (c51:W.codeIn K cd51 "_law_rows" = true) (k51:W.keepIn K (.ref f51)=true)
  (a52:W.nsIn K mainGlobals "_law_room_text" = some (some (.ref f52))) (l52:K.lookup f52=some ⟨oc52,od52,.func (W.fnOf "_law_room_text" "_law_room_text" (zn gv) (zl gv) (zL gv) .none kV52 dc52 pm52 an52 cd52 ct52),sl52⟩) (c52:W.codeIn K cd52 "_law_room_text" = true) (k52:W.keepIn K (.ref f52)=true)
  (a53:W.nsIn K mainGlobals "_law_claims" = some (some (.ref f53))) (l53:K.lookup f53=some ⟨oc53,od53,.func (W.fnOf "_law_claims" "_law_claims" (zn gw) (zl gw) (zL gw) .none kV53 dc53 pm53 an53 cd53 ct53),sl53⟩) (c53:W.codeIn K cd53 "_law_claims" = true) (k53:W.keepIn K (.ref f53)=true)
  (a54:W.nsIn K mainGlobals "_law_parts" = some (some (.ref f54))) (l54:K.lookup f54=some ⟨oc54,od54,.func (W.fnOf "_law_parts" "_law_parts" (zn jI) (zl jI) (zL jI) .none kV54 dc54 pm54 an54 cd54 ct54),sl54⟩) (c54:W.codeIn K cd54 "_law_parts" = true) (k54:W.keepIn K (.ref f54)=true)
  (a55:W.nsIn K mainGlobals "_law_thing_text" = some (some (.ref f55))) (l55:K.lookup f55=some ⟨oc55,od55,.func (W.fnOf "_law_thing_text" "_law_thing_text" (zn gz) (zl gz) (zL gz) .none kV55 dc55 pm55 an55 cd55 ct55),sl55⟩) (c55:W.codeIn K cd55 "_law_thing_text" = true) (k55:W.keepIn K (.ref f55)=true)
  (a56:W.nsIn K mainGlobals "_law_things" = some (some (.ref f56))) (l56:K.lookup f56=some ⟨oc56,od56,.func (W.fnOf "_law_things" "_law_things" (zn qR) (zl qR) (zL qR) .none kV56 dc56 pm56 an56 cd56 ct56),sl56⟩) (c56:W.codeIn K cd56 "_law_things" = true) (k56:W.keepIn K (.ref f56)=true)
  (a57:W.nsIn K mainGlobals "law" = some (some (.ref f57))) (l57:K.lookup f57=some ⟨oc57,od57,.func (W.fnOf "law" "law" (zn jJ) (zl jJ) (zL jJ) .none kV57 dc57 pm57 an57 cd57 ct57),sl57⟩) (c57:W.codeIn K cd57 "law" = true) (k57:W.keepIn K (.ref f57)=true)
  (z0:W.nsIn K mainGlobals "isinstance" = some none)
  (z1:W.nsIn K mainGlobals "int" = some none)
  (z2:W.nsIn K mainGlobals "bool" = some none)
  (z3:W.nsIn K mainGlobals "tuple" = some none)
  (z4:W.nsIn K mainGlobals "len" = some none)
  (z5:W.nsIn K mainGlobals "abs" = some none)
  (z6:W.nsIn K mainGlobals "list" = some none)
  (z7:W.nsIn K mainGlobals "range" = some none)
  (z8:W.nsIn K mainGlobals "max" = some none)
  (z9:W.nsIn K mainGlobals "min" = some none)
  (z10:W.nsIn K mainGlobals "all" = some none)
  (z11:W.nsIn K mainGlobals "str" = some none)
  (z12:W.nsIn K mainGlobals "enumerate" = some none)
  (z13:W.nsIn K mainGlobals "reversed" = some none)
  {gt0:Tok} (cst0:W.nsIn K mainGlobals "FIGURES" = some (some (.str (Str.ofString "0123456789") gt0)))
  {gt1:Tok} (cst1:W.nsIn K mainGlobals "MOST_FIGURES" = some (some (.int 60 gt1)))
  {gt2:Tok} (cst2:W.nsIn K mainGlobals "NO_ROWS" = some (some (.str (Str.ofString "all") gt2)))
  {gt3:Tok} (cst3:W.nsIn K mainGlobals "ROW_BREAK" = some (some (.str (Str.ofString ", ") gt3)))
  {gt4:Tok} (cst4:W.nsIn K mainGlobals "PART_BREAK" = some (some (.str (Str.ofString " | ") gt4)))
  {gt5:Tok} (cst5:W.nsIn K mainGlobals "MOST_NUMBERS" = some (some (.int 3 gt5)))
  {gt6:Tok} (cst6:W.nsIn K mainGlobals "MOST_PUSHES" = some (some (.int 6 gt6)))
  {gt7:Tok} (cst7:W.nsIn K mainGlobals "MOST_MODES" = some (some (.int 40 gt7)))
  : ∃ fd:FuncData,(∀ (s:Shared) (v:Value),BindsTo s fd ⟨[v],[]⟩ [("_law_script",v)])/\∀ base:Heap,K.In base->base.Ns mainGlobals mg->zJ l.prog w K mg base zh 12 fa fd ["_law_script"] (kb K):=by
 have e:=hfa.symm.trans (W.mg_of X G a57)
 cases e
 have B:Bl mg:=⟨W.mg_none_of X G z0,W.mg_none_of X G z1,W.mg_none_of X G z2,W.mg_none_of X G z3,W.mg_none_of X G z4,W.mg_none_of X G z5,W.mg_none_of X G z6,W.mg_none_of X G z7,W.mg_none_of X G z8,W.mg_none_of X G z9,W.mg_none_of X G z10,W.mg_none_of X G z11,W.mg_none_of X G z12,W.mg_none_of X G z13,⟨_,W.mg_of X G cst0⟩,⟨_,W.mg_of X G cst1⟩,⟨_,W.mg_of X G cst2⟩,⟨_,W.mg_of X G cst3⟩,⟨_,W.mg_of X G cst4⟩,⟨_,W.mg_of X G cst5⟩,⟨_,W.mg_of X G cst6⟩,⟨_,W.mg_of X G cst7⟩⟩
 have TClaim:zF K mg "Claim" aClaim:=⟨⟨pg_Claim,hd_Claim,po_Claim,sa_Claim⟩,W.mg_of X G nm_Claim,ha_Claim,hn_Claim,tk_Claim,hm_Claim⟩
 have AClaim:wY K aClaim:=⟨True.intro⟩
 have TSettles:zF K mg "Settles" aSettles:=⟨⟨pg_Settles,hd_Settles,po_Settles,sa_Settles⟩,W.mg_of X G nm_Settles,ha_Settles,hn_Settles,tk_Settles,hm_Settles⟩
 have ASettles:wb K aSettles:=⟨n_start_Settles,n_rows_Settles,n_turn_Settles⟩
 have TComes:zF K mg "Comes" aComes:=⟨⟨pg_Comes,hd_Comes,po_Comes,sa_Comes⟩,W.mg_of X G nm_Comes,ha_Comes,hn_Comes,tk_Comes,hm_Comes⟩
 have AComes:wf K aComes:=⟨n_start_Comes,n_goal_Comes,n_turns_Comes⟩
 have TRule:zF K mg "Rule" aRule:=⟨⟨pg_Rule,hd_Rule,po_Rule,sa_Rule⟩,W.mg_of X G nm_Rule,ha_Rule,hn_Rule,tk_Rule,hm_Rule⟩
 have ARule:wg K aRule:=⟨True.intro⟩
 have aj:zF K mg "Straight" ab:=⟨⟨bc,be,bf,bg⟩,W.mg_of X G bb,bn,bo,bp,bq⟩
 have ap:wj K ab:=⟨br,bu,bw⟩
 have ak:zF K mg "Stopped" ae:=⟨⟨bB,bC,bD,bE⟩,W.mg_of X G bA,bH,bI,bJ,bK⟩
 have aq:wk K ae:=⟨bL,bM,bN⟩
 have ai:zF K mg "Parted" ac:=⟨⟨bP,bQ,bR,bS⟩,W.mg_of X G bO,bV,bW,bX,bY⟩
 have ao:wm K ac:=⟨bZ,cb,cf⟩
 have ag:zF K mg "Mode" af:=⟨⟨ci,cj,ck,cm⟩,W.mg_of X G cg,cr,cu,cv,cw⟩
 have ah:wn K af:=⟨cx,cy,cz,cA,cB,cC⟩
 have am:zF K mg "Thing" au:=⟨⟨cE,cF,cG,cH⟩,W.mg_of X G cD,cK,cL,cM,cN⟩
 have ar:wo K au:=⟨cO,cP,cQ⟩
 have Y:wp K aRule ab ae ac aClaim aSettles aComes:=⟨cR,cS,cT,cU,cV,kt_t1,kt_t2,kt_t3,kt_iR,kt_sc,kt_cs,kt_ts⟩
 have F0:=yM (st:=qp) l0 c0 k0
 have b0:=F0.binds (ps:=["thing"]) λ_ _ _ _ _ _ us hl=>by revert us; exact L2.xj (λ_=>rfl)
 have F1:=Yt (st:=vZ) l1 c1 k1 t1 rfl
 have b1:=F1.binds (ps:=["value","depth"]) λ_ _ _ _ _ _ _ us hl=>by revert us; exact L2.x9 (λ_ _=>⟨_,rfl,rfl⟩)
 have bd1:=F1.binds1 (ps:=["value","depth"]) λ_ _ _ _ _ _ _ us hl=>match us,hl with | [_],_=>⟨_,rfl,rfl⟩
 have F2:=yM (st:=qq) l2 c2 k2
 have b2:=F2.binds (ps:=["value","count"]) λ_ _ _ _ _ _ us hl=>by revert us; exact L2.x9 (λ_ _=>rfl)
 have F3:=yM (st:=qC) l3 c3 k3
 have b3:=F3.binds (ps:=["value","tall","wide"]) λ_ _ _ _ _ _ us hl=>by revert us; exact L2.jk (λ_ _ _=>rfl)
 have F4:=yM (st:=qr) l4 c4 k4
 have b4:=F4.binds (ps:=["value","many"]) λ_ _ _ _ _ _ us hl=>by revert us; exact L2.x9 (λ_ _=>rfl)
 have F5:=yM (st:=qD) l5 c5 k5
 have b5:=F5.binds (ps:=["value","many"]) λ_ _ _ _ _ _ us hl=>by revert us; exact L2.x9 (λ_ _=>rfl)
 have F6:=yM (st:=qt) l6 c6 k6
 have b6:=F6.binds (ps:=["value"]) λ_ _ _ _ _ _ us hl=>by revert us; exact L2.xj (λ_=>rfl)
 have F7:=yM (st:=qu) l7 c7 k7
 have b7:=F7.binds (ps:=["self","rows","nexts","steer","push","add","divisor"]) λ_ _ _ _ _ _ us hl=>by revert us; exact L2.zNC (λ_ _ _ _ _ _ _=>rfl)
 have F8:=yM (st:=qw) l8 c8 k8
 have b8:=F8.binds (ps:=["value","many","wide"]) λ_ _ _ _ _ _ us hl=>by revert us; exact L2.jk (λ_ _ _=>rfl)
 have F9:=yM (st:=qE) l9 c9 k9
 have b9:=F9.binds (ps:=["many","pushes","modes"]) λ_ _ _ _ _ _ us hl=>by revert us; exact L2.jk (λ_ _ _=>rfl)
 have F10:=yM (st:=qx) l10 c10 k10
 have b10:=F10.binds (ps:=["self","many","pushes","modes"]) λ_ _ _ _ _ _ us hl=>by revert us; exact L2.g6 (λ_ _ _ _=>rfl)
 have F11:=yM (st:=qy) l11 c11 k11
 have b11:=F11.binds (ps:=["self"]) λ_ _ _ _ _ _ us hl=>by revert us; exact L2.xj (λ_=>rfl)
 have F12:=yM (st:=qz) l12 c12 k12
 have b12:=F12.binds (ps:=["self"]) λ_ _ _ _ _ _ us hl=>by revert us; exact L2.xj (λ_=>rfl)
 have F13:=Yt (st:=q4) l13 c13 k13 t13 rfl
 have b13:=F13.binds (ps:=["self","numbers","add","divisor"]) λ_ _ _ _ _ _ _ us hl=>by revert us; exact L2.g6 (λ_ _ _ _=>⟨_,rfl,rfl⟩)
 have bd13:=F13.binds1 (ps:=["self","numbers","add","divisor"]) λ_ _ _ _ _ _ _ us hl=>match us,hl with | [_,_,_],_=>⟨_,rfl,rfl⟩
 have F14:=yM (st:=q5) l14 c14 k14
 have b14:=F14.binds (ps:=["self","rule","low","high"]) λ_ _ _ _ _ _ us hl=>by revert us; exact L2.g6 (λ_ _ _ _=>rfl)
 have F15:=yM (st:=q9) l15 c15 k15
 have b15:=F15.binds (ps:=["self","row","rule","other"]) λ_ _ _ _ _ _ us hl=>by revert us; exact L2.g6 (λ_ _ _ _=>rfl)
 have F16:=Yt (st:=gA) l16 c16 k16 t16 rfl
 have b16:=F16.binds (ps:=["self","start","rows","turn"]) λ_ _ _ _ _ _ _ us hl=>by revert us; exact L2.g6 (λ_ _ _ _=>⟨_,rfl,rfl⟩)
 have bd16:=F16.binds1 (ps:=["self","start","rows","turn"]) λ_ _ _ _ _ _ _ us hl=>match us,hl with | [_,_,_],_=>⟨_,rfl,rfl⟩
 have F17:=yM (st:=gB) l17 c17 k17
 have b17:=F17.binds (ps:=["self","start","goal","turns"]) λ_ _ _ _ _ _ us hl=>by revert us; exact L2.g6 (λ_ _ _ _=>rfl)
 have F18:=yM (st:=gC) l18 c18 k18
 have b18:=F18.binds (ps:=["words"]) λ_ _ _ _ _ _ us hl=>by revert us; exact L2.xj (λ_=>rfl)
 have F19:=yM (st:=gD) l19 c19 k19
 have b19:=F19.binds (ps:=["room"]) λ_ _ _ _ _ _ us hl=>by revert us; exact L2.xj (λ_=>rfl)
 have F20:=yM (st:=gE) l20 c20 k20
 have b20:=F20.binds (ps:=["text","separator"]) λ_ _ _ _ _ _ us hl=>by revert us; exact L2.x9 (λ_ _=>rfl)
 have F21:=yM (st:=gF) l21 c21 k21
 have b21:=F21.binds (ps:=["text"]) λ_ _ _ _ _ _ us hl=>by revert us; exact L2.xj (λ_=>rfl)
 have F22:=yM (st:=gG) l22 c22 k22
 have b22:=F22.binds (ps:=["text"]) λ_ _ _ _ _ _ us hl=>by revert us; exact L2.xj (λ_=>rfl)
 have F23:=yM (st:=gH) l23 c23 k23
 have b23:=F23.binds (ps:=["words","count"]) λ_ _ _ _ _ _ us hl=>by revert us; exact L2.x9 (λ_ _=>rfl)
 have F24:=yM (st:=qF) l24 c24 k24
 have b24:=F24.binds (ps:=["text","count"]) λ_ _ _ _ _ _ us hl=>by revert us; exact L2.x9 (λ_ _=>rfl)
 have F25:=yM (st:=gI) l25 c25 k25
 have b25:=F25.binds (ps:=["text","many"]) λ_ _ _ _ _ _ us hl=>by revert us; exact L2.x9 (λ_ _=>rfl)
 have F26:=yM (st:=gJ) l26 c26 k26
 have b26:=F26.binds (ps:=["rule"]) λ_ _ _ _ _ _ us hl=>by revert us; exact L2.xj (λ_=>rfl)
 have F27:=yM (st:=gK) l27 c27 k27
 have b27:=F27.binds (ps:=["claim"]) λ_ _ _ _ _ _ us hl=>by revert us; exact L2.xj (λ_=>rfl)
 have F28:=yM (st:=gO) l28 c28 k28
 have b28:=F28.binds (ps:=["mode"]) λ_ _ _ _ _ _ us hl=>by revert us; exact L2.xj (λ_=>rfl)
 have F29:=yM (st:=gP) l29 c29 k29
 have b29:=F29.binds (ps:=["thing"]) λ_ _ _ _ _ _ us hl=>by revert us; exact L2.xj (λ_=>rfl)
 have F30:=yM (st:=qL) l30 c30 k30
 have b30:=F30.binds (ps:=["behind","count"]) λ_ _ _ _ _ _ us hl=>by revert us; exact L2.x9 (λ_ _=>rfl)
 have F31:=yM (st:=gQ) l31 c31 k31
 have b31:=F31.binds (ps:=["value"]) λ_ _ _ _ _ _ us hl=>by revert us; exact L2.xj (λ_=>rfl)
 have F32:=yM (st:=gR) l32 c32 k32
 have b32:=F32.binds (ps:=["value"]) λ_ _ _ _ _ _ us hl=>by revert us; exact L2.xj (λ_=>rfl)
 have F33:=yM (st:=gS) l33 c33 k33
 have b33:=F33.binds (ps:=["behind","many"]) λ_ _ _ _ _ _ us hl=>by revert us; exact L2.x9 (λ_ _=>rfl)
 have F34:=yM (st:=gT) l34 c34 k34
 have b34:=F34.binds (ps:=["behind"]) λ_ _ _ _ _ _ us hl=>by revert us; exact L2.xj (λ_=>rfl)
 have F35:=yM (st:=gU) l35 c35 k35
 have b35:=F35.binds (ps:=["behind","many"]) λ_ _ _ _ _ _ us hl=>by revert us; exact L2.x9 (λ_ _=>rfl)
 have F36:=yM (st:=gW) l36 c36 k36
 have b36:=F36.binds (ps:=["text","many"]) λ_ _ _ _ _ _ us hl=>by revert us; exact L2.x9 (λ_ _=>rfl)
 have F37:=yM (st:=gZ) l37 c37 k37
 have b37:=F37.binds (ps:=["text","many"]) λ_ _ _ _ _ _ us hl=>by revert us; exact L2.x9 (λ_ _=>rfl)
 have F38:=yM (st:=ga) l38 c38 k38
 have b38:=F38.binds (ps:=["words","name","count"]) λ_ _ _ _ _ _ us hl=>by revert us; exact L2.jk (λ_ _ _=>rfl)
 have F39:=yM (st:=gb) l39 c39 k39
 have b39:=F39.binds (ps:=["lines"]) λ_ _ _ _ _ _ us hl=>by revert us; exact L2.xj (λ_=>rfl)
 have F40:=yM (st:=uO) l40 c40 k40
 have b40:=F40.binds (ps:=["block","many","wide"]) λ_ _ _ _ _ _ us hl=>by revert us; exact L2.jk (λ_ _ _=>rfl)
 have F41:=yM (st:=qN) l41 c41 k41
 have b41:=F41.binds (ps:=["text"]) λ_ _ _ _ _ _ us hl=>by revert us; exact L2.xj (λ_=>rfl)
 have F42:=yM (st:=gd) l42 c42 k42
 have b42:=F42.binds (ps:=["_law_script","_law_k"]) λ_ _ _ _ _ _ us hl=>by revert us; exact L2.x9 (λ_ _=>rfl)
 have F43:=yM (st:=gf) l43 c43 k43
 have b43:=F43.binds (ps:=["_law_cell","_law_many"]) λ_ _ _ _ _ _ us hl=>by revert us; exact L2.x9 (λ_ _=>rfl)
 have F44:=yM (st:=jg) l44 c44 k44
 have b44:=F44.binds (ps:=["_law_number_here"]) λ_ _ _ _ _ _ us hl=>by revert us; exact L2.xj (λ_=>rfl)
 have F45:=yM (st:=gg) l45 c45 k45
 have b45:=F45.binds (ps:=["_law_numbers"]) λ_ _ _ _ _ _ us hl=>by revert us; exact L2.xj (λ_=>rfl)
 have F46:=yM (st:=gh) l46 c46 k46
 have b46:=F46.binds (ps:=["_law_cell","_law_many"]) λ_ _ _ _ _ _ us hl=>by revert us; exact L2.x9 (λ_ _=>rfl)
 have F47:=yM (st:=gi) l47 c47 k47
 have b47:=F47.binds (ps:=["_law_cells","_law_many"]) λ_ _ _ _ _ _ us hl=>by revert us; exact L2.x9 (λ_ _=>rfl)
 have F48:=yM (st:=gj) l48 c48 k48
 have b48:=F48.binds (ps:=["_law_tree_here"]) λ_ _ _ _ _ _ us hl=>by revert us; exact L2.xj (λ_=>rfl)
 have F49:=yM (st:=gk) l49 c49 k49
 have b49:=F49.binds (ps:=["_law_tree_here"]) λ_ _ _ _ _ _ us hl=>by revert us; exact L2.xj (λ_=>rfl)
 have F50:=yM (st:=gl) l50 c50 k50
 have b50:=F50.binds (ps:=["_law_rule_here","_law_tree_here"]) λ_ _ _ _ _ _ us hl=>by revert us; exact L2.x9 (λ_ _=>rfl)
 have F51:=yM (st:=qQ) l51 c51 k51
 have b51:=F51.binds (ps:=["_law_cell","_law_many","_law_count"]) λ_ _ _ _ _ _ us hl=>by revert us; exact L2.jk (λ_ _ _=>rfl)
 have F52:=yM (st:=gv) l52 c52 k52
 have b52:=F52.binds (ps:=["_law_room"]) λ_ _ _ _ _ _ us hl=>by revert us; exact L2.xj (λ_=>rfl)
 have F53:=yM (st:=gw) l53 c53 k53
 have b53:=F53.binds (ps:=["_law_script","_law_many"]) λ_ _ _ _ _ _ us hl=>by revert us; exact L2.x9 (λ_ _=>rfl)
 have F54:=yM (st:=jI) l54 c54 k54
 have b54:=F54.binds (ps:=["_law_cell","_law_many","_law_wide"]) λ_ _ _ _ _ _ us hl=>by revert us; exact L2.jk (λ_ _ _=>rfl)
 have F55:=yM (st:=gz) l55 c55 k55
 have b55:=F55.binds (ps:=["_law_many","_law_pushes","_law_some"]) λ_ _ _ _ _ _ us hl=>by revert us; exact L2.jk (λ_ _ _=>rfl)
 have F56:=yM (st:=qR) l56 c56 k56
 have b56:=F56.binds (ps:=["_law_script","_law_many"]) λ_ _ _ _ _ _ us hl=>by revert us; exact L2.x9 (λ_ _=>rfl)
 have F57:=yM (st:=jJ) l57 c57 k57
 have b57:=F57.binds (ps:=["_law_script"]) λ_ _ _ _ _ _ us hl=>by revert us; exact L2.xj (λ_=>rfl)
 refine ⟨W.fnOf "law" "law" (zn jJ) (zl jJ) (zL jJ) .none kV57 dc57 pm57 an57 cd57 ct57,λs v=>.of_eq rfl,λbase _ _=>?_⟩
 have N0:Fn l.prog w K mg base "is_whole" ["thing"] 1 jS:=⟨_,_,K7 (k:=0) TClaim AClaim TSettles ASettles TComes AComes TRule ARule aj ap ak aq ai ao ag ah am ar Y F0 B ,W.mg_of X G a0,k0,b0⟩
 have N1_n:wN l.prog w K mg base "copied" ["value","depth"] 0 Y8 (.int 5):=⟨_,_,_,zJ.none,W.mg_of X G a1,k1,b1,bd1,⟨_,rfl⟩⟩
 have N1_0:wN l.prog w K mg base "copied" ["value","depth"] 1 u8 (.int 5):=⟨_,_,_,K8 (k:=0) TClaim AClaim TSettles ASettles TComes AComes TRule ARule aj ap ak aq ai ao ag ah am ar Y F1 B N1_n,W.mg_of X G a1,k1,b1,bd1,⟨_,rfl⟩⟩
 have N1_1:wN l.prog w K mg base "copied" ["value","depth"] 2 jA (.int 5):=⟨_,_,_,K9 (k:=1) TClaim AClaim TSettles ASettles TComes AComes TRule ARule aj ap ak aq ai ao ag ah am ar Y F1 B N1_0,W.mg_of X G a1,k1,b1,bd1,⟨_,rfl⟩⟩
 have N1_2:wN l.prog w K mg base "copied" ["value","depth"] 3 vM (.int 5):=⟨_,_,_,zH7 (k:=2) TClaim AClaim TSettles ASettles TComes AComes TRule ARule aj ap ak aq ai ao ag ah am ar Y F1 B N1_1,W.mg_of X G a1,k1,b1,bd1,⟨_,rfl⟩⟩
 have N1:=N1_2
 have N2:Fn l.prog w K mg base "is_numbers" ["value","count"] 2 ki:=⟨_,_,zGv (k:=1) TClaim AClaim TSettles ASettles TComes AComes TRule ARule aj ap ak aq ai ao ag ah am ar Y F2 B N0.mono,W.mg_of X G a2,k2,b2⟩
 have N3:Fn l.prog w K mg base "is_table" ["value","tall","wide"] 3 Zn:=⟨_,_,zH5 (k:=2) TClaim AClaim TSettles ASettles TComes AComes TRule ARule aj ap ak aq ai ao ag ah am ar Y F3 B N2.mono,W.mg_of X G a3,k3,b3⟩
 have N4:Fn l.prog w K mg base "is_row" ["value","many"] 2 Zo:=⟨_,_,zJ1 (k:=1) TClaim AClaim TSettles ASettles TComes AComes TRule ARule aj ap ak aq ai ao ag ah am ar Y F4 B N0.mono,W.mg_of X G a4,k4,b4⟩
 have N5:Fn l.prog w K mg base "is_room" ["value","many"] 3 Zp:=⟨_,_,zI8 (k:=2) TClaim AClaim TSettles ASettles TComes AComes TRule ARule aj ap ak aq ai ao ag ah am ar Y F5 B N4.mono,W.mg_of X G a5,k5,b5⟩
 have N6:Fn l.prog w K mg base "is_push" ["value"] 2 Zq:=⟨_,_,zI9 (k:=1) TClaim AClaim TSettles ASettles TComes AComes TRule ARule aj ap ak aq ai ao ag ah am ar Y F6 B N0.mono,W.mg_of X G a6,k6,b6⟩
 have N7:xz l.prog w K mg base af ["self","rows","nexts","steer","push","add","divisor"] 4 (kl af):=⟨_,_,zFJ (k:=3) TClaim AClaim TSettles ASettles TComes AComes TRule ARule aj ap ak aq ai ao ag ah am ar Y F7 B N1.mono,⟨cn,a7,i7,cq⟩,b7⟩
 have N8:Fn l.prog w K mg base "is_mode" ["value","many","wide"] 4 (Zr af):=⟨_,_,zJA (k:=3) TClaim AClaim TSettles ASettles TComes AComes TRule ARule aj ap ak aq ai ao ag ah am ar Y F8 B N5.mono N3.mono N2.mono N0.mono,W.mg_of X G a8,k8,b8⟩
 have N9:Fn l.prog w K mg base "is_sound" ["many","pushes","modes"] 5 (Zs af):=⟨_,_,zH6 (k:=4) TClaim AClaim TSettles ASettles TComes AComes TRule ARule aj ap ak aq ai ao ag ah am ar Y F9 B N0.mono N6.mono N8.mono,W.mg_of X G a9,k9,b9⟩
 have N10:xz l.prog w K mg base au ["self","many","pushes","modes"] 6 (kn au af):=⟨_,_,zE7 (k:=5) TClaim AClaim TSettles ASettles TComes AComes TRule ARule aj ap ak aq ai ao ag ah am ar Y F10 B N9.mono,⟨cI,a10,i10,cJ⟩,b10⟩
 have N11:ug l.prog w K mg base au "pushes" ["self"] 1 (ko au af):=⟨_,_,zFq (k:=0) TClaim AClaim TSettles ASettles TComes AComes TRule ARule aj ap ak aq ai ao ag ah am ar Y F11 B ,⟨a11,i11,k11⟩,b11⟩
 have N12:ug l.prog w K mg base au "modes" ["self"] 1 (kq au af):=⟨_,_,zGE (k:=0) TClaim AClaim TSettles ASettles TComes AComes TRule ARule aj ap ak aq ai ao ag ah am ar Y F12 B ,⟨a12,i12,k12⟩,b12⟩
 have N13:xf l.prog w K mg base ab ["self","numbers","add","divisor"] 4 (kr ab) (.int 1):=⟨_,_,_,zEP (k:=3) TClaim AClaim TSettles ASettles TComes AComes TRule ARule aj ap ak aq ai ao ag ah am ar Y F13 B N1.mono,⟨bh,a13,i13,bj⟩,b13,bd13,⟨_,rfl⟩⟩
 have N14:xz l.prog w K mg base ae ["self","rule","low","high"] 1 (kt ae):=⟨_,_,zEa (k:=0) TClaim AClaim TSettles ASettles TComes AComes TRule ARule aj ap ak aq ai ao ag ah am ar Y F14 B ,⟨bF,a14,i14,bG⟩,b14⟩
 have N15:xz l.prog w K mg base ac ["self","row","rule","other"] 4 (ku ac):=⟨_,_,zEq (k:=3) TClaim AClaim TSettles ASettles TComes AComes TRule ARule aj ap ak aq ai ao ag ah am ar Y F15 B N1.mono,⟨bT,a15,i15,bU⟩,b15⟩
 have N16:xf l.prog w K mg base aSettles ["self","start","rows","turn"] 4 (jc aSettles wq) (.int 0):=⟨_,_,_,zEb (k:=3) TClaim AClaim TSettles ASettles TComes AComes TRule ARule aj ap ak aq ai ao ag ah am ar Y F16 B N1.mono,⟨mk_Settles,a16,i16,kc_Settles⟩,b16,bd16,⟨_,rfl⟩⟩
 have N17:xz l.prog w K mg base aComes ["self","start","goal","turns"] 4 (jc aComes wr):=⟨_,_,zE8 (k:=3) TClaim AClaim TSettles ASettles TComes AComes TRule ARule aj ap ak aq ai ao ag ah am ar Y F17 B N1.mono,⟨mk_Comes,a17,i17,kc_Comes⟩,b17⟩
 have N18:Fn l.prog w K mg base "show_words" ["words"] 1 (v5 K):=⟨_,_,zGp (k:=0) TClaim AClaim TSettles ASettles TComes AComes TRule ARule aj ap ak aq ai ao ag ah am ar Y F18 B ,W.mg_of X G a18,k18,b18⟩
 have N19:Fn l.prog w K mg base "show_room" ["room"] 2 (qm K):=⟨_,_,zHP (k:=1) TClaim AClaim TSettles ASettles TComes AComes TRule ARule aj ap ak aq ai ao ag ah am ar Y F19 B N18.mono,W.mg_of X G a19,k19,b19⟩
 have N20:Fn l.prog w K mg base "split_text" ["text","separator"] 1 qo:=⟨_,_,zGo (k:=0) TClaim AClaim TSettles ASettles TComes AComes TRule ARule aj ap ak aq ai ao ag ah am ar Y F20 B ,W.mg_of X G a20,k20,b20⟩
 have N21:Fn l.prog w K mg base "are_figures" ["text"] 1 XU:=⟨_,_,zGD (k:=0) TClaim AClaim TSettles ASettles TComes AComes TRule ARule aj ap ak aq ai ao ag ah am ar Y F21 B ,W.mg_of X G a21,k21,b21⟩
 have N22:Fn l.prog w K mg base "read_number" ["text"] 2 ZL:=⟨_,_,zGA (k:=1) TClaim AClaim TSettles ASettles TComes AComes TRule ARule aj ap ak aq ai ao ag ah am ar Y F22 B N21.mono,W.mg_of X G a22,k22,b22⟩
 have N23:Fn l.prog w K mg base "read_numbers" ["words","count"] 3 (Z1 K):=⟨_,_,zFn (k:=2) TClaim AClaim TSettles ASettles TComes AComes TRule ARule aj ap ak aq ai ao ag ah am ar Y F23 B N22.mono,W.mg_of X G a23,k23,b23⟩
 have N24:Fn l.prog w K mg base "read_tuples" ["text","count"] 4 XV:=⟨_,_,zF9 (k:=3) TClaim AClaim TSettles ASettles TComes AComes TRule ARule aj ap ak aq ai ao ag ah am ar Y F24 B N20.mono N23.mono,W.mg_of X G a24,k24,b24⟩
 have N25:Fn l.prog w K mg base "read_room" ["text","many"] 5 XW:=⟨_,_,zHR (k:=4) TClaim AClaim TSettles ASettles TComes AComes TRule ARule aj ap ak aq ai ao ag ah am ar Y F25 B N24.mono,W.mg_of X G a25,k25,b25⟩
 have N26_0:Fn l.prog w K mg base "show_rule" ["rule"] 1 (uL ab ae ac 0):=⟨_,_,zJ.no zHq,W.mg_of X G a26,k26,b26⟩
 have N26_1:Fn l.prog w K mg base "show_rule" ["rule"] 2 (uL ab ae ac 1):=⟨_,_,gL (k:=1) (d:=0) TClaim AClaim TSettles ASettles TComes AComes TRule ARule aj ap ak aq ai ao ag ah am ar Y F26 B N18.mono N26_0.mono,W.mg_of X G a26,k26,b26⟩
 have N26_2:Fn l.prog w K mg base "show_rule" ["rule"] 3 (uL ab ae ac 2):=⟨_,_,gL (k:=2) (d:=1) TClaim AClaim TSettles ASettles TComes AComes TRule ARule aj ap ak aq ai ao ag ah am ar Y F26 B N18.mono N26_1.mono,W.mg_of X G a26,k26,b26⟩
 have N26_3:Fn l.prog w K mg base "show_rule" ["rule"] 4 (uL ab ae ac 3):=⟨_,_,gL (k:=3) (d:=2) TClaim AClaim TSettles ASettles TComes AComes TRule ARule aj ap ak aq ai ao ag ah am ar Y F26 B N18.mono N26_2.mono,W.mg_of X G a26,k26,b26⟩
 have N26_4:Fn l.prog w K mg base "show_rule" ["rule"] 5 (uL ab ae ac 4):=⟨_,_,gL (k:=4) (d:=3) TClaim AClaim TSettles ASettles TComes AComes TRule ARule aj ap ak aq ai ao ag ah am ar Y F26 B N18.mono N26_3.mono,W.mg_of X G a26,k26,b26⟩
 have N26_5:Fn l.prog w K mg base "show_rule" ["rule"] 6 (uL ab ae ac 5):=⟨_,_,gL (k:=5) (d:=4) TClaim AClaim TSettles ASettles TComes AComes TRule ARule aj ap ak aq ai ao ag ah am ar Y F26 B N18.mono N26_4.mono,W.mg_of X G a26,k26,b26⟩
 have N26_6:Fn l.prog w K mg base "show_rule" ["rule"] 7 (uL ab ae ac 6):=⟨_,_,gL (k:=6) (d:=5) TClaim AClaim TSettles ASettles TComes AComes TRule ARule aj ap ak aq ai ao ag ah am ar Y F26 B N18.mono N26_5.mono,W.mg_of X G a26,k26,b26⟩
 have N26:=N26_6
 have N27:Fn l.prog w K mg base "show_claim" ["claim"] 3 (XY aSettles aComes):=⟨_,_,zGr (k:=2) TClaim AClaim TSettles ASettles TComes AComes TRule ARule aj ap ak aq ai ao ag ah am ar Y F27 B N19.mono N18.mono,W.mg_of X G a27,k27,b27⟩
 have N28:Fn l.prog w K mg base "mode_lines" ["mode"] 2 (Xb af):=⟨_,_,zGu (k:=1) TClaim AClaim TSettles ASettles TComes AComes TRule ARule aj ap ak aq ai ao ag ah am ar Y F28 B N18.mono,W.mg_of X G a28,k28,b28⟩
 have N29:Fn l.prog w K mg base "show_thing" ["thing"] 3 (Xc au af):=⟨_,_,zGq (k:=2) TClaim AClaim TSettles ASettles TComes AComes TRule ARule aj ap ak aq ai ao ag ah am ar Y F29 B N18.mono N11.mono N12.mono N28.mono,W.mg_of X G a29,k29,b29⟩
 have N30:Fn l.prog w K mg base "taken" ["behind","count"] 1 ZO:=⟨_,_,zKr (k:=0) TClaim AClaim TSettles ASettles TComes AComes TRule ARule aj ap ak aq ai ao ag ah am ar Y F30 B ,W.mg_of X G a30,k30,b30⟩
 have N31:Fn l.prog w K mg base "ask_number" ["value"] 1 ZP:=⟨_,_,zGw (k:=0) TClaim AClaim TSettles ASettles TComes AComes TRule ARule aj ap ak aq ai ao ag ah am ar Y F31 B ,W.mg_of X G a31,k31,b31⟩
 have N32:Fn l.prog w K mg base "ask_rule" ["value"] 1 (ZQ ab ae ac):=⟨_,_,zIA (k:=0) TClaim AClaim TSettles ASettles TComes AComes TRule ARule aj ap ak aq ai ao ag ah am ar Y F32 B ,W.mg_of X G a32,k32,b32⟩
 have N33:Fn l.prog w K mg base "straight_ahead" ["behind","many"] 6 (Xf ab ae ac):=⟨_,_,zE5 (k:=4) TClaim AClaim TSettles ASettles TComes AComes TRule ARule aj ap ak aq ai ao ag ah am ar Y F33 B N30.mono N31.mono N13.mono,W.mg_of X G a33,k33,b33⟩
 have N34:Fn l.prog w K mg base "stopped_ahead" ["behind"] 3 (Xg ab ae ac):=⟨_,_,zFI (k:=1) TClaim AClaim TSettles ASettles TComes AComes TRule ARule aj ap ak aq ai ao ag ah am ar Y F34 B N30.mono N14.mono N31.mono N32.mono,W.mg_of X G a34,k34,b34⟩
 have N35:Fn l.prog w K mg base "parted_ahead" ["behind","many"] 6 (Xh ab ae ac):=⟨_,_,zFo (k:=4) TClaim AClaim TSettles ASettles TComes AComes TRule ARule aj ap ak aq ai ao ag ah am ar Y F35 B N30.mono N31.mono N15.mono N32.mono,W.mg_of X G a35,k35,b35⟩
 have N36:Fn l.prog w K mg base "read_rule" ["text","many"] 7 (Xj ab ae ac):=⟨_,_,zHQ (k:=6) TClaim AClaim TSettles ASettles TComes AComes TRule ARule aj ap ak aq ai ao ag ah am ar Y F36 B N20.mono N33.mono N34.mono N35.mono N22.mono N32.mono,W.mg_of X G a36,k36,b36⟩
 have N37:Fn l.prog w K mg base "read_claim" ["text","many"] 6 (Xk aSettles aComes):=⟨_,_,zGt (k:=4) TClaim AClaim TSettles ASettles TComes AComes TRule ARule aj ap ak aq ai ao ag ah am ar Y F37 B N20.mono N22.mono N16.mono N25.mono N17.mono,W.mg_of X G a37,k37,b37⟩
 have N38:Fn l.prog w K mg base "numbers_behind" ["words","name","count"] 4 YB:=⟨_,_,zE6 (k:=3) TClaim AClaim TSettles ASettles TComes AComes TRule ARule aj ap ak aq ai ao ag ah am ar Y F38 B N23.mono,W.mg_of X G a38,k38,b38⟩
 have N39:Fn l.prog w K mg base "mode_blocks" ["lines"] 1 Xm:=⟨_,_,zGB (k:=0) TClaim AClaim TSettles ASettles TComes AComes TRule ARule aj ap ak aq ai ao ag ah am ar Y F39 B ,W.mg_of X G a39,k39,b39⟩
 have N40:Fn l.prog w K mg base "read_mode" ["block","many","wide"] 6 (Xp af):=⟨_,_,zHS (k:=4) TClaim AClaim TSettles ASettles TComes AComes TRule ARule aj ap ak aq ai ao ag ah am ar Y F40 B N38.mono N7.mono,W.mg_of X G a40,k40,b40⟩
 have N41:Fn l.prog w K mg base "read_thing" ["text"] 8 (Xq au af):=⟨_,_,zGs (k:=6) TClaim AClaim TSettles ASettles TComes AComes TRule ARule aj ap ak aq ai ao ag ah am ar Y F41 B N20.mono N38.mono N39.mono N40.mono N10.mono,W.mg_of X G a41,k41,b41⟩
 have N42:Fn l.prog w K mg base "_law_cell_at" ["_law_script","_law_k"] 1 (jy K):=⟨_,_,zHT (k:=0) TClaim AClaim TSettles ASettles TComes AComes TRule ARule aj ap ak aq ai ao ag ah am ar Y F42 B ,W.mg_of X G a42,k42,b42⟩
 have N43:Fn l.prog w K mg base "_law_stream" ["_law_cell","_law_many"] 1 jR:=⟨_,_,zH1 (k:=0) TClaim AClaim TSettles ASettles TComes AComes TRule ARule aj ap ak aq ai ao ag ah am ar Y F43 B ,W.mg_of X G a43,k43,b43⟩
 have N44:Fn l.prog w K mg base "_law_number" ["_law_number_here"] 1 je:=⟨_,_,zH2 (k:=0) TClaim AClaim TSettles ASettles TComes AComes TRule ARule aj ap ak aq ai ao ag ah am ar Y F44 B ,W.mg_of X G a44,k44,b44⟩
 have N45:Fn l.prog w K mg base "_law_words" ["_law_numbers"] 1 (v5 K):=⟨_,_,zI6 (k:=0) TClaim AClaim TSettles ASettles TComes AComes TRule ARule aj ap ak aq ai ao ag ah am ar Y F45 B ,W.mg_of X G a45,k45,b45⟩
 have N46:Fn l.prog w K mg base "_law_leaf" ["_law_cell","_law_many"] 2 Xr:=⟨_,_,zJ0 (k:=1) TClaim AClaim TSettles ASettles TComes AComes TRule ARule aj ap ak aq ai ao ag ah am ar Y F46 B N43.mono N44.mono,W.mg_of X G a46,k46,b46⟩
 have N47:Fn l.prog w K mg base "_law_tree" ["_law_cells","_law_many"] 3 (Xs K):=⟨_,_,zJy (k:=2) TClaim AClaim TSettles ASettles TComes AComes TRule ARule aj ap ak aq ai ao ag ah am ar Y F47 B N46.mono N42.mono N43.mono N44.mono,W.mg_of X G a47,k47,b47⟩
 have N48_0:Fn l.prog w K mg base "_law_rule" ["_law_tree_here"] 5 (uQ ab ae ac 0):=⟨_,_,zJ.no zHr,W.mg_of X G a48,k48,b48⟩
 have N48_1:Fn l.prog w K mg base "_law_rule" ["_law_tree_here"] 6 (uQ ab ae ac 1):=⟨_,_,gn (k:=4) (d:=0) TClaim AClaim TSettles ASettles TComes AComes TRule ARule aj ap ak aq ai ao ag ah am ar Y F48 B N13.mono N14.mono N48_0.mono N15.mono,W.mg_of X G a48,k48,b48⟩
 have N48_2:Fn l.prog w K mg base "_law_rule" ["_law_tree_here"] 7 (uQ ab ae ac 2):=⟨_,_,gn (k:=5) (d:=1) TClaim AClaim TSettles ASettles TComes AComes TRule ARule aj ap ak aq ai ao ag ah am ar Y F48 B N13.mono N14.mono N48_1.mono N15.mono,W.mg_of X G a48,k48,b48⟩
 have N48_3:Fn l.prog w K mg base "_law_rule" ["_law_tree_here"] 8 (uQ ab ae ac 3):=⟨_,_,gn (k:=6) (d:=2) TClaim AClaim TSettles ASettles TComes AComes TRule ARule aj ap ak aq ai ao ag ah am ar Y F48 B N13.mono N14.mono N48_2.mono N15.mono,W.mg_of X G a48,k48,b48⟩
 have N48_4:Fn l.prog w K mg base "_law_rule" ["_law_tree_here"] 9 (uQ ab ae ac 4):=⟨_,_,gn (k:=7) (d:=3) TClaim AClaim TSettles ASettles TComes AComes TRule ARule aj ap ak aq ai ao ag ah am ar Y F48 B N13.mono N14.mono N48_3.mono N15.mono,W.mg_of X G a48,k48,b48⟩
 have N48_5:Fn l.prog w K mg base "_law_rule" ["_law_tree_here"] 10 (uQ ab ae ac 5):=⟨_,_,gn (k:=8) (d:=4) TClaim AClaim TSettles ASettles TComes AComes TRule ARule aj ap ak aq ai ao ag ah am ar Y F48 B N13.mono N14.mono N48_4.mono N15.mono,W.mg_of X G a48,k48,b48⟩
 have N48_6:Fn l.prog w K mg base "_law_rule" ["_law_tree_here"] 11 (uQ ab ae ac 6):=⟨_,_,gn (k:=9) (d:=5) TClaim AClaim TSettles ASettles TComes AComes TRule ARule aj ap ak aq ai ao ag ah am ar Y F48 B N13.mono N14.mono N48_5.mono N15.mono,W.mg_of X G a48,k48,b48⟩
 have N48:=N48_6
 have N49_0:Fn l.prog w K mg base "_law_rule_text" ["_law_tree_here"] 1 (uT 0):=⟨_,_,zJ.no zIy,W.mg_of X G a49,k49,b49⟩
 have N49_1:Fn l.prog w K mg base "_law_rule_text" ["_law_tree_here"] 2 (uT 1):=⟨_,_,gp (k:=1) (d:=0) TClaim AClaim TSettles ASettles TComes AComes TRule ARule aj ap ak aq ai ao ag ah am ar Y F49 B N45.mono N49_0.mono,W.mg_of X G a49,k49,b49⟩
 have N49_2:Fn l.prog w K mg base "_law_rule_text" ["_law_tree_here"] 3 (uT 2):=⟨_,_,gp (k:=2) (d:=1) TClaim AClaim TSettles ASettles TComes AComes TRule ARule aj ap ak aq ai ao ag ah am ar Y F49 B N45.mono N49_1.mono,W.mg_of X G a49,k49,b49⟩
 have N49_3:Fn l.prog w K mg base "_law_rule_text" ["_law_tree_here"] 4 (uT 3):=⟨_,_,gp (k:=3) (d:=2) TClaim AClaim TSettles ASettles TComes AComes TRule ARule aj ap ak aq ai ao ag ah am ar Y F49 B N45.mono N49_2.mono,W.mg_of X G a49,k49,b49⟩
 have N49_4:Fn l.prog w K mg base "_law_rule_text" ["_law_tree_here"] 5 (uT 4):=⟨_,_,gp (k:=4) (d:=3) TClaim AClaim TSettles ASettles TComes AComes TRule ARule aj ap ak aq ai ao ag ah am ar Y F49 B N45.mono N49_3.mono,W.mg_of X G a49,k49,b49⟩
 have N49_5:Fn l.prog w K mg base "_law_rule_text" ["_law_tree_here"] 6 (uT 5):=⟨_,_,gp (k:=5) (d:=4) TClaim AClaim TSettles ASettles TComes AComes TRule ARule aj ap ak aq ai ao ag ah am ar Y F49 B N45.mono N49_4.mono,W.mg_of X G a49,k49,b49⟩
 have N49_6:Fn l.prog w K mg base "_law_rule_text" ["_law_tree_here"] 7 (uT 6):=⟨_,_,gp (k:=6) (d:=5) TClaim AClaim TSettles ASettles TComes AComes TRule ARule aj ap ak aq ai ao ag ah am ar Y F49 B N45.mono N49_5.mono,W.mg_of X G a49,k49,b49⟩
 have N49:=N49_6
 have N50_0:Fn l.prog w K mg base "_law_same_rule" ["_law_rule_here","_law_tree_here"] 1 (uU ab ae ac 0):=⟨_,_,zJ.no zIx,W.mg_of X G a50,k50,b50⟩
 have N50_1:Fn l.prog w K mg base "_law_same_rule" ["_law_rule_here","_law_tree_here"] 2 (uU ab ae ac 1):=⟨_,_,gq (k:=1) (d:=0) TClaim AClaim TSettles ASettles TComes AComes TRule ARule aj ap ak aq ai ao ag ah am ar Y F50 B N50_0.mono,W.mg_of X G a50,k50,b50⟩
 have N50_2:Fn l.prog w K mg base "_law_same_rule" ["_law_rule_here","_law_tree_here"] 3 (uU ab ae ac 2):=⟨_,_,gq (k:=2) (d:=1) TClaim AClaim TSettles ASettles TComes AComes TRule ARule aj ap ak aq ai ao ag ah am ar Y F50 B N50_1.mono,W.mg_of X G a50,k50,b50⟩
 have N50_3:Fn l.prog w K mg base "_law_same_rule" ["_law_rule_here","_law_tree_here"] 4 (uU ab ae ac 3):=⟨_,_,gq (k:=3) (d:=2) TClaim AClaim TSettles ASettles TComes AComes TRule ARule aj ap ak aq ai ao ag ah am ar Y F50 B N50_2.mono,W.mg_of X G a50,k50,b50⟩
 have N50_4:Fn l.prog w K mg base "_law_same_rule" ["_law_rule_here","_law_tree_here"] 5 (uU ab ae ac 4):=⟨_,_,gq (k:=4) (d:=3) TClaim AClaim TSettles ASettles TComes AComes TRule ARule aj ap ak aq ai ao ag ah am ar Y F50 B N50_3.mono,W.mg_of X G a50,k50,b50⟩
 have N50_5:Fn l.prog w K mg base "_law_same_rule" ["_law_rule_here","_law_tree_here"] 6 (uU ab ae ac 5):=⟨_,_,gq (k:=5) (d:=4) TClaim AClaim TSettles ASettles TComes AComes TRule ARule aj ap ak aq ai ao ag ah am ar Y F50 B N50_4.mono,W.mg_of X G a50,k50,b50⟩
 have N50_6:Fn l.prog w K mg base "_law_same_rule" ["_law_rule_here","_law_tree_here"] 7 (uU ab ae ac 6):=⟨_,_,gq (k:=6) (d:=5) TClaim AClaim TSettles ASettles TComes AComes TRule ARule aj ap ak aq ai ao ag ah am ar Y F50 B N50_5.mono,W.mg_of X G a50,k50,b50⟩
 have N50:=N50_6
 have N51:Fn l.prog w K mg base "_law_rows" ["_law_cell","_law_many","_law_count"] 2 Xv:=⟨_,_,zJz (k:=1) TClaim AClaim TSettles ASettles TComes AComes TRule ARule aj ap ak aq ai ao ag ah am ar Y F51 B N43.mono N44.mono,W.mg_of X G a51,k51,b51⟩
 have N52:Fn l.prog w K mg base "_law_room_text" ["_law_room"] 2 (qm K):=⟨_,_,zGC (k:=1) TClaim AClaim TSettles ASettles TComes AComes TRule ARule aj ap ak aq ai ao ag ah am ar Y F52 B N45.mono,W.mg_of X G a52,k52,b52⟩
 have N53:Fn l.prog w K mg base "_law_claims" ["_law_script","_law_many"] 7 (gu K):=⟨_,_,zH3 (k:=5) TClaim AClaim TSettles ASettles TComes AComes TRule ARule aj ap ak aq ai ao ag ah am ar Y F53 B N42.mono N51.mono N44.mono N52.mono N16.mono N27.mono N37.mono N17.mono,W.mg_of X G a53,k53,b53⟩
 have N54:Fn l.prog w K mg base "_law_parts" ["_law_cell","_law_many","_law_wide"] 2 X1:=⟨_,_,zI7 (k:=1) TClaim AClaim TSettles ASettles TComes AComes TRule ARule aj ap ak aq ai ao ag ah am ar Y F54 B N43.mono N44.mono,W.mg_of X G a54,k54,b54⟩
 have N55:Fn l.prog w K mg base "_law_thing_text" ["_law_many","_law_pushes","_law_some"] 2 X2:=⟨_,_,zFp (k:=1) TClaim AClaim TSettles ASettles TComes AComes TRule ARule aj ap ak aq ai ao ag ah am ar Y F55 B N45.mono,W.mg_of X G a55,k55,b55⟩
 have N56:Fn l.prog w K mg base "_law_things" ["_law_script","_law_many"] 9 (gu K):=⟨_,_,zH0 (k:=7) TClaim AClaim TSettles ASettles TComes AComes TRule ARule aj ap ak aq ai ao ag ah am ar Y F56 B N42.mono N43.mono N44.mono N54.mono N10.mono N7.mono N55.mono N29.mono N41.mono N11.mono N12.mono,W.mg_of X G a56,k56,b56⟩
 exact zMi (k:=11) TClaim AClaim TSettles ASettles TComes AComes TRule ARule aj ap ak aq ai ao ag ah am ar Y F57 B N42.mono N47.mono N49.mono N50.mono N36.mono N26.mono N48.mono N56.mono N53.mono
theorem walk {l:PySem.W.OpenLaw} {q:Program} {loose:List Str} {XP:(Str->Option Value)->Heap->Prop} {YP:World->Heap->Prop} {d:DefRec} {K:Params->PySem.W.Frag} (hn:l.most=some 63) (hdf:d.params.defaults=[])
  (hY:∀ (w:World) (h:Heap),YP w h->(K w.params).In h)
  (F:∀ (w:World) (mg:Str->Option Value) (fa:Addr) (h:Heap),(K w.params).In h->h.Ns mainGlobals mg->mg d.name=some (.ref fa)->
   ∃ fd:FuncData,(∀ (s:Shared) (u:Value),BindsTo s fd ⟨[u],[]⟩ [("_law_script",u)])/\∀ base:Heap,(K w.params).In base->base.Ns mainGlobals mg->zJ l.prog w (K w.params) mg base zh 12 fa fd ["_law_script"] (kb (K w.params))) :
  PySem.W.WalkO q loose XP YP l.row.toRowW d [] (λf vs=>PySem.call f vs):=
 L2.QN (n:=63) (k:=12) (x:="_law_script") (CX:=λ_=>zh) (sp:=λw=>kb (K w.params)) hn (by decide) hdf ⟨rfl,by decide,by decide⟩ hY F (λ_ _ a ns hl _ hS=>⟨a,ns,rfl,hS,hl,λ_=>rfl⟩) λ_ _ _ _ _ z=>z
end K92
open PySem PySem.W PyProof.Rows
set_option maxRecDepth 100000 in
set_option maxHeartbeats 0 in
theorem PySem.Challenge.cw_steadyhand_k92_rules_claims_things_as_te_holds : PySem.Challenge.rw_steadyhand_k92_rules_claims_things_as_te.Holds := by
 w_on; o_law
 refine holds_open (q:=H92.vw) (loose:=H92.lo) (Xt:=H92.xt) (XP:=XL H92.vw []) (Yf:=(kHook H92.KK H92.ks H92.ke).obs) (Ya:=(kHook H92.KK H92.ks H92.ke).val) (YP:=(kHook H92.KK H92.ks H92.ke).says) H92.left
  (kHook H92.KK H92.ks H92.ke).of (kHook H92.KK H92.ks H92.ke).keeps
  (λs e=>xl_of s (Bool.and_eq_true_iff.mp e).1) XL.keeps (by rfl) (by rfl) (by rfl)
  (λs e=>recFacts_of (Bool.and_eq_true_iff.mp e).2) (by rfl) (by assumption) (by decide +kernel)
  ⟨rfl,rfl,rfl,rfl,rfl,by decide +kernel⟩ ?hw ?hc
 case hw=>w_witness2
 rename_i sd
 clear sd
 k_fill
 refine K92.walk (l:=PySem.Challenge.rw_steadyhand_k92_rules_claims_things_as_te) rfl rfl (λw h Y=>PySem.W.kIn_of Y) ?F
 case F=>
  intro w mg fa h KX G hmg
  refine' K92.all_mk KX G hmg ?nm_Claim ?pg_Claim ?hd_Claim ?po_Claim ?sa_Claim ?mk_Claim ?kc_Claim ?ha_Claim ?hn_Claim ?tk_Claim ?hm_Claim ?nm_Settles ?pg_Settles ?hd_Settles ?po_Settles ?sa_Settles ?mk_Settles ?kc_Settles ?ha_Settles ?hn_Settles ?tk_Settles ?hm_Settles ?n_start_Settles ?n_rows_Settles ?n_turn_Settles ?nm_Comes ?pg_Comes ?hd_Comes ?po_Comes ?sa_Comes ?mk_Comes ?kc_Comes ?ha_Comes ?hn_Comes ?tk_Comes ?hm_Comes ?n_start_Comes ?n_goal_Comes ?n_turns_Comes ?nm_Rule ?pg_Rule ?hd_Rule ?po_Rule ?sa_Rule ?mk_Rule ?kc_Rule ?ha_Rule ?hn_Rule ?tk_Rule ?hm_Rule ?bb ?bc ?be ?bf ?bg ?bh ?bj ?bn ?bo ?bp ?bq ?br ?bu ?bw ?bA ?bB ?bC ?bD ?bE ?bF ?bG ?bH ?bI ?bJ ?bK ?bL ?bM ?bN ?bO ?bP ?bQ ?bR ?bS ?bT ?bU ?bV ?bW ?bX ?bY ?bZ ?cb ?cf ?cg ?ci ?cj ?ck ?cm ?cn ?cq ?cr ?cu ?cv ?cw ?cx ?cy ?cz ?cA ?cB ?cC ?cD ?cE ?cF ?cG ?cH ?cI ?cJ ?cK ?cL ?cM ?cN ?cO ?cP ?cQ ?cR ?cS ?cT ?cU ?cV ?kt_t1 ?kt_t2 ?kt_t3 ?kt_iR ?kt_sc ?kt_cs ?kt_ts ?a0 ?l0 ?c0 ?k0 ?a1 ?l1 ?c1 ?k1 ?t1 ?a2 ?l2 ?c2 ?k2 ?a3 ?l3 ?c3 ?k3 ?a4 ?l4 ?c4 ?k4 ?a5 ?l5 ?c5 ?k5 ?a6 ?l6 ?c6 ?k6 ?i7 ?a7 ?l7 ?c7 ?k7 ?a8 ?l8 ?c8 ?k8 ?a9 ?l9 ?c9 ?k9 ?i10 ?a10 ?l10 ?c10 ?k10 ?i11 ?a11 ?l11 ?c11 ?k11 ?i12 ?a12 ?l12 ?c12 ?k12 ?i13 ?a13 ?l13 ?c13 ?k13 ?t13 ?i14 ?a14 ?l14 ?c14 ?k14 ?i15 ?a15 ?l15 ?c15 ?k15 ?i16 ?a16 ?l16 ?c16 ?k16 ?t16 ?i17 ?a17 ?l17 ?c17 ?k17 ?a18 ?l18 ?c18 ?k18 ?a19 ?l19 ?c19 ?k19 ?a20 ?l20 ?c20 ?k20 ?a21 ?l21 ?c21 ?k21 ?a22 ?l22 ?c22 ?k22 ?a23 ?l23 ?c23 ?k23 ?a24 ?l24 ?c24 ?k24 ?a25 ?l25 ?c25 ?k25 ?a26 ?l26 ?c26 ?k26 ?a27 ?l27 ?c27 ?k27 ?a28 ?l28 ?c28 ?k28 ?a29 ?l29 ?c29 ?k29 ?a30 ?l30 ?c30 ?k30 ?a31 ?l31 ?c31 ?k31 ?a32 ?l32 ?c32 ?k32 ?a33 ?l33 ?c33 ?k33 ?a34 ?l34 ?c34 ?k34 ?a35 ?l35 ?c35 ?k35 ?a36 ?l36 ?c36 ?k36 ?a37 ?l37 ?c37 ?k37 ?a38 ?l38 ?c38 ?k38 ?a39 ?l39 ?c39 ?k39 ?a40 ?l40 ?c40 ?k40 ?a41 ?l41 ?c41 ?k41 ?a42 ?l42 ?c42 ?k42 ?a43 ?l43 ?c43 ?k43 ?a44 ?l44 ?c44 ?k44 ?a45 ?l45 ?c45 ?k45 ?a46 ?l46 ?c46 ?k46 ?a47 ?l47 ?c47 ?k47 ?a48 ?l48 ?c48 ?k48 ?a49 ?l49 ?c49 ?k49 ?a50 ?l50 ?c50 ?k50 ?a51 ?l51 ?c51 ?k51 ?a52 ?l52 ?c52 ?k52 ?a53 ?l53 ?c53 ?k53 ?a54 ?l54 ?c54 ?k54 ?a55 ?l55 ?c55 ?k55 ?a56 ?l56 ?c56 ?k56 ?a57 ?l57 ?c57 ?k57 ?z0 ?z1 ?z2 ?z3 ?z4 ?z5 ?z6 ?z7 ?z8 ?z9 ?z10 ?z11 ?z12 ?z13 ?cst0 ?cst1 ?cst2 ?cst3 ?cst4 ?cst5 ?cst6 ?cst7
  (case nm_Claim|pg_Claim|hd_Claim|po_Claim|sa_Claim|mk_Claim|kc_Claim|ha_Claim|hn_Claim|tk_Claim|hm_Claim|nm_Settles|pg_Settles|hd_Settles|po_Settles|sa_Settles|mk_Settles|kc_Settles|ha_Settles|hn_Settles|tk_Settles|hm_Settles|n_start_Settles|n_rows_Settles|n_turn_Settles|nm_Comes|pg_Comes|hd_Comes|po_Comes|sa_Comes|mk_Comes|kc_Comes|ha_Comes|hn_Comes|tk_Comes|hm_Comes|n_start_Comes|n_goal_Comes|n_turns_Comes|nm_Rule|pg_Rule|hd_Rule|po_Rule|sa_Rule|mk_Rule|kc_Rule|ha_Rule|hn_Rule|tk_Rule|hm_Rule|bb|bc|be|bf|bg|bh|bj|bn|bo|bp|bq|br|bu|bw|bA|bB|bC|bD|bE|bF|bG|bH|bI|bJ|bK|bL|bM|bN|bO|bP|bQ|bR|bS|bT|bU|bV|bW|bX|bY|bZ|cb|cf|cg|ci|cj|ck|cm|cn|cq|cr|cu|cv|cw|cx|cy|cz|cA|cB|cC|cD|cE|cF|cG|cH|cI|cJ|cK|cL|cM|cN|cO|cP|cQ=>k_is)
  (case cR=>first | kit_is | k_is | rfl | decide +kernel)
  (case cS=>first | kit_is | k_is | rfl | decide +kernel)
  (case cT=>first | kit_is | k_is | rfl | decide +kernel)
  (case cU=>first | kit_is | k_is | rfl | decide +kernel)
  (case cV=>first | kit_is | k_is | rfl | decide +kernel)
  (case kt_t1=>first | kit_is | k_is | rfl | decide +kernel)
  (case kt_t2=>first | kit_is | k_is | rfl | decide +kernel)
  (case kt_t3=>first | kit_is | k_is | rfl | decide +kernel)
  (case kt_iR=>first | kit_is | k_is | rfl | decide +kernel)
  (case kt_sc=>first | kit_is | k_is | rfl | decide +kernel)
  (case kt_cs=>first | kit_is | k_is | rfl | decide +kernel)
  (case kt_ts=>first | kit_is | k_is | rfl | decide +kernel)
  (case a0|l0|c0|k0|a1|l1|c1|k1|t1|a2|l2|c2|k2|a3|l3|c3|k3|a4|l4|c4|k4|a5|l5|c5|k5|a6|l6|c6|k6|i7|a7|l7|c7|k7|a8|l8|c8|k8|a9|l9|c9|k9|i10|a10|l10|c10|k10|i11|a11|l11|c11|k11|i12|a12|l12|c12|k12|i13|a13|l13|c13|k13|t13|i14|a14|l14|c14|k14|i15|a15|l15|c15|k15|i16|a16|l16|c16|k16|t16|i17|a17|l17|c17|k17|a18|l18|c18|k18|a19|l19|c19|k19|a20|l20|c20|k20|a21|l21|c21|k21|a22|l22|c22|k22|a23|l23|c23|k23|a24|l24|c24|k24|a25|l25|c25|k25|a26|l26|c26|k26|a27|l27|c27|k27|a28|l28|c28|k28|a29|l29|c29|k29|a30|l30|c30|k30|a31|l31|c31|k31|a32|l32|c32|k32|a33|l33|c33|k33|a34|l34|c34|k34|a35|l35|c35|k35|a36|l36|c36|k36|a37|l37|c37|k37|a38|l38|c38|k38|a39|l39|c39|k39|a40|l40|c40|k40|a41|l41|c41|k41|a42|l42|c42|k42|a43|l43|c43|k43|a44|l44|c44|k44|a45|l45|c45|k45|a46|l46|c46|k46|a47|l47|c47|k47|a48|l48|c48|k48|a49|l49|c49|k49|a50|l50|c50|k50|a51|l51|c51|k51|a52|l52|c52|k52|a53|l53|c53|k53|a54|l54|c54|k54|a55|l55|c55|k55|a56|l56|c56|k56|a57|l57|c57|k57|z0|z1|z2|z3|z4|z5|z6|z7|z8|z9|z10|z11|z12|z13|cst0|cst1|cst2|cst3|cst4|cst5|cst6|cst7=>k_is)
#print axioms PySem.Challenge.cw_steadyhand_k92_rules_claims_things_as_te_holds
