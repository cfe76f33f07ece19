import PyProof.Rows.All
import Wide.All
import OpenK.AllK
import Wide.FinOn
import Lean
import PyProof.EqAt
import PyProof.EqKinds
import PyProof.TupleCall
import PyProof.ZipIter
import PyProof.Draws
import PyProof.StationsW
import PyProof.Rows.SeqMore
import PySem.Challenge.RW_steadyhand_k24_rules_refused
set_option Elab.async false
set_option linter.all false
set_option maxRecDepth 100000
set_option maxHeartbeats 0
namespace TT
open PySem PySem.W
noncomputable def runT (tb:String->Option Builtin) (p:Program) (w:World) (k:Nat) (an:Option Value):Nat->SharedT->Thread->Option SharedT
 | 0,_,_=>none
 | j + 1,x,t=>match through t with
  | true=>some x
  | false=>match stepOk k an t with
   | false=>none
   | true=>match stepT (denote tb) p w x t with
    | none=>none
    | some y=>runT tb p w k an j y.1 y.2
theorem Xh {tb:String->Option Builtin} {p:Program} {w:World} {k:Nat} {an:Option Value}:∀ (j:Nat) (x y:SharedT) (t:Thread),runT tb p w k an j x t=some y->topRun tb p w k an j x.abs t=some y.abs
 | 0,_,_,_,e=>by cases e
 | j + 1,x,y,t,e=>by
  unfold runT at e
  unfold topRun
  cases e1:through t with
  | true=>
   rw [e1] at e
   cases e
   rfl
  | false=>
   rw [e1] at e
   cases e2:stepOk k an t with
   | false=>rw [e2] at e; cases e
   | true=>
    rw [e2] at e
    cases e3:stepT (denote tb) p w x t with
    | none=>rw [e3] at e; cases e
    | some z=>
     rw [e3] at e
     rw [stepT_spec e3]
     exact Xh j z.1 y z.2 e
theorem left_is {p q:Program} {lo:List Str} {xt:Shared->Bool} {α:Type} {Yf:Shared->α} {Ya:World->α} {N k n0:Nat} {an:Option Value} {tr:Params->BT} (op:∀ w:World,(fencedOpening treeTable p w N).map (λs=>(s.heap,s.gens,s.drawn,s.toks))=some (boot_heap w.params,Array.mk [],boot_drawn,boot_toks))
  (et:∀ P:Params,absHeap (tr P) n0 (boot_heap P).life=boot_heap P) (z1:∀ P:Params,(boot_heap P).isNs mainGlobals=true) (z2:∀ P:Params,(boot_heap P).objs.size=k) (z3:∀ P:Params,(boot_heap P).nsMap mainGlobals "__annotations__" = an)
  (h:∀ (w:World) (os:OsState),(runT treeTable p w k an N ⟨tr w.params,n0,(boot_heap w.params).life,Array.mk [],boot_drawn,boot_toks,os⟩ (topStub p)).map (λs=>((staticsOk (importedModules p.main.body) (boot_heap w.params) s.abs.heap && namesBound p s.abs.heap && gensDone s.abs && laidKept (boot_heap w.params) s.abs.heap),openSeen q lo (importedModules p.main.body) xt true s.abs,Yf s.abs))=some (true,openGood q lo,Ya w)) :
  LeftO p q lo xt Yf Ya N:=λw=>by
 obtain ⟨⟨hp,gs,d,tk,os⟩,e,e'⟩:=Option.map_eq_some_iff.mp (op w)
 injection e' with a1 e'
 injection e' with a2 e'
 injection e' with a3 a4
 subst a1 a2 a3 a4
 obtain ⟨y,ey,eo⟩:=Option.map_eq_some_iff.mp (h w os)
 injection eo with l1 eo
 injection eo with l2 l3
 have r:=Xh _ _ _ _ ey
 have r':topRun treeTable p w k an N ⟨boot_heap w.params,Array.mk [],boot_drawn,boot_toks,os⟩ (topStub p)=some y.abs:=by
  rw [<- r]
  unfold SharedT.abs
  rw [et]
 have f:topFrom treeTable p w N ⟨boot_heap w.params,Array.mk [],boot_drawn,boot_toks,os⟩=some y.abs:=by
  unfold topFrom
  show (match (boot_heap w.params).isNs mainGlobals && true with | true=>_ | false=>_)=_
  rw [z1,z2,z3,r']
  show (match (_ && _ && _ && _) with | true=>_ | false=>_)=_
  rw [l1]
 unfold openEnds
 rw [e]
 show (topFrom treeTable p w N _).map _=_
 rw [f]
 exact congrArg some (Prod.ext l2 l3)
end TT
namespace H24
open PySem PySem.W
set_option maxRecDepth 100000
noncomputable def hT (i:Nat):Stmt:=PySem.Challenge.pw_steadyhand_k24_rules_refused.main.body.getD i (.Pass ⟨0,0,0,0⟩)
noncomputable def hI (i j:Nat):Stmt:=match hT i with
 | .ClassDef _ _ _ b _ _ _ _ _ _ _=>b.getD j (.Pass ⟨0,0,0,0⟩)
 | s=>s
noncomputable def hA:Stmt->Arguments
 | .FunctionDef _ a _ _ _ _ _ _ _ _=>a
 | _=>⟨[],[],none,[],[],none,[]⟩
noncomputable def hB:Stmt->List Stmt
 | .FunctionDef _ _ b _ _ _ _ _ _ _=>b
 | _=>[]
noncomputable def hC:Stmt->Scope
 | .FunctionDef _ _ _ _ _ _ c _ _ _=>c
 | _=>{ kind:=.function,names:=[],isGenerator:=false,isCoroutine:=false }
noncomputable abbrev hS (s:String) (n:Nat):Value:=.str (Str.ofString s) n
noncomputable abbrev hE (P:Params) (s:String) (n:Nat) (v:Value):DictEntry:=⟨PyData.keyHash P (Str.ofString s),hS s n,v⟩
noncomputable abbrev hU (x:Array Value):Obj:={ cls:=.type "tuple",data:=.seq x }
noncomputable abbrev hD (s:String) (a:Nat) (s2:String) (b c:Nat) (i j f:Int) (r1 r2:Nat) (u v t r:Value) (y z:Int) (d:Nat):Obj:={ cls:=.type "code",data:=.fields #[hS s a,hS s2 b,hS "/claim/cut.py" c,.int i 0,.int j 0,.int 0 0,.int 0 0,.int f 0,.ref r1,.bool true,.int 181 0,.ref r2,u,v,t,r,.int y 0,.int z 0,hS "/claim/cut.py" d] }
noncomputable abbrev hF (n q:String) (s:Stmt) (d k:Value) (m:String) (j c:Nat):Obj:={ cls:=.type "function",data:=.func { name:=n,qualname:=q,params:=hA s,body:=.stmts (hB s),scope:=hC s,globals:=3,closure:=[],defaults:=d,kwdefaults:=k,pyModule:=hS m j,code:=.ref c } }
noncomputable def KK:Params->Frag:=λP=>
 (nat_lit 2,{ cls:=.none,data:=.dict #[] })::(nat_lit 3,{ cls:=.type "dict",data:=.dict #[hE P "__name__" 165 (hS "law_steadyhand_k24_rules_refused" 891),hE P "__doc__" 166 (.none),hE P "__package__" 167 (.none),hE P "__loader__" 168 (.builtin "__main__.__loader__#opaque"),hE P "__spec__" 169 (.none),hE P "__annotations__" 170 (.ref 6),hE P "__builtins__" 171 (.ref 4),hE P "__file__" 173 (hS "/claim/cut.py" 172),hE P "__cached__" 174 (.none),hE P "_wall" 193 (.ref 21),hE P "SteadyError" 213 (.ref 31),hE P "NoNumber" 229 (.ref 44),hE P "BadThing" 245 (.ref 56),hE P "BadRule" 261 (.ref 68),hE P "TooMany" 277 (.ref 80),hE P "NoRun" 302 (.ref 99),hE P "NotClosed" 318 (.ref 111),hE P "NotPlain" 334 (.ref 123),hE P "BadTurn" 350 (.ref 135),hE P "NoText" 366 (.ref 147),hE P "NoRow" 382 (.ref 159),hE P "is_whole" 391 (.ref 168),hE P "common_divisor" 402 (.ref 175),hE P "fraction" 412 (.ref 183),hE P "under" 420 (.ref 190),hE P "is_numbers" 428 (.ref 195),hE P "is_table" 434 (.ref 200),hE P "copied" 441 (.ref 206),hE P "scaled" 447 (.ref 211),hE P "mixed" 453 (.ref 216),hE P "is_row" 461 (.ref 221),hE P "is_room" 467 (.ref 226),hE P "raw_sum" 479 (.ref 233),hE P "divided_sum" 490 (.ref 240),hE P "holds" 499 (.ref 247),hE P "other_side" 505 (.ref 252),hE P "MOST_PIECES" 509 (.int 60 508),hE P "Rule" 529 (.ref 262),hE P "Straight" 567 (.ref 291),hE P "Stopped" 605 (.ref 317),hE P "Parted" 642 (.ref 343),hE P "is_rule" 650 (.ref 352),hE P "is_straight" 658 (.ref 359),hE P "are_stops" 666 (.ref 366),hE P "piece_count" 673 (.ref 373),hE P "pieces" 681 (.ref 380),hE P "listed" 688 (.ref 387),hE P "parted_pieces" 694 (.ref 392),hE P "stopped_pieces" 700 (.ref 397),hE P "stop_row" 708 (.ref 404),hE P "MOST_NUMBERS" 712 (.int 3 711),hE P "MOST_PUSHES" 714 (.int 6 713),hE P "MOST_MODES" 716 (.int 40 715),hE P "Mode" 755 (.ref 421),hE P "Thing" 816 (.ref 470),hE P "is_sound" 822 (.ref 479),hE P "is_push" 829 (.ref 486),hE P "is_mode" 838 (.ref 493),hE P "steered" 853 (.ref 500),hE P "steered_mode" 859 (.ref 505),hE P "rounded" 865 (.ref 510),hE P "rounded_mode" 871 (.ref 515),hE P "late" 884 (.ref 522),hE P "late_mode" 890 (.ref 527),hE P "_law_cell_at" 900 (.ref 534),hE P "_law_stream" 912 (.ref 541),hE P "_law_word" 918 (.ref 546),hE P "_law_said" 930 (.ref 553),hE P "_law_leaf" 936 (.ref 558),hE P "_law_no_leaf" 942 (.ref 563),hE P "_law_no_part" 948 (.ref 568),hE P "_law_case" 954 (.ref 573),hE P "_law_thing" 960 (.ref 578),hE P "law" 978 (.ref 585)] 74 })::(nat_lit 15,hU #[])::(nat_lit 17,hU #[hS "k" 190])::(nat_lit 18,hU #[])::(nat_lit 20,hD "_wall" 187 "_wall" 188 189 1 1 3 15 16 .none (.ref 17) (.ref 18) (.ref 19) 191 1 192)::(nat_lit 21,hF "_wall" "_wall" (hT 0) .none .none "__main__" 164 20)::(nat_lit 22,hU #[.type "ValueError"])::(nat_lit 29,hU #[])::(nat_lit 30,{ cls:=.type "dict",data:=.dict #[hE P "__module__" 203 (hS "steadyhand.errors" 194),hE P "__firstlineno__" 207 (.int 5 206),hE P "__static_attributes__" 208 (.ref 29),hE P "__weakref__" 210 (.ref 32),hE P "__doc__" 211 (.none)] 3 })::(nat_lit 31,{ cls:=.type "type",data:=.cls { name:="SteadyError",bases:=[.type "ValueError"],mro:=[.ref 31,.type "ValueError",.type "Exception",.type "BaseException",.type "object"],ns:=30,qualname:="SteadyError",subclasses:=[.ref 44,.ref 56,.ref 68,.ref 80,.ref 99,.ref 111,.ref 123,.ref 135,.ref 147,.ref 159] },slots:=#[some (.ref 22),none,some (hS "SteadyError" 196),some (hS "SteadyError" 204),some (.builtin "ValueError.__new__"),some (.bool true)] })::(nat_lit 32,{ cls:=.type "getset_descriptor",data:=.fields #[hS "__weakref__" 209,.ref 31,.builtin "ExceptionGroup.__weakref__",.none] })::(nat_lit 35,hU #[.ref 31])::(nat_lit 42,hU #[])::(nat_lit 43,{ cls:=.type "dict",data:=.dict #[hE P "__module__" 221 (hS "steadyhand.errors" 194),hE P "__firstlineno__" 225 (.int 7 224),hE P "__static_attributes__" 226 (.ref 42),hE P "__doc__" 227 (.none)] 2 })::(nat_lit 44,{ cls:=.type "type",data:=.cls { name:="NoNumber",bases:=[.ref 31],mro:=[.ref 44,.ref 31,.type "ValueError",.type "Exception",.type "BaseException",.type "object"],ns:=43,qualname:="NoNumber" },slots:=#[some (.ref 35),none,some (hS "NoNumber" 214),some (hS "NoNumber" 222),some (.builtin "ValueError.__new__"),some (.bool true)] })::(nat_lit 47,hU #[.ref 31])::(nat_lit 54,hU #[])::(nat_lit 55,{ cls:=.type "dict",data:=.dict #[hE P "__module__" 237 (hS "steadyhand.errors" 194),hE P "__firstlineno__" 241 (.int 9 240),hE P "__static_attributes__" 242 (.ref 54),hE P "__doc__" 243 (.none)] 2 })::(nat_lit 56,{ cls:=.type "type",data:=.cls { name:="BadThing",bases:=[.ref 31],mro:=[.ref 56,.ref 31,.type "ValueError",.type "Exception",.type "BaseException",.type "object"],ns:=55,qualname:="BadThing" },slots:=#[some (.ref 47),none,some (hS "BadThing" 230),some (hS "BadThing" 238),some (.builtin "ValueError.__new__"),some (.bool true)] })::(nat_lit 59,hU #[.ref 31])::(nat_lit 66,hU #[])::(nat_lit 67,{ cls:=.type "dict",data:=.dict #[hE P "__module__" 253 (hS "steadyhand.errors" 194),hE P "__firstlineno__" 257 (.int 11 256),hE P "__static_attributes__" 258 (.ref 66),hE P "__doc__" 259 (.none)] 2 })::(nat_lit 68,{ cls:=.type "type",data:=.cls { name:="BadRule",bases:=[.ref 31],mro:=[.ref 68,.ref 31,.type "ValueError",.type "Exception",.type "BaseException",.type "object"],ns:=67,qualname:="BadRule" },slots:=#[some (.ref 59),none,some (hS "BadRule" 246),some (hS "BadRule" 254),some (.builtin "ValueError.__new__"),some (.bool true)] })::(nat_lit 71,hU #[.ref 31])::(nat_lit 78,hU #[])::(nat_lit 79,{ cls:=.type "dict",data:=.dict #[hE P "__module__" 269 (hS "steadyhand.errors" 194),hE P "__firstlineno__" 273 (.int 13 272),hE P "__static_attributes__" 274 (.ref 78),hE P "__doc__" 275 (.none)] 2 })::(nat_lit 80,{ cls:=.type "type",data:=.cls { name:="TooMany",bases:=[.ref 31],mro:=[.ref 80,.ref 31,.type "ValueError",.type "Exception",.type "BaseException",.type "object"],ns:=79,qualname:="TooMany" },slots:=#[some (.ref 71),none,some (hS "TooMany" 262),some (hS "TooMany" 270),some (.builtin "ValueError.__new__"),some (.bool true)] })::(nat_lit 83,hU #[.ref 31])::(nat_lit 90,hU #[])::(nat_lit 92,hU #[hS "self" 293,hS "step" 294])::(nat_lit 93,hU #[])::(nat_lit 95,hD "__init__" 290 "NoRun.__init__" 291 292 17 2 3 90 91 .none (.ref 92) (.ref 93) (.ref 94) 295 17 296)::(nat_lit 96,hF "__init__" "NoRun.__init__" (hI 7 0) .none .none "steadyhand.errors" 194 95)::(nat_lit 97,hU #[hS "step" 298])::(nat_lit 98,{ cls:=.type "dict",data:=.dict #[hE P "__module__" 285 (hS "steadyhand.errors" 194),hE P "__firstlineno__" 289 (.int 15 288),hE P "__init__" 297 (.ref 96),hE P "__static_attributes__" 299 (.ref 97),hE P "__doc__" 300 (.none)] 2 })::(nat_lit 99,{ cls:=.type "type",data:=.cls { name:="NoRun",bases:=[.ref 31],mro:=[.ref 99,.ref 31,.type "ValueError",.type "Exception",.type "BaseException",.type "object"],ns:=98,qualname:="NoRun" },slots:=#[some (.ref 83),none,some (hS "NoRun" 278),some (hS "NoRun" 286),some (.builtin "ValueError.__new__"),some (.bool true)] })::(nat_lit 102,hU #[.ref 31])::(nat_lit 109,hU #[])::(nat_lit 110,{ cls:=.type "dict",data:=.dict #[hE P "__module__" 310 (hS "steadyhand.errors" 194),hE P "__firstlineno__" 314 (.int 20 313),hE P "__static_attributes__" 315 (.ref 109),hE P "__doc__" 316 (.none)] 2 })::(nat_lit 111,{ cls:=.type "type",data:=.cls { name:="NotClosed",bases:=[.ref 31],mro:=[.ref 111,.ref 31,.type "ValueError",.type "Exception",.type "BaseException",.type "object"],ns:=110,qualname:="NotClosed" },slots:=#[some (.ref 102),none,some (hS "NotClosed" 303),some (hS "NotClosed" 311),some (.builtin "ValueError.__new__"),some (.bool true)] })::(nat_lit 114,hU #[.ref 31])::(nat_lit 121,hU #[])::(nat_lit 122,{ cls:=.type "dict",data:=.dict #[hE P "__module__" 326 (hS "steadyhand.errors" 194),hE P "__firstlineno__" 330 (.int 22 329),hE P "__static_attributes__" 331 (.ref 121),hE P "__doc__" 332 (.none)] 2 })::(nat_lit 123,{ cls:=.type "type",data:=.cls { name:="NotPlain",bases:=[.ref 31],mro:=[.ref 123,.ref 31,.type "ValueError",.type "Exception",.type "BaseException",.type "object"],ns:=122,qualname:="NotPlain" },slots:=#[some (.ref 114),none,some (hS "NotPlain" 319),some (hS "NotPlain" 327),some (.builtin "ValueError.__new__"),some (.bool true)] })::(nat_lit 126,hU #[.ref 31])::(nat_lit 133,hU #[])::(nat_lit 134,{ cls:=.type "dict",data:=.dict #[hE P "__module__" 342 (hS "steadyhand.errors" 194),hE P "__firstlineno__" 346 (.int 24 345),hE P "__static_attributes__" 347 (.ref 133),hE P "__doc__" 348 (.none)] 2 })::(nat_lit 135,{ cls:=.type "type",data:=.cls { name:="BadTurn",bases:=[.ref 31],mro:=[.ref 135,.ref 31,.type "ValueError",.type "Exception",.type "BaseException",.type "object"],ns:=134,qualname:="BadTurn" },slots:=#[some (.ref 126),none,some (hS "BadTurn" 335),some (hS "BadTurn" 343),some (.builtin "ValueError.__new__"),some (.bool true)] })::(nat_lit 138,hU #[.ref 31])::(nat_lit 145,hU #[])::(nat_lit 146,{ cls:=.type "dict",data:=.dict #[hE P "__module__" 358 (hS "steadyhand.errors" 194),hE P "__firstlineno__" 362 (.int 26 361),hE P "__static_attributes__" 363 (.ref 145),hE P "__doc__" 364 (.none)] 2 })::(nat_lit 147,{ cls:=.type "type",data:=.cls { name:="NoText",bases:=[.ref 31],mro:=[.ref 147,.ref 31,.type "ValueError",.type "Exception",.type "BaseException",.type "object"],ns:=146,qualname:="NoText" },slots:=#[some (.ref 138),none,some (hS "NoText" 351),some (hS "NoText" 359),some (.builtin "ValueError.__new__"),some (.bool true)] })::(nat_lit 150,hU #[.ref 31])::(nat_lit 157,hU #[])::(nat_lit 158,{ cls:=.type "dict",data:=.dict #[hE P "__module__" 374 (hS "steadyhand.errors" 194),hE P "__firstlineno__" 378 (.int 28 377),hE P "__static_attributes__" 379 (.ref 157),hE P "__doc__" 380 (.none)] 2 })::(nat_lit 159,{ cls:=.type "type",data:=.cls { name:="NoRow",bases:=[.ref 31],mro:=[.ref 159,.ref 31,.type "ValueError",.type "Exception",.type "BaseException",.type "object"],ns:=158,qualname:="NoRow" },slots:=#[some (.ref 150),none,some (hS "NoRow" 367),some (hS "NoRow" 375),some (.builtin "ValueError.__new__"),some (.bool true)] })::(nat_lit 162,hU #[])::(nat_lit 164,hU #[hS "thing" 388])::(nat_lit 165,hU #[])::(nat_lit 167,hD "is_whole" 385 "is_whole" 386 387 31 1 3 162 163 .none (.ref 164) (.ref 165) (.ref 166) 389 31 390)::(nat_lit 168,hF "is_whole" "is_whole" (hT 14) .none .none "steadyhand.fractions" 383 167)::(nat_lit 169,hU #[])::(nat_lit 171,hU #[hS "numbers" 395,hS "common" 396,hS "number" 397,hS "rest" 398,hS "left" 399])::(nat_lit 172,hU #[])::(nat_lit 174,hD "common_divisor" 392 "common_divisor" 393 394 33 1 3 169 170 .none (.ref 171) (.ref 172) (.ref 173) 400 33 401)::(nat_lit 175,hF "common_divisor" "common_divisor" (hT 15) .none .none "steadyhand.fractions" 383 174)::(nat_lit 176,hU #[.int 1 403])::(nat_lit 177,hU #[])::(nat_lit 179,hU #[hS "top" 407,hS "bottom" 408,hS "common" 409])::(nat_lit 180,hU #[])::(nat_lit 182,hD "fraction" 404 "fraction" 405 406 42 2 3 177 178 .none (.ref 179) (.ref 180) (.ref 181) 410 42 411)::(nat_lit 183,hF "fraction" "fraction" (hT 16) (.ref 176) .none "steadyhand.fractions" 383 182)::(nat_lit 184,hU #[])::(nat_lit 186,hU #[hS "one" 416,hS "other" 417])::(nat_lit 187,hU #[])::(nat_lit 189,hD "under" 413 "under" 414 415 51 2 3 184 185 .none (.ref 186) (.ref 187) (.ref 188) 418 51 419)::(nat_lit 190,hF "under" "under" (hT 17) .none .none "steadyhand.fractions" 383 189)::(nat_lit 191,hU #[])::(nat_lit 194,hD "is_numbers" 423 "is_numbers" 424 425 54 2 3 191 192 .none .none .none (.ref 193) 426 54 427)::(nat_lit 195,hF "is_numbers" "is_numbers" (hT 19) .none .none "steadyhand.tables" 421 194)::(nat_lit 196,hU #[])::(nat_lit 199,hD "is_table" 429 "is_table" 430 431 56 3 3 196 197 .none .none .none (.ref 198) 432 56 433)::(nat_lit 200,hF "is_table" "is_table" (hT 20) .none .none "steadyhand.tables" 421 199)::(nat_lit 201,hU #[.int 5 435])::(nat_lit 202,hU #[])::(nat_lit 205,hD "copied" 436 "copied" 437 438 58 2 3 202 203 .none .none .none (.ref 204) 439 58 440)::(nat_lit 206,hF "copied" "copied" (hT 21) (.ref 201) .none "steadyhand.tables" 421 205)::(nat_lit 207,hU #[])::(nat_lit 210,hD "scaled" 442 "scaled" 443 444 66 2 3 207 208 .none .none .none (.ref 209) 445 66 446)::(nat_lit 211,hF "scaled" "scaled" (hT 22) .none .none "steadyhand.tables" 421 210)::(nat_lit 212,hU #[])::(nat_lit 215,hD "mixed" 448 "mixed" 449 450 68 4 3 212 213 .none .none .none (.ref 214) 451 68 452)::(nat_lit 216,hF "mixed" "mixed" (hT 23) .none .none "steadyhand.tables" 421 215)::(nat_lit 217,hU #[])::(nat_lit 220,hD "is_row" 456 "is_row" 457 458 71 2 3 217 218 .none .none .none (.ref 219) 459 71 460)::(nat_lit 221,hF "is_row" "is_row" (hT 25) .none .none "steadyhand.rows" 454 220)::(nat_lit 222,hU #[])::(nat_lit 225,hD "is_room" 462 "is_room" 463 464 73 2 3 222 223 .none .none .none (.ref 224) 465 73 466)::(nat_lit 226,hF "is_room" "is_room" (hT 26) .none .none "steadyhand.rows" 454 225)::(nat_lit 227,hU #[])::(nat_lit 229,hU #[hS "numbers" 471,hS "point" 472,hS "top" 473,hS "bottom" 474,hS "number" 475,hS "part" 476])::(nat_lit 230,hU #[])::(nat_lit 232,hD "raw_sum" 468 "raw_sum" 469 470 75 2 3 227 228 .none (.ref 229) (.ref 230) (.ref 231) 477 75 478)::(nat_lit 233,hF "raw_sum" "raw_sum" (hT 27) .none .none "steadyhand.rows" 454 232)::(nat_lit 234,hU #[])::(nat_lit 236,hU #[hS "numbers" 483,hS "point" 484,hS "add" 485,hS "divisor" 486,hS "total" 487])::(nat_lit 237,hU #[])::(nat_lit 239,hD "divided_sum" 480 "divided_sum" 481 482 82 4 3 234 235 .none (.ref 236) (.ref 237) (.ref 238) 488 82 489)::(nat_lit 240,hF "divided_sum" "divided_sum" (hT 28) .none .none "steadyhand.rows" 454 239)::(nat_lit 241,hU #[])::(nat_lit 243,hU #[hS "row" 494,hS "point" 495,hS "total" 496])::(nat_lit 244,hU #[])::(nat_lit 246,hD "holds" 491 "holds" 492 493 85 2 3 241 242 .none (.ref 243) (.ref 244) (.ref 245) 497 85 498)::(nat_lit 247,hF "holds" "holds" (hT 29) .none .none "steadyhand.rows" 454 246)::(nat_lit 248,hU #[])::(nat_lit 251,hD "other_side" 500 "other_side" 501 502 88 1 3 248 249 .none .none .none (.ref 250) 503 88 504)::(nat_lit 252,hF "other_side" "other_side" (hT 30) .none .none "steadyhand.rows" 454 251)::(nat_lit 260,hU #[])::(nat_lit 261,{ cls:=.type "dict",data:=.dict #[hE P "__module__" 517 (hS "steadyhand.rules" 506),hE P "__firstlineno__" 521 (.int 92 520),hE P "__static_attributes__" 522 (.ref 260),hE P "__dict__" 524 (.ref 263),hE P "__weakref__" 526 (.ref 264),hE P "__doc__" 527 (.none)] 4 })::(nat_lit 262,{ cls:=.type "type",data:=.cls { name:="Rule",bases:=[.type "object"],mro:=[.ref 262,.type "object"],ns:=261,qualname:="Rule",subclasses:=[.ref 291,.ref 317,.ref 343] },slots:=#[none,none,some (hS "Rule" 510),some (hS "Rule" 518),some (.builtin "object.__new__"),some (.bool true)] })::(nat_lit 263,{ cls:=.type "getset_descriptor",data:=.fields #[hS "__dict__" 523,.ref 262,.builtin "function.__dict__",.builtin "function.__dict__#set"] })::(nat_lit 264,{ cls:=.type "getset_descriptor",data:=.fields #[hS "__weakref__" 525,.ref 262,.builtin "ExceptionGroup.__weakref__",.none] })::(nat_lit 267,hU #[.ref 262])::(nat_lit 274,hU #[.int 1 542])::(nat_lit 275,hU #[])::(nat_lit 277,hU #[hS "self" 546,hS "numbers" 547,hS "add" 548,hS "divisor" 549])::(nat_lit 278,hU #[])::(nat_lit 280,hD "__init__" 543 "Straight.__init__" 544 545 96 4 3 275 276 .none (.ref 277) (.ref 278) (.ref 279) 550 96 551)::(nat_lit 281,hF "__init__" "Straight.__init__" (hI 34 0) (.ref 274) .none "steadyhand.rules" 506 280)::(nat_lit 282,hU #[])::(nat_lit 284,hU #[hS "self" 556,hS "point" 557])::(nat_lit 285,hU #[])::(nat_lit 287,hD "steering" 553 "Straight.steering" 554 555 101 2 3 282 283 .none (.ref 284) (.ref 285) (.ref 286) 558 101 559)::(nat_lit 288,hF "steering" "Straight.steering" (hI 34 1) .none .none "steadyhand.rules" 506 287)::(nat_lit 289,hU #[hS "add" 561,hS "divisor" 562,hS "numbers" 563])::(nat_lit 290,{ cls:=.type "dict",data:=.dict #[hE P "__module__" 537 (hS "steadyhand.rules" 506),hE P "__firstlineno__" 541 (.int 94 540),hE P "__init__" 552 (.ref 281),hE P "steering" 560 (.ref 288),hE P "__static_attributes__" 564 (.ref 289),hE P "__doc__" 565 (.none)] 2 })::(nat_lit 291,{ cls:=.type "type",data:=.cls { name:="Straight",bases:=[.ref 262],mro:=[.ref 291,.ref 262,.type "object"],ns:=290,qualname:="Straight" },slots:=#[some (.ref 267),none,some (hS "Straight" 530),some (hS "Straight" 538),some (.builtin "object.__new__"),some (.bool true)] })::(nat_lit 294,hU #[.ref 262])::(nat_lit 301,hU #[])::(nat_lit 303,hU #[hS "self" 583,hS "rule" 584,hS "low" 585,hS "high" 586])::(nat_lit 304,hU #[])::(nat_lit 306,hD "__init__" 580 "Stopped.__init__" 581 582 105 4 3 301 302 .none (.ref 303) (.ref 304) (.ref 305) 587 105 588)::(nat_lit 307,hF "__init__" "Stopped.__init__" (hI 35 0) .none .none "steadyhand.rules" 506 306)::(nat_lit 308,hU #[])::(nat_lit 310,hU #[hS "self" 593,hS "point" 594,hS "value" 595])::(nat_lit 311,hU #[])::(nat_lit 313,hD "steering" 590 "Stopped.steering" 591 592 110 2 3 308 309 .none (.ref 310) (.ref 311) (.ref 312) 596 110 597)::(nat_lit 314,hF "steering" "Stopped.steering" (hI 35 1) .none .none "steadyhand.rules" 506 313)::(nat_lit 315,hU #[hS "high" 599,hS "low" 600,hS "rule" 601])::(nat_lit 316,{ cls:=.type "dict",data:=.dict #[hE P "__module__" 575 (hS "steadyhand.rules" 506),hE P "__firstlineno__" 579 (.int 103 578),hE P "__init__" 589 (.ref 307),hE P "steering" 598 (.ref 314),hE P "__static_attributes__" 602 (.ref 315),hE P "__doc__" 603 (.none)] 2 })::(nat_lit 317,{ cls:=.type "type",data:=.cls { name:="Stopped",bases:=[.ref 262],mro:=[.ref 317,.ref 262,.type "object"],ns:=316,qualname:="Stopped" },slots:=#[some (.ref 294),none,some (hS "Stopped" 568),some (hS "Stopped" 576),some (.builtin "object.__new__"),some (.bool true)] })::(nat_lit 320,hU #[.ref 262])::(nat_lit 327,hU #[])::(nat_lit 329,hU #[hS "self" 621,hS "row" 622,hS "rule" 623,hS "other" 624])::(nat_lit 330,hU #[])::(nat_lit 332,hD "__init__" 618 "Parted.__init__" 619 620 119 4 3 327 328 .none (.ref 329) (.ref 330) (.ref 331) 625 119 626)::(nat_lit 333,hF "__init__" "Parted.__init__" (hI 36 0) .none .none "steadyhand.rules" 506 332)::(nat_lit 334,hU #[])::(nat_lit 336,hU #[hS "self" 631,hS "point" 632])::(nat_lit 337,hU #[])::(nat_lit 339,hD "steering" 628 "Parted.steering" 629 630 124 2 3 334 335 .none (.ref 336) (.ref 337) (.ref 338) 633 124 634)::(nat_lit 340,hF "steering" "Parted.steering" (hI 36 1) .none .none "steadyhand.rules" 506 339)::(nat_lit 341,hU #[hS "other" 636,hS "row" 637,hS "rule" 638])::(nat_lit 342,{ cls:=.type "dict",data:=.dict #[hE P "__module__" 613 (hS "steadyhand.rules" 506),hE P "__firstlineno__" 617 (.int 117 616),hE P "__init__" 627 (.ref 333),hE P "steering" 635 (.ref 340),hE P "__static_attributes__" 639 (.ref 341),hE P "__doc__" 640 (.none)] 2 })::(nat_lit 343,{ cls:=.type "type",data:=.cls { name:="Parted",bases:=[.ref 262],mro:=[.ref 343,.ref 262,.type "object"],ns:=342,qualname:="Parted" },slots:=#[some (.ref 320),none,some (hS "Parted" 606),some (hS "Parted" 614),some (.builtin "object.__new__"),some (.bool true)] })::(nat_lit 346,hU #[])::(nat_lit 348,hU #[hS "value" 646,hS "many" 647])::(nat_lit 349,hU #[])::(nat_lit 351,hD "is_rule" 643 "is_rule" 644 645 128 2 3 346 347 .none (.ref 348) (.ref 349) (.ref 350) 648 128 649)::(nat_lit 352,hF "is_rule" "is_rule" (hT 37) .none .none "steadyhand.rules" 506 351)::(nat_lit 353,hU #[])::(nat_lit 355,hU #[hS "value" 654,hS "many" 655])::(nat_lit 356,hU #[])::(nat_lit 358,hD "is_straight" 651 "is_straight" 652 653 136 2 3 353 354 .none (.ref 355) (.ref 356) (.ref 357) 656 136 657)::(nat_lit 359,hF "is_straight" "is_straight" (hT 38) .none .none "steadyhand.rules" 506 358)::(nat_lit 360,hU #[])::(nat_lit 362,hU #[hS "low" 662,hS "high" 663])::(nat_lit 363,hU #[])::(nat_lit 365,hD "are_stops" 659 "are_stops" 660 661 140 2 3 360 361 .none (.ref 362) (.ref 363) (.ref 364) 664 140 665)::(nat_lit 366,hF "are_stops" "are_stops" (hT 39) .none .none "steadyhand.rules" 506 365)::(nat_lit 367,hU #[])::(nat_lit 369,hU #[hS "rule" 670])::(nat_lit 370,hU #[])::(nat_lit 372,hD "piece_count" 667 "piece_count" 668 669 142 1 3 367 368 .none (.ref 369) (.ref 370) (.ref 371) 671 142 672)::(nat_lit 373,hF "piece_count" "piece_count" (hT 40) .none .none "steadyhand.rules" 506 372)::(nat_lit 374,hU #[])::(nat_lit 376,hU #[hS "rule" 677,hS "many" 678])::(nat_lit 377,hU #[])::(nat_lit 379,hD "pieces" 674 "pieces" 675 676 148 2 3 374 375 .none (.ref 376) (.ref 377) (.ref 378) 679 148 680)::(nat_lit 380,hF "pieces" "pieces" (hT 41) .none .none "steadyhand.rules" 506 379)::(nat_lit 381,hU #[])::(nat_lit 383,hU #[hS "rule" 685])::(nat_lit 384,hU #[])::(nat_lit 386,hD "listed" 682 "listed" 683 684 154 1 3 381 382 .none (.ref 383) (.ref 384) (.ref 385) 686 154 687)::(nat_lit 387,hF "listed" "listed" (hT 42) .none .none "steadyhand.rules" 506 386)::(nat_lit 388,hU #[])::(nat_lit 391,hD "parted_pieces" 689 "parted_pieces" 690 691 160 1 3 388 389 .none .none .none (.ref 390) 692 160 693)::(nat_lit 392,hF "parted_pieces" "parted_pieces" (hT 43) .none .none "steadyhand.rules" 506 391)::(nat_lit 393,hU #[])::(nat_lit 396,hD "stopped_pieces" 695 "stopped_pieces" 696 697 165 1 3 393 394 .none .none .none (.ref 395) 698 165 699)::(nat_lit 397,hF "stopped_pieces" "stopped_pieces" (hT 44) .none .none "steadyhand.rules" 506 396)::(nat_lit 398,hU #[])::(nat_lit 400,hU #[hS "straight" 704,hS "stop" 705])::(nat_lit 401,hU #[])::(nat_lit 403,hD "stop_row" 701 "stop_row" 702 703 175 2 3 398 399 .none (.ref 400) (.ref 401) (.ref 402) 706 175 707)::(nat_lit 404,hF "stop_row" "stop_row" (hT 45) .none .none "steadyhand.rules" 506 403)::(nat_lit 412,hU #[])::(nat_lit 414,hU #[hS "self" 732,hS "rows" 733,hS "nexts" 734,hS "steer" 735,hS "push" 736,hS "add" 737,hS "divisor" 738])::(nat_lit 415,hU #[])::(nat_lit 417,hD "__init__" 729 "Mode.__init__" 730 731 183 7 3 412 413 .none (.ref 414) (.ref 415) (.ref 416) 739 183 740)::(nat_lit 418,hF "__init__" "Mode.__init__" (hI 50 0) .none .none "steadyhand.things" 709 417)::(nat_lit 419,hU #[hS "add" 742,hS "divisor" 743,hS "nexts" 744,hS "push" 745,hS "rows" 746,hS "steer" 747])::(nat_lit 420,{ cls:=.type "dict",data:=.dict #[hE P "__module__" 724 (hS "steadyhand.things" 709),hE P "__firstlineno__" 728 (.int 181 727),hE P "__init__" 741 (.ref 418),hE P "__static_attributes__" 748 (.ref 419),hE P "__dict__" 750 (.ref 422),hE P "__weakref__" 752 (.ref 423),hE P "__doc__" 753 (.none)] 4 })::(nat_lit 421,{ cls:=.type "type",data:=.cls { name:="Mode",bases:=[.type "object"],mro:=[.ref 421,.type "object"],ns:=420,qualname:="Mode" },slots:=#[none,none,some (hS "Mode" 717),some (hS "Mode" 725),some (.builtin "object.__new__"),some (.bool true)] })::(nat_lit 422,{ cls:=.type "getset_descriptor",data:=.fields #[hS "__dict__" 749,.ref 421,.builtin "function.__dict__",.builtin "function.__dict__#set"] })::(nat_lit 423,{ cls:=.type "getset_descriptor",data:=.fields #[hS "__weakref__" 751,.ref 421,.builtin "ExceptionGroup.__weakref__",.none] })::(nat_lit 433,hU #[])::(nat_lit 435,hU #[hS "self" 771,hS "many" 772,hS "pushes" 773,hS "modes" 774])::(nat_lit 436,hU #[])::(nat_lit 438,hD "__init__" 768 "Thing.__init__" 769 770 192 4 3 433 434 .none (.ref 435) (.ref 436) (.ref 437) 775 192 776)::(nat_lit 439,hF "__init__" "Thing.__init__" (hI 51 0) .none .none "steadyhand.things" 709 438)::(nat_lit 440,hU #[])::(nat_lit 442,hU #[hS "self" 781])::(nat_lit 443,hU #[])::(nat_lit 445,hD "pushes" 778 "Thing.pushes" 779 780 201 1 3 440 441 .none (.ref 442) (.ref 443) (.ref 444) 782 201 783)::(nat_lit 446,hF "pushes" "Thing.pushes" (hI 51 1) .none .none "steadyhand.things" 709 445)::(nat_lit 447,hU #[])::(nat_lit 449,hU #[hS "self" 788])::(nat_lit 450,hU #[])::(nat_lit 452,hD "modes" 785 "Thing.modes" 786 787 204 1 3 447 448 .none (.ref 449) (.ref 450) (.ref 451) 789 204 790)::(nat_lit 453,hF "modes" "Thing.modes" (hI 51 2) .none .none "steadyhand.things" 709 452)::(nat_lit 454,hU #[])::(nat_lit 456,hU #[hS "self" 795])::(nat_lit 457,hU #[])::(nat_lit 459,hD "is_closed" 792 "Thing.is_closed" 793 794 207 1 3 454 455 .none (.ref 456) (.ref 457) (.ref 458) 796 207 797)::(nat_lit 460,hF "is_closed" "Thing.is_closed" (hI 51 3) .none .none "steadyhand.things" 709 459)::(nat_lit 461,hU #[])::(nat_lit 463,hU #[hS "self" 802])::(nat_lit 464,hU #[])::(nat_lit 466,hD "is_plain" 799 "Thing.is_plain" 800 801 210 1 3 461 462 .none (.ref 463) (.ref 464) (.ref 465) 803 210 804)::(nat_lit 467,hF "is_plain" "Thing.is_plain" (hI 51 4) .none .none "steadyhand.things" 709 466)::(nat_lit 468,hU #[hS "kept_modes" 806,hS "kept_pushes" 807,hS "many" 808])::(nat_lit 469,{ cls:=.type "dict",data:=.dict #[hE P "__module__" 763 (hS "steadyhand.things" 709),hE P "__firstlineno__" 767 (.int 190 766),hE P "__init__" 777 (.ref 439),hE P "pushes" 784 (.ref 446),hE P "modes" 791 (.ref 453),hE P "is_closed" 798 (.ref 460),hE P "is_plain" 805 (.ref 467),hE P "__static_attributes__" 809 (.ref 468),hE P "__dict__" 811 (.ref 471),hE P "__weakref__" 813 (.ref 472),hE P "__doc__" 814 (.none)] 4 })::(nat_lit 470,{ cls:=.type "type",data:=.cls { name:="Thing",bases:=[.type "object"],mro:=[.ref 470,.type "object"],ns:=469,qualname:="Thing" },slots:=#[none,none,some (hS "Thing" 756),some (hS "Thing" 764),some (.builtin "object.__new__"),some (.bool true)] })::(nat_lit 471,{ cls:=.type "getset_descriptor",data:=.fields #[hS "__dict__" 810,.ref 470,.builtin "function.__dict__",.builtin "function.__dict__#set"] })::(nat_lit 472,{ cls:=.type "getset_descriptor",data:=.fields #[hS "__weakref__" 812,.ref 470,.builtin "ExceptionGroup.__weakref__",.none] })::(nat_lit 475,hU #[])::(nat_lit 478,hD "is_sound" 817 "is_sound" 818 819 212 3 3 475 476 .none .none .none (.ref 477) 820 212 821)::(nat_lit 479,hF "is_sound" "is_sound" (hT 52) .none .none "steadyhand.things" 709 478)::(nat_lit 480,hU #[])::(nat_lit 482,hU #[hS "value" 826])::(nat_lit 483,hU #[])::(nat_lit 485,hD "is_push" 823 "is_push" 824 825 220 1 3 480 481 .none (.ref 482) (.ref 483) (.ref 484) 827 220 828)::(nat_lit 486,hF "is_push" "is_push" (hT 53) .none .none "steadyhand.things" 709 485)::(nat_lit 487,hU #[])::(nat_lit 489,hU #[hS "value" 833,hS "many" 834,hS "wide" 835])::(nat_lit 490,hU #[])::(nat_lit 492,hD "is_mode" 830 "is_mode" 831 832 224 3 3 487 488 .none (.ref 489) (.ref 490) (.ref 491) 836 224 837)::(nat_lit 493,hF "is_mode" "is_mode" (hT 54) .none .none "steadyhand.things" 709 492)::(nat_lit 494,hU #[])::(nat_lit 496,hU #[hS "thing" 844,hS "rule" 845,hS "parts" 846,hS "modes" 847,hS "mode" 848,hS "rows" 849,hS "straight" 850])::(nat_lit 497,hU #[])::(nat_lit 499,hD "steered" 841 "steered" 842 843 233 2 3 494 495 .none (.ref 496) (.ref 497) (.ref 498) 851 233 852)::(nat_lit 500,hF "steered" "steered" (hT 56) .none .none "steadyhand.steering" 839 499)::(nat_lit 501,hU #[])::(nat_lit 504,hD "steered_mode" 854 "steered_mode" 855 856 240 3 3 501 502 .none .none .none (.ref 503) 857 240 858)::(nat_lit 505,hF "steered_mode" "steered_mode" (hT 57) .none .none "steadyhand.steering" 839 504)::(nat_lit 506,hU #[])::(nat_lit 509,hD "rounded" 860 "rounded" 861 862 243 3 3 506 507 .none .none .none (.ref 508) 863 243 864)::(nat_lit 510,hF "rounded" "rounded" (hT 58) .none .none "steadyhand.steering" 839 509)::(nat_lit 511,hU #[])::(nat_lit 514,hD "rounded_mode" 866 "rounded_mode" 867 868 251 2 3 511 512 .none .none .none (.ref 513) 869 251 870)::(nat_lit 515,hF "rounded_mode" "rounded_mode" (hT 59) .none .none "steadyhand.steering" 839 514)::(nat_lit 516,hU #[])::(nat_lit 518,hU #[hS "thing" 875,hS "rule" 876,hS "parts" 877,hS "modes" 878,hS "mode" 879,hS "rows" 880,hS "straight" 881])::(nat_lit 519,hU #[])::(nat_lit 521,hD "late" 872 "late" 873 874 255 2 3 516 517 .none (.ref 518) (.ref 519) (.ref 520) 882 255 883)::(nat_lit 522,hF "late" "late" (hT 60) .none .none "steadyhand.steering" 839 521)::(nat_lit 523,hU #[])::(nat_lit 526,hD "late_mode" 885 "late_mode" 886 887 264 3 3 523 524 .none .none .none (.ref 525) 888 264 889)::(nat_lit 527,hF "late_mode" "late_mode" (hT 61) .none .none "steadyhand.steering" 839 526)::(nat_lit 528,hU #[])::(nat_lit 530,hU #[hS "_law_script" 896,hS "_law_k" 897])::(nat_lit 531,hU #[])::(nat_lit 533,hD "_law_cell_at" 893 "_law_cell_at" 894 895 270 2 3 528 529 .none (.ref 530) (.ref 531) (.ref 532) 898 270 899)::(nat_lit 534,hF "_law_cell_at" "_law_cell_at" (hT 63) .none .none "law_steadyhand_k24_rules_refused" 891 533)::(nat_lit 535,hU #[])::(nat_lit 537,hU #[hS "_law_cell" 904,hS "_law_many" 905,hS "_law_found" 906,hS "_law_rest" 907,hS "_law_k" 908,hS "_law_number" 909])::(nat_lit 538,hU #[])::(nat_lit 540,hD "_law_stream" 901 "_law_stream" 902 903 274 2 3 535 536 .none (.ref 537) (.ref 538) (.ref 539) 910 274 911)::(nat_lit 541,hF "_law_stream" "_law_stream" (hT 64) .none .none "law_steadyhand_k24_rules_refused" 891 540)::(nat_lit 542,hU #[])::(nat_lit 545,hD "_law_word" 913 "_law_word" 914 915 287 1 3 542 543 .none .none .none (.ref 544) 916 287 917)::(nat_lit 546,hF "_law_word" "_law_word" (hT 65) .none .none "law_steadyhand_k24_rules_refused" 891 545)::(nat_lit 547,hU #[])::(nat_lit 549,hU #[hS "_law_way" 922,hS "_law_thing_here" 923,hS "_law_rule" 924,hS "_law_size" 925,hS "_law_word_here" 926,hS "_law_e" 927])::(nat_lit 550,hU #[])::(nat_lit 552,hD "_law_said" 919 "_law_said" 920 921 294 4 3 547 548 .none (.ref 549) (.ref 550) (.ref 551) 928 294 929)::(nat_lit 553,hF "_law_said" "_law_said" (hT 66) .none .none "law_steadyhand_k24_rules_refused" 891 552)::(nat_lit 554,hU #[])::(nat_lit 557,hD "_law_leaf" 931 "_law_leaf" 932 933 308 2 3 554 555 .none .none .none (.ref 556) 934 308 935)::(nat_lit 558,hF "_law_leaf" "_law_leaf" (hT 67) .none .none "law_steadyhand_k24_rules_refused" 891 557)::(nat_lit 559,hU #[])::(nat_lit 562,hD "_law_no_leaf" 937 "_law_no_leaf" 938 939 311 2 3 559 560 .none .none .none (.ref 561) 940 311 941)::(nat_lit 563,hF "_law_no_leaf" "_law_no_leaf" (hT 68) .none .none "law_steadyhand_k24_rules_refused" 891 562)::(nat_lit 564,hU #[])::(nat_lit 567,hD "_law_no_part" 943 "_law_no_part" 944 945 320 3 3 564 565 .none .none .none (.ref 566) 946 320 947)::(nat_lit 568,hF "_law_no_part" "_law_no_part" (hT 69) .none .none "law_steadyhand_k24_rules_refused" 891 567)::(nat_lit 569,hU #[])::(nat_lit 572,hD "_law_case" 949 "_law_case" 950 951 328 2 3 569 570 .none .none .none (.ref 571) 952 328 953)::(nat_lit 573,hF "_law_case" "_law_case" (hT 70) .none .none "law_steadyhand_k24_rules_refused" 891 572)::(nat_lit 574,hU #[])::(nat_lit 577,hD "_law_thing" 955 "_law_thing" 956 957 351 2 3 574 575 .none .none .none (.ref 576) 958 351 959)::(nat_lit 578,hF "_law_thing" "_law_thing" (hT 71) .none .none "law_steadyhand_k24_rules_refused" 891 577)::(nat_lit 579,hU #[])::(nat_lit 581,hU #[hS "_law_script" 964,hS "_law_many" 965,hS "_law_rule" 966,hS "_law_good" 967,hS "_law_count" 968,hS "_law_modes" 969,hS "_law_thing_here" 970,hS "_law_way" 971,hS "_law_due" 972,hS "_law_leaf_here" 973,hS "_law_size" 974,hS "_law_wrong" 975])::(nat_lit 582,hU #[])::(nat_lit 584,hD "law" 961 "law" 962 963 355 1 3 579 580 .none (.ref 581) (.ref 582) (.ref 583) 976 355 977)::(nat_lit 585,hF "law" "law" (hT 72) .none .none "law_steadyhand_k24_rules_refused" 891 584) :: []
noncomputable def ks:List Addr:=[2,3,15,17,18,20,21,22,29,30,31,32,35,42,43,44,47,54,55,56,59,66,67,68,71,78,79,80,83,90,92,93,95,96,97,98,99,102,109,110,111,114,121,122,123,126,133,134,135,138,145,146,147,150,157,158,159,162,164,165,167,168,169,171,172,174,175,176,177,179,180,182,183,184,186,187,189,190,191,194,195,196,199,200,201,202,205,206,207,210,211,212,215,216,217,220,221,222,225,226,227,229,230,232,233,234,236,237,239,240,241,243,244,246,247,248,251,252,260,261,262,263,264,267,274,275,277,278,280,281,282,284,285,287,288,289,290,291,294,301,303,304,306,307,308,310,311,313,314,315,316,317,320,327,329,330,332,333,334,336,337,339,340,341,342,343,346,348,349,351,352,353,355,356,358,359,360,362,363,365,366,367,369,370,372,373,374,376,377,379,380,381,383,384,386,387,388,391,392,393,396,397,398,400,401,403,404,412,414,415,417,418,419,420,421,422,423,433,435,436,438,439,440,442,443,445,446,447,449,450,452,453,454,456,457,459,460,461,463,464,466,467,468,469,470,471,472,475,478,479,480,482,483,485,486,487,489,490,492,493,494,496,497,499,500,501,504,505,506,509,510,511,514,515,516,518,519,521,522,523,526,527,528,530,531,533,534,535,537,538,540,541,542,545,546,547,549,550,552,553,554,557,558,559,562,563,564,567,568,569,572,573,574,577,578,579,581,582,584,585]
theorem ke:∀ P:Params,ks=(KK P).map (·.1):=λ_=>by
 kernel_rfl
noncomputable def vw:Program:={ PySem.Challenge.pw_steadyhand_k24_rules_refused with main:={ PySem.Challenge.pw_steadyhand_k24_rules_refused.main with body:=[hT 0,hT 2,hT 3,hT 4,hT 5,hT 6,hT 7,hT 8,hT 9,hT 10,hT 11,hT 12,hT 14,hT 15,hT 17,hT 19,hT 20,hT 22,hT 23,hT 25,hT 26,hT 27,hT 28,hT 29,hT 30,hT 32,hT 33,hT 34,hT 35,hT 36,hT 37,hT 38,hT 39,hT 40,hT 41,hT 42,hT 43,hT 44,hT 45,hT 47,hT 48,hT 49,hT 50,hT 51,hT 52,hT 53,hT 54,hT 56,hT 57,hT 58,hT 59,hT 60,hT 61,hT 63,hT 64,hT 65,hT 66,hT 67,hT 68,hT 69,hT 70,hT 71,hT 72] } }
noncomputable def lo:List Str:=[Str.ofString "fraction",Str.ofString "copied",Str.ofString "Straight"]
noncomputable abbrev rr:RowW:=(OpenLaw.row PySem.Challenge.rw_steadyhand_k24_rules_refused).toRowW
noncomputable abbrev xt:Shared->Bool:=λs=>xlAt vw [] s && recOk rr.records s
noncomputable def bt:Params->BT:=λP=>(.node (boot_o_0 P) (.node (boot_o_1 P) (.node (boot_o_3 P) (.node (boot_o_7 P) .nil .nil) .nil) (.node (boot_o_5 P) (.node (boot_o_9 P) .nil .nil) .nil)) (.node (boot_o_2 P) (.node (boot_o_4 P) (.node (boot_o_8 P) .nil .nil) .nil) (.node (boot_o_6 P) (.node (boot_o_10 P) .nil .nil) .nil)))
noncomputable def lhs (T:Params->BT) (h:Params->Heap) (d:Drawn) (k:Nat) (w:World) (os:OsState):=(TT.runT treeTable PySem.Challenge.pw_steadyhand_k24_rules_refused w 11 (some (.ref 6)) 10826 ⟨T w.params,11,(h w.params).life,Array.mk [],d,k,os⟩ (topStub PySem.Challenge.pw_steadyhand_k24_rules_refused)).map (λs=>((staticsOk (importedModules PySem.Challenge.pw_steadyhand_k24_rules_refused.main.body) (h w.params) s.abs.heap && namesBound PySem.Challenge.pw_steadyhand_k24_rules_refused s.abs.heap && gensDone s.abs && laidKept (h w.params) s.abs.heap),openSeen vw lo (importedModules PySem.Challenge.pw_steadyhand_k24_rules_refused.main.body) xt true s.abs,ks.map s.abs.heap.get?))
noncomputable def rhs (F:Params->Frag) (w:World) (_:OsState):=some (true,openGood vw lo,(F w.params).map λp=>some p.2)
lay_quick lhs rhs
theorem same (w:World) (os:OsState):PySem.W.Fast.tw8662128565079009923 bt boot_heap boot_drawn boot_toks w os=PySem.W.Fast.tw6526498082922622024 KK w os:=by
 kernel_rfl
theorem left:LeftO rr.prog vw lo xt (kHook KK ks ke).obs (kHook KK ks ke).val 10826:=
 TT.left_is (boot_open (by kernel_rfl) (by decide) (λ_=>by kernel_rfl)) (λ_=>by kernel_rfl) (λ_=>by kernel_rfl) (λ_=>by kernel_rfl) (λ_=>by kernel_rfl)
  λw os=>(congrArg (λf=>f bt boot_heap boot_drawn boot_toks w os) PySem.W.Fast.te8662128565079009923).trans ((same w os).trans (congrFun (congrFun (congrFun PySem.W.Fast.te6526498082922622024 KK) w) os).symm)
end H24
namespace L2
open PySem PySem.Spec PyProof.Rows
noncomputable abbrev yJ:=Sum Int Str
noncomputable def Xi:yJ->Value->Bool
 | .inl k,v=>Value.isInt k v
 | .inr x,v=>Value.isStrOf x v
noncomputable def ZL (w:World):yJ->Int
 | .inl k=>hashInt k
 | .inr x=>hashStr w x
theorem uA:∀ {k:yJ} {v:Value},Xi k v=true->(∃ i t,k=Sum.inl i/\v=Value.int i t)\/(∃ x t,k=Sum.inr x/\v=Value.str x t)
 | .inl i,v,h=>by
  obtain ⟨t,e⟩:=Value.isInt_shape (k:=i) (v:=v) h
  exact .inl ⟨i,t,rfl,e⟩
 | .inr x,v,h=>by
  obtain ⟨t,e⟩:=Value.isStrOf_shape (x:=x) (v:=v) h
  exact .inr ⟨x,t,rfl,e⟩
theorem UK (a b:Int):decide ((Sum.inl a:yJ)=Sum.inl b)=(a == b):=by
 by_cases e:a=b
 ·subst e; simp
 ·have h:¬ (Sum.inl a:yJ)=Sum.inl b:=λq=>e (Sum.inl.inj q)
  rw [decide_eq_false h]
  exact (beq_eq_false_iff_ne.mpr e).symm
theorem UL (a b:Str):decide ((Sum.inr a:yJ)=Sum.inr b)=decide (a=b):=by
 by_cases e:a=b
 ·subst e; simp
 ·have h:¬ (Sum.inr a:yJ)=Sum.inr b:=λq=>e (Sum.inr.inj q)
  rw [decide_eq_false h,decide_eq_false e]
theorem UM (a:Int) (b:Str):decide ((Sum.inl a:yJ)=Sum.inr b)=false:=decide_eq_false (λq=>nomatch q)
theorem UN (a:Str) (b:Int):decide ((Sum.inr a:yJ)=Sum.inl b)=false:=decide_eq_false (λq=>nomatch q)
noncomputable def Xj (prog:Program) (w:World):PySem.KeyKind prog w yJ where
 is:=Xi
 hash:=ZL w
 inj:=λv a b ha hb=>by
  rcases uA ha with ⟨i,t,rfl,rfl⟩ | ⟨x,t,rfl,rfl⟩
  ·rcases uA hb with ⟨j,u,rfl,e⟩ | ⟨y,u,rfl,e⟩
   ·injection e with e1 _; rw [e1]
   ·exact nomatch e
  ·rcases uA hb with ⟨j,u,rfl,e⟩ | ⟨y,u,rfl,e⟩
   ·exact nomatch e
   ·injection e with e1 _; rw [e1]
 byValue:=λk v h=>by
  rcases uA h with ⟨i,t,rfl,rfl⟩ | ⟨x,t,rfl,rfl⟩ <;> rfl
 pyHash:=λhv h=>by
  rcases uA hv with ⟨i,t,rfl,rfl⟩ | ⟨x,t,rfl,rfl⟩
  ·exact wpAny_pyHash_int h
  ·exact wpAny_pyHash_str h
 eqBool:=λhu hv h=>by
  rcases uA hu with ⟨i,t,rfl,rfl⟩ | ⟨x,t,rfl,rfl⟩
  ·rcases uA hv with ⟨j,u,rfl,rfl⟩ | ⟨y,u,rfl,rfl⟩
   ·rw [UK] at h; exact wpAny_eqBool_int h
   ·rw [UM] at h; exact SeqAt.EqAt.int_str i t y u _ _ _ _ h
  ·rcases uA hv with ⟨j,u,rfl,rfl⟩ | ⟨y,u,rfl,rfl⟩
   ·rw [UN] at h; exact SeqAt.EqAt.str_int x t j u _ _ _ _ h
   ·rw [UL] at h; exact wpAny_eqBool_str h
 «strs»:=λk x t v h=>by
  rcases uA h with ⟨i,u,rfl,e⟩ | ⟨y,u,rfl,e⟩
  ·exact nomatch e
  ·injection e with e1 _
   subst e1
   cases v <;> rfl
end L2
namespace L2
open PySem PySem.Spec PyProof.Rows
inductive V where
 | non | bl (b:Bool) | int (i:Int) | str (x:Str) | byt (b:Array UInt8) | flt (b:UInt64) | ref (a:Addr) | ty (n:String)
 deriving DecidableEq
noncomputable def zV:V->Value->Prop
 | .non,u=>u=Value.none
 | .bl b,u=>u=Value.bool b
 | .int i,u=>∃ t,u=Value.int i t
 | .str x,u=>∃ t,u=Value.str x t
 | .byt b,u=>∃ t,u=Value.bytes b t
 | .flt b,u=>∃ t,u=Value.float b t
 | .ref a,u=>u=Value.ref a
 | .ty n,u=>u=Value.type n
noncomputable abbrev zO:List V->List Value->Prop:=Paired zV
theorem zO.length {xs:List V} {us:List Value} (r:zO xs us):xs.length=us.length:=Paired.length r
theorem zO.get:∀ {xs:List V} {us:List Value} {i:Nat} {x:V},zO xs us->xs[i]? = some x->∃ u,us[i]? = some u/\zV x u
 | _,_,_,_,.nil,e=>by simp at e
 | _,_,0,_,.cons r _,e=>by simp at e; subst e; exact ⟨_,rfl,r⟩
 | _,_,i + 1,x,.cons _ t,e=>by
  obtain ⟨u,h1,h2⟩:=zO.get (i:=i) (x:=x) t (by simpa using e)
  exact ⟨u,by simpa using h1,h2⟩
theorem zO.set {x:V} {u:Value} (r:zV x u):∀ {xs:List V} {us:List Value} (i:Nat),zO xs us->zO (xs.set i x) (us.set i u)
 | _,_,_,.nil=>.nil
 | _,_,0,.cons _ t=>.cons r t
 | _,_,i + 1,.cons q t=>.cons q (zO.set r i t)
theorem zO.append:∀ {xs ys:List V} {us ws:List Value},zO xs us->zO ys ws->zO (xs++ys) (us++ws)
 | _,_,_,_,.nil,s=>s
 | _,_,_,_,.cons r t,s=>.cons r (zO.append t s)
theorem zO.take:∀ {xs:List V} {us:List Value} (n:Nat),zO xs us->zO (xs.take n) (us.take n)
 | _,_,0,_=>.nil
 | _,_,_ + 1,.nil=>.nil
 | _,_,n + 1,.cons r t=>.cons r (zO.take n t)
theorem zO.drop:∀ {xs:List V} {us:List Value} (n:Nat),zO xs us->zO (xs.drop n) (us.drop n)
 | _,_,0,r=>r
 | _,_,_ + 1,.nil=>.nil
 | _,_,n + 1,.cons _ t=>zO.drop n t
theorem zO.none_of:∀ {xs:List V} {us:List Value} {i:Nat},zO xs us->xs[i]? = none->us[i]? = none:=λ{xs us i} r e=>by
 have h1:=r.length
 have h2:xs.length<=i:=List.getElem?_eq_none_iff.mp e
 exact List.getElem?_eq_none_iff.mpr (by omega)
noncomputable def ye:Option V->Option Value->Prop
 | some v,some u=>zV v u
 | none,none=>True
 | _,_=>False
noncomputable def KV {κ:Type}:List (κ × V)->List (κ × Value)->Prop:=Paired λ(p:κ × V) (q:κ × Value)=>p.1=q.1/\zV p.2 q.2
noncomputable def kV:yJ->V
 | .inl i=>.int i
 | .inr x=>.str x
inductive HO where
 | lst (xs:List V)
 | tup (xs:List V)
 | dK (kvs:List (yJ × V)) | dT (kvs:List (List yJ × V))
 | set (S:Int->Bool) (n:Nat)
 | ins (C dx:Addr) (fs:List (Str × V))
 | own (x:Addr)
 | xd (fs:List (Str × V))
 | met (f x:Addr)
 | rng (lo hi:Int)
 | frz (o:Obj) (u:HO)
 | tbl (ps:Array Value)
 | ext (φ:Heap->Prop)
noncomputable abbrev Hp:=Addr->Option HO
noncomputable def upd (H:Hp) (a:Addr) (o:HO):Hp:=λb=>if b=a then some o else H b
theorem zH {H:Hp} {a:Addr} {o:HO}:upd H a o a=some o:=by unfold upd; rw [if_pos rfl]
theorem zi {H:Hp} {a b:Addr} {o:HO} (h:b≠a):upd H a o b=H b:=by unfold upd; rw [if_neg h]
theorem Xk {H:Hp} {a:Addr} {o u:HO}:upd (upd H a o) a u=upd H a u:=by
 funext b; unfold upd; split <;> rfl
theorem Xl {H:Hp} {a b:Addr} {o u:HO} (h:H a=some o) (h':H b=some u) (d:o≠u):a≠b:=by
 intro e; subst e; rw [h] at h'; exact d (Option.some.inj h')
theorem wP {H:Hp} {a b:Addr} {o:HO} (h:H a=some o) (h':H b=none):a≠b:=by
 intro e; subst e; rw [h] at h'; cases h'
section
variable (P:Program) (w:World)
noncomputable def yw (H:Hp) (h:Heap) (a:Addr):HO->Prop
 | .lst xs=>xs.length<=sizeLine/\∃ (its:List Value) (n:Nat),zO xs its/\h.get? a=some { cls:=.type "list",data:=.seq its.toArray n }
 | .tup xs=>xs.length<=sizeLine/\∃ its:List Value,zO xs its/\IsTup h a its.toArray
 | .dK kvs=>kvs.length<=sizeLine/\(a == sysModules)=false/\∃ vs,KV kvs vs/\h.DictOf (Xj P w) a vs
 | .dT kvs=>kvs.length<=sizeLine/\(a == sysModules)=false/\∃ xs:List (List yJ × Addr × Value),
   Paired (λ(p:List yJ × V) (q:List yJ × Addr × Value)=>p.1=q.1/\H q.2.1=some (.tup (p.1.map kV))/\zV p.2 q.2.2) kvs xs∧
   ∃ o es ep,h.get? a=some o/\o.ExactDict/\o.data=.dict es ep/\es.toList=xs.map (entryOfKey (tupleKind (Xj P w)))/\(xs.map (·.1)).Nodup
 | .set S n=>h.SetOf (intKind P w) a S n
 | .ins C dx fs=>H dx=some (.own a)/\fs.length<=1000/\dx≠a/\h.get? a=some (PySem.W.instObj C dx)∧
   ∃ mA,h.Ns1 dx mA/\(∀ f,ye (fs.lookup f) (mA f))/\PySem.Within mA (fs.map (·.1))
 | .own _=>∃ o,h.get? a=some o
 | .xd fs=>∃ mA,h.Ns1 a mA/\∀ f,ye (fs.lookup f) (mA f)
 | .rng lo hi=>∃ t u v,h.get? a=some { cls:=.type "range",data:=.fields #[.int lo t,.int hi u,.int 1 v] }
 | .frz o u=>h.get? a=some o/\yw H h a u
 | .tbl ps=>h.get? a=some { cls:=.none,data:=.fields ps }
 | .met f x=>h.get? a=some (PySem.W.methodObj (.ref f) (.ref x))
 | .ext φ=>φ h/\(∃ o,h.get? a=some o)/\∀ h1 h2:Heap,φ h1->(∀ o,h1.get? a=some o->h2.get? a=some o)->φ h2
noncomputable def ya (H:Hp) (h:Heap):Prop:=∀ a o,H a=some o->yw P w H h a o
end
section
variable {P:Program} {w:World} {H H':Hp} {h h':Heap} {a:Addr} {o:HO}
theorem yw.lt (x:yw P w H h a o):a < h.objs.size:=by
 cases o with
 | lst xs=>obtain ⟨_,_,_,_,e⟩:=x; exact Heap.lt_size e
 | tup xs=>obtain ⟨_,_,_,p⟩:=x; exact p.lt
 | dK kvs=>obtain ⟨_,_,_,_,o,_,_,e,_⟩:=x; exact Heap.lt_size e
 | dT kvs=>obtain ⟨_,_,_,_,o,_,_,e,_⟩:=x; exact Heap.lt_size e
 | set S n=>obtain ⟨o,_,_,_,e,_⟩:=x; exact Heap.lt_size e
 | ins C dx fs=>obtain ⟨_,_,_,e,_⟩:=x; exact Heap.lt_size e
 | own y=>obtain ⟨_,e⟩:=x; exact Heap.lt_size e
 | xd fs=>obtain ⟨_,⟨_,_,_,e,_⟩,_⟩:=x; exact Heap.lt_size e
 | rng lo hi=>obtain ⟨_,_,_,e⟩:=x; exact Heap.lt_size e
 | frz ob u=>obtain ⟨e,_⟩:=x; exact Heap.lt_size e
 | tbl ps=>exact Heap.lt_size (show h.get? a=some _ from x)
 | met f y=>exact Heap.lt_size (show h.get? a=some _ from x)
 | ext φ=>obtain ⟨_,⟨_,e⟩,_⟩:=x; exact Heap.lt_size e
theorem Paired.mapP {α β:Type} {F G:α->β->Prop}:∀ {l₁:List α} {l₂:List β},Paired F l₁ l₂->(∀ a b,F a b->G a b)->Paired G l₁ l₂
 | _,_,.nil,_=>.nil
 | _,_,.cons r t,f=>.cons (f _ _ r) (Paired.mapP t f)
theorem yw.stay (x:yw P w H h a o) (k:∀ b u,(b=a\/H b=some (.own a))->h.get? b=some u->h'.get? b=some u)
  (ho:∀ b,H b=some (.own a)->H' b=some (.own a)) (ht:∀ b xs,H b=some (.tup xs)->H' b=some (.tup xs)):yw P w H' h' a o:=by
 induction o with
 | lst xs=>obtain ⟨z,its,n,r,e⟩:=x; exact ⟨z,its,n,r,k _ _ (.inl rfl) e⟩
 | tup xs=>obtain ⟨z,its,r,ob,e,c⟩:=x; exact ⟨z,its,r,ob,k _ _ (.inl rfl) e,c⟩
 | dK kvs=>obtain ⟨z,y,vs,r,ob,es,ep,e,c⟩:=x; exact ⟨z,y,vs,r,ob,es,ep,k _ _ (.inl rfl) e,c⟩
 | dT kvs=>
  obtain ⟨z,y,xs,r,ob,es,ep,e,c⟩:=x
  exact ⟨z,y,xs,Paired.mapP r λp q z=>⟨z.1,ht _ _ z.2.1,z.2.2⟩,ob,es,ep,k _ _ (.inl rfl) e,c⟩
 | set S n=>obtain ⟨ob,es,ep,t,e,c⟩:=x; exact ⟨ob,es,ep,t,k _ _ (.inl rfl) e,c⟩
 | ins C dx fs=>
  obtain ⟨d,z,ne,e,mA,⟨od,es,ep,e2,c⟩,r⟩:=x
  exact ⟨ho _ d,z,ne,k _ _ (.inl rfl) e,mA,⟨od,es,ep,k _ _ (.inr d) e2,c⟩,r⟩
 | own y=>obtain ⟨ob,e⟩:=x; exact ⟨ob,k _ _ (.inl rfl) e⟩
 | xd fs=>obtain ⟨mA,⟨od,es,ep,e,c⟩,r⟩:=x; exact ⟨mA,⟨od,es,ep,k _ _ (.inl rfl) e,c⟩,r⟩
 | rng lo hi=>obtain ⟨t,u,v,e⟩:=x; exact ⟨t,u,v,k _ _ (.inl rfl) e⟩
 | frz ob u ih=>obtain ⟨e,q⟩:=x; exact ⟨k _ _ (.inl rfl) e,ih q⟩
 | tbl ps=>
  have e:h.get? a=some { cls:=.none,data:=.fields ps }:=x
  show h'.get? a=some { cls:=.none,data:=.fields ps }
  exact k a _ (.inl rfl) e
 | met f y=>
  have e:h.get? a=some (PySem.W.methodObj (.ref f) (.ref y)):=x
  show h'.get? a=some (PySem.W.methodObj (.ref f) (.ref y))
  exact k a _ (.inl rfl) e
 | ext φ=>obtain ⟨p,⟨o,e⟩,st⟩:=x; exact ⟨st _ _ p λo q=>k _ _ (.inl rfl) q,⟨o,k _ _ (.inl rfl) e⟩,st⟩
theorem ya.lt (x:ya P w H h) (e:H a=some o):a < h.objs.size:=(x a o e).lt
theorem ya.fresh (x:ya P w H h) (e:h.objs.size<=a):H a=none:=by
 cases q:H a with
 | none=>rfl
 | some u=>exact absurd (Nat.lt_of_lt_of_le (x.lt q) e) (Nat.lt_irrefl _)
theorem ya.kept (x:ya P w H h) (k:∀ b u,h.get? b=some u->h'.get? b=some u):ya P w H h':=λa o e=>
 (x a o e).stay (λb u _ q=>k b u q) (λ_ q=>q) λ_ _ q=>q
theorem ya.laid (x:ya P w H h) (k:∀ b u,h.get? b=some u->h'.get? b=some u) (hp:h.objs.size<=a) (new:yw P w (upd H a o) h' a o):ya P w (upd H a o) h':=λb u e=>by
 have hn:=x.fresh hp
 by_cases hb:b=a
 ·subst hb; rw [zH] at e; cases e; exact new
 ·rw [zi hb] at e
  exact (x b u e).stay (λc v _ q=>k c v q) (λc q=>by rw [zi (wP q hn)]; exact q) λc xs q=>by rw [zi (wP q hn)]; exact q
end
noncomputable def Rd (H:Hp) (a:Addr) (u:HO):Prop:=H a=some u\/∃ o,H a=some (.frz o u)
theorem Rd.of {H:Hp} {a:Addr} {u:HO} (h:H a=some u):Rd H a u:=.inl h
theorem Rd.ok {P:Program} {w:World} {H:Hp} {h:Heap} {a:Addr} {u:HO} (r:Rd H a u) (x:ya P w H h):yw P w H h a u:=by
 rcases r with r | ⟨o,r⟩
 ·exact x a u r
 ·obtain ⟨_,q⟩:=x a _ r
  exact q
noncomputable def gu:Option HO->Prop
 | some (.lst _)=>True
 | some (.dK _)=>True
 | some (.dT _)=>True
 | some (.set _ _)=>True
 | some (.ins _ _ _)=>True
 | some (.ext _)=>True
 | _=>False
section
variable {P:Program} {w:World} {H:Hp} {h h':Heap} {x e:Addr} {o':HO}
theorem ya.write (ok:ya P w H h) (mu:gu (H x)) (he:e=x\/H e=some (.own x)) (k:∀ b u,b≠e->h.get? b=some u->h'.get? b=some u) (heo:∃ u,h'.get? e=some u)
  (new:yw P w (upd H x o') h' x o'):ya P w (upd H x o') h':=λb u q=>by
 have nown:∀ c y,H c=some (.own y)->c≠x:=λc y r z=>by subst z; rw [r] at mu; exact mu
 have ntup:∀ c xs,H c=some (.tup xs)->c≠x:=λc xs r z=>by subst z; rw [r] at mu; exact mu
 by_cases hb:b=x
 ·subst hb; rw [zH] at q; cases q; exact new
 ·rw [zi hb] at q
  by_cases hbe:b=e
  ·have q':H b=some (.own x):=by
    rcases he with z | z
    ·exact absurd (hbe.trans z) hb
    ·rw [hbe]; exact z
   rw [q] at q'; cases q'
   obtain ⟨v,hv⟩:=heo
   exact ⟨v,by rw [hbe]; exact hv⟩
  ·refine (ok b u q).stay (λc v hc r=>k c v ?_ r) (λc r=>by rw [zi (nown c b r)]; exact r) λc xs r=>by rw [zi (ntup c xs r)]; exact r
   rcases hc with rfl | hc
   ·exact hbe
   ·rintro rfl
    rcases he with z | z
    ·exact nown c b hc z
    ·rw [hc] at z; cases z; exact hb rfl
end
structure Un (fs ex:List Addr) (H H':Hp) (h h':Heap):Prop where
 keep:∀ b o,h.get? b=some o->H b=none->b∉fs->b∉ex->h'.get? b=some o
 slot:∀ b o,h.get? b=some o->H b=none->b∈fs->b∉ex->∃ sl,h'.get? b=some { o with slots:=sl }
 free:∀ b o,h.get? b=some o->H b=none->b∉ex->H' b=none
 there:∀ b o,h.get? b=some o->b∉ex->∃ o',h'.get? b=some o'
 tups:∀ b xs,H b=some (.tup xs)->H' b=some (.tup xs)
 frzs:∀ b o u,H b=some (.frz o u)->H' b=some (.frz o u)
 tbls:∀ b ps,H b=some (.tbl ps)->∃ more,H' b=some (.tbl (ps++more))
section
variable {fs fs' ex ex':List Addr} {H H1 H2:Hp} {h h1 h2 h':Heap} {a x e:Addr} {o:HO}
theorem Un.any (u:Un fs ex H H1 h h1) {b:Addr} {ob:Obj} (q:h.get? b=some ob) (n:H b=none) (hx:b∉ex):∃ sl,h1.get? b=some { ob with slots:=sl }:=by
 by_cases hb:b∈fs
 ·exact u.slot b ob q n hb hx
 ·exact ⟨ob.slots,u.keep b ob q n hb hx⟩
theorem Un.trans (a:Un fs ex H H1 h h1) (b:Un fs ex H1 H2 h1 h2):Un fs ex H H2 h h2 where
 keep:=λc ob q n hc hx=>b.keep c ob (a.keep c ob q n hc hx) (a.free c ob q n hx) hc hx
 slot:=λc ob q n hc hx=>by
  obtain ⟨sl,e1⟩:=a.slot c ob q n hc hx
  obtain ⟨sl',e2⟩:=b.slot c _ e1 (a.free c ob q n hx) hc hx
  exact ⟨sl',e2⟩
 free:=λc ob q n hx=>by
  obtain ⟨o',e1⟩:=a.there c ob q hx
  exact b.free c o' e1 (a.free c ob q n hx) hx
 there:=λc ob q hx=>by
  obtain ⟨o',e1⟩:=a.there c ob q hx
  exact b.there c o' e1 hx
 tups:=λc xs q=>b.tups c xs (a.tups c xs q)
 frzs:=λc ob xs q=>b.frzs c ob xs (a.frzs c ob xs q)
 tbls:=λc ps q=>by
  obtain ⟨m1,e1⟩:=a.tbls c ps q
  obtain ⟨m2,e2⟩:=b.tbls c _ e1
  exact ⟨m1++m2,by rw [e2,Array.append_assoc]⟩
theorem Un.kept (k:∀ b u,h.get? b=some u->h'.get? b=some u):Un fs ex H H h h':=
 ⟨λb ob q _ _ _=>k b ob q,λb ob q _ _ _=>⟨ob.slots,k b ob q⟩,λ_ _ _ n _=>n,λb ob q _=>⟨ob,k b ob q⟩,λ_ _ q=>q,λ_ _ _ q=>q,λ_ ps q=>⟨#[],by rw [q]; simp⟩⟩
theorem Un.refl:Un fs ex H H h h:=Un.kept λ_ _ q=>q
theorem Un.laid (k:∀ b u,h.get? b=some u->h'.get? b=some u) (hp:h.objs.size<=a) (hn:H a=none):Un fs ex H (upd H a o) h h' where
 keep:=λb u q _ _ _=>k b u q
 slot:=λb u q _ _ _=>⟨u.slots,k b u q⟩
 free:=λb u q n _=>by rw [zi (Nat.ne_of_lt (Nat.lt_of_lt_of_le (Heap.lt_size q) hp))]; exact n
 there:=λb u q _=>⟨u,k b u q⟩
 tups:=λb xs q=>by rw [zi (wP q hn)]; exact q
 frzs:=λb u xs q=>by rw [zi (wP q hn)]; exact q
 tbls:=λb ps q=>⟨#[],by rw [zi (wP q hn),q]; simp⟩
theorem Un.write (mu:gu (H x)) (he:e=x\/H e=some (.own x)) (k:∀ b u,b≠e->h.get? b=some u->h'.get? b=some u) (heo:∃ u,h'.get? e=some u):Un fs ex H (upd H x o) h h':=by
 have hx:∀ b,H b=none->b≠x:=λb n z=>by subst z; rw [n] at mu; exact mu
 have hb:∀ b,H b=none->b≠e:=λb n z=>by
  subst z
  rcases he with r | r
  ·exact hx b n r
  ·rw [n] at r; cases r
 have hm:∀ b u,H b=some u->¬ gu (some u)->b≠x:=λb u q nm z=>by subst z; rw [q] at mu; exact nm mu
 refine ⟨λb u q n _ _=>k b u (hb b n) q,λb u q n _ _=>⟨u.slots,k b u (hb b n) q⟩,λb u q n _=>by rw [zi (hx b n)]; exact n,λb u q _=>?_,
  λb xs q=>by rw [zi (hm b _ q λz=>z)]; exact q,λb u xs q=>by rw [zi (hm b _ q λz=>z)]; exact q,λb ps q=>⟨#[],by rw [zi (hm b _ q λz=>z),q]; simp⟩⟩
 by_cases hbe:b=e
 ·subst hbe; exact heo
 ·exact ⟨u,k b u hbe q⟩
theorem Un.mono (u:Un fs ex H H1 h h1) (hs:∀ b∈fs,b∈fs') (hx:∀ b∈ex,b∈ex'):Un fs' ex' H H1 h h1:=
 ⟨λb ob q n hb he=>u.keep b ob q n (λz=>hb (hs b z)) λz=>he (hx b z),λ_ _ q n _ he=>u.any q n λz=>he (hx _ z),λb ob q n he=>u.free b ob q n λz=>he (hx b z),λb ob q he=>u.there b ob q λz=>he (hx b z),u.tups,u.frzs,u.tbls⟩
end
noncomputable def vc (h:Heap) (H:Hp):List Addr:=(List.range h.objs.size).filter λa=>(H a).isSome
noncomputable def xn (h:Heap) (H:Hp):Heap:=PySem.W.hideAll h (vc h H)
theorem UO (h:Heap) (H:Hp):(xn h H).objs.size=h.objs.size:=PySem.W.hideAll_size _ _
theorem UP {h:Heap} {H:Hp} {b:Addr} {o:Obj} (e:h.get? b=some o) (n:H b=none):(xn h H).get? b=some o:=
 PySem.W.hideAll_get _ e λhm=>by
  have q:(H b).isSome=true:=(List.mem_filter.mp hm).2
  rw [n] at q; simp at q
theorem UQ {h:Heap} {H:Hp} {b:Addr} {o:Obj} (e:(xn h H).get? b=some o):h.get? b=some o/\H b=none:=by
 have e':h.get? b=some o:=PySem.W.of_hideAll (vc h H) e
 refine ⟨e',?_⟩
 cases q:H b with
 | none=>rfl
 | some x=>
  have hm:b∈vc h H:=List.mem_filter.mpr ⟨List.mem_range.mpr (Heap.lt_size e'),by simp [q]⟩
  have z:(xn h H).get? b=none:=PySem.W.hideAll_none (vc h H) hm
  rw [z] at e; cases e
noncomputable def UR (g h:Heap) (L:Addr):List (Addr × Obj):=(List.range h.objs.size).filterMap λa=>if a=L\/(g.get? a).isSome=true then none else (h.get? a).map λo=>(a,o)
noncomputable def xT (g h:Heap) (L d:Addr):List (Addr × Obj):=(UR g h L).filter λp=>decide (p.1≠d)
end L2
namespace L2
open PySem PySem.Spec PyProof.Rows
structure Mod (K:PySem.W.Frag) (mg:Str->Option Value) (base:Heap):Prop where
 kin:K.In base
 glob:base.Ns mainGlobals mg
 blt:∃ mb,base.Ns builtinsNs mb/\∀ x:Str,x≠"__name__"->mb x=bootBuiltins x
 nolimit:base.NoLimit
structure Cx where
 prog:Program
 w:World
 K:PySem.W.Frag
 mg:Str->Option Value
 base:Heap
 A:Around
 N:List Str
 s₀:Shared
 H₀:Hp
 env:Env
 outer:List Env
 stack:List Env
 ex:List Addr
 fn:Str->Bool
 calm:Bool
 pn:List (Addr × Obj)
 xe:Value->Shared->Prop
noncomputable def yf (l:List Env):List Addr:=l.filterMap (·.frame)
noncomputable abbrev Cx.fs (X:Cx):List Addr:=yf X.outer
noncomputable def uq (sc:Scope) (x:Str):Prop:=sc.names.lookup x=some .local\/sc.names.lookup x=some .cell\/sc.names.lookup x=some .free
noncomputable def gv (sc:Scope) (x:Str):Prop:=sc.names.lookup x=some .local\/sc.names.lookup x=some .cell
noncomputable def qL (env:Env) (h:Heap) (m:Str->Option Value) (x:Str) (u:Value):Prop:=
 (env.kindOf x=some .local/\m x=some u)\/((env.kindOf x=some .cell\/env.kindOf x=some .free)/\∃ c,env.cells.lookup x=some c/\h.IsCell c (some u))
structure Cx.Ok (X:Cx):Prop where
 mod:Mod X.K X.mg X.base
 kind:X.env.scope.kind=.function
 glob:X.env.globals=mainGlobals
 blt:X.env.builtins=builtinsNs
 above:X.s₀.heap.objs.size<=X.env.locals
 inj:∀ x y c,X.env.cells.lookup x=some c->X.env.cells.lookup y=some c->x=y
 has:∀ x,(X.env.kindOf x=some .cell\/X.env.kindOf x=some .free)->∃ c,X.env.cells.lookup x=some c
 cab:∀ x c,X.fn x=true->X.env.cells.lookup x=some c->X.s₀.heap.objs.size<=c
 hd:X.calm=true->X.A.handled=none
 frames:X.A.frames=some X.stack
 stk:X.stack=X.outer\/(X.stack=X.env :: X.outer/\X.env.frame=some X.env.locals)
 exf:∀ b∈X.ex,b≠X.env.locals/\∀ x c,X.env.cells.lookup x=some c->c≠b
 bs:∀ b o,X.base.get? b=some o->X.s₀.heap.get? b=some o/\X.H₀ b=none
 bsz:X.base.objs.size<=X.s₀.heap.objs.size
 noex:∀ b o,X.base.get? b=some o->b∉X.ex
 exfs:∀ b∈X.ex,b∉X.fs
 funs:X.s₀.heap.FunFrames X.base X.outer
 frf:∀ b∈X.fs,X.H₀ b=none
structure zG (X:Cx) (pins:List (Addr × Obj)) (σ:List (Option V)) (H:Hp) (s:Shared):Prop where
 ok:X.Ok
 os:s.os=X.s₀.os
 bare:AllBare s.gens
 base:Un X.fs X.ex X.H₀ H X.s₀.heap s.heap
 loc:∃ m,s.heap.Ns X.env.locals m/\∀ (i:Nat) (x:Str) (v:V),X.N[i]? = some x->σ[i]? = some (some v)->uq X.env.scope x->∃ u,zV v u/\qL X.env s.heap m x u
 cell:∀ x c,X.env.cells.lookup x=some c->∃ v,s.heap.IsCell c v
 free:H X.env.locals=none
 freeC:∀ x c,X.env.cells.lookup x=some c->H c=none
 pin:∀ p∈X.pn++pins,s.heap.get? p.1=some p.2/\H p.1=none/\p.1≠X.env.locals/\p.1∉X.fs/\∀ v,p.2.data≠.cell v
 hok:ya X.prog X.w H s.heap
 len:σ.length=X.N.length
section
variable {X:Cx} {pins:List (Addr × Obj)} {σ:List (Option V)} {H H':Hp} {s:Shared} {h':Heap}
theorem Cx.Ok.nofr (ok:X.Ok) {b:Addr} {o:Obj} (e:X.base.get? b=some o):b∉X.fs:=λhb=>by
 have:=(ok.funs.mem hb).1
 rw [e] at this; cases this
theorem zG.bs (I:zG X pins σ H s):∀ b o,X.base.get? b=some o->s.heap.get? b=some o/\H b=none:=λb o e=>
 ⟨I.base.keep b o (I.ok.bs b o e).1 (I.ok.bs b o e).2 (I.ok.nofr e) (I.ok.noex b o e),I.base.free b o (I.ok.bs b o e).1 (I.ok.bs b o e).2 (I.ok.noex b o e)⟩
theorem zG.bk (I:zG X pins σ H s):∀ b o,X.base.get? b=some o->s.heap.get? b=some o:=λb o e=>(I.bs b o e).1
theorem zG.mod (I:zG X pins σ H s):Mod X.K X.mg X.base:=I.ok.mod
theorem zG.kIn (I:zG X pins σ H s):X.K.In s.heap:=I.ok.mod.kin.keeps I.bk
theorem zG.nolimit (I:zG X pins σ H s):s.heap.NoLimit:=I.ok.mod.nolimit.keeps I.bk
theorem zG.fr (I:zG X pins σ H s):∃ m,Fr X.base X.env.locals s.heap m:=
 let ⟨m,hn,_⟩:=I.loc
 ⟨m,hn,I.bk,Nat.le_trans I.ok.bsz I.ok.above⟩
theorem zG.lt (I:zG X pins σ H s):X.env.locals < s.heap.objs.size:=let ⟨_,hn,_⟩:=I.loc; hn.lt
theorem zG.sz (I:zG X pins σ H s):X.s₀.heap.objs.size<=s.heap.objs.size:=Nat.le_trans I.ok.above (Nat.le_of_lt I.lt)
theorem zG.nofs (I:zG X pins σ H s) {a:Addr} (h:s.heap.objs.size<=a):a∉X.fs:=λhb=>by
 obtain ⟨_,o,ho,_⟩:=I.ok.funs.mem hb
 exact absurd (Nat.lt_of_lt_of_le (Heap.lt_size ho) (Nat.le_trans I.sz h)) (Nat.lt_irrefl _)
theorem zG.cne (I:zG X pins σ H s):∀ x c,X.env.cells.lookup x=some c->c≠X.env.locals:=λx c e z=>by
 obtain ⟨v,o,ho,hd⟩:=I.cell x c e
 obtain ⟨m,⟨o',es,ep,ho',hd',_⟩,_⟩:=I.loc
 rw [z,ho'] at ho; cases ho; rw [hd'] at hd; cases hd
theorem zG.funs (I:zG X pins σ H s):s.heap.FunFrames X.base X.outer:=by
 have all:∀ (l:List Env),(∀ b∈yf l,b∈X.fs)->X.s₀.heap.FunFrames X.base l->s.heap.FunFrames X.base l:=by
  intro l
  induction l with
  | nil=>intro _ _; trivial
  | cons env r ih=>
   intro hs hl
   obtain ⟨hk,⟨L,o,hf,hn,ho,hd⟩,hr⟩:=hl
   have hL:L∈X.fs:=hs L (by unfold yf; rw [List.filterMap_cons,hf]; exact List.mem_cons_self)
   obtain ⟨sl,e⟩:=I.base.slot L o ho (I.ok.frf L hL) hL λz=>I.ok.exfs L z hL
   exact ⟨hk,⟨L,_,hf,hn,e,hd⟩,ih (λb hb=>hs b (by unfold yf; rw [List.filterMap_cons,hf]; exact List.mem_cons_of_mem _ hb)) hr⟩
 exact all X.outer (λ_ hb=>hb) I.ok.funs
theorem zG.stack (I:zG X pins σ H s):s.heap.FunFrames X.base X.stack:=by
 rcases I.ok.stk with e | ⟨e,hf⟩
 ·rw [e]; exact I.funs
 ·rw [e]
  obtain ⟨m,hn,_⟩:=I.loc
  refine .cons (by rw [I.ok.kind]; decide) hf hn ?_ I.funs
  exact Heap.get?_none_of_le (Nat.le_trans I.ok.bsz I.ok.above)
theorem zG.stkSub (I:zG X pins σ H s):∀ b∈yf X.stack,b∈X.env.locals :: X.fs:=λb hb=>by
 rcases I.ok.stk with e | ⟨e,hf⟩
 ·rw [e] at hb; exact List.mem_cons_of_mem _ hb
 ·rw [e] at hb
  unfold yf at hb
  rw [List.filterMap_cons,hf] at hb
  exact hb
theorem zG.stkFree (I:zG X pins σ H s):∀ b∈yf X.stack,H b=none:=λb hb=>by
 rcases List.mem_cons.mp (I.stkSub b hb) with e | hb
 ·rw [e]; exact I.free
 ·obtain ⟨_,o,ho,_⟩:=I.ok.funs.mem hb
  exact I.base.free b o ho (I.ok.frf b hb) λz=>I.ok.exfs b z hb
theorem zG.step {g':Array GenState} {t':Nat} {d':Drawn} {ch:List Addr} (I:zG X pins σ H s)
  (hch:∀ b∈ch,(b∈X.ex\/X.s₀.heap.objs.size<=b)/\b≠X.env.locals/\(∀ x c,X.env.cells.lookup x=some c->c≠b)/\∀ p∈X.pn++pins,p.1≠b)
  (keep:∀ b o,b≠X.env.locals->b∉X.fs->b∉ch->s.heap.get? b=some o->H b=none->h'.get? b=some o)
  (slot:∀ b o,b≠X.env.locals->b∈X.fs->b∉ch->s.heap.get? b=some o->H b=none->∃ sl,h'.get? b=some { o with slots:=sl }) (free:∀ b o,b∉ch->s.heap.get? b=some o->H b=none->H' b=none)
  (there:∀ b o,b∉ch->s.heap.get? b=some o->∃ o',h'.get? b=some o')
  (tups:∀ b xs,H b=some (.tup xs)->H' b=some (.tup xs)) (frzs:∀ b o u,H b=some (.frz o u)->H' b=some (.frz o u)) (tbls:∀ b ps,H b=some (.tbl ps)->∃ more,H' b=some (.tbl (ps++more)))
  (ns:∀ m,s.heap.Ns X.env.locals m->h'.Ns X.env.locals m) (hok:ya X.prog X.w H' h') (hg:AllBare g') :
  zG X pins σ H' { s with heap:=h',gens:=g',drawn:=d',toks:=t' }:=by
 have neL:∀ b o,X.s₀.heap.get? b=some o->b≠X.env.locals:=λb o e=>Nat.ne_of_lt (Nat.lt_of_lt_of_le (Heap.lt_size e) I.ok.above)
 have neC:∀ b o,X.s₀.heap.get? b=some o->b∉X.ex->b∉ch:=λb o e hx hb=>by
  rcases (hch b hb).1 with z | z
  ·exact hx z
  ·exact absurd (Nat.lt_of_lt_of_le (Heap.lt_size e) z) (Nat.lt_irrefl _)
 have cellK:∀ x c,X.env.cells.lookup x=some c->∀ v,s.heap.IsCell c v->h'.IsCell c v:=λx c e v ⟨o,ho,hd⟩=>by
  have nch:c∉ch:=λz=>(hch c z).2.2.1 x c e rfl
  by_cases hc:c∈X.fs
  ·obtain ⟨sl,q⟩:=slot c o (I.cne x c e) hc nch ho (I.freeC x c e)
   exact ⟨_,q,hd⟩
  ·exact ⟨o,keep c o (I.cne x c e) hc nch ho (I.freeC x c e),hd⟩
 refine ⟨I.ok,I.os,hg,⟨λb o e n hb hx=>?_,λb o e n hb hx=>?_,λb o e n hx=>?_,λb o e hx=>?_,λb xs e=>tups b xs (I.base.tups b xs e),λb o xs e=>frzs b o xs (I.base.frzs b o xs e),λb ps e=>?_⟩,?_,λx c e=>?_,?_,λx c e=>?_,λp hp=>?_,hok,I.len⟩
 ·exact keep b o (neL b o e) hb (neC b o e hx) (I.base.keep b o e n hb hx) (I.base.free b o e n hx)
 ·obtain ⟨sl,e1⟩:=I.base.slot b o e n hb hx
  obtain ⟨sl',e2⟩:=slot b _ (neL b o e) hb (neC b o e hx) e1 (I.base.free b o e n hx)
  exact ⟨sl',e2⟩
 ·obtain ⟨o',e1⟩:=I.base.there b o e hx
  exact free b o' (neC b o e hx) e1 (I.base.free b o e n hx)
 ·obtain ⟨o',e1⟩:=I.base.there b o e hx
  exact there b o' (neC b o e hx) e1
 ·obtain ⟨m1,e1⟩:=I.base.tbls b ps e
  obtain ⟨m2,e2⟩:=tbls b _ e1
  exact ⟨m1++m2,by rw [e2,Array.append_assoc]⟩
 ·obtain ⟨m,hn,hl⟩:=I.loc
  refine ⟨m,ns m hn,λi x v e1 e2 e3=>?_⟩
  obtain ⟨u,r,l⟩:=hl i x v e1 e2 e3
  refine ⟨u,r,?_⟩
  rcases l with l | ⟨k,c,e,z⟩
  ·exact .inl l
  ·exact .inr ⟨k,c,e,cellK x c e _ z⟩
 ·obtain ⟨v,z⟩:=I.cell x c e
  exact ⟨v,cellK x c e v z⟩
 ·obtain ⟨m,⟨o,_,_,ho,_⟩,_⟩:=I.loc
  exact free _ o (λz=>(hch _ z).2.1 rfl) ho I.free
 ·obtain ⟨v,o,ho,hd⟩:=I.cell x c e
  exact free c o (λz=>(hch c z).2.2.1 x c e rfl) ho (I.freeC x c e)
 ·obtain ⟨e,n,ne,nf,d⟩:=I.pin p hp
  have nch:p.1∉ch:=λz=>(hch p.1 z).2.2.2 p hp rfl
  exact ⟨keep p.1 p.2 ne nf nch e n,free p.1 p.2 nch e n,ne,nf,d⟩
theorem zG.un {t':Nat} (I:zG X pins σ H s) (u:Un X.fs [] H H' s.heap h') (hok:ya X.prog X.w H' h'):zG X pins σ H' { s with heap:=h',toks:=t' }:=by
 obtain ⟨m,⟨o,es,ep,ho,r⟩,_⟩:=id I.loc
 obtain ⟨sl,hL⟩:=u.any ho I.free (by simp)
 exact I.step (g':=s.gens) (d':=s.drawn) (ch:=[]) (λ_ z=>nomatch z) (λb o _ hb _ e n=>u.keep b o e n hb (by simp)) (λb o _ hb _ e n=>u.slot b o e n hb (by simp)) (λb o _ e n=>u.free b o e n (by simp)) (λb o _ e=>u.there b o e (by simp)) u.tups u.frzs u.tbls (λm' hm=>by
  obtain ⟨o',es',ep',ho',r'⟩:=hm
  rw [ho] at ho'; cases ho'
  exact ⟨_,es',ep',hL,r'⟩) hok I.bare
theorem zG.call {g':Array GenState} {t':Nat} {d':Drawn} {ch:List Addr} (I:zG X pins σ H s) (u:Un (yf X.stack) ch H H' s.heap h') (hok:ya X.prog X.w H' h') (hg:AllBare g')
  (hch:∀ b∈ch,(b∈X.ex\/X.s₀.heap.objs.size<=b)/\b≠X.env.locals/\(∀ x c,X.env.cells.lookup x=some c->c≠b)/\∀ p∈X.pn++pins,p.1≠b) :
  zG X pins σ H' { s with heap:=h',gens:=g',drawn:=d',toks:=t' }:=by
 obtain ⟨m,⟨o,es,ep,ho,r⟩,_⟩:=id I.loc
 obtain ⟨sl,hL⟩:=u.any ho I.free λz=>(hch _ z).2.1 rfl
 exact I.step (ch:=ch) hch (λb o hL hb hc e n=>u.keep b o e n (λz=>(List.mem_cons.mp (I.stkSub b z)).elim hL hb) hc) (λb o _ _ hc e n=>u.any e n hc) (λb o hc e n=>u.free b o e n hc) (λb o hc e=>u.there b o e hc) u.tups u.frzs u.tbls (λm' hm=>by
  obtain ⟨o',es',ep',ho',r'⟩:=hm
  rw [ho] at ho'; cases ho'
  exact ⟨_,es',ep',hL,r'⟩) hok hg
theorem zG.turned {t':Nat} {it:Addr} (I:zG X pins σ H s) (k:∀ b o,b≠it->s.heap.get? b=some o->h'.get? b=some o) (hn:H it=none) (hL:it≠X.env.locals)
  (h1:it∈X.ex\/X.s₀.heap.objs.size<=it) (h2:∀ x c,X.env.cells.lookup x=some c->c≠it) (h3:∀ p∈X.pn++pins,p.1≠it):zG X pins σ H { s with heap:=h',toks:=t' }:=by
 have nit:∀ b u,H b=some u->b≠it:=λb u e z=>by rw [z,hn] at e; cases e
 refine I.step (g':=s.gens) (d':=s.drawn) (ch:=[it]) (λb hb=>?_) (λb o _ _ hc e _=>k b o (λz=>hc (by simp [z])) e) (λb o _ _ hc e _=>⟨o.slots,k b o (λz=>hc (by simp [z])) e⟩) (λ_ _ _ _ n=>n)
  (λb o hc e=>⟨o,k b o (λz=>hc (by simp [z])) e⟩) (λ_ _ e=>e) (λ_ _ _ e=>e) (λb ps e=>⟨#[],by rw [e]; simp⟩) (λm hm=>?_) (λb u e=>?_) I.bare
 ·have e:b=it:=by simpa using hb
  subst e
  exact ⟨h1,hL,h2,h3⟩
 ·obtain ⟨o,es,ep,ho,r⟩:=hm
  exact ⟨o,es,ep,k _ o (Ne.symm hL) ho,r⟩
 ·refine (I.hok b u e).stay (λc v hc q=>k c v ?_ q) (λ_ q=>q) λ_ _ q=>q
  rcases hc with z | z
  ·rw [z]; exact nit b u e
  ·exact nit c _ z
theorem zG.tok (I:zG X pins σ H s) (t:Nat):zG X pins σ H { s with toks:=t }:=I.un (h':=s.heap) (t':=t) Un.refl I.hok
theorem zG.kept {t':Nat} (I:zG X pins σ H s) (k:∀ b u,s.heap.get? b=some u->h'.get? b=some u):zG X pins σ H { s with heap:=h',toks:=t' }:=I.un (Un.kept k) (I.hok.kept k)
theorem zG.laid {a:Addr} {o:HO} {t':Nat} (I:zG X pins σ H s) (k:∀ b u,s.heap.get? b=some u->h'.get? b=some u) (hp:s.heap.objs.size<=a) (new:yw X.prog X.w (upd H a o) h' a o) :
  zG X pins σ (upd H a o) { s with heap:=h',toks:=t' }:=I.un (Un.laid k hp (I.hok.fresh hp)) (I.hok.laid k hp new)
theorem zG.write {x e:Addr} {o:HO} {t':Nat} (I:zG X pins σ H s) (mu:gu (H x)) (he:e=x\/H e=some (.own x)) (k:∀ b u,b≠e->s.heap.get? b=some u->h'.get? b=some u) (heo:∃ u,h'.get? e=some u)
  (new:yw X.prog X.w (upd H x o) h' x o):zG X pins σ (upd H x o) { s with heap:=h',toks:=t' }:=I.un (Un.write mu he k heo) (I.hok.write mu he k heo new)
theorem zG.pins_of {pins':List (Addr × Obj)} (I:zG X pins σ H s) (h:∀ p∈pins',s.heap.get? p.1=some p.2/\H p.1=none/\p.1≠X.env.locals/\p.1∉X.fs/\∀ v,p.2.data≠.cell v):zG X pins' σ H s:=
 ⟨I.ok,I.os,I.bare,I.base,I.loc,I.cell,I.free,I.freeC,λp hp=>(List.mem_append.mp hp).elim (λz=>I.pin p (List.mem_append_left _ z)) (h p),I.hok,I.len⟩
theorem ZM {N:List Str} (hN:N.Nodup) {i j:Nat} {x:Str} (a:N[i]? = some x) (b:N[j]? = some x):i=j:=by
 obtain ⟨h1,e1⟩:=List.getElem?_eq_some_iff.mp a
 obtain ⟨h2,e2⟩:=List.getElem?_eq_some_iff.mp b
 exact (List.getElem_inj hN).mp (e1.trans e2.symm)
theorem ZN {M:Model} {A:Around} {E:Value->Shared->Prop} {i:Nat} {x:Str} {v:V} {u:Value} {Q:Unit->Shared->Prop} (I:zG X pins σ H s) (hN:X.N.Nodup) (hi:X.N[i]? = some x) (hx:gv X.env.scope x) (r:zV v u)
  (h:∀ s',zG X pins (σ.set i (some v)) H s'->(∃ a,Heap.SameBut a s.heap s'.heap/\(a=X.env.locals\/X.env.cells.lookup x=some a))->Q () s') (hf:X.fn x=true\/X.env.scope.names.lookup x=some .local:=by first | exact .inl rfl | exact .inr rfl | assumption):wpAny M A (storeName X.env x u) Q E s:=by
 obtain ⟨m,hn,hl⟩:=id I.loc
 have hcls:(X.env.scope.kind == .class || (X.env.scope.kind == .module && X.env.locals != X.env.globals))=false:=by rw [I.ok.kind]; rfl
 have hiσ:i < σ.length:=by rw [I.len]; exact (List.getElem?_eq_some_iff.mp hi).1
 have cne:=I.cne
 have tracked:∀ {a:Addr} {h':Heap},(∃ o,s.heap.get? a=some o/\H a=none)->Heap.SameBut a s.heap h'->ya X.prog X.w H h':=λ{a h'} ha hs b ob e=>by
  obtain ⟨_,_,hfree⟩:=ha
  refine (I.hok b ob e).stay (λc w' hc q=>(hs.2 c ?_).trans q) (λ_ q=>q) λ_ _ q=>q
  rintro rfl
  rcases hc with rfl | hc
  ·rw [hfree] at e; cases e
  ·rw [hfree] at hc; cases hc
 rcases hx with hk | hk
 ·refine wpAny_storeName_local hk hn (λh' hn' hs=>?_) hcls
  obtain ⟨oL,_,_,hoL,_⟩:=id hn
  refine h _ ⟨I.ok,I.os,I.bare,⟨λb o e n hb hx=>?_,λb o e n hb hx=>?_,I.base.free,λb o e hx=>?_,I.base.tups,I.base.frzs,I.base.tbls⟩,⟨_,hn',λj y v' e1 e2 e3=>?_⟩,λy c e=>?_,I.free,I.freeC,λp hp=>?_,tracked ⟨oL,hoL,I.free⟩ hs,by simpa using I.len⟩ ⟨_,hs,.inl rfl⟩
  ·exact (hs.2 b (Nat.ne_of_lt (Nat.lt_of_lt_of_le (Heap.lt_size e) I.ok.above))).trans (I.base.keep b o e n hb hx)
  ·obtain ⟨sl,e1⟩:=I.base.slot b o e n hb hx
   exact ⟨sl,(hs.2 b (Nat.ne_of_lt (Nat.lt_of_lt_of_le (Heap.lt_size e) I.ok.above))).trans e1⟩
  ·obtain ⟨o',e1⟩:=I.base.there b o e hx
   exact ⟨o',(hs.2 b (Nat.ne_of_lt (Nat.lt_of_lt_of_le (Heap.lt_size e) I.ok.above))).trans e1⟩
  ·by_cases hj:j=i
   ·subst hj
    rw [hi] at e1; cases e1
    rw [List.getElem?_set_self hiσ] at e2
    cases e2
    exact ⟨u,r,.inl ⟨hk,by simp⟩⟩
   ·rw [List.getElem?_set_ne (Ne.symm hj)] at e2
    obtain ⟨u',r',q⟩:=hl j y v' e1 e2 e3
    refine ⟨u',r',?_⟩
    rcases q with ⟨k,e⟩ | ⟨k,c,e,z⟩
    ·refine .inl ⟨k,?_⟩
     have:y≠x:=λe=>hj (ZM hN e1 (e ▸ hi))
     simp [this,e]
    ·exact .inr ⟨k,c,e,z.sameBut hs (cne y c e)⟩
  ·obtain ⟨w',z⟩:=I.cell y c e
   exact ⟨w',z.sameBut hs (cne y c e)⟩
  ·obtain ⟨e,n,ne,nf,d⟩:=I.pin p hp
   exact ⟨(hs.2 p.1 ne).trans e,n,ne,nf,d⟩
 ·have hfn:X.fn x=true:=by
   rcases hf with z | z
   ·exact z
   ·rw [z] at hk; cases hk
  obtain ⟨c,hc⟩:=I.ok.has x (.inl hk)
  obtain ⟨w',z⟩:=I.cell x c hc
  refine wpAny_storeName_cell I.ok.kind hk hc z (λh' hc' hs=>?_)
  obtain ⟨oc,hoc,hocd⟩:=id z
  refine h { s with heap:=h' } ⟨I.ok,I.os,I.bare,⟨λb o e n hb hx=>?_,λb o e n hb hx=>?_,I.base.free,λb o e hx=>?_,I.base.tups,I.base.frzs,I.base.tbls⟩,⟨m,hn.sameBut hs (Ne.symm (cne x c hc)),λj y v' e1 e2 e3=>?_⟩,λy c' e=>?_,I.free,I.freeC,λp hp=>?_,tracked ⟨oc,hoc,I.freeC x c hc⟩ hs,by simpa using I.len⟩ ⟨c,hs,.inr hc⟩
  ·exact (hs.2 b (Nat.ne_of_lt (Nat.lt_of_lt_of_le (Heap.lt_size e) (I.ok.cab x c hfn hc)))).trans (I.base.keep b o e n hb hx)
  ·obtain ⟨sl,e1⟩:=I.base.slot b o e n hb hx
   exact ⟨sl,(hs.2 b (Nat.ne_of_lt (Nat.lt_of_lt_of_le (Heap.lt_size e) (I.ok.cab x c hfn hc)))).trans e1⟩
  ·obtain ⟨o',e1⟩:=I.base.there b o e hx
   exact ⟨o',(hs.2 b (Nat.ne_of_lt (Nat.lt_of_lt_of_le (Heap.lt_size e) (I.ok.cab x c hfn hc)))).trans e1⟩
  ·by_cases hj:j=i
   ·subst hj
    rw [hi] at e1; cases e1
    rw [List.getElem?_set_self hiσ] at e2
    cases e2
    exact ⟨u,r,.inr ⟨.inl hk,c,hc,hc'⟩⟩
   ·rw [List.getElem?_set_ne (Ne.symm hj)] at e2
    obtain ⟨u',r',q⟩:=hl j y v' e1 e2 e3
    refine ⟨u',r',?_⟩
    rcases q with q | ⟨k,c',e,z'⟩
    ·exact .inl q
    ·refine .inr ⟨k,c',e,z'.sameBut hs ?_⟩
     rintro rfl
     exact hj (ZM hN e1 (I.ok.inj _ _ _ e hc ▸ hi))
  ·by_cases hcc:c'=c
   ·subst hcc; exact ⟨_,hc'⟩
   ·obtain ⟨w2,z2⟩:=I.cell y c' e
    exact ⟨w2,z2.sameBut hs hcc⟩
  ·obtain ⟨e,n,ne,nf,d⟩:=I.pin p hp
   refine ⟨(hs.2 p.1 ?_).trans e,n,ne,nf,d⟩
   intro q
   rw [q,hoc] at e
   have q':oc=p.2:=Option.some.inj e
   exact d w' (by rw [<- q']; exact hocd)
theorem ZO {M:Model} {A:Around} {E:Value->Shared->Prop} {i:Nat} {x:Str} {v:V} {u:Value} {Q:Unit->Shared->Prop} (I:zG X pins σ H s) (hN:X.N.Nodup) (hi:X.N[i]? = some x) (hx:gv X.env.scope x) (r:zV v u)
  (h:∀ s',zG X pins (σ.set i (some v)) H s'->Q () s') (hf:X.fn x=true\/X.env.scope.names.lookup x=some .local:=by first | exact .inl rfl | exact .inr rfl | assumption):wpAny M A (storeName X.env x u) Q E s:=
 ZN I hN hi hx r (λs' I' _=>h s' I') hf
theorem zG.call' {s':Shared} {ch:List Addr} (I:zG X pins σ H s) (ho:s'.os=s.os) (u:Un (yf X.stack) ch H H' s.heap s'.heap) (hok:ya X.prog X.w H' s'.heap) (hg:AllBare s'.gens)
  (hch:∀ b∈ch,(b∈X.ex\/X.s₀.heap.objs.size<=b)/\b≠X.env.locals/\(∀ x c,X.env.cells.lookup x=some c->c≠b)/\∀ p∈X.pn++pins,p.1≠b):zG X pins σ H' s':=by
 obtain ⟨h',g',d',t',o'⟩:=s'
 have e:o'=s.os:=ho
 subst e
 exact I.call (g':=g') (t':=t') (d':=d') u hok hg hch
end
noncomputable abbrev XK:=Value->Option Addr->Hp->Prop
noncomputable abbrev St:=List (Option V)
noncomputable abbrev VK:=V->Hp->Prop
noncomputable abbrev TE:=St->Hp->VK->Prop
noncomputable abbrev TT:=St->Hp->(Bool->Hp->Prop)->Prop
noncomputable abbrev TA:=St->Hp->(List V->Hp->Prop)->Prop
structure xU where
 nx:St->Hp->Prop
 rt:VK
 bk:St->Hp->Prop:=λ_ _=>False
 ct:St->Hp->Prop:=λ_ _=>False
noncomputable abbrev TS:=xU->St->Hp->Prop
noncomputable def EP (X:Cx) (pins:List (Addr × Obj)) (σ:St) (Q:VK) (u:Value) (s':Shared):Prop:=∃ v H',zG X pins σ H' s'/\zV v u/\Q v H'
noncomputable def TP (X:Cx) (pins:List (Addr × Obj)) (σ:St) (Q:Bool->Hp->Prop) (b:Bool) (s':Shared):Prop:=∃ H',zG X pins σ H' s'/\Q b H'
noncomputable def AP (X:Cx) (pins:List (Addr × Obj)) (σ:St) (Q:List V->Hp->Prop) (us:List Value) (s':Shared):Prop:=∃ vs H',zG X pins σ H' s'/\zO vs us/\Q vs H'
noncomputable def SP (X:Cx) (pins:List (Addr × Obj)) (D:xU) (f:Flow) (s':Shared):Prop:=
 match f with
 | .next=>∃ σ' H',zG X pins σ' H' s'/\D.nx σ' H'
 | .brk=>∃ σ' H',zG X pins σ' H' s'/\D.bk σ' H'
 | .cont=>∃ σ' H',zG X pins σ' H' s'/\D.ct σ' H'
 | .ret u=>∃ v σ' H',zG X pins σ' H' s'/\zV v u/\D.rt v H'
noncomputable def PE (X:Cx) (e:Expr) (t:TE):Prop:=
 ∀ (pins:List (Addr × Obj)) (s:Shared) (σ:St) (H:Hp) (Q:VK),zG X pins σ H s->t σ H Q->wpAny (model X.prog X.w) X.A (eval e X.env) (EP X pins σ Q) X.xe s
noncomputable def PT (X:Cx) (e:Expr) (t:TT):Prop:=
 ∀ (pins:List (Addr × Obj)) (s:Shared) (σ:St) (H:Hp) (Q:Bool->Hp->Prop),zG X pins σ H s->t σ H Q->wpAny (model X.prog X.w) X.A (isTrue e X.env (eval e X.env)) (TP X pins σ Q) X.xe s
noncomputable def PW (X:Cx) (e:Expr) (t:TT):Prop:=
 ∀ (whole:Sem Value) (pins:List (Addr × Obj)) (s:Shared) (σ:St) (H:Hp) (Q:Bool->Hp->Prop),zG X pins σ H s->t σ H Q->wpAny (model X.prog X.w) X.A (isTrue e X.env whole) (TP X pins σ Q) X.xe s
theorem PW.pt {X:Cx} {e:Expr} {t:TT} (h:PW X e t):PT X e t:=h _
noncomputable def PA (X:Cx) (es:List Expr) (t:TA):Prop:=
 ∀ (pos:Pos) (pins:List (Addr × Obj)) (s:Shared) (σ:St) (H:Hp) (Q:List V->Hp->Prop),zG X pins σ H s->t σ H Q->wpAny (model X.prog X.w) X.A (spliced (backTo pos (starEach es X.env))) (AP X pins σ Q) X.xe s
noncomputable def PS (X:Cx) (st:Stmt) (t:TS):Prop:=
 ∀ (pins:List (Addr × Obj)) (s:Shared) (σ:St) (H:Hp) (D:xU),zG X pins σ H s->t D σ H->wpAny (model X.prog X.w) X.A (exec st X.env) (SP X pins D) X.xe s
noncomputable def xz (X:Cx) (st:List Stmt) (t:TS):Prop:=
 ∀ (pins:List (Addr × Obj)) (s:Shared) (σ:St) (H:Hp) (D:xU),zG X pins σ H s->t D σ H->wpAny (model X.prog X.w) X.A (execs st X.env) (SP X pins D) X.xe s
theorem zd {α:Type} {t:Sem α} {Q Q':α->Shared->Prop} {M:Model} {A:Around} {E:Value->Shared->Prop} {s:Shared} (h:wpAny M A t Q E s) (hQ:∀ a s,Q a s->Q' a s):wpAny M A t Q' E s:=wpAny_mono h hQ λ_ _ x=>x
end L2
namespace L2
open PySem PySem.Spec PyProof.Rows
section
variable {X:Cx}
noncomputable def qM (i:Nat):TE:=λσ H Q=>∃ v,σ[i]? = some (some v)/\Q v H
noncomputable def tC (v:V):TE:=λ_ H Q=>Q v H
theorem Xm {i:Nat} {x:Str} {pos:Pos} (hN:X.N[i]? = some x) (hv:uq X.env.scope x) (hd:(x == ("__debug__" : Str))=false:=by decide) (hcd:(x == ("__classdict__" : Str))=false:=by decide):PE X (.Name x pos) (qM i):=by
 intro pins s σ H Q I h
 obtain ⟨v,e,h⟩:=h
 obtain ⟨m,hn,hl⟩:=I.loc
 obtain ⟨u,r,l⟩:=hl i x v hN e hv
 have fin:EP X pins σ Q u s:=⟨v,H,I,r,h⟩
 rcases l with ⟨hk,hm⟩ | ⟨hk,c,hc,hcell⟩
 ·exact wpAny_Name (wpAny_loadName_local I.ok.kind hk hn hm fin) hd
 ·rcases hk with hk | hk
  ·exact wpAny_Name (wpAny_loadName_cell I.ok.kind hk hc hcell fin) hd
  ·exact wpAny_Name (wpAny_loadName_free I.ok.kind hk hc hcell fin hcd) hd
theorem zJ {i j pos}:PE X (.Constant (.int i) j pos) (tC (.int i)):=λ_ _ _ H _ I h=>wpAny_Constant_int ⟨.int i,H,I.tok _,⟨_,rfl⟩,h⟩
theorem xK {b j pos}:PE X (.Constant (.bool b) j pos) (tC (.bl b)):=λ_ _ _ H _ I h=>Constant_bool ⟨.bl b,H,I,rfl,h⟩
theorem vM {j pos}:PE X (.Constant .none j pos) (tC .non):=λ_ _ _ H _ I h=>Constant_none ⟨.non,H,I,rfl,h⟩
theorem xV {x j pos}:PE X (.Constant (.str x) j pos) (tC (.str x)):=λ_ _ _ H _ I h=>Calls.Constant_str ⟨.str x,H,I.tok _,⟨_,rfl⟩,h⟩
noncomputable def Gl (X:Cx) (x:Str):Prop:=X.env.kindOf x=some .globalImplicit
theorem ur {E:Value->Shared->Prop} {pins:List (Addr × Obj)} {s:Shared} {σ:St} {H:Hp} {x:Str} {u:Value} {pos:Pos} {Q:Value->Shared->Prop} (I:zG X pins σ H s) (hg:Gl X x) (hm:X.mg x=some u) (h:Q u s)
  (hd:(x == ("__debug__" : Str))=false:=by decide):wpAny (model X.prog X.w) X.A (eval (.Name x pos) X.env) Q E s:=
 Calls.Name_function_global I.ok.kind hg (Calls.loadGlobal_global (by rw [I.ok.glob]; exact I.mod.glob.keeps I.bk) hm h) hd
theorem qN {E:Value->Shared->Prop} {pins:List (Addr × Obj)} {s:Shared} {σ:St} {H:Hp} {x:Str} {u:Value} {pos:Pos} {Q:Value->Shared->Prop} (I:zG X pins σ H s) (hg:Gl X x) (hm:X.mg x=none) (hv:bootBuiltins x=some u) (h:Q u s)
  (hn:x≠"__name__":=by decide) (hd:(x == ("__debug__" : Str))=false:=by decide):wpAny (model X.prog X.w) X.A (eval (.Name x pos) X.env) Q E s:=by
 obtain ⟨mb,h1,h2⟩:=I.mod.blt
 exact Calls.Name_function_global I.ok.kind hg (Calls.loadGlobal_builtin (by rw [I.ok.glob]; exact I.mod.glob.keeps I.bk) hm (by rw [I.ok.blt]; exact h1.keeps I.bk) ((h2 x hn).trans hv) h) hd
theorem vA {x:Str} {v:V} {u:Value} {pos:Pos} (hg:Gl X x) (hm:X.mg x=some u) (r:zV v u) (hd:(x == ("__debug__" : Str))=false:=by decide):PE X (.Name x pos) (tC v):=
 λ_ _ _ H _ I h=>ur I hg hm ⟨v,H,I,r,h⟩ hd
theorem vB {x:Str} {v:V} {u:Value} {pos:Pos} (hg:Gl X x) (hm:X.mg x=none) (hv:bootBuiltins x=some u) (r:zV v u) (hn:x≠"__name__":=by decide) (hd:(x == ("__debug__" : Str))=false:=by decide):PE X (.Name x pos) (tC v):=
 λ_ _ _ H _ I h=>qN I hg hm hv ⟨v,H,I,r,h⟩ hn hd
variable {a b:Expr} {ta tb:TE} {pos:Pos}
noncomputable def PC (X:Cx) (op:CmpOp) (a b:Expr) (t:TE):Prop:=
 ∀ (pins:List (Addr × Obj)) (s:Shared) (σ:St) (H:Hp) (Q:VK),zG X pins σ H s->t σ H Q->
  wpAny (model X.prog X.w) X.A (eval a X.env) (λv s₁=>wpAny (model X.prog X.w) X.A (eval b X.env) (λu s₂=>wpAny (model X.prog X.w) X.A (compareOp op v u) (EP X pins σ Q) X.xe s₂) X.xe s₁) X.xe s
noncomputable def tB (t:TE):TT:=λσ H Q=>t σ H λx H1=>∃ c,x=.bl c/\Q c H1
theorem yo {e:Expr} {t:TE} (h:PE X e t) (he:∀ whole,isTrue e X.env whole=(do let v <- whole; standAt e.pos; holding [v] (truthy v)):=by intro _; rfl):PT X e (tB t):=by
 intro pins s σ H Q I hw
 refine isTrue_plain (zd (h pins s σ H _ I hw) λv s1 ⟨x,H1,I1,r1,q1⟩=>?_) (he _)
 obtain ⟨d,rfl,q⟩:=q1
 cases r1
 exact wpAny_truthy_bool ⟨H1,I1,q⟩
variable {tA tB':TT} {xT:List Expr}
noncomputable def ZP (t u:TT):TT:=λσ H Q=>t σ H λc H1=>if c=true then u σ H1 Q else Q false H1
noncomputable def US (t u:TT):TT:=λσ H Q=>t σ H λc H1=>if c=true then Q true H1 else u σ H1 Q
noncomputable def ZQ (t:TT):TT:=λσ H Q=>t σ H λc H1=>Q (!c) H1
theorem Xn (ha:PT X a tA):PW X (.BoolOp .And [a] pos) tA:=by
 intro wh pins s σ H Q I h
 refine isTrue_and (zd (ha pins s σ H Q I h) λc s1 e=>?_)
 cases c with
 | true=>exact isTrue_and_nil e
 | false=>exact e
theorem wp (ha:PT X a tA):PW X (.BoolOp .Or [a] pos) tA:=by
 intro wh pins s σ H Q I h
 refine isTrue_or (zd (ha pins s σ H Q I h) λc s1 e=>?_)
 cases c with
 | false=>exact isTrue_or_nil e
 | true=>exact e
theorem Xo (ha:PT X a tA) (hb:PW X (.BoolOp .And (b :: xT) pos) tB'):PW X (.BoolOp .And (a :: b :: xT) pos) (ZP tA tB'):=by
 intro wh pins s σ H Q I h
 refine isTrue_and (zd (ha pins s σ H _ I h) λc s1 ⟨H1,I1,q1⟩=>?_)
 cases c with
 | true=>exact hb wh pins s1 σ H1 Q I1 q1
 | false=>exact ⟨H1,I1,q1⟩
theorem wT (ha:PT X a tA) (hb:PW X (.BoolOp .Or (b :: xT) pos) tB'):PW X (.BoolOp .Or (a :: b :: xT) pos) (US tA tB'):=by
 intro wh pins s σ H Q I h
 refine isTrue_or (zd (ha pins s σ H _ I h) λc s1 ⟨H1,I1,q1⟩=>?_)
 cases c with
 | true=>exact ⟨H1,I1,q1⟩
 | false=>exact hb wh pins s1 σ H1 Q I1 q1
theorem xo (ha:PT X a tA):PT X (.UnaryOp .Not a pos) (ZQ tA):=by
 intro pins s σ H Q I h
 exact isTrue_not (ha pins s σ H (λc H1=>Q (!c) H1) I h)
noncomputable def qO (ta tb:TE):TE:=λσ H Q=>ta σ H λx H1=>∃ c,x=.bl c/\if c=true then tb σ H1 Q else Q (.bl false) H1
noncomputable def qP (ta:TE):TE:=λσ H Q=>ta σ H λx H1=>∃ c,x=.bl c/\Q (.bl (!c)) H1
theorem vN {op} {t:TE} (h:PE X a t):PE X (.BoolOp op [a] pos) t:=λpins s σ H Q I hw=>BoolOp_one (h pins s σ H Q I hw)
theorem wA (ha:PE X a ta) (hb:PE X (.BoolOp .And (b :: xT) pos) tb):PE X (.BoolOp .And (a :: b :: xT) pos) (qO ta tb):=by
 intro pins s σ H Q I h
 refine BoolOp_and (zd (ha pins s σ H _ I h) λv s1 ⟨x,H1,I1,r1,q1⟩=>?_)
 obtain ⟨c,rfl,q1⟩:=q1
 cases r1
 refine wpAny_truthy_bool ?_
 cases c with
 | true=>exact hb pins s1 σ H1 Q I1 q1
 | false=>exact ⟨.bl false,H1,I1,rfl,q1⟩
theorem UT (ha:PE X a ta):PE X (.UnaryOp .Not a pos) (qP ta):=by
 intro pins s σ H Q I h
 refine UnaryOp_ (zd (ha pins s σ H _ I h) λv s1 ⟨x,H1,I1,r1,q1⟩=>?_)
 obtain ⟨c,rfl,q1⟩:=q1
 cases r1
 exact not_of (wpAny_truthy_bool ⟨.bl (!c),H1,I1,rfl,q1⟩)
end
end L2
namespace L2
open PySem PySem.Spec PyProof.Rows
noncomputable def zP (K:PySem.W.Frag) (H:Hp) (a:Addr) (xs:List V):Prop:=
 Rd H a (.lst xs)∨
  ∃ (o:Obj) (its:Array Value) (n:Nat),K.lookup a=some o/\o.cls=.type "list"/\o.dict=none/\o.data=.seq its n/\its.size<=sizeLine/\zO xs its.toList
noncomputable def zn (K:PySem.W.Frag) (H:Hp) (a:Addr) (xs:List V):Prop:=
 Rd H a (.tup xs)∨
  ∃ (o:Obj) (its:Array Value) (n:Nat),K.lookup a=some o/\o.cls=.type "tuple"/\o.data=.seq its n/\its.size<=sizeLine/\zO xs its.toList
noncomputable def ZR:Value->Option V
 | .none=>some .non
 | .bool b=>some (.bl b)
 | .int i _=>some (.int i)
 | .str x _=>some (.str x)
 | .bytes b _=>some (.byt b)
 | .float b _=>some (.flt b)
 | .ref a=>some (.ref a)
 | .type n=>some (.ty n)
 | _=>none
theorem zV.abs {x:V} {u:Value} (r:zV x u):ZR u=some x:=by
 cases x with
 | non=>cases r; rfl
 | bl _=>cases r; rfl
 | int _=>obtain ⟨t,rfl⟩:=r; rfl
 | str _=>obtain ⟨t,rfl⟩:=r; rfl
 | byt _=>obtain ⟨t,rfl⟩:=r; rfl
 | flt _=>obtain ⟨t,rfl⟩:=r; rfl
 | ref _=>cases r; rfl
 | ty _=>cases r; rfl
theorem zV.inj {x y:V} {u:Value} (r:zV x u) (q:zV y u):x=y:=Option.some.inj (r.abs.symm.trans q.abs)
theorem zO.inj:∀ {xs ys:List V} {us:List Value},zO xs us->zO ys us->xs=ys
 | _,_,_,.nil,.nil=>rfl
 | _,_,_,.cons r t,.cons r' t'=>by rw [r.inj r',zO.inj t t']
section
variable {X:Cx} {pins:List (Addr × Obj)} {σ:St} {H:Hp} {s:Shared} {a:Addr} {xs ys:List V}
theorem zP.of {K:PySem.W.Frag} (h:H a=some (.lst xs)):zP K H a xs:=.inl (.inl h)
theorem zn.of {K:PySem.W.Frag} (h:H a=some (.tup xs)):zn K H a xs:=.inl (.inl h)
theorem zG.list (I:zG X pins σ H s) (h:zP X.K H a xs):∃ its:List Value,zO xs its/\PlainL s.heap a its.toArray/\xs.length<=sizeLine:=by
 rcases h with h | ⟨o,its,n,hk,hc,hd,hs,hz,r⟩
 ·obtain ⟨z,its,n,r,e⟩:=h.ok I.hok
  exact ⟨its,r,⟨_,n,e,rfl,rfl,rfl⟩,z⟩
 ·refine ⟨its.toList,r,⟨o,n,I.kIn a o hk,hc,hd,by simpa using hs⟩,?_⟩
  have e:=r.length
  simp only [Array.length_toList] at e
  omega
theorem zG.tuple (I:zG X pins σ H s) (h:zn X.K H a xs):∃ its:List Value,zO xs its/\IsTup s.heap a its.toArray/\xs.length<=sizeLine:=by
 rcases h with h | ⟨o,its,n,hk,hc,hs,hz,r⟩
 ·obtain ⟨z,its,r,p⟩:=h.ok I.hok
  exact ⟨its,r,p,z⟩
 ·refine ⟨its.toList,r,⟨o,I.kIn a o hk,hc,n,by simpa using hs⟩,?_⟩
  have e:=r.length
  simp only [Array.length_toList] at e
  omega
theorem zG.list_inj (I:zG X pins σ H s) (h:zP X.K H a xs) (h':zP X.K H a ys):xs=ys:=by
 obtain ⟨its,r,⟨o,n,e,_,_,d⟩,_⟩:=I.list h
 obtain ⟨its',r',⟨o',n',e',_,_,d'⟩,_⟩:=I.list h'
 rw [e] at e'; cases e'
 rw [d] at d'
 injection d' with d1 _
 have:its=its':=by simpa using congrArg Array.toList d1
 subst this
 exact r.inj r'
theorem zG.tuple_inj (I:zG X pins σ H s) (h:zn X.K H a xs) (h':zn X.K H a ys):xs=ys:=by
 obtain ⟨its,r,⟨o,e,_,n,d⟩,_⟩:=I.tuple h
 obtain ⟨its',r',⟨o',e',_,n',d'⟩,_⟩:=I.tuple h'
 rw [e] at e'; cases e'
 rw [d] at d'
 injection d' with d1 _
 have:its=its':=by simpa using congrArg Array.toList d1
 subst this
 exact r.inj r'
end
noncomputable abbrev Cx.wish (X:Cx) (E:Value->Shared->Prop):Cx:={ X with xe:=E }
noncomputable abbrev Cx.nox (X:Cx):Cx:=X.wish λ_ _=>False
theorem Cx.Ok.wish {X:Cx} (ok:X.Ok) (E:Value->Shared->Prop):(X.wish E).Ok:=
 ⟨ok.mod,ok.kind,ok.glob,ok.blt,ok.above,ok.inj,ok.has,ok.cab,ok.hd,ok.frames,ok.stk,ok.exf,ok.bs,ok.bsz,ok.noex,ok.exfs,ok.funs,ok.frf⟩
theorem Cx.Ok.unwish {X:Cx} {E:Value->Shared->Prop} (ok:(X.wish E).Ok):X.Ok:=
 ⟨ok.mod,ok.kind,ok.glob,ok.blt,ok.above,ok.inj,ok.has,ok.cab,ok.hd,ok.frames,ok.stk,ok.exf,ok.bs,ok.bsz,ok.noex,ok.exfs,ok.funs,ok.frf⟩
section
variable {X:Cx} {pins:List (Addr × Obj)} {σ:St} {H:Hp} {s:Shared} {E:Value->Shared->Prop}
theorem zG.wish (I:zG X pins σ H s) (E:Value->Shared->Prop):zG (X.wish E) pins σ H s:=⟨I.ok.wish E,I.os,I.bare,I.base,I.loc,I.cell,I.free,I.freeC,I.pin,I.hok,I.len⟩
theorem zG.unwish (I:zG (X.wish E) pins σ H s):zG X pins σ H s:=⟨I.ok.unwish,I.os,I.bare,I.base,I.loc,I.cell,I.free,I.freeC,I.pin,I.hok,I.len⟩
theorem SP.unwish {D:xU} {f:Flow} {s':Shared} (h:SP (X.wish E) pins D f s'):SP X pins D f s':=by
 cases f with
 | next=>obtain ⟨σ',H',I,q⟩:=h; exact ⟨σ',H',I.unwish,q⟩
 | brk=>obtain ⟨σ',H',I,q⟩:=h; exact ⟨σ',H',I.unwish,q⟩
 | cont=>obtain ⟨σ',H',I,q⟩:=h; exact ⟨σ',H',I.unwish,q⟩
 | ret u=>obtain ⟨v,σ',H',I,r,q⟩:=h; exact ⟨v,σ',H',I.unwish,r,q⟩
theorem PE.nox {e:Expr} {t:TE} (h:PE X.nox e t):PE X e t:=λpins s σ H Q I hw=>
 wpAny_mono (h pins s σ H Q (I.wish _) hw) (λ_ _ ⟨v,H',I',r,q⟩=>⟨v,H',I'.unwish,r,q⟩) λ_ _ z=>False.elim z
theorem PT.nox {e:Expr} {t:TT} (h:PT X.nox e t):PT X e t:=λpins s σ H Q I hw=>
 wpAny_mono (h pins s σ H Q (I.wish _) hw) (λ_ _ ⟨H',I',q⟩=>⟨H',I'.unwish,q⟩) λ_ _ z=>False.elim z
theorem xz.nox {st:List Stmt} {t:TS} (h:xz X.nox st t):xz X st t:=λpins s σ H D I hw=>
 wpAny_mono (h pins s σ H D (I.wish _) hw) (λ_ _ q=>q.unwish) λ_ _ z=>False.elim z
end
section
variable {X:Cx} {st:Stmt} {xT:List Stmt} {t u:TS} {e:Expr} {te:TE} {pos:Pos}
noncomputable def qQ:TS:=λD σ H=>D.nx σ H
noncomputable def qR (t u:TS):TS:=λD σ H=>t { D with nx:=u D } σ H
theorem yc:xz X [] qQ:=λ_ _ σ H _ I h=>wpAny_execs_nil ⟨σ,H,I,h⟩
theorem zS (h1:PS X st t) (h2:xz X xT u):xz X (st :: xT) (qR t u):=by
 intro pins s σ H D I h
 refine wpAny_execs_cons (zd (h1 pins s σ H { D with nx:=u D } I h) λf s1 q=>?_)
 cases f with
 | next=>
  obtain ⟨σ',H',I',q⟩:=q
  exact h2 pins s1 σ' H' D I' q
 | ret v=>exact q
 | brk=>exact q
 | cont=>exact q
theorem zX (h1:PS X st t):xz X [st] t:=by
 intro pins s σ H D I h
 refine wpAny_execs_cons (zd (h1 pins s σ H D I h) λf s1 q=>?_)
 cases f with
 | next=>exact wpAny_execs_nil q
 | ret v=>exact q
 | brk=>exact q
 | cont=>exact q
theorem zG.quiet {pins:List (Addr × Obj)} {σ:St} {H:Hp} {s:Shared} (I:zG X pins σ H s):interactive X.env=false:=by simp [interactive,I.ok.kind]
noncomputable def qS (te:TE):TS:=λD σ H=>te σ H λ_ H1=>D.nx σ H1
theorem ut (he:PE X e te) (hs:swapsWith e none pos.line X.env=pure false:=by rfl):PS X (.Expr e pos) (qS te):=by
 intro pins s σ H D I h
 exact wpAny_Expr_any (zd (he pins s σ H _ I h) λv s1 ⟨x,H1,I1,r1,q1⟩=>⟨σ,H1,I1,q1⟩) I.quiet hs
noncomputable def ZS (te:TE):TS:=λD σ H=>te σ H D.rt
theorem zo (he:PE X e te):PS X (.Return (some e) pos) (ZS te):=by
 intro pins s σ H D I h
 exact wpAny_Return_some (zd (he pins s σ H _ I h) λv s1 ⟨x,H1,I1,r1,q1⟩=>⟨x,σ,H1,I1,r1,q1⟩)
noncomputable def ZT (c:TT) (t u:TS):TS:=λD σ H=>c σ H λb H1=>if b=true then t D σ H1 else u D σ H1
theorem yT {c:Expr} {a b:List Stmt} {tc:TT} (hc:PT X c tc) (ha:xz X a t) (hb:xz X b u):PS X (.If c a b pos) (ZT tc t u):=by
 intro pins s σ H D I h
 refine wpAny_If (zd (hc pins s σ H _ I h) λd s1 ⟨H1,I1,q1⟩=>?_)
 cases d with
 | true=>exact ha pins s1 σ H1 D I1 q1
 | false=>exact hb pins s1 σ H1 D I1 q1
noncomputable def UU:TS:=λ_ _ _=>False
theorem UV:PS X st UU:=λ_ _ _ _ _ _ h=>h.elim
end
noncomputable abbrev TG:=V->St->Hp->(St->Hp->Prop)->Prop
noncomputable abbrev uu:=List V->St->Hp->(St->Hp->Prop)->Prop
noncomputable def PG (X:Cx) (target:Expr) (t:TG):Prop:=
 ∀ (pins:List (Addr × Obj)) (s:Shared) (σ:St) (H:Hp) (v:V) (u:Value) (Q:St->Hp->Prop),zG X pins σ H s->zV v u->t v σ H Q->
  wpAny (model X.prog X.w) X.A (assign target X.env u) (λ_ s'=>∃ σ' H',zG X pins σ' H' s'/\Q σ' H') X.xe s
noncomputable def gw (X:Cx) (ts:List Expr) (t:uu):Prop:=
 ∀ (pins:List (Addr × Obj)) (s:Shared) (σ:St) (H:Hp) (vs:List V) (us:List Value) (Q:St->Hp->Prop),zG X pins σ H s->zO vs us->t vs σ H Q->
  wpAny (model X.prog X.w) X.A (assignInOrder ((assignEach ts X.env).map (·.2)) us) (λ_ s'=>∃ σ' H',zG X pins σ' H' s'/\Q σ' H') X.xe s
section
variable {X:Cx} {pos:Pos}
noncomputable def wB (i:Nat):TG:=λv σ H Q=>Q (σ.set i (some v)) H
theorem zu {i:Nat} {x:Str} (hN:X.N.Nodup) (hi:X.N[i]? = some x) (hx:gv X.env.scope x) (hf:X.fn x=true\/X.env.scope.names.lookup x=some .local:=by first | exact .inl rfl | exact .inr rfl | assumption):PG X (.Name x pos) (wB i):=by
 intro pins s σ H v u Q I r h
 exact wpAny_assign_Name (ZO I hN hi hx r (λs' I'=>⟨_,H,I',h⟩) hf)
noncomputable def wU:uu:=λvs σ H Q=>vs=[]/\Q σ H
noncomputable def wq (t:TG) (u:uu):uu:=λvs σ H Q=>∃ v r,vs=v :: r/\t v σ H λσ' H'=>u r σ' H' Q
theorem ve:gw X [] wU:=by
 intro pins s σ H vs us Q I r h
 obtain ⟨e,h⟩:=h
 subst e
 cases r
 exact assignInOrder_nil ⟨σ,H,I,h⟩
theorem xW {e:Expr} {es:List Expr} {t:TG} {u:uu} (h1:PG X e t) (h2:gw X es u)
  (hs:(assignEach (e :: es) X.env).map (·.2)=assign e X.env :: (assignEach es X.env).map (·.2):=by rfl):gw X (e :: es) (wq t u):=by
 intro pins s σ H vs us Q I r h
 obtain ⟨v,vr,e1,h⟩:=h
 subst e1
 cases r with
 | cons r rr=>
  rw [hs]
  refine assignInOrder_cons (zd (h1 pins s σ H _ _ _ I r h) λ_ s1 ⟨σ1,H1,I1,q1⟩=>?_)
  exact h2 pins s1 σ1 H1 _ _ Q I1 rr q1
noncomputable def wV (K:PySem.W.Frag) (n:Nat) (t:uu):TG:=λv σ H Q=>∃ a xs,v=.ref a/\zn K H a xs/\xs.length=n/\t xs σ H Q
theorem vf {es:List Expr} {k:Nat} {t:uu} {n:Nat} (hc:X.calm=true) (h:gw X es t)
  (hn:(assignEach es X.env).length=n:=by rfl) (hst:(assignEach es X.env).findIdx? (·.1)=none:=by rfl):PG X (.Tuple es k pos) (wV X.K n t):=by
 intro pins s σ H v u Q I r hw
 obtain ⟨a,xs,e1,hq,hl,hw⟩:=hw
 subst e1
 cases r
 obtain ⟨its,rv,ht,hz⟩:=I.tuple hq
 refine assign_Tuple_tuple (I.ok.hd hc) ht (by simp [hn,<- hl,rv.length]) hst λh' hx=>?_
 have I1:zG X pins σ H { s with heap:=h' }:=I.kept (t':=s.toks) λb o e=>hx b o (Nat.ne_of_lt (Heap.lt_size e)) e
 exact h pins _ σ H xs _ Q I1 (by simpa using rv) hw
noncomputable def uB (te:TE) (g:TG):TS:=λD σ H=>te σ H λx H1=>g x σ H1 D.nx
theorem UW {tg e:Expr} {te:TE} {g:TG} (he:PE X e te) (hg:PG X tg g) (hs:swapsWithSole [tg] e pos.line X.env=pure false:=by rfl) (hw:swappedStores [tg] e X.env=pure none:=by rfl)
  (h1:(assignEach [tg] X.env).map (·.2)=[assign tg X.env]:=by rfl):PS X (.Assign [tg] e pos) (uB te g):=by
 intro pins s σ H D I h
 refine wpAny_Assign_stores (zd (he pins s σ H _ I h) λv s1 ⟨x,H1,I1,r1,q1⟩=>?_) hs hw
 rw [h1]
 exact zd (hg pins s1 σ H1 x v _ I1 r1 q1) λ_ s2 q=>q
theorem zp {i:Nat} {x:Str} {e:Expr} {te:TE} {pos':Pos} (hN:X.N.Nodup) (hi:X.N[i]? = some x) (hx:gv X.env.scope x) (he:PE X e te) (hs:swapsWith e (some (.Name x pos')) pos.line X.env=pure false:=by rfl) (hf:X.fn x=true\/X.env.scope.names.lookup x=some .local:=by first | exact .inl rfl | exact .inr rfl | assumption) :
  PS X (.Assign [.Name x pos'] e pos) (uB te (wB i)):=by
 intro pins s σ H D I h
 refine wpAny_Assign_Name (zd (he pins s σ H _ I h) λv s1 ⟨y,H1,I1,r1,q1⟩=>?_) hs
 exact ZO I1 hN hi hx r1 (λs2 I2=>⟨_,H1,I2,q1⟩) hf
end
section
variable {X:Cx} {pos:Pos}
end
structure It where
 go:Nat->Hp->Prop
 yld:Nat->Hp->V->Hp->Prop
 stop:Nat->Hp->Prop
noncomputable def zq (X:Cx) (pins:List (Addr × Obj)) (H:Hp) (b:Addr):Prop:=
 H b=none/\b≠X.env.locals/\b∉X.fs/\(b∈X.ex\/X.s₀.heap.objs.size<=b)/\(∀ x c,X.env.cells.lookup x=some c->c≠b)/\∀ p∈X.pn++pins,p.1≠b
theorem zG.fpOk {X:Cx} {pins:List (Addr × Obj)} {σ:St} {H H':Hp} {s:Shared} {b:Addr} (I:zG X pins σ H s) (hb:s.heap.objs.size<=b) (hn:H' b=none):zq X pins H' b:=by
 refine ⟨hn,Nat.ne_of_gt (Nat.lt_of_lt_of_le I.lt hb),I.nofs hb,.inr (Nat.le_trans I.sz hb),λx c e z=>?_,λp hp z=>?_⟩
 ·obtain ⟨v,q⟩:=I.cell x c e
  exact absurd (Nat.lt_of_lt_of_le q.lt (by rw [z]; exact hb)) (Nat.lt_irrefl _)
 ·exact absurd (Nat.lt_of_lt_of_le (Heap.lt_size (I.pin p hp).1) (by rw [z]; exact hb)) (Nat.lt_irrefl _)
structure wW (P:Program) (w:World) (K:PySem.W.Frag) (tg:Expr) (J:It) (fp:List Addr) (it:Addr) (tn:Nat->Heap->Prop):Prop where
 mem:it∈fp
 obj:∀ i h,tn i h->∀ b∈fp,∃ o,h.get? b=some o/\∀ v,o.data≠.cell v
 keep:∀ i h h',tn i h->(∀ b∈fp,∀ o,h.get? b=some o->h'.get? b=some o)->tn i h'
 item:∀ (X:Cx),X.prog=P->X.w=w->X.K=K->X.calm=true->∀ (i:Nat) (pins:List (Addr × Obj)) (s:Shared) (σ:St) (H:Hp) (E:Value->Shared->Prop),zG X pins σ H s->(∀ b∈fp,zq X pins H b)->tn i s.heap->J.go i H->
  wpAny (model P w) X.A (pyNext (.ref it)) (λr s1=>∃ u,r=some u∧
   wpAny (model P w) X.A (letOwnedTupleGo tg (.ref it) u) (λ_ s2=>∃ x H',zG X pins σ H' s2/\zV x u/\J.yld i H x H'/\tn (i + 1) s2.heap/\∀ b∈fp,H' b=none) E s1) E s
 done:∀ (X:Cx),X.prog=P->X.w=w->X.K=K->X.calm=true->∀ (i:Nat) (pins:List (Addr × Obj)) (s:Shared) (σ:St) (H:Hp) (E:Value->Shared->Prop),zG X pins σ H s->(∀ b∈fp,zq X pins H b)->tn i s.heap->J.stop i H->
  wpAny (model P w) X.A (pyNext (.ref it)) (λr s1=>r=none/\zG X pins σ H s1) E s
 self:∀ (A:Around) (i:Nat) (s:Shared) (Q:Value->Shared->Prop) (E:Value->Shared->Prop),tn i s.heap->Q (.ref it) s->wpAny (model P w) A (pyIter (.ref it)) Q E s
noncomputable abbrev TI:=St->Hp->(It->Hp->Prop)->Prop
noncomputable def Xp (X:Cx) (pins:List (Addr × Obj)) (σ:St) (tg:Expr) (R:It->Hp->Prop) (itv:Value) (s2:Shared):Prop:=
 ∃ (it:Addr) (fp:List Addr) (tn:Nat->Heap->Prop) (J:It) (H':Hp),itv=.ref it/\zG X pins σ H' s2/\wW X.prog X.w X.K tg J fp it tn/\tn 0 s2.heap/\(∀ b∈fp,zq X pins H' b)/\R J H'
noncomputable def PI (X:Cx) (tg iter:Expr) (wi:TI):Prop:=
 ∀ (pins:List (Addr × Obj)) (s:Shared) (σ:St) (H:Hp) (R:It->Hp->Prop),zG X pins σ H s->wi σ H R->
  wpAny (model X.prog X.w) X.A (eval iter X.env) (λv s1=>wpAny (model X.prog X.w) X.A (pyIter v) (Xp X pins σ tg R) X.xe s1) X.xe s
theorem gx {M:Model} {A:Around} {E:Value->Shared->Prop} {s:Shared} {tg:Expr} {it:Addr} {u:Value} {o:Obj} {n:String} {vs:Array Value} {Q:Unit->Shared->Prop} (ho:s.heap.get? it=some o) (hc:o.cls=.type n) (hd:o.data=.fields vs)
  (hn:["enumerate","zip","dict_itemiterator","dict_reverseitemiterator","odict_iterator","itertools.zip_longest","itertools.pairwise"].contains n=false) (hQ:Q () s):wpAny M A (letOwnedTupleGo tg (.ref it) u) Q E s:=by
 unfold letOwnedTupleGo
 cases tg <;> first
  | exact wpAny_pure hQ
  | (cases u <;> first
    | exact wpAny_pure hQ
    | (refine wpAny_bind (wpAny_load ho ?_)
       rw [hc,hd]
       show wpAny M A (if (["enumerate","zip","dict_itemiterator","dict_reverseitemiterator","odict_iterator","itertools.zip_longest","itertools.pairwise"].contains n && vs[0]? == some (rawInt _))=true then _ else _) Q E s
       rw [if_neg (by intro h; rw [hn,Bool.false_and] at h; cases h)]
       exact wpAny_pure hQ))
noncomputable def uW (K:PySem.W.Frag) (a:Addr):It:=
 ⟨λi H=>∃ xs x,zP K H a xs/\xs[i]? = some x,λi H x H'=>H'=H/\∀ xs,zP K H a xs->xs[i]? = some x,λi H=>∃ xs,zP K H a xs/\xs.length<=i⟩
noncomputable def ZU (K:PySem.W.Frag) (a:Addr):It:=
 ⟨λi H=>∃ xs x,zn K H a xs/\xs[i]? = some x,λi H x H'=>H'=H/\∀ xs,zn K H a xs->xs[i]? = some x,λi H=>∃ xs,zn K H a xs/\xs.length<=i⟩
noncomputable def uv (lo:Int) (n:Nat):It:=⟨λi _=>i < n,λi H x H'=>H'=H/\x=.int (lo + i),λi _=>n<=i⟩
theorem UX {P:Program} {w:World} {K:PySem.W.Frag} {tg:Expr} (a it:Addr):wW P w K tg (uW K a) [it] it (λi h=>h.IsListIter it a i) where
 mem:=by simp
 obj:=λi h st b hb=>by
  have e:b=it:=by simpa using hb
  subst e
  obtain ⟨o,e,c,d⟩:=st
  exact ⟨o,e,λv z=>by rw [d] at z; cases z⟩
 keep:=λi h h' st k=>st.at λo e=>k it (by simp) o e
 item:=by
  intro X hP hw hK hc i pins s σ H E I hf st hg
  subst hP hw hK
  obtain ⟨xs,x,hq,hx⟩:=hg
  obtain ⟨its,rv,p,hz⟩:=I.list hq
  obtain ⟨u,hu,ru⟩:=rv.get hx
  obtain ⟨f0,f1,f2,f3,f4,f5⟩:=hf it (by simp)
  refine wpAny_pyNext_list_item st p.isList (x:=u) (by simpa using hu) λh' st' sb=>?_
  have I1:zG X pins σ H { s with heap:=h' }:=I.turned (t':=s.toks) (λb o hb e=>(sb.2 b hb).trans e) f0 f1 f3 f4 f5
  obtain ⟨o,e,c,d⟩:=id st'
  exact ⟨u,rfl,gx (s:={ s with heap:=h' }) e c d (by decide) ⟨x,H,I1,ru,⟨rfl,λys hy=>by rw [I.list_inj hy hq]; exact hx⟩,st',λb hb=>(hf b hb).1⟩⟩
 done:=by
  intro X hP hw hK hc i pins s σ H E I hf st hg
  subst hP hw hK
  obtain ⟨xs,hq,hx⟩:=hg
  obtain ⟨its,rv,p,hz⟩:=I.list hq
  obtain ⟨f0,f1,f2,f3,f4,f5⟩:=hf it (by simp)
  have hl:=rv.length
  exact wpAny_pyNext_list_end (I.ok.hd hc) st p.isList (by simp; omega) λh' eb=>⟨rfl,I.turned (t':=s.toks) (λb o hb e=>eb b o hb e) f0 f1 f3 f4 f5⟩
 self:=λ_ _ _ _ _ st h=>wpAny_pyIter_listiter st h
theorem UY {P:Program} {w:World} {K:PySem.W.Frag} {tg:Expr} (a it:Addr):wW P w K tg (ZU K a) [it] it (λi h=>h.IsTupleIter it a i) where
 mem:=by simp
 obj:=λi h st b hb=>by
  have e:b=it:=by simpa using hb
  subst e
  obtain ⟨o,e,c,d⟩:=st
  exact ⟨o,e,λv z=>by rw [d] at z; cases z⟩
 keep:=λi h h' st k=>st.at λo e=>k it (by simp) o e
 item:=by
  intro X hP hw hK hc i pins s σ H E I hf st hg
  subst hP hw hK
  obtain ⟨xs,x,hq,hx⟩:=hg
  obtain ⟨its,rv,p,hz⟩:=I.tuple hq
  obtain ⟨u,hu,ru⟩:=rv.get hx
  obtain ⟨f0,f1,f2,f3,f4,f5⟩:=hf it (by simp)
  refine wpAny_pyNext_tuple_item st (show s.heap.IsTuple a its.toArray from p) (x:=u) (by simpa using hu) λh' st' sb=>?_
  have I1:zG X pins σ H { s with heap:=h' }:=I.turned (t':=s.toks) (λb o hb e=>(sb.2 b hb).trans e) f0 f1 f3 f4 f5
  obtain ⟨o,e,c,d⟩:=id st'
  exact ⟨u,rfl,gx (s:={ s with heap:=h' }) e c d (by decide) ⟨x,H,I1,ru,⟨rfl,λys hy=>by rw [I.tuple_inj hy hq]; exact hx⟩,st',λb hb=>(hf b hb).1⟩⟩
 done:=by
  intro X hP hw hK hc i pins s σ H E I hf st hg
  subst hP hw hK
  obtain ⟨xs,hq,hx⟩:=hg
  obtain ⟨its,rv,p,hz⟩:=I.tuple hq
  obtain ⟨f0,f1,f2,f3,f4,f5⟩:=hf it (by simp)
  have hl:=rv.length
  exact wpAny_pyNext_tuple_end (I.ok.hd hc) st (show s.heap.IsTuple a its.toArray from p) (by simp; omega) λh' eb=>⟨rfl,I.turned (t':=s.toks) (λb o hb e=>eb b o hb e) f0 f1 f3 f4 f5⟩
 self:=λ_ _ _ _ _ st h=>wpAny_pyIter_tupleiter st h
theorem UZ {P:Program} {w:World} {K:PySem.W.Frag} {tg:Expr} (it:Addr) (lo:Int) (n:Nat):wW P w K tg (uv lo n) [it] it (λi h=>IsRangeIter h it (lo + (i:Nat) * 1) ((n:Int) - (i:Nat)) 1) where
 mem:=by simp
 obj:=λi h st b hb=>by
  have e:b=it:=by simpa using hb
  subst e
  exact ⟨_,st,λv z=>by
   have z':Data.fields _=Data.cell v:=z
   cases z'⟩
 keep:=λi h h' st k=>k it (by simp) _ st
 item:=by
  intro X hP hw hK hc i pins s σ H E I hf st hg
  subst hP hw hK
  obtain ⟨f0,f1,f2,f3,f4,f5⟩:=hf it (by simp)
  have W:=Walks.range (prog:=X.prog) (w:=X.w) (I.ok.hd hc) it lo 1 n
  refine W.item i s _ _ hg st λv h' tk hv st' kk=>?_
  obtain ⟨t,rfl⟩:=hv
  have I1:zG X pins σ H { s with heap:=h',toks:=tk }:=I.turned (λb o hb e=>kk b o (by simpa using hb) e) f0 f1 f3 f4 f5
  refine ⟨_,rfl,gx (s:={ s with heap:=h',toks:=tk }) (n:="range_iterator") st' rfl rfl (by decide) ⟨.int (lo + i),H,I1,⟨t,?_⟩,⟨rfl,rfl⟩,st',λb hb=>(hf b hb).1⟩⟩
  rw [Int.mul_one]
 done:=by
  intro X hP hw hK hc i pins s σ H E I hf st hg
  subst hP hw hK
  obtain ⟨f0,f1,f2,f3,f4,f5⟩:=hf it (by simp)
  exact wpAny_pyNext_range_end (I.ok.hd hc) st (by have:n<=i:=hg; omega) λh' eb=>⟨rfl,I.turned (t':=s.toks) (λb o hb e=>eb b o hb e) f0 f1 f3 f4 f5⟩
 self:=λ_ _ _ _ _ st h=>wpAny_pyIter_rangeiter st h
end L2
namespace L2
open PySem PySem.Spec PyProof.Rows
section
variable {X:Cx} {tg:Expr}
noncomputable def qU (K:PySem.W.Frag) (tl:TE):TI:=λσ H R=>tl σ H λx H1=>∃ a,x=.ref a/\(∃ xs,zP K H1 a xs)/\R (uW K a) H1
noncomputable def ZV (K:PySem.W.Frag) (tl:TE):TI:=λσ H R=>tl σ H λx H1=>∃ a,x=.ref a/\(∃ xs,zn K H1 a xs)/\R (ZU K a) H1
theorem xB {l:Expr} {tl:TE} (hl:PE X l tl):PI X tg l (qU X.K tl):=by
 intro pins s σ H R I h
 refine zd (hl pins s σ H _ I h) λv s1 ⟨x,H1,I1,r1,q1⟩=>?_
 obtain ⟨a,e,⟨xs,hq⟩,q⟩:=q1
 subst e
 cases r1
 obtain ⟨its,rv,p,hz⟩:=I1.list hq
 refine wpAny_pyIter_list p.isList ?_
 refine ⟨s1.heap.objs.size,[s1.heap.objs.size],_,_,H1,rfl,I1.kept (t':=s1.toks) λb o e=>Heap.get?_push_of_some _ e,UX a _,⟨_,Heap.get?_push_size _ rfl,rfl,rfl⟩,λb hb=>?_,q⟩
 have e:b=s1.heap.objs.size:=by simpa using hb
 subst e
 exact I1.fpOk (Nat.le_refl _) (I1.hok.fresh (Nat.le_refl _))
theorem ZW {l:Expr} {tl:TE} (hl:PE X l tl):PI X tg l (ZV X.K tl):=by
 intro pins s σ H R I h
 refine zd (hl pins s σ H _ I h) λv s1 ⟨x,H1,I1,r1,q1⟩=>?_
 obtain ⟨a,e,⟨xs,hq⟩,q⟩:=q1
 subst e
 cases r1
 obtain ⟨its,rv,p,hz⟩:=I1.tuple hq
 refine wpAny_pyIter_tuple (show s1.heap.IsTuple a its.toArray from p) ?_
 refine ⟨s1.heap.objs.size,[s1.heap.objs.size],_,_,H1,rfl,I1.kept (t':=s1.toks) λb o e=>Heap.get?_push_of_some _ e,UY a _,⟨_,Heap.get?_push_size _ rfl,rfl,rfl⟩,λb hb=>?_,q⟩
 have e:b=s1.heap.objs.size:=by simpa using hb
 subst e
 exact I1.fpOk (Nat.le_refl _) (I1.hok.fresh (Nat.le_refl _))
theorem Ua {pins:List (Addr × Obj)} {σ:St} {H:Hp} {s:Shared} {R:It->Hp->Prop} {E:Value->Shared->Prop} {lo hi:Int} {t u v:Tok} {tk:Nat} (I:zG X pins σ H s) (h1 : -(2 ^ 62)<=lo) (h2:lo < 2 ^ 62) (h3 : -(2 ^ 62)<=hi) (h4:hi < 2 ^ 62)
  (q:R (uv lo (hi - lo).toNat) H):wpAny (model X.prog X.w) X.A (pyIter (.ref s.heap.objs.size)) (Xp X pins σ tg R) E { s with heap:=s.heap.push { cls:=.type "range",data:=.fields #[.int lo t,.int hi u,.int 1 v] },toks:=tk }:=by
 refine wpAny_pyIter_range (IsRange.new ..) (small_one h1 h2 h3 h4) ?_
 have I1:zG X pins σ H { s with heap:=s.heap.push { cls:=.type "range",data:=.fields #[.int lo t,.int hi u,.int 1 v] },toks:=tk }:=I.kept λb o e=>Heap.get?_push_of_some _ e
 refine ⟨(s.heap.push { cls:=.type "range",data:=.fields #[.int lo t,.int hi u,.int 1 v] }).objs.size,[(s.heap.push { cls:=.type "range",data:=.fields #[.int lo t,.int hi u,.int 1 v] }).objs.size],_,_,H,rfl,
  I1.kept (t':=tk) λb o e=>Heap.get?_push_of_some _ e,UZ _ lo (hi - lo).toNat,?_,λb hb=>?_,q⟩
 ·have e1:lo + ((0:Nat):Int) * 1=lo:=by simp
  have e2:(((hi - lo).toNat:Nat):Int) - ((0:Nat):Int)=Builtin.Range.rangeSize lo hi 1:=by rw [rangeSize_one]; split <;> omega
  show IsRangeIter _ _ (lo + ((0:Nat):Int) * 1) ((((hi - lo).toNat:Nat):Int) - ((0:Nat):Int)) 1
  rw [e1,e2]
  exact Heap.get?_push_size _ rfl
 ·have e:b=(s.heap.push { cls:=.type "range",data:=.fields #[.int lo t,.int hi u,.int 1 v] }).objs.size:=by simpa using hb
  subst e
  exact I1.fpOk (Nat.le_refl _) (I1.hok.fresh (Nat.le_refl _))
noncomputable def qV (ta:TA):TI:=λσ H R=>ta σ H λvs H1=>∃ j:Int,vs=[.int j]/\-(2 ^ 62)<=j/\j < 2 ^ 62/\R (uv 0 j.toNat) H1
theorem vg {a:Expr} {ta:TA} {p pos:Pos} (hg:Gl X "range") (hm:X.mg "range" = none) (ha:PA X [a] ta) (hs:starEach [a] X.env=[(false,eval a X.env)]:=by rfl):PI X tg (.Call (.Name "range" p) [a] [] pos) (qV ta):=by
 intro pins s σ H R I h
 refine Call_ (qN I hg hm boot_range (PyProof.Rows.callWith_type1 (zd (ha pos pins s σ H _ I h) λus s1 ⟨vs,H1,I1,r1,q1⟩=>?_) hs rfl))
 obtain ⟨j,e,q1,q2,q⟩:=q1
 subst e
 cases r1 with
 | cons r rr=>
  cases rr
  obtain ⟨t,rfl⟩:=r
  exact call_range_1 (Ua I1 (by omega) (by omega) q1 q2 (by simpa using q))
noncomputable def ZX (wi:TI) (g:TG) (tb:TS):TS:=λD σ H=>wi σ H λJ H1=>∃ W:Nat->Nat->St->Hp->Prop,(∃ m,W 0 m σ H1)/\∀ i m σ H,W i m σ H->
 (J.stop i H/\D.nx σ H)\/(J.go i H/\∃ N:St->Hp->Prop,(∀ σ' H',N σ' H'->∃ m',m' < m/\W (i + 1) m' σ' H')/\∀ x H',J.yld i H x H'->g x σ H' λσ2 H2=>tb { D with nx:=N,ct:=N,bk:=D.nx } σ2 H2)
noncomputable def uw (fp:List Addr) (h:Heap):List (Addr × Obj):=fp.filterMap λb=>(h.get? b).map λo=>(b,o)
theorem vi {fp:List Addr} {h:Heap} {b:Addr} {o:Obj} (hb:b∈fp) (e:h.get? b=some o):(b,o)∈uw fp h:=List.mem_filterMap.mpr ⟨b,hb,by rw [e]; rfl⟩
theorem Ub {fp:List Addr} {h:Heap} {p:Addr × Obj} (hp:p∈uw fp h):p.1∈fp/\h.get? p.1=some p.2:=by
 obtain ⟨b,hb,e⟩:=List.mem_filterMap.mp hp
 cases q:h.get? b with
 | none=>rw [q] at e; cases e
 | some o=>
  rw [q] at e
  have e':(b,o)=p:=Option.some.inj e
  subst e'
  exact ⟨hb,q⟩
theorem zG.pinned {pins:List (Addr × Obj)} {σ:St} {H:Hp} {s:Shared} {fp:List Addr} (I:zG X pins σ H s) (hf:∀ b∈fp,zq X pins H b) (ho:∀ b∈fp,∃ o,s.heap.get? b=some o/\∀ v,o.data≠.cell v):zG X (pins++uw fp s.heap) σ H s:=
 I.pins_of λp hp=>(List.mem_append.mp hp).elim (λz=>I.pin p (List.mem_append_right _ z)) λz=>by
  obtain ⟨hb,e⟩:=Ub z
  obtain ⟨f0,f1,f2,_⟩:=hf p.1 hb
  obtain ⟨o,e',d⟩:=ho p.1 hb
  rw [e] at e'; cases e'
  exact ⟨e,f0,f1,f2,d⟩
theorem zG.unpinned {pins pl:List (Addr × Obj)} {σ:St} {H:Hp} {s:Shared} (I:zG X (pins++pl) σ H s):zG X pins σ H s:=I.pins_of λp hp=>I.pin p (List.mem_append_right _ (List.mem_append_left _ hp))
theorem vj {iter:Expr} {body:List Stmt} {wi:TI} {g:TG} {tb:TS} {pos:Pos} (hp:PassesOwn (model X.prog X.w) X.A X.env X.xe) (hc:X.calm=true) (hi:PI X tg iter wi) (hg:PG X tg g) (hb:xz X body tb)
  (hs:∀ x,foldedSetIterable iter X.env x=pure x:=by intro _; rfl):PS X (.For tg iter body [] pos) (ZX wi g tb):=by
 intro pins s σ H D I h
 refine wpAny_For (zd (hi pins s σ H _ I h) λv s1 h1=>zd h1 λitv s2 h2=>?_) hs
 obtain ⟨it,fp,tn,J,H2,e,I2,T,st2,f2,W,⟨m0,w0⟩,turn⟩:=h2
 subst e
 have stat:∀ {H':Hp},(∀ b∈fp,H' b=none)->∀ b∈fp,zq X pins H' b:=λhn b hb=>⟨hn b hb,(f2 b hb).2⟩
 refine codeAny_forLoop_any (λn s'=>∃ i σ' H',zG X pins σ' H' s'/\tn i s'.heap/\(∀ b∈fp,H' b=none)/\W i n σ' H') ?_ m0 ⟨0,σ,H2,I2,st2,λb hb=>(f2 b hb).1,w0⟩
 rintro n s3 ⟨i,σ3,H3,I3,st3,fr3,w3⟩
 rcases turn i n σ3 H3 w3 with ⟨stop,qn⟩ | ⟨go,N,hN,step⟩
 ·refine wpAny_passesOwn hp (zd (T.done X rfl rfl rfl hc i pins s3 σ3 H3 X.xe I3 (stat fr3) st3 stop) λr s4 ⟨hr,I4⟩=>?_)
  subst hr
  exact wpAny_execs_nil ⟨σ3,H3,I4,qn⟩
 ·refine wpAny_passesOwn hp (zd (T.item X rfl rfl rfl hc i pins s3 σ3 H3 X.xe I3 (stat fr3) st3 go) λr s4 ⟨u,hr,h4⟩=>?_)
  subst hr
  refine wpAny_passesOwn hp (zd h4 λ_ s5 ⟨x,H5,I5,r5,y5,st5,fr5⟩=>?_)
  have I5':=I5.pinned (stat fr5) (T.obj _ _ st5)
  refine wpAny_passesOwn hp (zd (hg _ s5 σ3 H5 x u _ I5' r5 (step x H5 y5)) λ_ s6 ⟨σ6,H6,I6,q6⟩=>?_)
  refine wpAny_passesOwn hp (zd (hb _ s6 σ6 H6 _ I6 q6) λf s7 q7=>?_)
  have again:∀ {σ7:St} {H7:Hp},zG X (pins++uw fp s5.heap) σ7 H7 s7->N σ7 H7->∃ m,m < n/\∃ i σ' H',zG X pins σ' H' s7/\tn i s7.heap/\(∀ b∈fp,H' b=none)/\W i m σ' H':=λ{σ7 H7} I7 n7=>by
   obtain ⟨m',hm,w7⟩:=hN σ7 H7 n7
   refine ⟨m',hm,i + 1,σ7,H7,I7.unpinned,T.keep _ _ _ st5 λb hb o e=>(I7.pin (b,o) (List.mem_append_right _ (List.mem_append_right _ (vi hb e)))).1,λb hb=>?_,w7⟩
   obtain ⟨o,e,d⟩:=T.obj _ _ st5 b hb
   exact (I7.pin (b,o) (List.mem_append_right _ (List.mem_append_right _ (vi hb e)))).2.1
  cases f with
  | next=>obtain ⟨σ7,H7,I7,n7⟩:=q7; exact again I7 n7
  | cont=>obtain ⟨σ7,H7,I7,n7⟩:=q7; exact again I7 n7
  | brk=>obtain ⟨σ7,H7,I7,q7⟩:=q7; exact ⟨σ7,H7,I7.unpinned,q7⟩
  | ret v=>obtain ⟨x7,σ7,H7,I7,r7,q7⟩:=q7; exact ⟨x7,σ7,H7,I7.unpinned,r7,q7⟩
end
theorem jj {K:PySem.W.Frag} {a:Addr} {xs:List V} {g:TG} {tb:TS} {D:xU} {σ:St} {H:Hp} (Pv:Nat->St->Hp->Prop) (h0:Pv 0 σ H) (hl:∀ i σ H,i<=xs.length->Pv i σ H->zP K H a xs)
  (hs:∀ i x σ H,xs[i]? = some x->Pv i σ H->g x σ H λσ2 H2=>tb { D with nx:=Pv (i + 1),ct:=Pv (i + 1),bk:=D.nx } σ2 H2) (hd:∀ σ H,Pv xs.length σ H->D.nx σ H) :
  ∃ W:Nat->Nat->St->Hp->Prop,(∃ m,W 0 m σ H)/\∀ i m σ H,W i m σ H->
   ((uW K a).stop i H/\D.nx σ H)\/((uW K a).go i H/\∃ N:St->Hp->Prop,(∀ σ' H',N σ' H'->∃ m',m' < m/\W (i + 1) m' σ' H')/\∀ x H',(uW K a).yld i H x H'->g x σ H' λσ2 H2=>tb { D with nx:=N,ct:=N,bk:=D.nx } σ2 H2):=by
 refine ⟨λi m σ H=>m=xs.length - i/\i<=xs.length/\Pv i σ H,⟨xs.length,by simp,Nat.zero_le _,h0⟩,?_⟩
 rintro i m σ H ⟨rfl,hi,p⟩
 have q:=hl i σ H hi p
 by_cases hlt:i < xs.length
 ·refine .inr ⟨⟨xs,xs[i],q,by simp [hlt]⟩,Pv (i + 1),λσ' H' p'=>⟨xs.length - (i + 1),by omega,rfl,hlt,p'⟩,λx H' y=>?_⟩
  obtain ⟨e,y⟩:=y
  subst e
  exact hs i x σ _ (y xs q) p
 ·have e:i=xs.length:=by omega
  subst e
  exact .inl ⟨⟨xs,q,Nat.le_refl _⟩,hd σ H p⟩
theorem gy {lo:Int} {n:Nat} {g:TG} {tb:TS} {D:xU} {σ:St} {H:Hp} (Pv:Nat->St->Hp->Prop) (h0:Pv 0 σ H)
  (hs:∀ i σ H,i < n->Pv i σ H->g (.int (lo + i)) σ H λσ2 H2=>tb { D with nx:=Pv (i + 1),ct:=Pv (i + 1),bk:=D.nx } σ2 H2) (hd:∀ σ H,Pv n σ H->D.nx σ H) :
  ∃ W:Nat->Nat->St->Hp->Prop,(∃ m,W 0 m σ H)/\∀ i m σ H,W i m σ H->
   ((uv lo n).stop i H/\D.nx σ H)\/((uv lo n).go i H/\∃ N:St->Hp->Prop,(∀ σ' H',N σ' H'->∃ m',m' < m/\W (i + 1) m' σ' H')/\∀ x H',(uv lo n).yld i H x H'->g x σ H' λσ2 H2=>tb { D with nx:=N,ct:=N,bk:=D.nx } σ2 H2):=by
 refine ⟨λi m σ H=>m=n - i/\i<=n/\Pv i σ H,⟨n,by simp,Nat.zero_le _,h0⟩,?_⟩
 rintro i m σ H ⟨rfl,hi,p⟩
 by_cases hlt:i < n
 ·refine .inr ⟨hlt,Pv (i + 1),λσ' H' p'=>⟨n - (i + 1),by omega,rfl,hlt,p'⟩,λx H' y=>?_⟩
  obtain ⟨e,y⟩:=y
  subst e y
  exact hs i σ _ hlt p
 ·have e:i=n:=by omega
  subst e
  exact .inl ⟨Nat.le_refl _,hd σ H p⟩
end L2
namespace L2
open PySem PySem.Spec PyProof.Rows
noncomputable abbrev R2:=V->V->Hp->VK->Prop
noncomputable def yi (X:Cx) (f:Value->Value->Sem Value) (r:R2):Prop:=
 ∀ (pins:List (Addr × Obj)) (s:Shared) (σ:St) (H:Hp) (x y:V) (v u:Value) (Q:VK),zG X pins σ H s->zV x v->zV y u->r x y H Q->
  wpAny (model X.prog X.w) X.A (f v u) (EP X pins σ Q) X.xe s
noncomputable def ZY (X:Cx) (f:Value->Sem Value) (r:V->Hp->VK->Prop):Prop:=
 ∀ (pins:List (Addr × Obj)) (s:Shared) (σ:St) (H:Hp) (x:V) (v:Value) (Q:VK),zG X pins σ H s->zV x v->r x H Q->
  wpAny (model X.prog X.w) X.A (f v) (EP X pins σ Q) X.xe s
noncomputable def yW (X:Cx) (f:Value) (r:List V->Hp->VK->Prop):Prop:=
 ∀ (pins:List (Addr × Obj)) (s:Shared) (σ:St) (H:Hp) (xs:List V) (us:List Value) (Q:VK),zG X pins σ H s->zO xs us->r xs H Q->
  wpAny (model X.prog X.w) X.A (call f us) (EP X pins σ Q) X.xe s
noncomputable def gz (r:R2) (ta tb:TE):TE:=λσ H Q=>ta σ H λx H1=>tb σ H1 λy H2=>r x y H2 Q
noncomputable def Uc (r:V->Hp->VK->Prop) (ta:TE):TE:=λσ H Q=>ta σ H λx H1=>r x H1 Q
noncomputable def rI (C:Int->Int->Prop) (g:Int->Int->V):R2:=λx y H Q=>∃ i j,x=.int i/\y=.int j/\C i j/\Q (g i j) H
noncomputable def uC (g:Int->Int->V):R2:=λx y H Q=>∃ i j,x=.int i/\y=.int j/\Q (g i j) H
noncomputable def rU (g:Int->V):V->Hp->VK->Prop:=λx H Q=>∃ i,x=.int i/\Q (g i) H
section
variable {X:Cx} {a b c:Expr} {ta tb tc:TE} {pos:Pos}
theorem ux (ha:PE X a ta) (hb:PE X b tb) {pins:List (Addr × Obj)} {s:Shared} {σ:St} {H:Hp} {R:V->V->Hp->Prop} (I:zG X pins σ H s)
  (h:ta σ H λx H1=>tb σ H1 λy H2=>R x y H2) {Q:Value->Shared->Prop} {f:Value->Value->Sem Value}
  (hf:∀ v u s2 x y H2,zG X pins σ H2 s2->zV x v->zV y u->R x y H2->wpAny (model X.prog X.w) X.A (f v u) Q X.xe s2) :
  wpAny (model X.prog X.w) X.A (eval a X.env) (λv s₁=>wpAny (model X.prog X.w) X.A (eval b X.env) (λu s₂=>wpAny (model X.prog X.w) X.A (f v u) Q X.xe s₂) X.xe s₁) X.xe s:=by
 refine zd (ha pins s σ H _ I h) λv s1 ⟨x,H1,I1,r1,q1⟩=>?_
 refine zd (hb pins s1 σ H1 _ I1 q1) λu s2 ⟨y,H2,I2,r2,q2⟩=>?_
 exact hf v u s2 x y H2 I2 r1 r2 q2
theorem zR {op:Operator} {r:R2} (ho:yi X (binaryOp op) r) (ha:PE X a ta) (hb:PE X b tb):PE X (.BinOp a op b pos) (gz r ta tb):=by
 intro pins s σ H Q I h
 exact wpAny_BinOp (ux ha hb I h λv u s2 x y H2 I2 rx ry q=>ho pins s2 σ H2 x y v u Q I2 rx ry q)
theorem g6 {op:UnaryOp} {r:V->Hp->VK->Prop} (ho:ZY X (unaryOp op) r) (ha:PE X a ta):PE X (.UnaryOp op a pos) (Uc r ta):=by
 intro pins s σ H Q I h
 exact UnaryOp_ (zd (ha pins s σ H _ I h) λv s1 ⟨x,H1,I1,r1,q1⟩=>ho pins s1 σ H1 x v Q I1 r1 q1)
theorem g9 {f:Value->Value->Sem Value} {C:Int->Int->Prop} {g:Int->Int->Int}
  (rule:∀ (i j:Int) (t u:Tok) (s:Shared) (Q:Value->Shared->Prop) (E:Value->Shared->Prop),C i j->Q (.int (g i j) s.toks) { s with toks:=s.toks + 1 }->wpAny (model X.prog X.w) X.A (f (.int i t) (.int j u)) Q E s) :
  yi X f (rI C λi j=>.int (g i j)):=by
 intro pins s σ H x y v u Q I rx ry h
 obtain ⟨i,j,rfl,rfl,hc,q⟩:=h
 obtain ⟨t,rfl⟩:=rx
 obtain ⟨t',rfl⟩:=ry
 exact rule i j t t' s _ _ hc ⟨.int (g i j),H,I.tok _,⟨_,rfl⟩,q⟩
theorem qW {f:Value->Value->Sem Value} {g:Int->Int->Int}
  (rule:∀ (i j:Int) (t u:Tok) (s:Shared) (Q:Value->Shared->Prop) (E:Value->Shared->Prop),Q (.int (g i j) s.toks) { s with toks:=s.toks + 1 }->wpAny (model X.prog X.w) X.A (f (.int i t) (.int j u)) Q E s) :
  yi X f (uC λi j=>.int (g i j)):=by
 intro pins s σ H x y v u Q I rx ry h
 obtain ⟨i,j,rfl,rfl,q⟩:=h
 obtain ⟨t,rfl⟩:=rx
 obtain ⟨t',rfl⟩:=ry
 exact rule i j t t' s _ _ ⟨.int (g i j),H,I.tok _,⟨_,rfl⟩,q⟩
theorem uD {f:Value->Value->Sem Value} {g:Int->Int->Bool}
  (rule:∀ (i j:Int) (t u:Tok) (s:Shared) (Q:Value->Shared->Prop) (E:Value->Shared->Prop),Q (.bool (g i j)) s->wpAny (model X.prog X.w) X.A (f (.int i t) (.int j u)) Q E s) :
  yi X f (uC λi j=>.bl (g i j)):=by
 intro pins s σ H x y v u Q I rx ry h
 obtain ⟨i,j,rfl,rfl,q⟩:=h
 obtain ⟨t,rfl⟩:=rx
 obtain ⟨t',rfl⟩:=ry
 exact rule i j t t' s _ _ ⟨.bl (g i j),H,I,rfl,q⟩
noncomputable def ZZ (i j:Int):Prop:=0<=j/\j<=1000000/\i.natAbs < 2 ^ 64
noncomputable def qX (i j:Int):Prop:=(-(2 ^ 64) < i/\i < 2 ^ 64)\/(-(2 ^ 64) < j/\j < 2 ^ 64)
theorem qX.ok {i j:Int} (h:qX i j):IntMulOk i j:=by
 rcases h with ⟨h1,h2⟩ | ⟨h1,h2⟩
 ·exact .of_left (intBits_le_64 h1 h2)
 ·exact .of_right (intBits_le_64 h1 h2)
theorem xi:yi X (binaryOp .Add) (uC λi j=>.int (i + j)):=qW λ_ _ _ _ _ _ _ q=>add_int q
theorem wj:yi X (binaryOp .Sub) (uC λi j=>.int (i - j)):=qW λ_ _ _ _ _ _ _ q=>sub_int q
theorem yx:yi X (binaryOp .Mod) (rI (λ_ j=>j≠0) λi j=>.int (i.fmod j)):=g9 λ_ _ _ _ _ _ _ hc q=>mod_int' hc q
theorem kA:yi X (binaryOp .Pow) (rI ZZ λi j=>.int (i ^ j.toNat)):=g9 λ_ _ _ _ _ _ _ hc q=>pow_int_small hc.1 hc.2.1 hc.2.2 q
theorem Ud {f:Value->Sem Value} {g:Int->Int}
  (rule:∀ (i:Int) (t:Tok) (s:Shared) (Q:Value->Shared->Prop) (E:Value->Shared->Prop),Q (.int (g i) s.toks) { s with toks:=s.toks + 1 }->wpAny (model X.prog X.w) X.A (f (.int i t)) Q E s) :
  ZY X f (rU λi=>.int (g i)):=by
 intro pins s σ H x v Q I rx h
 obtain ⟨i,rfl,q⟩:=h
 obtain ⟨t,rfl⟩:=rx
 exact rule i t s _ _ ⟨.int (g i),H,I.tok _,⟨_,rfl⟩,q⟩
theorem kB:ZY X (unaryOp .USub) (rU λi=>.int (-i)):=Ud λ_ _ _ _ _ q=>neg_int q
end
noncomputable def qY:V->V->Bool
 | .non,.non=>true | .non,.int _=>true | .int _,.non=>true | .non,.bl _=>true | .bl _,.non=>true | .non,.str _=>true | .str _,.non=>true
 | .int _,.int _=>true | .bl _,.bl _=>true | .str _,.str _=>true | .byt _,.byt _=>true
 | .int _,.str _=>true | .str _,.int _=>true | .bl _,.str _=>true | .str _,.bl _=>true
 | _,_=>false
noncomputable def Ue:R2:=λx y H Q=>qY x y=true/\Q (.bl (decide (x=y))) H
noncomputable def Uf:R2:=λx y H Q=>qY x y=true/\Q (.bl (!decide (x=y))) H
theorem Xq {i j:Int}:decide (V.int i=V.int j)=(i == j):=by
 rw [Bool.eq_iff_iff]
 simp
theorem Xr {i j:Bool}:decide (V.bl i=V.bl j)=(i == j):=by
 rw [Bool.eq_iff_iff]
 simp
theorem Xs {i j:Str}:decide (V.str i=V.str j)=(i == j):=by
 rw [Bool.eq_iff_iff]
 simp
theorem Xu {i j:Array UInt8}:decide (V.byt i=V.byt j)=(i.toList == j.toList):=by
 rw [Bool.eq_iff_iff]
 cases i
 cases j
 simp
section
variable {X:Cx} {a b c:Expr} {ta tb tc:TE} {pos:Pos}
theorem ym {pins:List (Addr × Obj)} {σ:St} {H:Hp} {s:Shared} {Q:VK} {k k':Bool} (I:zG X pins σ H s) (q:Q (.bl k) H) (e:k=k'):EP X pins σ Q (.bool k') s:=by
 subst e
 exact ⟨.bl k,H,I,rfl,q⟩
theorem wQ:yi X (compareOp .Eq) Ue:=by
 intro pins s σ H x y v u Q I rx ry h
 obtain ⟨hs,q⟩:=h
 cases x with
 | non=>
  cases rx
  cases y with
  | non=>cases ry; exact PySem.EqNone.eq_none_none (ym I q (by simp))
  | bl j=>cases ry; exact PySem.EqNone.eq_none_bool (ym I q (by simp))
  | int j=>obtain ⟨t',rfl⟩:=ry; exact PySem.EqNone.eq_none_int (ym I q (by simp))
  | str j=>obtain ⟨t',rfl⟩:=ry; exact PySem.EqNone.eq_none_str (ym I q (by simp))
  | _=>exact absurd (show false=true from hs) Bool.false_ne_true
 | bl i=>
  cases rx
  cases y with
  | non=>cases ry; exact PySem.EqNone.eq_bool_none (ym I q (by simp))
  | bl j=>cases ry; exact eq_bool (ym I q Xr)
  | str j=>obtain ⟨t',rfl⟩:=ry; exact PySem.EqMixed.eq_bool_str (ym I q (by simp))
  | _=>exact absurd (show false=true from hs) Bool.false_ne_true
 | int i=>
  obtain ⟨t,rfl⟩:=rx
  cases y with
  | non=>cases ry; exact PySem.EqNone.eq_int_none (ym I q (by simp))
  | int j=>obtain ⟨t',rfl⟩:=ry; exact eq_int (ym I q Xq)
  | str j=>obtain ⟨t',rfl⟩:=ry; exact PySem.EqMixed.eq_int_str (ym I q (by simp))
  | _=>exact absurd (show false=true from hs) Bool.false_ne_true
 | str i=>
  obtain ⟨t,rfl⟩:=rx
  cases y with
  | non=>cases ry; exact PySem.EqNone.eq_str_none (ym I q (by simp))
  | bl j=>cases ry; exact PySem.EqMixed.eq_str_bool (ym I q (by simp))
  | int j=>obtain ⟨t',rfl⟩:=ry; exact PySem.EqMixed.eq_str_int (ym I q (by simp))
  | str j=>obtain ⟨t',rfl⟩:=ry; exact eq_str (ym I q Xs)
  | _=>exact absurd (show false=true from hs) Bool.false_ne_true
 | byt i=>
  obtain ⟨t,rfl⟩:=rx
  cases y with
  | byt j=>obtain ⟨t',rfl⟩:=ry; exact PySem.W.eq_bytes (ym I q Xu)
  | _=>exact absurd (show false=true from hs) Bool.false_ne_true
 | _=>cases y <;> exact absurd (show false=true from hs) Bool.false_ne_true
theorem uy:yi X (compareOp .NotEq) Uf:=by
 intro pins s σ H x y v u Q I rx ry h
 obtain ⟨hs,q⟩:=h
 cases x with
 | non=>
  cases rx
  cases y with
  | non=>cases ry; exact PySem.EqNone.ne_none_none (ym I q (by simp))
  | bl j=>cases ry; exact PySem.EqNone.ne_none_bool (ym I q (by simp))
  | int j=>obtain ⟨t',rfl⟩:=ry; exact PySem.EqNone.ne_none_int (ym I q (by simp))
  | str j=>obtain ⟨t',rfl⟩:=ry; exact PySem.EqNone.ne_none_str (ym I q (by simp))
  | _=>exact absurd (show false=true from hs) Bool.false_ne_true
 | bl i=>
  cases rx
  cases y with
  | non=>cases ry; exact PySem.EqNone.ne_bool_none (ym I q (by simp))
  | bl j=>cases ry; exact ne_bool (ym I q (congrArg not Xr))
  | str j=>obtain ⟨t',rfl⟩:=ry; exact PySem.EqMixed.ne_bool_str (ym I q (by simp))
  | _=>exact absurd (show false=true from hs) Bool.false_ne_true
 | int i=>
  obtain ⟨t,rfl⟩:=rx
  cases y with
  | non=>cases ry; exact PySem.EqNone.ne_int_none (ym I q (by simp))
  | int j=>obtain ⟨t',rfl⟩:=ry; exact ne_int (ym I q (congrArg not Xq))
  | str j=>obtain ⟨t',rfl⟩:=ry; exact PySem.EqMixed.ne_int_str (ym I q (by simp))
  | _=>exact absurd (show false=true from hs) Bool.false_ne_true
 | str i=>
  obtain ⟨t,rfl⟩:=rx
  cases y with
  | non=>cases ry; exact PySem.EqNone.ne_str_none (ym I q (by simp))
  | bl j=>cases ry; exact PySem.EqMixed.ne_str_bool (ym I q (by simp))
  | int j=>obtain ⟨t',rfl⟩:=ry; exact PySem.EqMixed.ne_str_int (ym I q (by simp))
  | str j=>obtain ⟨t',rfl⟩:=ry; exact ne_str (ym I q (congrArg not Xs))
  | _=>exact absurd (show false=true from hs) Bool.false_ne_true
 | byt i=>
  obtain ⟨t,rfl⟩:=rx
  cases y with
  | byt j=>obtain ⟨t',rfl⟩:=ry; exact PySem.W.ne_bytes (ym I q (congrArg not Xu))
  | _=>exact absurd (show false=true from hs) Bool.false_ne_true
 | _=>cases y <;> exact absurd (show false=true from hs) Bool.false_ne_true
theorem Za:yi X (compareOp .Lt) (uC λi j=>.bl (decide (i < j))):=uD λ_ _ _ _ _ _ _ q=>lt_int q
theorem Xv:yi X (compareOp .LtE) (uC λi j=>.bl (decide (i<=j))):=uD λ_ _ _ _ _ _ _ q=>le_int q
theorem uz:yi X (compareOp .Gt) (uC λi j=>.bl (decide (j < i))):=uD λ_ _ _ _ _ _ _ q=>gt_int q
theorem Zb:yi X (compareOp .GtE) (uC λi j=>.bl (decide (j<=i))):=uD λ_ _ _ _ _ _ _ q=>ge_int q
theorem yS (b:Expr) {op:CmpOp} (h:op≠.In:=by decide) (h2:op≠.NotIn:=by decide):behindInMarks op b=false:=by
 have e1:(op == CmpOp.In)=false:=by cases op <;> first | rfl | exact absurd rfl h
 have e2:(op == CmpOp.NotIn)=false:=by cases op <;> first | rfl | exact absurd rfl h2
 cases b <;> simp [behindInMarks,e1,e2]
theorem uE {op:CmpOp} {r:R2} (ho:yi X (compareOp op) r) (ha:PE X a ta) (hb:PE X b tb) (hm:behindInMarks op b=false):PE X (.Compare a [op] [b] pos) (gz r ta tb):=by
 intro pins s σ H Q I h
 exact wpAny_Compare1 (ux ha hb I h λv u s2 x y H2 I2 rx ry q=>ho pins s2 σ H2 x y v u Q I2 rx ry q) hm
noncomputable def qZ (t:TE):TT:=λσ H Q=>t σ H λx H'=>∃ k,x=.bl k/\Q k H'
theorem yp {op:CmpOp} {r:R2} (ho:yi X (compareOp op) r) (ha:PE X a ta) (hb:PE X b tb) (hm:behindInMarks op b=false):PT X (.Compare a [op] [b] pos) (qZ (gz r ta tb)):=by
 intro pins s σ H Q I h
 refine wpAny_isTrue_Compare1 (zd (ha pins s σ H _ I h) λv s1 ⟨x,H1,I1,r1,q1⟩=>zd (hb pins s1 σ H1 _ I1 q1) λu s2 ⟨y,H2,I2,r2,q2⟩=>
  zd (ho pins s2 σ H2 x y v u _ I2 r1 r2 q2) λc s3 ⟨z,H3,I3,r3,k,e,q3⟩=>?_) hm
 subst e
 cases r3
 exact wpAny_truthy_bool ⟨H3,I3,q3⟩
theorem Zc:(sizeLine:Nat) < 2 ^ 63:=by rw [sizeLine_eq]; decide
theorem jl {x:V} {us:List Value} (r:zO [x] us):∃ u,us=[u]/\zV x u:=by
 cases r with
 | cons r1 r2=>cases r2; exact ⟨_,rfl,r1⟩
theorem qa {x y:V} {us:List Value} (r:zO [x,y] us):∃ u w',us=[u,w']/\zV x u/\zV y w':=by
 cases r with
 | cons r1 r2=>
  cases r2 with
  | cons r3 r4=>cases r4; exact ⟨_,_,rfl,r1,r3⟩
theorem Ug:yW X (.type "int") (λxs H Q=>(∃ i,xs=[.int i]/\Q (.int i) H)\/∃ k,xs=[.bl k]/\Q (.int (if k then 1 else 0)) H):=by
 intro pins s σ H xs us Q I r h
 rcases h with ⟨i,rfl,q⟩ | ⟨k,rfl,q⟩
 ·obtain ⟨u,rfl,t,rfl⟩:=jl r
  exact call_int_int ⟨.int i,H,I,⟨_,rfl⟩,q⟩
 ·obtain ⟨u,rfl,r1⟩:=jl r
  cases r1
  exact call_int_bool ⟨.int (if k then 1 else 0),H,I.tok _,⟨_,rfl⟩,q⟩
end
end L2
namespace L2
open PySem PySem.Spec PyProof.Rows
structure wX (h:Heap) (x dx C:Addr) (mA:Str->Option Value):Prop where
 obj:h.get? x=some (PySem.W.instObj C dx)
 ns:h.Ns1 dx mA
 ne:dx≠x
theorem Uh {h:Heap} {dx:Addr} {mA:Str->Option Value} (n:h.Ns1 dx mA):∃ od,h.get? dx=some od/\∀ name,PySem.W.lookIn name od=some (mA name):=by
 obtain ⟨o,es,ep,ho,hd,hk,_,hm⟩:=n
 refine ⟨o,ho,λname=>?_⟩
 have e:=hm name
 unfold nsFind findBy at e
 rw [<- Array.find?_toList] at e
 unfold PySem.W.lookIn
 rw [hd]
 dsimp only
 split
 ·rename_i y q
  rw [q] at e
  exact congrArg some e
 ·rename_i q
  rw [q] at e
  have a:es.toList.any (·.refKey)=false:=by
   rw [List.any_eq_false]
   intro y hy
   obtain ⟨z,t,hkey⟩:=hk y (Array.mem_toList_iff.mp hy)
   simp [DictEntry.refKey,hkey]
  have a':¬ es.toList.any (·.refKey)=true:=by rw [a]; exact Bool.false_ne_true
  rw [if_neg a']
  exact congrArg some e
theorem wX.look {h:Heap} {x dx C:Addr} {mA:Str->Option Value} (I:wX h x dx C mA):∃ od,PySem.W.InstAt h x (PySem.W.instObj C dx) C (some od)/\∀ name,PySem.W.lookIn name od=some (mA name):=
 let ⟨od,ho,hl⟩:=Uh I.ns
 ⟨od,⟨I.obj,rfl,rfl,ho⟩,hl⟩
section
variable {prog:Program} {w:World} {A:Around} {E:Value->Shared->Prop} {s:Shared} {K:PySem.W.Frag} {x dx C f:Addr} {mA:Str->Option Value} {name:Str} {v:Value}
theorem Ui {expr:Bool} {Q:Value->Shared->Prop} (X:K.In s.heap) (I:wX s.heap x dx C mA) (hg:PySem.W.plainGet K C name=true) (hh:PySem.W.hasDictIn K C=true)
  (ha:PySem.W.findIn K (.ref C) name=some none) (hv:mA name=some v) (hv':PySem.W.handedIn v=true) (h:Q v { s with toks:=s.toks + 1 }) :
  wpAny (model prog w) A (getAttr (.ref x) name expr) Q E s:=by
 obtain ⟨od,J,hl⟩:=I.look
 exact PySem.W.get_value X J (PySem.W.plainGet_of hg).1 (PySem.W.findObj_own hh ha rfl (by rw [hl,hv])) hv' h
theorem Uj {pl:Sem Bool} {Q:Value × List Value->Shared->Prop} (X:K.In s.heap) (I:wX s.heap x dx C mA) (hg:PySem.W.plainGet K C name=true)
  (hf:PySem.W.findIn K (.ref C) name=some (some (.ref f))) (ht:PySem.W.isFn K (.ref f)=true) (hv:mA name=none) (h:Q (.ref f,[.ref x]) s) :
  wpAny (model prog w) A (getMethod (.ref x) name pl) Q E s:=by
 obtain ⟨od,J,hl⟩:=I.look
 exact PySem.W.method_fn X J (PySem.W.plainGet_of hg).1 (PySem.W.plainGet_of hg).2 hf (beq_iff_eq.mp ht) (by show (PySem.W.lookIn name od).map (·.isSome)=some false; rw [hl,hv]; rfl) h
theorem Uk {ns:List Str} {Q:Unit->Shared->Prop} (X:K.In s.heap) (I:wX s.heap x dx C mA)
  (hs:PySem.W.findIn K (.ref C) "__setattr__" = some (some (.builtin "object.__setattr__"))) (hp:PySem.W.plainOver K C=true) (ht:PySem.W.takerIn K C name=some none) (hh:PySem.W.hasDictIn K C=true)
  (hw:PySem.Within mA ns) (hsz:ns.length<=sizeLine)
  (h:∀ h',wX h' x dx C (λy=>if y=name then some v else mA y)->Heap.SameBut dx s.heap h'->Q () { s with heap:=h',toks:=s.toks + 2 }) :
  wpAny (model prog w) A (setAttr (.ref x) name v) Q E s:=by
 obtain ⟨od,J,hl⟩:=I.look
 refine PySem.W.set_plain X J hs (PySem.W.osa_open (s:={ s with toks:=s.toks + 1 }) (r:=none) X J hp ht λb=>?_)
 obtain ⟨cd,hc,hd'⟩:=PySem.W.any_some hh
 have hx:s.heap.get? x=some ⟨.ref C,some dx,.plain,#[]⟩:=I.obj
 refine wpAny_bind (wpAny_pure (wpAny_bind (wpAny_bind (wpAny_loadPart hx (wpAny_bind (PySem.W.Looks.here (s:={ s with toks:=s.toks + 1 }) (PySem.W.looks_clsIn X hc) ?_))))))
 rw [hd']
 refine wpAny_pure (a:=some dx) (wpAny_bind (wpAny_pure (wpAny_bind ?_)))
 refine wpAny_nsSet1 (s:={ s with toks:=s.toks + 1 }) I.ns λh' hn2 hs2=>?_
 obtain ⟨oD,esD,epD,hoD,hdD,hcD⟩:=hn2.count (PySem.Within.cons name v hw)
 refine wpAny_bind (wpAny_lookBehind hoD (by rw [hdD]; exact pastItsLine_dict (Nat.le_trans hcD (by rw [List.length_cons]; omega))) ?_)
 exact wpAny_pure (h _ ⟨(hs2.2 _ (Ne.symm I.ne)).trans I.obj,hn2,I.ne⟩ hs2)
theorem Ul {R:Result->Shared->Prop} {vs:List Value} {kw:List (Str × Value)} (X:K.In s.heap) (hm:PySem.W.makesIn K C=true)
  (hi:PySem.W.findIn K (.ref C) "__init__" = some (some (.ref f))) (hf:PySem.W.typeIn K (.ref f)=some (.type "function"))
  (h:codeAny (model prog w) (A.under (.builtin "type.__call__" ⟨.ref C :: vs,kw⟩)) (.call (.ref f) ⟨.ref (s.heap.objs.size + 1) :: vs,kw⟩) (PySem.W.InitBack (s.heap.objs.size + 1) R)
   { s with heap:=(s.heap.push PySem.W.emptyDict).push (PySem.W.instObj C s.heap.objs.size) }) :
  codeAny (model prog w) A (.call (.ref C) ⟨vs,kw⟩) R s:=by
 obtain ⟨hh,g,d,t,os⟩:=s
 exact PySem.W.make_core (PySem.W.makes_of X hm) (PySem.W.looks_findIn X hi) (λself=>PySem.W.bind_fn X self hf) (.inl rfl) h
end
noncomputable def zD (f:Str) (v:V):List (Str × V)->List (Str × V)
 | []=>[(f,v)]
 | (g,x) :: r=>if g=f then (g,v) :: r else (g,x) :: zD f v r
theorem Xw (f g:Str) (v:V):∀ fs:List (Str × V),(zD f v fs).lookup g=if g=f then some v else fs.lookup g
 | []=>by
  show List.lookup g [(f,v)]=_
  by_cases h:g=f
  ·have hb:(g == f)=true:=beq_iff_eq.mpr h
   simp only [List.lookup,hb,if_pos h]
  ·have hb:(g == f)=false:=beq_eq_false_iff_ne.mpr h
   simp only [List.lookup,hb,if_neg h]
 | (k,x) :: r=>by
  have ih:=Xw f g v r
  rw [show zD f v ((k,x) :: r)=(if k=f then (k,v) :: r else (k,x) :: zD f v r) from rfl]
  by_cases hk:k=f
  ·rw [if_pos hk]
   by_cases h:g=k
   ·have hb:(g == k)=true:=beq_iff_eq.mpr h
    simp only [List.lookup,hb,if_pos (h.trans hk)]
   ·have hb:(g == k)=false:=beq_eq_false_iff_ne.mpr h
    simp only [List.lookup,hb,if_neg (λe:g=f=>h (e.trans hk.symm))]
  ·rw [if_neg hk]
   by_cases h:g=k
   ·have hb:(g == k)=true:=beq_iff_eq.mpr h
    simp only [List.lookup,hb,if_neg (λe:g=f=>hk (h.symm.trans e))]
   ·have hb:(g == k)=false:=beq_eq_false_iff_ne.mpr h
    simp only [List.lookup,hb]
    exact ih
theorem Zd (f:Str) (v:V):∀ fs:List (Str × V),f∈(zD f v fs).map (·.1)/\∀ g,g∈fs.map (·.1)->g∈(zD f v fs).map (·.1)
 | []=>⟨by simp [zD],λg h=>by simp at h⟩
 | (k,x) :: r=>by
  obtain ⟨i1,i2⟩:=Zd f v r
  rw [show zD f v ((k,x) :: r)=(if k=f then (k,v) :: r else (k,x) :: zD f v r) from rfl]
  by_cases hk:k=f
  ·rw [if_pos hk]
   subst hk
   exact ⟨by simp,λg h=>by simpa using h⟩
  ·rw [if_neg hk]
   refine ⟨?_,λg h=>?_⟩
   ·rw [List.map_cons]
    exact List.mem_cons_of_mem _ i1
   ·rw [List.map_cons] at h |-
    rcases List.mem_cons.mp h with e | e
    ·exact List.mem_cons.mpr (.inl e)
    ·exact List.mem_cons_of_mem _ (i2 g e)
theorem Xx (f:Str) (v:V):∀ fs:List (Str × V),(zD f v fs).length<=fs.length + 1
 | []=>by simp [zD]
 | (k,x) :: r=>by
  have ih:=Xx f v r
  rw [show zD f v ((k,x) :: r)=(if k=f then (k,v) :: r else (k,x) :: zD f v r) from rfl]
  by_cases hk:k=f
  ·rw [if_pos hk,List.length_cons,List.length_cons]; omega
  ·rw [if_neg hk,List.length_cons,List.length_cons]; omega
theorem ye.some_of {v:V} {o:Option Value} (r:ye (some v) o):∃ u,o=some u/\zV v u:=by
 cases o with
 | none=>exact (show False from r).elim
 | some u=>exact ⟨u,rfl,r⟩
theorem ye.none_of {o:Option Value} (r:ye none o):o=none:=by
 cases o with
 | none=>rfl
 | some u=>exact (show False from r).elim
theorem Um {v:V} {u:Value} (r:zV v u):PySem.W.handedIn u=true:=by
 cases v with
 | non=>cases (show u=Value.none from r); rfl
 | bl b=>cases (show u=Value.bool b from r); rfl
 | int i=>obtain ⟨t,e⟩:=(show ∃ t,u=Value.int i t from r); cases e; rfl
 | str x=>obtain ⟨t,e⟩:=(show ∃ t,u=Value.str x t from r); cases e; rfl
 | byt b=>obtain ⟨t,e⟩:=(show ∃ t,u=Value.bytes b t from r); cases e; rfl
 | flt b=>obtain ⟨t,e⟩:=(show ∃ t,u=Value.float b t from r); cases e; rfl
 | ref a=>cases (show u=Value.ref a from r); rfl
 | ty n=>cases (show u=Value.type n from r); rfl
section
variable {P:Program} {w:World} {H H':Hp} {h h':Heap} {a C dx:Addr} {fs fs':List (Str × V)}
theorem kC (hok:ya P w H h) (e:H a=some (.ins C dx fs)):∃ mA,wX h a dx C mA/\(∀ f,ye (fs.lookup f) (mA f))/\PySem.Within mA (fs.map (·.1))/\fs.length<=1000/\H dx=some (.own a):=by
 obtain ⟨d,z,ne,ob,mA,n,r,q⟩:=(show yw P w H h a (.ins C dx fs) from hok a _ e)
 exact ⟨mA,⟨ob,n,ne⟩,r,q,z,d⟩
end
structure vk (K:PySem.W.Frag) (C:Addr):Prop where
 pg:PySem.W.plainGet K C Str.empty=true
 hd:PySem.W.hasDictIn K C=true
 po:PySem.W.plainOver K C=true
 sa:PySem.W.findIn K (.ref C) "__setattr__" = some (some (.builtin "object.__setattr__"))
theorem vk.get {K:PySem.W.Frag} {C:Addr} (c:vk K C) (f:Str):PySem.W.plainGet K C f=true:=c.pg
noncomputable def xL (K:PySem.W.Frag) (C:Addr) (f:Str):Prop:=PySem.W.findIn K (.ref C) f=some none
theorem xL.taker {K:PySem.W.Frag} {C:Addr} {f:Str} (n:xL K C f):PySem.W.takerIn K C f=some none:=by
 unfold PySem.W.takerIn
 rw [show PySem.W.findIn K (.ref C) f=some none from n]
 rfl
structure uF (K:PySem.W.Frag) (C:Addr) (m:Str) (f:Addr):Prop where
 at_:PySem.W.findIn K (.ref C) m=some (some (.ref f))
 fn:PySem.W.isFn K (.ref f)=true
 kp:PySem.W.keepIn K (.ref f)=true
section
variable {X:Cx} {pins:List (Addr × Obj)} {σ:St} {H:Hp} {s:Shared} {a C dx:Addr} {fs:List (Str × V)} {f:Str} {v:V} {A:Around} {E:Value->Shared->Prop}
theorem Uo {b:Bool} {Q:Value->Shared->Prop} (I:zG X pins σ H s) (e:H a=some (.ins C dx fs)) (c:vk X.K C) (n:xL X.K C f) (l:fs.lookup f=some v)
  (h:∀ u s',zG X pins σ H s'->zV v u->Q u s'):wpAny (model X.prog X.w) A (getAttr (.ref a) f b) Q E s:=by
 obtain ⟨mA,O,r,_,_,_⟩:=kC I.hok e
 obtain ⟨u,hu,ru⟩:=ye.some_of (v:=v) (o:=mA f) (by rw [<- l]; exact r f)
 exact Ui I.kIn O (c.get f) c.hd n hu (Um ru) (h u _ (I.tok _) ru)
theorem Up {m:Str} {g:Addr} {pl:Sem Bool} {Q:Value × List Value->Shared->Prop} (I:zG X pins σ H s) (e:H a=some (.ins C dx fs)) (c:vk X.K C) (k:uF X.K C m g) (l:fs.lookup m=none)
  (h:Q (.ref g,[.ref a]) s):wpAny (model X.prog X.w) A (getMethod (.ref a) m pl) Q E s:=by
 obtain ⟨mA,O,r,_,_,_⟩:=kC I.hok e
 have hn:mA m=none:=ye.none_of (by rw [<- l]; exact r m)
 exact Uj I.kIn O (c.get m) k.at_ k.fn hn h
theorem Uq {y:V} {u:Value} {Q:Unit->Shared->Prop} (I:zG X pins σ H s) (e:H a=some (.ins C dx fs)) (c:vk X.K C) (n:xL X.K C f) (hl:fs.length < 1000) (ry:zV y u)
  (h:∀ s',zG X pins σ (upd H a (.ins C dx (zD f y fs))) s'->Q () s'):wpAny (model X.prog X.w) A (setAttr (.ref a) f u) Q E s:=by
 obtain ⟨mA,O,r,wi,_,ho⟩:=kC I.hok e
 have hz:(fs.map (·.1)).length<=sizeLine:=by rw [List.length_map,sizeLine_eq]; omega
 refine Uk I.kIn O c.sa c.po n.taker c.hd wi hz λh' O' sb=>h _ ?_
 have hd:∃ o,h'.get? dx=some o:=let ⟨o,_,_,e',_⟩:=O'.ns; ⟨o,e'⟩
 refine I.write (x:=a) (e:=dx) (by rw [e]; exact True.intro) (.inr ho) (λb q hb z=>(sb.2 b hb).trans z) hd ?_
 refine ⟨by rw [zi O.ne]; exact ho,?_,O.ne,O'.obj,_,O'.ns,λg=>?_,λg hg=>?_⟩
 ·have:=Xx f y fs; omega
 ·show ye ((zD f y fs).lookup g) (if g=f then some u else mA g)
  rw [Xw]
  by_cases q:g=f
  ·rw [if_pos q,if_pos q]; exact ry
  ·rw [if_neg q,if_neg q]; exact r g
 ·by_cases q:g=f
  ·rw [q]; exact (Zd f y fs).1
  ·refine (Zd f y fs).2 g (wi g λz=>hg ?_)
   show (if g=f then some u else mA g)=none
   rw [if_neg q]; exact z
theorem zG.made (I:zG X pins σ H s):zG X pins σ (upd (upd H s.heap.objs.size (.own (s.heap.objs.size + 1))) (s.heap.objs.size + 1) (.ins C s.heap.objs.size []))
  { s with heap:=(s.heap.push PySem.W.emptyDict).push (PySem.W.instObj C s.heap.objs.size) }:=by
 have e1:(s.heap.push PySem.W.emptyDict).get? s.heap.objs.size=some PySem.W.emptyDict:=Heap.get?_push_size s.heap rfl
 have e2:((s.heap.push PySem.W.emptyDict).push (PySem.W.instObj C s.heap.objs.size)).get? (s.heap.objs.size + 1)=some (PySem.W.instObj C s.heap.objs.size):=by
  have:=Heap.get?_push_size (s.heap.push PySem.W.emptyDict) (o:=PySem.W.instObj C s.heap.objs.size) rfl
  rwa [Heap.size_push] at this
 have e3:(s.heap.push PySem.W.emptyDict).Ns s.heap.objs.size (λ_=>none):=⟨PySem.W.emptyDict,#[],_,e1,rfl,(λe he=>absurd he (by simp)),λ_=>rfl⟩
 have I1:=I.laid (a:=s.heap.objs.size) (o:=.own (s.heap.objs.size + 1)) (h':=s.heap.push PySem.W.emptyDict) (t':=s.toks) (λb u q=>Heap.get?_push_of_some _ q) (Nat.le_refl _) ⟨_,e1⟩
 refine I1.laid (a:=s.heap.objs.size + 1) (o:=.ins C s.heap.objs.size []) (t':=s.toks) (λb u q=>Heap.get?_push_of_some _ q) (Nat.le_of_eq (Heap.size_push _ _)) ?_
 have ne:s.heap.objs.size≠s.heap.objs.size + 1:=Nat.ne_of_lt (Nat.lt_succ_self _)
 refine ⟨by rw [zi ne,zH],Nat.zero_le _,ne,e2,λ_=>none,(Heap.Ns1.of_empty e3).at λo q=>Heap.get?_push_of_some _ q,λ_=>True.intro,λy hy=>absurd rfl hy⟩
theorem Ur {prog:Program} {w:World} {env:Env} {e:Expr} {f:Str} {pos:Pos} {s:Shared} {Q:Value->Shared->Prop} (hb:attributeBase e f env (eval e env)=eval e env)
  (h:wpAny (model prog w) A (eval e env) (λo s₁=>wpAny (model prog w) A (getAttr o f true) Q E s₁) E s):wpAny (model prog w) A (eval (.Attribute e f pos) env) Q E s:=
 Attribute_any_ h (by rw [arm_eval_Attribute,hb])
end
noncomputable def uG (K:PySem.W.Frag) (ta:TE) (f:Str):TE:=λσ H Q=>ta σ H λx H1=>∃ a C dx fs v,x=.ref a/\H1 a=some (.ins C dx fs)/\vk K C/\xL K C f/\fs.lookup f=some v/\Q v H1
noncomputable def Ze (K:PySem.W.Frag) (ta tv:TE) (f:Str):TS:=λD σ H=>tv σ H λy H1=>ta σ H1 λx H2=>∃ a C dx fs,x=.ref a/\H2 a=some (.ins C dx fs)/\vk K C/\xL K C f/\fs.length < 1000∧
 D.nx σ (upd H2 a (.ins C dx (zD f y fs)))
section
variable {X:Cx} {o e value:Expr} {f:Str} {pos pos' tpos:Pos} {ta tv:TE}
theorem ze (he:PE X e ta) (hb:attributeBase e f X.env (eval e X.env)=eval e X.env):PE X (.Attribute e f pos) (uG X.K ta f):=by
 intro pins s σ H Q I h
 refine Ur hb (zd (he pins s σ H _ I h) λu s1 ⟨x,H1,I1,rx,a,C,dx,fs,v,ex,ea,c,n,l,q⟩=>?_)
 subst ex
 obtain rfl:u=Value.ref a:=rx
 exact Uo I1 ea c n l λu' s2 I2 ru=>⟨v,H1,I2,ru,q⟩
theorem wC (ha:PE X o ta) (hv:PE X value tv) (hs:swapsWith value (some (.Attribute o f pos')) pos.line X.env=pure false):PS X (.Assign [.Attribute o f pos'] value pos) (Ze X.K ta tv f):=by
 intro pins s σ H D I h
 refine plainObj_wpAny_Assign_Attribute (zd (hv pins s σ H _ I h) λu s1 ⟨y,H1,I1,ry,q⟩=>zd (ha pins s1 σ H1 _ I1 q) λov s2 ⟨x,H2,I2,rx,a,C,dx,fs,ex,ea,c,n,l,q2⟩=>?_) hs
 subst ex
 obtain rfl:ov=Value.ref a:=rx
 exact Uq I2 ea c n l ry λs3 I3=>⟨σ,_,I3,q2⟩
end
section
variable {X:Cx} {pins:List (Addr × Obj)} {σ:St} {H:Hp} {s:Shared} {A:Around} {E:Value->Shared->Prop} {Q:Value->Shared->Prop} {c:Value} {b:Bool}
inductive yU (K:PySem.W.Frag) (H:Hp):V->Value->Prop where
 | non:yU K H .non (.type "NoneType")
 | bl (x:Bool):yU K H (.bl x) (.type "bool")
 | int (i:Int):yU K H (.int i) (.type "int")
 | str (x:Str):yU K H (.str x) (.type "str")
 | flt (x:UInt64):yU K H (.flt x) (.type "float")
 | lst {a:Addr} {xs:List V} (e:H a=some (.lst xs)):yU K H (.ref a) (.type "list")
 | frz {a:Addr} {o:Obj} {xs:List V} (e:H a=some (.frz o (.lst xs))):yU K H (.ref a) (.type "list")
 | tup {a:Addr} {xs:List V} (e:H a=some (.tup xs)):yU K H (.ref a) (.type "tuple")
 | dK {a:Addr} {kvs:List (yJ × V)} (e:H a=some (.dK kvs)):yU K H (.ref a) (.type "dict")
 | dT {a:Addr} {kvs:List (List yJ × V)} (e:H a=some (.dT kvs)):yU K H (.ref a) (.type "dict")
 | ins {a C dx:Addr} {fs:List (Str × V)} (e:H a=some (.ins C dx fs)) (cl:vk K C) (ha:PySem.W.findIn K (.ref C) "__class__" = some (some (.builtin "object.__class__")))
   (hn:PySem.W.specialIn K (.builtin "object.__class__") "__get__" = some (some (.builtin "getset_descriptor.__get__"))) (htk:PySem.W.takesIn K (.builtin "object.__class__")=some true)
   (hm:PySem.W.mroIn K C (.type "object")=some true):yU K H (.ref a) (.ref C)
theorem Xy {x:V} {u t:Value} (I:zG X pins σ H s) (rx:zV x u) (ty:yU X.K H x t) (e:PySem.W.kitOne X.K t c=some b) (h:∀ tk,Q (.bool b) { s with toks:=tk }) :
  wpAny (model X.prog X.w) A (call (.builtin "isinstance") [u,c]) Q E s:=by
 cases ty with
 | non=>cases (show u=Value.none from rx); exact PySem.W.kia_one PySem.W.kitx_none I.kIn True.intro e (λz=>nomatch z) h
 | bl y=>cases (show u=Value.bool y from rx); exact PySem.W.kia_one PySem.W.kitx_bool I.kIn True.intro e (λz=>nomatch z) h
 | int i=>obtain ⟨t,q⟩:=(show ∃ t,u=Value.int i t from rx); cases q; exact PySem.W.kia_one PySem.W.kitx_int I.kIn True.intro e (λz=>nomatch z) h
 | str y=>obtain ⟨t,q⟩:=(show ∃ t,u=Value.str y t from rx); cases q; exact PySem.W.kia_one PySem.W.kitx_str I.kIn True.intro e (λz=>nomatch z) h
 | flt y=>obtain ⟨t,q⟩:=(show ∃ t,u=Value.float y t from rx); cases q; exact PySem.W.kia_one PySem.W.kitx_float I.kIn True.intro e (λz=>nomatch z) h
 | @lst a xs ea=>
  cases (show u=Value.ref a from rx)
  obtain ⟨_,_,n,_,h1⟩:=(show yw X.prog X.w H s.heap a (.lst xs) from I.hok a _ ea)
  exact PySem.W.kia_one PySem.W.kitx_list I.kIn ⟨_,h1,rfl⟩ e (λz=>nomatch z) h
 | @frz a ob xs ea=>
  cases (show u=Value.ref a from rx)
  obtain ⟨_,_,_,n,_,h1⟩:=(show yw X.prog X.w H s.heap a (.frz ob (.lst xs)) from I.hok a _ ea)
  exact PySem.W.kia_one PySem.W.kitx_list I.kIn ⟨_,h1,rfl⟩ e (λz=>nomatch z) h
 | @tup a xs ea=>
  cases (show u=Value.ref a from rx)
  obtain ⟨_,_,_,p⟩:=(show yw X.prog X.w H s.heap a (.tup xs) from I.hok a _ ea)
  obtain ⟨o,h1,h2,_⟩:=p
  exact PySem.W.kia_one PySem.W.kitx_tuple I.kIn ⟨o,h1,h2⟩ e (λz=>nomatch z) h
 | @dK a kvs ea=>
  cases (show u=Value.ref a from rx)
  obtain ⟨_,_,vs,_,p⟩:=(show yw X.prog X.w H s.heap a (.dK kvs) from I.hok a _ ea)
  obtain ⟨o,es,ep,h1,h2,_⟩:=p
  exact PySem.W.kia_one PySem.W.kitx_dict I.kIn ⟨o,h1,h2.1⟩ e (λz=>nomatch z) h
 | @dT a kvs ea=>
  cases (show u=Value.ref a from rx)
  obtain ⟨_,_,xs,_,o,es,ep,h1,h2,_⟩:=(show yw X.prog X.w H s.heap a (.dT kvs) from I.hok a _ ea)
  exact PySem.W.kia_one PySem.W.kitx_dict I.kIn ⟨o,h1,h2.1⟩ e (λz=>nomatch z) h
 | @ins a C dx fs ea cl ha hn htk hm=>
  cases (show u=Value.ref a from rx)
  obtain ⟨mA,O,_⟩:=kC I.hok ea
  obtain ⟨od,J,_⟩:=O.look
  exact PySem.W.kia_one (PySem.W.kitx_own (cl.get _) cl.hd ha hn htk hm) I.kIn J e (λz=>nomatch z) h
end
end L2
namespace L2
open PySem PySem.Spec PyProof.Rows
structure zf (k:Nat) (A:Around):Prop where
 hd:A.handled=none
 dp:A.depth + 3 * k + 5 < recursionLimit
 un:A.units + 16 * k + 200 < cLine
theorem zf.mono {j k:Nat} {A:Around} (r:zf k A) (h:j<=k):zf j A:=⟨r.hd,by have:=r.dp; omega,by have:=r.un; omega⟩
theorem zf.deeper {k:Nat} {A:Around} (r:zf (k + 1) A) (env:Env):zf k (A.deeper env):=
 ⟨r.hd,by have:=r.dp; show A.depth + 1 + 3 * k + 5 < _; omega,by have:=r.un; show A.units + 3 + 16 * k + 200 < _; omega⟩
theorem zf.in1 {k:Nat} {A:Around} (r:zf (k + 1) A):zf k A.in1:=
 ⟨r.hd,by have:=r.dp; show A.depth + 3 * k + 5 < _; omega,by have:=r.un; show A.units + 1 + 16 * k + 200 < _; omega⟩
theorem Us {A:Around} {C:Addr} {us:List Value} {kw:List (Str × Value)}:(A.under (.builtin "type.__call__" ⟨.ref C :: us,kw⟩)).depth=A.depth + 1:=by
 first | rfl | simp [Around.under,Code.weight,Code.isCreation,Code.isGuard,Code.isCaller,Code.frames,Code.isFrame,guardIds]
theorem Ut {A:Around} {C:Addr} {us:List Value} {kw:List (Str × Value)}:(A.under (.builtin "type.__call__" ⟨.ref C :: us,kw⟩)).units=A.units + 1:=by
 first | rfl | simp [Around.under,Code.cUnits,Code.frames,Code.isFrame]
theorem zf.make {k:Nat} {A:Around} (r:zf (k + 1) A) (C:Addr) (us:List Value) (kw:List (Str × Value)):zf k (A.under (.builtin "type.__call__" ⟨.ref C :: us,kw⟩)):=
 ⟨r.hd,by have:=r.dp; rw [Us]; omega,by have:=r.un; rw [Ut]; omega⟩
theorem zf.depth {k:Nat} {A:Around} (r:zf k A):A.depth < recursionLimit:=by have:=r.dp; omega
theorem zf.units {k:Nat} {A:Around} (r:zf k A):A.units + 64 < cLine:=by have:=r.un; omega
noncomputable def u4:TA:=λ_ H Q=>Q [] H
noncomputable def qc (ta:TE) (tr:TA):TA:=λσ H Q=>ta σ H λx H1=>tr σ H1 λxs H2=>Q (x :: xs) H2
section
variable {X:Cx} {e:Expr} {es:List Expr} {te:TE} {t:TA} {pos:Pos}
theorem zE:PA X [] u4:=λ_ _ _ _ H Q I h=>Calls.spliced_nil ⟨[],H,I,.nil,h⟩
theorem zA (ha:PE X e te) (hr:PA X es t) (hs:starEach (e :: es) X.env=(false,eval e X.env) :: starEach es X.env:=by rfl):PA X (e :: es) (qc te t):=by
 intro pos pins s σ H Q I h
 rw [hs]
 show wpAny _ _ (spliced ((false,eval e X.env) :: backTo pos (starEach es X.env))) _ _ s
 refine Calls.spliced_cons (zd (ha pins s σ H _ I h) λu s1 ⟨x,H1,I1,r1,q1⟩=>?_)
 exact zd (hr pos pins s1 σ H1 _ I1 q1) λus s2 ⟨xs,H2,I2,r2,q2⟩=>⟨x :: xs,H2,I2,.cons r1 r2,q2⟩
noncomputable def Zf (t:TA):TE:=λσ H Q=>t σ H λxs H1=>xs.length<=sizeLine/\∀ p,H1 p=none->Q (.ref p) (upd H1 p (.tup xs))
noncomputable def Zg (t:TA):TE:=λσ H Q=>t σ H λxs H1=>xs.length<=sizeLine/\∀ p,H1 p=none->Q (.ref p) (upd H1 p (.lst xs))
theorem wY {x1} (h:PA X es t):PE X (.Tuple es x1 pos) (Zf t):=by
 intro pins s σ H Q I hq
 refine wpAny_Tuple_spliced (zd (h pos pins s σ H _ I hq) λus s1 ⟨xs,H1,I1,r,z,q⟩=>⟨by rw [<- r.length]; exact z,?_⟩)
 have hf:H1 s1.heap.objs.size=none:=I1.hok.fresh (Nat.le_refl _)
 refine ⟨.ref s1.heap.objs.size,upd H1 s1.heap.objs.size (.tup xs),I1.laid (t':=s1.toks) (λb u e=>Heap.get?_push_of_some _ e) (Nat.le_refl _) ?_,rfl,q _ hf⟩
 exact ⟨z,us,r,⟨_,Heap.get?_push_size _ rfl,rfl,_,rfl⟩⟩
theorem yD (h:PA X es t):PE X (.List es pos) (Zg t):=by
 intro pins s σ H Q I hq
 refine wpAny_List_spliced (zd (h pos pins s σ H _ I hq) λus s1 ⟨xs,H1,I1,r,z,q⟩=>⟨by rw [<- r.length]; exact z,?_⟩)
 have hf:H1 s1.heap.objs.size=none:=I1.hok.fresh (Nat.le_refl _)
 refine ⟨.ref s1.heap.objs.size,upd H1 s1.heap.objs.size (.lst xs),I1.laid (t':=s1.toks) (λb u e=>Heap.get?_push_of_some _ e) (Nat.le_refl _) ?_,rfl,q _ hf⟩
 exact ⟨z,us,0,r,Heap.get?_push_size _ rfl⟩
end
noncomputable abbrev Sp:=List V->Hp->VK->XK->Prop
noncomputable abbrev xX:=List Env->Hp->Shared->XK->Value->Shared->Prop
structure xC (P:Program) (w:World) (K:PySem.W.Frag) (mg:Str->Option Value) (base:Heap) (A:Around) (outer:List Env) (s:Shared) (H:Hp):Prop where
 frames:A.frames=some outer
 mod:Mod K mg base
 bs:∀ b o,base.get? b=some o->s.heap.get? b=some o/\H b=none
 bsz:base.objs.size<=s.heap.objs.size
 funs:s.heap.FunFrames base outer
 frf:∀ b∈yf outer,H b=none
 hok:ya P w H s.heap
 bare:AllBare s.gens
noncomputable def CE (outer:List Env) (P:Program) (w:World) (H:Hp) (s:Shared) (Q:VK) (u:Value) (s':Shared):Prop:=
 ∃ v H',s'.os=s.os/\AllBare s'.gens/\Un (yf outer) [] H H' s.heap s'.heap/\ya P w H' s'.heap/\zV v u/\Q v H'
noncomputable def CR (CX:xX) (outer:List Env) (P:Program) (w:World) (H:Hp) (s:Shared) (Q:VK) (E:XK) (r:Result) (s':Shared):Prop:=
 match r with
 | .ok (.ret u)=>CE outer P w H s Q u s'
 | .ok _=>False
 | .error e=>CX outer H s E e s'
structure zL (P:Program) (w:World) (K:PySem.W.Frag) (mg:Str->Option Value) (base:Heap) (CX:xX) (k:Nat) (f:Addr) (fd:FuncData) (ps:List Str) (sp:Sp):Prop where
 len:∀ vs H Q E,sp vs H Q E->vs.length=ps.length
 run:∀ (A:Around) (outer:List Env) (s:Shared) (H:Hp) (args:Args) (us:List Value) (vs:List V) (Q:VK) (E:XK),zf k A->xC P w K mg base A outer s H->BindsTo s fd args (ps.zip us)->zO vs us->sp vs H Q E->
  codeAny (model P w) A (.call (.ref f) args) (CR CX outer P w H s Q E) s
theorem zL.mono {P:Program} {w:World} {K:PySem.W.Frag} {mg:Str->Option Value} {base:Heap} {CX:xX} {j k:Nat} {f:Addr} {fd:FuncData} {ps:List Str} {sp:Sp} (F:zL P w K mg base CX j f fd ps sp) (h:j<=k) :
  zL P w K mg base CX k f fd ps sp:=⟨F.len,λA outer s H args us vs Q E hr=>F.run A outer s H args us vs Q E (hr.mono h)⟩
theorem zL.imp {P:Program} {w:World} {K:PySem.W.Frag} {mg:Str->Option Value} {base:Heap} {CX:xX} {k:Nat} {f:Addr} {fd:FuncData} {ps:List Str} {sp sp':Sp} (F:zL P w K mg base CX k f fd ps sp)
  (h:∀ vs H Q E,sp' vs H Q E->sp vs H Q E):zL P w K mg base CX k f fd ps sp':=
 ⟨λvs H Q E q=>F.len vs H Q E (h _ _ _ _ q),λA outer s H args us vs Q E hr he hb hv hs=>F.run A outer s H args us vs Q E hr he hb hv (h _ _ _ _ hs)⟩
theorem xC.make {P:Program} {w:World} {K:PySem.W.Frag} {mg:Str->Option Value} {base:Heap} {A:Around} {outer:List Env} {s:Shared} {H:Hp} (e:xC P w K mg base A outer s H) (C:Addr) (us:List Value) (kw:List (Str × Value)) :
  xC P w K mg base (A.under (.builtin "type.__call__" ⟨.ref C :: us,kw⟩)) outer s H:=⟨by first | exact e.frames | (simpa [Around.under,Code.envs,Code.isFrame,pushEnvs] using e.frames),e.mod,e.bs,e.bsz,e.funs,e.frf,e.hok,e.bare⟩
theorem xC.in1 {P:Program} {w:World} {K:PySem.W.Frag} {mg:Str->Option Value} {base:Heap} {A:Around} {outer:List Env} {s:Shared} {H:Hp} (e:xC P w K mg base A outer s H) :
  xC P w K mg base A.in1 outer s H:=⟨e.frames,e.mod,e.bs,e.bsz,e.funs,e.frf,e.hok,e.bare⟩
section
variable {X:Cx} {pins:List (Addr × Obj)} {σ:St} {H:Hp} {s s':Shared}
theorem zG.env0 (I:zG X pins σ H s):xC X.prog X.w X.K X.mg X.base X.A X.stack s H:=
 ⟨I.ok.frames,I.ok.mod,I.bs,Nat.le_trans I.ok.bsz I.sz,I.stack,I.stkFree,I.hok,I.bare⟩
theorem zG.after {Q:VK} {u:Value} (I:zG X pins σ H s) (h:CE X.stack X.prog X.w H s Q u s'):EP X pins σ Q u s':=by
 obtain ⟨v,H',os,bare,un,hok,r,q⟩:=h
 obtain ⟨hh,g,d,t,os'⟩:=s'
 obtain rfl:os'=s.os:=os
 exact ⟨v,H',I.call (h':=hh) (g':=g) (d':=d) (t':=t) (ch:=[]) un hok bare (λb z=>absurd z (by simp)),r,q⟩
end
noncomputable def u5 (sp:Sp) (dvs:List V) (E:XK) (t:TA):TE:=λσ H Q=>t σ H λvs H1=>sp (vs++dvs) H1 Q E
noncomputable def Xz (C:Addr) (m:Str) (sp:Sp) (dvs:List V) (E:XK) (ta:TE) (t:TA):TE:=λσ H Q=>ta σ H λx H1=>∃ a dx fs,x=.ref a/\H1 a=some (.ins C dx fs)/\fs.lookup m=none∧
 t σ H1 λvs H2=>sp (x :: (vs++dvs)) H2 Q E
noncomputable def Zh (C:Addr) (sp:Sp) (dvs:List V) (E:XK) (t:TA):TE:=λσ H Q=>t σ H λvs H1=>∀ x dx,H1 x=none->H1 dx=none->dx≠x->
 sp (.ref x :: (vs++dvs)) (upd (upd H1 dx (.own x)) x (.ins C dx [])) (λv H2=>v=.non/\Q (.ref x) H2) E
noncomputable def xN (K:PySem.W.Frag) (fd:FuncData) (ps:List Str) (ds:List Value):Prop:=
 ∀ (s:Shared) (us:List Value),K.In s.heap->(us++ds).length=ps.length->BindsTo s fd ⟨us,[]⟩ (ps.zip (us++ds))
theorem xN.all {K:PySem.W.Frag} {fd:FuncData} {ps:List Str} (h:∀ us:List Value,us.length=ps.length->bindArgs fd ⟨us,[]⟩=pure (ps.zip us)):xN K fd ps []:=λs us _ hl=>by
 rw [List.append_nil] at hl |-
 exact .of_eq (h us hl)
noncomputable def uH (CX:xX) (X:Cx) (E:XK):Prop:=∀ (pins:List (Addr × Obj)) (σ:St) (H:Hp) (s:Shared) (e:Value) (s':Shared),zG X pins σ H s->CX X.stack H s E e s'->X.xe e s'
section
variable {X:Cx} {CX:xX} {k:Nat} {f C:Addr} {fd:FuncData} {ps:List Str} {sp:Sp} {dvs:List V} {ds:List Value} {E:XK} {x m:Str} {p pos apos:Pos} {e o:Expr} {es:List Expr} {ta:TE} {t:TA}
theorem X0 {pins:List (Addr × Obj)} {σ:St} {H:Hp} {s:Shared} {Q:VK} {us:List Value} {vs:List V} (F:zL X.prog X.w X.K X.mg X.base CX k f fd ps sp) (hr:zf k X.A) (hb:xN X.K fd ps ds) (hd:zO dvs ds) (hx:uH CX X E)
  (I:zG X pins σ H s) (r:zO vs us) (h:sp (vs++dvs) H Q E):wpAny (model X.prog X.w) X.A (call (.ref f) us) (EP X pins σ Q) X.xe s:=by
 have r2:zO (vs++dvs) (us++ds):=r.append hd
 have hl:(us++ds).length=ps.length:=by rw [<- r2.length]; exact F.len _ _ _ _ h
 refine wpAny_call (codeAny_mono (F.run X.A X.stack s H ⟨us,[]⟩ (us++ds) (vs++dvs) Q E hr I.env0 (hb s us I.kIn hl) r2 h) λr s' hq=>?_)
 cases r with
 | error e=>exact hx pins σ H s e s' I hq
 | ok fl=>
  cases fl with
  | ret u=>exact I.after hq
  | next=>exact False.elim hq
  | brk=>exact False.elim hq
  | cont=>exact False.elim hq
theorem Zi (F:zL X.prog X.w X.K X.mg X.base CX k f fd ps sp) (hr:zf k X.A) (hg:Gl X x) (hm:X.mg x=some (.ref f)) (hk:PySem.W.keepIn X.K (.ref f)=true) (hb:xN X.K fd ps ds) (hd:zO dvs ds) (hx:uH CX X E)
  (ha:PA X (e :: es) t) (hdb:(x == ("__debug__" : Str))=false:=by decide) (he:starEach (e :: es) X.env=(false,eval e X.env) :: starEach es X.env:=by rfl) (hpl:(backTo pos (starEach es X.env)).any (·.1)=false:=by rfl) :
  PE X (.Call (.Name x p) (e :: es) [] pos) (u5 sp dvs E t):=by
 intro pins s σ H Q I h
 refine wpAny_Call_Name_kw (ur I hg hm ?_ hdb)
 refine PySem.W.callWith_K (h₀:=X.base) I.ok.mod.kin hk (zd (ha pos pins s σ H _ I h) λus s1 ⟨vs,H1,I1,r,q⟩=>⟨I1.kIn,?_⟩) he hpl
 exact X0 F hr hb hd hx I1 r q
theorem Uu {pl:Sem Bool} (he:PE X o ta) (c:vk X.K C) (hm:uF X.K C m f) (F:zL X.prog X.w X.K X.mg X.base CX k f fd ps sp) (hr:zf k X.A) (hb:xN X.K fd ps ds) (hd:zO dvs ds) (hx:uH CX X E)
  (ht:eval (.Call (.Attribute o m apos) [] [] pos) X.env=(do
   let ov <- eval o X.env
   standAt apos.atName
   let (f,first) <- holding [ov] (getMethod ov m pl)
   callWith pos f first (backTo pos (starEach [] X.env)) (backToKw pos (keywordEach [] X.env))):=by rfl) :
  PE X (.Call (.Attribute o m apos) [] [] pos) (Xz C m sp dvs E ta u4):=by
 intro pins s σ H Q I h
 refine PySem.W.methodCall_KW (pl:=pl) (zd (he pins s σ H _ I h) λu s1 ⟨x,H1,I1,rx,a,dx,fs,ex,ea,l,q⟩=>?_) ht
 subst ex
 obtain rfl:u=Value.ref a:=rx
 refine Up I1 ea c hm l ?_
 exact PySem.W.callWith_K0 (first:=[.ref a]) I1.kIn hm.kp (X0 (us:=[.ref a]) (vs:=[.ref a]) F hr hb hd hx I1 (.cons rfl .nil) q)
structure Mk (K:PySem.W.Frag) (C f:Addr):Prop where
 makes:PySem.W.makesIn K C=true
 init:PySem.W.findIn K (.ref C) "__init__" = some (some (.ref f))
 fn:PySem.W.isFn K (.ref f)=true
 kp:PySem.W.keepIn K (.ref C)=true
theorem Uv {pins:List (Addr × Obj)} {σ:St} {H:Hp} {s:Shared} {Q:VK} {us:List Value} {vs:List V} (M:Mk X.K C f) (F:zL X.prog X.w X.K X.mg X.base CX k f fd ps sp) (hr:zf (k + 1) X.A) (hb:xN X.K fd ps ds) (hd:zO dvs ds)
  (hx:uH CX X E) (I:zG X pins σ H s) (r:zO vs us)
  (h:∀ x dx,H x=none->H dx=none->dx≠x->sp (.ref x :: (vs++dvs)) (upd (upd H dx (.own x)) x (.ins C dx [])) (λv H2=>v=.non/\Q (.ref x) H2) E) :
  wpAny (model X.prog X.w) X.A (call (.ref C) us) (EP X pins σ Q) X.xe s:=by
 have hq:=h (s.heap.objs.size + 1) s.heap.objs.size (I.hok.fresh (Nat.le_succ _)) (I.hok.fresh (Nat.le_refl _)) (Nat.ne_of_lt (Nat.lt_succ_self _))
 have I2:=zG.made (C:=C) I
 have r2:zO (V.ref (s.heap.objs.size + 1) :: (vs++dvs)) (Value.ref (s.heap.objs.size + 1) :: (us++ds)):=.cons rfl (r.append hd)
 have hl:(Value.ref (s.heap.objs.size + 1) :: us++ds).length=ps.length:=by
  have e:=r2.length
  rw [F.len _ _ _ _ hq] at e
  exact e.symm
 refine wpAny_call (Ul (f:=f) I.kIn M.makes M.init (beq_iff_eq.mp M.fn) (codeAny_mono (F.run _ X.stack _ _ ⟨Value.ref (s.heap.objs.size + 1) :: us,[]⟩ (Value.ref (s.heap.objs.size + 1) :: (us++ds)) _ _ E (hr.make C us [])
  (I2.env0.make C us []) (hb _ (Value.ref (s.heap.objs.size + 1) :: us) I2.kIn hl) r2 hq) λr s' hq'=>?_))
 cases r with
 | error e=>exact hx pins σ _ _ e s' I2 hq'
 | ok fl=>
  cases fl with
  | ret u=>
   obtain ⟨v,H',I3,rv,ev,q3⟩:=I2.after hq'
   subst ev
   exact ⟨rv,⟨V.ref (s.heap.objs.size + 1),H',I3,rfl,q3⟩⟩
  | next=>exact False.elim hq'
  | brk=>exact False.elim hq'
  | cont=>exact False.elim hq'
theorem X1 (M:Mk X.K C f) (F:zL X.prog X.w X.K X.mg X.base CX k f fd ps sp) (hr:zf (k + 1) X.A) (hg:Gl X x) (hm:X.mg x=some (.ref C)) (hb:xN X.K fd ps ds) (hd:zO dvs ds) (hx:uH CX X E)
  (ha:PA X (e :: es) t) (hdb:(x == ("__debug__" : Str))=false:=by decide) (he:starEach (e :: es) X.env=(false,eval e X.env) :: starEach es X.env:=by rfl) (hpl:(backTo pos (starEach es X.env)).any (·.1)=false:=by rfl) :
  PE X (.Call (.Name x p) (e :: es) [] pos) (Zh C sp dvs E t):=by
 intro pins s σ H Q I h
 refine wpAny_Call_Name_kw (ur I hg hm ?_ hdb)
 refine PySem.W.callWith_K (h₀:=X.base) I.ok.mod.kin M.kp (zd (ha pos pins s σ H _ I h) λus s1 ⟨vs,H1,I1,r,q⟩=>⟨I1.kIn,?_⟩) he hpl
 exact Uv M F hr hb hd hx I1 r q
end
noncomputable def PK (X:Cx) (kws:List Keyword) (t:TA):Prop:=
 ∀ (pos:Pos) (pins:List (Addr × Obj)) (s:Shared) (σ:St) (H:Hp) (Q:List V->Hp->Prop),zG X pins σ H s->t σ H Q->wpAny (model X.prog X.w) X.A (evalAll ((backToKw pos (keywordEach kws X.env)).map (·.2))) (AP X pins σ Q) X.xe s
section
variable {X:Cx} {CX:xX} {k:Nat} {f C:Addr} {fd:FuncData} {ps ks:List Str} {sp:Sp} {E:XK} {x m:Str} {p pos apos kpos:Pos} {e o:Expr} {es:List Expr} {kws:List Keyword} {te ta:TE} {t tk:TA} {nm:Option Str}
variable {g:List Value->List Value->List Value} {gV:List V->List V->List V}
end
structure zv (N P:List Str) (sc:Scope):Prop where
 kind:sc.kind=.function
 co:sc.isCoroutine=false
 gen:sc.isGenerator=false
 nd:N.Nodup
 pre:N.take P.length=P
 par:∀ x∈P,sc.names.lookup x=some .local\/sc.names.lookup x=some .cell
 nofree:∀ y∈sc.names,y.2≠.free
theorem zv.a {N P:List Str} {s:Scope} (a:s.kind=.function:=by rfl) (b:s.isCoroutine=false:=by rfl) (c:s.isGenerator=false:=by rfl) (d:N.Nodup:=by decide +kernel) (e:N.take P.length=P:=by rfl) (f:∀ x∈P,s.names.lookup x=some .local\/s.names.lookup x=some .cell:=by decide +kernel) (g:∀ y∈s.names,y.2≠.free:=by decide +kernel):zv N P s:=⟨a,b,c,d,e,f,g⟩
theorem X2 {kindOf:Str->Option NameKind} {x:Str}:∀ {binds:List (Str × Value)} {m:Str->Option Value},(∀ v,(x,v)∉binds)->bindL kindOf binds m x=m x
 | [],_,_=>rfl
 | (n,v) :: r,m,h=>by
  unfold bindL
  rw [X2 λw hw=>h w (List.mem_cons_of_mem _ hw)]
  split
  ·have:x≠n:=by rintro rfl; exact h v List.mem_cons_self
   simp [this]
  ·rfl
theorem X3 {kindOf:Str->Option NameKind} {x:Str}:∀ {binds:List (Str × Value)} {m:Str->Option Value},(∀ v,(x,v)∉binds)->bindC kindOf binds m x=m x
 | [],_,_=>rfl
 | (n,v) :: r,m,h=>by
  unfold bindC
  rw [X3 λw hw=>h w (List.mem_cons_of_mem _ hw)]
  split
  ·rfl
  ·have:x≠n:=by rintro rfl; exact h v List.mem_cons_self
   simp [this]
theorem Zj {kindOf:Str->Option NameKind} {x:Str} {v:Value}:∀ {P:List Str} {vs:List Value} {i:Nat} {m:Str->Option Value},P.Nodup->P[i]? = some x->vs[i]? = some v->kindOf x=some .local->
  bindL kindOf (P.zip vs) m x=some v
 | [],_,_,_,_,h,_,_=>by simp at h
 | _ :: _,[],_,_,_,_,h,_=>by simp at h
 | p :: P,w :: vs,0,m,nd,h1,h2,hk=>by
  simp at h1 h2; subst h1; subst h2
  show bindL kindOf ((p,w) :: P.zip vs) m p=_
  unfold bindL
  rw [X2 λv hv=>(List.nodup_cons.mp nd).1 (List.of_mem_zip hv).1,if_pos hk]
  simp
 | p :: P,w :: vs,i + 1,m,nd,h1,h2,hk=>by
  show bindL kindOf ((p,w) :: P.zip vs) m x=_
  unfold bindL
  exact Zj (i:=i) (List.nodup_cons.mp nd).2 (by simpa using h1) (by simpa using h2) hk
theorem Zk {kindOf:Str->Option NameKind} {x:Str} {v:Value}:∀ {P:List Str} {vs:List Value} {i:Nat} {m:Str->Option Value},P.Nodup->P[i]? = some x->vs[i]? = some v->kindOf x≠some .local->
  bindC kindOf (P.zip vs) m x=some v
 | [],_,_,_,_,h,_,_=>by simp at h
 | _ :: _,[],_,_,_,_,h,_=>by simp at h
 | p :: P,w :: vs,0,m,nd,h1,h2,hk=>by
  simp at h1 h2; subst h1; subst h2
  show bindC kindOf ((p,w) :: P.zip vs) m p=_
  unfold bindC
  rw [X3 λv hv=>(List.nodup_cons.mp nd).1 (List.of_mem_zip hv).1,if_neg hk]
  simp
 | p :: P,w :: vs,i + 1,m,nd,h1,h2,hk=>by
  show bindC kindOf ((p,w) :: P.zip vs) m x=_
  unfold bindC
  exact Zk (i:=i) (List.nodup_cons.mp nd).2 (by simpa using h1) (by simpa using h2) hk
noncomputable def xp (N:List Str) (vs:List V):St:=vs.map some++List.replicate (N.length - vs.length) none
noncomputable def zM (CX:xX) (P:Program) (w:World) (K:PySem.W.Frag) (mg:Str->Option Value) (base:Heap) (N:List Str) (qual:Str) (scope:Scope) (f:Addr) (cd:Value) (A:Around) (outer:List Env) (s:Shared) (H:Hp) (E:XK):Cx where
 prog:=P
 w:=w
 K:=K
 mg:=mg
 base:=base
 A:=A.deeper (envOfC qual scope s.heap.objs.size f cd)
 N:=N
 s₀:=s
 H₀:=H
 env:=envOfC qual scope s.heap.objs.size f cd
 outer:=outer
 stack:=envOfC qual scope s.heap.objs.size f cd :: outer
 ex:=[]
 calm:=true
 fn:=λ_=>true
 pn:=[]
 xe:=λe s'=>wpAny (model P w) (A.deeper (envOfC qual scope s.heap.objs.size f cd)) (leaving (envOfC qual scope s.heap.objs.size f cd) e) (λ_ s''=>CX outer H s E e s'') (λe' s''=>CX outer H s E e' s'') s'
theorem kD {sc:Scope} {n:Nat} {x:Str} (h:sc.names.lookup x=some .cell):∃ c,(cellsFrom n sc.names []).lookup x=some c:=by
 have q:=PySem.W.cellsFrom_some sc.names n [] (.inl h)
 exact Option.isSome_iff_exists.mp q
theorem Uw {CX:xX} {P:Program} {w:World} {K:PySem.W.Frag} {mg:Str->Option Value} {base:Heap} {N ps:List Str} {qual:Str} {scope:Scope} {f:Addr} {cd:Value} {A:Around} {outer:List Env} {s s1:Shared} {H:Hp} {E:XK} {us:List Value} {vs:List V}
  (S:zv N ps scope) (hd:A.handled=none) (e0:xC P w K mg base A outer s H) (hl:vs.length=ps.length) (r:zO vs us)
  (x:InCallC s s.heap.objs.size (bindL (envOfC qual scope s.heap.objs.size f cd).kindOf (ps.zip us) λ_=>none) (cellsFrom (s.heap.objs.size + 1) scope.names []) (bindC (envOfC qual scope s.heap.objs.size f cd).kindOf (ps.zip us) λ_=>none) s1) :
  zG (zM CX P w K mg base N qual scope f cd A outer s H E) [] (xp N vs) H s1:=by
 have hpl:ps.length<=N.length:=by have:=congrArg List.length S.pre; rw [List.length_take] at this; omega
 obtain ⟨h1,tk,rfl,hk⟩:=x.done
 have noA:∀ b:Addr,b∉(zM CX P w K mg base N qual scope f cd A outer s H E).ex:=λb z=>absurd (show b∈([]:List Addr) from z) (by simp)
 refine ⟨⟨e0.mod,S.kind,rfl,rfl,Nat.le_refl _,λy z c h1 h2=>?_,λy hy=>?_,λy c _ h=>?_,λ_=>hd,Around.frames_deeper e0.frames,.inr ⟨rfl,rfl⟩,λb z=>absurd z (noA b),e0.bs,e0.bsz,λb _ _=>noA b,λb z=>absurd z (noA b),e0.funs,e0.frf⟩,
  rfl,e0.bare,Un.kept hk,⟨_,x.toInCall.ns,λi y v h1 h2 h3=>?_⟩,λy c h=>⟨_,x.cell y c h⟩,e0.hok.fresh (Nat.le_refl _),λy c h=>?_,λp hp=>absurd (show p∈([]:List (Addr × Obj)) from hp) (by simp),e0.hok.kept hk,?_⟩
 ·exact name_of_addr x.apart (PySem.mem_of_lookup h1) (PySem.mem_of_lookup h2)
 ·have hy:scope.names.lookup y=some .cell\/scope.names.lookup y=some .free:=hy
  rcases hy with hy | hy
  ·exact kD hy
  ·exact absurd rfl (S.nofree _ (PySem.mem_of_lookup hy))
 ·exact Nat.le_of_lt (x.above y c (PySem.mem_of_lookup h))
 ·have hi:i < vs.length:=by
   unfold xp at h2
   by_cases hi:i < vs.length
   ·exact hi
   ·rw [List.getElem?_append_right (by simpa using hi)] at h2
    rw [List.getElem?_replicate] at h2
    split at h2 <;> cases h2
  have ha:vs[i]? = some v:=by
   unfold xp at h2
   rw [List.getElem?_append_left (by simpa using hi),List.getElem?_map] at h2
   cases e:vs[i]? with
   | none=>rw [e] at h2; cases h2
   | some a=>rw [e] at h2; cases h2; rfl
  obtain ⟨u,hu,rv⟩:=r.get ha
  have hp:ps[i]? = some y:=by
   rw [<- S.pre,List.getElem?_take_of_lt (by omega)]; exact h1
  have ndP:ps.Nodup:=by rw [<- S.pre]; exact S.nd.sublist (List.take_sublist _ _)
  refine ⟨u,rv,?_⟩
  rcases S.par y (List.mem_of_getElem? hp) with k | k
  ·exact .inl ⟨k,Zj ndP hp hu k⟩
  ·obtain ⟨c,e⟩:=kD (n:=s.heap.objs.size + 1) k
   refine .inr ⟨.inl k,c,e,?_⟩
   have q:=x.cell y c e
   rw [Zk ndP hp hu (by show scope.names.lookup y≠_; rw [k]; decide)] at q
   exact q
 ·exact e0.hok.fresh (Nat.le_of_lt (x.above y c (PySem.mem_of_lookup h)))
 ·unfold xp
  show _=N.length
  rw [List.length_append,List.length_map,List.length_replicate]
  omega
theorem kE {CX:xX} {P:Program} {w:World} {K:PySem.W.Frag} {mg:Str->Option Value} {base:Heap} {k:Nat} {f:Addr} {name qual:Str} {params:Arguments} {body:List Stmt} {scope:Scope} {dV kV doc pm cdv ct oc:Value} {an od:Option Addr}
  {osl:Array (Option Value)} {N ps:List Str} {sp:Sp} (lk:K.lookup f=some ⟨oc,od,.func (PySem.W.fnOf name qual params body scope dV kV doc pm an cdv ct),osl⟩) (hcd:PySem.W.codeIn K cdv qual=true) (S:zv N ps scope)
  (len:∀ vs H Q E,sp vs H Q E->vs.length=ps.length)
  (hbody:∀ (A:Around) (outer:List Env) (s:Shared) (H:Hp) (vs:List V) (Q:VK) (E:XK),zf k (A.deeper (envOfC qual scope s.heap.objs.size f cdv))->sp vs H Q E->
   ∃ t,xz (zM CX P w K mg base N qual scope f cdv A outer s H E) body t/\t { nx:=λ_ H'=>Q .non H',rt:=Q } (xp N vs) H) :
  zL P w K mg base CX (k + 1) f (PySem.W.fnOf name qual params body scope dV kV doc pm an cdv ct) ps sp:=by
 refine ⟨len,λA outer s H args us vs Q E hr e0 hb r hsp=>?_⟩
 have hl:=len _ _ _ _ hsp
 have KX:K.In s.heap:=e0.mod.kin.keeps λb o e=>(e0.bs b o e).1
 have lim:s.heap.NoLimit:=e0.mod.nolimit.keeps λb o e=>(e0.bs b o e).1
 have hkind:∀ y∈ps.zip us,scope.names.lookup y.1=some .local\/(scope.names.lookup y.1=some .cell/\((cellsFrom (s.heap.objs.size + 1) scope.names []).lookup y.1).isSome=true):=λ⟨n,v⟩ hy=>by
  rcases S.par n (List.of_mem_zip hy).1 with q | q
  ·exact .inl q
  ·exact .inr ⟨q,PySem.W.cellsFrom_some _ _ _ (.inl q)⟩
 refine codeAny_call_function hr.depth (KX _ _ lk) rfl S.co S.gen rfl (PySem.W.codeRec_of KX hcd) (hb _ _ _ _ ?_)
 refine wpAny_newFunctionEnv_cells S.kind hkind λenv he s1 x=>?_
 subst he
 refine ⟨lim.keeps x.toInCall.keep,codeAny_func ?_⟩
 obtain ⟨t,ht,hq⟩:=hbody A outer s H vs Q E (hr.deeper _) hsp
 have I:zG (zM CX P w K mg base N qual scope f cdv A outer s H E) [] (xp N vs) H s1:=Uw S hr.hd e0 hl r x
 refine wpAny_mono (ht [] s1 (xp N vs) H _ I hq) (λfl s' hs=>?_) λe s' hs=>hs
 have fin:∀ {σ':St} {H':Hp} {v:V} {u:Value},zG (zM CX P w K mg base N qual scope f cdv A outer s H E) [] σ' H' s'->zV v u->Q v H'->CE outer P w H s Q u s':=
  λ{σ' H' v u} J rv q=>⟨v,H',J.os,J.bare,J.base,J.hok,rv,q⟩
 cases fl with
 | ret u=>
  obtain ⟨v,σ',H',J,rv,q⟩:=hs
  exact fin J rv q
 | next=>
  obtain ⟨σ',H',J,q⟩:=hs
  exact fin (v:=V.non) (u:=Value.none) J rfl q
 | brk=>
  obtain ⟨_,_,_,q⟩:=hs
  exact False.elim q
 | cont=>
  obtain ⟨_,_,_,q⟩:=hs
  exact False.elim q
end L2
namespace L2
open PySem PySem.Spec PyProof.Rows
section
variable {X:Cx} {x:Str} {p pos:Pos} {e:Expr} {es:List Expr} {t:TA} {id T:String} {r:List V->Hp->VK->Prop}
noncomputable def X4 (r:List V->Hp->VK->Prop) (t:TA):TE:=λσ H Q=>t σ H λvs H1=>r vs H1 Q
theorem yG (hc:yW X (.builtin id) r) (hg:Gl X x) (hm:X.mg x=none) (hv:bootBuiltins x=some (.builtin id)) (ha:PA X (e :: es) t) (hn:x≠"__name__":=by decide) (hdb:(x == ("__debug__" : Str))=false:=by decide)
  (he:starEach (e :: es) X.env=(false,eval e X.env) :: starEach es X.env:=by rfl) (hpl:(backTo pos (starEach es X.env)).any (·.1)=false:=by rfl):PE X (.Call (.Name x p) (e :: es) [] pos) (X4 r t):=by
 intro pins s σ H Q I h
 refine wpAny_Call_Name_kw (qN I hg hm hv ?_ hn hdb)
 exact PyProof.Rows.callWith_builtin1 (zd (ha pos pins s σ H _ I h) λus s1 ⟨vs,H1,I1,r1,q1⟩=>hc pins s1 σ H1 vs us Q I1 r1 q1) he hpl
theorem vC (hc:yW X (.type T) r) (hg:Gl X x) (hm:X.mg x=none) (hv:bootBuiltins x=some (.type T)) (ha:PA X (e :: es) t) (hn:x≠"__name__":=by decide) (hdb:(x == ("__debug__" : Str))=false:=by decide)
  (he:starEach (e :: es) X.env=(false,eval e X.env) :: starEach es X.env:=by rfl) (hpl:(backTo pos (starEach es X.env)).any (·.1)=false:=by rfl):PE X (.Call (.Name x p) (e :: es) [] pos) (X4 r t):=by
 intro pins s σ H Q I h
 refine wpAny_Call_Name_kw (qN I hg hm hv ?_ hn hdb)
 exact PyProof.Rows.callWith_type1 (zd (ha pos pins s σ H _ I h) λus s1 ⟨vs,H1,I1,r1,q1⟩=>hc pins s1 σ H1 vs us Q I1 r1 q1) he hpl
end
end L2
namespace HT
open PySem PyProof.Rows
section
open PySem.SeqAt
open PySem.AutoSeq1 (wpAny_loadPart')
open PySem.MeetsSeq PySem.MeetsSeq2 PySem.MeetsSeq3
end
section
variable {prog:Program} {w:World} {A:Around} {E:Value->Shared->Prop} {s:Shared}
theorem cat_tup {t b:Addr} {vs ws:List Value} {Q:Value->Shared->Prop} (ht:IsTup s.heap t vs.toArray) (hb:IsTup s.heap b ws.toArray) (hv:vs≠[])
  (h1:ws=[]->Q (.ref t) s) (h2:ws≠[]->Q (.ref s.heap.objs.size) { s with heap:=s.heap.push { cls:=.type "tuple",data:=.seq (vs++ws).toArray } })
  (hsz:vs.length + ws.length<=sizeLine):wpAny (model prog w) A (binaryOp .Add (.ref t) (.ref b)) Q E s:=by
 obtain ⟨⟨cls,dd,data,sl⟩,ho,hc,n,hd⟩:=id ht
 obtain ⟨⟨cls2,dd2,data2,sl2⟩,ho2,hc2,n2,hd2⟩:=id hb
 simp only at hc hd hc2 hd2
 subst hc hd hc2 hd2
 have e:vs.toArray++ws.toArray=(vs++ws).toArray:=by simp
 by_cases hw:ws=[]
 ·exact concat_meets ⟨_,ho,rfl⟩ ⟨_,ho2,rfl⟩ noFill_tuple_add seq_tuple_add PySem.F.slot_tuple_add PySem.F.entry_tuple_add (PySem.F.args_tuple_add_2 _ _)
   (tuple_addW1 t b vs.toArray ws.toArray n n2 dd dd2 sl sl2 (by simpa using hv) (by simp [hw])) ⟨ho,ho2,h1 hw⟩
 ·refine concat_meets ⟨_,ho,rfl⟩ ⟨_,ho2,rfl⟩ noFill_tuple_add seq_tuple_add PySem.F.slot_tuple_add PySem.F.entry_tuple_add (PySem.F.args_tuple_add_2 _ _)
   (tuple_addW2 t b vs.toArray ws.toArray n n2 dd dd2 sl sl2 (by simpa using hv) (by simpa using hw) (by rw [List.size_toArray,List.size_toArray]; exact hsz)) ⟨ho,ho2,?_⟩
  rw [e]
  exact h2 hw
noncomputable def sIx (n d:Nat):Option Int->Nat
 | none=>d
 | some v=>if v < 0 then (v + (n:Int)).toNat else min v.toNat n
theorem sIx_none (n d:Nat):sIx n d none=d:=rfl
theorem sIx_nat (n d k:Nat):sIx n d (some (k:Int))=min k n:=by
 show (if (k:Int) < 0 then ((k:Int) + (n:Int)).toNat else min (k:Int).toNat n)=min k n
 rw [if_neg (by omega),Int.toNat_natCast]
theorem Ux (n d:Nat) (hd:d<=n) (o:Option Int):sIx n d o<=n:=by
 cases o with
 | none=>exact hd
 | some v=>
  show (if v < 0 then (v + (n:Int)).toNat else min v.toNat n)<=n
  by_cases hv:v < 0
  ·rw [if_pos hv]; omega
  ·rw [if_neg hv]; exact Nat.min_le_right _ _
theorem X5 (v:Int) (n d:Nat):(if v < 0 then max (v + (n:Int)) 0 else min v (n:Int))=((sIx n d (some v):Nat):Int):=by
 show (if v < 0 then max (v + (n:Int)) 0 else min v (n:Int))=(((if v < 0 then (v + (n:Int)).toNat else min v.toNat n):Nat):Int)
 by_cases hv:v < 0
 ·simp only [if_pos hv]; omega
 ·simp only [if_neg hv]; omega
theorem Uy (lo hi:Option Int) (n:Nat):Builtin.Slice.sliceAdjust lo hi 1 (n:Int)=(((sIx n 0 lo:Nat):Int),((sIx n n hi:Nat):Int)):=by
 have h1:¬ ((1:Int) < 0):=by omega
 unfold Builtin.Slice.sliceAdjust
 simp only [h1,if_false]
 refine Prod.ext ?_ ?_
 ·cases lo with
  | none=>rfl
  | some v=>exact X5 v n 0
 ·cases hi with
  | none=>rfl
  | some v=>exact X5 v n n
theorem Uz (i j:Nat):Builtin.Slice.slicePlaces (i:Int) (j:Int) 1=j - i:=by
 unfold Builtin.Slice.slicePlaces
 have h1:(1:Int) > 0:=by omega
 simp only [h1,if_true,Int.ediv_one]
 split <;> omega
theorem X6 {v:Value} {o:Option Int} {Q:Option Int->Shared->Prop} (p:IsPart v o) (h:Q o s):wpAny (model prog w) A (Builtin.Slice.slicePartIndex v) Q E s:=by
 cases p with
 | none=>exact slicePart_none h
 | int i t=>exact slicePart_int h
theorem X7 {sl:Addr} {vl vu:Value} {lo hi:Option Int} {n:Nat} {Q:Int × Int × Nat->Shared->Prop} (hs:s.heap.IsSliceOf sl vl vu .none) (pl:IsPart vl lo) (pu:IsPart vu hi)
  (h:Q (((sIx n 0 lo:Nat):Int),1,sIx n n hi - sIx n 0 lo) s):wpAny (model prog w) A (Builtin.Slice.sliceApplied (.ref sl) (pure (n:Int))) Q E s:=by
 obtain ⟨os,hos,hcs,hds⟩:=id hs
 unfold Builtin.Slice.sliceApplied Builtin.Slice.sliceFields
 refine wpAny_bind (wpAny_bind (wpAny_field hos hds (x:=vl) rfl (wpAny_bind (wpAny_field hos hds (x:=vu) rfl (wpAny_bind (wpAny_field hos hds (x:=.none) rfl (wpAny_pure ?_)))))))
 refine wpAny_bind (slicePart_none ?_)
 show wpAny _ _ (if ((1:Int) == 0)=true then _ else _) _ _ s
 rw [if_neg (by decide)]
 refine wpAny_bind (X6 pl (wpAny_bind (X6 pu (wpAny_bind (wpAny_pure ?_)))))
 show wpAny _ _ (match Builtin.Slice.sliceAdjust lo hi 1 (n:Int) with | (lo,hi)=>pure (lo,(1:Int),Builtin.Slice.slicePlaces lo hi 1)) _ _ s
 rw [Uy lo hi n]
 show wpAny _ _ (pure (((sIx n 0 lo:Nat):Int),(1:Int),Builtin.Slice.slicePlaces ((sIx n 0 lo:Nat):Int) ((sIx n n hi:Nat):Int) 1)) _ _ s
 rw [Uz]
 exact wpAny_pure h
theorem U0 (xs:Array Value) (i k:Nat):((List.range k).filterMap λ(m:Nat)=>xs[((i:Int) + (m:Int) * 1).toNat]?).toArray=((xs.toList.drop i).take k).toArray:=by
 have e:(λ(m:Nat)=>xs[((i:Int) + (m:Int) * 1).toNat]?)=λm=>xs[i + m]?:=by
  funext m
  have:((i:Int) + (m:Int) * 1).toNat=i + m:=by omega
  rw [this]
 rw [e]
 have:=pick_run xs i k
 rw [List.filterMap_map] at this
 have e2:((λx=>xs[x]?) ∘ λx=>i + x)=λm=>xs[i + m]?:=rfl
 rw [e2] at this
 rw [this]
theorem getItem_tuple_cut {t sl:Addr} {items:Array Value} {vl vu:Value} {lo hi:Option Int} {Q:Value->Shared->Prop} (ht:IsTup s.heap t items) (hs:s.heap.IsSliceOf sl vl vu .none) (pl:IsPart vl lo) (pu:IsPart vu hi)
  (hw:¬ (sIx items.size 0 lo=0/\sIx items.size items.size hi=items.size))
  (h:Q (.ref s.heap.objs.size) { s with heap:=s.heap.push { cls:=.type "tuple",data:=.seq ((items.toList.drop (sIx items.size 0 lo)).take (sIx items.size items.size hi - sIx items.size 0 lo)).toArray } })
  (hsz:items.size<=sizeLine):wpAny (model prog w) A (getItem (.ref t) (.ref sl)) Q E s:=by
 have htake:sizeOk (.seq ((items.toList.drop (sIx items.size 0 lo)).take (sIx items.size items.size hi - sIx items.size 0 lo)).toArray):=by
  show ((items.toList.drop (sIx items.size 0 lo)).take (sIx items.size items.size hi - sIx items.size 0 lo)).toArray.size<=sizeLine
  rw [List.size_toArray,List.length_take,List.length_drop,Array.length_toList]
  omega
 have hj:sIx items.size items.size hi<=items.size:=Ux _ _ (Nat.le_refl _) hi
 obtain ⟨os,hos,hcs,hds⟩:=id hs
 have hTs:s.TypeIs (.ref sl) "slice":=⟨os,hos,hcs⟩
 unfold getItem
 try with_reducible refine wpAny_holding ?_
 first | refine wpAny_bind (wpAny_pure ?_) | skip
 refine wpAny_bind (wpAny_sequenceKey ht.typeIs (by decide) ?_)
 refine wpAny_bind (wpAny_callSpecial?_slot (name:=Str.ofString "__getitem__") ht.typeIs PyProof.Rows.slot_tuple_getitem
  (wpAny_call_entry PyProof.Rows.slot_tuple_getitem ht.typeIs entry_tuple_getitem ?_ (args_tuple_getitem _ _)))
 show wpAny _ _ (Builtin.Tuple.tupleItemsOf (.ref t) >>= _) _ _ s
 refine wpAny_bind (tupleItemsOf_ ht ?_)
 refine wpAny_bind (wpAny_typeOf hTs ?_)
 rw [if_pos (by decide)]
 refine wpAny_bind (X7 hs pl pu ?_)
 have hno:¬ ((((sIx items.size 0 lo:Nat):Int) == 0 && (1:Int) == 1 && (sIx items.size items.size hi - sIx items.size 0 lo) == items.size)=true):=by
  intro q
  rw [Bool.and_eq_true,Bool.and_eq_true] at q
  have q1:((sIx items.size 0 lo:Nat):Int)=0:=eq_of_beq q.1.1
  have q2:sIx items.size items.size hi - sIx items.size 0 lo=items.size:=eq_of_beq q.2
  exact hw ⟨by omega,by omega⟩
 show wpAny _ _ (if (((sIx items.size 0 lo:Nat):Int) == 0 && (1:Int) == 1 && (sIx items.size items.size hi - sIx items.size 0 lo) == items.size)=true then _ else _) _ _ s
 rw [if_neg hno,U0]
 first
  | exact wpAny_bind (m:=Builtin.Tuple.tupleExact _) (wpAny_newObj_type (wpAny_pure ⟨_,rfl,wpAny_pure h⟩) htake)
  | exact wpAny_bind (m:=Builtin.Tuple.tupleExact _) (wpAny_newObj_type (wpAny_bind (wpAny_pure (wpAny_pure ⟨_,rfl,wpAny_pure h⟩))) htake)
  | exact wpAny_bind (wpAny_bind (m:=Builtin.Tuple.tupleExact _) (wpAny_newObj_type (wpAny_pure (wpAny_pure ⟨_,rfl,wpAny_pure h⟩)) htake))
  | exact wpAny_bind (wpAny_bind (m:=Builtin.Tuple.tupleExact _) (wpAny_newObj_type (wpAny_pure ⟨_,rfl,wpAny_pure h⟩) htake))
end
end HT
namespace L2
open PySem PySem.Spec PyProof.Rows
noncomputable abbrev TO:=St->Hp->(Option Int->Hp->Prop)->Prop
noncomputable def PO (X:Cx) (e:Option Expr) (t:TO):Prop:=
 ∀ (pins:List (Addr × Obj)) (s:Shared) (σ:St) (H:Hp) (Q:Option Int->Hp->Prop),zG X pins σ H s->t σ H Q->
  wpAny (model X.prog X.w) X.A (evalPart e X.env) (λu s'=>∃ o H',zG X pins σ H' s'/\IsPart u o/\Q o H') X.xe s
noncomputable def U6:TO:=λ_ H Q=>Q none H
noncomputable def qd (t:TE):TO:=λσ H Q=>t σ H λx H1=>∃ i,x=.int i/\Q (some i) H1
section
variable {X:Cx} {e:Expr} {te:TE} {lo hi:Option Expr} {tl th:TO} {pos p2:Pos}
theorem uX:PO X none U6:=by
 intro pins s σ H Q I h
 rw [evalPart_none]
 exact wpAny_pure ⟨none,H,I,.none,h⟩
theorem uY (h:PE X e te):PO X (some e) (qd te):=by
 intro pins s σ H Q I hw
 rw [evalPart_some]
 refine zd (h pins s σ H _ I hw) λu s1 ⟨x,H1,I1,r1,q1⟩=>?_
 obtain ⟨i,rfl,q⟩:=q1
 obtain ⟨t,rfl⟩:=r1
 exact ⟨some i,H1,I1,.int i t,q⟩
noncomputable def u6 (X:Cx) (r:V->Option Int->Option Int->Hp->VK->Prop):Prop:=
 ∀ (pins:List (Addr × Obj)) (s:Shared) (σ:St) (H:Hp) (x:V) (v vl vu:Value) (lo hi:Option Int) (sl:Addr) (Q:VK),zG X pins σ H s->zV x v->s.heap.IsSliceOf sl vl vu .none->IsPart vl lo->IsPart vu hi->r x lo hi H Q->
  ∃ T id,typeLookup (.type T) "__getitem__" = pure (some (.builtin id))/\s.TypeIs v T/\wpAny (model X.prog X.w) X.A (getItem v (.ref sl)) (EP X pins σ Q) X.xe s
noncomputable def U7 (r:V->Option Int->Option Int->Hp->VK->Prop) (te:TE) (tl th:TO):TE:=λσ H Q=>te σ H λx H1=>tl σ H1 λl H2=>th σ H2 λu H3=>r x l u H3 Q
theorem uZ {r:V->Option Int->Option Int->Hp->VK->Prop} (hr:u6 X r) (he:PE X e te) (hl:PO X lo tl) (hu:PO X hi th):PE X (.Subscript e (.Slice lo hi none p2) pos) (U7 r te tl th):=by
 intro pins s σ H Q I h
 refine Subscript_ (zd (he pins s σ H _ I h) λv s1 ⟨x,H1,I1,r1,q1⟩=>?_)
 refine wpAny_Slice (zd (hl pins s1 σ H1 _ I1 q1) λvl s2 ⟨l,H2,I2,pl,q2⟩=>zd (hu pins s2 σ H2 _ I2 q2) λvu s3 ⟨u,H3,I3,pu,q3⟩=>?_)
 rw [evalPart_none]
 refine wpAny_pure ?_
 have I4:zG X pins σ H3 { s3 with heap:=s3.heap.push { cls:=.type "slice",data:=.fields #[vl,vu,.none] } }:=I3.kept (t':=s3.toks) λb ob q=>Heap.get?_push_of_some _ q
 obtain ⟨T,id,hT,ht,hg⟩:=hr pins { s3 with heap:=s3.heap.push { cls:=.type "slice",data:=.fields #[vl,vu,.none] } } σ H3 x v vl vu l u s3.heap.objs.size Q I4 r1 (Heap.IsSliceOf.new ..) pl pu q3
 show wpAny (model X.prog X.w) X.A (subscriptTail e (.Slice lo hi none p2) v (.ref s3.heap.objs.size)) (EP X pins σ Q) X.xe { s3 with heap:=s3.heap.push { cls:=.type "slice",data:=.fields #[vl,vu,.none] } }
 exact tail_any (ops:=[.ref s3.heap.objs.size,v]) ht hT hg (by with_unfolding_all rfl)
noncomputable def yR (xs:List V) (lo hi:Option Int):List V:=(xs.drop (HT.sIx xs.length 0 lo)).take (HT.sIx xs.length xs.length hi - HT.sIx xs.length 0 lo)
theorem X8 (xs:List V) (lo hi:Option Int):(yR xs lo hi).length<=xs.length:=by
 unfold yR
 rw [List.length_take,List.length_drop]
 omega
noncomputable def Zl (K:PySem.W.Frag):V->Option Int->Option Int->Hp->VK->Prop:=λx lo hi H Q=>∃ a xs,x=.ref a/\zn K H a xs∧
 ¬ (HT.sIx xs.length 0 lo=0/\HT.sIx xs.length xs.length hi=xs.length)/\∀ p,H p=none->Q (.ref p) (upd H p (.tup (yR xs lo hi)))
theorem X9:u6 X (Zl X.K):=by
 intro pins s σ H x v vl vu lo hi sl Q I rx hs pl pu h
 obtain ⟨a,xs,rfl,hx,hw,q⟩:=h
 cases rx
 obtain ⟨its,r,ht,hz⟩:=I.tuple hx
 have hlen:its.toArray.size=xs.length:=by rw [List.size_toArray]; exact r.length.symm
 refine ⟨"tuple",_,PyProof.Rows.slot_tuple_getitem.lookup,ht.typeIs,?_⟩
 refine HT.getItem_tuple_cut ht hs pl pu (by rw [hlen]; exact hw) ?_ (by rw [hlen]; exact hz)
 rw [hlen]
 refine ⟨.ref s.heap.objs.size,_,I.laid (t':=s.toks) (o:=.tup (yR xs lo hi)) (λb ob q=>Heap.get?_push_of_some _ q) (Nat.le_refl _) ?_,rfl,q _ (I.hok.fresh (Nat.le_refl _))⟩
 exact ⟨Nat.le_trans (X8 xs lo hi) hz,_,(r.drop (HT.sIx xs.length 0 lo)).take (HT.sIx xs.length xs.length hi - HT.sIx xs.length 0 lo),IsTup.new _ _⟩
noncomputable def WA (K:PySem.W.Frag):R2:=λx y H Q=>∃ a b xs ys,x=.ref a/\y=.ref b/\zn K H a xs/\zn K H b ys/\xs≠[]/\xs.length + ys.length<=sizeLine∧
 (ys=[]->Q (.ref a) H)/\(ys≠[]->∀ p,H p=none->Q (.ref p) (upd H p (.tup (xs++ys))))
theorem zO.nil_iff {xs:List V} {us:List Value} (r:zO xs us):us=[] ↔ xs=[]:=by
 cases r with
 | nil=>simp
 | cons _ _=>simp
theorem Zm:yi X (binaryOp .Add) (WA X.K):=by
 intro pins s σ H x y v u Q I rx ry h
 obtain ⟨a,b,xs,ys,rfl,rfl,ha,hb,hx,hz,q1,q2⟩:=h
 cases rx
 cases ry
 obtain ⟨its,r1,p1,_⟩:=I.tuple ha
 obtain ⟨its2,r2,p2,_⟩:=I.tuple hb
 refine HT.cat_tup p1 p2 (λz=>hx (r1.nil_iff.mp z)) (λz=>⟨.ref a,H,I,rfl,q1 (r2.nil_iff.mp z)⟩) (λz=>?_) (by rw [<- r1.length,<- r2.length]; exact hz)
 refine ⟨.ref s.heap.objs.size,_,I.laid (t':=s.toks) (o:=.tup (xs++ys)) (λb ob q=>Heap.get?_push_of_some _ q) (Nat.le_refl _) ?_,rfl,q2 (λw=>z (r2.nil_iff.mpr w)) _ (I.hok.fresh (Nat.le_refl _))⟩
 exact ⟨by rw [List.length_append]; exact hz,_,r1.append r2,IsTup.new _ _⟩
end
end L2
namespace L2
open PySem PySem.Spec PyProof.Rows
noncomputable def ua (n:Nat) (i:Int):Option Nat:=if 0<=i then (if i < n then some i.toNat else none) else if -(n:Int)<=i then some (i + n).toNat else none
noncomputable def wJ {α:Type} (xs:List α) (i:Int):Option α:=(ua xs.length i).bind λj=>xs[j]?
theorem U8 {n:Nat} {i:Int} {j:Nat} (h:ua n i=some j):seqIndex? i n=some j/\j < n/\-(n:Int)<=i/\i < n:=by
 unfold ua at h
 by_cases h0:0<=i
 ·rw [if_pos h0] at h
  by_cases h1:i < n
  ·rw [if_pos h1] at h
   have e:i.toNat=j:=Option.some.inj h
   exact ⟨by rw [seqIndex_of h0 h1,e],by omega,by omega,h1⟩
  ·rw [if_neg h1] at h; cases h
 ·rw [if_neg h0] at h
  by_cases h1 : -(n:Int)<=i
  ·rw [if_pos h1] at h
   have e:(i + n).toNat=j:=Option.some.inj h
   exact ⟨by rw [seqIndex_neg (by omega) h1,e],by omega,h1,by omega⟩
  ·rw [if_neg h1] at h; cases h
theorem WB {α:Type} {xs:List α} {i:Int} {v:α} (h:wJ xs i=some v):∃ j,seqIndex? i xs.length=some j/\xs[j]? = some v/\j < xs.length/\-(xs.length:Int)<=i/\i < xs.length:=by
 unfold wJ at h
 cases e:ua xs.length i with
 | none=>rw [e] at h; cases h
 | some j=>
  rw [e] at h
  obtain ⟨h1,h2,h3,h4⟩:=U8 e
  exact ⟨j,h1,h,h2,h3,h4⟩
theorem kF {α:Type} {xs:List α} {j:Nat} {v:α} (h:xs[j]? = some v):wJ xs (j:Int)=some v:=by
 have hj:j < xs.length:=(List.getElem?_eq_some_iff.mp h).1
 have e:ua xs.length (j:Int)=some j:=by
  unfold ua
  rw [if_pos (by omega),if_pos (by omega)]; simp
 unfold wJ; rw [e]; exact h
theorem U9 {α:Type} (xs:List α) (v:α):wJ (xs++[v]) (-1)=some v:=by
 have hl:(xs++[v]).length=xs.length + 1:=by simp
 have e:ua (xs++[v]).length (-1)=some xs.length:=by
  unfold ua
  rw [hl,if_neg (by decide),if_pos (by omega)]
  congr 1
  omega
 unfold wJ
 rw [e]
 show (xs++[v])[xs.length]? = some v
 simp
noncomputable def JA (b:Expr):Prop:=∀ o i,subscripted b false o i=operate [o,i] (getItem o i)
noncomputable def jm (X:Cx) (r:R2):Prop:=
 ∀ (value slice:Expr) (pins:List (Addr × Obj)) (s:Shared) (σ:St) (H:Hp) (x y:V) (v u:Value) (Q:VK),zG X pins σ H s->zV x v->zV y u->r x y H Q->
  subscripted slice false v u=operate [v,u] (getItem v u)->wpAny (model X.prog X.w) X.A (subscriptTail value slice v u) (EP X pins σ Q) X.xe s
noncomputable def WC (X:Cx) (id:String) (r:V->List V->Hp->VK->Prop):Prop:=
 ∀ (pins:List (Addr × Obj)) (s:Shared) (σ:St) (H:Hp) (x:V) (xs:List V) (v:Value) (us:List Value) (Q:VK),zG X pins σ H s->zV x v->zO xs us->r x xs H Q->
  wpAny (model X.prog X.w) X.A (call (.builtin id) (v :: us)) (EP X pins σ Q) X.xe s
section
variable {X:Cx} {a b:Expr} {ta tb:TE} {pos:Pos}
theorem wK {r:R2} (hr:jm X r) (ha:PE X a ta) (hb:PE X b tb) (hs:JA b):PE X (.Subscript a b pos) (gz r ta tb):=by
 intro pins s σ H Q I h
 exact Subscript_ (ux ha hb I h λv u s2 x y H2 I2 rx ry q=>hr a b pins s2 σ H2 x y v u Q I2 rx ry q (hs _ _))
noncomputable def Zn (K:PySem.W.Frag):R2:=λx y H Q=>∃ p xs i v,x=.ref p/\y=.int i/\zP K H p xs/\wJ xs i=some v/\Q v H
noncomputable def Zo (K:PySem.W.Frag):R2:=λx y H Q=>∃ p xs i v,x=.ref p/\y=.int i/\zn K H p xs/\wJ xs i=some v/\Q v H
theorem JB:jm X (Zn X.K):=by
 intro value slice pins s σ H x y v u Q I rx ry h hs
 obtain ⟨p,xs,i,z,rfl,rfl,hq,he,q⟩:=h
 cases rx
 obtain ⟨t,rfl⟩:=ry
 obtain ⟨its,r,pl,hz⟩:=I.list hq
 obtain ⟨j,h1,h2,h3,h4,h5⟩:=WB he
 obtain ⟨w,ew,rw'⟩:=r.get h2
 have hl:=r.length
 have hn:=Zc
 have fin:EP X pins σ Q w s:=⟨z,H,I,rw',q⟩
 by_cases h0:0<=i
 ·have hj:i.toNat=j:=by
   rw [seqIndex_of h0 h5] at h1
   exact Option.some.inj h1
  exact item_listR pl.isList h0 (by omega) (by rw [hj]; simpa using ew) fin hs
 ·have hj:(i + (its.toArray.size:Int)).toNat=j:=by
   rw [seqIndex_neg (by omega) h4] at h1
   rw [List.size_toArray,<- hl]
   exact Option.some.inj h1
  exact subscriptTail_builtinR (x:=w) pl.isList.typeIs slot_list_getitem.lookup
   (wpAny_getItem_list_neg (Q:=λr s'=>r=w/\EP X pins σ Q r s') pl.isList (by omega) (by rw [List.size_toArray] <;> omega) (by omega) (by rw [hj]; simpa using ew) ⟨rfl,fin⟩) hs
theorem JC:jm X (Zo X.K):=by
 intro value slice pins s σ H x y v u Q I rx ry h hs
 obtain ⟨p,xs,i,z,rfl,rfl,hq,he,q⟩:=h
 cases rx
 obtain ⟨t,rfl⟩:=ry
 obtain ⟨its,r,pl,hz⟩:=I.tuple hq
 obtain ⟨j,h1,h2,h3,h4,h5⟩:=WB he
 obtain ⟨w,ew,rw'⟩:=r.get h2
 have hl:=r.length
 have hn:=Zc
 have fin:EP X pins σ Q w s:=⟨z,H,I,rw',q⟩
 exact subscriptTail_builtinR (x:=w) pl.typeIs slot_tuple_getitem.lookup
  (getItem_tuple (j:=j) (Q:=λr s'=>r=w/\EP X pins σ Q r s') pl (by omega) (by omega) (by rw [List.size_toArray,<- hl]; exact h1) (by simpa using ew) ⟨rfl,fin⟩) hs
theorem zG.lst {pins:List (Addr × Obj)} {σ:St} {H:Hp} {s:Shared} {p:Addr} {xs:List V} (I:zG X pins σ H s) (h:H p=some (.lst xs)) :
  ∃ (its:List Value) (n:Nat),zO xs its/\s.heap.get? p=some { cls:=.type "list",data:=.seq its.toArray n }/\xs.length<=sizeLine:=by
 obtain ⟨z,its,n,r,e⟩:=I.hok p _ h
 exact ⟨its,n,r,e,z⟩
theorem JD (lo hi:Option Int) (n:Nat):(sliceBounds lo hi none n).1=((HT.sIx n 0 lo:Nat):Int)/\(sliceBounds lo hi none n).2.1=((HT.sIx n n hi:Nat):Int)/\(sliceBounds lo hi none n).2.2=1:=by
 refine ⟨?_,?_,rfl⟩
 ·cases lo with
  | none=>simp [sliceBounds,HT.sIx]
  | some i=>
   simp only [sliceBounds,HT.sIx,Option.getD_none,show (1:Int) > 0 by decide,if_true]
   by_cases h:i < 0
   ·simp only [h,if_true] <;> omega
   ·simp only [h,if_false] <;> omega
 ·cases hi with
  | none=>simp [sliceBounds,HT.sIx]
  | some i=>
   simp only [sliceBounds,HT.sIx,Option.getD_none,show (1:Int) > 0 by decide,if_true]
   by_cases h:i < 0
   ·simp only [h,if_true] <;> omega
   ·simp only [h,if_false] <;> omega
theorem JE (its:List Value) (lo hi:Option Int):slicePick its.toArray lo hi none=((its.drop (HT.sIx its.length 0 lo)).take (HT.sIx its.length its.length hi - HT.sIx its.length 0 lo)).toArray:=by
 obtain ⟨h1,h2,h3⟩:=JD lo hi its.toArray.size
 unfold slicePick
 rw [h1,h2,h3]
 simp only [sliceRange_one,pick_run,List.size_toArray] <;> rfl
noncomputable def Zq (K:PySem.W.Frag):V->Option Int->Option Int->Hp->VK->Prop:=λx lo hi H Q=>∃ a xs,x=.ref a/\zP K H a xs/\∀ p,H p=none->Q (.ref p) (upd H p (.lst (yR xs lo hi)))
theorem JF:u6 X (Zq X.K):=by
 intro pins s σ H x v vl vu lo hi sl Q I rx hs pl pu h
 obtain ⟨a,xs,rfl,hx,q⟩:=h
 cases rx
 obtain ⟨its,r,ht,hz⟩:=I.list hx
 have hlen:=r.length
 refine ⟨"list",_,slot_list_getitem.lookup,ht.isList.typeIs,?_⟩
 refine wpAny_getItem_list_slice ht.isList hs pl pu .none (by simp) ?_ (by rw [List.size_toArray] <;> omega)
 rw [JE,<- hlen]
 refine ⟨.ref s.heap.objs.size,_,I.laid (t':=s.toks) (o:=.lst (yR xs lo hi)) (λb ob q=>Heap.get?_push_of_some _ q) (Nat.le_refl _) ?_,rfl,q _ (I.hok.fresh (Nat.le_refl _))⟩
 exact ⟨Nat.le_trans (X8 xs lo hi) hz,_,0,(r.drop (HT.sIx xs.length 0 lo)).take (HT.sIx xs.length xs.length hi - HT.sIx xs.length 0 lo),Heap.get?_push_size _ rfl⟩
theorem JG:yW X (.builtin "len") (λxs H Q=>∃ p ys,xs=[.ref p]/\(zP X.K H p ys\/zn X.K H p ys)/\Q (.int ys.length) H):=by
 intro pins s σ H xs us Q I r h
 obtain ⟨p,ys,rfl,hq,q⟩:=h
 obtain ⟨u,rfl,rx⟩:=jl r
 cases rx
 have hn:=Zc
 rcases hq with hq | hq
 ·obtain ⟨its,r',pl,hz⟩:=I.list hq
  have hlen:=r'.length
  exact Calls.call_len_list pl.isList (by simp only [List.size_toArray] <;> omega) ⟨.int ys.length,H,I.tok _,⟨s.toks + 1,by rw [List.size_toArray,hlen]⟩,q⟩
 ·obtain ⟨its,r',pl,hz⟩:=I.tuple hq
  have hlen:=r'.length
  exact len_tuple pl (by simp only [List.size_toArray] <;> omega) ⟨.int ys.length,H,I.tok _,⟨s.toks + 1,by rw [List.size_toArray,hlen]⟩,q⟩
theorem qe:yW X (.type "list") (λxs H Q=>∃ p ys,xs=[.ref p]/\(zP X.K H p ys\/zn X.K H p ys)/\∀ l,H l=none->Q (.ref l) (upd H l (.lst ys))):=by
 intro pins s σ H xs us Q I r h
 obtain ⟨p,ys,rfl,hq,q⟩:=h
 obtain ⟨u,rfl,rx⟩:=jl r
 cases rx
 have fin:∀ (its:List Value),zO ys its->ys.length<=sizeLine->∀ (h':Heap) (c':Nat),(∀ b o',s.heap.get? b=some o'->h'.get? b=some o')->
   h'.get? s.heap.objs.size=some { cls:=.type "list",dict:=none,data:=.seq its.toArray c',slots:=#[] }->EP X pins σ Q (.ref s.heap.objs.size) { s with heap:=h' }:=λits r' hz h' c' kp e=>
  ⟨.ref s.heap.objs.size,_,I.laid (t':=s.toks) kp (Nat.le_refl _) (show yw X.prog X.w _ h' _ (.lst ys) from ⟨hz,its,c',r',e⟩),rfl,q _ (I.hok.fresh (Nat.le_refl _))⟩
 rcases hq with hq | hq
 ·obtain ⟨its,r',pl,hz⟩:=I.list hq
  have hlen:=r'.length
  obtain ⟨o,ho,hc,n,hd⟩:=pl.isList
  exact call_list_seq p (.inl rfl) ho hc hd (λh' c' kp e=>fin its r' hz h' c' kp e) (by simp only [List.size_toArray] <;> omega)
 ·obtain ⟨its,r',pl,hz⟩:=I.tuple hq
  have hlen:=r'.length
  obtain ⟨o,ho,hc,n,hd⟩:=pl
  exact call_list_seq p (.inr rfl) ho hc hd (λh' c' kp e=>fin its r' hz h' c' kp e) (by simp only [List.size_toArray] <;> omega)
theorem JH:yW X (.type "tuple") (λxs H Q=>∃ p ys,xs=[.ref p]/\((zP X.K H p ys/\∀ l,H l=none->Q (.ref l) (upd H l (.tup ys)))\/(zn X.K H p ys/\Q (.ref p) H))):=by
 intro pins s σ H xs us Q I r h
 obtain ⟨p,ys,rfl,h⟩:=h
 obtain ⟨u,rfl,rx⟩:=jl r
 cases rx
 rcases h with ⟨hq,q⟩ | ⟨hq,q⟩
 ·obtain ⟨its,r',pl,hz⟩:=I.list hq
  have hlen:=r'.length
  refine call_tuple_list pl.isList (λh' kp=>?_) (by simp only [List.size_toArray] <;> omega)
  have I1:zG X pins σ H { s with heap:=h' }:=I.kept (t':=s.toks) kp
  have I2:zG X pins σ (upd H h'.objs.size (.tup ys)) { s with heap:=h'.push { cls:=.type "tuple",data:=.seq its.toArray } }:=
   I1.laid (t':=s.toks) (λb o e=>Heap.get?_push_of_some _ e) (Nat.le_refl _) (show yw X.prog X.w _ _ _ (.tup ys) from ⟨hz,its,r',IsTup.new _ _⟩)
  exact ⟨.ref h'.objs.size,_,I2,rfl,q _ (I1.hok.fresh (Nat.le_refl _))⟩
 ·obtain ⟨its,r',pl,hz⟩:=I.tuple hq
  exact call_tuple_same pl ⟨.ref p,H,I,rfl,q⟩
noncomputable def WD (K:PySem.W.Frag) (T:String) (x:V) (H:Hp):Prop:=match x with
 | .str _=>T = "str"
 | .int _=>T = "int"
 | .ref p=>(T = "list"/\∃ xs,zP K H p xs)\/(T = "tuple"/\∃ o,K.lookup p=some o/\o.cls=.type "tuple"/\o.dict=none)∨
   (T = "dict"/\((∃ kvs,H p=some (.dK kvs))\/∃ kvs,H p=some (.dT kvs)))\/(T = "set"/\∃ S n,H p=some (.set S n))
 | _=>False
theorem JJ {pins:List (Addr × Obj)} {σ:St} {H:Hp} {s:Shared} {T:String} {x:V} {v:Value} (I:zG X pins σ H s) (r:zV x v) (ty:WD X.K T x H) :
  s.TypeIs v T/\∀ a,v=.ref a->∃ ob,s.heap.get? a=some ob/\ob.dict=none:=by
 cases x with
 | str z=>
  obtain ⟨t,rfl⟩:=r
  cases (show T = "str" from ty)
  exact ⟨typeIs_str s z t,λ_ e=>nomatch e⟩
 | int i=>
  obtain ⟨t,rfl⟩:=r
  cases (show T = "int" from ty)
  exact ⟨typeIs_int s i t,λ_ e=>nomatch e⟩
 | ref p=>
  cases r
  rcases ty with ⟨rfl,xs,hq⟩ | ⟨rfl,o,hk,hc,hd⟩ | ⟨rfl,hk⟩ | ⟨rfl,S,n,hk⟩
  ·obtain ⟨its,_,pl,_⟩:=I.list hq
   refine ⟨pl.isList.typeIs,λa e=>?_⟩
   cases e
   obtain ⟨o,n,e,c,hd,_⟩:=pl
   exact ⟨o,e,hd⟩
  ·refine ⟨⟨o,I.kIn p o hk,hc⟩,λa e=>?_⟩
   cases e
   exact ⟨o,I.kIn _ o hk,hd⟩
  ·have z:∃ o,s.heap.get? p=some o/\o.ExactDict:=by
    rcases hk with ⟨kvs,hk⟩ | ⟨kvs,hk⟩
    ·obtain ⟨_,_,_,_,o,_,_,e,ex,_⟩:=I.hok p _ hk
     exact ⟨o,e,ex⟩
    ·obtain ⟨_,_,_,_,o,_,_,e,ex,_⟩:=I.hok p _ hk
     exact ⟨o,e,ex⟩
   obtain ⟨o,e,ex⟩:=z
   refine ⟨⟨o,e,ex.1⟩,λa e2=>?_⟩
   cases e2
   exact ⟨o,e,ex.2.1⟩
  ·obtain ⟨o,_,_,_,e,ex,_⟩:=I.hok p _ hk
   refine ⟨⟨o,e,ex.1⟩,λa e2=>?_⟩
   cases e2
   exact ⟨o,e,ex.2.1⟩
 | _=>exact False.elim ty
noncomputable def JK (K:PySem.W.Frag) (T:String) (r:V->List V->Hp->VK->Prop) (to:TE) (t:TA):TE:=λσ H Q=>to σ H λx H1=>WD K T x H1/\t σ H1 λxs H2=>r x xs H2 Q
variable {o e:Expr} {es:List Expr} {to:TE} {t:TA} {name:Str} {apos cpos:Pos} {T id:String} {r:V->List V->Hp->VK->Prop}
theorem ub (pa:PlainAttrs T) (slot:Slot T name id) (hty:typeOf (.builtin id)=pure (.type "method_descriptor")) (hm:WC X id r) (ho:PE X o to) (ha:PA X (e :: es) t)
  (hbase:attributeBase o name X.env (eval o X.env)=eval o X.env:=by rfl)
  (hfew:((backTo cpos (starEach (e :: es) X.env)).all (λx=>!x.1) && (backToKw cpos (keywordEach [] X.env)).all (λx=>x.1.isSome)
   && decide ((e :: es).length + ([]:List Keyword).length + (if ([]:List Keyword).isEmpty then 0 else 1) < 30))=true:=by rfl)
  (hline:(apos.endLine == cpos.line)=true:=by rfl) (hs:starEach (e :: es) X.env=(false,eval e X.env) :: starEach es X.env:=by rfl) (hplain:(backTo cpos (starEach es X.env)).any (·.1)=false:=by rfl) :
  PE X (.Call (.Attribute o name apos) (e :: es) [] cpos) (JK X.K T r to t):=by
 intro pins s σ H Q I h
 refine wpAny_Call_method_late hbase hfew hline rfl (zd (ho pins s σ H _ I h) λv s1 ⟨x,H1,I1,r1,ty,q1⟩=>?_)
 obtain ⟨h1,h2⟩:=JJ I1 r1 ty
 refine ⟨T,id,pa,slot,hty,h1,h2,?_⟩
 have hA:=ha cpos pins s1 σ H1 _ I1 q1
 rw [hs] at hA |-
 refine Calls.callWith_builtin (by show (false || (backTo cpos (starEach es X.env)).any (·.1))=false; rw [hplain] <;> rfl) (Calls.evalArgs_plain ?_)
 exact zd hA λus s2 ⟨vs,H2,I2,r2,q2⟩=>hm pins s2 σ H2 x vs v us Q I2 r1 r2 q2
/- xs.append(e),list.index on a module's tuple .. are WC facts of 06m -/
end
end L2
namespace L2
open PySem PySem.Spec PyProof.Rows
noncomputable def Zr (X:Cx) (id:String) (r:V->List V->Hp->VK->Prop):Prop:=
 ∀ (pins:List (Addr × Obj)) (s:Shared) (σ:St) (H:Hp) (x:V) (xs:List V) (v:Value) (us:List Value) (Q:VK),zG X pins σ H s->zV x v->zO xs us->r x xs H Q->
  wpAny (model X.prog X.w) X.A (call (.builtin id) (v :: us)) (EP X pins σ Q) X.xe s
theorem zO.one:∀ {x:V} {us:List Value},zO [x] us->∃ u,us=[u]/\zV x u
 | _,_,.cons r .nil=>⟨_,rfl,r⟩
theorem zO.zero:∀ {us:List Value},zO [] us->us=[]
 | _,.nil=>rfl
theorem zO.rep {xs:List V} {us:List Value} (h:zO xs us):∀ k:Nat,zO (List.replicate k xs).flatten (List.replicate k us).flatten
 | 0=>.nil
 | k + 1=>by
  rw [List.replicate_succ,List.replicate_succ,List.flatten_cons,List.flatten_cons]
  exact zO.append h (zO.rep h k)
theorem Zs (its:List Value):∀ (k:Nat) (acc:List Value),
  List.foldl (λx1 x2=>x1++x2) acc.toArray (List.replicate k its.toArray)=(acc++(List.replicate k its).flatten).toArray
 | 0,acc=>by simp
 | k + 1,acc=>by
  have e:acc.toArray++its.toArray=(acc++its).toArray:=by simp
  have e2:(acc++its)++(List.replicate k its).flatten=acc++(List.replicate (k + 1) its).flatten:=by
   rw [List.replicate_succ,List.flatten_cons,List.append_assoc]
  rw [<- e2,<- Zs its k (acc++its),<- e,List.replicate_succ,List.foldl_cons]
section
variable {X:Cx} {pins:List (Addr × Obj)} {σ:St} {H:Hp} {s:Shared} {l b:Addr} {xs ys zs:List V}
theorem zG.lset {its its':List Value} {n:Nat} {f:Array Value->Array Value} {t':Nat} (I:zG X pins σ H s) (hH:H l=some (.lst xs))
  (e:s.heap.get? l=some { cls:=.type "list",data:=.seq its.toArray n }) (hf:f its.toArray=its'.toArray) (hv:zO ys its') (hz:ys.length<=sizeLine) :
  zG X pins σ (upd H l (.lst ys)) { s with heap:=s.heap.update l (Obj.mapSeq f),toks:=t' }:=by
 have q:=PySem.IsL.update e f
 rw [hf] at q
 refine I.write (x:=l) (e:=l) (by rw [hH]; exact trivial) (.inl rfl) (λb' u hb hu=>(Heap.get?_update_other s.heap (Obj.mapSeq f) (Ne.symm hb)).trans hu) ⟨_,q⟩ ?_
 exact ⟨hz,its',_,hv,q⟩
theorem zG.lnew {its:List Value} {t':Nat} (I:zG X pins σ H s) (hv:zO ys its) (hz:ys.length<=sizeLine) :
  zG X pins σ (upd H s.heap.objs.size (.lst ys)) { s with heap:=s.heap.push { cls:=.type "list",data:=.seq its.toArray },toks:=t' }:=
 I.laid (λ_ _ q=>Heap.get?_push_of_some _ q) (Nat.le_refl _) ⟨hz,its,0,hv,Heap.get?_push_size _ rfl⟩
theorem zG.fresh (I:zG X pins σ H s):H s.heap.objs.size=none:=I.hok.fresh (Nat.le_refl _)
theorem zG.lstM (I:zG X pins σ H s) (hH:H l=some (.lst xs)):xs.length<=sizeLine/\∃ (its:List Value) (n:Nat),zO xs its/\xs.length=its.length/\s.heap.get? l=some { cls:=.type "list",data:=.seq its.toArray n }:=by
 obtain ⟨z,its,n,r,e⟩:=I.hok l _ hH
 exact ⟨z,its,n,r,r.length,e⟩
theorem JL {n:Nat} (h:n<=sizeLine):Builtin.List.listTooLong n=false:=by
 unfold Builtin.List.listTooLong
 exact decide_eq_false (by omega)
end
section
variable {X:Cx}
noncomputable def JM:V->List V->Hp->VK->Prop:=λx vs H Q=>∃ l xs y,x=.ref l/\vs=[y]/\H l=some (.lst xs)/\xs.length < sizeLine/\Q .non (upd H l (.lst (xs++[y])))
theorem JN:Zr X "list.append" JM:=by
 intro pins s σ H x vs v us Q I rx rv h
 obtain ⟨l,xs,y,rfl,rfl,hH,hz,q⟩:=h
 cases rx
 obtain ⟨u,rfl,ru⟩:=rv.one
 obtain ⟨z,its,n,r,hl,e⟩:=I.lstM hH
 refine call_meets F.slot_list_append ⟨_,e,rfl⟩ F.entry_list_append (F.args_list_append_2 _ _) (PySem.list_append l its.toArray n u (by rw [List.size_toArray]; omega)) ⟨e,?_⟩
 refine ⟨.non,_,I.lset (its':=its++[u]) hH e (by simp) (r.append (.cons ru .nil)) ?_,rfl,q⟩
 rw [List.length_append,List.length_singleton]
 omega
noncomputable def Zt:R2:=λx y H Q=>∃ l b xs zs,x=.ref l/\y=.ref b/\H l=some (.lst xs)/\H b=some (.lst zs)/\xs.length + zs.length<=sizeLine/\∀ p,H p=none->Q (.ref p) (upd H p (.lst (xs++zs)))
theorem JO:yi X (binaryOp .Add) Zt:=by
 intro pins s σ H x y v u Q I rx ry h
 obtain ⟨l,b,xs,zs,rfl,rfl,hH,hB,hz,q⟩:=h
 cases rx
 cases ry
 obtain ⟨z,its,n,r,hl,e⟩:=I.lstM hH
 obtain ⟨z2,its2,n2,r2,hl2,e2⟩:=I.lstM hB
 refine PySem.P.add_list e e2 ?_ (by rw [List.size_toArray,List.size_toArray]; omega)
 have ea:its.toArray++its2.toArray=(its++its2).toArray:=by simp
 rw [ea]
 exact ⟨.ref _,_,I.lnew (t':=s.toks) (r.append r2) (by rw [List.length_append]; omega),rfl,q _ I.fresh⟩
noncomputable def Zu:R2:=λx y H Q=>∃ l k xs,x=.ref l/\y=.int k/\H l=some (.lst xs)/\-(2 ^ 63)<=k/\k < 2 ^ 63/\xs.length * k.toNat<=sizeLine∧
 ∀ p,H p=none->Q (.ref p) (upd H p (.lst (List.replicate k.toNat xs).flatten))
theorem Zv {α:Type} (xs:List α) (k:Nat):(List.replicate k xs).flatten.length=k * xs.length:=by
 induction k with
 | zero=>simp
 | succ k ih=>rw [List.replicate_succ,List.flatten_cons,List.length_append,ih,Nat.succ_mul,Nat.add_comm]
theorem JP:yi X (binaryOp .Mult) Zu:=by
 intro pins s σ H x y v u Q I rx ry h
 obtain ⟨l,k,xs,rfl,rfl,hH,h1,h2,hz,q⟩:=h
 cases rx
 obtain ⟨t,rfl⟩:=ry
 obtain ⟨z,its,n,r,hl,e⟩:=I.lstM hH
 have hlen:its.toArray.size * k.toNat<=sizeLine:=by rw [List.size_toArray,<- hl]; exact hz
 have hcap:¬ its.toArray.size * k.toNat > (2 ^ 63 - 1) / 8:=by
  have:(sizeLine:Nat)<=(2 ^ 63 - 1) / 8:=by decide
  omega
 have hfit:¬ (!Builtin.List.listFitsIndex k)=true:=by
  rw [fitsIndex_both h1 h2]
  exact Bool.false_ne_true
 have hlong:¬ Builtin.List.listTooLong (its.toArray.size * k.toNat)=true:=by
  rw [JL hlen]
  exact Bool.false_ne_true
 have hnew:List.foldl (λx1 x2=>x1++x2) #[] (List.replicate (if its.toArray.isEmpty=true then 0 else k.toNat) its.toArray)=(List.replicate k.toNat its).flatten.toArray:=by
  have f0:∀ m:Nat,List.foldl (λx1 x2=>x1++x2) #[] (List.replicate m its.toArray)=(List.replicate m its).flatten.toArray:=λm=>by
   have:=Zs its m []
   rw [List.nil_append] at this
   exact this
  rw [f0]
  cases its with
  | nil=>simp
  | cons a r'=>rw [if_neg (by simp)]
 refine wpAny_binaryOp_repeat_ref (T:="list") (U:="int") (by decide) ⟨_,e,rfl⟩ (λs'=>typeIs_int s' k t) noFill_list_mul F.fills_int_mul F.slot_int_rmul repeat_list F.slot_int_index.lookup
  (call_meets F.slot_int_rmul (typeIs_int s k t) F.entry_int_rmul (F.args_int_rmul_2 _ _) (int___rmul___int_list k t l its.toArray n)
   ⟨e,rfl,⟨_,e,rfl⟩,call_meets F.slot_list_mul ⟨_,e,rfl⟩ F.entry_list_mul (F.args_list_mul_2 _ _) (AutoListH.list___mul___list_int_3 l its.toArray n k t hfit hcap hlong) ⟨e,?_⟩⟩)
 rw [hnew]
 exact ⟨.ref _,_,I.lnew (t':=s.toks) (r.rep k.toNat) (by rw [Zv,Nat.mul_comm]; exact hz),rfl,q _ I.fresh⟩
end
section
variable {prog:Program} {w:World} {A:Around} {E:Value->Shared->Prop} {s:Shared}
end
section
variable {X:Cx}
end
end L2
namespace Att
open PySem PySem.W PySem.Calls PyProof.Rows
theorem JQ {P:Params} {h:Heap}:∀ (ns:List Int) (vs:List Value),WellAll P h vs (ns.map WData.int)->IntsAre vs ns:=by
 intro ns
 induction ns with
 | nil=>
  intro vs w
  rw [List.map_nil] at w
  cases w
  exact .nil
 | cons n ns ih=>
  intro vs w
  rw [List.map_cons] at w
  cases w with
  | cons a b=>
   cases a
   exact .cons _ _ (ih _ b)
theorem JR {l:OpenLaw} {n:Nat} (hn:l.most=some n) {P:Params} {h:Heap} {args:List WData} {vals:List Value}
  (hpre:l.row.toRowW.claim.pre args=true) (hwl:WellAll P h vals args) :
  ∃ a vs ns,vals=[Value.ref a]/\args=[WData.list (ns.map WData.int)]/\h.get? a=some { cls:=.type "list",data:=.seq vs.toArray }/\IntsAre vs ns/\ns.length<=n:=by
 have hsh:WShape.hasAll [] args [.list .int]=true:=(pre_splitW hpre).1
 have hc:l.pre.holds [] { args:=args }=true:=(pre_splitW hpre).2
 obtain ⟨d,r,rfl,h1,h2⟩:=hasAllW_cons hsh
 obtain rfl:=hasAllW_nil h2
 obtain ⟨xs,rfl,h3⟩:=hasW_list h1
 obtain ⟨ns,rfl⟩:=items_int h3
 have hlen:ns.length<=n:=by
  unfold OpenLaw.pre at hc
  have h4:(WTm.not (.lt (.lit (.int (n:Int))) (.len (.arg 0)))).holds [] { args:=[.list (ns.map .int)] }=true:=by
   have h4:=(holds_andW hc).1
   rw [hn] at h4
   exact h4
  have h5:=condW_of h4 (w_not (w_lt w_lit (w_len_list (w_arg rfl))))
  rw [List.length_map] at h5
  refine Nat.le_of_not_lt λq=>?_
  have q':(n:Int) < ((ns.length:Nat):Int):=by omega
  first
   | (rw [decide_eq_true q'] at h5; exact absurd h5 (by decide))
   | (simp at h5; omega)
 cases hwl with
 | cons w1 w2=>
  cases w2
  cases w1 with
  | list ho hall=>exact ⟨_,_,ns,rfl,rfl,ho,JQ ns _ hall,hlen⟩
theorem JS (l:OpenLaw) (args:List WData):l.row.toRowW.claim.post args (.bool true) args=true:=
 postW_of (r:=l.row.toRowW) (X:=(true == true))
  (show WShape.has [] (.bool true) .bool=true by first | rfl | decide | simp [WShape.has,WShape.arms,WShape.armsAll])
  (show (WTm.eq .res (.lit (.bool true))).value [] { args:=args,res:=some (.bool true),after:=args }=some (.bool (true == true)) from w_eq_bool (w_res rfl) w_lit) rfl
theorem attach_call {l:OpenLaw} {n:Nat} {q:Program} {loose:List Str} {XP:(Str->Option Value)->Heap->Prop} {YP:World->Heap->Prop} {d:DefRec}
  (hn:l.most=some n) (hdf:d.params.defaults=[])
  (call:∀ (w:World) (s₀ s₁:Shared) (mg mb:Str->Option Value) (fa:Addr) (o:Obj) (pm cd doc:Value) (a:Addr) (vs:List Value) (ns:List Int),
   Ground q loose [] XP w s₀ mg mb s₁.heap->YP w s₁.heap->
   s₁.heap.get? fa=some o->o.data=.func (docDef d.name d.params d.body d.scope pm cd doc)->s₁.heap.CodeRec cd d.name->mg d.name=some (.ref fa)->
   s₁.heap.get? a=some { cls:=.type "list",data:=.seq vs.toArray }->IntsAre vs ns->ns.length<=n->s₁.gens=#[]->
   codeAny (model l.prog w) callerA (.call (.ref fa) ⟨[.ref a],[]⟩) (λr s'=>r=.ok (.ret (.bool true))/\OldK s₁.heap s'.heap/\s'.os=s₁.os/\AllBare s'.gens) s₁) :
  WalkO q loose XP YP l.row.toRowW d [] (λf vs=>PySem.call f vs):=by
 intro w s₀ s₁ mg mb G Y fa o pm cd doc dV kV ho hd hcd hD hmg hg args vals as hpre hlay hrd hwl hlo
 obtain rfl:dV=.none:=Dflts.none hD hdf
 obtain rfl:kV=.none:=Dflts.noKw hD
 obtain ⟨a,vs,ns,rfl,rfl,hobj,hints,hlen⟩:=JR hn hpre hwl
 refine enter_call (codeAny_mono (call w s₀ s₁ mg mb fa o pm cd doc a vs ns G Y ho (fd_plain hd) hcd hmg hobj hints hlen hg) λr s' hq=>?_)
 obtain ⟨rfl,h2,h3,h4⟩:=hq
 exact ⟨.inl ⟨.bool true,.bool true,[],rfl,λ_=>rfl,.bool true,JS l _,λ_=>⟨List.Pairwise.nil,λ_ hm=>(nomatch hm)⟩⟩,h2,h3,h4⟩
section
variable {prog:Program} {w:World} {A:Around} {E:Value->Shared->Prop} {s:Shared} {K:Frag}
end
end Att
namespace L2
open PySem PySem.Spec PyProof.Rows
theorem WE:∀ {vs:List Value} {ns:List Int},IntsAre vs ns->zO (ns.map V.int) vs
 | _,_,.nil=>.nil
 | _,_,.cons n t h=>.cons ⟨t,rfl⟩ (WE h)
noncomputable def u7 (H:Hp):Prop:=∀ b,H b=none\/∃ o xs,H b=some (.frz o (.lst xs))
theorem law_call {P:Program} {w:World} {K:PySem.W.Frag} {mg mb:Str->Option Value} {CX:xX} {k:Nat} {fa a:Addr} {fd:FuncData} {x:Str} {sp:Sp} {s₁:Shared} {vs:List Value} {ns:List Int}
  (KX:K.In s₁.heap) (hns:s₁.heap.Ns mainGlobals mg) (hb:s₁.heap.Ns builtinsNs mb) (hbb:∀ x:Str,x≠"__name__"->mb x=bootBuiltins x) (hlim:s₁.heap.NoLimit) (hg:s₁.gens=#[])
  (ha:s₁.heap.get? a=some { cls:=.type "list",data:=.seq vs.toArray }) (hi:IntsAre vs ns) (hl:ns.length<=sizeLine) (hr:zf k callerA)
  (F:∀ base:Heap,K.In base->base.Ns mainGlobals mg->zL P w K mg base CX k fa fd [x] sp) (hbind:∀ (s:Shared) (u:Value),BindsTo s fd ⟨[u],[]⟩ [(x,u)])
  (hsp:∀ H:Hp,u7 H->zP K H a (ns.map V.int)->sp [.ref a] H (λv _=>v=.bl true) λ_ _ _=>False)
  (hCX:∀ H e s',CX [] H s₁ (λ_ _ _=>False) e s'->False) :
  codeAny (model P w) callerA (.call (.ref fa) ⟨[.ref a],[]⟩) (λr s'=>r=.ok (.ret (.bool true))/\OldK s₁.heap s'.heap/\s'.os=s₁.os/\AllBare s'.gens) s₁:=by
 have rv:=WE hi
 have lenV:=hi.length
 have core:∀ H:Hp,u7 H->zP K H a (ns.map V.int)->ya P w H s₁.heap->(∀ b,H b≠none->b=a)->(H a≠none->K.lookup a=none)->
   codeAny (model P w) callerA (.call (.ref fa) ⟨[.ref a],[]⟩) (λr s'=>r=.ok (.ret (.bool true))/\OldK s₁.heap s'.heap/\s'.os=s₁.os/\AllBare s'.gens) s₁:=by
  intro H hO hS hok hA hK
  have base_of:∀ {b:Addr} {o:Obj},s₁.heap.get? b=some o->H b=none->(xn s₁.heap H).get? b=some o:=λe n=>UP e n
  have noA:∀ {b:Addr} {o:Obj} {es:Array DictEntry} {ep:Nat},s₁.heap.get? b=some o->o.data=.dict es ep->H b=none:=λ{b o es ep} e d=>by
   cases q:H b with
   | none=>rfl
   | some u=>
    have e':b=a:=hA b (by rw [q]; simp)
    subst e'
    rw [ha] at e; cases e
    have d':Data.seq vs.toArray _=Data.dict es ep:=d
    cases d'
  have nsK:∀ {b:Addr} {m:Str->Option Value},s₁.heap.Ns b m->(xn s₁.heap H).Ns b m:=λ{b m} ⟨o,es,ep,e,d,r⟩=>⟨o,es,ep,base_of e (noA e d),d,r⟩
  have hKb:K.In (xn s₁.heap H):=λb o e=>base_of (KX b o e) (by
   cases q:H b with
   | none=>rfl
   | some u=>
    have e':b=a:=hA b (by rw [q]; simp)
    subst e'
    rw [hK (by rw [q]; simp)] at e; cases e)
  have hM:Mod K mg (xn s₁.heap H):=⟨hKb,nsK hns,⟨mb,nsK hb,hbb⟩,let ⟨mc,h1,h2⟩:=hlim; ⟨mc,nsK h1,h2⟩⟩
  have e0:xC P w K mg (xn s₁.heap H) callerA [] s₁ H:=⟨rfl,hM,λb o e=>UQ e,Nat.le_of_eq (UO _ _),trivial,λb hb=>absurd (show b∈([]:List Addr) from hb) (by simp),hok,.of_eq hg⟩
  refine codeAny_mono ((F _ hKb (nsK hns)).run callerA [] s₁ H ⟨[.ref a],[]⟩ [.ref a] [.ref a] _ _ hr e0 (hbind s₁ (.ref a)) (.cons rfl .nil) (hsp H hO hS)) λr s' h=>?_
  cases r with
  | error e=>exact (hCX H e s' h).elim
  | ok fl=>
   cases fl with
   | next=>exact False.elim h
   | brk=>exact False.elim h
   | cont=>exact False.elim h
   | ret u=>
    obtain ⟨v,H',os,bare,un,hok',r',q⟩:=h
    have q':v=.bl true:=q
    subst q'
    obtain rfl:u=Value.bool true:=r'
    refine ⟨rfl,OldK.of_keep λb o e=>?_,os,bare⟩
    cases q:H b with
    | none=>exact un.keep b o e q (by intro z; exact absurd (show b∈([]:List Addr) from z) (by simp)) (by simp)
    | some u=>
     rcases hO b with z | ⟨ob,xs,z⟩
     ·rw [q] at z; cases z
     ·have z2:=un.frzs b ob _ z
      obtain ⟨e1,_⟩:=hok b _ z
      obtain ⟨e2,_⟩:=hok' b _ z2
      rw [e] at e1; cases e1
      exact e2
 cases hk:K.lookup a with
 | some o=>
  have e:=KX a o hk
  rw [ha] at e
  cases e
  refine core (λ_=>none) (λ_=>.inl rfl) (.inr ⟨_,vs.toArray,_,hk,rfl,rfl,rfl,by rw [List.size_toArray,lenV]; exact hl,by simpa using rv⟩) (λb u z=>by have z':(none:Option HO)=some u:=z; cases z') (λb z=>absurd rfl z) λz=>absurd rfl z
 | none=>
  refine core (λb=>if b=a then some (.frz { cls:=.type "list",data:=.seq vs.toArray } (.lst (ns.map V.int))) else none) (λb=>?_) (.inl (.inr ⟨{ cls:=.type "list",data:=.seq vs.toArray },if_pos rfl⟩)) (λb u z=>?_) (λb z=>?_) λ_=>hk
  ·by_cases hb:b=a
   ·exact .inr ⟨_,_,if_pos hb⟩
   ·exact .inl (if_neg hb)
  ·by_cases hb:b=a
   ·have z':=(if_pos hb).symm.trans z
    cases z'
    subst hb
    exact ⟨ha,by rw [List.length_map]; exact hl,vs,_,rv,ha⟩
   ·have z':=(if_neg hb).symm.trans z
    cases z'
  ·by_cases hb:b=a
   ·exact hb
   ·exact absurd (if_neg hb) z
end L2
namespace L2
open PySem PySem.Spec PyProof.Rows
theorem JT {l:PySem.W.OpenLaw} {n k:Nat} {q:Program} {loose:List Str} {XP:(Str->Option Value)->Heap->Prop} {YP:World->Heap->Prop} {d:DefRec} {K:Params->PySem.W.Frag} {CX:World->xX} {sp:World->Sp} {x:Str}
  (hn:l.most=some n) (hn2:n<=sizeLine) (hdf:d.params.defaults=[]) (hr:zf k callerA)
  (hY:∀ (w:World) (h:Heap),YP w h->(K w.params).In h)
  (F:∀ (w:World) (mg:Str->Option Value) (fa:Addr) (h:Heap),(K w.params).In h->h.Ns mainGlobals mg->mg d.name=some (.ref fa)->
   ∃ fd:FuncData,(∀ (s:Shared) (u:Value),BindsTo s fd ⟨[u],[]⟩ [(x,u)])∧
    ∀ base:Heap,(K w.params).In base->base.Ns mainGlobals mg->zL l.prog w (K w.params) mg base (CX w) k fa fd [x] (sp w))
  (hsp:∀ (w:World) (H:Hp) (a:Addr) (ns:List Int),ns.length<=n->u7 H->zP (K w.params) H a (ns.map V.int)->sp w [.ref a] H (λv _=>v=.bl true) λ_ _ _=>False)
  (hCX:∀ (w:World) (H:Hp) (s:Shared) (e:Value) (s':Shared),CX w [] H s (λ_ _ _=>False) e s'->False) :
  PySem.W.WalkO q loose XP YP l.row.toRowW d [] (λf vs=>PySem.call f vs):=by
 refine Att.attach_call hn hdf λw s₀ s₁ mg mb fa o pm cd doc a vs ns G Y ho hd hcd hmg hobj hints hlen hg=>?_
 have KX:=hY w _ Y
 obtain ⟨fd,hb,hF⟩:=F w mg fa _ KX G.T.g hmg
 exact law_call KX G.T.g G.T.b G.T.builtins G.T.nolimit hg hobj hints (Nat.le_trans hlen hn2) hr hF hb (λH hO hS=>hsp w H a ns hlen hO hS) λH e s'=>hCX w H s₁ e s'
end L2
namespace L2
open PySem PySem.Spec PyProof.Rows
noncomputable def u8 (s:Stmt) (j:Nat):Stmt:=match s with
 | .ClassDef _ _ _ body _ _ _ _ _ _ _=>body.getD j (.Pass ⟨0,0,0,0⟩)
 | _=>.Pass ⟨0,0,0,0⟩
noncomputable def xq (s:Stmt):Arguments:=match s with
 | .FunctionDef _ a _ _ _ _ _ _ _ _=>a
 | _=>{ posonlyargs:=[],args:=[],vararg:=none,kwonlyargs:=[],kw_defaults:=[],kwarg:=none,defaults:=[] }
noncomputable def xD (s:Stmt):List Stmt:=match s with
 | .FunctionDef _ _ b _ _ _ _ _ _ _=>b
 | _=>[]
noncomputable def zW (s:Stmt):Scope:=match s with
 | .FunctionDef _ _ _ _ _ _ sc _ _ _=>sc
 | _=>{ kind:=.function,names:=[],isGenerator:=false,isCoroutine:=false }
noncomputable abbrev zj:xX:=λ_ _ _ _ _ _=>False
noncomputable abbrev E0:XK:=λ_ _ _=>False
theorem qf {X:Cx}:uH zj X E0:=λ_ _ _ _ _ _ _ h=>h.elim
structure yA (K:PySem.W.Frag) (x qual:Str) (st:Stmt) (f:Addr) (fd:FuncData):Prop where
 ex:∃ (oc:Value) (od:Option Addr) (kV doc pm:Value) (an:Option Addr) (cdv ct:Value) (osl:Array (Option Value)),
  fd=PySem.W.fnOf x qual (xq st) (xD st) (zW st) .none kV doc pm an cdv ct/\K.lookup f=some ⟨oc,od,.func fd,osl⟩/\PySem.W.codeIn K cdv qual=true
 kp:PySem.W.keepIn K (.ref f)=true
section
variable {P:Program} {w:World} {K:PySem.W.Frag} {mg:Str->Option Value} {base:Heap}
theorem yA.ok {x qual:Str} {st:Stmt} {f:Addr} {fd:FuncData} {N ps:List Str} {k:Nat} {sp:Sp} (F:yA K x qual st f fd) (S:zv N ps (zW st)) (len:∀ vs H Q E,sp vs H Q E->vs.length=ps.length)
  (hbody:∀ (cdv:Value) (A:Around) (outer:List Env) (s:Shared) (H:Hp) (vs:List V) (Q:VK) (E:XK),zf k (A.deeper (envOfC qual (zW st) s.heap.objs.size f cdv))->sp vs H Q E->
   ∃ t,xz (zM zj P w K mg base N qual (zW st) f cdv A outer s H E).nox (xD st) t/\t { nx:=λ_ H'=>Q .non H',rt:=Q } (xp N vs) H):zL P w K mg base zj (k + 1) f fd ps sp:=by
 obtain ⟨oc,od,kV,doc,pm,an,cdv,ct,osl,rfl,lk,hcd⟩:=F.ex
 refine kE lk hcd S len λA outer s H vs Q E hr hsp=>?_
 obtain ⟨t,h,q⟩:=hbody cdv A outer s H vs Q E hr hsp
 exact ⟨t,h.nox,q⟩
theorem yA.binds {x qual:Str} {st:Stmt} {f:Addr} {fd:FuncData} {ps:List Str} (F:yA K x qual st f fd)
  (h:∀ (kV doc pm:Value) (an:Option Addr) (cdv ct:Value) (us:List Value),us.length=ps.length->bindArgs (PySem.W.fnOf x qual (xq st) (xD st) (zW st) .none kV doc pm an cdv ct) ⟨us,[]⟩=pure (ps.zip us)):xN K fd ps []:=by
 obtain ⟨oc,od,kV,doc,pm,an,cdv,ct,osl,rfl,lk,hcd⟩:=F.ex
 exact .all (h kV doc pm an cdv ct)
theorem WF {x qual:Str} {st:Stmt} {f:Addr} {oc:Value} {od an:Option Addr} {osl:Array (Option Value)} {kV doc pm cdv ct:Value} (l:K.lookup f=some ⟨oc,od,.func (PySem.W.fnOf x qual (xq st) (xD st) (zW st) .none kV doc pm an cdv ct),osl⟩)
  (c:PySem.W.codeIn K cdv qual=true) (k:PySem.W.keepIn K (.ref f)=true):yA K x qual st f (PySem.W.fnOf x qual (xq st) (xD st) (zW st) .none kV doc pm an cdv ct):=⟨⟨oc,od,kV,doc,pm,an,cdv,ct,osl,rfl,l,c⟩,k⟩
end
theorem zy {n:Nat} (h:n<=1000):n < sizeLine:=Nat.lt_of_le_of_lt h (by decide)
section
variable {X:Cx}
theorem pv (i:Nat) {x:Str} {pos:Pos} (hN:X.N[i]? = some x:=by rfl) (hv:uq X.env.scope x:=by first | exact Or.inl rfl | exact Or.inr (Or.inl rfl) | exact Or.inr (Or.inr rfl)) (hd:(x == ("__debug__" : Str))=false:=by decide)
  (hcd:(x == ("__classdict__" : Str))=false:=by decide):PE X (.Name x pos) (qM i):=Xm hN hv hd hcd
end
theorem zb {A B:Prop} (h:B):if false=true then A else B:=by
 rw [if_neg Bool.false_ne_true]
 exact h
theorem yH {A B:Prop} (h:A):if true=true then A else B:=by
 rw [if_pos rfl]
 exact h
theorem qg {c A B:Prop} [Decidable c] (h1:c->A) (h2:¬ c->B):if c then A else B:=by
 by_cases h:c
 ·rw [if_pos h]
  exact h1 h
 ·rw [if_neg h]
  exact h2 h
theorem qh {c A B:Prop} [Decidable c] (hc:c) (h:B):if (!decide c)=true then A else B:=by
 rw [decide_eq_true hc]
 exact zb h
noncomputable def zC (H H':Hp):Prop:=∀ b o,H b=some o->H' b=some o
theorem zC.refl (H:Hp):zC H H:=λ_ _ h=>h
theorem zC.trans {H H1 H2:Hp} (a:zC H H1) (b:zC H1 H2):zC H H2:=λc o h=>b c o (a c o h)
theorem zC.free {H H':Hp} (e:zC H H') {l:Addr} (h:H' l=Option.none):H l=Option.none:=by
 cases q:H l with
 | none=>rfl
 | some o=>
  rw [e l o q] at h
  cases h
theorem zC.seq {K:PySem.W.Frag} {H H':Hp} {a:Addr} {xs:List V} (e:zC H H') (h:zP K H a xs):zP K H' a xs:=by
 rcases h with (h | ⟨o,h⟩) | h
 ·exact .inl (.inl (e _ _ h))
 ·exact .inl (.inr ⟨o,e _ _ h⟩)
 ·exact .inr h
end L2
set_option maxHeartbeats 4000000
namespace Sh
end Sh
namespace Sh
end Sh
namespace L2
open PySem
noncomputable def vO (env:Env) (cs:List (Str × Addr)) (p:Str × NameKind):List (Str × Addr):=if (p.2 == .free)=true then (p.1,(env.cells.lookup p.1).getD 0) :: cs else cs
noncomputable def xj (scope:Scope) (env:Env):List (Str × Addr):=scope.names.foldl (vO env) []
theorem JU {env:Env}:∀ (names:List (Str × NameKind)) (cs:List (Str × Addr)),(∀ p∈names,p.2=.free->(env.cells.lookup p.1).isSome=true)->
  (forIn names cs (λ(p:Str × NameKind) (r:List (Str × Addr))=>(if (p.2 == .free)=true then do let a <- cellOf env p.1; pure (ForInStep.yield ((p.1,a) :: r)) else pure (ForInStep.yield r):Sem (ForInStep (List (Str × Addr))))))=pure (names.foldl (vO env) cs):=by
 intro names
 induction names with
 | nil=>intro cs _; rfl
 | cons p r ih=>
  intro cs h
  obtain ⟨n,k⟩:=p
  rw [List.forIn_cons]
  by_cases hk:k=.free
  ·subst hk
   obtain ⟨c,hc⟩:=Option.isSome_iff_exists.mp (h (n,.free) List.mem_cons_self rfl)
   have e:cellOf env n=pure c:=by unfold cellOf; dsimp only at hc; rw [hc]
   have z:vO env cs (n,.free)=(n,c) :: cs:=by unfold vO; dsimp only at hc |-; rw [hc]; rfl
   simp only [e,beq_self_eq_true,if_true,pure_bind,List.foldl_cons,z]
   exact ih _ λq hq=>h q (List.mem_cons_of_mem _ hq)
  ·have b:(k == NameKind.free)=false:=by simpa using hk
   have z:vO env cs (n,k)=cs:=by unfold vO; dsimp only; rw [b]; rfl
   simp only [b,Bool.false_eq_true,if_false,pure_bind,List.foldl_cons,z]
   exact ih _ λq hq=>h q (List.mem_cons_of_mem _ hq)
theorem qi {scope:Scope} {env:Env} (h:∀ p∈scope.names,p.2=.free->(env.cells.lookup p.1).isSome=true):closureFor scope env=pure (xj scope env):=by
 unfold closureFor xj
 have:=JU scope.names [] h
 exact (congrArg (λm=>m >>= λr=>pure r) this).trans rfl
theorem JV {env:Env}:∀ (names:List (Str × NameKind)) (cs:List (Str × Addr)) (x:Str) (c:Addr),(x,c)∈names.foldl (vO env) cs->(x,c)∈cs\/((x,NameKind.free)∈names/\c=(env.cells.lookup x).getD 0):=by
 intro names
 induction names with
 | nil=>intro cs x c h; exact .inl h
 | cons p r ih=>
  intro cs x c h
  obtain ⟨n,k⟩:=p
  rw [List.foldl_cons] at h
  rcases ih _ x c h with h1 | ⟨h1,h2⟩
  ·unfold vO at h1
   dsimp only at h1
   by_cases hk:k=.free
   ·subst hk
    simp only [beq_self_eq_true,if_true] at h1
    rcases List.mem_cons.mp h1 with e | h1
    ·injection e with e1 e2
     subst e1; subst e2
     exact .inr ⟨List.mem_cons_self,rfl⟩
    ·exact .inl h1
   ·have b:(k == NameKind.free)=false:=by simpa using hk
    simp only [b,Bool.false_eq_true,if_false] at h1
    exact .inl h1
  ·exact .inr ⟨List.mem_cons_of_mem _ h1,h2⟩
theorem uc {α β:Type} [BEq α] [LawfulBEq α]:∀ {l:List (α × β)} {a:α} {b:β},l.lookup a=some b->(a,b)∈l
 | [],_,_,h=>by simp at h
 | (x,y) :: r,a,b,h=>by
  rw [List.lookup_cons] at h
  by_cases e:a=x
  ·subst e
   simp only [beq_self_eq_true,if_true] at h
   cases h
   exact List.mem_cons_self
  ·have:(a == x)=false:=by simpa using e
   simp only [this] at h
   exact List.mem_cons_of_mem _ (uc h)
theorem WG {α β:Type} [BEq α] [LawfulBEq α]:∀ {l:List (α × β)} {a:α} {b:β},(a,b)∈l->∃ c,l.lookup a=some c
 | [],_,_,h=>by cases h
 | (x,y) :: r,a,b,h=>by
  rw [List.lookup_cons]
  by_cases e:a=x
  ·subst e
   exact ⟨y,by simp⟩
  ·have z:(a == x)=false:=by simpa using e
   rcases List.mem_cons.mp h with q | q
   ·injection q with q1 _; exact absurd q1 e
   ·obtain ⟨c,hc⟩:=WG q
    exact ⟨c,by simp only [z]; exact hc⟩
theorem JW {env:Env}:∀ (names:List (Str × NameKind)) (cs:List (Str × Addr)) (x:Str),((x,NameKind.free)∈names\/∃ c,(x,c)∈cs)->∃ c,(x,c)∈names.foldl (vO env) cs:=by
 intro names
 induction names with
 | nil=>
  intro cs x h
  rcases h with h | h
  ·cases h
  ·exact h
 | cons p r ih=>
  intro cs x h
  rw [List.foldl_cons]
  refine ih _ x ?_
  rcases h with h | ⟨c,h⟩
  ·rcases List.mem_cons.mp h with e | h
   ·subst e
    exact .inr ⟨_,by unfold vO; simp only [beq_self_eq_true,if_true]; exact List.mem_cons_self⟩
   ·exact .inl h
  ·refine .inr ⟨c,?_⟩
   unfold vO
   split
   ·exact List.mem_cons_of_mem _ h
   ·exact h
theorem wL {scope:Scope} {env:Env} (h:∀ p∈scope.names,p.2=.free->(env.cells.lookup p.1).isSome=true) {x:Str} {c:Addr} (e:(xj scope env).lookup x=some c) :
  env.cells.lookup x=some c/\(x,NameKind.free)∈scope.names:=by
 rcases JV scope.names [] x c (uc e) with z | ⟨z,q⟩
 ·cases z
 ·obtain ⟨d,hd⟩:=Option.isSome_iff_exists.mp (h _ z rfl)
  dsimp only at hd
  rw [hd] at q
  exact ⟨by rw [hd,q]; rfl,z⟩
theorem qj {scope:Scope} {env:Env} {x:Str} (h:(x,NameKind.free)∈scope.names):∃ c,(xj scope env).lookup x=some c:=by
 obtain ⟨c,hc⟩:=JW (env:=env) scope.names [] x (.inl h)
 exact WG hc
theorem WH {scope:Scope} {env:Env} {x:Str} {k:NameKind} (h:(relabel scope env).names.lookup x=some k):(k=.cell/\((x,NameKind.free)∈scope.names\/(x,NameKind.cell)∈scope.names))\/(x,k)∈scope.names:=by
 have m:=uc h
 unfold relabel at m
 obtain ⟨⟨n,j⟩,hm,e⟩:=List.mem_map.mp m
 dsimp only at e
 split at e
 ·rename_i q
  injection e with e1 e2
  subst e1; subst e2
  have q1:j=NameKind.free:=by
   have:=(Bool.and_eq_true_iff.mp (Bool.and_eq_true_iff.mp q).1).1
   exact eq_of_beq this
  subst q1
  exact .inl ⟨rfl,.inl hm⟩
 ·injection e with e1 e2
  subst e1; subst e2
  exact .inr hm
end L2
namespace L2
open PySem
section
variable {prog:Program} {w:World} {A:Around} {R:Result->Shared->Prop} {s:Shared}
theorem WI {elt target iter:Expr} {scope:Scope} {pos:Pos} {it acc:Value} {env:Env} (Wd:Nat->Shared->Prop)
  (turn:∀ n s,Wd n s->wpAny (model prog w) A (pyNext it) (λr s1=>match r with
   | none=>R (.ok .next) s1
   | some v=>wpAny (model prog w) A (letOwnedTupleGo target it v) (λ_ s2=>wpAny (model prog w) A (assign target env v) (λ_ s3=>wpAny (model prog w) A (eval elt env) (λx s4=>
     wpAny (model prog w) A (call (.builtin "list.append") [acc,x]) (λ_ s5=>∃ m,m < n/\Wd m s5) (λ_ _=>False) s4) (λ_ _=>False) s3) (λ_ _=>False) s2) (λ_ _=>False) s1) (λ_ _=>False) s)
  (n:Nat) (h:Wd n s):codeAny (model prog w) A (.compLoop (.ListComp elt [⟨target,iter,[],0⟩] scope pos) 0 it acc env) R s:=by
 refine codeAny_loop rfl Wd (λn s hI=>?_) n h
 show wpAny _ _ (Sem.onRaise (compTurn (.ListComp elt [⟨target,iter,[],0⟩] scope pos) 0 it acc env) _) _ _ s
 refine wpAny_noted ?_
 rw [compTurn_list1]
 refine wpAny_bind (wpAny_standAt (wpAny_bind (wpAny_mono (turn n s hI) (λr s1 h1=>?_) λ_ _ z=>False.elim z)))
 cases r with
 | none=>exact wpAny_pure h1
 | some v=>
  refine wpAny_bind (wpAny_mono h1 (λ_ s2 h2=>?_) λ_ _ z=>False.elim z)
  refine wpAny_bind (wpAny_mono h2 (λ_ s3 h3=>?_) λ_ _ z=>False.elim z)
  refine wpAny_bind (wpAny_bind (wpAny_mono h3 (λx s4 h4=>?_) λ_ _ z=>False.elim z))
  exact wpAny_bind (wpAny_mono h4 (λ_ s5 h5=>wpAny_pure (wpAny_pure ⟨rfl,h5⟩)) λ_ _ z=>False.elim z)
end
end L2
namespace L2
open PySem PySem.Spec PyProof.Rows
noncomputable def Bd (n:Nat) (i:Int):Prop:=i.natAbs < 2 ^ n
theorem Bd.mono {n m:Nat} {i:Int} (h:Bd n i) (k:n<=m:=by decide):Bd m i:=Nat.lt_of_lt_of_le h (Nat.pow_le_pow_right (by decide) k)
theorem Bd.of_le {n:Nat} {i j:Int} (h:Bd n j) (k:i.natAbs<=j.natAbs):Bd n i:=Nat.lt_of_le_of_lt k h
theorem Bd.mul {n m:Nat} {i j:Int} (h:Bd n i) (k:Bd m j):Bd (n + m) (i * j):=by
 unfold Bd
 rw [Int.natAbs_mul,Nat.pow_add]
 rcases Nat.eq_zero_or_pos j.natAbs with z | z
 ·rw [z,Nat.mul_zero]
  exact Nat.mul_pos (Nat.two_pow_pos _) (Nat.two_pow_pos _)
 ·exact Nat.lt_of_lt_of_le (Nat.mul_lt_mul_of_pos_right h z) (Nat.mul_le_mul_left _ (Nat.le_of_lt k))
theorem Bd.add {n:Nat} {i j:Int} (h:Bd n i) (k:Bd n j):Bd (n + 1) (i + j):=by
 have h':i.natAbs < 2 ^ n:=h
 have k':j.natAbs < 2 ^ n:=k
 unfold Bd
 rw [Nat.pow_succ]
 have:=Int.natAbs_add_le i j
 omega
theorem Bd.neg {n:Nat} {i:Int} (h:Bd n i):Bd n (-i):=by
 unfold Bd
 rw [Int.natAbs_neg]
 exact h
theorem Bd.sub {n:Nat} {i j:Int} (h:Bd n i) (k:Bd n j):Bd (n + 1) (i - j):=by
 rw [Int.sub_eq_add_neg]
 exact h.add k.neg
theorem Bd.lit {n:Nat} {i:Int} (h:i.natAbs < 2 ^ n:=by decide):Bd n i:=h
theorem Bd.bits {n:Nat} {i:Int} (h:Bd n i):Builtin.Int.intBits i<=n:=by
 have h':i.natAbs < 2 ^ n:=h
 unfold Builtin.Int.intBits
 split
 ·exact Nat.zero_le _
 ·rename_i z
  have nz:i.natAbs≠0:=by
   intro q
   apply z
   rw [Int.natAbs_eq_zero.mp q]
   rfl
  exact (Nat.log2_lt nz).mpr h'
theorem Bd.fdiv {n:Nat} {i:Int} (h:Bd n i) (j:Int):Bd n (i.fdiv j):=
 h.of_le (Int.natAbs_fdiv_le_natAbs i j)
noncomputable def Zw (i j:Int):Prop:=Bd 60000 i/\Bd 60000 j
noncomputable def qk (_ j:Int):Prop:=j≠0/\Bd 8000 j
section
variable {X:Cx}
theorem Zw.ok {i j:Int} (h:Zw i j):IntMulOk i j:=by
 have h1:=h.1.bits
 have h2:=h.2.bits
 have hc:Builtin.Int.intTooBig (Builtin.Int.intBits i + Builtin.Int.intBits j)=false:=by
  unfold Builtin.Int.intTooBig
  rw [bitsLine_eq]
  exact decide_eq_false (by omega)
 unfold IntMulOk
 rw [hc]
 simp
theorem vD:yi X (binaryOp .Mult) (rI Zw λi j=>.int (i * j)):=g9 λ_ _ _ _ _ _ _ hc q=>mul_int q hc.ok
theorem u9:yi X (binaryOp .FloorDiv) (rI qk λi j=>.int (i.fdiv j)):=g9 λ_ _ _ _ _ _ _ hc q=>by
 refine floordiv_int hc.1 q (.inl (PyProof.noPylong_of_log2 ?_))
 have h':_ < 2 ^ 8000:=hc.2
 have nz:_≠0:=λz=>hc.1 (Int.natAbs_eq_zero.mp z)
 exact Nat.lt_trans ((Nat.log2_lt nz).mpr h') (by decide)
end
section
variable {X:Cx}
noncomputable def ql (K:PySem.W.Frag):List V->Hp->VK->Prop:=λxs H Q=>∃ x c t b,xs=[x,.ty c]/\yU K H x t/\PySem.W.kitOne K t (.type c)=some b/\Q (.bl b) H
theorem JX:yW X (.builtin "isinstance") (ql X.K):=by
 intro pins s σ H xs us Q I r h
 obtain ⟨x,c,t,b,rfl,ty,e,q⟩:=h
 obtain ⟨u,v,rfl,ru,rv⟩:=qa r
 cases (show v=Value.type c from rv)
 exact Xy I ru ty e λtk=>⟨.bl b,H,I.tok tk,rfl,q⟩
end
section
variable {X:Cx} {pins:List (Addr × Obj)} {σ:St} {H:Hp} {s:Shared}
end
section
variable {X:Cx}
end
section
variable {X:Cx}
theorem jn (hc:X.calm=true):yW X (.builtin "all") (λxs H Q=>∃ (p:Addr) (bs:List Bool),xs=[.ref p]/\zP X.K H p (bs.map V.bl)/\Q (.bl (bs.all id)) H):=by
 intro pins s σ H xs us Q I r h
 obtain ⟨p,bs,rfl,hq,q⟩:=h
 obtain ⟨u,rfl,ru⟩:=jl r
 cases ru
 obtain ⟨its,rv,pl,hz⟩:=I.list hq
 have hh:X.A.in1.handled=none:=I.ok.hd hc
 have hlt:p < s.heap.objs.size:=by obtain ⟨o,n,e,_⟩:=pl; exact Heap.lt_size e
 refine call_all_walk (wpAny_pyIter_list pl.isList ?_)
 have hlen:its.length=bs.length:=by rw [<- rv.length,List.length_map]
 refine ⟨s.heap.objs.size,_,_,_,_,_,λi=>bs.getD i true,rfl,Walks.list hh s.heap.objs.size p (Nat.ne_of_lt hlt) its.toArray,⟨⟨_,Heap.get?_push_size _ rfl,rfl,rfl⟩,pl.isList.push _⟩,?_,λh' tk kk=>?_⟩
 ·intro i v s' Q' E' hP hQ'
  have e1:its[i]? = some v:=by simpa using hP
  have hi:i < its.length:=(List.getElem?_eq_some_iff.mp e1).1
  have hb:(bs.map V.bl)[i]? = some (.bl (bs.getD i true)):=by
   rw [List.getElem?_map,List.getElem?_eq_getElem (by omega),List.getD_eq_getElem?_getD,List.getElem?_eq_getElem (by omega)]
   rfl
  obtain ⟨u',e2,r2⟩:=rv.get hb
  rw [e1] at e2
  cases e2
  cases r2
  exact wpAny_truthy_bool hQ'
 ·have e:(List.range its.toArray.size).all (λi=>bs.getD i true)=bs.all id:=by
   rw [List.size_toArray,hlen]
   rw [Bool.eq_iff_iff,List.all_eq_true,List.all_eq_true]
   constructor
   ·intro z b hb
    obtain ⟨i,hi,rfl⟩:=List.mem_iff_getElem.mp hb
    have:=z i (List.mem_range.mpr hi)
    rw [List.getD_eq_getElem?_getD,List.getElem?_eq_getElem hi] at this
    exact this
   ·intro z i hi
    have hi':=List.mem_range.mp hi
    rw [List.getD_eq_getElem?_getD,List.getElem?_eq_getElem hi']
    exact z _ (List.getElem_mem hi')
  refine ⟨.bl (bs.all id),H,I.kept (h':=h') (t':=tk) λb o eb=>kk b o ?_ (Heap.get?_push_of_some _ eb),?_,q⟩
  ·intro hb
   have:b=s.heap.objs.size:=by simpa using hb
   rw [this] at eb
   exact absurd (Heap.lt_size eb) (Nat.lt_irrefl _)
  ·rw [e]
   rfl
end
end L2
namespace L2
open PySem PySem.Spec PyProof.Rows
noncomputable abbrev yh (X:Cx) (scope:Scope) (N:List Str) (C:Addr) (s₀:Shared) (H₀:Hp) (ex:List Addr):Cx:=
 { X with N:=N,s₀:=s₀,H₀:=H₀,env:=compEnvC scope (xj scope X.env) C X.env,outer:=X.stack,ex:=ex,fn:=λ_=>false,pn:=[],xe:=λ_ _=>False }
noncomputable def xr (own:List Str) (caps:List (Nat × Str)) (σ:St):St:=own.map (λ_=>none)++caps.map λp=>(σ[p.1]?).getD none
noncomputable abbrev zU (own:List Str) (caps:List (Nat × Str)):List Str:=own++caps.map (·.2)
structure uI (X:Cx) (scope:Scope) (own:List Str) (caps:List (Nat × Str)):Prop where
 kind:scope.kind=.function
 ncell:∀ y∈scope.names,y.2≠.cell
 locs:∀ y∈scope.names,y.2=.local->scope.names.lookup y.1=some .local
 free:∀ y∈scope.names,y.2=.free->(X.env.cells.lookup y.1).isSome=true
 caps:∀ p∈caps,X.N[p.1]? = some p.2/\scope.names.lookup p.2=some .free/\(X.env.kindOf p.2=some .cell\/X.env.kindOf p.2=some .free)
theorem kG {scope:Scope} {env:Env} {x:Str}:(relabel scope env).names.lookup x=(scope.names.lookup x).map λk=>if (k == .free && env.scope.kind == .function && env.kindOf x == some .cell)=true then .cell else k:=by
 unfold relabel
 generalize scope.names=l
 induction l with
 | nil=>rfl
 | cons p r ih=>
  obtain ⟨n,k⟩:=p
  rw [List.map_cons]
  by_cases e:x=n
  ·subst e
   by_cases c:(k == NameKind.free && env.scope.kind == .function && env.kindOf x == some .cell)=true
   ·simp only [c,if_true,List.lookup_cons,beq_self_eq_true,Option.map_some]
   ·simp only [c,if_false,List.lookup_cons,beq_self_eq_true,Option.map_some,Bool.false_eq_true]
  ·have z:(x == n)=false:=by simpa using e
   dsimp only
   split <;> simp only [List.lookup_cons,z] <;> exact ih
theorem JY {scope:Scope} {env:Env} {x:Str} (nc:∀ y∈scope.names,y.2≠.cell) (h:(relabel scope env).names.lookup x=some .cell\/(relabel scope env).names.lookup x=some .free):(x,NameKind.free)∈scope.names:=by
 rw [kG] at h
 cases e:scope.names.lookup x with
 | none=>rw [e] at h; rcases h with h | h <;> cases h
 | some k=>
  have m:=uc e
  rw [e] at h
  simp only [Option.map_some,Option.some.injEq] at h
  have kf:k=.free:=by
   rcases h with h | h
   ·split at h
    ·rename_i q
     exact eq_of_beq (Bool.and_eq_true_iff.mp (Bool.and_eq_true_iff.mp q).1).1
    ·exact absurd h (nc _ m)
   ·split at h
    ·cases h
    ·exact h
  rw [<- kf]
  exact m
noncomputable def qo (J:It) (g:TG) (te:TE) (Q:VK) (σ0:St) (H1:Hp):Prop:=∃ W:Nat->Nat->List V->St->Hp->Prop,(∃ m,W 0 m [] σ0 H1)∧
 ∀ i m ys σ1 H,W i m ys σ1 H->(J.stop i H/\∀ p,H p=none->Q (.ref p) (upd H p (.lst ys)))∨
  (J.go i H/\ys.length < sizeLine/\∃ N:V->St->Hp->Prop,(∀ y σ' H',N y σ' H'->∃ m',m' < m/\W (i + 1) m' (ys++[y]) σ' H')/\∀ x H',J.yld i H x H'->g x σ1 H' λσ2 H2=>te σ2 H2 λy H3=>N y σ2 H3)
noncomputable def kH (own:List Str) (caps:List (Nat × Str)) (wi:TI) (g:TG) (te:TE):TE:=λσ H Q=>wi σ H λJ H1=>qo J g te Q (xr own caps σ) H1
section
variable {X:Cx} {scope:Scope} {own:List Str} {caps:List (Nat × Str)} {pins:List (Addr × Obj)} {σ:St} {H:Hp} {s s4:Shared} {C D:Addr} {fp:List Addr}
theorem JZ (B:uI X scope own caps) (I:zG X pins σ H s) (hf:∀ b∈fp,zq X pins H b) (hC:s.heap.objs.size<=C) (hlt:∀ b∈fp,b < s.heap.objs.size):(yh X scope (zU own caps) C s H fp).Ok where
 mod:=I.ok.mod
 kind:=B.kind
 glob:=I.ok.glob
 blt:=I.ok.blt
 above:=hC
 inj:=λx y c h1 h2=>I.ok.inj x y c (wL B.free h1).1 (wL B.free h2).1
 has:=λx h=>qj (JY B.ncell h)
 cab:=λx c h _=>by cases h
 hd:=I.ok.hd
 frames:=I.ok.frames
 stk:=.inl rfl
 exf:=λb hb=>⟨λe=>by have:=hlt b hb; rw [e] at this; exact absurd (Nat.lt_of_lt_of_le this hC) (Nat.lt_irrefl _),λx c e=>(hf b hb).2.2.2.2.1 x c (wL B.free e).1⟩
 bs:=I.bs
 bsz:=Nat.le_trans I.ok.bsz I.sz
 noex:=λb o e hb=>by
  rcases (hf b hb).2.2.2.1 with z | z
  ·exact I.ok.noex b o e z
  ·exact absurd (Nat.lt_of_lt_of_le (Heap.lt_size e) (Nat.le_trans I.ok.bsz z)) (Nat.lt_irrefl _)
 exfs:=λb hb z=>by
  rcases List.mem_cons.mp (I.stkSub b z) with e | z
  ·exact (hf b hb).2.1 e
  ·exact (hf b hb).2.2.1 z
 funs:=I.stack
 frf:=I.stkFree
theorem WJ {i:Nat} {x:Str} {v:V} (h1:(zU own caps)[i]? = some x) (h2:(xr own caps σ)[i]? = some (some v)):∃ j,(j,x)∈caps/\σ[j]? = some (some v):=by
 unfold xr at h2
 by_cases hi:i < own.length
 ·rw [List.getElem?_append_left (by simpa using hi),List.getElem?_map] at h2
  cases e:own[i]? with
  | none=>rw [e] at h2; cases h2
  | some a=>rw [e] at h2; cases h2
 ·rw [List.getElem?_append_right (by simpa using hi),List.length_map,List.getElem?_map] at h2
  unfold zU at h1
  rw [List.getElem?_append_right (by omega),List.getElem?_map] at h1
  cases e:caps[i - own.length]? with
  | none=>rw [e] at h1; cases h1
  | some p=>
   obtain ⟨j,n⟩:=p
   rw [e] at h1 h2
   cases h1
   refine ⟨j,List.mem_of_getElem? e,?_⟩
   simp only [Option.map_some,Option.some.injEq] at h2
   cases q:σ[j]? with
   | none=>rw [q] at h2; cases h2
   | some o=>rw [q] at h2; exact congrArg some h2
theorem WK (B:uI X scope own caps) (I:zG X pins σ H s) (hf:∀ b∈fp,zq X pins H b) (hC:s.heap.objs.size<=C) (hlt:∀ b∈fp,b < s.heap.objs.size)
  {m:Str->Option Value} (hn:s4.heap.Ns C m) (hk:∀ b o,s.heap.get? b=some o->s4.heap.get? b=some o) (ho:s4.os=s.os) (hb:AllBare s4.gens) :
  zG (yh X scope (zU own caps) C s H fp) [] (xr own caps σ) H s4 where
 ok:=JZ B I hf hC hlt
 os:=ho
 bare:=hb
 base:=Un.kept hk
 loc:=⟨m,hn,λi x v h1 h2 h3=>by
  obtain ⟨j,hm,hs⟩:=WJ h1 h2
  obtain ⟨c1,c2,c3⟩:=B.caps _ hm
  obtain ⟨m',_,hl⟩:=I.loc
  have vis:uq X.env.scope x:=c3.elim (λz=>.inr (.inl z)) λz=>.inr (.inr z)
  obtain ⟨u,r,l⟩:=hl j x v c1 hs vis
  refine ⟨u,r,.inr ?_⟩
  have hm2:(x,NameKind.free)∈scope.names:=uc c2
  obtain ⟨c',hc'⟩:=qj (env:=X.env) hm2
  have hc2:=(wL B.free hc').1
  refine ⟨?_,c',hc',?_⟩
  ·show (relabel scope X.env).names.lookup x=some .cell\/(relabel scope X.env).names.lookup x=some .free
   rw [kG,c2,Option.map_some]
   split
   ·exact .inl rfl
   ·exact .inr rfl
  ·rcases l with ⟨k,_⟩ | ⟨_,c,e,z⟩
   ·rcases c3 with c3 | c3 <;> rw [c3] at k <;> cases k
   ·rw [hc2] at e
    cases e
    obtain ⟨o,e1,e2⟩:=z
    exact ⟨o,hk _ o e1,e2⟩⟩
 cell:=λx c e=>by
  obtain ⟨v,o,e1,e2⟩:=I.cell x c (wL B.free e).1
  exact ⟨v,o,hk _ o e1,e2⟩
 free:=I.hok.fresh hC
 freeC:=λx c e=>I.freeC x c (wL B.free e).1
 pin:=λp hp=>by simp at hp
 hok:=I.hok.kept hk
 len:=by
  show (xr own caps σ).length=(zU own caps).length
  unfold xr zU
  simp
noncomputable abbrev yE (its:List Value) (k:Nat):Obj:={ cls:=.type "list",data:=.seq its.toArray k }
theorem Zx {Y:Cx} {its:List Value} {k:Nat} {y:Value} {pl:List (Addr × Obj)} {Q:Value->Shared->Prop} {E:Value->Shared->Prop} (I:zG Y ((D,yE its k) :: pl) σ H s) (hn:zq Y [] H D) (hp:Y.pn=[]) (hz:its.length<=sizeLine)
  (q:∀ h' k' tk,(∀ b o,b≠D->s.heap.get? b=some o->h'.get? b=some o)->zG Y [(D,yE (its++[y]) k')] σ H { s with heap:=h',toks:=tk }->Q .none { s with heap:=h',toks:=tk }) :
  wpAny (model Y.prog Y.w) Y.A (call (.builtin "list.append") [.ref D,y]) Q E s:=by
 have pD:=I.pin (D,yE its k) (List.mem_append_right _ List.mem_cons_self)
 have e:s.heap.get? D=some (yE its k):=pD.1
 refine call_meets F.slot_list_append ⟨_,e,rfl⟩ F.entry_list_append (F.args_list_append_2 _ _) (PySem.list_append D its.toArray k y (by rw [List.size_toArray]; exact hz)) ⟨e,?_⟩
 have e2:=PySem.IsL.update e (·.push y)
 have ea:its.toArray.push y=(its++[y]).toArray:=by simp
 have keep:∀ b o,b≠D->s.heap.get? b=some o->(s.heap.update D (Obj.mapSeq (·.push y))).get? b=some o:=λb o hb eb=>(Heap.get?_update_other s.heap _ (Ne.symm hb)).trans eb
 have I0:zG Y [] σ H s:=I.pins_of λp hp'=>by cases hp'
 have I1:zG Y [] σ H { s with heap:=s.heap.update D (Obj.mapSeq (·.push y)),toks:=s.toks }:=I0.turned keep hn.1 hn.2.1 hn.2.2.2.1 hn.2.2.2.2.1 hn.2.2.2.2.2
 have e3:(s.heap.update D (Obj.mapSeq (·.push y))).get? D=some (yE (its++[y]) _):=e2.trans (by rw [ea])
 have I2:zG Y [(D,yE (its++[y]) (if ((its++[y]).toArray.size == its.toArray.size)=true then k else k + 1))] σ H { s with heap:=s.heap.update D (Obj.mapSeq (·.push y)),toks:=s.toks }:=I1.pins_of λp hp'=>by
  rw [List.mem_singleton.mp hp']
  exact ⟨e3,hn.1,hn.2.1,hn.2.2.1,λv z=>by cases z⟩
 exact q _ _ s.toks keep I2
end
section
variable {X:Cx} {scope:Scope} {own:List Str} {caps:List (Nat × Str)} {elt tg iter:Expr} {wi:TI} {g:TG} {te:TE} {pos:Pos}
theorem WL {pins:List (Addr × Obj)} {σ:St} {H2:Hp} {s2:Shared} {it:Addr} {fp:List Addr} {tn:Nat->Heap->Prop} {J:It} {W:Nat->Nat->List V->St->Hp->Prop} {m0:Nat} {Q:VK} {E:Value->Shared->Prop} {RR:Value->Addr->Result->Shared->Prop}
  (B:uI X scope own caps) (hc:X.calm=true) (hg:∀ C s₀ H₀ ex,PG (yh X scope (zU own caps) C s₀ H₀ ex) tg g) (he:∀ C s₀ H₀ ex,PE (yh X scope (zU own caps) C s₀ H₀ ex) elt te)
  (I2:zG X pins σ H2 s2) (T:wW X.prog X.w X.K tg J fp it tn) (st2:tn 0 s2.heap) (f2:∀ b∈fp,zq X pins H2 b) (w0:W 0 m0 [] (xr own caps σ) H2)
  (turn:∀ i m ys σ1 H,W i m ys σ1 H->(J.stop i H/\∀ p,H p=none->Q (.ref p) (upd H p (.lst ys)))∨
   (J.go i H/\ys.length < sizeLine/\∃ N:V->St->Hp->Prop,(∀ y σ' H',N y σ' H'->∃ m',m' < m/\W (i + 1) m' (ys++[y]) σ' H')/\∀ x H',J.yld i H x H'->g x σ1 H' λσ2 H2=>te σ2 H2 λy H3=>N y σ2 H3))
  (hRR:∀ D C s6 H6 ys m,s6.heap.Ns C m->s2.heap.objs.size<=C->(∀ h',Heap.SameBut C s6.heap h'->zG X pins σ (upd H6 D (.lst ys)) { s6 with heap:=h' })->upd H6 D (.lst ys) C=none->Q (.ref D) (upd H6 D (.lst ys))->RR (.ref D) C (.ok .next) s6) :
  wpAny (model X.prog X.w) X.A (newList []) (λacc s3=>wpAny (model X.prog X.w) X.A (newFunctionEnv scope X.env.globals (xj scope X.env) [] X.env.qual none .none (some X.env)) (λcenv s4=>
   codeAny (model X.prog X.w) X.A (.compStart (.ListComp elt [⟨tg,iter,[],0⟩] scope pos) 0 (.ref it) acc { cenv with scope:=relabel scope X.env }) (RR acc cenv.locals) s4) E s3) E s2:=by
 have hlt:∀ b∈fp,b < s2.heap.objs.size:=λb hb=>by
  obtain ⟨o,ho,_⟩:=T.obj _ _ st2 b hb
  exact Heap.lt_size ho
 refine wpAny_newObj_type (wpAny_newFunctionEnv B.ncell (λy hy=>by simp at hy) (λh4 hns hsb=>?_) B.kind)
 dsimp only at hns hsb |-
 generalize hP:s2.heap.push { cls:=.type "list",dict:=none,data:=.seq ([]:List Value).toArray }=HD at hns hsb |-
 have hCD:HD.objs.size=s2.heap.objs.size + 1:=by rw [<- hP,Heap.size_push]
 have hDC:s2.heap.objs.size≠HD.objs.size:=by omega
 have hle:s2.heap.objs.size<=HD.objs.size:=by omega
 have old:∀ b o,s2.heap.get? b=some o->h4.get? b=some o:=λb o eb=>by
  have hb:=Heap.lt_size eb
  exact hsb.extBut b o (Nat.ne_of_lt (Nat.lt_of_lt_of_le hb hle)) (Heap.get?_push_of_some _ (by rw [<- hP]; exact Heap.get?_push_of_some _ eb))
 have hD4:h4.get? s2.heap.objs.size=some { cls:=.type "list",data:=.seq ([]:List Value).toArray 0 }:=
  hsb.extBut _ _ hDC (Heap.get?_push_of_some _ (by rw [<- hP]; exact Heap.get?_push_size _ rfl))
 have IY:zG (yh X scope (zU own caps) HD.objs.size s2 H2 fp) [] (xr own caps σ) H2 { s2 with heap:=h4,toks:=s2.toks + ([]:List (Str × Value)).length }:=
  WK B I2 f2 (by omega) hlt hns old rfl I2.bare
 have stat:∀ {H':Hp},(∀ b∈fp,H' b=none)->∀ b∈fp,zq (yh X scope (zU own caps) HD.objs.size s2 H2 fp) [] H' b:=λ{H'} hn b hb=>by
  have hb2:=hlt b hb
  refine ⟨hn b hb,?_,λz=>?_,.inl hb,λx c ec=>(f2 b hb).2.2.2.2.1 x c (wL B.free ec).1,λp hp=>by simp at hp⟩
  ·exact Nat.ne_of_lt (Nat.lt_of_lt_of_le hb2 hle)
  ·rcases List.mem_cons.mp (I2.stkSub b z) with e | z
   ·exact (f2 b hb).2.1 e
   ·exact (f2 b hb).2.2.1 z
 have statD:∀ {H':Hp},H' s2.heap.objs.size=none->zq (yh X scope (zU own caps) HD.objs.size s2 H2 fp) [] H' s2.heap.objs.size:=λ{H'} hn=>by
  refine ⟨hn,hDC,λz=>?_,.inr (Nat.le_refl _),λx c ec z=>?_,λp hp=>by simp at hp⟩
  ·obtain ⟨_,o,ho,_⟩:=I2.stack.mem z
   exact absurd (Heap.lt_size ho) (Nat.lt_irrefl _)
  ·obtain ⟨v,o,ho,_⟩:=I2.cell x c (wL B.free ec).1
   rw [z] at ho
   exact absurd (Heap.lt_size ho) (Nat.lt_irrefl _)
 have neD:∀ b∈fp,b≠s2.heap.objs.size:=λb hb=>Nat.ne_of_lt (hlt b hb)
 have IY':zG (yh X scope (zU own caps) HD.objs.size s2 H2 fp) [(s2.heap.objs.size,yE [] 0)] (xr own caps σ) H2 { s2 with heap:=h4,toks:=s2.toks + ([]:List (Str × Value)).length }:=
  IY.pins_of λp hp=>by
   rw [List.mem_singleton.mp hp]
   have z:=statD (I2.hok.fresh (Nat.le_refl _))
   exact ⟨hD4,z.1,z.2.1,z.2.2.1,λv z=>by cases z⟩
 have loop:∀ s3:Shared,s3={ s2 with heap:=h4,toks:=s2.toks + ([]:List (Str × Value)).length }->
   codeAny (model X.prog X.w) X.A (.compLoop (.ListComp elt [⟨tg,iter,[],0⟩] scope pos) 0 (.ref it) (.ref s2.heap.objs.size) (compEnvC scope (xj scope X.env) HD.objs.size X.env))
    (RR (.ref s2.heap.objs.size) HD.objs.size) s3:=by
  rintro s3 rfl
  refine WI (λn s'=>∃ i ys σ' H' its k,zG (yh X scope (zU own caps) HD.objs.size s2 H2 fp) [(s2.heap.objs.size,yE its k)] σ' H' s'/\tn i s'.heap/\(∀ b∈fp,H' b=none)∧
   zO ys its/\ys.length<=sizeLine/\W i n ys σ' H') ?_ m0 ⟨0,[],_,H2,[],0,IY',T.keep _ _ _ st2 λb hb o eb=>old b o eb,λb hb=>(f2 b hb).1,.nil,Nat.zero_le _,w0⟩
  rintro n s5 ⟨i,ys,σ5,H5,its,k,I5,st5,fr5,rv5,hz5,w5⟩
  have stat5:∀ {H':Hp},(∀ b∈fp,H' b=none)->∀ b∈fp,zq (yh X scope (zU own caps) HD.objs.size s2 H2 fp) [(s2.heap.objs.size,yE its k)] H' b:=λ{H'} hn b hb=>by
   obtain ⟨a1,a2,a3,a4,a5,_⟩:=stat hn b hb
   refine ⟨a1,a2,a3,a4,a5,λp hp=>?_⟩
   have hp':p∈[(s2.heap.objs.size,yE its k)]:=hp
   rw [List.mem_singleton.mp hp']
   exact Ne.symm (neD b hb)
  rcases turn i n ys σ5 H5 w5 with ⟨stop,qn⟩ | ⟨go,hlen,N,hN,step⟩
  ·refine zd (T.done (yh X scope (zU own caps) HD.objs.size s2 H2 fp) rfl rfl rfl hc i _ s5 σ5 H5 _ I5 (stat5 fr5) st5 stop) λr s6 ⟨hr,I6⟩=>?_
   subst hr
   obtain ⟨pD1,pD2,_⟩:=I6.pin (s2.heap.objs.size,yE its k) (List.mem_append_right _ List.mem_cons_self)
   obtain ⟨m6,hn6,_⟩:=I6.loc
   refine hRR _ _ s6 H5 ys m6 hn6 (by omega) (λh' sb=>?_) (by rw [zi (Ne.symm hDC)]; exact I6.free) (qn _ pD2)
   have hC5:H5 HD.objs.size=none:=I6.free
   have nb:∀ b o,s2.heap.get? b=some o->b≠HD.objs.size/\b≠s2.heap.objs.size:=λb o eb=>by
    have hb:=Heap.lt_size eb
    exact ⟨Nat.ne_of_lt (Nat.lt_of_lt_of_le hb hle),Nat.ne_of_lt hb⟩
   have nt:∀ b o,H5 b=some o->b≠s2.heap.objs.size:=λb o eb z=>by rw [z] at eb; rw [show H5 s2.heap.objs.size=none from pD2] at eb; cases eb
   have un:Un (yf X.stack) fp H2 (upd H5 s2.heap.objs.size (.lst ys)) s2.heap h':=
    ⟨λb o eb n1 n2 n3=>sb.extBut b o (nb b o eb).1 (I6.base.keep b o eb n1 n2 n3),
     λb o eb n1 n2 n3=>by
      obtain ⟨sl,e1⟩:=I6.base.slot b o eb n1 n2 n3
      exact ⟨sl,sb.extBut b _ (nb b o eb).1 e1⟩,
     λb o eb n1 n3=>by
      rw [zi (nb b o eb).2]
      exact I6.base.free b o eb n1 n3,
     λb o eb n3=>by
      obtain ⟨o',e1⟩:=I6.base.there b o eb n3
      exact ⟨o',sb.extBut b _ (nb b o eb).1 e1⟩,
     λb xs eb=>by
      have e1:=I6.base.tups b xs eb
      rw [zi (nt b _ e1)]
      exact e1,
     λb o u eb=>by
      have e1:=I6.base.frzs b o u eb
      rw [zi (nt b _ e1)]
      exact e1,
     λb ps eb=>by
      obtain ⟨more,e1⟩:=I6.base.tbls b ps eb
      refine ⟨more,?_⟩
      rw [zi (nt b _ e1)]
      exact e1⟩
   have ok5:ya X.prog X.w (upd H5 s2.heap.objs.size (.lst ys)) h':=λb u eb=>by
    by_cases hb:b=s2.heap.objs.size
    ·subst hb
     rw [zH] at eb
     cases eb
     exact ⟨hz5,its,k,rv5,sb.extBut _ _ hDC pD1⟩
    ·rw [zi hb] at eb
     refine (I6.hok b u eb).stay (λc v hcv ev=>sb.extBut c v ?_ ev) (λc ec=>by rw [zi (nt c _ ec)]; exact ec) λc xs ec=>by rw [zi (nt c _ ec)]; exact ec
     rintro rfl
     rcases hcv with z | z
     ·rw [<- z,hC5] at eb
      cases eb
     ·rw [hC5] at z
      cases z
   exact I2.call' (s':={ s6 with heap:=h' }) (ch:=fp) I6.os un ok5 I6.bare λb hb=>⟨(f2 b hb).2.2.2.1,(f2 b hb).2.1,(f2 b hb).2.2.2.2.1,(f2 b hb).2.2.2.2.2⟩
  ·refine zd (T.item (yh X scope (zU own caps) HD.objs.size s2 H2 fp) rfl rfl rfl hc i _ s5 σ5 H5 _ I5 (stat5 fr5) st5 go) λr s6 ⟨u,hr,h6⟩=>?_
   subst hr
   refine zd h6 λ_ s7 ⟨x,H7,I7,r7,y7,st7,fr7⟩=>?_
   have I7':=I7.pinned (stat5 fr7) (T.obj _ _ st7)
   refine zd (hg HD.objs.size s2 H2 fp _ s7 σ5 H7 x u _ I7' r7 (step x H7 y7)) λ_ s8 ⟨σ8,H8,I8,q8⟩=>?_
   refine zd (he HD.objs.size s2 H2 fp _ s8 σ8 H8 _ I8 q8) λyv s9 ⟨y,H9,I9,r9,n9⟩=>?_
   obtain ⟨m',hm',w9⟩:=hN y σ8 H9 n9
   have pD9:=(I9.pin (s2.heap.objs.size,yE its k) (List.mem_append_right _ (List.mem_append_left _ List.mem_cons_self))).2.1
   have hl:its.length=ys.length:=rv5.length.symm
   refine Zx (Y:=yh X scope (zU own caps) HD.objs.size s2 H2 fp) (its:=its) (k:=k) (pl:=uw fp s7.heap) I9 (statD pD9) rfl (by omega) λh' k' tk keep I'=>?_
   refine ⟨m',hm',i + 1,ys++[y],σ8,H9,its++[yv],k',I',?_,λb hb=>?_,rv5.append (.cons r9 .nil),?_,w9⟩
   ·refine T.keep _ _ _ st7 λb hb o eb=>keep b o (neD b hb) ?_
    exact (I9.pin (b,o) (List.mem_append_right _ (List.mem_append_right _ (vi hb eb)))).1
   ·obtain ⟨o,eb,_⟩:=T.obj _ _ st7 b hb
    exact (I9.pin (b,o) (List.mem_append_right _ (List.mem_append_right _ (vi hb eb)))).2.1
   ·rw [List.length_append,List.length_singleton]
    omega
 exact codeAny_compStart_list (loop _ rfl) (T.self _ 0 _ _ _ (T.keep _ _ _ st2 λb hb o eb=>old b o eb) (loop _ rfl))
theorem xY (B:uI X scope own caps) (hc:X.calm=true) (hi:PI X tg iter wi) (hg:∀ C s₀ H₀ ex,PG (yh X scope (zU own caps) C s₀ H₀ ex) tg g)
  (he:∀ C s₀ H₀ ex,PE (yh X scope (zU own caps) C s₀ H₀ ex) elt te) (hs:∀ x,foldedSetIterable iter X.env x=pure x:=by intro _; rfl) :
  PE X (.ListComp elt [⟨tg,iter,[],0⟩] scope pos) (kH own caps wi g te):=by
 intro pins s σ H Q I h
 rw [eval_ListComp]
 refine wpAny_comprehension_free (use:=none) rfl hs (qi B.free) B.kind B.locs ?_
 refine zd (hi pins s σ H _ I h) λxv s1 h1=>zd h1 λitv s2 h2=>?_
 obtain ⟨it,fp,tn,J,H2,e,I2,T,st2,f2,W,⟨m0,w0⟩,turn⟩:=h2
 subst e
 refine WL (RR:=λacc C=>compPost (model X.prog X.w) X.A X.xe none (EP X pins σ Q) acc C) B hc hg he I2 T st2 f2 w0 turn λD C s6 H6 ys m hn hC J6 hC6 q=>?_
 exact ⟨m,hn,λh' sb=>⟨.ref D,_,J6 h' sb,rfl,q⟩⟩
theorem uJ {i:Nat} {y:Str} {py spos:Pos} (hN:X.N.Nodup) (hy:X.N[i]? = some y) (hl:X.env.scope.names.lookup y=some .local) (B:uI X scope own caps) (hc:X.calm=true) (hi:PI X tg iter wi) (hg:∀ C s₀ H₀ ex,PG (yh X scope (zU own caps) C s₀ H₀ ex) tg g)
  (he:∀ C s₀ H₀ ex,PE (yh X scope (zU own caps) C s₀ H₀ ex) elt te) (hsw:swapsWith (.ListComp elt [⟨tg,iter,[],0⟩] scope pos) (some (.Name y py)) spos.line X.env=pure true) (hs:∀ x,foldedSetIterable iter X.env x=pure x:=by intro _; rfl) :
  PS X (.Assign [.Name y py] (.ListComp elt [⟨tg,iter,[],0⟩] scope pos) spos) (uB (kH own caps wi g te) (wB i)):=by
 intro pins s σ H D0 I h
 rw [exec_Assign_Name_used _ _ _ _ hsw]
 refine wpAny_bind (wpAny_standAt (wpAny_bind ?_))
 change wpAny _ X.A (do let _ <- comprehension (.ListComp elt [⟨tg,iter,[],0⟩] scope pos) scope X.env _ (newList []) false (eval iter X.env) (some (assign (.Name y py) X.env))) _ _ s
 refine wpAny_bind (wpAny_mono (wpAny_comprehension_free (use:=some (assign (.Name y py) X.env)) (Q:=λ_ s'=>SP X pins D0 .next s') rfl hs (qi B.free) B.kind B.locs ?_) (λ_ s' hq=>wpAny_pure (wpAny_pure hq)) λ_ _ e=>e)
 refine zd (hi pins s σ H _ I h) λxv s1 h1=>zd h1 λitv s2 h2=>?_
 obtain ⟨it,fp,tn,J,H2,e,I2,T,st2,f2,W,⟨m0,w0⟩,turn⟩:=h2
 subst e
 refine WL (Q:=λx H1=>D0.nx (σ.set i (some x)) H1) (RR:=λacc C=>compPost (model X.prog X.w) X.A X.xe (some (assign (.Name y py) X.env)) (λ_ s'=>SP X pins D0 .next s') acc C) B hc hg he I2 T st2 f2 w0 turn λD C s6 H6 ys m hn hC J6 hC6 q=>?_
 have I6:zG X pins σ (upd H6 D (.lst ys)) s6:=J6 s6.heap (.refl ..)
 have CL:C≠X.env.locals:=λz=>by rw [z] at hC; exact absurd (Nat.lt_of_lt_of_le I2.lt hC) (Nat.lt_irrefl _)
 have CC:∀ x c,X.env.cells.lookup x=some c->c≠C:=λx c ec z=>by
  obtain ⟨v,o,ho,_⟩:=I2.cell x c ec
  rw [z] at ho
  exact absurd (Nat.lt_of_lt_of_le (Heap.lt_size ho) hC) (Nat.lt_irrefl _)
 have CP:∀ p∈X.pn++pins,p.1≠C:=λp hp z=>by
  have hl:=Heap.lt_size (I2.pin p hp).1
  rw [z] at hl
  exact absurd (Nat.lt_of_lt_of_le hl hC) (Nat.lt_irrefl _)
 change wpAny _ X.A (assign (.Name y py) X.env (.ref D)) _ _ s6
 refine wpAny_assign_Name (ZN I6 hN hy (.inl hl) (v:=.ref D) rfl (λs7 I7 ⟨a,sb,ha⟩=>?_) (.inr hl))
 have aC:C≠a:=λz=>by
  rcases ha with e | e
  ·exact CL (z.trans e)
  ·exact CC _ _ e z.symm
 refine ⟨m,hn.sameBut sb aC,λh' sb'=>⟨_,_,I7.turned (h':=h') (t':=s7.toks) (it:=C) (λb o hb eb=>sb'.extBut b o hb eb) hC6 CL (.inr (Nat.le_trans I2.sz hC)) CC CP,q⟩⟩
end
end L2
namespace L2
open PySem PySem.Spec PyProof.Rows
theorem xu {K:PySem.W.Frag} {a:Addr} {xs:List V} {g:TG} {te:TE} {σ0:St} {H:Hp} {Q:VK} (Pv:Nat->List V->St->Hp->Prop) (h0:Pv 0 [] σ0 H) (hl:∀ i ys σ H,i<=xs.length->Pv i ys σ H->zP K H a xs/\ys.length<=i) (hz:xs.length<=sizeLine)
  (hs:∀ i x ys σ H,xs[i]? = some x->Pv i ys σ H->g x σ H λσ2 H2=>te σ2 H2 λy H3=>Pv (i + 1) (ys++[y]) σ2 H3)
  (hd:∀ ys σ H,Pv xs.length ys σ H->∀ p,H p=none->Q (.ref p) (upd H p (.lst ys))) :
  qo (uW K a) g te Q σ0 H:=by
 refine ⟨λi m ys σ H=>m=xs.length - i/\i<=xs.length/\Pv i ys σ H,⟨xs.length,by simp,Nat.zero_le _,h0⟩,?_⟩
 rintro i m ys σ H ⟨rfl,hi,p⟩
 obtain ⟨q,hy⟩:=hl i ys σ H hi p
 by_cases hlt:i < xs.length
 ·refine .inr ⟨⟨xs,xs[i],q,by simp [hlt]⟩,by omega,λy σ' H'=>Pv (i + 1) (ys++[y]) σ' H',λy σ' H' z=>⟨xs.length - (i + 1),by omega,rfl,hlt,z⟩,λx H' y=>?_⟩
  obtain ⟨e,y⟩:=y
  subst e
  exact hs i x ys σ _ (y xs q) p
 ·have e:i=xs.length:=by omega
  subst e
  exact .inl ⟨⟨xs,q,Nat.le_refl _⟩,hd ys σ H p⟩
theorem jo {lo:Int} {n:Nat} {g:TG} {te:TE} {σ0:St} {H:Hp} {Q:VK} (Pv:Nat->List V->St->Hp->Prop) (h0:Pv 0 [] σ0 H) (hl:∀ i ys σ H,Pv i ys σ H->ys.length<=i) (hz:n<=sizeLine)
  (hs:∀ i ys σ H,i < n->Pv i ys σ H->g (.int (lo + i)) σ H λσ2 H2=>te σ2 H2 λy H3=>Pv (i + 1) (ys++[y]) σ2 H3)
  (hd:∀ ys σ H,Pv n ys σ H->∀ p,H p=none->Q (.ref p) (upd H p (.lst ys))):qo (uv lo n) g te Q σ0 H:=by
 refine ⟨λi m ys σ H=>m=n - i/\i<=n/\Pv i ys σ H,⟨n,by simp,Nat.zero_le _,h0⟩,?_⟩
 rintro i m ys σ H ⟨rfl,hi,p⟩
 have hy:=hl i ys σ H p
 by_cases hlt:i < n
 ·refine .inr ⟨hlt,by omega,λy σ' H'=>Pv (i + 1) (ys++[y]) σ' H',λy σ' H' z=>⟨n - (i + 1),by omega,rfl,hlt,z⟩,λx H' y=>?_⟩
  obtain ⟨e,y⟩:=y
  subst e y
  exact hs i ys σ _ hlt p
 ·have e:i=n:=by omega
  subst e
  exact .inl ⟨Nat.le_refl _,hd ys σ H p⟩
structure Fn (P:Program) (w:World) (K:PySem.W.Frag) (mg:Str->Option Value) (base:Heap) (x:Str) (ps:List Str) (k:Nat) (sp:Sp):Prop where
 ex:∃ f fd,zL P w K mg base zj k f fd ps sp/\mg x=some (.ref f)/\PySem.W.keepIn K (.ref f)=true/\xN K fd ps []
theorem Fn.mono {P:Program} {w:World} {K:PySem.W.Frag} {mg:Str->Option Value} {base:Heap} {x:Str} {ps:List Str} {j k:Nat} {sp:Sp} (F:Fn P w K mg base x ps j sp) (h:j<=k:=by decide):Fn P w K mg base x ps k sp:=by
 obtain ⟨f,fd,a,b,c,d⟩:=F.ex
 exact ⟨f,fd,a.mono h,b,c,d⟩
theorem zZ {X:Cx} {x:Str} {ps:List Str} {k:Nat} {sp:Sp} {e:Expr} {es:List Expr} {t:TA} {p pos:Pos} (F:Fn X.prog X.w X.K X.mg X.base x ps k sp) (hr:zf k X.A) (hg:Gl X x) (ha:PA X (e :: es) t)
  (hdb:(x == ("__debug__" : Str))=false:=by decide) (he:starEach (e :: es) X.env=(false,eval e X.env) :: starEach es X.env:=by rfl) (hpl:(backTo pos (starEach es X.env)).any (·.1)=false:=by rfl) :
  PE X (.Call (.Name x p) (e :: es) [] pos) (u5 sp [] E0 t):=by
 obtain ⟨f,fd,a,b,c,d⟩:=F.ex
 exact Zi a hr hg b c d .nil qf ha hdb he hpl
end L2
namespace L2
open PySem PySem.Spec PyProof.Rows
theorem yj:bootBuiltins "isinstance" = some (.builtin "isinstance"):=by decide +kernel
theorem vm:bootBuiltins "len" = some (.builtin "len"):=by decide +kernel
theorem jp:bootBuiltins "all" = some (.builtin "all"):=by decide +kernel
theorem WM:bootBuiltins "int" = some (.type "int"):=by decide +kernel
theorem Ja:bootBuiltins "bool" = some (.type "bool"):=by decide +kernel
theorem uK:bootBuiltins "tuple" = some (.type "tuple"):=by decide +kernel
theorem vP:bootBuiltins "list" = some (.type "list"):=by decide +kernel
section
variable (K:PySem.W.Frag)
theorem Jb:PySem.W.kitOne K (.type "tuple") (.type "tuple")=some true:=by first | rfl | decide +kernel | (unfold PySem.W.kitOne; rw [if_pos (by decide +kernel)])
end
theorem wr {X:Cx} {scope:Scope} {own:List Str} (k:scope.kind=.function) (n:scope.names.all (λy=>y.2 != .cell && y.2 != .free && (y.2 != .local || scope.names.lookup y.1 == some .local))=true:=by first | rfl | decide +kernel):uI X scope own []:=by
 have z:∀ y∈scope.names,(y.2 != .cell && y.2 != .free && (y.2 != .local || scope.names.lookup y.1 == some .local))=true:=List.all_eq_true.mp n
 refine ⟨k,λy hy e=>?_,λy hy e=>?_,λy hy e=>?_,λp hp=>by cases hp⟩
 ·have:=z y hy
  rw [e] at this
  simp at this
 ·have:=z y hy
  rw [e] at this
  simpa using this
 ·have:=z y hy
  rw [e] at this
  simp at this
structure yt (K:PySem.W.Frag) (x qual:Str) (st:Stmt) (f:Addr) (fd:FuncData) (d:Value):Prop where
 ex:∃ (oc:Value) (od:Option Addr) (kV doc pm:Value) (an:Option Addr) (cdv ct:Value) (osl:Array (Option Value)) (T:Addr) (oT:Obj) (n:Nat),
  fd=PySem.W.fnOf x qual (xq st) (xD st) (zW st) (.ref T) kV doc pm an cdv ct/\K.lookup f=some ⟨oc,od,.func fd,osl⟩/\PySem.W.codeIn K cdv qual=true/\K.lookup T=some oT/\oT.data=.seq #[d] n
 kp:PySem.W.keepIn K (.ref f)=true
theorem yt.ok {P:Program} {w:World} {K:PySem.W.Frag} {mg:Str->Option Value} {base:Heap} {x qual:Str} {st:Stmt} {f:Addr} {fd:FuncData} {d:Value} {N ps:List Str} {k:Nat} {sp:Sp} (F:yt K x qual st f fd d) (S:zv N ps (zW st))
  (len:∀ vs H Q E,sp vs H Q E->vs.length=ps.length)
  (hbody:∀ (cdv:Value) (A:Around) (outer:List Env) (s:Shared) (H:Hp) (vs:List V) (Q:VK) (E:XK),zf k (A.deeper (envOfC qual (zW st) s.heap.objs.size f cdv))->sp vs H Q E->
   ∃ t,xz (zM zj P w K mg base N qual (zW st) f cdv A outer s H E).nox (xD st) t/\t { nx:=λ_ H'=>Q .non H',rt:=Q } (xp N vs) H):zL P w K mg base zj (k + 1) f fd ps sp:=by
 obtain ⟨oc,od,kV,doc,pm,an,cdv,ct,osl,T,oT,n,rfl,lk,hcd,_⟩:=F.ex
 refine kE lk hcd S len λA outer s H vs Q E hr hsp=>?_
 obtain ⟨t,h,q⟩:=hbody cdv A outer s H vs Q E hr hsp
 exact ⟨t,h.nox,q⟩
end L2
namespace L2
open PySem PySem.Spec PyProof.Rows
theorem WN {K:PySem.W.Frag} {x qual:Str} {st:Stmt} {f T:Addr} {oc kV doc pm cdv ct d:Value} {od an:Option Addr} {osl:Array (Option Value)} {oT:Obj} {n:Nat} (l:K.lookup f=some ⟨oc,od,.func (PySem.W.fnOf x qual (xq st) (xD st) (zW st) (.ref T) kV doc pm an cdv ct),osl⟩)
  (c:PySem.W.codeIn K cdv qual=true) (k:PySem.W.keepIn K (.ref f)=true) (t:K.lookup T=some oT) (e:oT.data=.seq #[d] n):yt K x qual st f (PySem.W.fnOf x qual (xq st) (xD st) (zW st) (.ref T) kV doc pm an cdv ct) d:=
 ⟨⟨oc,od,kV,doc,pm,an,cdv,ct,osl,T,oT,n,rfl,l,c,t,e⟩,k⟩
theorem yt.binds {K:PySem.W.Frag} {x qual:Str} {st:Stmt} {f:Addr} {fd:FuncData} {d:Value} {ps:List Str} (F:yt K x qual st f fd d)
  (h:∀ (T:Addr) (kV doc pm:Value) (an:Option Addr) (cdv ct:Value) (us:List Value),us.length=ps.length->∃ k:Option (Array Value)->Sem (List (Str × Value)),
   bindArgs (PySem.W.fnOf x qual (xq st) (xD st) (zW st) (.ref T) kV doc pm an cdv ct) ⟨us,[]⟩=seqItems? (.ref T) >>= k/\k (some #[d])=pure (ps.zip us)):xN K fd ps []:=by
 obtain ⟨oc,od,kV,doc,pm,an,cdv,ct,osl,T,oT,n,rfl,lk,hcd,t,e⟩:=F.ex
 intro s us X hl
 rw [List.append_nil] at hl |-
 obtain ⟨k,h1,h2⟩:=h T kV doc pm an cdv ct us hl
 exact .of_defaults (T:=T) rfl (X T oT t) e h1 h2
end L2
namespace L2
open PySem PySem.Spec PyProof.Rows
theorem wD {X:Cx} {scope S:Scope} {own N:List Str} {caps:List (Nat × Str)} (k:scope.kind=.function) (n:scope.names.all (λy=>y.2 != .cell && (y.2 != .local || scope.names.lookup y.1 == some .local))=true)
  (hS:X.env.scope=S) (hc:∃ n,X.env.cells=cellsFrom n S.names []) (hN:X.N=N) (fr:scope.names.all (λy=>y.2 != .free || S.names.lookup y.1 == some .cell)=true)
  (cp:caps.all (λp=>N[p.1]? == some p.2 && scope.names.lookup p.2 == some .free && S.names.lookup p.2 == some .cell)=true):uI X scope own caps:=by
 have z:∀ y∈scope.names,(y.2 != .cell && (y.2 != .local || scope.names.lookup y.1 == some .local))=true:=List.all_eq_true.mp n
 obtain ⟨nn,hc⟩:=hc
 refine ⟨k,λy hy e=>?_,λy hy e=>?_,λy hy e=>?_,λp hp=>?_⟩
 ·have:=z y hy
  rw [e] at this
  simp at this
 ·have:=z y hy
  rw [e] at this
  simpa using this
 ·have q:=List.all_eq_true.mp fr y hy
  rw [e] at q
  have q2:S.names.lookup y.1=some .cell:=by simpa using q
  rw [hc]
  exact PySem.W.cellsFrom_some S.names nn [] (.inl q2)
 ·have q:=List.all_eq_true.mp cp p hp
  simp only [Bool.and_eq_true,beq_iff_eq] at q
  refine ⟨by rw [hN]; exact q.1.1,q.1.2,.inl ?_⟩
  show X.env.scope.names.lookup p.2=some .cell
  rw [hS]
  exact q.2
structure wk (P:Program) (w:World) (K:PySem.W.Frag) (mg:Str->Option Value) (base:Heap) (x:Str) (ps:List Str) (k:Nat) (sp:Sp) (dv:V):Prop where
 ex:∃ f fd d,zL P w K mg base zj k f fd ps sp/\mg x=some (.ref f)/\PySem.W.keepIn K (.ref f)=true/\xN K fd ps []/\xN K fd ps [d]/\zV dv d
theorem wk.mono {P:Program} {w:World} {K:PySem.W.Frag} {mg:Str->Option Value} {base:Heap} {x:Str} {ps:List Str} {j k:Nat} {sp:Sp} {dv:V} (F:wk P w K mg base x ps j sp dv) (h:j<=k:=by decide):wk P w K mg base x ps k sp dv:=by
 obtain ⟨f,fd,d,a,b,c,e⟩:=F.ex
 exact ⟨f,fd,d,a.mono h,b,c,e⟩
theorem wk.fn {P:Program} {w:World} {K:PySem.W.Frag} {mg:Str->Option Value} {base:Heap} {x:Str} {ps:List Str} {k:Nat} {sp:Sp} {dv:V} (F:wk P w K mg base x ps k sp dv):Fn P w K mg base x ps k sp:=by
 obtain ⟨f,fd,d,a,b,c,e,_⟩:=F.ex
 exact ⟨f,fd,a,b,c,e⟩
theorem jA {X:Cx} {x:Str} {ps:List Str} {k:Nat} {sp:Sp} {e:Expr} {es:List Expr} {t:TA} {p pos:Pos} {dv:V} (F:wk X.prog X.w X.K X.mg X.base x ps k sp dv) (hr:zf k X.A) (hg:Gl X x) (ha:PA X (e :: es) t)
  (hdb:(x == ("__debug__" : Str))=false:=by decide) (he:starEach (e :: es) X.env=(false,eval e X.env) :: starEach es X.env:=by rfl) (hpl:(backTo pos (starEach es X.env)).any (·.1)=false:=by rfl) :
  PE X (.Call (.Name x p) (e :: es) [] pos) (u5 sp [dv] E0 t):=by
 obtain ⟨f,fd,d,a,b,c,_,h2,r⟩:=F.ex
 exact Zi a hr hg b c h2 (.cons r .nil) qf ha hdb he hpl
theorem yt.binds1 {K:PySem.W.Frag} {x qual:Str} {st:Stmt} {f:Addr} {fd:FuncData} {d:Value} {ps:List Str} (F:yt K x qual st f fd d)
  (h:∀ (T:Addr) (kV doc pm:Value) (an:Option Addr) (cdv ct:Value) (us:List Value),us.length + 1=ps.length->∃ k:Option (Array Value)->Sem (List (Str × Value)),
   bindArgs (PySem.W.fnOf x qual (xq st) (xD st) (zW st) (.ref T) kV doc pm an cdv ct) ⟨us,[]⟩=seqItems? (.ref T) >>= k/\k (some #[d])=pure (ps.zip (us++[d]))):xN K fd ps [d]:=by
 obtain ⟨oc,od,kV,doc,pm,an,cdv,ct,osl,T,oT,n,rfl,lk,hcd,t,e⟩:=F.ex
 intro s us X hl
 rw [List.length_append,List.length_singleton] at hl
 obtain ⟨k,h1,h2⟩:=h T kV doc pm an cdv ct us hl
 exact .of_defaults (T:=T) rfl (X T oT t) e h1 h2
theorem Jc (xs:List V) (v:V):yR (xs++[v]) none (some (-1))=xs:=by
 unfold yR
 have e1:HT.sIx (xs++[v]).length 0 none=0:=rfl
 have e2:HT.sIx (xs++[v]).length (xs++[v]).length (some (-1))=xs.length:=by
  show (if (-1:Int) < 0 then ((-1:Int) + ((xs++[v]).length:Int)).toNat else min (-1:Int).toNat (xs++[v]).length)=xs.length
  rw [if_pos (by decide),List.length_append,List.length_singleton]
  omega
 rw [e1,e2]
 simp
theorem Jd (xs:List V) (v:V):¬ (HT.sIx (xs++[v]).length 0 none=0/\HT.sIx (xs++[v]).length (xs++[v]).length (some (-1))=(xs++[v]).length):=by
 rintro ⟨_,e⟩
 have e2:HT.sIx (xs++[v]).length (xs++[v]).length (some (-1))=xs.length:=by
  show (if (-1:Int) < 0 then ((-1:Int) + ((xs++[v]).length:Int)).toNat else min (-1:Int).toNat (xs++[v]).length)=xs.length
  rw [if_pos (by decide),List.length_append,List.length_singleton]
  omega
 rw [e2,List.length_append,List.length_singleton] at e
 omega
end L2
namespace L2
theorem yM {b:Bool} {A B:Prop} (e:b=true) (h:A):if b=true then A else B:=by
 rw [if_pos e]
 exact h
theorem zr {b:Bool} {A B:Prop} (e:b=false) (h:B):if b=true then A else B:=by
 rw [if_neg (by rw [e]; exact Bool.false_ne_true)]
 exact h
theorem xv {i j:Int} (h:i=j):decide (V.int i=V.int j)=true:=decide_eq_true (by rw [h])
theorem wM {i j:Int} (h:i≠j):decide (V.int i=V.int j)=false:=decide_eq_false λe=>h (by injection e)
theorem Je {i j:Int} (h:i=j):(!decide (V.int i=V.int j))=false:=by rw [xv h]; rfl
end L2
set_option maxRecDepth 100000
namespace L2
open PySem
section
variable {prog:Program} {w:World} {A:Around} {E:Value->Shared->Prop} {s:Shared}
structure Zp (z TI TO i1 i2:Addr) (f1 f2:List Addr):Prop where
 a1:TI≠z
 a2:TO≠z
 a3:i1≠z
 a4:i2≠z
 a5:TI≠TO
 a6:TI≠i1
 a7:TI≠i2
 a8:TO≠i1
 a9:TO≠i2
 b1:z∉f1
 b2:z∉f2
 b3:TO∉f1
 b4:TO∉f2
 b5:i1∉f2
 b6:i2∉f1
theorem Jf {z TI TO i1 i2:Addr} {f1 f2:List Addr} {n1 n2 k:Nat} {P1 P2:Nat->Value->Prop} {S1 S2:Nat->Heap->Prop} {a b:Value} {Q:Value->Shared->Prop}
  (D1:Draws prog w A i1 f1 n1 P1 S1) (D2:Draws prog w A i2 f2 n2 P2 S2) (Z:Zp z TI TO i1 i2 f1 f2) (hz:IsZip s.heap z TI TO .none) (hI:IsPair s.heap TI (.ref i1) (.ref i2)) (hO:IsPair s.heap TO a b)
  (s1:S1 k s.heap) (s2:S2 k s.heap) (k1:k < n1) (k2:k < n2)
  (hQ:∀ x y h' tk,P1 k x->P2 k y->IsZip h' z TI TO (rawInt s.heap.objs.size)->IsPair h' TI (.ref i1) (.ref i2)->IsPair h' TO x y->S1 (k + 1) h'->S2 (k + 1) h'->IsPair h' s.heap.objs.size x y->
   (∀ c o,c≠z->c≠TO->c≠i1->c≠i2->s.heap.get? c=some o->h'.get? c=some o)->Q (.ref s.heap.objs.size) { s with heap:=h',toks:=tk }) :
  wpAny (model prog w) A (Builtin.«zip.__next__» ⟨[.ref z],[]⟩) (λfin s'=>∃ v,fin=.done (.ret v)/\Q v s') E s:=by
 change wpAny _ _ (field (.ref z) 2 >>= _) _ _ _
 refine wpAny_bind (wpAny_field hz rfl (x:=.bool false) rfl ?_)
 change wpAny _ _ (field (.ref z) 3 >>= _) _ _ _
 refine wpAny_bind (wpAny_field hz rfl (x:=.ref TI) rfl ?_)
 refine wpAny_bind (wpAny_seqItems hI rfl ?_)
 change wpAny _ _ (Builtin.SmallTypes.ownedTupleIsFree (.ref z) >>= _) _ _ _
 refine wpAny_bind ?_
 unfold Builtin.SmallTypes.ownedTupleIsFree
 refine wpAny_bind (wpAny_field hz rfl (x:=.none) rfl (wpAny_pure ?_))
 simp only [if_true]
 refine wpAny_bind (wpAny_rule ?_)
 refine wpAny_bind (wpAny_field hz rfl (x:=.ref TO) rfl ?_)
 refine wpAny_bind (wpAny_setField_rec hz (by simp) λg1 z1 m1=>?_)
 replace z1:IsZip g1 z TI TO .ellipsis:=z1
 refine wpAny_bind ?_
 simp only [List.zipIdx_cons,List.zipIdx_nil,List.forIn_cons,List.forIn_nil]
 refine wpAny_bind (wpAny_bind (wpAny_onRaise ?_))
 change wpAny _ _ (Builtin.SmallTypes.nextOf (.ref i1) >>= _) _ _ _
 refine wpAny_bind (D1.item k _ _ _ k1 (D1.frame _ _ _ s1 λc hc o e=>m1.extBut c o (λq=>Z.b1 (q ▸ hc)) e) λx g2 t2 px s12 m2=>wpAny_pure ?_)
 have o2:IsPair g2 TO a b:=m2.extBut _ _ Z.a8 (m1.extBut _ _ Z.a2 hO)
 refine wpAny_bind (wpAny_seqItems o2 rfl ?_)
 refine wpAny_bind (wpAny_updateSeq_pair o2 λg3 o3 m3=>?_)
 replace o3:IsPair g3 TO x b:=o3
 refine wpAny_bind (wpAny_letGo (wpAny_pure ?_))
 refine wpAny_bind (wpAny_bind (wpAny_onRaise ?_))
 change wpAny _ _ (Builtin.SmallTypes.nextOf (.ref i2) >>= _) _ _ _
 refine wpAny_bind (D2.item k _ _ _ k2 (D2.frame _ _ _ s2 λc hc o e=>m3.extBut c o (λq=>Z.b4 (q ▸ hc)) (m2.extBut c o (λq=>Z.b5 (q ▸ hc)) (m1.extBut c o (λq=>Z.b2 (q ▸ hc)) e))) λy g4 t4 py s24 m4=>wpAny_pure ?_)
 have o4:IsPair g4 TO x b:=m4.extBut _ _ Z.a9 o3
 refine wpAny_bind (wpAny_seqItems o4 rfl ?_)
 refine wpAny_bind (wpAny_updateSeq_pair o4 λg5 o5 m5=>?_)
 replace o5:IsPair g5 TO x y:=o5
 refine wpAny_bind (wpAny_letGo (wpAny_pure (wpAny_pure ?_)))
 refine wpAny_bind (wpAny_seqItems o5 rfl ?_)
 refine wpAny_bind (wpAny_newTuple ?_)
 have sz:g5.objs.size=s.heap.objs.size:=by
  have q5:g5.objs.size=g4.objs.size:=m5.1
  have q4:g4.objs.size=g3.objs.size:=m4.1
  have q3:g3.objs.size=g2.objs.size:=m3.1
  have q2:g2.objs.size=g1.objs.size:=m2.1
  have q1:g1.objs.size=s.heap.objs.size:=m1.1
  omega
 have all5:∀ c o,c≠z->c≠TO->c≠i1->c≠i2->s.heap.get? c=some o->g5.get? c=some o:=λc o c1 c2 c3 c4 e=>m5.extBut _ _ c2 (m4.extBut _ _ c4 (m3.extBut _ _ c2 (m2.extBut _ _ c3 (m1.extBut _ _ c1 e))))
 have z5:IsZip g5 z TI TO .ellipsis:=m5.extBut _ _ Z.a2.symm (m4.extBut _ _ Z.a4.symm (m3.extBut _ _ Z.a2.symm (m2.extBut _ _ Z.a3.symm z1)))
 have I5:IsPair g5 TI (.ref i1) (.ref i2):=all5 _ _ Z.a1 Z.a5 Z.a6 Z.a7 hI
 have u1:S1 (k + 1) g5:=D1.frame _ _ _ s12 λc hc o e=>m5.extBut c o (λq=>Z.b3 (q ▸ hc)) (m4.extBut c o (λq=>Z.b6 (q ▸ hc)) (m3.extBut c o (λq=>Z.b3 (q ▸ hc)) e))
 have u2:S2 (k + 1) g5:=D2.frame _ _ _ s24 λc hc o e=>m5.extBut c o (λq=>Z.b4 (q ▸ hc)) e
 have lt:z < g5.objs.size:=Heap.lt_size z5
 change wpAny _ _ (Builtin.SmallTypes.ownedTupleHandOut (.ref z) (.ref g5.objs.size) >>= _) _ _ _
 refine wpAny_bind ?_
 unfold Builtin.SmallTypes.ownedTupleHandOut
 have z6:IsZip (g5.push { cls:=.type "tuple",data:=.seq #[x,y] }) z TI TO .ellipsis:=Heap.get?_push_of_some _ z5
 refine wpAny_bind (wpAny_setField_rec z6 (by simp) λg7 z7 m7=>?_)
 replace z7:IsZip g7 z TI TO (rawInt g5.objs.size):=z7
 refine wpAny_setField_rec z7 (by simp) λg8 z8 m8=>?_
 replace z8:IsZip g8 z TI TO (rawInt g5.objs.size):=z8
 have up:∀ c o,c≠z->g5.get? c=some o->g8.get? c=some o:=λc o c1 e=>m8.extBut _ _ c1 (m7.extBut _ _ c1 (Heap.get?_push_of_some _ e))
 have T8:IsPair g8 g5.objs.size x y:=m8.extBut _ _ (Nat.ne_of_gt lt) (m7.extBut _ _ (Nat.ne_of_gt lt) (Heap.get?_push_size _ rfl))
 rw [sz] at z8 T8
 refine wpAny_pure ⟨_,rfl,?_⟩
 change Q (.ref g5.objs.size) _
 rw [sz]
 exact hQ x y g8 _ px py z8 (up _ _ Z.a1 I5) (up _ _ Z.a2 o5) (D1.frame _ _ _ u1 λc hc o e=>up c o (λq=>Z.b1 (q ▸ hc)) e) (D2.frame _ _ _ u2 λc hc o e=>up c o (λq=>Z.b2 (q ▸ hc)) e) T8
  λc o c1 c2 c3 c4 e=>up c o c1 (all5 c o c1 c2 c3 c4 e)
theorem Jg {z TI TO i1 i2:Addr} {f1 f2:List Addr} {n1 n2 k:Nat} {P1 P2:Nat->Value->Prop} {S1 S2:Nat->Heap->Prop} {a b:Value} {Q:Fin->Shared->Prop}
  (D1:Draws prog w A i1 f1 n1 P1 S1) (D2:Draws prog w A i2 f2 n2 P2 S2) (Z:Zp z TI TO i1 i2 f1 f2) (hz:IsZip s.heap z TI TO .none) (hI:IsPair s.heap TI (.ref i1) (.ref i2)) (hO:IsPair s.heap TO a b)
  (s1:S1 k s.heap) (s2:S2 k s.heap) (k1:k<=n1) (k2:k<=n2) (ke:k=n1\/k=n2)
  (hE:∀ h' e tk,(∀ c o,c≠z->c≠TO->c≠i1->c≠i2->s.heap.get? c=some o->h'.get? c=some o)->(∃ o,h'.get? e=some o/\o.cls=.type "StopIteration")->E (.ref e) { s with heap:=h',toks:=tk }) :
  wpAny (model prog w) A (Builtin.«zip.__next__» ⟨[.ref z],[]⟩) Q E s:=by
 change wpAny _ _ (field (.ref z) 2 >>= _) _ _ _
 refine wpAny_bind (wpAny_field hz rfl (x:=.bool false) rfl ?_)
 change wpAny _ _ (field (.ref z) 3 >>= _) _ _ _
 refine wpAny_bind (wpAny_field hz rfl (x:=.ref TI) rfl ?_)
 refine wpAny_bind (wpAny_seqItems hI rfl ?_)
 change wpAny _ _ (Builtin.SmallTypes.ownedTupleIsFree (.ref z) >>= _) _ _ _
 refine wpAny_bind ?_
 unfold Builtin.SmallTypes.ownedTupleIsFree
 refine wpAny_bind (wpAny_field hz rfl (x:=.none) rfl (wpAny_pure ?_))
 simp only [if_true]
 refine wpAny_bind (wpAny_rule ?_)
 refine wpAny_bind (wpAny_field hz rfl (x:=.ref TO) rfl ?_)
 refine wpAny_bind (wpAny_setField_rec hz (by simp) λg1 z1 m1=>?_)
 replace z1:IsZip g1 z TI TO .ellipsis:=z1
 refine wpAny_bind ?_
 simp only [List.zipIdx_cons,List.zipIdx_nil,List.forIn_cons,List.forIn_nil]
 refine wpAny_bind (wpAny_bind (wpAny_onRaise ?_))
 change wpAny _ _ (Builtin.SmallTypes.nextOf (.ref i1) >>= _) _ _ _
 have s1':S1 k g1:=D1.frame _ _ _ s1 λc hc o e=>m1.extBut c o (λq=>Z.b1 (q ▸ hc)) e
 by_cases c1:k=n1
 ·subst c1
  refine wpAny_bind (D1.done _ _ _ s1' λg2 e m2 he=>?_)
  obtain ⟨oe,he1,he2⟩:=he
  have z2:IsZip g2 z TI TO .ellipsis:=m2 _ _ Z.a3.symm z1
  have nez:e≠z:=λq=>by subst q; rw [z2] at he1; cases he1; simp at he2
  exact wpAny_setField_rec z2 (by simp) λg3 _ m3=>hE g3 e _ (λc o c1 c2 c3 c4 q=>m3.extBut _ _ c1 (m2 _ _ c3 (m1.extBut _ _ c1 q))) ⟨oe,m3.extBut _ _ nez he1,he2⟩
 ·have c2:k=n2:=ke.resolve_left c1
  subst c2
  refine wpAny_bind (D1.item k _ _ _ (by omega) s1' λx g2 t2 px s12 m2=>wpAny_pure ?_)
  have o2:IsPair g2 TO a b:=m2.extBut _ _ Z.a8 (m1.extBut _ _ Z.a2 hO)
  refine wpAny_bind (wpAny_seqItems o2 rfl ?_)
  refine wpAny_bind (wpAny_updateSeq_pair o2 λg3 o3 m3=>?_)
  refine wpAny_bind (wpAny_letGo (wpAny_pure ?_))
  refine wpAny_bind (wpAny_bind (wpAny_onRaise ?_))
  change wpAny _ _ (Builtin.SmallTypes.nextOf (.ref i2) >>= _) _ _ _
  refine wpAny_bind (D2.done _ _ _ (D2.frame _ _ _ s2 λc hc o e=>m3.extBut c o (λq=>Z.b4 (q ▸ hc)) (m2.extBut c o (λq=>Z.b5 (q ▸ hc)) (m1.extBut c o (λq=>Z.b2 (q ▸ hc)) e))) λg4 e m4 he=>?_)
  obtain ⟨oe,he1,he2⟩:=he
  have z4:IsZip g4 z TI TO .ellipsis:=m4 _ _ Z.a4.symm (m3.extBut _ _ Z.a2.symm (m2.extBut _ _ Z.a3.symm z1))
  have nez:e≠z:=λq=>by subst q; rw [z4] at he1; cases he1; simp at he2
  exact wpAny_setField_rec z4 (by simp) λg5 _ m5=>hE g5 e _ (λc o c1 c2 c3 c4 q=>m5.extBut _ _ c1 (m4 _ _ c4 (m3.extBut _ _ c2 (m2.extBut _ _ c3 (m1.extBut _ _ c1 q))))) ⟨oe,m5.extBut _ _ nez he1,he2⟩
end
section
variable {prog:Program} {w:World} {A:Around} {E:Value->Shared->Prop} {s:Shared}
theorem Jh {z TI TO i1 i2:Addr} {f1 f2:List Addr} {n1 n2 k:Nat} {P1 P2:Nat->Value->Prop} {S1 S2:Nat->Heap->Prop} {a b:Value} {Q:Option Value->Shared->Prop}
  (D1:Draws prog w A.in1 i1 f1 n1 P1 S1) (D2:Draws prog w A.in1 i2 f2 n2 P2 S2) (Z:Zp z TI TO i1 i2 f1 f2) (hz:IsZip s.heap z TI TO .none) (hI:IsPair s.heap TI (.ref i1) (.ref i2)) (hO:IsPair s.heap TO a b)
  (s1:S1 k s.heap) (s2:S2 k s.heap) (k1:k < n1) (k2:k < n2)
  (hQ:∀ x y h' tk,P1 k x->P2 k y->IsZip h' z TI TO (rawInt s.heap.objs.size)->IsPair h' TI (.ref i1) (.ref i2)->IsPair h' TO x y->S1 (k + 1) h'->S2 (k + 1) h'->IsPair h' s.heap.objs.size x y->
   (∀ c o,c≠z->c≠TO->c≠i1->c≠i2->s.heap.get? c=some o->h'.get? c=some o)->Q (some (.ref s.heap.objs.size)) { s with heap:=h',toks:=tk }) :
  wpAny (model prog w) A (pyNext (.ref z)) Q E s:=by
 have ty:s.TypeIs (.ref z) "zip":=⟨_,hz,rfl⟩
 unfold pyNext
 refine wpAny_bind (wpAny_attempt (wpAny_callSpecial?_slot (name:=Str.ofString "__next__") ty F.slot_zip_next (wpAny_call_entry F.slot_zip_next ty F.entry_zip_next ?_ (F.args_zip_next_1 _))))
 exact Jf D1 D2 Z hz hI hO s1 s2 k1 k2 λx y h' tk c1 c2 c3 c4 c5 c6 c7 c8 c9=>wpAny_pure (hQ x y h' tk c1 c2 c3 c4 c5 c6 c7 c8 c9)
theorem Ji {z TI TO i1 i2:Addr} {f1 f2:List Addr} {n1 n2 k:Nat} {P1 P2:Nat->Value->Prop} {S1 S2:Nat->Heap->Prop} {a b:Value} {Q:Option Value->Shared->Prop}
  (D1:Draws prog w A.in1 i1 f1 n1 P1 S1) (D2:Draws prog w A.in1 i2 f2 n2 P2 S2) (Z:Zp z TI TO i1 i2 f1 f2) (hz:IsZip s.heap z TI TO .none) (hI:IsPair s.heap TI (.ref i1) (.ref i2)) (hO:IsPair s.heap TO a b)
  (s1:S1 k s.heap) (s2:S2 k s.heap) (k1:k<=n1) (k2:k<=n2) (ke:k=n1\/k=n2)
  (hQ:∀ h' tk,(∀ c o,c≠z->c≠TO->c≠i1->c≠i2->s.heap.get? c=some o->h'.get? c=some o)->Q none { s with heap:=h',toks:=tk }) :
  wpAny (model prog w) A (pyNext (.ref z)) Q E s:=by
 have ty:s.TypeIs (.ref z) "zip":=⟨_,hz,rfl⟩
 unfold pyNext
 refine wpAny_bind (wpAny_attempt (wpAny_callSpecial?_slot (name:=Str.ofString "__next__") ty F.slot_zip_next (wpAny_call_entry F.slot_zip_next ty F.entry_zip_next
  (Jg D1 D2 Z hz hI hO s1 s2 k1 k2 ke λh' e tk keep he=>?_) (F.args_zip_next_1 _))))
 obtain ⟨o,ho,hc⟩:=he
 refine wpAny_bind (wpAny_isInstance (T:="StopIteration") (b:=true) ⟨o,ho,hc⟩ isSubtype_stop ?_)
 exact wpAny_pure (hQ _ _ keep)
end
end L2
namespace L2
open PySem PySem.Spec PyProof.Rows
theorem Zy {vs:Array Value} (v:Option Value):Data.fields vs≠Data.cell v:=λz=>by cases z
theorem WO {vs:Array Value} {n:Nat} (v:Option Value):Data.seq vs n≠Data.cell v:=λz=>by cases z
theorem zG.turnT {X:Cx} {pins:List (Addr × Obj)} {σ:St} {H:Hp} {s:Shared} {h':Heap} {tk:Nat} {ch:List Addr} {T:Addr} {x y:V} {u v:Value} (I:zG X pins σ H s) (hf:∀ b∈ch,zq X pins H b) (keep:∀ b o,b∉ch->s.heap.get? b=some o->h'.get? b=some o)
  (hT:s.heap.objs.size<=T) (p:IsPair h' T u v) (rx:zV x u) (ry:zV y v):zG X pins σ (upd H T (.tup [x,y])) { s with heap:=h',toks:=tk }:=by
 have fr:H T=none:=I.hok.fresh hT
 have nT:∀ b o,s.heap.get? b=some o->b≠T:=λb o e z=>by rw [z] at e; exact absurd (Nat.lt_of_lt_of_le (Heap.lt_size e) hT) (Nat.lt_irrefl _)
 have vc:∀ b o,H b=some o->b∉ch:=λb o e z=>by rw [(hf b z).1] at e; cases e
 refine I.step (ch:=ch) (λb hb=>⟨(hf b hb).2.2.2.1,(hf b hb).2.1,(hf b hb).2.2.2.2.1,(hf b hb).2.2.2.2.2⟩) (λb o _ _ hc e _=>keep b o hc e) (λb o _ _ hc e _=>⟨o.slots,keep b o hc e⟩)
  (λb o _ e n=>by rw [zi (nT b o e)]; exact n) (λb o hc e=>⟨o,keep b o hc e⟩) (λb xs e=>by rw [zi (wP e fr)]; exact e) (λb o w e=>by rw [zi (wP e fr)]; exact e)
  (λb ps e=>⟨#[],by rw [zi (wP e fr),e]; simp⟩) (λm hm=>?_) (λb w e=>?_) I.bare
 ·obtain ⟨o,es,ep,ho,r⟩:=hm
  exact ⟨o,es,ep,keep _ o (λz=>(hf _ z).2.1 rfl) ho,r⟩
 ·by_cases hb:b=T
  ·subst hb
   rw [zH] at e
   cases e
   exact ⟨by show 2<=sizeLine; decide,[u,v],.cons rx (.cons ry .nil),⟨_,p,rfl,_,rfl⟩⟩
  ·rw [zi hb] at e
   refine (I.hok b w e).stay (λc q hc ec=>keep c q ?_ ec) (λc ec=>by rw [zi (wP ec fr)]; exact ec) λc xs ec=>by rw [zi (wP ec fr)]; exact ec
   rcases hc with z | z
   ·rw [z]
    exact vc b w e
   ·exact vc c _ z
theorem zG.turnN {X:Cx} {pins:List (Addr × Obj)} {σ:St} {H:Hp} {s:Shared} {h':Heap} {tk:Nat} {ch:List Addr} (I:zG X pins σ H s) (hf:∀ b∈ch,zq X pins H b) (keep:∀ b o,b∉ch->s.heap.get? b=some o->h'.get? b=some o) :
  zG X pins σ H { s with heap:=h',toks:=tk }:=by
 have vc:∀ b o,H b=some o->b∉ch:=λb o e z=>by rw [(hf b z).1] at e; cases e
 refine I.step (ch:=ch) (λb hb=>⟨(hf b hb).2.2.2.1,(hf b hb).2.1,(hf b hb).2.2.2.2.1,(hf b hb).2.2.2.2.2⟩) (λb o _ _ hc e _=>keep b o hc e) (λb o _ _ hc e _=>⟨o.slots,keep b o hc e⟩)
  (λb o _ e n=>n) (λb o hc e=>⟨o,keep b o hc e⟩) (λb xs e=>e) (λb o w e=>e) (λb ps e=>⟨#[],by rw [e]; simp⟩) (λm hm=>?_) (λb w e=>?_) I.bare
 ·obtain ⟨o,es,ep,ho,r⟩:=hm
  exact ⟨o,es,ep,keep _ o (λz=>(hf _ z).2.1 rfl) ho,r⟩
 ·refine (I.hok b w e).stay (λc q hc ec=>keep c q ?_ ec) (λc ec=>ec) λc xs ec=>ec
  rcases hc with z | z
  ·rw [z]
   exact vc b w e
  ·exact vc c _ z
theorem wt {x y z:Nat} (h1:x≠y) (h2:x≠z):x∉[y,z]:=by simp [h1,h2]
theorem qp (n a b:Nat) (la:a < n) (lb:b < n):Zp (n + 4) (n + 2) (n + 3) n (n + 1) [n,a] [n + 1,b]:=by
 have e:∀ x y:Nat,x≠y->(x:Addr)≠y:=λ_ _ h=>h
 exact ⟨e _ _ (by omega),e _ _ (by omega),e _ _ (by omega),e _ _ (by omega),e _ _ (by omega),e _ _ (by omega),e _ _ (by omega),e _ _ (by omega),e _ _ (by omega),
  wt (by omega) (by omega),wt (by omega) (by omega),wt (by omega) (by omega),wt (by omega) (by omega),wt (by omega) (by omega),wt (by omega) (by omega)⟩
section
variable {X:Cx} {es:List Expr} {kk:Nat} {tp:Pos}
end
end L2
namespace L2
open PySem PySem.Spec PyProof.Rows
section
variable {κ:Type} [DecidableEq κ]
noncomputable def xE (kvs:List (κ × V)) (k:κ):Option V:=(kvs.find? λkv=>decide (kv.1=k)).map (·.2)
noncomputable def wN (kvs:List (κ × V)) (k:κ) (v:V):List (κ × V):=
 if (kvs.any λkv=>decide (kv.1=k))=true then kvs.map (λkv=>if kv.1=k then (kv.1,v) else kv) else kvs++[(k,v)]
noncomputable def WP (kvs:List (κ × V)) (k:κ):List (κ × V):=kvs.filter λkv=>decide (kv.1≠k)
theorem Zz {p:κ × V} {r:List (κ × V)} {k:κ} (e:p.1=k):xE (p :: r) k=some p.2:=by simp [xE,List.find?_cons,e]
theorem Z0 {p:κ × V} {r:List (κ × V)} {k:κ} (e:¬ p.1=k):xE (p :: r) k=xE r k:=by simp [xE,List.find?_cons,e]
theorem WQ (k:κ):∀ kvs:List (κ × V),(kvs.any λkv=>decide (kv.1=k))=(xE kvs k).isSome
 | []=>rfl
 | p :: r=>by
  rw [List.any_cons]
  by_cases e:p.1=k
  ·simp only [Zz e,decide_eq_true e,Bool.true_or,Option.isSome_some]
  ·rw [Z0 e,decide_eq_false e,Bool.false_or]; exact WQ k r
theorem ye.isSome_eq {o:Option V} {u:Option Value} (r:ye o u):o.isSome=u.isSome:=by
 cases o with
 | none=>cases u with
  | none=>rfl
  | some _=>exact (show False from r).elim
 | some _=>cases u with
  | none=>exact (show False from r).elim
  | some _=>rfl
theorem ye.getD {o:Option V} {u:Option Value} {d:V} {d':Value} (r:ye o u) (rd:zV d d'):zV (o.getD d) (u.getD d'):=by
 cases o with
 | none=>cases u with
  | none=>exact rd
  | some _=>exact (show False from r).elim
 | some _=>cases u with
  | none=>exact (show False from r).elim
  | some _=>exact r
theorem KV.val {kvs:List (κ × V)} {vs:List (κ × Value)} (r:KV kvs vs) (k:κ):ye (xE kvs k) (valueAt vs k):=by
 unfold KV at r
 induction r with
 | nil=>exact True.intro
 | @cons p q ps qs h t ih=>
  obtain ⟨h1,h2⟩:=h
  by_cases e:p.1=k
  ·have e':q.1=k:=h1.symm.trans e
   have b:valueAt (q :: qs) k=some q.2:=by simp [valueAt,List.find?_cons,e']
   rw [Zz e,b]; exact h2
  ·have e':¬ q.1=k:=λz=>e (h1.trans z)
   have b:valueAt (q :: qs) k=valueAt qs k:=by simp [valueAt,List.find?_cons,e']
   rw [Z0 e,b]; exact ih
theorem KV.any {kvs:List (κ × V)} {vs:List (κ × Value)} (r:KV kvs vs) (k:κ):(kvs.any λkv=>decide (kv.1=k))=vs.any λkv=>decide (kv.1=k):=by
 unfold KV at r
 induction r with
 | nil=>rfl
 | cons h t ih=>rw [List.any_cons,List.any_cons,ih,h.1]
theorem KV.repl {kvs:List (κ × V)} {vs:List (κ × Value)} (r:KV kvs vs) (k:κ) {y:V} {u:Value} (ry:zV y u) :
  KV (kvs.map λkv=>if kv.1=k then (kv.1,y) else kv) (vs.map λkv=>if kv.1=k then (kv.1,u) else kv):=by
 unfold KV at r |-
 induction r with
 | nil=>exact .nil
 | @cons p q ps qs h t ih=>
  rw [List.map_cons,List.map_cons]
  refine .cons ?_ ih
  obtain ⟨h1,h2⟩:=h
  by_cases e:p.1=k
  ·rw [if_pos e,if_pos (h1.symm.trans e)]; exact ⟨h1,ry⟩
  ·rw [if_neg e,if_neg (λz=>e (h1.trans z))]; exact ⟨h1,h2⟩
theorem KV.put {kvs:List (κ × V)} {vs:List (κ × Value)} (r:KV kvs vs) (k:κ) {y:V} {u:Value} (ry:zV y u):KV (wN kvs k y) (stored vs k u):=by
 unfold wN stored
 rw [r.any k]
 by_cases e:(vs.any λkv=>decide (kv.1=k))=true
 ·rw [if_pos e,if_pos e]; exact r.repl k ry
 ·rw [if_neg e,if_neg e]; exact Paired.snoc r ⟨rfl,ry⟩
theorem KV.drop {kvs:List (κ × V)} {vs:List (κ × Value)} (r:KV kvs vs) (k:κ):KV (WP kvs k) (without vs k):=by
 unfold KV at r |-
 unfold WP without
 induction r with
 | nil=>exact .nil
 | @cons p q ps qs h t ih=>
  obtain ⟨h1,h2⟩:=h
  rw [List.filter_cons,List.filter_cons]
  by_cases e:p.1=k
  ·have a:¬ decide (p.1≠k)=true:=by simp [e]
   have b:¬ decide (q.1≠k)=true:=by simp [h1.symm.trans e]
   rw [if_neg a,if_neg b]; exact ih
  ·have e':¬ q.1=k:=λz=>e (h1.trans z)
   have a:decide (p.1≠k)=true:=by simp [e]
   have b:decide (q.1≠k)=true:=by simp [e']
   rw [if_pos a,if_pos b]; exact .cons ⟨h1,h2⟩ ih
theorem KV.length {kvs:List (κ × V)} {vs:List (κ × Value)} (r:KV kvs vs):kvs.length=vs.length:=Paired.length r
end
noncomputable abbrev KT (H:Hp):List (List yJ × V)->List (List yJ × Addr × Value)->Prop:=Paired λp q=>p.1=q.1/\H q.2.1=some (.tup (p.1.map kV))/\zV p.2 q.2.2
theorem KT.val {H:Hp} {kvs:List (List yJ × V)} {xs:List (List yJ × Addr × Value)} (r:KT H kvs xs) (k:List yJ):ye (xE kvs k) ((atKey xs k).map (·.2)):=by
 induction r with
 | nil=>exact True.intro
 | @cons p q ps qs h t ih=>
  obtain ⟨h1,_,h2⟩:=h
  by_cases e:p.1=k
  ·have e':q.1=k:=h1.symm.trans e
   have b:atKey (q :: qs) k=some q.2:=by simp [atKey,List.find?_cons,e']
   rw [Zz e,b]; exact h2
  ·have e':¬ q.1=k:=λz=>e (h1.trans z)
   have b:atKey (q :: qs) k=atKey qs k:=by simp [atKey,List.find?_cons,e']
   rw [Z0 e,b]; exact ih
theorem KT.repl {H:Hp} {kvs:List (List yJ × V)} {xs:List (List yJ × Addr × Value)} (r:KT H kvs xs) (k:List yJ) {y:V} {u:Value} (ry:zV y u) :
  KT H (kvs.map λkv=>if kv.1=k then (kv.1,y) else kv) (xs.map (putAt k u)):=by
 induction r with
 | nil=>exact .nil
 | @cons p q ps qs h t ih=>
  rw [List.map_cons,List.map_cons]
  refine .cons ?_ ih
  obtain ⟨h1,h2,h3⟩:=h
  unfold putAt
  by_cases e:p.1=k
  ·rw [if_pos e,if_pos (h1.symm.trans e)]; exact ⟨h1,h2,ry⟩
  ·rw [if_neg e,if_neg (λz=>e (h1.trans z))]; exact ⟨h1,h2,h3⟩
theorem KT.put {H:Hp} {kvs:List (List yJ × V)} {xs:List (List yJ × Addr × Value)} (r:KT H kvs xs) (k:List yJ) {b:Addr} {y:V} {u:Value} (hb:H b=some (.tup (k.map kV))) (ry:zV y u) :
  KT H (wN kvs k y) (storedH xs k b u):=by
 have e:(kvs.any λkv=>decide (kv.1=k))=(atKey xs k).isSome:=by
  rw [WQ,(r.val k).isSome_eq,Option.isSome_map]
 unfold wN storedH
 rw [e]
 by_cases q:(atKey xs k).isSome=true
 ·rw [if_pos q,if_pos q]; exact r.repl k ry
 ·rw [if_neg q,if_neg q]; exact Paired.snoc r ⟨rfl,hb,ry⟩
theorem KT.keeps {H H':Hp} {kvs:List (List yJ × V)} {xs:List (List yJ × Addr × Value)} (r:KT H kvs xs) (ht:∀ b ys,H b=some (.tup ys)->H' b=some (.tup ys)):KT H' kvs xs:=
 Paired.mapP r λ_ _ z=>⟨z.1,ht _ _ z.2.1,z.2.2⟩
section
variable {P:Program} {w:World} {H:Hp} {h:Heap} {a:Addr}
end
noncomputable def uL (H:Hp) (a:Addr) (y:V) (r:Option V):Prop:=
 (∃ kvs k,Rd H a (.dK kvs)/\y=kV k/\r=xE kvs k)\/∃ kvs k b,Rd H a (.dT kvs)/\y=.ref b/\H b=some (.tup (k.map kV))/\r=xE kvs k
noncomputable def uM (H:Hp) (a:Addr) (y v:V) (H':Hp):Prop:=
 (∃ kvs k,H a=some (.dK kvs)/\y=kV k/\kvs.length < sizeLine/\H'=upd H a (.dK (wN kvs k v)))∨
 ∃ kvs k b,H a=some (.dT kvs)/\y=.ref b/\H b=some (.tup (k.map kV))/\kvs.length < sizeLine/\H'=upd H a (.dT (wN kvs k v))
theorem uL.k {H:Hp} {a:Addr} {kvs:List (yJ × V)} {k:yJ} (e:H a=some (.dK kvs)):uL H a (kV k) (xE kvs k):=.inl ⟨kvs,k,.inl e,rfl,rfl⟩
theorem uL.t {H:Hp} {a b:Addr} {kvs:List (List yJ × V)} {k:List yJ} (e:H a=some (.dT kvs)) (eb:H b=some (.tup (k.map kV))):uL H a (.ref b) (xE kvs k):=.inr ⟨kvs,k,b,.inl e,rfl,eb,rfl⟩
theorem uM.k {H:Hp} {a:Addr} {kvs:List (yJ × V)} {k:yJ} {v:V} (e:H a=some (.dK kvs)) (hl:kvs.length < sizeLine):uM H a (kV k) v (upd H a (.dK (wN kvs k v))):=.inl ⟨kvs,k,e,rfl,hl,rfl⟩
theorem uM.t {H:Hp} {a b:Addr} {kvs:List (List yJ × V)} {k:List yJ} {v:V} (e:H a=some (.dT kvs)) (eb:H b=some (.tup (k.map kV))) (hl:kvs.length < sizeLine) :
  uM H a (.ref b) v (upd H a (.dT (wN kvs k v))):=.inr ⟨kvs,k,b,e,rfl,eb,hl,rfl⟩
section
variable {X:Cx} {pins:List (Addr × Obj)} {σ:St} {H:Hp} {s:Shared} {a:Addr} {y v:V} {u r:Value} {o:Option V} {A:Around} {E:Value->Shared->Prop}
theorem zG.big (I:zG X pins σ H s):sysModules < s.heap.objs.size:=by
 have h:mainGlobals < s.heap.objs.size:=(I.mod.glob.keeps I.bk).lt
 exact Nat.lt_trans (by decide) h
end
section
variable {X:Cx} {pins:List (Addr × Obj)} {σ:St} {H:Hp} {s:Shared} {a:Addr} {kvs:List (yJ × V)} {k:yJ} {u:Value} {A:Around} {E:Value->Shared->Prop}
end
section
variable {X:Cx} {o i e value:Expr} {pos pos' tpos:Pos} {td ty tv:TE}
end
section
variable {X:Cx} {pos:Pos}
end
end L2
namespace L2
open PySem
section
variable {prog:Program} {w:World} {A:Around} {R:Result->Shared->Prop} {s:Shared}
theorem Jj {elt target iter cond:Expr} {scope:Scope} {pos:Pos} {it acc:Value} {env:Env} (Wd:Nat->Shared->Prop)
  (turn:∀ n s,Wd n s->wpAny (model prog w) A (pyNext it) (λr s1=>match r with
   | none=>R (.ok .next) s1
   | some v=>wpAny (model prog w) A (letOwnedTupleGo target it v) (λ_ s2=>wpAny (model prog w) A (assign target env v) (λ_ s3=>wpAny (model prog w) A (isTrue cond env (eval cond env)) (λok s4=>
     if ok=true then wpAny (model prog w) A (eval elt env) (λx s5=>wpAny (model prog w) A (call (.builtin "list.append") [acc,x]) (λ_ s6=>∃ m,m < n/\Wd m s6) (λ_ _=>False) s5) (λ_ _=>False) s4
     else ∃ m,m < n/\Wd m s4) (λ_ _=>False) s3) (λ_ _=>False) s2) (λ_ _=>False) s1) (λ_ _=>False) s)
  (n:Nat) (h:Wd n s):codeAny (model prog w) A (.compLoop (.ListComp elt [⟨target,iter,[cond],0⟩] scope pos) 0 it acc env) R s:=by
 refine codeAny_loop rfl Wd (λn s hI=>?_) n h
 show wpAny _ _ (Sem.onRaise (compTurn (.ListComp elt [⟨target,iter,[cond],0⟩] scope pos) 0 it acc env) _) _ _ s
 refine wpAny_noted ?_
 rw [compTurn_list]
 refine wpAny_bind (wpAny_standAt (wpAny_bind (wpAny_mono (turn n s hI) (λr s1 h1=>?_) λ_ _ z=>False.elim z)))
 cases r with
 | none=>exact wpAny_pure h1
 | some v=>
  refine wpAny_bind (wpAny_mono h1 (λ_ s2 h2=>?_) λ_ _ z=>False.elim z)
  refine wpAny_bind (wpAny_mono h2 (λ_ s3 h3=>?_) λ_ _ z=>False.elim z)
  refine wpAny_bind (wpAny_tests_one (wpAny_mono h3 (λok s4 h4=>?_) λ_ _ z=>False.elim z))
  cases ok with
  | false=>exact wpAny_pure ⟨rfl,h4⟩
  | true=>exact wpAny_bind (wpAny_bind (wpAny_mono h4 (λx s5 h5=>wpAny_bind (wpAny_mono h5 (λ_ s6 h6=>wpAny_pure (wpAny_pure ⟨rfl,h6⟩)) λ_ _ z=>False.elim z)) λ_ _ z=>False.elim z))
end
end L2
namespace L2
open PySem PySem.Spec PyProof.Rows
noncomputable def WR (J:It) (g:TG) (tc:TT) (te:TE) (Q:VK) (σ0:St) (H0:Hp):Prop:=∃ W:Nat->Nat->List V->St->Hp->Prop,(∃ m,W 0 m [] σ0 H0)/\∀ i m ys σ1 H,W i m ys σ1 H->
 (J.stop i H/\∀ p,H p=none->Q (.ref p) (upd H p (.lst ys)))\/(J.go i H/\ys.length < sizeLine/\∃ (N:V->St->Hp->Prop) (N0:St->Hp->Prop),(∀ y σ' H',N y σ' H'->∃ m',m' < m/\W (i + 1) m' (ys++[y]) σ' H')/\(∀ σ' H',N0 σ' H'->∃ m',m' < m/\W (i + 1) m' ys σ' H')∧
    ∀ x H',J.yld i H x H'->g x σ1 H' λσ2 H2=>tc σ2 H2 λb H3=>if b=true then te σ2 H3 λy H4=>N y σ2 H4 else N0 σ2 H3)
noncomputable def Jk (own:List Str) (caps:List (Nat × Str)) (wi:TI) (g:TG) (tc:TT) (te:TE):TE:=λσ H Q=>wi σ H λJ H1=>WR J g tc te Q (xr own caps σ) H1
section
variable {X:Cx} {scope:Scope} {own:List Str} {caps:List (Nat × Str)} {elt tg iter cond:Expr} {wi:TI} {g:TG} {tc:TT} {te:TE} {pos:Pos}
end
end L2
namespace L2
open PySem PySem.Spec PyProof.Rows
section
variable {prog:Program} {w:World} {A:Around} {E:Value->Shared->Prop} {s:Shared}
end
end L2
namespace L2
open PySem PySem.Spec PyProof.Rows
theorem Z1 {K:PySem.W.Frag} {a:Addr} {xs:List V} {g:TG} {te:TE} {σ0:St} {H:Hp} {Q:VK} (Pv:Nat->List V->St->Hp->Prop) (h0:Pv 0 [] σ0 H) (hl:∀ i ys σ H,i<=xs.length->Pv i ys σ H->zn K H a xs/\ys.length<=i) (hz:xs.length<=sizeLine)
  (hs:∀ i x ys σ H,xs[i]? = some x->Pv i ys σ H->g x σ H λσ2 H2=>te σ2 H2 λy H3=>Pv (i + 1) (ys++[y]) σ2 H3)
  (hd:∀ ys σ H,Pv xs.length ys σ H->∀ p,H p=none->Q (.ref p) (upd H p (.lst ys))) :
  qo (ZU K a) g te Q σ0 H:=by
 refine ⟨λi m ys σ H=>m=xs.length - i/\i<=xs.length/\Pv i ys σ H,⟨xs.length,by simp,Nat.zero_le _,h0⟩,?_⟩
 rintro i m ys σ H ⟨rfl,hi,p⟩
 obtain ⟨q,hy⟩:=hl i ys σ H hi p
 by_cases hlt:i < xs.length
 ·refine .inr ⟨⟨xs,xs[i],q,by simp [hlt]⟩,by omega,λy σ' H'=>Pv (i + 1) (ys++[y]) σ' H',λy σ' H' z=>⟨xs.length - (i + 1),by omega,rfl,hlt,z⟩,λx H' y=>?_⟩
  obtain ⟨e,y⟩:=y
  subst e
  exact hs i x ys σ _ (y xs q) p
 ·have e:i=xs.length:=by omega
  subst e
  exact .inl ⟨⟨xs,q,Nat.le_refl _⟩,hd ys σ H p⟩
section
variable {X:Cx}
end
end L2
namespace L2
open PySem PySem.Spec PyProof.Rows
theorem Jl:fillsNumberSlot (.type "tuple") "mul" = pure false:=PySem.fillsNumberSlot_seq (id:="tuple.__mul__") (r:=some (.builtin "tuple.__rmul__")) F.slot_tuple_mul.lookup (by decide +kernel) F.slot_tuple_rmul.lookup (by decide +kernel)
theorem Jm:seqRepeat? (.type "tuple")=pure (some (.builtin "tuple.__mul__")):=by
 unfold seqRepeat?
 rw [PySem.seqSlot_of (T:="tuple") (name:="__mul__") (id:="tuple.__mul__") F.slot_tuple_mul.lookup (by decide +kernel),PySem.seqSlot_of (T:="tuple") (name:="__rmul__") (id:="tuple.__rmul__") F.slot_tuple_rmul.lookup (by decide +kernel)]
 rfl
theorem Jn (a:Int) (t:Tok) (l:Addr) (dd:Option Addr) (items:Array Value) (n:Nat) (sl:Array (Option Value)) :
  Meets (Builtin.«int.__rmul__» ⟨[.int a t,.ref l],[]⟩) (λ_ R s=>s.heap.get? l=some { cls:=.type "tuple",dict:=dd,data:=.seq items n,slots:=sl }/\R (.ok (.ret Value.notImplemented)) s):=
 .of_wp λprog w A R s h=>by
  obtain ⟨hp,g,d,tk,os⟩:=s
  obtain ⟨hl,h⟩:=h
  wp_walk
  exact ⟨_,rfl,h⟩
theorem Jo (l:Addr) (items:Array Value) (n:Nat) (dd:Option Addr) (sl:Array (Option Value)) (x:Int) (u:Tok) (h1:¬ (items.isEmpty || x == 1)=true) (h2:¬ (decide (x < -(2 ^ 63)) || decide (x ≥ 2 ^ 63))=true) (h3:¬ (decide (x<=0) || items.isEmpty)=true)
  (h4:¬ (items.size:Int) * x > (2 ^ 63 - 1) / 8) (h5:¬ Builtin.Tuple.tupleTooMany ((items.size:Int) * x)=true) (h6:((List.replicate x.toNat items).foldl (·++·) #[]).size<=sizeLine) :
  Meets (Builtin.«tuple.__mul__» ⟨[.ref l,.int x u],[]⟩) (λ_ R s=>s.heap.get? l=some { cls:=.type "tuple",dict:=dd,data:=.seq items n,slots:=sl }∧
   R (.ok (.ret (.ref s.heap.objs.size))) { s with heap:=s.heap.push { cls:=.type "tuple",data:=.seq ((List.replicate x.toNat items).foldl (·++·) #[]) } }):=
 .of_wp λprog w A R s h=>by
  obtain ⟨hp,g,d,tk,os⟩:=s
  obtain ⟨hl,h⟩:=h
  wp_walk
  rw [if_neg h2]
  wp_walk
  rw [if_neg h4]
  dsimp only
  rw [if_neg h5]
  unfold Builtin.Tuple.tupleExact
  refine wpAny_bind (wpAny_newObj_type (wpAny_pure ⟨_,rfl,h⟩) ?_)
  exact h6
section
variable {X:Cx}
noncomputable def qq (K:PySem.W.Frag):R2:=λx y H Q=>∃ a k xs,x=.ref a/\y=.int k/\zn K H a xs/\xs≠[]/\2<=k/\k<=1000/\xs.length<=1000/\∀ p,H p=none->Q (.ref p) (upd H p (.tup (List.replicate k.toNat xs).flatten))
theorem WS:yi X (binaryOp .Mult) (qq X.K):=by
 intro pins s σ H x y v u Q I rx ry h
 obtain ⟨a,k,xs,rfl,rfl,ha,hne,h2,h3,hz,q⟩:=h
 cases rx
 obtain ⟨t,rfl⟩:=ry
 obtain ⟨its,r,p,_⟩:=I.tuple ha
 obtain ⟨⟨cls,dd,data,sl⟩,ho,hc,n,hd⟩:=id p
 simp only at hc hd
 subst hc hd
 have hl:its.length=xs.length:=r.length.symm
 have pl:0 < its.length:=by
  rw [hl]
  exact List.length_pos_iff.mpr hne
 have em:its.toArray.isEmpty=false:=by
  cases its with
  | nil=>exact absurd pl (Nat.lt_irrefl _)
  | cons a b=>rfl
 have hm:(its.length:Int) * k<=1000 * 1000:=Int.mul_le_mul (by omega) h3 (by omega) (by omega)
 have hnew:(List.replicate k.toNat its.toArray).foldl (·++·) #[]=(List.replicate k.toNat its).flatten.toArray:=by
  have z:=Zs its k.toNat []
  rw [List.nil_append] at z
  exact z
 have len:(List.replicate k.toNat its).flatten.length=k.toNat * its.length:=Zv its k.toNat
 have big:k.toNat * its.length<=sizeLine:=by
  have z:k.toNat * its.length<=1000 * 1000:=Nat.mul_le_mul (by omega) (by omega)
  exact Nat.le_trans z (by decide)
 refine wpAny_binaryOp_repeat_ref (T:="tuple") (U:="int") (by decide) ⟨_,ho,rfl⟩ (λs'=>typeIs_int s' k t) Jl F.fills_int_mul F.slot_int_rmul Jm F.slot_int_index.lookup
  (call_meets F.slot_int_rmul (typeIs_int s k t) F.entry_int_rmul (F.args_int_rmul_2 _ _) (Jn k t a dd its.toArray n sl)
   ⟨ho,rfl,⟨_,ho,rfl⟩,call_meets F.slot_tuple_mul ⟨_,ho,rfl⟩ F.entry_tuple_mul (F.args_tuple_mul_2 _ _) (Jo a its.toArray n dd sl k t ?_ ?_ ?_ ?_ ?_ ?_) ⟨ho,?_⟩⟩)
 ·rw [em,Bool.false_or]
  intro z
  have:=beq_iff_eq.mp z
  omega
 ·intro z
  rcases Bool.or_eq_true_iff.mp z with z | z
  ·have:=of_decide_eq_true z
   omega
  ·have:=of_decide_eq_true z
   omega
 ·rw [em,Bool.or_false]
  intro z
  have:=of_decide_eq_true z
  omega
 ·rw [List.size_toArray]
  omega
 ·rw [List.size_toArray]
  unfold Builtin.Tuple.tupleTooMany
  intro z
  have:=of_decide_eq_true z
  have:((sizeLine:Nat):Int) ≥ 1000 * 1000:=by decide
  omega
 ·rw [hnew,List.size_toArray,len]
  exact big
 ·rw [hnew]
  refine ⟨.ref s.heap.objs.size,_,I.laid (t':=s.toks) (o:=.tup (List.replicate k.toNat xs).flatten) (λb ob q=>Heap.get?_push_of_some _ q) (Nat.le_refl _) ?_,rfl,q _ (I.hok.fresh (Nat.le_refl _))⟩
  refine ⟨?_,_,r.rep k.toNat,IsTup.new _ _⟩
  rw [Zv,<- hl]
  exact big
end
end L2
namespace L2
open PySem
end L2
namespace L2
open PySem PySem.Spec PyProof.Rows
section
variable {X:Cx}
end
end L2
namespace L2
open PySem PySem.Spec PyProof.Rows
theorem qr {a b c d:Nat} (h1:a < b) (h2:b<=c) (h3:c + 1<=d):d≠a:=by omega
theorem Z2 {a b c:Nat} (h1:c=a + 1) (h2:c + 1<=b):b≠a:=by omega
theorem kI {x:Str} {c:Addr}:∀ (names:List (Str × NameKind)) (n:Nat) (acc:List (Str × Addr)),(cellsFrom n names acc).lookup x=some c->((x,NameKind.cell)∈names/\n<=c)\/acc.lookup x=some c
 | [],_,_,h=>.inr h
 | (y,k) :: r,n,acc,h=>by
  unfold cellsFrom at h
  split at h
  ·rename_i hk
   rcases kI r (n + 1) ((y,n) :: acc) h with ⟨a,b⟩ | z
   ·exact .inl ⟨List.mem_cons_of_mem _ a,by omega⟩
   ·rw [List.lookup_cons] at z
    by_cases e:(x == y)=true
    ·simp only [e] at z
     have e1:x=y:=eq_of_beq e
     have e2:k=.cell:=eq_of_beq hk
     subst e1
     subst e2
     cases z
     exact .inl ⟨List.mem_cons_self,Nat.le_refl _⟩
    ·have e':(x == y)=false:=by simpa using e
     simp only [e'] at z
     exact .inr z
  ·rcases kI r n acc h with ⟨a,b⟩ | z
   ·exact .inl ⟨List.mem_cons_of_mem _ a,b⟩
   ·exact .inr z
theorem Z3 {x:Str}:∀ (names:List (Str × NameKind)) (n:Nat) (acc:List (Str × Addr)),(x,NameKind.cell)∉names->(cellsFrom n names acc).lookup x=acc.lookup x
 | [],_,_,_=>rfl
 | (y,k) :: r,n,acc,h=>by
  have hr:(x,NameKind.cell)∉r:=λz=>h (List.mem_cons_of_mem _ z)
  unfold cellsFrom
  split
  ·rename_i hk
   have e2:k=.cell:=eq_of_beq hk
   rw [Z3 r _ _ hr,List.lookup_cons]
   have e':(x == y)=false:=by
    cases q:x == y with
    | false=>rfl
    | true=>exact absurd (by rw [eq_of_beq q,e2]; exact List.mem_cons_self) h
   simp only [e']
  ·exact Z3 r _ _ hr
theorem Z4:∀ (names:List (Str × NameKind)) (n:Nat) (acc:List (Str × Addr)),(∀ x c,acc.lookup x=some c->c < n)->(∀ x y c,acc.lookup x=some c->acc.lookup y=some c->x=y)->
  ∀ x y c,(cellsFrom n names acc).lookup x=some c->(cellsFrom n names acc).lookup y=some c->x=y
 | [],_,_,_,h2=>h2
 | (z,k) :: r,n,acc,h1,h2=>by
  unfold cellsFrom
  split
  ·have look:∀ x c,((z,n) :: acc).lookup x=some c->(x=z/\c=n)\/acc.lookup x=some c:=λx c e=>by
    rw [List.lookup_cons] at e
    cases q:x == z with
    | true=>
     simp only [q] at e
     exact .inl ⟨eq_of_beq q,(Option.some.inj e).symm⟩
    | false=>
     simp only [q] at e
     exact .inr e
   refine Z4 r (n + 1) ((z,n) :: acc) (λx c e=>?_) λx y c e1 e2=>?_
   ·rcases look x c e with ⟨_,e⟩ | e
    ·rw [e]
     exact Nat.lt_succ_self n
    ·exact Nat.lt_succ_of_lt (h1 x c e)
   ·rcases look x c e1 with ⟨a1,b1⟩ | a1 <;> rcases look y c e2 with ⟨a2,b2⟩ | a2
    ·rw [a1,a2]
    ·have:=h1 y c a2
     rw [b1] at this
     exact absurd this (Nat.lt_irrefl n)
    ·have:=h1 x c a1
     rw [b2] at this
     exact absurd this (Nat.lt_irrefl n)
    ·exact h2 x y c a1 a2
  ·exact Z4 r n acc h1 h2
theorem Z5 {x:Str} {c:Addr}:∀ (names:List (Str × NameKind)) (h:Heap) (acc:List (Str × Addr)),(cellsFrom h.objs.size names acc).lookup x=some c->acc.lookup x=some c\/(pushCells h names).IsCell c none
 | [],_,_,e=>.inl e
 | (y,k) :: r,h,acc,e=>by
  unfold cellsFrom at e
  unfold pushCells
  split at e
  ·rename_i hk
   rw [if_pos hk]
   have q:=Z5 (x:=x) (c:=c) r (h.push { cls:=.type "cell",data:=.cell none }) ((y,h.objs.size) :: acc) (by rw [Heap.size_push]; exact e)
   rcases q with q | q
   ·rw [List.lookup_cons] at q
    cases z:x == y with
    | true=>
     simp only [z] at q
     cases q
     exact .inr ⟨_,pushCells_keeps r _ _ _ (Heap.get?_push_size _ rfl),rfl⟩
    | false=>
     simp only [z] at q
     exact .inl q
   ·exact .inr q
  ·rename_i hk
   rw [if_neg hk]
   exact Z5 r h acc e
theorem jq:∀ {l:List (Str × NameKind)} {x:Str} {k:NameKind},(l.map (·.1)).Nodup->(x,k)∈l->l.lookup x=some k
 | [],_,_,_,h=>by cases h
 | (y,j) :: r,x,k,nd,h=>by
  rw [List.map_cons,List.nodup_cons] at nd
  rw [List.lookup_cons]
  rcases List.mem_cons.mp h with e | h
  ·cases e
   rw [beq_self_eq_true]
  ·have ne:(x == y)=false:=by
    cases q:x == y with
    | false=>rfl
    | true=>exact absurd (by rw [<- eq_of_beq q]; exact List.mem_map.mpr ⟨(x,k),h,rfl⟩) nd.1
   simp only [ne]
   exact jq nd.2 h
theorem Jp {M:Model} {A:Around} {E:Value->Shared->Prop} {s:Shared} {scope:Scope} {globals:Addr} {closure:List (Str × Addr)} {qual:Str} {func:Option Addr} {code:Value} {env:Env} {builtins:Addr} {Q:Env->Shared->Prop}
  (h:Q (newEnv scope s.heap.objs.size globals (cellsFrom (s.heap.objs.size + 1) scope.names closure) qual func code (some env) builtins) { s with heap:=pushCells (s.heap.push { cls:=.type "dict",data:=.dict #[] }) scope.names }) :
  wpAny M A (newFunctionEnv scope globals closure [] qual func code (some env) builtins) Q E s:=by
 simp only [newFunctionEnv,Option.isSome_some,if_true]
 refine wpAny_bind (wpAny_alloc ?_)
 refine wpAny_bind (wpAny_layCells _ (λname kind cells=>by cases hkc:kind == NameKind.cell <;> simp [hkc]) _ _ _ _ ?_)
 rw [show ({ s with heap:=s.heap.push { cls:=.type "dict",data:=.dict #[] } }:Shared).heap.objs.size=s.heap.objs.size + 1 from Heap.size_push ..]
 simp only [List.forIn_nil]
 exact wpAny_bind (wpAny_pure (wpAny_pure h))
noncomputable abbrev wE (X:Cx) (scope:Scope) (N:List Str) (C:Addr) (s₀:Shared) (H₀:Hp) (ex:List Addr):Cx:=
 { X with N:=N,s₀:=s₀,H₀:=H₀,env:=compEnvC scope (cellsFrom (C + 1) scope.names (xj scope X.env)) C X.env,outer:=X.stack,ex:=ex,fn:=λx=>scope.names.lookup x == some .cell,pn:=[],xe:=λ_ _=>False }
structure ud (X:Cx) (scope:Scope) (own:List Str) (caps:List (Nat × Str)):Prop where
 kind:scope.kind=.function
 nod:(scope.names.map (·.1)).Nodup
 locs:∀ y∈scope.names,y.2=.local->scope.names.lookup y.1=some .local
 free:∀ y∈scope.names,y.2=.free->(X.env.cells.lookup y.1).isSome=true
 caps:∀ p∈caps,X.N[p.1]? = some p.2/\scope.names.lookup p.2=some .free/\(X.env.kindOf p.2=some .cell\/X.env.kindOf p.2=some .free)
section
variable {X:Cx} {scope:Scope} {own:List Str} {caps:List (Nat × Str)} {pins:List (Addr × Obj)} {σ:St} {H:Hp} {s s4:Shared} {C D:Addr} {fp:List Addr}
theorem kJ (B:ud X scope own caps) {x:Str} {c n:Nat} (e:(cellsFrom n scope.names (xj scope X.env)).lookup x=some c):((x,NameKind.cell)∈scope.names/\n<=c)\/X.env.cells.lookup x=some c:=
 (kI _ _ _ e).imp id λz=>(wL B.free z).1
theorem WT (I:zG X pins σ H s) {x:Str} {c:Addr} (e:X.env.cells.lookup x=some c):c < s.heap.objs.size:=by
 obtain ⟨v,o,ho,_⟩:=I.cell x c e
 exact Heap.lt_size ho
theorem Jq (B:ud X scope own caps) (I:zG X pins σ H s) (hf:∀ b∈fp,zq X pins H b) (hC:s.heap.objs.size<=C) (hlt:∀ b∈fp,b < s.heap.objs.size):(wE X scope (zU own caps) C s H fp).Ok where
 mod:=I.ok.mod
 kind:=B.kind
 glob:=I.ok.glob
 blt:=I.ok.blt
 above:=hC
 inj:=Z4 _ _ _ (λx c e=>Nat.lt_of_lt_of_le (WT I (wL B.free e).1) (Nat.le_succ_of_le hC)) λx y c h1 h2=>I.ok.inj x y c (wL B.free h1).1 (wL B.free h2).1
 has:=λx h=>by
  have fr:(x,NameKind.free)∈scope.names->∃ c,(cellsFrom (C + 1) scope.names (xj scope X.env)).lookup x=some c:=λz=>by
   obtain ⟨c,e⟩:=qj (env:=X.env) z
   exact Option.isSome_iff_exists.mp (PySem.W.cellsFrom_some _ _ _ (.inr (by rw [e]; rfl)))
  have ce:(x,NameKind.cell)∈scope.names->∃ c,(cellsFrom (C + 1) scope.names (xj scope X.env)).lookup x=some c:=λz=>
   Option.isSome_iff_exists.mp (PySem.W.cellsFrom_some _ _ _ (.inl (jq B.nod z)))
  rcases h with h | h
  ·rcases WH (show (relabel scope X.env).names.lookup x=some .cell from h) with ⟨_,z | z⟩ | z
   ·exact fr z
   ·exact ce z
   ·exact ce z
  ·rcases WH (show (relabel scope X.env).names.lookup x=some .free from h) with ⟨z,_⟩ | z
   ·cases z
   ·exact fr z
 cab:=λx c h e=>by
  have hx:scope.names.lookup x=some .cell:=eq_of_beq h
  rcases kI _ _ _ e with ⟨_,z⟩ | z
  ·exact Nat.le_trans hC (Nat.le_of_succ_le z)
  ·have:=jq B.nod (wL B.free z).2
   rw [hx] at this
   cases this
 hd:=I.ok.hd
 frames:=I.ok.frames
 stk:=.inl rfl
 exf:=λb hb=>⟨λe=>by have:=hlt b hb; rw [e] at this; exact absurd (Nat.lt_of_lt_of_le this hC) (Nat.lt_irrefl _),λx c e=>by
  rcases kJ B e with ⟨_,z⟩ | z
  ·exact qr (hlt b hb) hC z
  ·exact (hf b hb).2.2.2.2.1 x c z⟩
 bs:=I.bs
 bsz:=Nat.le_trans I.ok.bsz I.sz
 noex:=λb o e hb=>by
  rcases (hf b hb).2.2.2.1 with z | z
  ·exact I.ok.noex b o e z
  ·exact absurd (Nat.lt_of_lt_of_le (Heap.lt_size e) (Nat.le_trans I.ok.bsz z)) (Nat.lt_irrefl _)
 exfs:=λb hb z=>by
  rcases List.mem_cons.mp (I.stkSub b z) with e | z
  ·exact (hf b hb).2.1 e
  ·exact (hf b hb).2.2.1 z
 funs:=I.stack
 frf:=I.stkFree
theorem Jr (B:ud X scope own caps) (I:zG X pins σ H s) (hf:∀ b∈fp,zq X pins H b) (hC:s.heap.objs.size<=C) (hlt:∀ b∈fp,b < s.heap.objs.size)
  {m:Str->Option Value} (hn:s4.heap.Ns C m) (hk:∀ b o,s.heap.get? b=some o->s4.heap.get? b=some o) (hcell:∀ x c,(cellsFrom (C + 1) scope.names (xj scope X.env)).lookup x=some c->(xj scope X.env).lookup x=some c\/s4.heap.IsCell c none) (ho:s4.os=s.os) (hb:AllBare s4.gens) :
  zG (wE X scope (zU own caps) C s H fp) [] (xr own caps σ) H s4 where
 ok:=Jq B I hf hC hlt
 os:=ho
 bare:=hb
 base:=Un.kept hk
 loc:=⟨m,hn,λi x v h1 h2 h3=>by
  obtain ⟨j,hm,hs⟩:=WJ h1 h2
  obtain ⟨c1,c2,c3⟩:=B.caps _ hm
  obtain ⟨m',_,hl⟩:=I.loc
  have vis:uq X.env.scope x:=c3.elim (λz=>.inr (.inl z)) λz=>.inr (.inr z)
  obtain ⟨u,r,l⟩:=hl j x v c1 hs vis
  refine ⟨u,r,.inr ?_⟩
  have hm2:(x,NameKind.free)∈scope.names:=uc c2
  obtain ⟨c',hc'⟩:=qj (env:=X.env) hm2
  have hc2:=(wL B.free hc').1
  have noc:(x,NameKind.cell)∉scope.names:=λz=>by
   have:=jq B.nod z
   rw [c2] at this
   cases this
  refine ⟨?_,c',(Z3 _ _ _ noc).trans hc',?_⟩
  ·show (relabel scope X.env).names.lookup x=some .cell\/(relabel scope X.env).names.lookup x=some .free
   rw [kG,c2,Option.map_some]
   split
   ·exact .inl rfl
   ·exact .inr rfl
  ·rcases l with ⟨k,_⟩ | ⟨_,c,e,z⟩
   ·rcases c3 with c3 | c3 <;> rw [c3] at k <;> cases k
   ·rw [hc2] at e
    cases e
    obtain ⟨o,e1,e2⟩:=z
    exact ⟨o,hk _ o e1,e2⟩⟩
 cell:=λx c e=>by
  rcases hcell x c e with z | z
  ·obtain ⟨v,o,e1,e2⟩:=I.cell x c (wL B.free z).1
   exact ⟨v,o,hk _ o e1,e2⟩
  ·exact ⟨none,z⟩
 free:=I.hok.fresh hC
 freeC:=λx c e=>by
  rcases kJ B e with ⟨_,z⟩ | z
  ·exact I.hok.fresh (Nat.le_trans hC (Nat.le_of_succ_le z))
  ·exact I.freeC x c z
 pin:=λp hp=>by simp at hp
 hok:=I.hok.kept hk
 len:=by
  show (xr own caps σ).length=(zU own caps).length
  unfold xr zU
  simp
end
section
variable {X:Cx} {scope:Scope} {own:List Str} {caps:List (Nat × Str)} {elt tg iter cond:Expr} {wi:TI} {g:TG} {tc:TT} {te:TE} {pos:Pos}
theorem WU {pins:List (Addr × Obj)} {σ:St} {H2:Hp} {s2:Shared} {it:Addr} {fp:List Addr} {tn:Nat->Heap->Prop} {J:It} {W:Nat->Nat->List V->St->Hp->Prop} {m0:Nat} {Q:VK} {E:Value->Shared->Prop} {RR:Value->Addr->Result->Shared->Prop}
  (B:ud X scope own caps) (hc:X.calm=true) (hg:∀ C s₀ H₀ ex,PG (wE X scope (zU own caps) C s₀ H₀ ex) tg g) (he:∀ C s₀ H₀ ex,PE (wE X scope (zU own caps) C s₀ H₀ ex) elt te)
  (I2:zG X pins σ H2 s2) (T:wW X.prog X.w X.K tg J fp it tn) (st2:tn 0 s2.heap) (f2:∀ b∈fp,zq X pins H2 b) (w0:W 0 m0 [] (xr own caps σ) H2)
  (turn:∀ i m ys σ1 H,W i m ys σ1 H->(J.stop i H/\∀ p,H p=none->Q (.ref p) (upd H p (.lst ys)))∨
   (J.go i H/\ys.length < sizeLine/\∃ N:V->St->Hp->Prop,(∀ y σ' H',N y σ' H'->∃ m',m' < m/\W (i + 1) m' (ys++[y]) σ' H')/\∀ x H',J.yld i H x H'->g x σ1 H' λσ2 H2=>te σ2 H2 λy H3=>N y σ2 H3))
  (hRR:∀ D C s6 H6 ys m,s6.heap.Ns C m->s2.heap.objs.size<=C->(∀ h',Heap.SameBut C s6.heap h'->zG X pins σ (upd H6 D (.lst ys)) { s6 with heap:=h' })->upd H6 D (.lst ys) C=none->Q (.ref D) (upd H6 D (.lst ys))->RR (.ref D) C (.ok .next) s6) :
  wpAny (model X.prog X.w) X.A (newList []) (λacc s3=>wpAny (model X.prog X.w) X.A (newFunctionEnv scope X.env.globals (xj scope X.env) [] X.env.qual none .none (some X.env)) (λcenv s4=>
   codeAny (model X.prog X.w) X.A (.compStart (.ListComp elt [⟨tg,iter,[],0⟩] scope pos) 0 (.ref it) acc { cenv with scope:=relabel scope X.env }) (RR acc cenv.locals) s4) E s3) E s2:=by
 have hlt:∀ b∈fp,b < s2.heap.objs.size:=λb hb=>by
  obtain ⟨o,ho,_⟩:=T.obj _ _ st2 b hb
  exact Heap.lt_size ho
 refine wpAny_newObj_type (Jp ?_)
 dsimp only
 generalize hP:s2.heap.push { cls:=.type "list",dict:=none,data:=.seq ([]:List Value).toArray }=HD
 have hns:(pushCells (HD.push { cls:=.type "dict",data:=.dict #[] }) scope.names).Ns HD.objs.size (λ_=>none):=(Heap.Ns.new HD (.type "dict")).keeps (pushCells_keeps _ _)
 have hkp:∀ b o,HD.get? b=some o->(pushCells (HD.push { cls:=.type "dict",data:=.dict #[] }) scope.names).get? b=some o:=λb o e=>pushCells_keeps _ _ b o (Heap.get?_push_of_some _ e)
 have hcell:∀ x c,(cellsFrom (HD.objs.size + 1) scope.names (xj scope X.env)).lookup x=some c->(xj scope X.env).lookup x=some c\/(pushCells (HD.push { cls:=.type "dict",data:=.dict #[] }) scope.names).IsCell c none:=λx c e=>
  Z5 _ _ _ (by rw [Heap.size_push]; exact e)
 generalize hP4:pushCells (HD.push { cls:=.type "dict",data:=.dict #[] }) scope.names=h4 at hns hkp hcell |-
 have hCD:HD.objs.size=s2.heap.objs.size + 1:=by rw [<- hP,Heap.size_push]
 have hDC:s2.heap.objs.size≠HD.objs.size:=by omega
 have hle:s2.heap.objs.size<=HD.objs.size:=by omega
 have old:∀ b o,s2.heap.get? b=some o->h4.get? b=some o:=λb o eb=>hkp b o (by rw [<- hP]; exact Heap.get?_push_of_some _ eb)
 have hD4:h4.get? s2.heap.objs.size=some { cls:=.type "list",data:=.seq ([]:List Value).toArray 0 }:=hkp _ _ (by rw [<- hP]; exact Heap.get?_push_size _ rfl)
 have IY:zG (wE X scope (zU own caps) HD.objs.size s2 H2 fp) [] (xr own caps σ) H2 { s2 with heap:=h4 }:=
  Jr B I2 f2 (by omega) hlt hns old hcell rfl I2.bare
 have stat:∀ {H':Hp},(∀ b∈fp,H' b=none)->∀ b∈fp,zq (wE X scope (zU own caps) HD.objs.size s2 H2 fp) [] H' b:=λ{H'} hn b hb=>by
  have hb2:=hlt b hb
  refine ⟨hn b hb,?_,λz=>?_,.inl hb,λx c ec=>(match kJ B ec with | .inl z=>qr hb2 hle z.2 | .inr z=>(f2 b hb).2.2.2.2.1 x c z),λp hp=>by simp at hp⟩
  ·exact Nat.ne_of_lt (Nat.lt_of_lt_of_le hb2 hle)
  ·rcases List.mem_cons.mp (I2.stkSub b z) with e | z
   ·exact (f2 b hb).2.1 e
   ·exact (f2 b hb).2.2.1 z
 have statD:∀ {H':Hp},H' s2.heap.objs.size=none->zq (wE X scope (zU own caps) HD.objs.size s2 H2 fp) [] H' s2.heap.objs.size:=λ{H'} hn=>by
  refine ⟨hn,hDC,λz=>?_,.inr (Nat.le_refl _),λx c ec z=>?_,λp hp=>by simp at hp⟩
  ·obtain ⟨_,o,ho,_⟩:=I2.stack.mem z
   exact absurd (Heap.lt_size ho) (Nat.lt_irrefl _)
  ·rcases kJ B ec with ⟨_,y⟩ | y
   ·exact Z2 hCD y z
   ·have:=WT I2 y
    rw [z] at this
    exact Nat.lt_irrefl _ this
 have neD:∀ b∈fp,b≠s2.heap.objs.size:=λb hb=>Nat.ne_of_lt (hlt b hb)
 have IY':zG (wE X scope (zU own caps) HD.objs.size s2 H2 fp) [(s2.heap.objs.size,yE [] 0)] (xr own caps σ) H2 { s2 with heap:=h4 }:=
  IY.pins_of λp hp=>by
   rw [List.mem_singleton.mp hp]
   have z:=statD (I2.hok.fresh (Nat.le_refl _))
   exact ⟨hD4,z.1,z.2.1,z.2.2.1,λv z=>by cases z⟩
 have loop:∀ s3:Shared,s3={ s2 with heap:=h4 }->
   codeAny (model X.prog X.w) X.A (.compLoop (.ListComp elt [⟨tg,iter,[],0⟩] scope pos) 0 (.ref it) (.ref s2.heap.objs.size) (compEnvC scope (cellsFrom (HD.objs.size + 1) scope.names (xj scope X.env)) HD.objs.size X.env))
    (RR (.ref s2.heap.objs.size) HD.objs.size) s3:=by
  rintro s3 rfl
  refine WI (λn s'=>∃ i ys σ' H' its k,zG (wE X scope (zU own caps) HD.objs.size s2 H2 fp) [(s2.heap.objs.size,yE its k)] σ' H' s'/\tn i s'.heap/\(∀ b∈fp,H' b=none)∧
   zO ys its/\ys.length<=sizeLine/\W i n ys σ' H') ?_ m0 ⟨0,[],_,H2,[],0,IY',T.keep _ _ _ st2 λb hb o eb=>old b o eb,λb hb=>(f2 b hb).1,.nil,Nat.zero_le _,w0⟩
  rintro n s5 ⟨i,ys,σ5,H5,its,k,I5,st5,fr5,rv5,hz5,w5⟩
  have stat5:∀ {H':Hp},(∀ b∈fp,H' b=none)->∀ b∈fp,zq (wE X scope (zU own caps) HD.objs.size s2 H2 fp) [(s2.heap.objs.size,yE its k)] H' b:=λ{H'} hn b hb=>by
   obtain ⟨a1,a2,a3,a4,a5,_⟩:=stat hn b hb
   refine ⟨a1,a2,a3,a4,a5,λp hp=>?_⟩
   have hp':p∈[(s2.heap.objs.size,yE its k)]:=hp
   rw [List.mem_singleton.mp hp']
   exact Ne.symm (neD b hb)
  rcases turn i n ys σ5 H5 w5 with ⟨stop,qn⟩ | ⟨go,hlen,N,hN,step⟩
  ·refine zd (T.done (wE X scope (zU own caps) HD.objs.size s2 H2 fp) rfl rfl rfl hc i _ s5 σ5 H5 _ I5 (stat5 fr5) st5 stop) λr s6 ⟨hr,I6⟩=>?_
   subst hr
   obtain ⟨pD1,pD2,_⟩:=I6.pin (s2.heap.objs.size,yE its k) (List.mem_append_right _ List.mem_cons_self)
   obtain ⟨m6,hn6,_⟩:=I6.loc
   refine hRR _ _ s6 H5 ys m6 hn6 (by omega) (λh' sb=>?_) (by rw [zi (Ne.symm hDC)]; exact I6.free) (qn _ pD2)
   have hC5:H5 HD.objs.size=none:=I6.free
   have nb:∀ b o,s2.heap.get? b=some o->b≠HD.objs.size/\b≠s2.heap.objs.size:=λb o eb=>by
    have hb:=Heap.lt_size eb
    exact ⟨Nat.ne_of_lt (Nat.lt_of_lt_of_le hb hle),Nat.ne_of_lt hb⟩
   have nt:∀ b o,H5 b=some o->b≠s2.heap.objs.size:=λb o eb z=>by rw [z] at eb; rw [show H5 s2.heap.objs.size=none from pD2] at eb; cases eb
   have un:Un (yf X.stack) fp H2 (upd H5 s2.heap.objs.size (.lst ys)) s2.heap h':=
    ⟨λb o eb n1 n2 n3=>sb.extBut b o (nb b o eb).1 (I6.base.keep b o eb n1 n2 n3),
     λb o eb n1 n2 n3=>by
      obtain ⟨sl,e1⟩:=I6.base.slot b o eb n1 n2 n3
      exact ⟨sl,sb.extBut b _ (nb b o eb).1 e1⟩,
     λb o eb n1 n3=>by
      rw [zi (nb b o eb).2]
      exact I6.base.free b o eb n1 n3,
     λb o eb n3=>by
      obtain ⟨o',e1⟩:=I6.base.there b o eb n3
      exact ⟨o',sb.extBut b _ (nb b o eb).1 e1⟩,
     λb xs eb=>by
      have e1:=I6.base.tups b xs eb
      rw [zi (nt b _ e1)]
      exact e1,
     λb o u eb=>by
      have e1:=I6.base.frzs b o u eb
      rw [zi (nt b _ e1)]
      exact e1,
     λb ps eb=>by
      obtain ⟨more,e1⟩:=I6.base.tbls b ps eb
      refine ⟨more,?_⟩
      rw [zi (nt b _ e1)]
      exact e1⟩
   have ok5:ya X.prog X.w (upd H5 s2.heap.objs.size (.lst ys)) h':=λb u eb=>by
    by_cases hb:b=s2.heap.objs.size
    ·subst hb
     rw [zH] at eb
     cases eb
     exact ⟨hz5,its,k,rv5,sb.extBut _ _ hDC pD1⟩
    ·rw [zi hb] at eb
     refine (I6.hok b u eb).stay (λc v hcv ev=>sb.extBut c v ?_ ev) (λc ec=>by rw [zi (nt c _ ec)]; exact ec) λc xs ec=>by rw [zi (nt c _ ec)]; exact ec
     rintro rfl
     rcases hcv with z | z
     ·rw [<- z,hC5] at eb
      cases eb
     ·rw [hC5] at z
      cases z
   exact I2.call' (s':={ s6 with heap:=h' }) (ch:=fp) I6.os un ok5 I6.bare λb hb=>⟨(f2 b hb).2.2.2.1,(f2 b hb).2.1,(f2 b hb).2.2.2.2.1,(f2 b hb).2.2.2.2.2⟩
  ·refine zd (T.item (wE X scope (zU own caps) HD.objs.size s2 H2 fp) rfl rfl rfl hc i _ s5 σ5 H5 _ I5 (stat5 fr5) st5 go) λr s6 ⟨u,hr,h6⟩=>?_
   subst hr
   refine zd h6 λ_ s7 ⟨x,H7,I7,r7,y7,st7,fr7⟩=>?_
   have I7':=I7.pinned (stat5 fr7) (T.obj _ _ st7)
   refine zd (hg HD.objs.size s2 H2 fp _ s7 σ5 H7 x u _ I7' r7 (step x H7 y7)) λ_ s8 ⟨σ8,H8,I8,q8⟩=>?_
   refine zd (he HD.objs.size s2 H2 fp _ s8 σ8 H8 _ I8 q8) λyv s9 ⟨y,H9,I9,r9,n9⟩=>?_
   obtain ⟨m',hm',w9⟩:=hN y σ8 H9 n9
   have pD9:=(I9.pin (s2.heap.objs.size,yE its k) (List.mem_append_right _ (List.mem_append_left _ List.mem_cons_self))).2.1
   have hl:its.length=ys.length:=rv5.length.symm
   refine Zx (Y:=wE X scope (zU own caps) HD.objs.size s2 H2 fp) (its:=its) (k:=k) (pl:=uw fp s7.heap) I9 (statD pD9) rfl (by omega) λh' k' tk keep I'=>?_
   refine ⟨m',hm',i + 1,ys++[y],σ8,H9,its++[yv],k',I',?_,λb hb=>?_,rv5.append (.cons r9 .nil),?_,w9⟩
   ·refine T.keep _ _ _ st7 λb hb o eb=>keep b o (neD b hb) ?_
    exact (I9.pin (b,o) (List.mem_append_right _ (List.mem_append_right _ (vi hb eb)))).1
   ·obtain ⟨o,eb,_⟩:=T.obj _ _ st7 b hb
    exact (I9.pin (b,o) (List.mem_append_right _ (List.mem_append_right _ (vi hb eb)))).2.1
   ·rw [List.length_append,List.length_singleton]
    omega
 exact codeAny_compStart_list (loop _ rfl) (T.self _ 0 _ _ _ (T.keep _ _ _ st2 λb hb o eb=>old b o eb) (loop _ rfl))
theorem Js (B:ud X scope own caps) (hc:X.calm=true) (hi:PI X tg iter wi) (hg:∀ C s₀ H₀ ex,PG (wE X scope (zU own caps) C s₀ H₀ ex) tg g)
  (he:∀ C s₀ H₀ ex,PE (wE X scope (zU own caps) C s₀ H₀ ex) elt te) (hs:∀ x,foldedSetIterable iter X.env x=pure x:=by intro _; rfl) :
  PE X (.ListComp elt [⟨tg,iter,[],0⟩] scope pos) (kH own caps wi g te):=by
 intro pins s σ H Q I h
 rw [eval_ListComp]
 refine wpAny_comprehension_free (use:=none) rfl hs (qi B.free) B.kind B.locs ?_
 refine zd (hi pins s σ H _ I h) λxv s1 h1=>zd h1 λitv s2 h2=>?_
 obtain ⟨it,fp,tn,J,H2,e,I2,T,st2,f2,W,⟨m0,w0⟩,turn⟩:=h2
 subst e
 refine WU (RR:=λacc C=>compPost (model X.prog X.w) X.A X.xe none (EP X pins σ Q) acc C) B hc hg he I2 T st2 f2 w0 turn λD C s6 H6 ys m hn hC J6 hC6 q=>?_
 exact ⟨m,hn,λh' sb=>⟨.ref D,_,J6 h' sb,rfl,q⟩⟩
theorem Jt {i:Nat} {y:Str} {py spos:Pos} (hN:X.N.Nodup) (hy:X.N[i]? = some y) (hl:X.env.scope.names.lookup y=some .local) (B:ud X scope own caps) (hc:X.calm=true) (hi:PI X tg iter wi) (hg:∀ C s₀ H₀ ex,PG (wE X scope (zU own caps) C s₀ H₀ ex) tg g)
  (he:∀ C s₀ H₀ ex,PE (wE X scope (zU own caps) C s₀ H₀ ex) elt te) (hsw:swapsWith (.ListComp elt [⟨tg,iter,[],0⟩] scope pos) (some (.Name y py)) spos.line X.env=pure true) (hs:∀ x,foldedSetIterable iter X.env x=pure x:=by intro _; rfl) :
  PS X (.Assign [.Name y py] (.ListComp elt [⟨tg,iter,[],0⟩] scope pos) spos) (uB (kH own caps wi g te) (wB i)):=by
 intro pins s σ H D0 I h
 rw [exec_Assign_Name_used _ _ _ _ hsw]
 refine wpAny_bind (wpAny_standAt (wpAny_bind ?_))
 change wpAny _ X.A (do let _ <- comprehension (.ListComp elt [⟨tg,iter,[],0⟩] scope pos) scope X.env _ (newList []) false (eval iter X.env) (some (assign (.Name y py) X.env))) _ _ s
 refine wpAny_bind (wpAny_mono (wpAny_comprehension_free (use:=some (assign (.Name y py) X.env)) (Q:=λ_ s'=>SP X pins D0 .next s') rfl hs (qi B.free) B.kind B.locs ?_) (λ_ s' hq=>wpAny_pure (wpAny_pure hq)) λ_ _ e=>e)
 refine zd (hi pins s σ H _ I h) λxv s1 h1=>zd h1 λitv s2 h2=>?_
 obtain ⟨it,fp,tn,J,H2,e,I2,T,st2,f2,W,⟨m0,w0⟩,turn⟩:=h2
 subst e
 refine WU (Q:=λx H1=>D0.nx (σ.set i (some x)) H1) (RR:=λacc C=>compPost (model X.prog X.w) X.A X.xe (some (assign (.Name y py) X.env)) (λ_ s'=>SP X pins D0 .next s') acc C) B hc hg he I2 T st2 f2 w0 turn λD C s6 H6 ys m hn hC J6 hC6 q=>?_
 have I6:zG X pins σ (upd H6 D (.lst ys)) s6:=J6 s6.heap (.refl ..)
 have CL:C≠X.env.locals:=λz=>by rw [z] at hC; exact absurd (Nat.lt_of_lt_of_le I2.lt hC) (Nat.lt_irrefl _)
 have CC:∀ x c,X.env.cells.lookup x=some c->c≠C:=λx c ec z=>by
  obtain ⟨v,o,ho,_⟩:=I2.cell x c ec
  rw [z] at ho
  exact absurd (Nat.lt_of_lt_of_le (Heap.lt_size ho) hC) (Nat.lt_irrefl _)
 have CP:∀ p∈X.pn++pins,p.1≠C:=λp hp z=>by
  have hl:=Heap.lt_size (I2.pin p hp).1
  rw [z] at hl
  exact absurd (Nat.lt_of_lt_of_le hl hC) (Nat.lt_irrefl _)
 change wpAny _ X.A (assign (.Name y py) X.env (.ref D)) _ _ s6
 refine wpAny_assign_Name (ZN I6 hN hy (.inl hl) (v:=.ref D) rfl (λs7 I7 ⟨a,sb,ha⟩=>?_) (.inr hl))
 have aC:C≠a:=λz=>by
  rcases ha with e | e
  ·exact CL (z.trans e)
  ·exact CC _ _ e z.symm
 refine ⟨m,hn.sameBut sb aC,λh' sb'=>⟨_,_,I7.turned (h':=h') (t':=s7.toks) (it:=C) (λb o hb eb=>sb'.extBut b o hb eb) hC6 CL (.inr (Nat.le_trans I2.sz hC)) CC CP,q⟩⟩
end
theorem Ju {X:Cx} {scope S:Scope} {own N:List Str} {caps:List (Nat × Str)} (k:scope.kind=.function) (nd:(scope.names.map (·.1)).Nodup)
  (hS:X.env.scope=S) (hc:∃ n,X.env.cells=cellsFrom n S.names []) (hN:X.N=N) (fr:scope.names.all (λy=>y.2 != .free || S.names.lookup y.1 == some .cell)=true)
  (cp:caps.all (λp=>N[p.1]? == some p.2 && scope.names.lookup p.2 == some .free && S.names.lookup p.2 == some .cell)=true):ud X scope own caps:=by
 obtain ⟨nn,hc⟩:=hc
 refine ⟨k,nd,λy hy e=>?_,λy hy e=>?_,λp hp=>?_⟩
 ·exact jq nd (by rw [<- e]; exact hy)
 ·have q:=List.all_eq_true.mp fr y hy
  rw [e] at q
  have q2:S.names.lookup y.1=some .cell:=by simpa using q
  rw [hc]
  exact PySem.W.cellsFrom_some S.names nn [] (.inl q2)
 ·have q:=List.all_eq_true.mp cp p hp
  simp only [Bool.and_eq_true,beq_iff_eq] at q
  refine ⟨by rw [hN]; exact q.1.1,q.1.2,.inl ?_⟩
  show X.env.scope.names.lookup p.2=some .cell
  rw [hS]
  exact q.2
theorem Jv {Y:Cx} {scope S:Scope} {own own0:List Str} {caps caps0:List (Nat × Str)} {C:Addr} {s₀:Shared} {H₀:Hp} {ex:List Addr} (k:scope.kind=.function) (nd:(scope.names.map (·.1)).Nodup)
  (ndS:(S.names.map (·.1)).Nodup) (fr:scope.names.all (λy=>y.2 != .free || S.names.lookup y.1 == some .cell || S.names.lookup y.1 == some .free)=true)
  (cp:caps.all (λp=>(zU own0 caps0)[p.1]? == some p.2 && scope.names.lookup p.2 == some .free)=true):ud (wE Y S (zU own0 caps0) C s₀ H₀ ex) scope own caps:=by
 have fr':∀ y∈scope.names,y.2=.free->S.names.lookup y.1=some .cell\/S.names.lookup y.1=some .free:=λy hy e=>by
  have q:=List.all_eq_true.mp fr y hy
  rw [e] at q
  simpa using q
 refine ⟨k,nd,λy hy e=>?_,λy hy e=>?_,λp hp=>?_⟩
 ·exact jq nd (by rw [<- e]; exact hy)
 ·show ((cellsFrom (C + 1) S.names (xj S Y.env)).lookup y.1).isSome=true
  refine PySem.W.cellsFrom_some _ _ _ ?_
  rcases fr' y hy e with z | z
  ·exact .inl z
  ·obtain ⟨c,e⟩:=qj (env:=Y.env) (uc z)
   exact .inr (by rw [e]; rfl)
 ·have q:=List.all_eq_true.mp cp p hp
  simp only [Bool.and_eq_true,beq_iff_eq] at q
  refine ⟨q.1,q.2,?_⟩
  show (relabel S Y.env).names.lookup p.2=some .cell\/(relabel S Y.env).names.lookup p.2=some .free
  rw [kG]
  rcases fr' _ (uc q.2) rfl with z | z
  ·left
   show (S.names.lookup p.2).map _=_
   rw [z]
   rfl
  ·show (S.names.lookup p.2).map _=_\/(S.names.lookup p.2).map _=_
   rw [z,Option.map_some]
   split
   ·exact .inl rfl
   ·exact .inr rfl
end L2
namespace Sh
open PySem L2
noncomputable def yy (ns:List Int) (k:Int):Int:=(ns[k.toNat]?).getD 0
inductive kK (K:PySem.W.Frag) (vs:List V) (H:Hp) (Q:VK) (E:XK):Prop
 | mk (a:Addr) (ns:List Int) (k:Int) (_:vs=[.ref a,.int k]) (_:zP K H a (ns.map V.int)) (_:0<=k) (_:Q (.int (yy ns k)) H):kK K vs H Q E
theorem zK {H:Hp} {p:Addr} (h:H p=none) (o:HO):zC H (upd H p o):=λb u q=>by rw [zi (wP q h)]; exact q
theorem WV {x y:V}:wJ [x,y] 0=some x:=rfl
theorem WW {x y:V}:wJ [x,y] 1=some y:=rfl
noncomputable def Tp (H:Hp) (v:V) (xs:List V):Prop:=∃ a,v=.ref a/\H a=some (.tup xs)
theorem Tp.same {H H':Hp} {v:V} {xs:List V} (s:zC H H') (h:Tp H v xs):Tp H' v xs:=let ⟨r,e,q⟩:=h; ⟨r,e,s _ _ q⟩
theorem Tp.upd {H:Hp} {v:V} {xs:List V} {l:Addr} {o o':HO} (hl:H l=some o) (n:∀ ys,o≠.tup ys) (h:Tp H v xs):Tp (upd H l o') v xs:=by
 obtain ⟨r,e,q⟩:=h
 exact ⟨r,e,by rw [zi (Xl q hl λz=>n _ z.symm)]; exact q⟩
theorem xF {α β:Type} {R:α->β->Prop}:∀ {xs:List α} {ys:List β} {i:Nat} {x:α},Paired R xs ys->xs[i]? = some x->∃ y,ys[i]? = some y/\R x y
 | _,_,_,_,.nil,e=>by simp at e
 | _,_,0,_,.cons r _,e=>by simp at e; subst e; exact ⟨_,rfl,r⟩
 | _,_,i + 1,x,.cons _ t,e=>by
  obtain ⟨y,h1,h2⟩:=xF (i:=i) (x:=x) t (by simpa using e)
  exact ⟨y,by simpa using h1,h2⟩
theorem xZ {α β:Type} {R:α->β->Prop} {x:α} {y:β} (r:R x y):∀ {xs:List α} {ys:List β},Paired R xs ys->Paired R (xs++[x]) (ys++[y])
 | _,_,.nil=>.cons r .nil
 | _,_,.cons q t=>.cons q (xZ r t)
theorem wm {α β:Type} {R:α->β->Prop}:∀ {xs zs:List α} {ys us:List β},Paired R xs ys->Paired R zs us->Paired R (xs++zs) (ys++us)
 | _,_,_,_,.nil,h=>h
 | _,_,_,_,.cons q t,h=>.cons q (wm t h)
theorem xO {α:Type} {l:List α} {i:Nat} {x:α} (h:l[i]? = some x):l.take (i + 1)=l.take i++[x]:=by
 obtain ⟨hi,e⟩:=List.getElem?_eq_some_iff.mp h
 rw [List.take_succ_eq_append_getElem hi,e]
noncomputable abbrev zh (H:Hp) (vs:List V) (ks:List (List Int)):Prop:=Paired (λv (k:List Int)=>Tp H v (k.map V.int)) vs ks
theorem zh.same {H H':Hp} {vs:List V} {ks:List (List Int)} (s:zC H H') (h:zh H vs ks):zh H' vs ks:=Paired.mapP h λ_ _ z=>Tp.same s z
theorem zh.upd {H:Hp} {vs:List V} {ks:List (List Int)} {l:Addr} {o o':HO} (hl:H l=some o) (n:∀ ys,o≠.tup ys) (h:zh H vs ks):zh (upd H l o') vs ks:=Paired.mapP h λ_ _ z=>Tp.upd hl n z
theorem kL (K:PySem.W.Frag):PySem.W.kitOne K (.type "list") (.type "list")=some true:=by first | rfl | decide +kernel | (unfold PySem.W.kitOne; rw [if_pos (by decide +kernel)])
inductive qt (K:PySem.W.Frag) (vs:List V) (H:Hp) (Q:VK) (E:XK):Prop
 | mk (a:Addr) (ns:List Int) (_:vs=[.ref a]) (_:zP K H a (ns.map V.int)) (_:ns.length<=63) (_:∀ H',Q (.bl true) H'):qt K vs H Q E
inductive kM (vs:List V) (H:Hp) (Q:VK) (E:XK):Prop
 | mk (c m:Int) (_:vs=[.int c,.int m]) (_:0<=m) (_:m<=100) (_:∀ (r:Addr) (H':Hp) (xs:List Int),zC H H'->H r=none->H' r=some (.lst (xs.map V.int))->xs.length=m.toNat->(∀ x∈xs,0<=x/\x < 10 ^ 45)->Q (.ref r) H'):kM vs H Q E
theorem uN {xs:List Int} {i:Nat} {x:V} (h:(xs.map V.int)[i]? = some x):∃ z,xs[i]? = some z/\x=V.int z:=by
 rw [List.getElem?_map] at h
 cases e:xs[i]? with
 | none=>rw [e] at h; cases h
 | some z=>rw [e] at h; exact ⟨z,rfl,(Option.some.inj h).symm⟩
end Sh
namespace L2
open PySem PySem.Spec PyProof.Rows
noncomputable def jB (K:PySem.W.Frag) (a b:Addr):It:=
 ⟨λi H=>∃ xs ys x y,zP K H a xs/\zP K H b ys/\xs[i]? = some x/\ys[i]? = some y,
  λi H v H'=>∃ T x y,v=.ref T/\H T=none/\H'=upd H T (.tup [x,y])/\(∀ xs,zP K H a xs->xs[i]? = some x)/\∀ ys,zP K H b ys->ys[i]? = some y,
  λi H=>∃ xs ys,zP K H a xs/\zP K H b ys/\i<=xs.length/\i<=ys.length/\(i=xs.length\/i=ys.length)⟩
theorem Jw {P:Program} {w:World} {K:PySem.W.Frag} {es:List Expr} {kk:Nat} {tp:Pos} {a b z TI TO i1 i2:Addr} (Z:Zp z TI TO i1 i2 [i1,a] [i2,b]) (na:a≠i1) (nb:b≠i2) :
  wW P w K (.Tuple es kk tp) (jB K a b) [z,TI,TO,i1,i2] z (λi h=>IsZip h z TI TO .none/\IsPair h TI (.ref i1) (.ref i2)/\(∃ x y,IsPair h TO x y)/\h.IsListIter i1 a i/\h.IsListIter i2 b i) where
 mem:=by simp
 obj:=λi h ⟨t1,t2,⟨x,y,t3⟩,t4,t5⟩ c hc=>by
  simp only [List.mem_cons,List.not_mem_nil,or_false] at hc
  rcases hc with rfl | rfl | rfl | rfl | rfl
  ·exact ⟨_,t1,Zy⟩
  ·exact ⟨_,t2,WO⟩
  ·exact ⟨_,t3,WO⟩
  ·obtain ⟨o,e,_,d⟩:=t4
   exact ⟨o,e,by rw [d]; exact Zy⟩
  ·obtain ⟨o,e,_,d⟩:=t5
   exact ⟨o,e,by rw [d]; exact Zy⟩
 keep:=λi h h' ⟨t1,t2,⟨x,y,t3⟩,t4,t5⟩ k=>⟨k z (by simp) _ t1,k TI (by simp) _ t2,⟨x,y,k TO (by simp) _ t3⟩,(by obtain ⟨o,e,r⟩:=t4; exact ⟨o,k i1 (by simp) o e,r⟩),(by obtain ⟨o,e,r⟩:=t5; exact ⟨o,k i2 (by simp) o e,r⟩)⟩
 item:=by
  intro X hP hw hK hc i pins s σ H E I hf ⟨t1,t2,⟨x0,y0,t3⟩,t4,t5⟩ hg
  subst hP hw hK
  obtain ⟨xs,ys,x,y,hq1,hq2,hx,hy⟩:=hg
  obtain ⟨its1,rv1,p1,_⟩:=I.list hq1
  obtain ⟨its2,rv2,p2,_⟩:=I.list hq2
  obtain ⟨u,hu,ru⟩:=rv1.get hx
  obtain ⟨v,hv,rv⟩:=rv2.get hy
  have hh:X.A.in1.handled=none:=I.ok.hd hc
  have l1:i < its1.toArray.size:=by rw [List.size_toArray]; exact (List.getElem?_eq_some_iff.mp hu).1
  have l2:i < its2.toArray.size:=by rw [List.size_toArray]; exact (List.getElem?_eq_some_iff.mp hv).1
  refine Jh (Draws.list hh i1 a na its1.toArray) (Draws.list hh i2 b nb its2.toArray) Z t1 t2 t3 ⟨t4,p1.isList⟩ ⟨t5,p2.isList⟩ l1 l2 ?_
  intro x' y' h1 tk px py z1 z2 z3 z4 z5 z6 keep
  have ex:x'=u:=by
   have q:its1.toArray[i]? = some x':=px
   simp only [List.getElem?_toArray] at q
   rw [hu] at q
   exact (Option.some.inj q).symm
  have ey:y'=v:=by
   have q:its2.toArray[i]? = some y':=py
   simp only [List.getElem?_toArray] at q
   rw [hv] at q
   exact (Option.some.inj q).symm
  subst ex ey
  refine ⟨_,rfl,wpAny_letOwnedTupleGo_zip (s:={ s with heap:=h1,toks:=tk }) z1 λh2 z7 sb=>?_⟩
  have zlt:z < s.heap.objs.size:=Heap.lt_size t1
  have keep2:∀ c o,c∉[z,TI,TO,i1,i2]->s.heap.get? c=some o->h2.get? c=some o:=λc o hc e=>by
   simp only [List.mem_cons,List.not_mem_nil,or_false,not_or] at hc
   exact sb.extBut c o hc.1 (keep c o hc.1 hc.2.2.1 hc.2.2.2.1 hc.2.2.2.2 e)
  have pT:IsPair h2 s.heap.objs.size x' y':=sb.extBut _ _ (Nat.ne_of_gt zlt) z6
  have I':=I.turnT (h':=h2) (tk:=tk) (ch:=[z,TI,TO,i1,i2]) (x:=x) (y:=y) hf keep2 (Nat.le_refl _) pT ru rv
  refine ⟨.ref s.heap.objs.size,_,I',rfl,⟨s.heap.objs.size,x,y,rfl,I.hok.fresh (Nat.le_refl _),rfl,λxs' q=>by rw [I.list_inj q hq1]; exact hx,λys' q=>by rw [I.list_inj q hq2]; exact hy⟩,
   ⟨z7,sb.extBut _ _ Z.a1 z2,⟨_,_,sb.extBut _ _ Z.a2 z3⟩,z4.1.extBut sb.extBut Z.a3,z5.1.extBut sb.extBut Z.a4⟩,λc hc=>?_⟩
  have:=(hf c hc).1
  rw [zi]
  ·exact this
  ·intro q
   obtain ⟨o,e,_⟩:∃ o,s.heap.get? c=some o/\True:=by
    simp only [List.mem_cons,List.not_mem_nil,or_false] at hc
    rcases hc with rfl | rfl | rfl | rfl | rfl
    ·exact ⟨_,t1,trivial⟩
    ·exact ⟨_,t2,trivial⟩
    ·exact ⟨_,t3,trivial⟩
    ·obtain ⟨o,e,_⟩:=t4; exact ⟨o,e,trivial⟩
    ·obtain ⟨o,e,_⟩:=t5; exact ⟨o,e,trivial⟩
   rw [q] at e
   exact absurd (Heap.lt_size e) (Nat.lt_irrefl _)
 done:=by
  intro X hP hw hK hc i pins s σ H E I hf ⟨t1,t2,⟨x0,y0,t3⟩,t4,t5⟩ hg
  subst hP hw hK
  obtain ⟨xs,ys,hq1,hq2,e1,e2,e3⟩:=hg
  obtain ⟨its1,rv1,p1,_⟩:=I.list hq1
  obtain ⟨its2,rv2,p2,_⟩:=I.list hq2
  have hh:X.A.in1.handled=none:=I.ok.hd hc
  have n1:its1.toArray.size=xs.length:=by rw [List.size_toArray]; exact rv1.length.symm
  have n2:its2.toArray.size=ys.length:=by rw [List.size_toArray]; exact rv2.length.symm
  refine Ji (Draws.list hh i1 a na its1.toArray) (Draws.list hh i2 b nb its2.toArray) Z t1 t2 t3 ⟨t4,p1.isList⟩ ⟨t5,p2.isList⟩ (by omega) (by omega) (by omega) ?_
  intro h1 tk keep
  refine ⟨rfl,I.turnN (h':=h1) (tk:=tk) (ch:=[z,TI,TO,i1,i2]) hf λc o hc e=>?_⟩
  simp only [List.mem_cons,List.not_mem_nil,or_false,not_or] at hc
  exact keep c o hc.1 hc.2.2.1 hc.2.2.2.1 hc.2.2.2.2 e
 self:=λ_ _ _ _ _ st h=>wpAny_pyIter_zip st.1 h
section
variable {X:Cx} {es:List Expr} {kk:Nat} {tp:Pos}
noncomputable def qu (K:PySem.W.Frag) (ta:TA):TI:=λσ H R=>ta σ H λvs H1=>∃ a b,vs=[.ref a,.ref b]/\(∃ xs,zP K H1 a xs)/\(∃ ys,zP K H1 b ys)/\R (jB K a b) H1
theorem kN {e1 e2:Expr} {ta:TA} {p pos:Pos} (hg:Gl X "zip") (hm:X.mg "zip" = none) (ha:PA X [e1,e2] ta) (hs:starEach [e1,e2] X.env=[(false,eval e1 X.env),(false,eval e2 X.env)]:=by rfl) (hs2:starEach [e2] X.env=[(false,eval e2 X.env)]:=by rfl) :
  PI X (.Tuple es kk tp) (.Call (.Name "zip" p) [e1,e2] [] pos) (qu X.K ta):=by
 intro pins s σ H R I h
 refine Call_ (qN I hg hm (show bootBuiltins "zip" = some (.type "zip") by decide +kernel) (PyProof.Rows.callWith_type1 (zd (ha pos pins s σ H _ I h) λus s1 ⟨vs,H1,I1,r1,q1⟩=>?_) (by rw [hs,hs2]) (by rw [hs2]; rfl)))
 obtain ⟨a,b,e,⟨xs,hx⟩,⟨ys,hy⟩,q⟩:=q1
 subst e
 obtain ⟨u,v,rfl,ru,rv⟩:=qa r1
 cases ru
 cases rv
 obtain ⟨its1,rv1,p1,_⟩:=I1.list hx
 obtain ⟨its2,rv2,p2,_⟩:=I1.list hy
 have la:a < s1.heap.objs.size:=by obtain ⟨o,n,e,_⟩:=p1; exact Heap.lt_size e
 have lb:b < s1.heap.objs.size:=by obtain ⟨o,n,e,_⟩:=p2; exact Heap.lt_size e
 refine call_zip_2 p1.isList p2.isList λh' z1 z2 z3 z4 z5 _ keep=>wpAny_pyIter_zip z1 ?_
 have I2:zG X pins σ H1 { s1 with heap:=h' }:=I1.kept (t':=s1.toks) keep
 refine ⟨s1.heap.objs.size + 4,[s1.heap.objs.size + 4,s1.heap.objs.size + 2,s1.heap.objs.size + 3,s1.heap.objs.size,s1.heap.objs.size + 1],_,_,H1,rfl,I2,
  Jw (a:=a) (b:=b) (qp _ _ _ la lb) (Nat.ne_of_lt la) (Nat.ne_of_lt (Nat.lt_succ_of_lt lb)),⟨z1,z2,⟨_,_,z3⟩,z4,z5⟩,λc hc=>?_,q⟩
 ·have ge:s1.heap.objs.size<=c:=by
   simp only [List.mem_cons,List.not_mem_nil,or_false] at hc
   rcases hc with rfl | rfl | rfl | rfl | rfl
   ·exact Nat.le_add_right _ 4
   ·exact Nat.le_add_right _ 2
   ·exact Nat.le_add_right _ 3
   ·exact Nat.le_refl _
   ·exact Nat.le_add_right _ 1
  exact I1.fpOk ge (I1.hok.fresh ge)
end
theorem kO {K:PySem.W.Frag} {a b:Addr} {xs ys:List V} {g:TG} {te:TE} {σ0:St} {H:Hp} {Q:VK} (Pv:Nat->List V->St->Hp->Prop) (h0:Pv 0 [] σ0 H) (hl:∀ i zs σ H,i<=xs.length->Pv i zs σ H->zP K H a xs/\zP K H b ys/\zs.length<=i) (hlen:xs.length<=ys.length) (hz:xs.length<=sizeLine)
  (hs:∀ i x y T zs σ H,xs[i]? = some x->ys[i]? = some y->H T=none->Pv i zs σ H->g (.ref T) σ (upd H T (.tup [x,y])) λσ2 H2=>te σ2 H2 λz H3=>Pv (i + 1) (zs++[z]) σ2 H3)
  (hd:∀ zs σ H,Pv xs.length zs σ H->∀ p,H p=none->Q (.ref p) (upd H p (.lst zs))):qo (jB K a b) g te Q σ0 H:=by
 refine ⟨λi m zs σ H=>m=xs.length - i/\i<=xs.length/\Pv i zs σ H,⟨xs.length,by simp,Nat.zero_le _,h0⟩,?_⟩
 rintro i m zs σ H ⟨rfl,hi,p⟩
 obtain ⟨q1,q2,hy⟩:=hl i zs σ H hi p
 by_cases hlt:i < xs.length
 ·have hlt2:i < ys.length:=by omega
  refine .inr ⟨⟨xs,ys,xs[i],ys[i],q1,q2,by simp [hlt],by simp [hlt2]⟩,by omega,λz σ' H'=>Pv (i + 1) (zs++[z]) σ' H',λz σ' H' p'=>⟨xs.length - (i + 1),by omega,rfl,hlt,p'⟩,λv H' y=>?_⟩
  obtain ⟨T,x,y,rfl,hT,rfl,c1,c2⟩:=y
  exact hs i x y T zs σ H (c1 xs q1) (c2 ys q2) hT p
 ·have e:i=xs.length:=by omega
  subst e
  exact .inl ⟨⟨xs,ys,q1,q2,Nat.le_refl _,hlen,.inl rfl⟩,hd zs σ H p⟩
end L2
namespace L2
open PySem PySem.Spec PyProof.Rows
section
variable {X:Cx}
end
end L2
namespace Sh
open PySem L2
noncomputable def jC (H:Hp) (v:V) (p:Int × Int):Prop:=∃ r,v=.ref r/\H r=some (.tup [.int p.1,.int p.2])
noncomputable abbrev jr (H:Hp) (vs:List V) (pts:List (Int × Int)):Prop:=Paired (jC H) vs pts
noncomputable def uO (ws:List Int) (b:Int):List V:=ws.map V.int++[.int b]
theorem jC.same {H H':Hp} {v:V} {p:Int × Int} (s:zC H H') (h:jC H v p):jC H' v p:=let ⟨r,e,q⟩:=h; ⟨r,e,s _ _ q⟩
theorem jr.same {H H':Hp} {vs:List V} {pts:List (Int × Int)} (s:zC H H') (h:jr H vs pts):jr H' vs pts:=Paired.mapP h λ_ _ z=>z.same s
theorem jC.upd {H:Hp} {v:V} {p:Int × Int} {l:Addr} {xs:List V} {o:HO} (hl:H l=some (.lst xs)) (h:jC H v p):jC (upd H l o) v p:=by
 obtain ⟨r,e,q⟩:=h
 exact ⟨r,e,by rw [zi (Xl q hl (by intro z; cases z))]; exact q⟩
theorem jr.upd {H:Hp} {vs:List V} {pts:List (Int × Int)} {l:Addr} {xs:List V} {o:HO} (hl:H l=some (.lst xs)) (h:jr H vs pts):jr (upd H l o) vs pts:=Paired.mapP h λ_ _ z=>z.upd hl
structure Z6 (ws:List Int) (n:Nat):Prop where
 len:ws.length=n
 bd:∀ w∈ws,Bd 1000 w
structure qv (r:List Int) (n:Nat):Prop where
 len:r.length=n + 1
 bd:∀ x∈r,Bd 1000 x
theorem Jx {r:List Int} {n:Nat} (h:r.length=n + 1):r.take n++[r.getD n 0]=r:=by
 have e:r[n]? = some (r.getD n 0):=by
  rw [List.getD_eq_getElem?_getD,List.getElem?_eq_getElem (by omega)]
  rfl
 have z:=xO e
 rw [<- z,List.take_of_length_le (by omega)]
theorem Jy {r:List Int} {n:Nat} (h:r.length=n + 1):uO (r.take n) (r.getD n 0)=r.map V.int:=by
 have e:uO (r.take n) (r.getD n 0)=(r.take n++[r.getD n 0]).map V.int:=by
  rw [List.map_append]
  rfl
 rw [e,Jx h]
theorem qv.rw {r:List Int} {n:Nat} (h:qv r n):Z6 (r.take n) n:=⟨by rw [List.length_take,h.len]; omega,λw hw=>h.bd w (List.mem_of_mem_take hw)⟩
theorem qv.at {r:List Int} {n j:Nat} (h:qv r n) (hj:j<=n):r[j]? = some (r.getD j 0)/\Bd 1000 (r.getD j 0):=by
 have e:r[j]? = some (r.getD j 0):=by
  rw [List.getD_eq_getElem?_getD,List.getElem?_eq_getElem (by have:=h.len; omega)]
  rfl
 exact ⟨e,h.bd _ (List.mem_of_getElem? e)⟩
end Sh
namespace L2
open PySem PySem.Spec PyProof.Rows
section
variable {X:Cx}
end
end L2
namespace Sh
open PySem L2
inductive Kd where
 | int | bool | non | str | lst | tup | dic
 deriving DecidableEq
noncomputable def Kd.nm:Kd->String
 | .int=>"int" | .bool=>"bool" | .non=>"NoneType" | .str=>"str" | .lst=>"list" | .tup=>"tuple" | .dic=>"dict"
noncomputable def Kd.whole:Kd->Bool
 | .int=>true
 | _=>false
noncomputable def Kd.isInt:Kd->Bool
 | .int=>true
 | .bool=>true
 | _=>false
noncomputable def Kd.isBool:Kd->Bool
 | .bool=>true
 | _=>false
noncomputable def Kd.isTup:Kd->Bool
 | .tup=>true
 | _=>false
inductive vE (H:Hp):V->Kd->Prop where
 | non:vE H .non .non
 | bl (b:Bool):vE H (.bl b) .bool
 | int (i:Int):vE H (.int i) .int
 | str (x:Str):vE H (.str x) .str
 | lst {a:Addr} {xs:List V} (e:H a=some (.lst xs)):vE H (.ref a) .lst
 | tup {a:Addr} {xs:List V} (e:H a=some (.tup xs)):vE H (.ref a) .tup
 | dic {a:Addr} {kvs:List (yJ × V)} (e:H a=some (.dK kvs)):vE H (.ref a) .dic
theorem vE.ty {K:PySem.W.Frag} {H:Hp} {x:V} {k:Kd} (h:vE H x k):yU K H x (.type k.nm):=by
 cases h with
 | non=>exact .non
 | bl b=>exact .bl b
 | int i=>exact .int i
 | str x=>exact .str x
 | lst e=>exact .lst e
 | tup e=>exact .tup e
 | dic e=>exact .dK e
theorem vE.same {H H':Hp} {x:V} {k:Kd} (s:zC H H') (h:vE H x k):vE H' x k:=by
 cases h with
 | non=>exact .non
 | bl b=>exact .bl b
 | int i=>exact .int i
 | str x=>exact .str x
 | lst e=>exact .lst (s _ _ e)
 | tup e=>exact .tup (s _ _ e)
 | dic e=>exact .dic (s _ _ e)
noncomputable def Kd.isLst:Kd->Bool
 | .lst=>true
 | _=>false
section
variable (K:PySem.W.Frag)
theorem jD (k:Kd):PySem.W.kitOne K (.type k.nm) (.type "int")=some k.isInt:=by
 cases k <;> first | rfl | decide +kernel | (unfold PySem.W.kitOne; rw [if_pos (by decide +kernel)]; rfl) | (unfold PySem.W.kitOne; rw [if_neg (by decide +kernel)]; rfl)
theorem jE (k:Kd):PySem.W.kitOne K (.type k.nm) (.type "bool")=some k.isBool:=by
 cases k <;> first | rfl | decide +kernel | (unfold PySem.W.kitOne; rw [if_pos (by decide +kernel)]; rfl) | (unfold PySem.W.kitOne; rw [if_neg (by decide +kernel)]; rfl)
theorem jF (k:Kd):PySem.W.kitOne K (.type k.nm) (.type "tuple")=some k.isTup:=by
 cases k <;> first | rfl | decide +kernel | (unfold PySem.W.kitOne; rw [if_pos (by decide +kernel)]; rfl) | (unfold PySem.W.kitOne; rw [if_neg (by decide +kernel)]; rfl)
theorem jG (k:Kd):PySem.W.kitOne K (.type k.nm) (.type "list")=some k.isLst:=by
 cases k <;> first | rfl | decide +kernel | (unfold PySem.W.kitOne; rw [if_pos (by decide +kernel)]; rfl) | (unfold PySem.W.kitOne; rw [if_neg (by decide +kernel)]; rfl)
end
end Sh
namespace L2
open PySem PySem.Spec PyProof.Rows
section
variable {X:Cx}
end
end L2
namespace L2
open PySem PySem.Spec PyProof.Rows
structure zQ (K:PySem.W.Frag) (mg:Str->Option Value) (x:Str) (C:Addr):Prop where
 cl:vk K C
 mgC:mg x=some (.ref C)
 ha:PySem.W.findIn K (.ref C) "__class__" = some (some (.builtin "object.__class__"))
 hn:PySem.W.specialIn K (.builtin "object.__class__") "__get__" = some (some (.builtin "getset_descriptor.__get__"))
 htk:PySem.W.takesIn K (.builtin "object.__class__")=some true
 hm:PySem.W.mroIn K C (.type "object")=some true
theorem zQ.ty {K:PySem.W.Frag} {mg:Str->Option Value} {x:Str} {C a dx:Addr} {H:Hp} {fs:List (Str × V)} (T:zQ K mg x C) (e:H a=some (.ins C dx fs)):yU K H (.ref a) (.ref C):=.ins e T.cl T.ha T.hn T.htk T.hm
structure vQ (P:Program) (w:World) (K:PySem.W.Frag) (mg:Str->Option Value) (base:Heap) (C:Addr) (m:Str) (ps:List Str) (k:Nat) (sp:Sp):Prop where
 ex:∃ f fd,zL P w K mg base zj k f fd ps sp/\uF K C m f/\xN K fd ps []
structure xk (P:Program) (w:World) (K:PySem.W.Frag) (mg:Str->Option Value) (base:Heap) (C:Addr) (ps:List Str) (k:Nat) (sp:Sp):Prop where
 ex:∃ f fd,zL P w K mg base zj k f fd ps sp/\Mk K C f/\xN K fd ps []
structure xG (P:Program) (w:World) (K:PySem.W.Frag) (mg:Str->Option Value) (base:Heap) (C:Addr) (ps:List Str) (k:Nat) (sp:Sp) (dv:V):Prop where
 ex:∃ f fd d,zL P w K mg base zj k f fd ps sp/\Mk K C f/\xN K fd ps []/\xN K fd ps [d]/\zV dv d
theorem vQ.mono {P:Program} {w:World} {K:PySem.W.Frag} {mg:Str->Option Value} {base:Heap} {C:Addr} {m:Str} {ps:List Str} {j k:Nat} {sp:Sp} (F:vQ P w K mg base C m ps j sp) (h:j<=k:=by decide):vQ P w K mg base C m ps k sp:=by
 obtain ⟨f,fd,a,b,c⟩:=F.ex
 exact ⟨f,fd,a.mono h,b,c⟩
theorem xk.mono {P:Program} {w:World} {K:PySem.W.Frag} {mg:Str->Option Value} {base:Heap} {C:Addr} {ps:List Str} {j k:Nat} {sp:Sp} (F:xk P w K mg base C ps j sp) (h:j<=k:=by decide):xk P w K mg base C ps k sp:=by
 obtain ⟨f,fd,a,b,c⟩:=F.ex
 exact ⟨f,fd,a.mono h,b,c⟩
theorem xG.mono {P:Program} {w:World} {K:PySem.W.Frag} {mg:Str->Option Value} {base:Heap} {C:Addr} {ps:List Str} {j k:Nat} {sp:Sp} {dv:V} (F:xG P w K mg base C ps j sp dv) (h:j<=k:=by decide):xG P w K mg base C ps k sp dv:=by
 obtain ⟨f,fd,d,a,b,c⟩:=F.ex
 exact ⟨f,fd,d,a.mono h,b,c⟩
theorem xG.fn {P:Program} {w:World} {K:PySem.W.Frag} {mg:Str->Option Value} {base:Heap} {C:Addr} {ps:List Str} {k:Nat} {sp:Sp} {dv:V} (F:xG P w K mg base C ps k sp dv):xk P w K mg base C ps k sp:=by
 obtain ⟨f,fd,d,a,b,c,_⟩:=F.ex
 exact ⟨f,fd,a,b,c⟩
section
variable {X:Cx} {C:Addr} {m x:Str} {ps:List Str} {k:Nat} {sp:Sp} {o e:Expr} {es:List Expr} {ta:TE} {t:TA} {p pos apos:Pos} {dv:V}
theorem js {pl:Sem Bool} (F:vQ X.prog X.w X.K X.mg X.base C m ps k sp) (T:zQ X.K X.mg x C) (hr:zf k X.A) (he:PE X o ta)
  (ht:eval (.Call (.Attribute o m apos) [] [] pos) X.env=(do
   let ov <- eval o X.env
   standAt apos.atName
   let (f,first) <- holding [ov] (getMethod ov m pl)
   callWith pos f first (backTo pos (starEach [] X.env)) (backToKw pos (keywordEach [] X.env))):=by rfl) :
  PE X (.Call (.Attribute o m apos) [] [] pos) (Xz C m sp [] E0 ta u4):=by
 obtain ⟨f,fd,a,b,c⟩:=F.ex
 exact Uu he T.cl b a hr c .nil qf ht
theorem yN (F:xk X.prog X.w X.K X.mg X.base C ps k sp) (T:zQ X.K X.mg x C) (hr:zf (k + 1) X.A) (hg:Gl X x) (ha:PA X (e :: es) t)
  (hdb:(x == ("__debug__" : Str))=false:=by decide) (he:starEach (e :: es) X.env=(false,eval e X.env) :: starEach es X.env:=by rfl) (hpl:(backTo pos (starEach es X.env)).any (·.1)=false:=by rfl) :
  PE X (.Call (.Name x p) (e :: es) [] pos) (Zh C sp [] E0 t):=by
 obtain ⟨f,fd,a,b,c⟩:=F.ex
 exact X1 b a hr hg T.mgC c .nil qf ha hdb he hpl
theorem uP (T:zQ X.K X.mg x C) (hg:Gl X x) (hd:(x == ("__debug__" : Str))=false:=by decide):PE X (.Name x pos) (tC (.ref C)):=vA hg T.mgC rfl hd
noncomputable def vo (K:PySem.W.Frag):List V->Hp->VK->Prop:=λxs H Q=>∃ x C t b,xs=[x,.ref C]/\yU K H x t/\PySem.W.kitOne K t (.ref C)=some b/\Q (.bl b) H
theorem uQ:yW X (.builtin "isinstance") (vo X.K):=by
 intro pins s σ H xs us Q I r h
 obtain ⟨x,C,t,b,rfl,ty,e,q⟩:=h
 obtain ⟨u,v,rfl,ru,rv⟩:=qa r
 cases (show v=Value.ref C from rv)
 exact Xy I ru ty e λtk=>⟨.bl b,H,I.tok tk,rfl,q⟩
end
end L2
namespace L2
open PySem PySem.Spec PyProof.Rows
section
variable {X:Cx} {pos:Pos}
theorem qw {x:Str} {n:Int} (hg:Gl X x) (h:∃ t,X.mg x=some (.int n t)) (hd:(x == ("__debug__" : Str))=false:=by decide):PE X (.Name x pos) (tC (.int n)):=
 let ⟨t,e⟩:=h
 vA hg e ⟨t,rfl⟩ hd
end
noncomputable def Jz:Sp:=λ_ _ _ _=>False
theorem zL.none {P:Program} {w:World} {K:PySem.W.Frag} {mg:Str->Option Value} {base:Heap} {CX:xX} {k:Nat} {f:Addr} {fd:FuncData} {ps:List Str}:zL P w K mg base CX k f fd ps Jz:=
 ⟨λ_ _ _ _ h=>h.elim,λ_ _ _ _ _ _ _ _ _ _ _ _ _ h=>h.elim⟩
end L2
namespace L2
open PySem PySem.Spec PyProof.Rows PySem.SeqAt
section
variable {X:Cx}
end
end L2
namespace L2
open PySem PySem.Spec PyProof.Rows
open PySem
theorem zC.seqT {K:PySem.W.Frag} {H H':Hp} {a:Addr} {xs:List V} (e:zC H H') (h:zn K H a xs):zn K H' a xs:=by
 rcases h with (h | ⟨o,h⟩) | h
 ·exact .inl (.inl (e _ _ h))
 ·exact .inl (.inr ⟨o,e _ _ h⟩)
 ·exact .inr h
noncomputable def Z7 (K:PySem.W.Frag) (H:Hp) (a:Addr) (xs:List V):Prop:=zn K H a xs\/zP K H a xs
theorem Z7.same {K:PySem.W.Frag} {H H':Hp} {a:Addr} {xs:List V} (s:zC H H') (h:Z7 K H a xs):Z7 K H' a xs:=h.imp (λz=>s.seqT z) (λz=>s.seq z)
section
variable {X:Cx} {es:List Expr} {kk:Nat} {tp:Pos}
end
section
variable {prog:Program} {w:World} {A:Around} {E:Value->Shared->Prop}
end
section
variable {X:Cx} {pos:Pos}
end
end L2
namespace L2
open PySem PySem.Spec PyProof.Rows
inductive qy (i:Nat) (σ:St) (H:Hp) (Q:VK):Prop
 | mk (v:V) (_:σ[i]? = some (some v)) (_:Q v H):qy i σ H Q
inductive JI (C:Int->Int->Prop) (g:Int->Int->V) (x y:V) (H:Hp) (Q:VK):Prop
 | mk (i j:Int) (_:x=.int i) (_:y=.int j) (_:C i j) (_:Q (g i j) H):JI C g x y H Q
inductive WX (g:Int->Int->V) (x y:V) (H:Hp) (Q:VK):Prop
 | mk (i j:Int) (_:x=.int i) (_:y=.int j) (_:Q (g i j) H):WX g x y H Q
inductive kP (S:Hp->Addr->List V->Prop) (x y:V) (H:Hp) (Q:VK):Prop
 | mk (p:Addr) (xs:List V) (i:Int) (v:V) (_:x=.ref p) (_:y=.int i) (_:S H p xs) (_:wJ xs i=some v) (_:Q v H):kP S x y H Q
inductive qz (x y:V) (H:Hp) (Q:VK):Prop
 | mk (l b:Addr) (xs zs:List V) (_:x=.ref l) (_:y=.ref b) (_:H l=some (.lst xs)) (_:H b=some (.lst zs)) (_:xs.length + zs.length<=sizeLine) (_:∀ p,H p=none->Q (.ref p) (upd H p (.lst (xs++zs)))):qz x y H Q
inductive jH (K:PySem.W.Frag) (xs:List V) (H:Hp) (Q:VK):Prop
 | mk (p:Addr) (ys:List V) (_:xs=[.ref p]) (_:zP K H p ys\/zn K H p ys) (_:Q (.int ys.length) H):jH K xs H Q
inductive q9 (x:V) (vs:List V) (H:Hp) (Q:VK):Prop
 | mk (l:Addr) (xs:List V) (y:V) (_:x=.ref l) (_:vs=[y]) (_:H l=some (.lst xs)) (_:xs.length < sizeLine) (_:Q .non (upd H l (.lst (xs++[y])))):q9 x vs H Q
inductive WY (K:PySem.W.Frag) (xs:List V) (H:Hp) (Q:VK):Prop
 | mk (x:V) (c:String) (t:Value) (b:Bool) (_:xs=[x,.ty c]) (_:yU K H x t) (_:PySem.W.kitOne K t (.type c)=some b) (_:Q (.bl b) H):WY K xs H Q
inductive jI (K:PySem.W.Frag) (x:V) (lo hi:Option Int) (H:Hp) (Q:VK):Prop
 | mk (a:Addr) (xs:List V) (_:x=.ref a) (_:zn K H a xs) (_:¬ (HT.sIx xs.length 0 lo=0/\HT.sIx xs.length xs.length hi=xs.length)) (_:∀ p,H p=none->Q (.ref p) (upd H p (.tup (yR xs lo hi)))):jI K x lo hi H Q
inductive gA (K:PySem.W.Frag) (x:V) (lo hi:Option Int) (H:Hp) (Q:VK):Prop
 | mk (a:Addr) (xs:List V) (_:x=.ref a) (_:zP K H a xs) (_:∀ p,H p=none->Q (.ref p) (upd H p (.lst (yR xs lo hi)))):gA K x lo hi H Q
inductive gB (K:PySem.W.Frag) (xs:List V) (H:Hp) (Q:VK):Prop
 | mk (p:Addr) (ys:List V) (_:xs=[.ref p]) (_:(zP K H p ys/\∀ l,H l=none->Q (.ref l) (upd H l (.tup ys)))\/(zn K H p ys/\Q (.ref p) H)):gB K xs H Q
inductive gC (x y:V) (H:Hp) (Q:VK):Prop
 | mk (l:Addr) (k:Int) (xs:List V) (_:x=.ref l) (_:y=.int k) (_:H l=some (.lst xs)) (_ : -(2 ^ 63)<=k) (_:k < 2 ^ 63) (_:xs.length * k.toNat<=sizeLine) (_:∀ p,H p=none->Q (.ref p) (upd H p (.lst (List.replicate k.toNat xs).flatten))):gC x y H Q
section
variable {X:Cx}
theorem wZ:Zr X "list.append" q9:=λpins s σ H x xs v us Q I rx rv ⟨l,ys,y,h1,h2,h3,h4,q⟩=>JN pins s σ H x xs v us Q I rx rv ⟨l,ys,y,h1,h2,h3,h4,q⟩
theorem vR:yW X (.builtin "isinstance") (WY X.K):=λpins s σ H xs us Q I r ⟨x,c,t,b,h1,h2,h3,q⟩=>JX pins s σ H xs us Q I r ⟨x,c,t,b,h1,h2,h3,q⟩
theorem QA:u6 X (jI X.K):=λpins s σ H x v vl vu lo hi sl Q I h1 h2 h3 h4 ⟨a,xs,b,c,d,q⟩=>X9 pins s σ H x v vl vu lo hi sl Q I h1 h2 h3 h4 ⟨a,xs,b,c,d,q⟩
theorem gD:u6 X (gA X.K):=λpins s σ H x v vl vu lo hi sl Q I h1 h2 h3 h4 ⟨a,xs,b,c,q⟩=>JF pins s σ H x v vl vu lo hi sl Q I h1 h2 h3 h4 ⟨a,xs,b,c,q⟩
theorem wu:yW X (.type "tuple") (gB X.K):=λpins s σ H xs us Q I r ⟨p,ys,e,q⟩=>JH pins s σ H xs us Q I r ⟨p,ys,e,q⟩
theorem jJ:yi X (binaryOp .Mult) gC:=λpins s σ H x y v u Q I rx ry ⟨l,k,xs,a,b,c,d,e,f,q⟩=>JP pins s σ H x y v u Q I rx ry ⟨l,k,xs,a,b,c,d,e,f,q⟩
theorem zB (i:Nat) {x:Str} {pos:Pos} (hN:X.N[i]? = some x:=by rfl) (hv:uq X.env.scope x:=by first | exact Or.inl rfl | exact Or.inr (Or.inl rfl) | exact Or.inr (Or.inr rfl)) (hd:(x == ("__debug__" : Str))=false:=by decide)
  (hcd:(x == ("__classdict__" : Str))=false:=by decide):PE X (.Name x pos) (qy i):=λpins s σ H Q I ⟨v,e,h⟩=>Xm hN hv hd hcd pins s σ H Q I ⟨v,e,h⟩
theorem ji {f:Value->Value->Sem Value} {C:Int->Int->Prop} {g:Int->Int->V} (h:yi X f (rI C g)):yi X f (JI C g):=λpins s σ H x y v u Q I rx ry ⟨i,j,hx,hy,c,q⟩=>h pins s σ H x y v u Q I rx ry ⟨i,j,hx,hy,c,q⟩
theorem yF {f:Value->Value->Sem Value} {g:Int->Int->V} (h:yi X f (uC g)):yi X f (WX g):=λpins s σ H x y v u Q I rx ry ⟨i,j,hx,hy,q⟩=>h pins s σ H x y v u Q I rx ry ⟨i,j,hx,hy,q⟩
theorem vF:jm X (kP (zP X.K)):=λa b pins s σ H x y v u Q I rx ry ⟨p,xs,i,w,hx,hy,hs,ha,q⟩=>JB a b pins s σ H x y v u Q I rx ry ⟨p,xs,i,w,hx,hy,hs,ha,q⟩
theorem gE:jm X (kP (zn X.K)):=λa b pins s σ H x y v u Q I rx ry ⟨p,xs,i,w,hx,hy,hs,ha,q⟩=>JC a b pins s σ H x y v u Q I rx ry ⟨p,xs,i,w,hx,hy,hs,ha,q⟩
theorem zk:yi X (binaryOp .Add) qz:=λpins s σ H x y v u Q I rx ry ⟨l,b,xs,zs,hx,hy,h1,h2,h3,q⟩=>JO pins s σ H x y v u Q I rx ry ⟨l,b,xs,zs,hx,hy,h1,h2,h3,q⟩
theorem xb:yW X (.builtin "len") (jH X.K):=λpins s σ H xs us Q I r ⟨p,ys,e,h,q⟩=>JG pins s σ H xs us Q I r ⟨p,ys,e,h,q⟩
end
end L2
namespace Sh
open PySem L2
noncomputable def xH (H:Hp) (v:V) (r:List Int):Prop:=∃ a,v=.ref a/\H a=some (.lst (r.map V.int))
noncomputable abbrev zI (H:Hp) (vs:List V) (tab:List (List Int)):Prop:=Paired (xH H) vs tab
theorem xH.same {H H':Hp} {v:V} {r:List Int} (s:zC H H') (h:xH H v r):xH H' v r:=let ⟨a,e,q⟩:=h; ⟨a,e,s _ _ q⟩
theorem zI.same {H H':Hp} {vs:List V} {tab:List (List Int)} (s:zC H H') (h:zI H vs tab):zI H' vs tab:=Paired.mapP h λ_ _ z=>z.same s
noncomputable def zw (p:Addr) (H H':Hp):Prop:=∀ b o,H b=some o->b≠p->H' b=some o
theorem zC.but {p:Addr} {H H':Hp} (s:zC H H'):zw p H H':=λb o e _=>s b o e
theorem zw.trans {p:Addr} {H H1 H2:Hp} (a:zw p H H1) (b:zw p H1 H2):zw p H H2:=λc o e n=>b c o (a c o e n) n
theorem xP (p:Addr) (H:Hp) (o:HO):zw p H (upd H p o):=λb u e n=>by rw [zi n]; exact e
noncomputable def xI (H0 H:Hp) (v:V) (r:List Int):Prop:=∃ a,v=.ref a/\H0 a=none/\H a=some (.lst (r.map V.int))
noncomputable def Z8:Sp:=λvs H Q _=>(∃ i d:Int,vs=[.int i,.int d]/\Q (.int i) H)∨
 (∃ (a:Addr) (ns:List Int) (d:Int),vs=[.ref a,.int d]/\1<=d/\H a=some (.lst (ns.map V.int))/\ns.length<=900/\∀ l H',zC H H'->H l=none->H' l=some (.lst (ns.map V.int))->Q (.ref l) H')∨
 (∃ (a:Addr) (ns:List Int) (d:Int),vs=[.ref a,.int d]/\1<=d/\H a=some (.tup (ns.map V.int))/\ns.length<=900/\∀ t H',zC H H'->H t=none->H' t=some (.tup (ns.map V.int))->Q (.ref t) H')
noncomputable def gF:Sp:=λvs H Q E=>Z8 vs H Q E∨
 (∃ (a:Addr) (rv:List V) (rows:List (List Int)) (d:Int),vs=[.ref a,.int d]/\2<=d/\H a=some (.lst rv)/\zh H rv rows/\rows.length<=900/\(∀ r∈rows,r.length<=900)/\∀ l lv H',zC H H'->H l=none->H' l=some (.lst lv)->zh H' lv rows->Q (.ref l) H')∨
 (∃ (a:Addr) (tv:List V) (tab:List (List Int)) (d:Int),vs=[.ref a,.int d]/\2<=d/\H a=some (.lst tv)/\zI H tv tab/\tab.length<=900/\(∀ r∈tab,r.length<=900)/\∀ l lv H',zC H H'->H l=none->H' l=some (.lst lv)->Paired (xI H H') lv tab->Q (.ref l) H')
inductive gG (vs:List V) (H:Hp) (Q:VK) (E:XK):Prop
 | mk (i:Int) (_:vs=[.int i]) (_:Q (.bl true) H):gG vs H Q E
inductive kQ (vs:List V) (H:Hp) (Q:VK) (E:XK):Prop
 | mk (a:Addr) (ns:List Int) (_:vs=[.ref a,.int (ns.length:Int)]) (_:H a=some (.lst (ns.map V.int))) (_:ns.length<=900) (_:∀ H',zC H H'->Q (.bl true) H'):kQ vs H Q E
inductive Z9 (vs:List V) (H:Hp) (Q:VK) (E:XK):Prop
 | mk (a:Addr) (tv:List V) (tab:List (List Int)) (w:Nat) (_:vs=[.ref a,.int (tab.length:Int),.int (w:Int)]) (_:H a=some (.lst tv)) (_:zI H tv tab) (_:tab.length<=900) (_:(∀ r∈tab,r.length=w)) (_:w<=900) (_:∀ H',zC H H'->Q (.bl true) H'):Z9 vs H Q E
inductive YA (vs:List V) (H:Hp) (Q:VK) (E:XK):Prop
 | mk (a:Addr) (ns:List Int) (n:Nat) (_:vs=[.ref a,.int (n:Int)]) (_:H a=some (.tup (ns.map V.int))) (_:ns.length=n + 1) (_:n<=800) (_:∀ H',zC H H'->Q (.bl true) H'):YA vs H Q E
inductive YB (vs:List V) (H:Hp) (Q:VK) (E:XK):Prop
 | mk (a:Addr) (rv:List V) (rows:List (List Int)) (n:Nat) (_:vs=[.ref a,.int (n:Int)]) (_:H a=some (.lst rv)) (_:zh H rv rows) (_:rows.length<=900) (_:(∀ r∈rows,r.length=n + 1)) (_:n<=800) (_:∀ H',zC H H'->Q (.bl true) H'):YB vs H Q E
inductive YC (vs:List V) (H:Hp) (Q:VK) (E:XK):Prop
 | mk (a:Addr) (lo hi:Int) (_:vs=[.ref a]) (_:H a=some (.tup [.int lo,.int hi])) (_:lo<=hi) (_:Q (.bl true) H):YC vs H Q E
structure MD where
 rows:List (List Int)
 nexts:List (List Int)
 steer:List Int
 push:List (List Int)
 add:List Int
 div:Int
structure yk (m:MD) (n p:Nat):Prop where
 rows:∀ r∈m.rows,r.length=n + 1
 few:m.rows.length<=900
 nexts:m.nexts.length=n/\∀ r∈m.nexts,r.length=n
 steer:m.steer.length=n
 push:m.push.length=n/\∀ r∈m.push,r.length=p
 add:m.add.length=n
 div:1<=m.div
 n3:n<=3
 p6:p<=12
noncomputable def YD (r n s p a:V) (d:Int):List (Str × V):=[("rows",r),("nexts",n),("steer",s),("push",p),("add",a),("divisor",.int d)]
structure jt (C:Addr) (H:Hp) (o:Addr) (m:MD) where
 dx:Addr
 r:Addr
 rv:List V
 n:Addr
 nv:List V
 s:Addr
 p:Addr
 pv:List V
 a:Addr
structure jt.Ok {C:Addr} {H:Hp} {o:Addr} {m:MD} (M:jt C H o m):Prop where
 ins:H o=some (.ins C M.dx (YD (.ref M.r) (.ref M.n) (.ref M.s) (.ref M.p) (.ref M.a) m.div))
 hr:H M.r=some (.lst M.rv)
 hrv:zh H M.rv m.rows
 hn:H M.n=some (.lst M.nv)
 hnv:zI H M.nv m.nexts
 hs:H M.s=some (.lst (m.steer.map V.int))
 hp:H M.p=some (.lst M.pv)
 hpv:zI H M.pv m.push
 ha:H M.a=some (.lst (m.add.map V.int))
noncomputable def yX (C:Addr) (H:Hp) (v:V) (m:MD):Prop:=∃ (o:Addr) (M:jt C H o m),v=.ref o/\M.Ok
theorem yX.same {C:Addr} {H H':Hp} {v:V} {m:MD} (s:zC H H') (h:yX C H v m):yX C H' v m:=
 let ⟨o,M,e,k⟩:=h
 ⟨o,⟨M.dx,M.r,M.rv,M.n,M.nv,M.s,M.p,M.pv,M.a⟩,e,⟨s _ _ k.ins,s _ _ k.hr,zh.same s k.hrv,s _ _ k.hn,zI.same s k.hnv,s _ _ k.hs,s _ _ k.hp,zI.same s k.hpv,s _ _ k.ha⟩⟩
inductive ju (C:Addr) (vs:List V) (H:Hp) (Q:VK) (E:XK):Prop
 | mk (o dx ra na sa pa aa:Addr) (rv nv pv:List V) (m:MD) (n p:Nat) (_:vs=[.ref o,.ref ra,.ref na,.ref sa,.ref pa,.ref aa,.int m.div]) (_:H o=some (.ins C dx [])) (_:yk m n p) (_:H ra=some (.lst rv)) (_:zh H rv m.rows) (_:H na=some (.lst nv)) (_:zI H nv m.nexts) (_:H sa=some (.lst (m.steer.map V.int))) (_:H pa=some (.lst pv)) (_:zI H pv m.push) (_:H aa=some (.lst (m.add.map V.int))) (_:∀ (M:jt C H o m) (H':Hp),zw o H H'->(jt.mk (C:=C) (H:=H') (o:=o) (m:=m) M.dx M.r M.rv M.n M.nv M.s M.p M.pv M.a).Ok->H M.r=none->H M.n=none->H M.s=none->H M.p=none->H M.a=none->Paired (xI H H') M.nv m.nexts->Paired (xI H H') M.pv m.push->Q .non H'):ju C vs H Q E
inductive YE (C:Addr) (vs:List V) (H:Hp) (Q:VK) (E:XK):Prop
 | mk (v:V) (m:MD) (n p:Nat) (_:vs=[v,.int (n:Int),.int (p:Int)]) (_:yX C H v m) (_:yk m n p) (_:∀ H',zC H H'->Q (.bl true) H'):YE C vs H Q E
noncomputable def vS (H:Hp) (v:V) (b:Int × Int):Prop:=∃ a,v=.ref a/\H a=some (.tup [.int b.1,.int b.2])
theorem vS.same {H H':Hp} {v:V} {b:Int × Int} (s:zC H H') (h:vS H v b):vS H' v b:=let ⟨a,e,q⟩:=h; ⟨a,e,s _ _ q⟩
structure YF (n:Nat) (bs:List (Int × Int)) (ms:List MD):Prop where
 n1:1<=n
 n3:n<=3
 bok:∀ b∈bs,b.1<=b.2
 b6:bs.length<=6
 m1:1<=ms.length
 m40:ms.length<=40
 mok:∀ m∈ms,yk m n bs.length
noncomputable def WZ (n:Int) (p m:V):List (Str × V):=[("many",.int n),("kept_pushes",p),("kept_modes",m)]
structure uR (C CM:Addr) (H:Hp) (o:Addr) (n:Nat) (bs:List (Int × Int)) (ms:List MD) (pv mv:List V) (kp km:Addr):Prop where
 ins:∃ dx,H o=some (.ins C dx (WZ (n:Int) (.ref kp) (.ref km)))
 hp:H kp=some (.lst pv)
 hpv:Paired (vS H) pv bs
 hm:H km=some (.lst mv)
 hmv:Paired (yX CM H) mv ms
theorem uR.same {C CM:Addr} {H H':Hp} {o:Addr} {n:Nat} {bs:List (Int × Int)} {ms:List MD} {pv mv:List V} {kp km:Addr} (s:zC H H') (h:uR C CM H o n bs ms pv mv kp km):uR C CM H' o n bs ms pv mv kp km:=
 ⟨let ⟨dx,e⟩:=h.ins; ⟨dx,s _ _ e⟩,s _ _ h.hp,Paired.mapP h.hpv λ_ _ z=>z.same s,s _ _ h.hm,Paired.mapP h.hmv λ_ _ z=>z.same s⟩
inductive gH (C CM:Addr) (vs:List V) (H:Hp) (Q:VK) (E:XK):Prop
 | mk (o kp km:Addr) (n:Nat) (bs:List (Int × Int)) (ms:List MD) (pv mv:List V) (_:vs=[.ref o]) (_:uR C CM H o n bs ms pv mv kp km) (_:∀ l H',zC H H'->H l=none->H' l=some (.lst pv)->Q (.ref l) H'):gH C CM vs H Q E
inductive gI (C CM:Addr) (vs:List V) (H:Hp) (Q:VK) (E:XK):Prop
 | mk (o kp km:Addr) (n:Nat) (bs:List (Int × Int)) (ms:List MD) (pv mv:List V) (_:vs=[.ref o]) (_:uR C CM H o n bs ms pv mv kp km) (_:∀ l H',zC H H'->H l=none->H' l=some (.lst mv)->Q (.ref l) H'):gI C CM vs H Q E
theorem vp {K:PySem.W.Frag} {C:Addr}:PySem.W.kitOne K (.ref C) (.ref C)=some true:=by
 unfold PySem.W.kitOne
 rw [if_pos (by simp)]
theorem gJ:∀ n:Nat,(List.replicate n true).all id=true
 | 0=>rfl
 | n + 1=>by rw [List.replicate_succ,List.all_cons,gJ n]; rfl
theorem keepB {o:Addr} {H H':Hp} {C dx:Addr} {fs:List (Str × V)} (ho:H o=some (.ins C dx fs)) (s:zw o H H') {a:Addr} {u:HO} (h:H a=some u) (hu:u≠.ins C dx fs):H' a=some u:=
 s _ _ h λe=>hu (by rw [e,ho] at h; exact (Option.some.inj h).symm)
theorem jK {o:Addr} {H H':Hp} (s:zw o H H') {x:HO} (ho:H' o=some x) {l:Addr} (h:H' l=none):H l=none:=by
 cases e:H l with
 | none=>rfl
 | some u=>
  have n:l≠o:=λz=>by rw [z,ho] at h; cases h
  rw [s _ _ e n] at h
  cases h
theorem zh.keepB {o:Addr} {H H':Hp} {C dx:Addr} {fs:List (Str × V)} (ho:H o=some (.ins C dx fs)) (s:zw o H H') {vs:List V} {rows:List (List Int)} (h:zh H vs rows):zh H' vs rows:=
 Paired.mapP h λ_ _ ⟨a,e,q⟩=>⟨a,e,Sh.keepB ho s q λz=>by cases z⟩
theorem zI.keepB {o:Addr} {H H':Hp} {C dx:Addr} {fs:List (Str × V)} (ho:H o=some (.ins C dx fs)) (s:zw o H H') {vs:List V} {tab:List (List Int)} (h:zI H vs tab):zI H' vs tab:=
 Paired.mapP h λ_ _ ⟨a,e,q⟩=>⟨a,e,Sh.keepB ho s q λz=>by cases z⟩
theorem xI.tab {H0 H:Hp} {vs:List V} {tab:List (List Int)} (h:Paired (xI H0 H) vs tab):zI H vs tab:=Paired.mapP h λ_ _ ⟨a,e,_,q⟩=>⟨a,e,q⟩
theorem QB (r n s p a:V) (d:Int):zD "divisor" (.int d) (zD "add" a (zD "push" p (zD "steer" s (zD "nexts" n (zD "rows" r [])))))=YD r n s p a d:=rfl
end Sh
namespace Sh
open PySem L2
noncomputable def yu (B:List Addr) (H H':Hp):Prop:=∀ b o,H b=some o->b∉B->H' b=some o
theorem yu.refl (B:List Addr) (H:Hp):yu B H H:=λ_ _ e _=>e
theorem yu.put {B:List Addr} {H H':Hp} {x:Addr} (o:HO) (h:yu B H H') (hx:x∈B):yu B H (upd H' x o):=λb u e nb=>by
 rw [zi (λe'=>by rw [e'] at nb; exact nb hx)]
 exact h b u e nb
theorem yu.new {B:List Addr} {H H':Hp} {x:Addr} (o:HO) (h:yu B H H') (hx:H' x=none):yu B H (upd H' x o):=λb u e nb=>by
 have z:=h b u e nb
 rw [zi (λe'=>by rw [e',hx] at z; cases z)]
 exact z
theorem yu.trans {B:List Addr} {H H1 H2:Hp} (a:yu B H H1) (b:yu B H1 H2):yu B H H2:=λc o e n=>b c o (a c o e n) n
theorem yu.same {B:List Addr} {H H1 H2:Hp} (a:yu B H H1) (b:zC H1 H2):yu B H H2:=λc o e n=>b c o (a c o e n)
theorem yu.of {B:List Addr} {H H1:Hp} (s:zC H H1):yu B H H1:=λc o e _=>s c o e
theorem yu.cut {A B:List Addr} {H H1:Hp} (h1:yu A H H1) (h:∀ x∈A,x∉B->H x=none):yu B H H1:=λb o e n=>h1 _ _ e λz=>by
 rw [h b z n] at e
 cases e
theorem yu.free {B:List Addr} {H H':Hp} (s:yu B H H') {l:Addr} (h:H' l=none) (n:l∉B):H l=none:=by
 cases e:H l with
 | none=>rfl
 | some u=>rw [s _ _ e n] at h; cases h
noncomputable def hide (B:List Addr) (H:Hp):Hp:=λb=>if b∈B then none else H b
theorem yK {B:List Addr} {H:Hp}:zC (hide B H) H:=λb o h=>by
 unfold hide at h
 by_cases e:b∈B
 ·rw [if_pos e] at h; cases h
 ·rw [if_neg e] at h; exact h
theorem yq {B:List Addr} {H:Hp} {b:Addr} (e:b∉B):hide B H b=H b:=by unfold hide; rw [if_neg e]
theorem QC {B:List Addr} {H:Hp} {b:Addr} (e:b∈B):hide B H b=none:=by unfold hide; rw [if_pos e]
theorem QD {B:List Addr} {H:Hp} {b:Addr} {o:HO} (h:hide B H b=some o):b∉B:=λe=>by rw [QC e] at h; cases h
theorem gK {B:List Addr} {H H':Hp} (s:yu B H H'):zC (hide B H) (hide B H'):=λb o h=>by
 have e:=QD h
 rw [yq e] at h |-
 exact s _ _ h e
theorem wF {B:List Addr} {H H':Hp} (s:zC H H'):zC (hide B H) (hide B H'):=gK λb o h _=>s _ _ h
theorem Wa {B:List Addr} {H H':Hp} (f:∀ x∈B,H x=none) (s:zC H H'):zC H (hide B H'):=λb o h=>by
 rw [yq (λe=>by rw [f b e] at h; cases h)]
 exact s _ _ h
theorem wa {H H1 H2:Hp} {x:Addr} (s:zC H H1) (b:zw x H1 H2) (n:H x=none):zC H H2:=λc o e=>b _ _ (s _ _ e) (wP e n)
theorem ww {H:Hp} {x dx:Addr} (hx:H x=none) (hdx:H dx=none) (ne:dx≠x) (u o:HO):zC H (upd (upd H dx u) x o):=
 (zK hdx _).trans (zK ((zi (Ne.symm ne)).trans hx) _)
noncomputable def xm (H H':Hp):Hp:=λb=>match H b with | none=>H' b | some _=>none
theorem kR {H H':Hp} {b:Addr} (h:H b=none):xm H H' b=H' b:=by
 unfold xm
 rw [h]
theorem vq {H H':Hp} {b:Addr} {o:HO} (h:xm H H' b=some o):H b=none/\H' b=some o:=by
 unfold xm at h
 cases e:H b with
 | none=>rw [e] at h; exact ⟨rfl,h⟩
 | some u=>rw [e] at h; cases h
theorem YG {H H':Hp}:zC (xm H H') H':=λb o h=>(vq h).2
theorem kS {H H1 H2:Hp} (s:zC H1 H2):zC (xm H H1) (xm H H2):=λb o h=>by
 obtain ⟨h1,h2⟩:=vq h
 rw [kR h1]
 exact s _ _ h2
end Sh
namespace L2
open PySem PySem.Spec PyProof.Rows
section
variable {X:Cx} {e:Expr}
end
theorem zL.no {P:Program} {w:World} {K:PySem.W.Frag} {mg:Str->Option Value} {base:Heap} {CX:xX} {k:Nat} {f:Addr} {fd:FuncData} {ps:List Str} {sp:Sp} (hn:∀ vs H Q E,¬ sp vs H Q E):zL P w K mg base CX k f fd ps sp:=
 ⟨λ_ _ _ _ h=>(hn _ _ _ _ h).elim,λ_ _ _ _ _ _ _ _ _ _ _ _ _ h=>(hn _ _ _ _ h).elim⟩
end L2
namespace Sh
inductive RT where
 | str (ns:List Int) (a d:Int)
 | stp (t:RT) (lo hi:Int)
 | prt (row:List Int) (x y:RT)
noncomputable def RT.dep:RT->Nat
 | .str _ _ _=>1
 | .stp t _ _=>t.dep + 1
 | .prt _ x y=>max x.dep y.dep + 1
theorem RT.dep_pos (t:RT):1<=t.dep:=by cases t <;> simp [RT.dep]
noncomputable def RT.rows:RT->List (List Int)
 | .str _ _ _=>[]
 | .stp t _ _=>t.rows
 | .prt r x y=>[r]++x.rows++y.rows
end Sh
namespace Sh
open PySem L2
noncomputable def xf (n:Nat):RT->Prop
 | .str ns a d=>ns.length=n/\(∀ x∈ns,Bd 300 x)/\Bd 300 a/\0 < d/\Bd 300 d
 | .stp t lo hi=>xf n t/\Bd 300 lo/\Bd 300 hi
 | .prt r x y=>(r.length=n + 1/\∀ z∈r,Bd 300 z)/\xf n x/\xf n y
noncomputable def wb (l:V) (a d:Int):List (Str × V):=[("numbers",l),("add",.int a),("divisor",.int d)]
noncomputable def gL (u:V) (lo hi:Int):List (Str × V):=[("rule",u),("low",.int lo),("high",.int hi)]
noncomputable def jL (r u w:V):List (Str × V):=[("row",r),("rule",u),("other",w)]
noncomputable def xR (C1 C2 C3:Addr) (H:Hp):V->RT->Prop
 | v,.str ns a d=>∃ o dx la,v=.ref o/\H o=some (.ins C1 dx (wb (.ref la) a d))/\H la=some (.lst (ns.map V.int))
 | v,.stp t lo hi=>∃ o dx u,v=.ref o/\H o=some (.ins C2 dx (gL u lo hi))/\xR C1 C2 C3 H u t
 | v,.prt r x y=>∃ o dx ra u w,v=.ref o/\H o=some (.ins C3 dx (jL (.ref ra) u w))/\H ra=some (.tup (r.map V.int))/\xR C1 C2 C3 H u x/\xR C1 C2 C3 H w y
theorem xR.same {C1 C2 C3:Addr} {H H':Hp} (s:zC H H'):∀ {t:RT} {v:V},xR C1 C2 C3 H v t->xR C1 C2 C3 H' v t
 | .str ..,_,⟨o,dx,la,e,h1,h2⟩=>⟨o,dx,la,e,s _ _ h1,s _ _ h2⟩
 | .stp ..,_,⟨o,dx,u,e,h1,h2⟩=>⟨o,dx,u,e,s _ _ h1,xR.same s h2⟩
 | .prt ..,_,⟨o,dx,ra,u,w,e,h1,h2,h3,h4⟩=>⟨o,dx,ra,u,w,e,s _ _ h1,s _ _ h2,xR.same s h3,xR.same s h4⟩
noncomputable def uS (H:Hp):V->RT->Prop
 | v,.str ns a d=>∃ o la,v=.ref o/\H o=some (.tup [.str "straight",.ref la,.int a,.int d])/\H la=some (.lst (ns.map V.int))
 | v,.stp t lo hi=>∃ o u,v=.ref o/\H o=some (.tup [.str "stopped",u,.int lo,.int hi])/\uS H u t
 | v,.prt r x y=>∃ o ra u w,v=.ref o/\H o=some (.tup [.str "parted",.ref ra,u,w])/\H ra=some (.tup (r.map V.int))/\uS H u x/\uS H w y
theorem uS.same {H H':Hp} (s:zC H H'):∀ {t:RT} {v:V},uS H v t->uS H' v t
 | .str ..,_,⟨o,la,e,h1,h2⟩=>⟨o,la,e,s _ _ h1,s _ _ h2⟩
 | .stp ..,_,⟨o,u,e,h1,h2⟩=>⟨o,u,e,s _ _ h1,uS.same s h2⟩
 | .prt ..,_,⟨o,ra,u,w,e,h1,h2,h3,h4⟩=>⟨o,ra,u,w,e,s _ _ h1,s _ _ h2,uS.same s h3,uS.same s h4⟩
noncomputable def gM:RT->Bool | .str ..=>true | _=>false
noncomputable def YH:RT->Bool | .stp ..=>true | _=>false
noncomputable def YI:RT->Bool | .prt ..=>true | _=>false
theorem xf.row {n:Nat} {r:List Int} (h:r.length=n + 1/\∀ z∈r,Bd 300 z):qv r n:=⟨h.1,λx hx=>(h.2 x hx).mono⟩
theorem xf.rows {n:Nat}:∀ {t:RT},xf n t->∀ r∈t.rows,r.length=n + 1/\∀ z∈r,Bd 300 z
 | .str ..,_=>λr hr=>by cases hr
 | .stp ..,h=>λr hr=>xf.rows h.1 r hr
 | .prt q x y,h=>λr hr=>by
  rcases List.mem_append.mp hr with hr | hr
  ·rcases List.mem_append.mp hr with hr | hr
   ·rw [List.mem_singleton.mp hr]; exact h.1
   ·exact xf.rows h.2.1 r hr
  ·exact xf.rows h.2.2 r hr
inductive YJ (C:Addr) (vs:List V) (H:Hp) (Q:VK) (E:XK):Prop
 | mk (o dx la:Addr) (ns:List Int) (a d:Int) (_:vs=[.ref o,.ref la,.int a,.int d]) (_:H o=some (.ins C dx [])) (_:H la=some (.lst (ns.map V.int))) (_:ns.length<=900) (_:∀ l H',zw o H H'->H l=none->H' o=some (.ins C dx (wb (.ref l) a d))->H' l=some (.lst (ns.map V.int))->Q .non H'):YJ C vs H Q E
noncomputable def YK (H:Hp) (a:Addr):Prop:=∃ ns:List Int,H a=some (.lst (ns.map V.int))/\1<=ns.length
end Sh
namespace Sh
open PySem L2
theorem QE:∀ {t:RT},YH t=true->∃ u lo hi,t=.stp u lo hi
 | .stp u lo hi,_=>⟨u,lo,hi,rfl⟩
 | .str ..,h=>by cases h
 | .prt ..,h=>by cases h
theorem QF:∀ {t:RT},YI t=true->∃ r x y,t=.prt r x y
 | .prt r x y,_=>⟨r,x,y,rfl⟩
 | .str ..,h=>by cases h
 | .stp ..,h=>by cases h
theorem Wb (xs:List Int) {b:Nat} (hb:b<=xs.length):yR (xs.map V.int) none (some (b:Int))=(xs.take b).map V.int:=by
 have e2:HT.sIx (xs.map V.int).length (xs.map V.int).length (some (b:Int))=min b (xs.map V.int).length:=HT.sIx_nat _ _ b
 unfold yR
 rw [e2,HT.sIx_none,List.length_map,Nat.min_eq_left hb,<- List.map_drop,<- List.map_take]
 rfl
theorem kT (xs:List V):yR xs (some 1) none=xs.drop 1:=by
 have e1:HT.sIx xs.length 0 (some ((1:Nat):Int))=min 1 xs.length:=HT.sIx_nat _ 0 1
 have e1':HT.sIx xs.length 0 (some 1)=min 1 xs.length:=e1
 unfold yR
 rw [e1',HT.sIx_none]
 cases xs with
 | nil=>rfl
 | cons x t=>
  have:min 1 (x :: t).length=1:=by
   show min 1 (t.length + 1)=1
   omega
  rw [this,List.take_of_length_le (by rw [List.length_drop]; exact Nat.le_refl _)]
theorem YK.put {H:Hp} {b:Addr} {ns:List Int} (hn:1<=ns.length) {a:Addr} (h:YK H a):YK (upd H b (.lst (ns.map V.int))) a:=by
 by_cases e:a=b
 ·rw [e]; exact ⟨ns,zH,hn⟩
 ·obtain ⟨ms,h1,h2⟩:=h
  exact ⟨ms,(zi e).trans h1,h2⟩
end Sh
namespace L2
open PySem PySem.Spec PyProof.Rows Sh
section
variable {X:Cx}
inductive Wc (K:PySem.W.Frag) (x y:V) (H:Hp) (Q:VK):Prop
 | mk (a b:Addr) (xs ys:List V) (_:x=.ref a) (_:y=.ref b) (_:H a=some (.tup xs)) (_:H b=some (.tup ys)) (_:xs≠[]) (_:xs.length + ys.length<=sizeLine) (_:∀ p H',zC H H'->H' p=some (.tup (xs++ys))->Q (.ref p) H'):Wc K x y H Q
theorem QG:yi X (binaryOp .Add) (Wc X.K):=by
 intro pins s σ H x y v u Q I rx ry h
 obtain ⟨a,b,xs,ys,rfl,rfl,ha,hb,hne,hz,q⟩:=h
 exact Zm pins s σ H _ _ v u Q I rx ry ⟨a,b,xs,ys,rfl,rfl,zn.of ha,zn.of hb,hne,hz,λz=>q a H (zC.refl _) (ha.trans (by rw [z,List.append_nil])),λ_ p hp=>q p _ (zK hp _) zH⟩
end
end L2
namespace Sh
structure LF where
 ns:List Int
 a:Int
 d:Int
noncomputable abbrev PC:=List (List Int) × LF
noncomputable def yl (r:List Int):List Int:=r.map λx=>-x
noncomputable def xM (l:LF) (s:Int):List Int:=l.ns++[l.d * s - l.a]
noncomputable def jM (l:LF) (s:Int):LF:=⟨l.ns.map λ_=>0,s,1⟩
noncomputable def jN (lo hi:Int) (p:PC):List PC:=[(p.1++[xM p.2 lo],jM p.2 lo),(p.1++[yl (xM p.2 lo),xM p.2 hi],p.2),(p.1++[yl (xM p.2 hi)],jM p.2 hi)]
noncomputable def yd:RT->List PC
 | .str ns a d=>[([],⟨ns,a,d⟩)]
 | .stp t lo hi=>(yd t).flatMap (jN lo hi)
 | .prt r x y=>(yd x).map (λp=>([r]++p.1,p.2))++(yd y).map (λp=>([yl r]++p.1,p.2))
noncomputable def zg:RT->Nat
 | .str ..=>1
 | .stp t ..=>3 * zg t
 | .prt _ x y=>zg x + zg y
theorem YL {α β:Type} (f:α->List β) (h:∀ x,(f x).length=3):∀ l:List α,(l.flatMap f).length=3 * l.length
 | []=>rfl
 | x :: t=>by
  rw [List.flatMap_cons,List.length_append,h x,YL f h t,List.length_cons]
  omega
theorem wn:∀ t:RT,(yd t).length=zg t
 | .str ..=>rfl
 | .stp t lo hi=>by
  show ((yd t).flatMap (jN lo hi)).length=3 * zg t
  rw [YL _ (λ_=>rfl),wn t]
 | .prt r x y=>by
  show ((yd x).map _++(yd y).map _).length=_
  rw [List.length_append,List.length_map,List.length_map,wn x,wn y]
  rfl
noncomputable def yY (n:Nat):RT->Prop
 | .str ns _ d=>ns.length=n/\0 < d
 | .stp t lo hi=>yY n t/\lo<=hi
 | .prt r x y=>r.length=n + 1/\yY n x/\yY n y
structure YM (n:Nat) (p:PC):Prop where
 rows:∀ r∈p.1,r.length=n + 1
 len:p.2.ns.length=n
 d0:0 < p.2.d
theorem YN (r:List Int):(yl r).length=r.length:=List.length_map _
theorem jv {l:LF} {n:Nat} (h:l.ns.length=n) (s:Int):(xM l s).length=n + 1:=by
 unfold xM
 rw [List.length_append,h]
 rfl
theorem gN {n:Nat}:∀ {t:RT},yY n t->∀ p∈yd t,YM n p
 | .str ns a d,h=>λp hp=>by
  rw [List.mem_singleton.mp hp]
  exact ⟨λr hr=>(by cases hr),h.1,h.2⟩
 | .stp t lo hi,h=>λp hp=>by
  obtain ⟨q,hq,hp⟩:=List.mem_flatMap.mp hp
  have ih:=gN h.1 q hq
  simp only [jN,List.mem_cons,List.not_mem_nil,or_false] at hp
  have fl:∀ s,(jM q.2 s).ns.length=n:=λs=>(List.length_map _).trans ih.len
  rcases hp with rfl | rfl | rfl
  ·refine ⟨λr hr=>?_,fl _,by show (0:Int) < 1; decide⟩
   rcases List.mem_append.mp hr with hr | hr
   ·exact ih.rows r hr
   ·rw [List.mem_singleton.mp hr]; exact jv ih.len _
  ·refine ⟨λr hr=>?_,ih.len,ih.d0⟩
   rcases List.mem_append.mp hr with hr | hr
   ·exact ih.rows r hr
   ·simp only [List.mem_cons,List.not_mem_nil,or_false] at hr
    rcases hr with rfl | rfl
    ·rw [YN]; exact jv ih.len _
    ·exact jv ih.len _
  ·refine ⟨λr hr=>?_,fl _,by show (0:Int) < 1; decide⟩
   rcases List.mem_append.mp hr with hr | hr
   ·exact ih.rows r hr
   ·rw [List.mem_singleton.mp hr,YN]; exact jv ih.len _
 | .prt r x y,h=>λp hp=>by
  rcases List.mem_append.mp hp with hp | hp
  ·obtain ⟨q,hq,rfl⟩:=List.mem_map.mp hp
   have ih:=gN h.2.1 q hq
   refine ⟨λr' hr=>?_,ih.len,ih.d0⟩
   rcases List.mem_append.mp hr with hr | hr
   ·rw [List.mem_singleton.mp hr]; exact h.1
   ·exact ih.rows r' hr
  ·obtain ⟨q,hq,rfl⟩:=List.mem_map.mp hp
   have ih:=gN h.2.2 q hq
   refine ⟨λr' hr=>?_,ih.len,ih.d0⟩
   rcases List.mem_append.mp hr with hr | hr
   ·rw [List.mem_singleton.mp hr,YN]; exact h.1
   ·exact ih.rows r' hr
section
variable {pts:List (Int × Int)} (hp:∀ p∈pts,0 < p.2)
include hp
end
end Sh
namespace Sh
open PySem L2
noncomputable def yB (C:Addr) (H0 H:Hp) (v:V) (p:PC):Prop:=∃ (t rl so dx la:Addr) (rv:List V),v=.ref t/\H t=some (.tup [.ref rl,.ref so])/\H0 rl=none/\H rl=some (.lst rv)/\zh H rv p.1/\H so=some (.ins C dx (wb (.ref la) p.2.a p.2.d))/\H la=some (.lst (p.2.ns.map V.int))
theorem yB.same {C:Addr} {H0 H H':Hp} (s:zC H H') {v:V} {p:PC} (h:yB C H0 H v p):yB C H0 H' v p:=
 let ⟨t,rl,so,dx,la,rv,e,h1,h2,h3,h4,h5,h6⟩:=h
 ⟨t,rl,so,dx,la,rv,e,s _ _ h1,h2,s _ _ h3,zh.same s h4,s _ _ h5,s _ _ h6⟩
theorem yB.back {C:Addr} {H0 H1 H:Hp} (s:zC H0 H1) {v:V} {p:PC} (h:yB C H1 H v p):yB C H0 H v p:=
 let ⟨t,rl,so,dx,la,rv,e,h1,h2,h3⟩:=h
 ⟨t,rl,so,dx,la,rv,e,h1,s.free h2,h3⟩
theorem jO {x:Addr} {H:Hp} (o:HO):zC (hide [x] H) (hide [x] (upd H x o)):=gK ((yu.refl [x] H).put o (List.mem_singleton.mpr rfl))
noncomputable def wG:RT->Prop
 | .str ns a d=>(∀ x∈ns,Bd 101 x)/\Bd 101 a/\Bd 31 d
 | .stp t lo hi=>wG t/\Bd 220 lo/\Bd 220 hi
 | .prt r x y=>(∀ z∈r,Bd 101 z)/\wG x/\wG y
theorem wG.ok {n:Nat}:∀ {t:RT},wG t->yY n t->xf n t
 | .str ..,h,s=>⟨s.1,λx hx=>(h.1 x hx).mono,h.2.1.mono,s.2,h.2.2.mono⟩
 | .stp ..,h,s=>⟨wG.ok h.1 s.1,h.2.1.mono,h.2.2.mono⟩
 | .prt ..,h,s=>⟨⟨s.1,λx hx=>(h.1 x hx).mono⟩,wG.ok h.2.1 s.2.1,wG.ok h.2.2 s.2.2⟩
structure We (p:PC):Prop where
 rows:∀ r∈p.1,∀ z∈r,Bd 300 z
 ns:∀ x∈p.2.ns,Bd 101 x
 a:Bd 220 p.2.a
 d:Bd 31 p.2.d
theorem kU {p:PC} (h:We p) {s:Int} (hs:Bd 220 s):∀ z∈xM p.2 s,Bd 300 z:=λz hz=>by
 unfold xM at hz
 rcases List.mem_append.mp hz with hz | hz
 ·exact (h.ns z hz).mono
 ·rw [List.mem_singleton.mp hz]
  exact (((h.d.mul hs).mono (show 31 + 220<=251 by decide)).sub (h.a.mono)).mono
theorem YO {r:List Int} (h:∀ z∈r,Bd 300 z):∀ z∈yl r,Bd 300 z:=λz hz=>by
 obtain ⟨x,hx,e⟩:=List.mem_map.mp hz
 rw [<- e]
 exact (h x hx).neg
theorem Wf (l:LF):∀ x∈(l.ns.map λ_=>(0:Int)),Bd 101 x:=λx hx=>by
 obtain ⟨y,_,e⟩:=List.mem_map.mp hx
 rw [<- e]
 exact (show Bd 1 (0:Int) from Bd.lit).mono
theorem gP:∀ {t:RT},wG t->∀ p∈yd t,We p
 | .str ns a d,h=>λp hp=>by
  rw [List.mem_singleton.mp hp]
  exact ⟨λr hr=>(by cases hr),h.1,h.2.1.mono,h.2.2⟩
 | .stp t lo hi,h=>λp hp=>by
  obtain ⟨q,hq,hp⟩:=List.mem_flatMap.mp hp
  have ih:=gP h.1 q hq
  simp only [jN,List.mem_cons,List.not_mem_nil,or_false] at hp
  have b1:Bd 31 (1:Int):=(show Bd 1 (1:Int) from Bd.lit).mono
  rcases hp with rfl | rfl | rfl
  ·refine ⟨λr hr=>?_,Wf _,h.2.1,b1⟩
   rcases List.mem_append.mp hr with hr | hr
   ·exact ih.rows r hr
   ·rw [List.mem_singleton.mp hr]; exact kU ih h.2.1
  ·refine ⟨λr hr=>?_,ih.ns,ih.a,ih.d⟩
   rcases List.mem_append.mp hr with hr | hr
   ·exact ih.rows r hr
   ·simp only [List.mem_cons,List.not_mem_nil,or_false] at hr
    rcases hr with rfl | rfl
    ·exact YO (kU ih h.2.1)
    ·exact kU ih h.2.2
  ·refine ⟨λr hr=>?_,Wf _,h.2.2,b1⟩
   rcases List.mem_append.mp hr with hr | hr
   ·exact ih.rows r hr
   ·rw [List.mem_singleton.mp hr]; exact YO (kU ih h.2.2)
 | .prt r x y,h=>λp hp=>by
  rcases List.mem_append.mp hp with hp | hp
  ·obtain ⟨q,hq,rfl⟩:=List.mem_map.mp hp
   have ih:=gP h.2.1 q hq
   refine ⟨λr' hr=>?_,ih.ns,ih.a,ih.d⟩
   rcases List.mem_append.mp hr with hr | hr
   ·rw [List.mem_singleton.mp hr]; exact λz hz=>(h.1 z hz).mono
   ·exact ih.rows r' hr
  ·obtain ⟨q,hq,rfl⟩:=List.mem_map.mp hp
   have ih:=gP h.2.2 q hq
   refine ⟨λr' hr=>?_,ih.ns,ih.a,ih.d⟩
   rcases List.mem_append.mp hr with hr | hr
   ·rw [List.mem_singleton.mp hr]; exact YO λz hz=>(h.1 z hz).mono
   ·exact ih.rows r' hr
theorem jP:∀ {t:RT},∀ p∈yd t,p.1.length<=2 * t.dep
 | .str ..,p,hp=>by rw [List.mem_singleton.mp hp]; exact Nat.zero_le _
 | .stp t lo hi,p,hp=>by
  obtain ⟨q,hq,hp⟩:=List.mem_flatMap.mp hp
  have ih:=jP q hq
  show p.1.length<=2 * (t.dep + 1)
  simp only [jN,List.mem_cons,List.not_mem_nil,or_false] at hp
  rcases hp with rfl | rfl | rfl
  ·rw [List.length_append]; show q.1.length + 1<=_; omega
  ·rw [List.length_append]; show q.1.length + 2<=_; omega
  ·rw [List.length_append]; show q.1.length + 1<=_; omega
 | .prt r x y,p,hp=>by
  show p.1.length<=2 * (max x.dep y.dep + 1)
  rcases List.mem_append.mp hp with hp | hp
  ·obtain ⟨q,hq,rfl⟩:=List.mem_map.mp hp
   have ih:=jP q hq
   all_goals first | (rw [List.length_append]; show 1 + q.1.length<=_; omega) | omega
  ·obtain ⟨q,hq,rfl⟩:=List.mem_map.mp hp
   have ih:=jP q hq
   all_goals first | (rw [List.length_append]; show 1 + q.1.length<=_; omega) | omega
theorem YQ:∀ t:RT,1<=zg t
 | .str ..=>Nat.le_refl _
 | .stp t ..=>by
  have:=YQ t
  show 1<=3 * zg t
  omega
 | .prt _ x y=>by
  have:=YQ x
  show 1<=zg x + zg y
  omega
theorem kW:∀ t:RT,Bd (2 * t.dep + 1) (zg t:Int)
 | .str ..=>(show Bd 1 (1:Int) from Bd.lit).mono (by show 1<=2 * 1 + 1; decide)
 | .stp t lo hi=>by
  have b3:Bd 2 (3:Int):=Bd.lit
  have:=b3.mul (kW t)
  have e:((zg (.stp t lo hi):Nat):Int)=3 * (zg t:Int):=by show ((3 * zg t:Nat):Int)=_; omega
  rw [e]
  exact this.mono (by show 2 + (2 * t.dep + 1)<=2 * (t.dep + 1) + 1; omega)
 | .prt r x y=>by
  have e:((zg (.prt r x y):Nat):Int)=(zg x:Int) + (zg y:Int):=by show ((zg x + zg y:Nat):Int)=_; omega
  rw [e]
  exact (((kW x).mono (show 2 * x.dep + 1<=2 * max x.dep y.dep + 1 by omega)).add ((kW y).mono (show 2 * y.dep + 1<=2 * max x.dep y.dep + 1 by omega))).mono (by show _<=2 * (max x.dep y.dep + 1) + 1; omega)
inductive kX (vs:List V) (H:Hp) (Q:VK) (E:XK):Prop
 | mk (ra:Addr) (r:List Int) (_:vs=[.ref ra]) (_:H ra=some (.tup (r.map V.int))) (_:r.length<=900) (_:∀ t H',zC H H'->H t=none->H' t=some (.tup ((yl r).map V.int))->Q (.ref t) H'):kX vs H Q E
inductive jw (C1 C2 C3:Addr) (d:Nat) (vs:List V) (H:Hp) (Q:VK) (E:XK):Prop
 | mk (v:V) (t:RT) (_:vs=[v]) (_:t.dep<=d) (_:t.dep<=100) (_:xR C1 C2 C3 H v t) (_:Q (.int (zg t:Int)) H):jw C1 C2 C3 d vs H Q E
theorem QH {C1 C2 C3:Addr}:∀ vs H Q E,¬ jw C1 C2 C3 0 vs H Q E:=by
 rintro _ _ _ _ ⟨_,t,_,h,_⟩
 have:=t.dep_pos
 omega
inductive YR (C:Addr) (vs:List V) (H:Hp) (Q:VK) (E:XK):Prop
 | mk (so dx la:Addr) (l:LF) (s:Int) (_:vs=[.ref so,.int s]) (_:H so=some (.ins C dx (wb (.ref la) l.a l.d))) (_:H la=some (.lst (l.ns.map V.int))) (_:1<=l.ns.length) (_:l.ns.length<=900) (_:Bd 300 l.d) (_:Bd 300 s) (_:∀ t H',zC H H'->H' t=some (.tup ((xM l s).map V.int))->Q (.ref t) H'):YR C vs H Q E
inductive vT (C1 C2 C3:Addr) (kd:RT->Bool) (d:Nat) (vs:List V) (H:Hp) (Q:VK) (E:XK):Prop
 | mk (v:V) (n:Nat) (t:RT) (_:vs=[v]) (_:kd t=true) (_:t.dep<=d) (_:t.dep<=100) (_:xR C1 C2 C3 H v t) (_:yY n t) (_:1<=n) (_:n<=800) (_:wG t) (_:zg t<=60) (_:∀ l lv H',zC H H'->H l=none->H' l=some (.lst lv)->Paired (yB C1 H H') lv (yd t)->Q (.ref l) H'):vT C1 C2 C3 kd d vs H Q E
theorem QI {C1 C2 C3:Addr} {kd:RT->Bool}:∀ vs H Q E,¬ vT C1 C2 C3 kd 0 vs H Q E:=by
 rintro _ _ _ _ ⟨_,_,t,_,_,h,_⟩
 have:=t.dep_pos
 omega
noncomputable def vU:RT->Bool:=λ_=>true
theorem QJ {B:List Addr} {H H':Hp} (s:zC (hide B H) (hide B H')):yu B H H':=λb o e n=>by
 have:=s b o ((yq n).trans e)
 rw [yq n] at this
 exact this
theorem yB.hid {C tl:Addr} {H1 H2:Hp} {o:HO} (h1:H1 tl=some o) (h2:H2 tl=some (.lst [])) {v:V} {p:PC} (hn:1<=p.2.ns.length) (h:yB C H1 H2 v p):yB C H1 (hide [tl] H2) v p:=by
 obtain ⟨t,rl,so,dx,la,rv,e,a1,a2,a3,a4,a5,a6⟩:=h
 have ne:∀ {b:Addr} {u:HO},H2 b=some u->u≠.lst []->hide [tl] H2 b=some u:=λhb hu=>by
  rw [yq (λz=>by rw [List.mem_singleton.mp z,h2] at hb; exact hu (Option.some.inj hb).symm)]
  exact hb
 refine ⟨t,rl,so,dx,la,rv,e,ne a1 (λz=>by cases z),a2,?_,Paired.mapP a4 λ_ _ ⟨b,e,q⟩=>⟨b,e,ne q (λz=>by cases z)⟩,ne a5 (λz=>by cases z),ne a6 (λz=>?_)⟩
 ·rw [yq (λz=>by rw [List.mem_singleton.mp z,h1] at a2; cases a2)]
  exact a3
 ·cases e:p.2.ns with
  | nil=>rw [e] at hn; cases hn
  | cons x t=>rw [e] at z; cases z
theorem kY (ns:List Int):(List.replicate ns.length (0:Int))=ns.map λ_=>0:=by
 induction ns with
 | nil=>rfl
 | cons x t ih=>rw [List.length_cons,List.replicate_succ,ih]; rfl
theorem YS {α β:Type} (f:α->List β) {l:List α} {i:Nat} {x:α} (h:l[i]? = some x):(l.take (i + 1)).flatMap f=(l.take i).flatMap f++f x:=by
 rw [xO h,List.flatMap_append,List.flatMap_singleton]
end Sh
namespace Sh
open PySem L2
theorem Paired.mapM {α β:Type} {F G:α->β->Prop}:∀ {xs:List α} {ys:List β},Paired F xs ys->(∀ (i:Nat) a b,xs[i]? = some a->ys[i]? = some b->F a b->G a b)->Paired G xs ys
 | _,_,.nil,_=>.nil
 | _,_,.cons h t,f=>.cons (f 0 _ _ rfl rfl h) (Paired.mapM t λi a b ha hb z=>f (i + 1) a b ha hb z)
end Sh
namespace L2
open PySem PySem.Spec PyProof.Rows
noncomputable abbrev kZ:=Array Value->Option Addr->Prop
noncomputable def yO (base:Heap) (l:List Env) (e:Addr) (cls:Value) (P:kZ) (fl:Value) (h:Heap):Prop:=
 base.StaysIn h/\base.get? e=none/\h.FunFrames base l/\∃ (oe:Obj) (vs:Array Value) (T:Addr) (oT:Obj) (ts:Array Value),h.get? e=some oe/\oe.cls=cls/\oe.data=.fields vs/\P vs oe.dict/\vs[1]? = some (.ref T)/\base.get? T=none/\T≠e/\h.get? T=some oT/\oT.data=.fields ts/\ts[3]? = some fl
noncomputable def jx (P:kZ):Prop:=∀ (vs:Array Value) (d:Option Addr) (v:Value),P vs d->P (vs.setIfInBounds 1 v) d
section
variable {M:Model} {A:Around} {E:Value->Shared->Prop} {s:Shared} {base:Heap} {env:Env} {outer:List Env} {L e:Addr} {cls:Value} {P:kZ} {Q:Unit->Shared->Prop} {oe:Obj} {vs:Array Value}
theorem jy {h:Heap} {T:Addr} {oT:Obj} {ts:Array Value} (hT:h.get? T=some oT) (hd:oT.data=.fields ts) {b:Addr} {o:Obj} (hb:h.get? b=some o) (n:∀ ws,o.data≠.fields ws):b≠T:=by
 rintro rfl
 rw [hT] at hb
 cases hb
 exact n ts hd
theorem Wg {head:Value} {hn:Bool} (st:jx P) (hfr:A.frames=some (env :: outer)) (hl:s.heap.FunFrames base (env :: outer)) (hf:env.frame=some L) (he:s.heap.get? e=some oe) (hkb:base.StaysIn s.heap) (hen:base.get? e=none) (hd:oe.data=.fields vs) (hsz:1 < vs.size) (hP:P vs oe.dict)
  (h:∀ h',yO base (env :: outer) e oe.cls P (rawInt L) h'->s.heap.UpToSlots h'->Q () { s with heap:=h' }) :
  wpAny M A (do let a <- frameOf env; let pl <- entryPlaceOf L hn; let b <- EntryCells.newEntry head a .none (rawInt L) .none pl; setField (.ref e) 1 b) Q E s:=by
 have nf:e∉(env :: outer).filterMap (·.frame):=λz=>by
  obtain ⟨_,o,ho,n⟩:=hl.mem z
  rw [he] at ho
  cases ho
  exact n vs hd
 refine wpAny_bind (wpAny_frameOf_fun hfr hl hf λg sg=>wpAny_bind (wpAny_entryPlaceOf λpl hpl=>?_))
 unfold EntryCells.newEntry newFields
 refine wpAny_bind (wpAny_newObj_type ?_ (hpl.sizeOk5 _ _ _ _ _))
 have e1:g.get? e=some oe:=(sg.2.1 e nf).trans he
 have k1:base.StaysIn g:=λb o q=>(sg.2.1 b λz=>by rw [(hl.mem z).1] at q; cases q).trans (hkb b o q)
 generalize hO:({ cls:=.type "traceback",dict:=none,data:=.fields ([head,.ref L,.none,rawInt L,.none]++(if pl.isEmpty then List.replicate 6 Value.none else pl)).toArray }:Obj)=O
 have dO:∃ ws,O.data=.fields ws/\ws[3]? = some (rawInt L):=by
  rw [<- hO]
  refine ⟨_,rfl,?_⟩
  first | (simp; done) | (rcases hpl with rfl | ⟨_,_,_,_,_,_,_,rfl⟩ <;> simp)
 have fO:O.isFreed=false:=by rw [<- hO]; rfl
 obtain ⟨ws,dw,w3⟩:=dO
 have e2:=Heap.get?_push_of_some (h:=g) O e1
 refine wpAny_setField e2 hd hsz (h _ ?_ ?_)
 ·have ne:g.objs.size≠e:=Nat.ne_of_gt (Heap.lt_size e1)
  have d3:=Obj.data_mapFields hd (·.setIfInBounds 1 (Value.ref g.objs.size))
  refine ⟨λb o q=>?_,hen,hl.of_keeps λb o q n=>?_,_,_,g.objs.size,O,ws,Heap.get?_update_self (Obj.mapFields (·.setIfInBounds 1 (Value.ref g.objs.size))) e2 (Obj.isFreed_of_fields d3),Obj.cls_mapFields _ _,d3,?_,by simp [hsz],k1.fresh,ne,?_,dw,w3⟩
  ·have nb:b≠e:=λz=>by rw [z,hen] at q; cases q
   rw [Heap.get?_update_other _ _ (Ne.symm nb)]
   exact Heap.get?_push_of_some _ (k1 b o q)
  ·obtain ⟨sl,q1⟩:=sg.2.2 b o q
   refine ⟨{ o with slots:=sl },?_,rfl⟩
   rw [Heap.get?_update_other _ _ (Ne.symm (jy he hd q n))]
   exact Heap.get?_push_of_some _ q1
  ·have z:=st vs oe.dict (Value.ref g.objs.size) hP
   first | exact z | (rw [show (oe.mapFields (·.setIfInBounds 1 (Value.ref g.objs.size))).dict=oe.dict by unfold Obj.mapFields; split <;> rfl]; exact z)
  ·rw [Heap.get?_update_other _ _ (Ne.symm ne)]
   exact Heap.get?_push_size g fO
 ·intro b o q n
  obtain ⟨sl,q1⟩:=sg.2.2 b o q
  refine ⟨sl,?_⟩
  rw [Heap.get?_update_other _ _ (Ne.symm (jy he hd q n))]
  exact Heap.get?_push_of_some _ q1
theorem Wi (st:jx P) (hfr:A.frames=some (env :: outer)) (hf:env.frame=some L) (x:yO base (env :: outer) e cls P .none s.heap)
  (h:∀ h',yO base (env :: outer) e cls P (rawInt L) h'->s.heap.UpToSlots h'->Q () { s with heap:=h' }):wpAny M A (noteFrame (.ref e) env) Q E s:=by
 obtain ⟨k,en,fr,oe,vs,T,oT,ts,he,rfl,hd,hP,h1,nT,ne,hT,dT,h3⟩:=x
 unfold noteFrame
 simp only [hf]
 refine wpAny_bind (wpAny_field he hd h1 ?_)
 rw [if_pos (show (Value.ref T != Value.none)=true by simp)]
 refine wpAny_bind (wpAny_field hT dT h3 ?_)
 rw [if_neg (show ¬ ((Value.none == rawInt L)=true) by simp [rawInt])]
 refine wpAny_bind (wpAny_setField hT dT (Array.getElem?_eq_some_iff.mp h3).1 ?_)
 have oth:∀ b,b≠T->(s.heap.update T (Obj.mapFields (·.setIfInBounds 3 Value.none))).get? b=s.heap.get? b:=λb nb=>Heap.get?_update_other _ _ (Ne.symm nb)
 refine Wg st hfr (fr.of_keeps λb o q n=>⟨o,(oth b (jy hT dT q n)).trans q,rfl⟩) hf ((oth e (Ne.symm ne)).trans he) (λb o q=>(oth b λz=>by rw [z,nT] at q; cases q).trans (k b o q)) en hd (Array.getElem?_eq_some_iff.mp h1).1 hP λh' f u=>h h' f λb o q n=>u b o ((oth b (jy hT dT q n)).trans q) n
theorem QK (st:jx P) (hfr:A.frames=some (env :: outer)) (hf:env.frame=some L) (hl:s.heap.FunFrames base (env :: outer)) (he:s.heap.get? e=some oe) (hkb:base.StaysIn s.heap) (hen:base.get? e=none) (hd:oe.data=.fields vs) (h1:vs[1]? = some .none) (hP:P vs oe.dict)
  (h:∀ h',yO base (env :: outer) e oe.cls P (rawInt L) h'->s.heap.UpToSlots h'->Q () { s with heap:=h' }):wpAny M A (noteFrame (.ref e) env) Q E s:=by
 unfold noteFrame
 simp only [hf]
 refine wpAny_bind (wpAny_field he hd h1 ?_)
 rw [if_neg (by decide)]
 exact Wg st hfr hl hf he hkb hen hd (Array.getElem?_eq_some_iff.mp h1).1 hP h
theorem ka {l:List Env} {fl:Value} (x:yO base l e cls P fl s.heap) (h:∀ h',yO base l e cls P .none h'->s.heap.UpToSlots h'->Q () { s with heap:=h' }):wpAny M A (setFlight (.ref e) none) Q E s:=by
 obtain ⟨k,en,fr,oe,vs,T,oT,ts,he,hc,hd,hP,h1,nT,ne,hT,dT,h3⟩:=x
 have sz:3 < ts.size:=(Array.getElem?_eq_some_iff.mp h3).1
 have oth:∀ b,b≠T->(s.heap.update T (Obj.mapFields (·.setIfInBounds 3 ((none:Option Addr).elim Value.none λf=>rawInt f)))).get? b=s.heap.get? b:=λb nb=>Heap.get?_update_other _ _ (Ne.symm nb)
 unfold setFlight
 refine wpAny_bind (wpAny_field he hd h1 ?_)
 rw [if_pos (show (Value.ref T != Value.none)=true by simp)]
 refine wpAny_setField hT dT sz (h _ ⟨λb o q=>(oth b λz=>by rw [z,nT] at q; cases q).trans (k b o q),en,fr.of_keeps λb o q n=>⟨o,(oth b (jy hT dT q n)).trans q,rfl⟩,oe,vs,T,_,_,(oth e (Ne.symm ne)).trans he,hc,hd,hP,h1,nT,ne,Heap.get?_update_self _ hT (Obj.isFreed_of_fields (Obj.data_mapFields dT _)),Obj.data_mapFields dT _,by simp [sz]⟩ λb o q n=>⟨o.slots,(oth b (jy hT dT q n)).trans q⟩)
theorem yO.out {fl:Value} {h:Heap} (x:yO base (env :: outer) e cls P fl h):yO base outer e cls P fl h:=by
 obtain ⟨k,en,⟨_,_,fr⟩,r⟩:=x
 exact ⟨k,en,fr,r⟩
theorem QL (st:jx P) (hfr:A.frames=some (env :: outer)) (hf:env.frame=some L) (x:yO base (env :: outer) e cls P .none s.heap)
  (h:∀ h',yO base outer e cls P .none h'->s.heap.UpToSlots h'->Q () { s with heap:=h' }):wpAny M A (leaving env (.ref e)) Q E s:=by
 unfold leaving
 exact wpAny_bind (Wi st hfr hf x λh1 f1 u1=>ka f1 λh2 f2 u2=>h h2 f2.out (u1.trans u2))
theorem QM (st:jx P) (hfr:A.frames=some (env :: outer)) (hf:env.frame=some L) (hl:s.heap.FunFrames base (env :: outer)) (he:s.heap.get? e=some oe) (hkb:base.StaysIn s.heap) (hen:base.get? e=none) (hd:oe.data=.fields vs) (h1:vs[1]? = some .none) (hP:P vs oe.dict)
  (h:∀ h',yO base outer e oe.cls P .none h'->s.heap.UpToSlots h'->Q () { s with heap:=h' }):wpAny M A (leaving env (.ref e)) Q E s:=by
 unfold leaving
 exact wpAny_bind (QK st hfr hf hl he hkb hen hd h1 hP λh1 f1 u1=>ka f1 λh2 f2 u2=>h h2 f2.out (u1.trans u2))
end
noncomputable def P0:kZ:=λvs _=>vs[2]? = some .none
theorem YT:jx P0:=λvs _ _ h=>by
 unfold P0 at h |-
 rw [Array.getElem?_setIfInBounds_ne (by decide)]
 exact h
theorem yO.first {base h:Heap} {l:List Env} {e:Addr} {cls fl:Value} (x:yO base l e cls P0 fl h):∃ oe vs,h.get? e=some oe/\oe.cls=cls/\oe.data=.fields vs/\vs[2]? = some .none:=by
 obtain ⟨_,_,_,oe,vs,_,_,_,he,hc,hd,hP,_⟩:=x
 exact ⟨oe,vs,he,hc,hd,hP⟩
end L2
namespace L2
open PySem PySem.Spec PyProof.Rows
section
variable {P:Program} {w:World} {H:Hp} {h:Heap} {a:Addr}
theorem yw.there {o:HO} (x:yw P w H h a o):∃ ob,h.get? a=some ob:=by
 cases o with
 | lst xs=>obtain ⟨_,_,_,_,e⟩:=x; exact ⟨_,e⟩
 | tup xs=>obtain ⟨_,_,_,p⟩:=x; obtain ⟨ob,e,_⟩:=p; exact ⟨ob,e⟩
 | dK kvs=>obtain ⟨_,_,_,_,ob,_,_,e,_⟩:=x; exact ⟨ob,e⟩
 | dT kvs=>obtain ⟨_,_,_,_,ob,_,_,e,_⟩:=x; exact ⟨ob,e⟩
 | set S n=>obtain ⟨ob,_,_,_,e,_⟩:=x; exact ⟨ob,e⟩
 | ins C dx fs=>obtain ⟨_,_,_,e,_⟩:=x; exact ⟨_,e⟩
 | own y=>exact x
 | xd fs=>obtain ⟨_,⟨ob,_,_,e,_⟩,_⟩:=x; exact ⟨ob,e⟩
 | rng lo hi=>obtain ⟨_,_,_,e⟩:=x; exact ⟨_,e⟩
 | frz ob u=>obtain ⟨e,_⟩:=x; exact ⟨_,e⟩
 | tbl ps=>exact ⟨_,show h.get? a=some _ from x⟩
 | met f y=>exact ⟨_,show h.get? a=some _ from x⟩
 | ext φ=>obtain ⟨_,e,_⟩:=x; exact e
theorem ya.none_of (x:ya P w H h) (e:h.get? a=none):H a=none:=by
 cases q:H a with
 | none=>rfl
 | some o=>
  obtain ⟨ob,z⟩:=(x a o q).there
  rw [e] at z
  cases z
theorem ya.hide {as:List Addr} (x:ya P w H h) (f:∀ b∈as,H b=none):ya P w H (PySem.W.hideAll h as):=λa o e=>
 (x a o e).stay (λb u hb q=>PySem.W.hideAll_get _ q λz=>by
  have n:=f b z
  rcases hb with rfl | hb
  ·rw [n] at e; cases e
  ·rw [n] at hb; cases hb) (λ_ q=>q) λ_ _ q=>q
end
structure XL (P:Program) (w:World) (outer:List Env) (H H':Hp) (s s':Shared) (B:Heap) (e:Addr) (cls a0:Value):Prop where
 os:s'.os=s.os
 bare:AllBare s'.gens
 keep:∀ b o,s.heap.get? b=some o->H b=none->b∉yf outer->B.get? b=some o
 slot:∀ b o,s.heap.get? b=some o->H b=none->b∈yf outer->∃ sl,s'.heap.get? b=some { o with slots:=sl }
 free:∀ b o,s.heap.get? b=some o->H b=none->H' b=none
 there:∀ b o,s.heap.get? b=some o->b∉yf outer->∃ o',B.get? b=some o'
 tups:∀ b xs,H b=some (.tup xs)->H' b=some (.tup xs)
 frzs:∀ b o u,H b=some (.frz o u)->H' b=some (.frz o u)
 tbls:∀ b ps,H b=some (.tbl ps)->∃ more,H' b=some (.tbl (ps++more))
 hok:ya P w H' B
 fly:yO B outer e cls P0 .none s'.heap
noncomputable def yL (P:Program) (w:World):xX:=λouter H s E ev s'=>∃ (e:Addr) (cls a0:Value) (B:Heap) (H':Hp),ev=.ref e/\XL P w outer H H' s s' B e cls a0/\E cls none H'
section
variable {P:Program} {w:World} {outer:List Env} {H H':Hp} {s s':Shared} {B:Heap} {e:Addr} {cls a0:Value}
theorem XL.un (x:XL P w outer H H' s s' B e cls a0):Un (yf outer) [] H H' s.heap s'.heap where
 keep:=λb o q n hb _=>x.fly.1 b o (x.keep b o q n hb)
 slot:=λb o q n hb _=>x.slot b o q n hb
 free:=λb o q n _=>x.free b o q n
 there:=λb o q _=>by
  by_cases hb:b∈yf outer
  ·obtain ⟨_,o',ho,_⟩:=x.fly.2.2.1.mem hb
   exact ⟨o',ho⟩
  ·obtain ⟨o',ho⟩:=x.there b o q hb
   exact ⟨o',x.fly.1 _ _ ho⟩
 tups:=x.tups
 frzs:=x.frzs
 tbls:=x.tbls
theorem XL.held (x:XL P w outer H H' s s' B e cls a0):ya P w H' s'.heap:=x.hok.kept x.fly.1
theorem XL.move {h':Heap} {tk:Nat} (x:XL P w outer H H' s s' B e cls a0) (f:yO B outer e cls P0 .none h') (u:s'.heap.UpToSlots h'):XL P w outer H H' s { s' with heap:=h',toks:=tk } B e cls a0 where
 os:=x.os
 bare:=x.bare
 keep:=x.keep
 slot:=λb o q n hb=>by
  obtain ⟨sl,e1⟩:=x.slot b o q n hb
  obtain ⟨_,o',ho,nf⟩:=x.fly.2.2.1.mem hb
  rw [e1] at ho
  cases ho
  obtain ⟨sl',e2⟩:=u b _ e1 nf
  exact ⟨sl',e2⟩
 free:=x.free
 there:=x.there
 tups:=x.tups
 frzs:=x.frzs
 tbls:=x.tbls
 hok:=x.hok
 fly:=f
theorem XL.new (x:XL P w outer H H' s s' B e cls a0):s.heap.get? e=none/\H' e=none/\e∉yf outer:=by
 have nf:e∉yf outer:=λz=>by
  obtain ⟨_,o,ho,nd⟩:=x.fly.2.2.1.mem z
  obtain ⟨oe,vs,he,_,hd,_⟩:=yO.first x.fly
  rw [he] at ho
  cases ho
  exact nd _ hd
 refine ⟨?_,x.hok.none_of x.fly.2.1,nf⟩
 cases q:s.heap.get? e with
 | none=>rfl
 | some o=>
  obtain ⟨o',z⟩:=x.there e o q nf
  rw [x.fly.2.1] at z
  cases z
end
section
variable {P:Program} {w:World} {K:PySem.W.Frag} {mg:Str->Option Value} {base:Heap} {N:List Str} {qual:Str} {scope:Scope} {f:Addr} {cd:Value} {A:Around} {outer:List Env} {s:Shared} {H:Hp} {E:XK}
theorem kb {X:Cx} {pins:List (Addr × Obj)} {σ:St} {H1:Hp} {s1:Shared} {b:Addr} {o:Obj} (I:zG X pins σ H1 s1) (q:X.s₀.heap.get? b=some o) (hb:b∉X.fs):b∉yf X.stack:=λz=>by
 rcases List.mem_cons.mp (I.stkSub b z) with e | z
 ·exact absurd (Nat.lt_of_lt_of_le (Heap.lt_size q) I.ok.above) (by rw [e]; exact Nat.lt_irrefl _)
 ·exact hb z
theorem jz {pins:List (Addr × Obj)} {σ:St} {H1:Hp} {s1:Shared} {h2:Heap} {e:Addr} {cls:Value} {args:List Value}
  (I:zG (zM (yL P w) P w K mg base N qual scope f cd A outer s H E) pins σ H1 s1) (hx:Heap.MadeExcOf s1.heap h2 e cls args) (q:E cls none H1) :
  (zM (yL P w) P w K mg base N qual scope f cd A outer s H E).xe (.ref e) { s1 with heap:=h2 }:=by
 have fr:=I.stack
 have fh:=PySem.W.funFrames_hide (as:=yf (zM (yL P w) P w K mg base N qual scope f cd A outer s H E).stack) fr λenv he b hb=>List.mem_filterMap.mpr ⟨env,he,hb⟩
 obtain ⟨t,he,htn,ht⟩:=hx.there
 have fr2:∀ b,s1.heap.get? b=none->(PySem.W.hideAll s1.heap (yf (zM (yL P w) P w K mg base N qual scope f cd A outer s H E).stack)).get? b=none:=λb hb=>by
  cases q:(PySem.W.hideAll s1.heap (yf (zM (yL P w) P w K mg base N qual scope f cd A outer s H E).stack)).get? b with
  | none=>rfl
  | some o=>
   have:=PySem.W.of_hideAll _ q
   rw [hb] at this
   cases this
 refine QM (s:={ s1 with heap:=h2 }) (base:=PySem.W.hideAll s1.heap (yf (zM (yL P w) P w K mg base N qual scope f cd A outer s H E).stack)) YT I.ok.frames rfl (fh.of_keeps λb o q _=>⟨o,hx.keeps b o q,rfl⟩) he (λb o q=>hx.keeps b o (PySem.W.of_hideAll _ q)) (fr2 e hx.new) rfl rfl rfl λh' x1 x4=>?_
 refine ⟨e,cls,.ref t,_,H1,rfl,⟨I.os,I.bare,λb o eb n hb=>?_,λb o eb n hb=>?_,λb o eb n=>I.base.free b o eb n (by simp [zM]),λb o eb hb=>?_,I.base.tups,I.base.frzs,I.base.tbls,I.hok.hide λb hb=>I.stkFree b hb,x1⟩,q⟩
 ·exact PySem.W.hideAll_get _ (I.base.keep b o eb n hb (by simp [zM])) (kb I eb hb)
 ·obtain ⟨sl,e1⟩:=I.base.slot b o eb n hb (by simp [zM])
  obtain ⟨_,o',ho,nf⟩:=I.funs.mem hb
  rw [e1] at ho
  cases ho
  obtain ⟨sl',e2⟩:=x4 b _ (hx.keeps _ _ e1) nf
  exact ⟨sl',e2⟩
 ·obtain ⟨o',e1⟩:=I.base.there b o eb (by simp [zM])
  exact ⟨o',PySem.W.hideAll_get _ e1 (kb I eb hb)⟩
theorem Wj {E':XK} (hE:∀ c d H,E' c d H->E c d H):uH (yL P w) (zM (yL P w) P w K mg base N qual scope f cd A outer s H E) E':=by
 intro pins σ H1 s1 ev s2 I h
 obtain ⟨e,cls,a0,B,H2,rfl,x,q⟩:=h
 have un:=(I.base.mono (fs':=yf (zM (yL P w) P w K mg base N qual scope f cd A outer s H E).stack) (ex':=[]) (λb hb=>by
  show b∈yf (_ :: outer)
  unfold yf
  rw [List.filterMap_cons]
  split
  ·exact hb
  ·exact List.mem_cons_of_mem _ hb) λb hb=>hb).trans x.un
 have hx:yO B ((zM (yL P w) P w K mg base N qual scope f cd A outer s H E).env :: outer) e cls P0 .none s2.heap:=x.fly
 refine QL YT I.ok.frames rfl hx λh' fl up=>?_
 refine ⟨e,cls,a0,B,H2,rfl,⟨x.os.trans I.os,x.bare,λb o eb n hb=>?_,λb o eb n hb=>?_,λb o eb n=>un.free b o eb n (by simp),λb o eb hb=>?_,un.tups,un.frzs,un.tbls,x.hok,fl⟩,hE _ _ _ q⟩
 ·exact x.keep b o (I.base.keep b o eb n hb (by simp [zM])) (I.base.free b o eb n (by simp [zM])) (kb I eb hb)
 ·obtain ⟨sl,e1⟩:=I.base.slot b o eb n hb (by simp [zM])
  have hb2:b∈yf (zM (yL P w) P w K mg base N qual scope f cd A outer s H E).stack:=by
   show b∈yf (_ :: outer)
   unfold yf
   rw [List.filterMap_cons]
   split
   ·exact hb
   ·exact List.mem_cons_of_mem _ hb
  obtain ⟨sl1,e2⟩:=x.slot b _ e1 (I.base.free b o eb n (by simp [zM])) hb2
  obtain ⟨_,o',ho,nf⟩:=x.fly.2.2.1.mem hb2
  rw [e2] at ho
  cases ho
  obtain ⟨sl2,e3⟩:=up b _ e2 nf
  exact ⟨sl2,e3⟩
 ·obtain ⟨o',e1⟩:=I.base.there b o eb (by simp [zM])
  exact x.there b o' e1 (kb I eb hb)
end
theorem QN {K:PySem.W.Frag} {h:Heap} {C:Addr} {bmB:List Value} {newId:String} (X:K.In h) (q:PySem.W.excIn K C bmB newId=true) :
  ∃ bm N nm qn bs hdct sn sub ab col dd k0 k1 k2 k3 k5 mN,h.get? C=some (excClassObj nm qn C N bs bm hdct sn sub ab col dd k0 k1 k2 k3 k5 newId)/\h.Ns N mN/\mN "__init__" = none/\OwnTail h bmB bm:=by
 unfold PySem.W.excIn at q
 split at q
 case h_1 dd cd sl look=>
  split at q
  case h_1 C1 tl k0 k1 k2 k3 made k5 eqm eqs=>
   simp only [Bool.and_eq_true,beq_iff_eq,Bool.not_eq_true'] at q
   obtain ⟨⟨⟨⟨⟨e1,e2⟩,e3⟩,e4⟩,e5⟩,e6⟩:=q
   subst e1 e2
   obtain ⟨nm,bs,mro,ns,qn,hd,sn,sub,ab,col,del⟩:=cd
   obtain ⟨sll⟩:=sl
   dsimp only at eqm e3 e5 e6 eqs
   subst eqm e3 eqs
   exact ⟨tl,ns,nm,qn,bs,hd,sn,sub,ab,col,dd,k0,k1,k2,k3,k5,h.nsMap ns,X _ _ look,.of_isNs (PySem.W.isNs_of_in X e5),PySem.W.nsMap_none_of_in X e5 e6,PySem.W.tail_of_in X e4⟩
  all_goals cases q
 all_goals cases q
noncomputable abbrev YU:List Value:=[.type "ValueError",.type "Exception",.type "BaseException",.type "object"]
noncomputable def QO (C:Addr) (E:XK) (ta:TA):TS:=λ_ σ H=>ta σ H λvs H1=>vs.length<=sizeLine/\E (.ref C) none H1
noncomputable def QP (X:Cx) (E:XK):Prop:=∀ (pins:List (Addr × Obj)) (σ:St) (H:Hp) (s:Shared) (h':Heap) (e:Addr) (cls:Value) (args:List Value),zG X pins σ H s->Heap.MadeExcOf s.heap h' e cls args->E cls none H->X.xe (.ref e) { s with heap:=h' }
theorem j0 {X:Cx} {C:Addr} {E:XK} {x:Str} {np cpos pos:Pos} {e0:Expr} {es:List Expr} {ta:TA} (R:QP X E) (hC:PySem.W.excIn X.K C YU "ValueError.__new__" = true) (hg:Gl X x) (hm:X.mg x=some (.ref C)) (hc:X.calm=true) (ha:PA X (e0 :: es) ta)
  (hdb:(x == ("__debug__" : Str))=false:=by decide) (he:starEach (e0 :: es) X.env=(false,eval e0 X.env) :: starEach es X.env:=by rfl) (hpl:(backTo cpos (starEach es X.env)).any (·.1)=false:=by rfl) :
  PS X (.Raise (some (.Call (.Name x np) (e0 :: es) [] cpos)) none pos) (QO C E ta):=by
 intro pins s σ H D I h
 obtain ⟨bm,N,nm,qn,bs,hdct,sn,sub,ab,col,dd,k0,k1,k2,k3,k5,mN,oC,oN,oi,oT⟩:=QN I.ok.mod.kin hC
 have hp:(backTo cpos (starEach (e0 :: es) X.env)).any (·.1)=false:=by
  rw [he]
  show (false || (backTo cpos (starEach es X.env)).any (·.1))=false
  rw [hpl]
  rfl
 refine wpAny_Raise_call_subT (C:=C) (nm:=nm) (q:=qn) (N:=N) (bs:=bs) (bm:=bm) (hdct:=hdct) (sn:=sn) (sub:=sub) (ab:=ab) (col:=col) (dd:=dd) (k0:=k0) (k1:=k1) (k2:=k2) (k3:=k3) (k5:=k5) PySem.F.excBase_ValueError (mN:=mN)
  (oT.hasType PySem.F.excBase_ValueError.hasBase) (I.ok.hd hc) hp oi (ur I hg hm ⟨rfl,?_⟩ hdb)
 have ha':=ha cpos pins s σ H _ I h
 rw [he] at ha' |-
 refine Calls.evalArgs_plain (zd ha' λus s2 ⟨vs,H1,I2,r,hl,qE⟩=>?_)
 exact ⟨rfl,(by rw [<- r.length]; exact hl),I2.bk _ _ oC,oN.keeps I2.bk,oT.keeps I2.bk,λh' e hm'=>R pins σ H1 s2 h' e _ _ I2 hm' qE⟩
section
variable {P:Program} {w:World} {K:PySem.W.Frag} {mg:Str->Option Value} {base:Heap}
theorem yA.okX {x qual:Str} {st:Stmt} {f:Addr} {fd:FuncData} {N ps:List Str} {k:Nat} {sp:Sp} (F:yA K x qual st f fd) (S:zv N ps (zW st)) (len:∀ vs H Q E,sp vs H Q E->vs.length=ps.length)
  (hbody:∀ (cdv:Value) (A:Around) (outer:List Env) (s:Shared) (H:Hp) (vs:List V) (Q:VK) (E:XK),zf k (A.deeper (envOfC qual (zW st) s.heap.objs.size f cdv))->sp vs H Q E->
   ∃ t,xz (zM (yL P w) P w K mg base N qual (zW st) f cdv A outer s H E) (xD st) t/\t { nx:=λ_ H'=>Q .non H',rt:=Q } (xp N vs) H):zL P w K mg base (yL P w) (k + 1) f fd ps sp:=by
 obtain ⟨oc,od,kV,doc,pm,an,cdv,ct,osl,rfl,lk,hcd⟩:=F.ex
 exact kE lk hcd S len λA outer s H vs Q E hr hsp=>hbody cdv A outer s H vs Q E hr hsp
theorem yt.okX {x qual:Str} {st:Stmt} {f:Addr} {fd:FuncData} {d:Value} {N ps:List Str} {k:Nat} {sp:Sp} (F:yt K x qual st f fd d) (S:zv N ps (zW st)) (len:∀ vs H Q E,sp vs H Q E->vs.length=ps.length)
  (hbody:∀ (cdv:Value) (A:Around) (outer:List Env) (s:Shared) (H:Hp) (vs:List V) (Q:VK) (E:XK),zf k (A.deeper (envOfC qual (zW st) s.heap.objs.size f cdv))->sp vs H Q E->
   ∃ t,xz (zM (yL P w) P w K mg base N qual (zW st) f cdv A outer s H E) (xD st) t/\t { nx:=λ_ H'=>Q .non H',rt:=Q } (xp N vs) H):zL P w K mg base (yL P w) (k + 1) f fd ps sp:=by
 obtain ⟨oc,od,kV,doc,pm,an,cdv,ct,osl,T,oT,n,rfl,lk,hcd,_⟩:=F.ex
 exact kE lk hcd S len λA outer s H vs Q E hr hsp=>hbody cdv A outer s H vs Q E hr hsp
structure vG (P:Program) (w:World) (K:PySem.W.Frag) (mg:Str->Option Value) (base:Heap) (x:Str) (ps:List Str) (k:Nat) (sp:Sp):Prop where
 ex:∃ f fd,zL P w K mg base (yL P w) k f fd ps sp/\mg x=some (.ref f)/\PySem.W.keepIn K (.ref f)=true/\xN K fd ps []
theorem vG.mono {x:Str} {ps:List Str} {j k:Nat} {sp:Sp} (F:vG P w K mg base x ps j sp) (h:j<=k:=by decide):vG P w K mg base x ps k sp:=by
 obtain ⟨f,fd,a,b,c,d⟩:=F.ex
 exact ⟨f,fd,a.mono h,b,c,d⟩
end
noncomputable def yV (e C:Addr):HO:=.ext λh=>∃ oe vs,h.get? e=some oe/\oe.cls=.ref C/\oe.data=.fields vs/\vs[2]? = some .none
theorem QQ {K:PySem.W.Frag} {prog:Program} {w:World} {A:Around} {E:Value->Shared->Prop} {s:Shared} {Q:Value->Shared->Prop} {e C:Addr} {c:Value} {oe:Obj} (X:K.In s.heap) (he:s.heap.get? e=some oe) (hc:oe.cls=.ref C)
  (kx:PySem.W.kitOne K (.ref C) c=some true) (h:∀ tk,Q (.bool true) { s with toks:=tk }):wpAny (model prog w) A (call (.builtin "isinstance") [.ref e,c]) Q E s:=by
 refine call_isinstance (S:=λ_ R s=>(K.In s.heap/\∃ oe,s.heap.get? e=some oe/\oe.cls=.ref C)/\∀ tk,R (.ok (.ret (.bool true))) { s with toks:=tk }) (λprog w A R s hs=>isinstance_outer ?_ (λz=>nomatch z)) ⟨⟨X,oe,he,hc⟩,h⟩
 obtain ⟨h0,g,d,tt,os⟩:=s
 obtain ⟨⟨X,oe,he,hc⟩,hq⟩:=hs
 have LT:PySem.W.Looks (model prog w) h0 (typeOf (.ref e)) (.ref C):=by
  intro A' Q' E' s' k q
  unfold typeOf
  dsimp only
  exact wpAny_bind (wpAny_loadPart (k _ _ he) (wpAny_pure (by rw [hc]; exact q)))
 unfold PySem.W.kitOne at kx
 unfold Builtin.«isinstance.nested»
 refine wpAny_bind (LT.at ?_)
 by_cases same:(Value.ref C == c)=true
 ·rw [if_pos same]
  first
   | ((repeat lk); exact hq tt)
   | exact wpAny_bind (wpAny_rule (hq tt))
   | exact wpAny_bind (wpAny_rule (wpAny_pure (hq tt)))
 ·rw [if_neg same] at kx
  rw [if_neg same]
  obtain ⟨l1,l2,l3⟩:=PySem.W.kit_cls (M:=model prog w) X kx
  have LI:PySem.W.Looks (model prog w) h0 (isInstance (.ref e) c) true:=LT.andThen l3
  refine wpAny_bind (l1.at ?_)
  rw [if_pos (by decide)]
  k_delta "plainIsInstance"
  refine wpAny_bind (wpAny_bind (l2.at ?_))
  simp only [Bool.not_true,Bool.false_eq_true,if_false]
  refine wpAny_bind (LI.at ?_)
  first
   | exact wpAny_pure (wpAny_pure (hq tt))
   | (simp only [if_true]; first | exact wpAny_pure (wpAny_pure (hq tt)) | exact wpAny_pure (hq tt) | exact wpAny_bind (wpAny_pure (wpAny_pure (hq tt))))
section
variable {X:Cx}
noncomputable def Wk (K:PySem.W.Frag):List V->Hp->VK->Prop:=λxs H Q=>∃ e C c,xs=[.ref e,.ty c]/\H e=some (yV e C)/\PySem.W.kitOne K (.ref C) (.type c)=some true/\Q (.bl true) H
theorem QR:yW X (.builtin "isinstance") (Wk X.K):=by
 intro pins s σ H xs us Q I r h
 obtain ⟨e,C,c,rfl,he,kx,q⟩:=h
 obtain ⟨u,v,rfl,ru,rv⟩:=qa r
 cases (show v=Value.type c from rv)
 cases (show u=Value.ref e from ru)
 obtain ⟨⟨oe,vs,h1,h2,_⟩,_⟩:=(show yw X.prog X.w H s.heap e (yV e C) from I.hok e _ he)
 exact QQ I.kIn h1 h2 kx λtk=>⟨.bl true,H,I.tok tk,rfl,q⟩
end
noncomputable abbrev Cx.mark (X:Cx) (e:Addr):Cx:={ X with A:=X.A.mark (some (.ref e)),calm:=false,xe:=λ_ _=>False }
section
variable {X:Cx} {pins:List (Addr × Obj)} {σ:St} {H:Hp} {s:Shared} {e:Addr}
theorem zG.mark (I:zG X pins σ H s) (e:Addr):zG (X.mark e) pins σ H s:=
 ⟨⟨I.ok.mod,I.ok.kind,I.ok.glob,I.ok.blt,I.ok.above,I.ok.inj,I.ok.has,I.ok.cab,λz=>(nomatch z),I.ok.frames,I.ok.stk,I.ok.exf,I.ok.bs,I.ok.bsz,I.ok.noex,I.ok.exfs,I.ok.funs,I.ok.frf⟩,I.os,I.bare,I.base,I.loc,I.cell,I.free,I.freeC,I.pin,I.hok,I.len⟩
theorem zG.unmark (hh:X.calm=true->X.A.handled=none) (I:zG (X.mark e) pins σ H s):zG X pins σ H s:=
 ⟨⟨I.ok.mod,I.ok.kind,I.ok.glob,I.ok.blt,I.ok.above,I.ok.inj,I.ok.has,I.ok.cab,hh,I.ok.frames,I.ok.stk,I.ok.exf,I.ok.bs,I.ok.bsz,I.ok.noex,I.ok.exfs,I.ok.funs,I.ok.frf⟩,I.os,I.bare,I.base,I.loc,I.cell,I.free,I.freeC,I.pin,I.hok,I.len⟩
theorem zG.track {o:HO} (I:zG X pins σ H s) (hn:H e=none) (h0:e∈X.ex\/X.s₀.heap.get? e=none) (hL:e≠X.env.locals) (hc:∀ x c,X.env.cells.lookup x=some c->c≠e) (hp:∀ p∈X.pn++pins,p.1≠e)
  (new:yw X.prog X.w (upd H e o) s.heap e o):zG X pins σ (upd H e o) s:=by
 have ne:∀ b u,H b=some u->b≠e:=λb u q=>wP q hn
 refine ⟨I.ok,I.os,I.bare,⟨I.base.keep,I.base.slot,λb ob q n hx=>?_,I.base.there,λb xs q=>?_,λb ob u q=>?_,λb ps q=>?_⟩,I.loc,I.cell,?_,λx c q=>?_,λp hq=>?_,λb u q=>?_,I.len⟩
 ·rw [zi λz=>?_]
  ·exact I.base.free b ob q n hx
  ·subst z
   rcases h0 with z | z
   ·exact hx z
   ·rw [q] at z; cases z
 ·have z:=I.base.tups b xs q
  rw [zi (ne _ _ z)]
  exact z
 ·have z:=I.base.frzs b ob u q
  rw [zi (ne _ _ z)]
  exact z
 ·obtain ⟨m,z⟩:=I.base.tbls b ps q
  exact ⟨m,by rw [zi (ne _ _ z)]; exact z⟩
 ·rw [zi (Ne.symm hL)]
  exact I.free
 ·rw [zi (hc x c q)]
  exact I.freeC x c q
 ·obtain ⟨a1,a2,a3,a4,a5⟩:=I.pin p hq
  exact ⟨a1,by rw [zi (hp p hq)]; exact a2,a3,a4,a5⟩
 ·by_cases z:b=e
  ·subst z
   rw [zH] at q
   cases q
   exact new
  ·rw [zi z] at q
   exact (I.hok b u q).stay (λ_ _ _ r=>r) (λc r=>by rw [zi (ne _ _ r)]; exact r) λc xs r=>by rw [zi (ne _ _ r)]; exact r
end
noncomputable def Wl (X:Cx) (ex:Expr) (t:XK->TE):Prop:=
 ∀ (pins:List (Addr × Obj)) (s:Shared) (σ:St) (H:Hp) (Q:VK) (E:XK),zG X pins σ H s->t E σ H Q->
  wpAny (model X.prog X.w) X.A (eval ex X.env) (EP X pins σ Q) (λev s'=>∃ (s1:Shared) (H1 H2:Hp) (e:Addr) (cls a0:Value) (B:Heap),zG X pins σ H1 s1/\ev=.ref e/\XL X.prog X.w X.stack H1 H2 s1 s' B e cls a0/\E cls none H2) s
theorem kg {X:Cx} {x:Str} {ps:List Str} {k:Nat} {sp:Sp} {e:Expr} {es:List Expr} {t:TA} {p pos:Pos} (F:vG X.prog X.w X.K X.mg X.base x ps k sp) (hr:zf k X.A) (hg:Gl X x) (ha:PA X.nox (e :: es) t)
  (hdb:(x == ("__debug__" : Str))=false:=by decide) (he:starEach (e :: es) X.env=(false,eval e X.env) :: starEach es X.env:=by rfl) (hpl:(backTo pos (starEach es X.env)).any (·.1)=false:=by rfl) :
  Wl X (.Call (.Name x p) (e :: es) [] pos) (λE=>u5 sp [] E t):=by
 intro pins s σ H Q E I h
 obtain ⟨f,fd,Fk,hm,hk,hb⟩:=F.ex
 refine wpAny_Call_Name_kw (ur I hg hm ?_ hdb)
 refine PySem.W.callWith_K (h₀:=X.base) I.ok.mod.kin hk (wpAny_mono (ha pos pins s σ H _ (I.wish _) h) (λus s1 ⟨vs,H1,I1,r,q⟩=>⟨I1.unwish.kIn,?_⟩) λ_ _ z=>False.elim z) he hpl
 have I1':=I1.unwish
 have r2:zO (vs++[]) (us++[]):=r.append .nil
 have hl:(us++[]).length=ps.length:=by rw [<- r2.length]; exact Fk.len _ _ _ _ q
 refine wpAny_call (codeAny_mono (Fk.run X.A X.stack s1 H1 ⟨us,[]⟩ (us++[]) (vs++[]) Q E hr I1'.env0 (hb s1 us I1'.kIn hl) r2 q) λr s' hq=>?_)
 cases r with
 | error ev=>
  obtain ⟨ee,cls,a0,B,H2,rfl,x,qE⟩:=hq
  exact ⟨s1,H1,H2,ee,cls,a0,B,I1',rfl,x,qE⟩
 | ok fl=>
  cases fl with
  | ret u=>exact I1'.after hq
  | next=>exact False.elim hq
  | brk=>exact False.elim hq
  | cont=>exact False.elim hq
end L2
namespace L2
open PySem PySem.Spec PyProof.Rows
noncomputable def XP (X:Cx) (pins:List (Addr × Obj)) (ES:St->XK) (ev:Value) (s':Shared):Prop:=
 ∃ (σ1:St) (s1:Shared) (H1 H2:Hp) (e:Addr) (cls a0:Value) (B:Heap),zG X pins σ1 H1 s1/\ev=.ref e/\XL X.prog X.w X.stack H1 H2 s1 s' B e cls a0/\ES σ1 cls none H2
noncomputable abbrev TX:=(St->XK)->TS
noncomputable def YV (X:Cx) (st:Stmt) (t:TX):Prop:=∀ (pins:List (Addr × Obj)) (s:Shared) (σ:St) (H:Hp) (D:xU) (ES:St->XK),zG X pins σ H s->t ES D σ H->wpAny (model X.prog X.w) X.A (exec st X.env) (SP X pins D) (XP X pins ES) s
noncomputable def wx (X:Cx) (ss:List Stmt) (t:TX):Prop:=∀ (pins:List (Addr × Obj)) (s:Shared) (σ:St) (H:Hp) (D:xU) (ES:St->XK),zG X pins σ H s->t ES D σ H->wpAny (model X.prog X.w) X.A (execs ss X.env) (SP X pins D) (XP X pins ES) s
section
variable {X:Cx} {call:Expr} {tb:XK->TE} {pos pos':Pos}
theorem kh (hb:Wl X call tb) (hs:swapsWith call none pos.line X.env=pure false:=by rfl):YV X (.Expr call pos) (λES D σ H=>tb (ES σ) σ H λ_ H1=>D.nx σ H1):=by
 intro pins s σ H D ES I h
 refine wpAny_Expr_any (wpAny_mono (hb pins s σ H _ _ I h) (λv s1 ⟨y,H1,I1,r1,q1⟩=>⟨σ,H1,I1,q1⟩) λev s1 ⟨s0,H1,H2,e,cls,a0,B,I0,e1,xl,q⟩=>⟨σ,s0,H1,H2,e,cls,a0,B,I0,e1,xl,q⟩) I.quiet hs
theorem jQ:wx X [] (λ_ D σ H=>D.nx σ H):=λ_ _ σ H _ _ I h=>wpAny_execs_nil ⟨σ,H,I,h⟩
theorem jR {st:Stmt} {ss:List Stmt} {t u:TX} (h1:YV X st t) (h2:wx X ss u):wx X (st :: ss) (λES D σ H=>t ES { D with nx:=u ES D } σ H):=by
 intro pins s σ H D ES I h
 refine wpAny_execs_cons (wpAny_mono (h1 pins s σ H _ ES I h) (λf s1 q=>?_) λ_ _ z=>z)
 cases f with
 | next=>obtain ⟨σ',H',I',q'⟩:=q; exact h2 pins s1 σ' H' D ES I' q'
 | brk=>exact q
 | cont=>exact q
 | ret u=>exact q
theorem YW {c:Expr} {a b:List Stmt} {tc:TT} {t u:TX} (hc:PT X.nox c tc) (ha:wx X a t) (hb:wx X b u):YV X (.If c a b pos) (λES D σ H=>tc σ H λk H1=>if k=true then t ES D σ H1 else u ES D σ H1):=by
 intro pins s σ H D ES I h
 refine wpAny_If (wpAny_mono (hc pins s σ H _ (I.wish _) h) (λd s1 ⟨H1,I1,q1⟩=>?_) λ_ _ z=>z.elim)
 cases d with
 | true=>exact ha pins s1 σ H1 D ES I1.unwish q1
 | false=>exact hb pins s1 σ H1 D ES I1.unwish q1
end
theorem zG.gone {X:Cx} {pins:List (Addr × Obj)} {σ8:St} {H8:Hp} {s8:Shared} {h9:Heap} {i:Nat} {n:Str} {m8:Str->Option Value} {v9:Option Value} {tk:Nat} (I8':zG X pins σ8 H8 s8) (hN:X.N.Nodup) (hi:X.N[i]? = some n)
  (hl8:∀ (i:Nat) (x:Str) (v:V),X.N[i]? = some x->σ8[i]? = some (some v)->uq X.env.scope x->∃ u,zV v u/\qL X.env s8.heap m8 x u)
  (hn9:h9.Ns X.env.locals (λy=>if y=n then v9 else m8 y)) (keep9:∀ b o,b≠X.env.locals->s8.heap.get? b=some o->h9.get? b=some o):zG X pins (σ8.set i none) H8 { s8 with heap:=h9,toks:=tk }:=by
 have iσ:i < σ8.length:=by rw [I8'.len]; exact (List.getElem?_eq_some_iff.mp hi).1
 refine ⟨I8'.ok,I8'.os,I8'.bare,⟨λb o q n hb hx=>?_,λb o q n hb hx=>?_,I8'.base.free,λb o q hx=>?_,I8'.base.tups,I8'.base.frzs,I8'.base.tbls⟩,⟨_,hn9,λj y v e1 e2 e3=>?_⟩,λy c q=>?_,I8'.free,I8'.freeC,λp hp=>?_,λb u q=>?_,by rw [List.length_set]; exact I8'.len⟩
 ·exact keep9 b o (Nat.ne_of_lt (Nat.lt_of_lt_of_le (Heap.lt_size q) I8'.ok.above)) (I8'.base.keep b o q n hb hx)
 ·obtain ⟨sl,e1⟩:=I8'.base.slot b o q n hb hx
  exact ⟨sl,keep9 b _ (Nat.ne_of_lt (Nat.lt_of_lt_of_le (Heap.lt_size q) I8'.ok.above)) e1⟩
 ·obtain ⟨o',e1⟩:=I8'.base.there b o q hx
  exact ⟨o',keep9 b _ (Nat.ne_of_lt (Nat.lt_of_lt_of_le (Heap.lt_size q) I8'.ok.above)) e1⟩
 ·by_cases hj:j=i
  ·subst hj
   rw [List.getElem?_set_self iσ] at e2
   cases e2
  ·rw [List.getElem?_set_ne (Ne.symm hj)] at e2
   obtain ⟨u,r,l⟩:=hl8 j y v e1 e2 e3
   refine ⟨u,r,?_⟩
   have yn:y≠n:=λz=>hj (ZM hN e1 (z ▸ hi))
   rcases l with ⟨k,l⟩ | ⟨k,c,l1,o,l2,l3⟩
   ·exact .inl ⟨k,(if_neg yn).trans l⟩
   ·exact .inr ⟨k,c,l1,o,keep9 _ _ (I8'.cne y c l1) l2,l3⟩
 ·obtain ⟨v,o,l2,l3⟩:=I8'.cell y c q
  exact ⟨v,o,keep9 _ _ (I8'.cne y c q) l2,l3⟩
 ·obtain ⟨a1,a2,a3,a4,a5⟩:=I8'.pin p hp
  exact ⟨keep9 _ _ a3 a1,a2,a3,a4,a5⟩
 ·refine (I8'.hok b u q).stay (λc v hc r=>keep9 c v (λz=>?_) r) (λ_ r=>r) λ_ _ r=>r
  rcases hc with z1 | z1
  ·rw [<- z1,z,I8'.free] at q
   cases q
  ·rw [z,I8'.free] at z1
   cases z1
end L2
namespace L2
open PySem PySem.Spec PyProof.Rows
structure jS (P:Program) (w:World) (K:PySem.W.Frag) (mg:Str->Option Value) (base:Heap) (C:Addr) (m:Str) (ps:List Str) (k:Nat) (sp:Sp):Prop where
 ex:∃ f fd,zL P w K mg base (yL P w) k f fd ps sp/\uF K C m f/\xN K fd ps []
structure xQ (P:Program) (w:World) (K:PySem.W.Frag) (mg:Str->Option Value) (base:Heap) (C:Addr) (ps:List Str) (k:Nat) (sp:Sp):Prop where
 ex:∃ f fd,zL P w K mg base (yL P w) k f fd ps sp/\Mk K C f/\xN K fd ps []
theorem jS.mono {P:Program} {w:World} {K:PySem.W.Frag} {mg:Str->Option Value} {base:Heap} {C:Addr} {m:Str} {ps:List Str} {j k:Nat} {sp:Sp} (F:jS P w K mg base C m ps j sp) (h:j<=k):jS P w K mg base C m ps k sp:=by
 obtain ⟨f,fd,a,b,c⟩:=F.ex
 exact ⟨f,fd,a.mono h,b,c⟩
theorem xQ.mono {P:Program} {w:World} {K:PySem.W.Frag} {mg:Str->Option Value} {base:Heap} {C:Addr} {ps:List Str} {j k:Nat} {sp:Sp} (F:xQ P w K mg base C ps j sp) (h:j<=k:=by decide):xQ P w K mg base C ps k sp:=by
 obtain ⟨f,fd,a,b,c⟩:=F.ex
 exact ⟨f,fd,a.mono h,b,c⟩
section
variable {X:Cx} {C:Addr} {m x:Str} {ps:List Str} {k:Nat} {sp:Sp} {o e:Expr} {es:List Expr} {ta:TE} {t:TA} {p pos apos:Pos}
end
section
variable {P:Program} {w:World} {K:PySem.W.Frag} {mg:Str->Option Value} {base:Heap} {N:List Str} {qual:Str} {scope:Scope} {f:Addr} {cd:Value} {A:Around} {outer:List Env} {s:Shared} {H:Hp} {E:XK}
variable {C:Addr} {m x:Str} {ps:List Str} {k:Nat} {sp:Sp} {o e:Expr} {es:List Expr} {ta:TE} {t:TA} {p pos apos:Pos}
theorem Wm (F:vG P w K mg base x ps k sp) (hr:zf k (zM (yL P w) P w K mg base N qual scope f cd A outer s H E).A) (hg:Gl (zM (yL P w) P w K mg base N qual scope f cd A outer s H E) x) (ha:PA (zM (yL P w) P w K mg base N qual scope f cd A outer s H E) (e :: es) t)
  (hdb:(x == ("__debug__" : Str))=false:=by decide) (he:starEach (e :: es) (zM (yL P w) P w K mg base N qual scope f cd A outer s H E).env=(false,eval e (zM (yL P w) P w K mg base N qual scope f cd A outer s H E).env) :: starEach es (zM (yL P w) P w K mg base N qual scope f cd A outer s H E).env:=by rfl)
  (hpl:(backTo pos (starEach es (zM (yL P w) P w K mg base N qual scope f cd A outer s H E).env)).any (·.1)=false:=by rfl) :
  PE (zM (yL P w) P w K mg base N qual scope f cd A outer s H E) (.Call (.Name x p) (e :: es) [] pos) (u5 sp [] E t):=by
 obtain ⟨f',fd,a,b,c,d⟩:=F.ex
 exact Zi (X:=zM (yL P w) P w K mg base N qual scope f cd A outer s H E) a hr hg b c d .nil (Wj λ_ _ _ z=>z) ha hdb he hpl
theorem YX (F:xQ P w K mg base C ps k sp) (T:zQ K mg x C) (hr:zf (k + 1) (zM (yL P w) P w K mg base N qual scope f cd A outer s H E).A) (hg:Gl (zM (yL P w) P w K mg base N qual scope f cd A outer s H E) x) (ha:PA (zM (yL P w) P w K mg base N qual scope f cd A outer s H E) (e :: es) t)
  (hdb:(x == ("__debug__" : Str))=false:=by decide) (he:starEach (e :: es) (zM (yL P w) P w K mg base N qual scope f cd A outer s H E).env=(false,eval e (zM (yL P w) P w K mg base N qual scope f cd A outer s H E).env) :: starEach es (zM (yL P w) P w K mg base N qual scope f cd A outer s H E).env:=by rfl)
  (hpl:(backTo pos (starEach es (zM (yL P w) P w K mg base N qual scope f cd A outer s H E).env)).any (·.1)=false:=by rfl) :
  PE (zM (yL P w) P w K mg base N qual scope f cd A outer s H E) (.Call (.Name x p) (e :: es) [] pos) (Zh C sp [] E t):=by
 obtain ⟨f',fd,a,b,c⟩:=F.ex
 exact X1 (X:=zM (yL P w) P w K mg base N qual scope f cd A outer s H E) b a hr hg T.mgC c .nil (Wj λ_ _ _ z=>z) ha hdb he hpl
end
end L2
namespace L2
open PySem PySem.Spec PyProof.Rows
section
variable {P:Program} {w:World} {K:PySem.W.Frag} {mg:Str->Option Value} {base:Heap} {k:Nat} {f C:Addr} {fd:FuncData} {x m:Str} {ps:List Str} {sp:Sp}
end
end L2
namespace L2
open PySem PySem.Spec PyProof.Rows PySem.Builtin PySem.Builtin.ObjectAttr PySem.Builtin.Getset_descriptor
structure xw (K:PySem.W.Frag) (C:Addr):Prop where
 ga:PySem.W.findIn K (.ref C) "__getattribute__" = some (some (.builtin "BaseException.__getattribute__"))
 gt:PySem.W.findIn K (.ref C) "__getattr__" = some none
 ha:PySem.W.findIn K (.ref C) "__class__" = some (some (.builtin "object.__class__"))
 hn:PySem.W.specialIn K (.builtin "object.__class__") "__get__" = some (some (.builtin "getset_descriptor.__get__"))
 tk:PySem.W.takesIn K (.builtin "object.__class__")=some true
 mb:PySem.W.mroIn K C (.type "BaseException")=some true
 mo:PySem.W.mroIn K C (.type "object")=some true
section
variable {prog:Program} {w:World} {A:Around} {E:Value->Shared->Prop} {K:PySem.W.Frag} {s:Shared} {e C:Addr} {oe:Obj}
theorem QS {tp:Value} {R:Result->Shared->Prop} (X:K.In s.heap) (he:s.heap.get? e=some oe) (hc:oe.cls=.ref C) (Z:xw K C)
  (h:R (.ok (.ret (.ref C))) s):codeAny (model prog w) A (.call (.builtin "getset_descriptor.__get__") ⟨[.builtin "object.__class__",.ref e,tp],[]⟩) R s:=by
 obtain ⟨hh,g,dr,t,os⟩:=s
 have L0:PySem.W.Looks (model prog w) hh (typeOf (.ref e)) (.ref C):=hc ▸ (PySem.W.Looks.ld he).andThen .now
 have L1:=PySem.W.looks_mroIn (M:=model prog w) X Z.mo
 refine codeAny_call_builtin PySem.W.KF.slot_gs.plain PySem.W.KF.entry_gs (PySem.W.KF.slot_gs.check _ _ _ _ _ _ _ _ PySem.W.KF.type_class (PySem.W.KF.args_gs _ _ _) ?_)
 unfold Builtin.«getset_descriptor.__get__» descrGet
 rw [PySem.W.dga_obj]
 refine wpAny_bind (wpAny_pure ?_)
 unfold descrGetter descrCheckInstance descrNameAndClass isInstance
 simp only [PySem.W.KF.owner_class]
 repeat lk
 refine ⟨Code.quiet_builtin _ (by decide +kernel),codeAny_builtin PySem.W.KF.entry_class ?_⟩
 unfold Builtin.«object.__class__» shownTypeOf
 repeat lk
 exact h
theorem QT (X:K.In s.heap) (Z:xw K C):PySem.W.Looks (model prog w) s.heap (find (.ref e) (.ref C) "__class__") (.bind (.builtin "getset_descriptor.__get__") (.builtin "object.__class__")):=by
 have L1:=PySem.W.looks_findIn (M:=model prog w) X Z.ha
 have L2:PySem.W.Looks (model prog w) s.heap (getOf (some (.builtin "object.__class__"))) (some (.builtin "getset_descriptor.__get__")):=PySem.W.looks_specialIn X Z.hn
 have L3:=PySem.W.looks_takesIn (M:=model prog w) X Z.tk
 exact L1.andThen (L2.andThen ((show PySem.W.Looks (model prog w) s.heap (dataDescriptor? (some (.builtin "object.__class__")) (some (.builtin "getset_descriptor.__get__"))) (some (.builtin "getset_descriptor.__get__",.builtin "object.__class__")) from L3.andThen .now).andThen (PySem.W.Looks.tag .now)))
theorem QU {tk:Tok} {Q:Fin->Shared->Prop} (X:K.In s.heap) (he:s.heap.get? e=some oe) (hc:oe.cls=.ref C) (Z:xw K C) (hq:Q (.done (.ret (.ref C))) s) :
  wpAny (model prog w) A (Builtin.«object.__getattribute__» ⟨[.ref e,.str "__class__" tk],[]⟩) Q E s:=by
 obtain ⟨hh,g,dr,t,os⟩:=s
 have L0:PySem.W.Looks (model prog w) hh (typeOf (.ref e)) (.ref C):=hc ▸ (PySem.W.Looks.ld he).andThen .now
 have L1:=QT (prog:=prog) (w:=w) (s:=⟨hh,g,dr,t,os⟩) (e:=e) X Z
 unfold Builtin.«object.__getattribute__»
 refine wpAny_bind (wpAny_pure ?_)
 refine wpAny_bind (wpAny_pure ?_)
 refine wpAny_bind (L0.at (wpAny_bind (L1.at ?_)))
 show wpAny _ _ (holding [Value.builtin "object.__class__"] (call (.builtin "getset_descriptor.__get__") [.builtin "object.__class__",.ref e,.ref C]) >>= ret) _ _ _
 exact wpAny_bind (wpAny_holding (wpAny_call (QS (s:=⟨hh,g,dr,t,os⟩) X he hc Z (wpAny_pure hq))))
theorem QV {M:Model} {nameV:Value} {Q:Unit->Shared->Prop} (X:K.In s.heap) (he:s.heap.get? e=some oe) (hc:oe.cls=.ref C) (Z:xw K C) (hq:Q () s):wpAny M A (checkBuiltinCall "BaseException.__getattribute__" ⟨[.ref e,nameV],[]⟩) Q E s:=by
 obtain ⟨hh,g,dr,t,os⟩:=s
 have L0:PySem.W.Looks M hh (typeOf (.ref e)) (.ref C):=hc ▸ (PySem.W.Looks.ld he).andThen .now
 have L1:=PySem.W.looks_mroIn (M:=M) X Z.mb
 have hk:builtinKind "BaseException.__getattribute__" = some .slot:=by decide +kernel
 have hsplit:splitId "BaseException.__getattribute__" = some ("BaseException","__getattribute__"):=by decide +kernel
 have ha:=F.args_bexc_ga (.ref e) nameV
 simp only [checkBuiltinCall,hk,hsplit]
 unfold isInstance
 repeat lk
 exact hq
theorem QW {tk:Tok} {R:Result->Shared->Prop} (X:K.In s.heap) (he:s.heap.get? e=some oe) (hc:oe.cls=.ref C) (Z:xw K C) (hq:R (.ok (.ret (.ref C))) s) :
  codeAny (model prog w) A (.call (.builtin "BaseException.__getattribute__") ⟨[.ref e,.str "__class__" tk],[]⟩) R s:=
 codeAny_call_builtin (by decide +kernel) F.entry_bexc_ga (QV X he hc Z (QU X he hc Z hq))
theorem QX {Q:Option Value->Shared->Prop} (X:K.In s.heap) (he:s.heap.get? e=some oe) (hc:oe.cls=.ref C) (Z:xw K C) (hq:Q (some (.ref C)) { s with toks:=s.toks + 1 }) :
  wpAny (model prog w) A (getAttr? (.ref e) "__class__") Q E s:=by
 obtain ⟨hh,g,dr,t,os⟩:=s
 have L0:PySem.W.Looks (model prog w) hh (typeOf (.ref e)) (.ref C):=hc ▸ (PySem.W.Looks.ld he).andThen .now
 have L1:=PySem.W.looks_findIn (M:=model prog w) X Z.ga
 have L2:=PySem.W.looks_findIn (M:=model prog w) X Z.gt
 have hx2:(Value.builtin "BaseException.__getattribute__" == Value.builtin "object.__getattribute__")=false:=by decide +kernel
 have f3:bindSpecial (.builtin "BaseException.__getattribute__") (.ref e)=pure (.builtin "BaseException.__getattribute__",[.ref e]):=by
  have hop:withoutEnding? "BaseException.__getattribute__" "#opaque" = none:=by decide +kernel
  have hdat:withoutEnding? "BaseException.__getattribute__" "#data" = none:=by decide +kernel
  have hk:builtinKind "BaseException.__getattribute__" = some .slot:=by decide +kernel
  simp only [bindSpecial,typeOf,builtinType,hop,hdat,hk]
  rfl
 unfold getAttr? getAttrBy? getAttrBy
 refine wpAny_bind (wpAny_mkText (wpAny_bind (wpAny_attempt (wpAny_holding (wpAny_bind (L0.at (wpAny_bind (L1.at ?_))))))))
 dsimp only
 rw [hx2,Bool.and_false,if_neg Bool.false_ne_true]
 unfold getAttrByItsOwn hookBefore
 refine wpAny_bind ?_
 rw [if_pos (show onTheHeap (Value.ref C)=true from rfl)]
 refine L2.at ?_
 unfold callGetattribute
 rw [Bool.false_and,if_neg Bool.false_ne_true]
 unfold boundAndCalled
 rw [f3]
 refine wpAny_bind (wpAny_attempt (wpAny_holding (wpAny_bind (wpAny_pure ?_))))
 exact wpAny_call (QW (s:=⟨hh,g,dr,t + 1,os⟩) X he hc Z (wpAny_pure (wpAny_pure hq)))
theorem QY (Z:xw K C):PySem.W.KitX K (.ref e) (.ref C) (λh=>∃ oe,h.get? e=some oe/\oe.cls=.ref C) where
 ty:=λ_ _ _ ⟨_,he,hc⟩=>hc ▸ (PySem.W.Looks.ld he).andThen .now
 it:=λ_ _ X _=>by
  obtain ⟨cd,hcD,_⟩:=Option.bind_eq_some_iff.mp Z.mo
  unfold PySem.W.clsIn at hcD
  split at hcD
  ·rename_i c' d' cd' sl' ho
   intro A' Q' E' s' k q
   unfold isType loadHead
   exact wpAny_bind (wpAny_loadPart (k _ _ (X _ _ ho)) (wpAny_pure q))
  ·cases hcD
 ne:=λh tp dd its n sl X htp=>by
  obtain ⟨cd,hcD,_⟩:=Option.bind_eq_some_iff.mp Z.mo
  refine Bool.eq_false_iff.mpr λq=>?_
  have e:C=tp:=Value.ref.inj (beq_iff_eq.mp q)
  subst e
  unfold PySem.W.clsIn at hcD
  split at hcD
  ·rename_i c' d' cd' sl' ho
   have z:=(X _ _ ho).symm.trans htp
   cases z
  ·cases hcD
 ca:=λX ⟨_,he,hc⟩ k=>QX X he hc Z k
end
section
variable {X:Cx}
noncomputable def vV (K:PySem.W.Frag):List V->Hp->VK->Prop:=λxs H Q=>∃ e C c b,xs=[.ref e,.ref c]/\H e=some (yV e C)/\xw K C/\PySem.W.kitOne K (.ref C) (.ref c)=some b/\Q (.bl b) H
theorem vt:yW X (.builtin "isinstance") (vV X.K):=by
 intro pins s σ H xs us Q I r h
 obtain ⟨e,C,c,b,rfl,he,Z,kx,q⟩:=h
 obtain ⟨u,v,rfl,ru,rv⟩:=qa r
 cases (show v=Value.ref c from rv)
 cases (show u=Value.ref e from ru)
 obtain ⟨⟨oe,vs,h1,h2,_⟩,_⟩:=(show yw X.prog X.w H s.heap e (yV e C) from I.hok e _ he)
 exact PySem.W.kia_one (QY Z) I.kIn ⟨oe,h1,h2⟩ kx (λz=>nomatch z) λtk=>⟨.bl b,H,I.tok tk,rfl,q⟩
theorem Wn:∀ {bs:List Bool} {its:List Value},zO (bs.map V.bl) its->its=bs.map Value.bool
 | [],_,.nil=>rfl
 | _ :: _,_,.cons r t=>by rw [List.map_cons,Wn t,show _=Value.bool _ from r]
end
end L2
namespace Sh
open PySem L2
inductive AK where
 | int (i:Int)
 | bool (b:Bool)
 | non
 | str (x:Str)
 | dic
 | lst (as:List AK)
 | tup (as:List AK)
 | mode (r n s p a d:AK)
noncomputable def gQ (r n s p a d:V):List (Str × V):=[("rows",r),("nexts",n),("steer",s),("push",p),("add",a),("divisor",d)]
inductive AV (C:Addr) (H:Hp):V->AK->Prop where
 | int (i:Int):AV C H (.int i) (.int i)
 | bool (b:Bool):AV C H (.bl b) (.bool b)
 | non:AV C H .non .non
 | str (x:Str):AV C H (.str x) (.str x)
 | dic {a:Addr} {kvs:List (yJ × V)} (e:H a=some (.dK kvs)):AV C H (.ref a) .dic
 | lst {a:Addr} {xs:List V} {as:List AK} (e:H a=some (.lst xs)) (h:Paired (AV C H) xs as):AV C H (.ref a) (.lst as)
 | tup {a:Addr} {xs:List V} {as:List AK} (e:H a=some (.tup xs)) (h:Paired (AV C H) xs as):AV C H (.ref a) (.tup as)
 | mode {o dx:Addr} {r n s p a d:V} {R N S P A D:AK} (e:H o=some (.ins C dx (gQ r n s p a d))) (hr:AV C H r R) (hn:AV C H n N) (hs:AV C H s S) (hp:AV C H p P) (ha:AV C H a A) (hd:AV C H d D):AV C H (.ref o) (.mode R N S P A D)
theorem AV.same {C:Addr} {H H':Hp} (s:zC H H'):∀ {v:V} {a:AK},AV C H v a->AV C H' v a
 | _,_,.int i=>.int i
 | _,_,.bool b=>.bool b
 | _,_,.non=>.non
 | _,_,.str x=>.str x
 | _,_,.dic e=>.dic (s _ _ e)
 | _,_,.lst e h=>.lst (s _ _ e) (go s h)
 | _,_,.tup e h=>.tup (s _ _ e) (go s h)
 | _,_,.mode e h1 h2 h3 h4 h5 h6=>.mode (s _ _ e) (AV.same s h1) (AV.same s h2) (AV.same s h3) (AV.same s h4) (AV.same s h5) (AV.same s h6)
where
 go {C:Addr} {H H':Hp} (s:zC H H'):∀ {xs:List V} {as:List AK},Paired (AV C H) xs as->Paired (AV C H') xs as
  | _,_,.nil=>.nil
  | _,_,.cons h t=>.cons (AV.same s h) (go s t)
theorem j4 {C:Addr} {H H':Hp} (s:zC H H') {xs:List V} {as:List AK} (h:Paired (AV C H) xs as):Paired (AV C H') xs as:=AV.same.go s h
noncomputable def AK.isInt:AK->Bool
 | .int _=>true
 | .bool _=>true
 | _=>false
noncomputable def AK.isBool:AK->Bool
 | .bool _=>true
 | _=>false
noncomputable def AK.isLst:AK->Bool
 | .lst _=>true
 | _=>false
noncomputable def AK.isTup:AK->Bool
 | .tup _=>true
 | _=>false
noncomputable def AK.isMode:AK->Bool
 | .mode ..=>true
 | _=>false
structure gR (K:PySem.W.Frag) (C:Addr):Prop where
 mi:PySem.W.kitOne K (.ref C) (.type "int")=some false
 mb:PySem.W.kitOne K (.ref C) (.type "bool")=some false
 ml:PySem.W.kitOne K (.ref C) (.type "list")=some false
 mt:PySem.W.kitOne K (.ref C) (.type "tuple")=some false
 k1:PySem.W.kitOne K (.type "int") (.ref C)=some false
 k2:PySem.W.kitOne K (.type "bool") (.ref C)=some false
 k3:PySem.W.kitOne K (.type "NoneType") (.ref C)=some false
 k4:PySem.W.kitOne K (.type "str") (.ref C)=some false
 k5:PySem.W.kitOne K (.type "list") (.ref C)=some false
 k6:PySem.W.kitOne K (.type "tuple") (.ref C)=some false
 k7:PySem.W.kitOne K (.type "dict") (.ref C)=some false
structure QZ (K:PySem.W.Frag) (C:Addr) (H:Hp) (v:V) (a:AK) (t:Value):Prop where
 ty:yU K H v t
 i:PySem.W.kitOne K t (.type "int")=some a.isInt
 b:PySem.W.kitOne K t (.type "bool")=some a.isBool
 l:PySem.W.kitOne K t (.type "list")=some a.isLst
 u:PySem.W.kitOne K t (.type "tuple")=some a.isTup
 m:PySem.W.kitOne K t (.ref C)=some a.isMode
theorem AV.ask {K:PySem.W.Frag} {mg:Str->Option Value} {x:Str} {C:Addr} (T:zQ K mg x C) (Y:gR K C) {H:Hp} {v:V} {a:AK} (h:AV C H v a):∃ t,QZ K C H v a t:=by
 cases h with
 | int i=>exact ⟨_,.int i,jD K .int,jE K .int,jG K .int,jF K .int,Y.k1⟩
 | bool b=>exact ⟨_,.bl b,jD K .bool,jE K .bool,jG K .bool,jF K .bool,Y.k2⟩
 | non=>exact ⟨_,.non,jD K .non,jE K .non,jG K .non,jF K .non,Y.k3⟩
 | str x=>exact ⟨_,.str x,jD K .str,jE K .str,jG K .str,jF K .str,Y.k4⟩
 | lst e _=>exact ⟨_,.lst e,jD K .lst,jE K .lst,jG K .lst,jF K .lst,Y.k5⟩
 | tup e _=>exact ⟨_,.tup e,jD K .tup,jE K .tup,jG K .tup,jF K .tup,Y.k6⟩
 | dic e=>exact ⟨_,.dK e,jD K .dic,jE K .dic,jG K .dic,jF K .dic,Y.k7⟩
 | mode e _ _ _ _ _ _=>exact ⟨_,T.ty e,Y.mi,Y.mb,Y.ml,Y.mt,vp⟩
theorem AV.lst_inv {C:Addr} {H:Hp} {v:V} {a:AK} (h:AV C H v a) (e:a.isLst=true):∃ p xs as,v=.ref p/\a=.lst as/\H p=some (.lst xs)/\Paired (AV C H) xs as:=by
 cases h with
 | lst e0 h=>exact ⟨_,_,_,rfl,rfl,e0,h⟩
 | _=>cases e
theorem AV.tup_inv {C:Addr} {H:Hp} {v:V} {a:AK} (h:AV C H v a) (e:a.isTup=true):∃ p xs as,v=.ref p/\a=.tup as/\H p=some (.tup xs)/\Paired (AV C H) xs as:=by
 cases h with
 | tup e0 h=>exact ⟨_,_,_,rfl,rfl,e0,h⟩
 | _=>cases e
noncomputable def yP (a:AK):Bool:=a.isInt && !a.isBool
noncomputable def wc (n:Int):AK->Bool
 | .lst as=>decide ((as.length:Int)=n) && as.all yP
 | _=>false
noncomputable def xJ (n:Int):AK->Bool
 | .tup as=>decide ((as.length:Int)=n + 1) && as.all yP
 | _=>false
noncomputable def Qa:AK->AK->Bool
 | .int a,.int b=>decide (a<=b)
 | _,_=>false
noncomputable def xx:AK->Bool
 | .int d=>decide (1<=d)
 | _=>false
inductive vW where
 | made | bad | many
noncomputable def vW.str:vW->Str
 | .made=>"made"
 | .bad=>"bad"
 | .many=>"many"
inductive FA:Nat->AK->Prop
 | int {k:Nat} (i:Int):FA (k + 1) (.int i)
 | bool {k:Nat} (b:Bool):FA (k + 1) (.bool b)
 | non {k:Nat}:FA (k + 1) .non
 | str {k:Nat} (x:Str):FA (k + 1) (.str x)
 | dic {k:Nat}:FA (k + 1) .dic
 | lst {k:Nat} {as:List AK} (l:as.length<=900) (h:∀ a∈as,FA k a):FA (k + 1) (.lst as)
 | tup {k:Nat} {as:List AK} (l:as.length<=900) (h:∀ a∈as,FA k a):FA (k + 1) (.tup as)
 | mode {k:Nat} {r n s p a d:AK} (hr:FA k r) (hn:FA k n) (hs:FA k s) (hp:FA k p) (ha:FA k a) (hd:FA k d):FA (k + 1) (.mode r n s p a d)
theorem FA.mono {j:Nat} {a:AK} (h:FA j a):∀ {k:Nat},j<=k->FA k a:=by
 induction h with
 | lst l _ ih=>
  intro k hk
  obtain ⟨m,rfl⟩:∃ m,k=m + 1:=⟨k - 1,by omega⟩
  exact .lst l λa ha=>ih a ha (by omega)
 | tup l _ ih=>
  intro k hk
  obtain ⟨m,rfl⟩:∃ m,k=m + 1:=⟨k - 1,by omega⟩
  exact .tup l λa ha=>ih a ha (by omega)
 | mode _ _ _ _ _ _ i1 i2 i3 i4 i5 i6=>
  intro k hk
  obtain ⟨m,rfl⟩:∃ m,k=m + 1:=⟨k - 1,by omega⟩
  exact .mode (i1 (by omega)) (i2 (by omega)) (i3 (by omega)) (i4 (by omega)) (i5 (by omega)) (i6 (by omega))
 | int i=>intro k hk; obtain ⟨m,rfl⟩:∃ m,k=m + 1:=⟨k - 1,by omega⟩; exact .int i
 | bool i=>intro k hk; obtain ⟨m,rfl⟩:∃ m,k=m + 1:=⟨k - 1,by omega⟩; exact .bool i
 | non=>intro k hk; obtain ⟨m,rfl⟩:∃ m,k=m + 1:=⟨k - 1,by omega⟩; exact .non
 | str i=>intro k hk; obtain ⟨m,rfl⟩:∃ m,k=m + 1:=⟨k - 1,by omega⟩; exact .str i
 | dic=>intro k hk; obtain ⟨m,rfl⟩:∃ m,k=m + 1:=⟨k - 1,by omega⟩; exact .dic
theorem FA.lst_inv {k:Nat} {as:List AK} (h:FA k (.lst as)):as.length<=900/\∀ a∈as,FA k a:=by
 cases h with
 | lst l h=>exact ⟨l,λa ha=>(h a ha).mono (by omega)⟩
theorem FA.tup_inv {k:Nat} {as:List AK} (h:FA k (.tup as)):as.length<=900/\∀ a∈as,FA k a:=by
 cases h with
 | tup l h=>exact ⟨l,λa ha=>(h a ha).mono (by omega)⟩
noncomputable def jT (C:Addr):Sp:=λvs H Q _=>∃ (v:V) (a:AK),vs=[v]/\AV C H v a/\Q (.bl (yP a)) H
noncomputable def YY (C:Addr):Sp:=λvs H Q _=>∃ (v:V) (a:AK) (n:Int) (k:Nat),vs=[v,.int n]/\AV C H v a/\FA k a/\∀ H',zC H H'->Q (.bl (wc n a)) H'
noncomputable def YZ (C:Addr):Sp:=λvs H Q _=>∃ (v:V) (a:AK) (n:Int) (k:Nat),vs=[v,.int n]/\AV C H v a/\FA k a/\∀ H',zC H H'->Q (.bl (xJ n a)) H'
end Sh
namespace HT
open PySem PySem.Spec PyProof.Rows
section
variable {prog:Program} {w:World} {A:Around} {E:Value->Shared->Prop} {s:Shared}
theorem cat_tup0 {t b:Addr} {vs ws:List Value} {Q:Value->Shared->Prop} (ht:IsTup s.heap t vs.toArray) (hb:IsTup s.heap b ws.toArray) (hv:vs=[]) (h0:Q (.ref b) s):wpAny (model prog w) A (binaryOp .Add (.ref t) (.ref b)) Q E s:=by
 obtain ⟨⟨cls,dd,data,sl⟩,ho,hc,n,hd⟩:=id ht
 obtain ⟨⟨cls2,dd2,data2,sl2⟩,ho2,hc2,n2,hd2⟩:=id hb
 simp only at hc hd hc2 hd2
 subst hc hd hc2 hd2
 exact concat_meets ⟨_,ho,rfl⟩ ⟨_,ho2,rfl⟩ noFill_tuple_add seq_tuple_add PySem.F.slot_tuple_add PySem.F.entry_tuple_add (PySem.F.args_tuple_add_2 _ _)
  (tuple_addW0 t b vs.toArray ws.toArray n n2 dd dd2 sl sl2 (by simp [hv])) ⟨ho,ho2,h0⟩
theorem getItem_tuple_all {t sl:Addr} {items:Array Value} {vl vu:Value} {lo hi:Option Int} {Q:Value->Shared->Prop} (ht:IsTup s.heap t items) (hs:s.heap.IsSliceOf sl vl vu .none) (pl:IsPart vl lo) (pu:IsPart vu hi)
  (hw:sIx items.size 0 lo=0/\sIx items.size items.size hi=items.size) (h:Q (.ref t) s):wpAny (model prog w) A (getItem (.ref t) (.ref sl)) Q E s:=by
 obtain ⟨os,hos,hcs,hds⟩:=id hs
 have hTs:s.TypeIs (.ref sl) "slice":=⟨os,hos,hcs⟩
 unfold getItem
 try with_reducible refine wpAny_holding ?_
 first | refine wpAny_bind (wpAny_pure ?_) | skip
 refine wpAny_bind (wpAny_sequenceKey ht.typeIs (by decide) ?_)
 refine wpAny_bind (wpAny_callSpecial?_slot (name:=Str.ofString "__getitem__") ht.typeIs PyProof.Rows.slot_tuple_getitem
  (wpAny_call_entry PyProof.Rows.slot_tuple_getitem ht.typeIs entry_tuple_getitem ?_ (args_tuple_getitem _ _)))
 show wpAny _ _ (Builtin.Tuple.tupleItemsOf (.ref t) >>= _) _ _ s
 refine wpAny_bind (tupleItemsOf_ ht ?_)
 refine wpAny_bind (wpAny_typeOf hTs ?_)
 rw [if_pos (by decide)]
 refine wpAny_bind (X7 hs pl pu ?_)
 have hyes:(((sIx items.size 0 lo:Nat):Int) == 0 && (1:Int) == 1 && (sIx items.size items.size hi - sIx items.size 0 lo) == items.size)=true:=by
  rw [hw.1,hw.2]
  simp
 show wpAny _ _ (if (((sIx items.size 0 lo:Nat):Int) == 0 && (1:Int) == 1 && (sIx items.size items.size hi - sIx items.size 0 lo) == items.size)=true then _ else _) _ _ s
 rw [if_pos hyes]
 unfold Builtin.Tuple.tupleIsExact
 refine wpAny_bind (wpAny_bind (wpAny_typeOf ht.typeIs (wpAny_pure ?_)))
 rw [if_pos (by decide)]
 refine wpAny_bind (wpAny_rule ?_)
 exact wpAny_pure ⟨_,rfl,wpAny_pure h⟩
end
end HT
namespace L2
open PySem PySem.Spec PyProof.Rows
section
variable {X:Cx}
inductive Wo (x y:V) (H:Hp) (Q:VK):Prop
 | mk (a b:Addr) (xs ys:List V) (_:x=.ref a) (_:y=.ref b) (_:H a=some (.tup xs)) (_:H b=some (.tup ys)) (_:xs.length + ys.length<=sizeLine) (_:∀ p H',zC H H'->H' p=some (.tup (xs++ys))->Q (.ref p) H'):Wo x y H Q
theorem Wp:yi X (binaryOp .Add) Wo:=by
 intro pins s σ H x y v u Q I rx ry h
 obtain ⟨a,b,xs,ys,rfl,rfl,ha,hb,hz,q⟩:=h
 by_cases hne:xs=[]
 ·subst hne
  cases rx
  cases ry
  obtain ⟨its,r1,p1,_⟩:=I.tuple (zn.of ha)
  obtain ⟨its2,r2,p2,_⟩:=I.tuple (zn.of hb)
  exact HT.cat_tup0 p1 p2 (r1.nil_iff.mpr rfl) ⟨.ref b,H,I,rfl,q b H (zC.refl _) hb⟩
 ·exact QG pins s σ H _ _ v u Q I rx ry ⟨a,b,xs,ys,rfl,rfl,ha,hb,hne,hz,q⟩
inductive gS (x:V) (lo hi:Option Int) (H:Hp) (Q:VK):Prop
 | mk (a:Addr) (xs:List V) (_:x=.ref a) (_:H a=some (.tup xs)) (_:∀ p H',zC H H'->H' p=some (.tup (yR xs lo hi))->Q (.ref p) H'):gS x lo hi H Q
theorem Wq:u6 X gS:=by
 intro pins s σ H x v vl vu lo hi sl Q I rx hs pl pu h
 obtain ⟨a,xs,rfl,hx,q⟩:=h
 by_cases hw:HT.sIx xs.length 0 lo=0/\HT.sIx xs.length xs.length hi=xs.length
 ·cases rx
  obtain ⟨its,r,ht,hz⟩:=I.tuple (zn.of hx)
  have hlen:its.toArray.size=xs.length:=by rw [List.size_toArray]; exact r.length.symm
  refine ⟨"tuple",_,PyProof.Rows.slot_tuple_getitem.lookup,ht.typeIs,?_⟩
  refine HT.getItem_tuple_all ht hs pl pu (by rw [hlen]; exact hw) ⟨.ref a,H,I,rfl,q a H (zC.refl _) (hx.trans ?_)⟩
  unfold yR
  rw [hw.1,hw.2,List.drop_zero,Nat.sub_zero,List.take_length]
 ·exact X9 pins s σ H _ v vl vu lo hi sl Q I rx hs pl pu ⟨a,xs,rfl,zn.of hx,hw,λp hp=>q p _ (Sh.zK hp _) zH⟩
inductive gU (K:PySem.W.Frag) (x:V) (vs:List V) (H:Hp) (Q:VK):Prop
 | mk (l:Addr) (bs:List Bool) (j:Nat) (_:x=.ref l) (_:vs=[.bl true]) (_:zP K H l (bs.map V.bl)) (_:bs[j]? = some true) (_:∀ m,m < j->bs[m]? = some false) (_:j < 1000) (_:Q (.int (j:Int)) H):gU K x vs H Q
theorem Yb:Zr X "list.index" (gU X.K):=by
 intro pins s σ H x vs v us Q I rx rv h
 obtain ⟨l,bs,j,rfl,rfl,hq,hj,hno,j9,q⟩:=h
 cases (show v=Value.ref l from rx)
 obtain ⟨u,rfl,ru⟩:=rv.one
 cases (show u=Value.bool true from ru)
 obtain ⟨its,rvs,pl,hz⟩:=I.list hq
 obtain rfl:=Wn rvs
 obtain ⟨⟨cls,dd,data,sl⟩,ho,hc,n,hd⟩:=id pl.isList
 simp only at hc hd
 subst hc hd
 have hs:j < (bs.map Value.bool).toArray.size:=by
  rw [List.size_toArray,List.length_map]
  exact (List.getElem?_eq_some_iff.mp hj).1
 refine call_meets F.slot_list_index ⟨_,ho,rfl⟩ F.entry_list_index (F.args_list_index_2 _ _) (SeqAt.list_indexAt l _ n dd sl (.bool true) (λv=>match v with | .bool a=>a == true | _=>false) j hs (by omega) ?_ ?_) ⟨ho,λy hy=>?_,?_⟩
 ·have:=(List.getElem?_eq_some_iff.mp hj).2
  simp [this]
 ·intro m hm hlt
  have:=(List.getElem?_eq_some_iff.mp (hno m hlt)).2
  simp [this]
 ·obtain ⟨a,_,rfl⟩:=List.mem_map.mp (show y∈bs.map Value.bool by simpa using hy)
  exact SeqAt.EqAt.bool_bool a true
 ·exact ⟨.int j,H,I.tok (s.toks + 1),⟨_,rfl⟩,q⟩
end
end L2
namespace Sh
open PySem L2
inductive yZ:Expr->AK->Prop where
 | int {i:Int} {j:Nat} {pos:Pos}:yZ (.Constant (.int i) j pos) (.int i)
 | bool {b:Bool} {j:Nat} {pos:Pos}:yZ (.Constant (.bool b) j pos) (.bool b)
 | non {j:Nat} {pos:Pos}:yZ (.Constant .none j pos) .non
 | str {x:Str} {j:Nat} {pos:Pos}:yZ (.Constant (.str x) j pos) (.str x)
 | tup {es:List Expr} {as:List AK} {j:Nat} {pos:Pos} (h:Paired yZ es as) (l:as.length<=100):yZ (.Tuple es j pos) (.tup as)
 | lst {es:List Expr} {as:List AK} {pos:Pos} (h:Paired yZ es as) (l:as.length<=100):yZ (.List es pos) (.lst as)
noncomputable def tK (C:Addr) (a:AK):TE:=λ_ H Q=>∀ v H',zC H H'->AV C H' v a->Q v H'
noncomputable def Qb (C:Addr) (as:List AK):TA:=λ_ H Q=>∀ vs H',zC H H'->Paired (AV C H') vs as->Q vs H'
section
variable {X:Cx} {C:Addr}
theorem Wr {e:Expr} {a:AK} (h:yZ e a) (es:List Expr):starEach (e :: es) X.env=(false,eval e X.env) :: starEach es X.env:=by
 cases h <;> rfl
theorem Ws:∀ {e:Expr} {a:AK},yZ e a->PE X e (tK C a)
 | _,_,.int=>λpins s σ H Q I h=>zJ pins s σ H Q I (h _ H (zC.refl _) (.int _))
 | _,_,.bool=>λpins s σ H Q I h=>xK pins s σ H Q I (h _ H (zC.refl _) (.bool _))
 | _,_,.non=>λpins s σ H Q I h=>vM pins s σ H Q I (h _ H (zC.refl _) .non)
 | _,_,.str=>λpins s σ H Q I h=>xV pins s σ H Q I (h _ H (zC.refl _) (.str _))
 | _,_,.tup hs l=>λpins s σ H Q I h=>wY (go hs) pins s σ H Q I λvs H' sm hv=>⟨Nat.le_of_lt (zy (by have:=Paired.length hv; omega)),λp hp=>h _ _ (sm.trans (zK hp _)) (.tup zH (j4 (zK hp _) hv))⟩
 | _,_,.lst hs l=>λpins s σ H Q I h=>yD (go hs) pins s σ H Q I λvs H' sm hv=>⟨Nat.le_of_lt (zy (by have:=Paired.length hv; omega)),λp hp=>h _ _ (sm.trans (zK hp _)) (.lst zH (j4 (zK hp _) hv))⟩
where
 go:∀ {es:List Expr} {as:List AK},Paired yZ es as->PA X es (Qb C as)
  | _,_,.nil=>λpos pins s σ H Q I h=>zE pos pins s σ H Q I (h [] H (zC.refl _) .nil)
  | _,_,.cons h1 t1=>λpos pins s σ H Q I h=>zA (Ws h1) (go t1) (Wr h1 _) pos pins s σ H Q I λv H1 s1 hv vs H2 s2 hvs=>h _ _ (s1.trans s2) (.cons (hv.same s2) hvs)
theorem Qc {e l:Expr} {a:AK} (q:e=l) (h:yZ e a) (es:List Expr):starEach (l :: es) X.env=(false,eval l X.env) :: starEach es X.env:=by
 subst q
 exact Wr h es
theorem Qd {e l:Expr} {a:AK} (q:e=l) (h:yZ e a):PE X l (tK C a):=by
 subst q
 exact Ws h
end
end Sh
namespace PyProof.Rows
open PySem PySem.Spec
section
variable {prog:Program} {w:World} {A:Around} {E:Value->Shared->Prop} {s:Shared}
theorem Qe:entryFor table "proto.unchain" = some Builtin.«proto.unchain»:=entryFor_of_fast (by kernel_rfl)
theorem Qf {it l e:Addr} {i:Nat} {items:Array Value} {oe:Obj} {vs:Array Value} {Q:Option Value->Shared->Prop} (hh:A.handled=some (.ref e)) (he:s.heap.get? e=some oe) (hv:oe.data=.fields vs) (h2:vs[2]? = some .none) (ne:e≠it)
  (hit:s.heap.IsListIter it l i) (hl:s.heap.IsList l items) (hx:items[i]? = none)
  (hQ:∀ h',Heap.ExtBut it s.heap h'->Q none { s with heap:=h' }):wpAny (model prog w) A (pyNext (.ref it)) Q E s:=by
 obtain ⟨o,ho,hc,hd⟩:=id hit
 obtain ⟨ol,hol,_,nl,hdl⟩:=hl
 unfold pyNext
 refine wpAny_bind (wpAny_attempt (wpAny_callSpecial?_slot (name:=Str.ofString "__next__") hit.typeIs slot_listiter_next
  (wpAny_call_entry slot_listiter_next hit.typeIs entry_listiter_next ?_ (args_listiter_next _))))
 show wpAny _ _ (field (.ref it) 0 >>= _) _ _ s
 refine wpAny_bind (wpAny_field ho hd (x:=.ref l) rfl ?_)
 show wpAny _ _ (if (Value.ref l == Value.none)=true then _ else _) _ _ s
 rw [if_neg (show ¬ ((Value.ref l == Value.none)=true) from Bool.false_ne_true)]
 show wpAny _ _ (field (.ref it) 1 >>= _) _ _ s
 refine wpAny_bind (wpAny_field ho hd (x:=.int i 0) rfl ?_)
 show wpAny _ _ (seqItems? (.ref l) >>= _) _ _ s
 refine wpAny_bind (wpAny_seqItems hol hdl ?_)
 simp only [Int.toNat_natCast,hx]
 refine wpAny_bind (wpAny_rule (wpAny_bind (wpAny_setField ho hd (by simp) ?_)))
 show wpAny _ _ (newExc (.type "StopIteration") [] >>= _) _ _ _
 refine wpAny_bind ?_
 simp only [newExc,newTuple]
 refine wpAny_bind (wpAny_newObj_type ?_ (by size_fits))
 refine wpAny_bind (m:=firstArgMember _ _) (wpAny_of_eq (a:=Value.none) (by first | rfl | (simp only [firstArgMember]; rfl)) ?_)
 refine wpAny_newObj_type ?_ (by size_fits)
 simp only [raiseNew]
 refine wpAny_bind (wpAny_handled ?_)
 rw [show A.in1.handled=some (.ref e) from hh]
 have lt:e < s.heap.objs.size:=Heap.lt_size he
 have he1:(((s.heap.update it (Obj.mapFields λx=>x.setIfInBounds 0 Value.none)).push { cls:=Value.type "tuple",data:=Data.seq #[] }).push { cls:=Value.type "StopIteration",data:=.fields (#[.ref (s.heap.update it (Obj.mapFields λx=>x.setIfInBounds 0 Value.none)).objs.size,.none,.none,.none,.bool false,.none]++ownMembersOf (.type "StopIteration") []) }).get? e=some oe:=by
  exact Heap.get?_push_of_some _ (Heap.get?_push_of_some _ ((Heap.get?_update_ne _ _ _ _ ne).trans he))
 show wpAny _ _ (if (Value.ref e != Value.ref _)=true then _ else _) _ _ _
 rw [if_pos (by
  have nn:Value.ref e≠Value.ref ((s.heap.update it (Obj.mapFields λx=>x.setIfInBounds 0 Value.none)).push { cls:=Value.type "tuple",data:=Data.seq #[] }).objs.size:=λz=>by
   injection z with z
   have l2:=Heap.lt_size ((Heap.get?_update_ne s.heap e it (Obj.mapFields λx=>x.setIfInBounds 0 Value.none) ne).trans he)
   have l3:((s.heap.update it (Obj.mapFields λx=>x.setIfInBounds 0 Value.none)).push { cls:=Value.type "tuple",data:=Data.seq #[] }).objs.size=(s.heap.update it (Obj.mapFields λx=>x.setIfInBounds 0 Value.none)).objs.size + 1:=Array.size_push ..
   exact absurd l2 (by rw [z,l3]; exact Nat.not_lt.mpr (Nat.le_succ _))
  exact bne_iff_ne.mpr nn)]
 refine wpAny_bind (wpAny_holding (wpAny_runValue (codeAny_builtin Qe ?_)))
 unfold Builtin.«proto.unchain»
 show wpAny _ _ (field (.ref e) 2 >>= _) _ _ _
 refine wpAny_bind (wpAny_field he1 hv h2 ?_)
 rw [if_pos (by decide)]
 refine wpAny_bind (wpAny_pure (wpAny_pure ?_))
 show wpAny _ _ (updateField _ 2 (.ref e) >>= λ_=>throw _) _ _ _
 unfold updateField
 refine wpAny_bind (wpAny_bind (wpAny_load (Heap.get?_push_size _ rfl) ?_))
 show wpAny _ _ (if _ then _ else _) _ _ _
 rw [if_pos (by rw [Array.size_append]; show 2 < 6 + _; omega)]
 refine wpAny_update (Heap.get?_push_size _ rfl) (wpAny_throw ?_)
 refine wpAny_bind (wpAny_isInstance (T:="StopIteration") (b:=true) ⟨_,Heap.get?_update_self _ (Heap.get?_push_size _ rfl) rfl,rfl⟩ isSubtype_stop ?_)
 refine wpAny_pure (hQ _ ?_)
 intro b o hb eb
 have e1:=(Heap.get?_update_ne s.heap b it (Obj.mapFields λx=>x.setIfInBounds 0 Value.none) hb).trans eb
 have l1:=Heap.lt_size e1
 refine (Heap.get?_update_ne _ _ _ _ (λz=>?_)).trans (Heap.get?_push_of_some _ (Heap.get?_push_of_some _ e1))
 have l3:((s.heap.update it (Obj.mapFields λx=>x.setIfInBounds 0 Value.none)).push { cls:=Value.type "tuple",data:=Data.seq #[] }).objs.size=(s.heap.update it (Obj.mapFields λx=>x.setIfInBounds 0 Value.none)).objs.size + 1:=Array.size_push ..
 exact absurd l1 (by rw [z,l3]; exact Nat.not_lt.mpr (Nat.le_succ _))
end
end PyProof.Rows
namespace L2
open PySem PySem.Spec PyProof.Rows
structure wd (x:Addr) (k:Nat) (A:Around):Prop where
 hd:A.handled=some (.ref x)
 dp:A.depth + 3 * k + 5 < recursionLimit
 un:A.units + 16 * k + 200 < cLine
theorem wd.deeper {x:Addr} {k:Nat} {A:Around} (r:wd x (k + 1) A) (env:Env):wd x k (A.deeper env):=
 ⟨r.hd,by have:=r.dp; show A.depth + 1 + 3 * k + 5 < _; omega,by have:=r.un; show A.units + 3 + 16 * k + 200 < _; omega⟩
theorem wd.depth {x:Addr} {k:Nat} {A:Around} (r:wd x k A):A.depth < recursionLimit:=by have:=r.dp; omega
theorem wd.units {x:Addr} {k:Nat} {A:Around} (r:wd x k A):A.units + 64 < cLine:=by have:=r.un; omega
theorem wd.mono {x:Addr} {j k:Nat} {A:Around} (r:wd x k A) (h:j<=k):wd x j A:=⟨r.hd,by have:=r.dp; omega,by have:=r.un; omega⟩
structure jU (P:Program) (w:World) (K:PySem.W.Frag) (mg:Str->Option Value) (base:Heap) (CX:xX) (k:Nat) (f:Addr) (fd:FuncData) (ps:List Str) (sp:Addr->Sp):Prop where
 len:∀ x vs H Q E,sp x vs H Q E->vs.length=ps.length
 run:∀ (x:Addr) (A:Around) (outer:List Env) (s:Shared) (H:Hp) (args:Args) (us:List Value) (vs:List V) (Q:VK) (E:XK),wd x k A->xC P w K mg base A outer s H->BindsTo s fd args (ps.zip us)->zO vs us->sp x vs H Q E->
  codeAny (model P w) A (.call (.ref f) args) (CR CX outer P w H s Q E) s
section
variable {X:Cx} {CX:xX} {k:Nat} {f C xe0:Addr} {fd:FuncData} {ps:List Str} {sp:Addr->Sp} {dvs:List V} {ds:List Value} {E:XK} {x m:Str} {p pos apos:Pos} {e o:Expr} {es:List Expr} {ta:TE} {t:TA}
theorem Qg {pins:List (Addr × Obj)} {σ:St} {H:Hp} {s:Shared} {Q:VK} {us:List Value} {vs:List V} (F:jU X.prog X.w X.K X.mg X.base CX k f fd ps sp) (hr:wd xe0 k X.A) (hb:xN X.K fd ps ds) (hd:zO dvs ds) (hx:uH CX X E)
  (I:zG X pins σ H s) (r:zO vs us) (h:sp xe0 (vs++dvs) H Q E):wpAny (model X.prog X.w) X.A (call (.ref f) us) (EP X pins σ Q) X.xe s:=by
 have r2:zO (vs++dvs) (us++ds):=r.append hd
 have hl:(us++ds).length=ps.length:=by rw [<- r2.length]; exact F.len _ _ _ _ _ h
 refine wpAny_call (codeAny_mono (F.run xe0 X.A X.stack s H ⟨us,[]⟩ (us++ds) (vs++dvs) Q E hr I.env0 (hb s us I.kIn hl) r2 h) λr s' hq=>?_)
 cases r with
 | error e=>exact hx pins σ H s e s' I hq
 | ok fl=>
  cases fl with
  | ret u=>exact I.after hq
  | next=>exact False.elim hq
  | brk=>exact False.elim hq
  | cont=>exact False.elim hq
theorem Qh (F:jU X.prog X.w X.K X.mg X.base CX k f fd ps sp) (hr:wd xe0 k X.A) (hg:Gl X x) (hm:X.mg x=some (.ref f)) (hk:PySem.W.keepIn X.K (.ref f)=true) (hb:xN X.K fd ps ds) (hd:zO dvs ds) (hx:uH CX X E)
  (ha:PA X (e :: es) t) (hdb:(x == ("__debug__" : Str))=false:=by decide) (he:starEach (e :: es) X.env=(false,eval e X.env) :: starEach es X.env:=by rfl) (hpl:(backTo pos (starEach es X.env)).any (·.1)=false:=by rfl) :
  PE X (.Call (.Name x p) (e :: es) [] pos) (u5 (sp xe0) dvs E t):=by
 intro pins s σ H Q I h
 refine wpAny_Call_Name_kw (ur I hg hm ?_ hdb)
 refine PySem.W.callWith_K (h₀:=X.base) I.ok.mod.kin hk (zd (ha pos pins s σ H _ I h) λus s1 ⟨vs,H1,I1,r,q⟩=>⟨I1.kIn,?_⟩) he hpl
 exact Qg F hr hb hd hx I1 r q
end
noncomputable def vX (CX:xX) (P:Program) (w:World) (K:PySem.W.Frag) (mg:Str->Option Value) (base:Heap) (N:List Str) (qual:Str) (scope:Scope) (f:Addr) (cd:Value) (A:Around) (outer:List Env) (s:Shared) (H:Hp) (E:XK):Cx where
 prog:=P
 w:=w
 K:=K
 mg:=mg
 base:=base
 A:=A.deeper (envOfC qual scope s.heap.objs.size f cd)
 N:=N
 s₀:=s
 H₀:=H
 env:=envOfC qual scope s.heap.objs.size f cd
 outer:=outer
 stack:=envOfC qual scope s.heap.objs.size f cd :: outer
 ex:=[]
 calm:=false
 fn:=λ_=>true
 pn:=[]
 xe:=λe s'=>wpAny (model P w) (A.deeper (envOfC qual scope s.heap.objs.size f cd)) (leaving (envOfC qual scope s.heap.objs.size f cd) e) (λ_ s''=>CX outer H s E e s'') (λe' s''=>CX outer H s E e' s'') s'
theorem Qi {CX:xX} {P:Program} {w:World} {K:PySem.W.Frag} {mg:Str->Option Value} {base:Heap} {N ps:List Str} {qual:Str} {scope:Scope} {f:Addr} {cd:Value} {A:Around} {outer:List Env} {s s1:Shared} {H:Hp} {E:XK} {us:List Value} {vs:List V}
  (S:zv N ps scope) (e0:xC P w K mg base A outer s H) (hl:vs.length=ps.length) (r:zO vs us)
  (x:InCallC s s.heap.objs.size (bindL (envOfC qual scope s.heap.objs.size f cd).kindOf (ps.zip us) λ_=>none) (cellsFrom (s.heap.objs.size + 1) scope.names []) (bindC (envOfC qual scope s.heap.objs.size f cd).kindOf (ps.zip us) λ_=>none) s1) :
  zG (vX CX P w K mg base N qual scope f cd A outer s H E) [] (xp N vs) H s1:=by
 have hpl:ps.length<=N.length:=by have:=congrArg List.length S.pre; rw [List.length_take] at this; omega
 obtain ⟨h1,tk,rfl,hk⟩:=x.done
 have noA:∀ b:Addr,b∉(vX CX P w K mg base N qual scope f cd A outer s H E).ex:=λb z=>absurd (show b∈([]:List Addr) from z) (by simp)
 refine ⟨⟨e0.mod,S.kind,rfl,rfl,Nat.le_refl _,λy z c h1 h2=>?_,λy hy=>?_,λy c _ h=>?_,(λz=>nomatch z),Around.frames_deeper e0.frames,.inr ⟨rfl,rfl⟩,λb z=>absurd z (noA b),e0.bs,e0.bsz,λb _ _=>noA b,λb z=>absurd z (noA b),e0.funs,e0.frf⟩,
  rfl,e0.bare,Un.kept hk,⟨_,x.toInCall.ns,λi y v h1 h2 h3=>?_⟩,λy c h=>⟨_,x.cell y c h⟩,e0.hok.fresh (Nat.le_refl _),λy c h=>?_,λp hp=>absurd (show p∈([]:List (Addr × Obj)) from hp) (by simp),e0.hok.kept hk,?_⟩
 ·exact name_of_addr x.apart (PySem.mem_of_lookup h1) (PySem.mem_of_lookup h2)
 ·have hy:scope.names.lookup y=some .cell\/scope.names.lookup y=some .free:=hy
  rcases hy with hy | hy
  ·exact kD hy
  ·exact absurd rfl (S.nofree _ (PySem.mem_of_lookup hy))
 ·exact Nat.le_of_lt (x.above y c (PySem.mem_of_lookup h))
 ·have hi:i < vs.length:=by
   unfold xp at h2
   by_cases hi:i < vs.length
   ·exact hi
   ·rw [List.getElem?_append_right (by simpa using hi)] at h2
    rw [List.getElem?_replicate] at h2
    split at h2 <;> cases h2
  have ha:vs[i]? = some v:=by
   unfold xp at h2
   rw [List.getElem?_append_left (by simpa using hi),List.getElem?_map] at h2
   cases e:vs[i]? with
   | none=>rw [e] at h2; cases h2
   | some a=>rw [e] at h2; cases h2; rfl
  obtain ⟨u,hu,rv⟩:=r.get ha
  have hp:ps[i]? = some y:=by
   rw [<- S.pre,List.getElem?_take_of_lt (by omega)]; exact h1
  have ndP:ps.Nodup:=by rw [<- S.pre]; exact S.nd.sublist (List.take_sublist _ _)
  refine ⟨u,rv,?_⟩
  rcases S.par y (List.mem_of_getElem? hp) with k | k
  ·exact .inl ⟨k,Zj ndP hp hu k⟩
  ·obtain ⟨c,e⟩:=kD (n:=s.heap.objs.size + 1) k
   refine .inr ⟨.inl k,c,e,?_⟩
   have q:=x.cell y c e
   rw [Zk ndP hp hu (by show scope.names.lookup y≠_; rw [k]; decide)] at q
   exact q
 ·exact e0.hok.fresh (Nat.le_of_lt (x.above y c (PySem.mem_of_lookup h)))
 ·unfold xp
  show _=N.length
  rw [List.length_append,List.length_map,List.length_replicate]
  omega
theorem Qj {CX:xX} {P:Program} {w:World} {K:PySem.W.Frag} {mg:Str->Option Value} {base:Heap} {k:Nat} {f:Addr} {name qual:Str} {params:Arguments} {body:List Stmt} {scope:Scope} {dV kV doc pm cdv ct oc:Value} {an od:Option Addr}
  {osl:Array (Option Value)} {N ps:List Str} {sp:Addr->Sp} (lk:K.lookup f=some ⟨oc,od,.func (PySem.W.fnOf name qual params body scope dV kV doc pm an cdv ct),osl⟩) (hcd:PySem.W.codeIn K cdv qual=true) (S:zv N ps scope)
  (len:∀ x vs H Q E,sp x vs H Q E->vs.length=ps.length)
  (hbody:∀ (x:Addr) (A:Around) (outer:List Env) (s:Shared) (H:Hp) (vs:List V) (Q:VK) (E:XK),wd x k (A.deeper (envOfC qual scope s.heap.objs.size f cdv))->sp x vs H Q E->
   ∃ t,xz (vX CX P w K mg base N qual scope f cdv A outer s H E) body t/\t { nx:=λ_ H'=>Q .non H',rt:=Q } (xp N vs) H) :
  jU P w K mg base CX (k + 1) f (PySem.W.fnOf name qual params body scope dV kV doc pm an cdv ct) ps sp:=by
 refine ⟨len,λx A outer s H args us vs Q E hr e0 hb r hsp=>?_⟩
 have hl:=len _ _ _ _ _ hsp
 have KX:K.In s.heap:=e0.mod.kin.keeps λb o e=>(e0.bs b o e).1
 have lim:s.heap.NoLimit:=e0.mod.nolimit.keeps λb o e=>(e0.bs b o e).1
 have hkind:∀ y∈ps.zip us,scope.names.lookup y.1=some .local\/(scope.names.lookup y.1=some .cell/\((cellsFrom (s.heap.objs.size + 1) scope.names []).lookup y.1).isSome=true):=λ⟨n,v⟩ hy=>by
  rcases S.par n (List.of_mem_zip hy).1 with q | q
  ·exact .inl q
  ·exact .inr ⟨q,PySem.W.cellsFrom_some _ _ _ (.inl q)⟩
 refine codeAny_call_function hr.depth (KX _ _ lk) rfl S.co S.gen rfl (PySem.W.codeRec_of KX hcd) (hb _ _ _ _ ?_)
 refine wpAny_newFunctionEnv_cells S.kind hkind λenv he s1 y=>?_
 subst he
 refine ⟨lim.keeps y.toInCall.keep,codeAny_func ?_⟩
 obtain ⟨t,ht,hq⟩:=hbody x A outer s H vs Q E (hr.deeper _) hsp
 have I:zG (vX CX P w K mg base N qual scope f cdv A outer s H E) [] (xp N vs) H s1:=Qi S e0 hl r y
 refine wpAny_mono (ht [] s1 (xp N vs) H _ I hq) (λfl s' hs=>?_) λe s' hs=>hs
 have fin:∀ {σ':St} {H':Hp} {v:V} {u:Value},zG (vX CX P w K mg base N qual scope f cdv A outer s H E) [] σ' H' s'->zV v u->Q v H'->CE outer P w H s Q u s':=
  λ{σ' H' v u} J rv q=>⟨v,H',J.os,J.bare,J.base,J.hok,rv,q⟩
 cases fl with
 | ret u=>
  obtain ⟨v,σ',H',J,rv,q⟩:=hs
  exact fin J rv q
 | next=>
  obtain ⟨σ',H',J,q⟩:=hs
  exact fin (v:=V.non) (u:=Value.none) J rfl q
 | brk=>
  obtain ⟨_,_,_,q⟩:=hs
  exact False.elim q
 | cont=>
  obtain ⟨_,_,_,q⟩:=hs
  exact False.elim q
section
variable {P:Program} {w:World} {K:PySem.W.Frag} {mg:Str->Option Value} {base:Heap}
theorem yA.okH {nm qual:Str} {st:Stmt} {f:Addr} {fd:FuncData} {N ps:List Str} {k:Nat} {sp:Addr->Sp} (F:yA K nm qual st f fd) (S:zv N ps (zW st)) (len:∀ x vs H Q E,sp x vs H Q E->vs.length=ps.length)
  (hbody:∀ (x:Addr) (cdv:Value) (A:Around) (outer:List Env) (s:Shared) (H:Hp) (vs:List V) (Q:VK) (E:XK),wd x k (A.deeper (envOfC qual (zW st) s.heap.objs.size f cdv))->sp x vs H Q E->
   ∃ t,xz (vX zj P w K mg base N qual (zW st) f cdv A outer s H E).nox (xD st) t/\t { nx:=λ_ H'=>Q .non H',rt:=Q } (xp N vs) H):jU P w K mg base zj (k + 1) f fd ps sp:=by
 obtain ⟨oc,od,kV,doc,pm,an,cdv,ct,osl,rfl,lk,hcd⟩:=F.ex
 refine Qj lk hcd S len λx A outer s H vs Q E hr hsp=>?_
 obtain ⟨t,h,q⟩:=hbody x cdv A outer s H vs Q E hr hsp
 exact ⟨t,h.nox,q⟩
end
structure j5 (P:Program) (w:World) (K:PySem.W.Frag) (mg:Str->Option Value) (base:Heap) (x:Str) (ps:List Str) (k:Nat) (sp:Addr->Sp):Prop where
 ex:∃ f fd,jU P w K mg base zj k f fd ps sp/\mg x=some (.ref f)/\PySem.W.keepIn K (.ref f)=true/\xN K fd ps []
theorem j5.mono {P:Program} {w:World} {K:PySem.W.Frag} {mg:Str->Option Value} {base:Heap} {x:Str} {ps:List Str} {j k:Nat} {sp:Addr->Sp} (F:j5 P w K mg base x ps j sp) (h:j<=k:=by decide):j5 P w K mg base x ps k sp:=by
 obtain ⟨f,fd,⟨l,r⟩,b,c,d⟩:=F.ex
 exact ⟨f,fd,⟨l,λy A outer s H args us vs Q E hr=>r y A outer s H args us vs Q E (hr.mono h)⟩,b,c,d⟩
theorem Qk {X:Cx} {x:Str} {y:Addr} {ps:List Str} {k:Nat} {sp:Addr->Sp} {e:Expr} {es:List Expr} {t:TA} {p pos:Pos} (F:j5 X.prog X.w X.K X.mg X.base x ps k sp) (hr:zf k X.A) (hg:Gl X x) (ha:PA (X.mark y) (e :: es) t)
  (hdb:(x == ("__debug__" : Str))=false:=by decide) (he:starEach (e :: es) X.env=(false,eval e X.env) :: starEach es X.env:=by rfl) (hpl:(backTo pos (starEach es X.env)).any (·.1)=false:=by rfl) :
  PE (X.mark y) (.Call (.Name x p) (e :: es) [] pos) (u5 (sp y) [] E0 t):=by
 obtain ⟨f,fd,a,b,c,d⟩:=F.ex
 exact Qh (X:=X.mark y) (xe0:=y) a ⟨rfl,hr.dp,hr.un⟩ hg b c d .nil qf ha hdb he hpl
structure Yc (hx:Addr) (P:Program) (w:World) (K:PySem.W.Frag) (tg:Expr) (J:It) (fp:List Addr) (it:Addr) (tn:Nat->Heap->Prop):Prop where
 mem:it∈fp
 obj:∀ i h,tn i h->∀ b∈fp,∃ o,h.get? b=some o/\∀ v,o.data≠.cell v
 keep:∀ i h h',tn i h->(∀ b∈fp,∀ o,h.get? b=some o->h'.get? b=some o)->tn i h'
 item:∀ (X:Cx),X.prog=P->X.w=w->X.K=K->X.A.handled=some (.ref hx)->∀ (i:Nat) (pins:List (Addr × Obj)) (s:Shared) (σ:St) (H:Hp) (E:Value->Shared->Prop),zG X pins σ H s->(∀ b∈fp,zq X pins H b)->tn i s.heap->J.go i H->
  wpAny (model P w) X.A (pyNext (.ref it)) (λr s1=>∃ u,r=some u∧
   wpAny (model P w) X.A (letOwnedTupleGo tg (.ref it) u) (λ_ s2=>∃ x H',zG X pins σ H' s2/\zV x u/\J.yld i H x H'/\tn (i + 1) s2.heap/\∀ b∈fp,H' b=none) E s1) E s
 done:∀ (X:Cx),X.prog=P->X.w=w->X.K=K->X.A.handled=some (.ref hx)->∀ (i:Nat) (pins:List (Addr × Obj)) (s:Shared) (σ:St) (H:Hp) (E:Value->Shared->Prop),zG X pins σ H s->(∀ b∈fp,zq X pins H b)->tn i s.heap->J.stop i H->
  wpAny (model P w) X.A (pyNext (.ref it)) (λr s1=>r=none/\zG X pins σ H s1) E s
 self:∀ (A:Around) (i:Nat) (s:Shared) (Q:Value->Shared->Prop) (E:Value->Shared->Prop),tn i s.heap->Q (.ref it) s->wpAny (model P w) A (pyIter (.ref it)) Q E s
noncomputable def Yd (hx:Addr) (X:Cx) (pins:List (Addr × Obj)) (σ:St) (tg:Expr) (R:It->Hp->Prop) (itv:Value) (s2:Shared):Prop:=
 ∃ (it:Addr) (fp:List Addr) (tn:Nat->Heap->Prop) (J:It) (H':Hp),itv=.ref it/\zG X pins σ H' s2/\Yc hx X.prog X.w X.K tg J fp it tn/\tn 0 s2.heap/\(∀ b∈fp,zq X pins H' b)/\R J H'
noncomputable def Wt (hx:Addr) (X:Cx) (tg iter:Expr) (wi:TI):Prop:=
 ∀ (pins:List (Addr × Obj)) (s:Shared) (σ:St) (H:Hp) (R:It->Hp->Prop),zG X pins σ H s->wi σ H R->
  wpAny (model X.prog X.w) X.A (eval iter X.env) (λv s1=>wpAny (model X.prog X.w) X.A (pyIter v) (Yd hx X pins σ tg R) X.xe s1) X.xe s
noncomputable def jV (K:PySem.W.Frag) (x a:Addr):It:={ uW K a with stop:=λi H=>(uW K a).stop i H/\∃ C,H x=some (yV x C) }
noncomputable def Ql (K:PySem.W.Frag) (xe:Addr) (tl:TE):TI:=λσ H R=>tl σ H λx H1=>∃ a,x=.ref a/\(∃ xs,zP K H1 a xs)/\R (jV K xe a) H1
theorem Qm {hx:Addr} {P:Program} {w:World} {K:PySem.W.Frag} {tg:Expr} (a it:Addr):Yc hx P w K tg (jV K hx a) [it] it (λi h=>h.IsListIter it a i) where
 mem:=by simp
 obj:=λi h st b hb=>by
  have e:b=it:=by simpa using hb
  subst e
  obtain ⟨o,e,c,d⟩:=st
  exact ⟨o,e,λv z=>by rw [d] at z; cases z⟩
 keep:=λi h h' st k=>st.at λo e=>k it (by simp) o e
 item:=by
  intro X hP hw hK hc i pins s σ H E I hf st hg
  subst hP hw hK
  obtain ⟨xs,x,hq,hx⟩:=hg
  obtain ⟨its,rv,p,hz⟩:=I.list hq
  obtain ⟨u,hu,ru⟩:=rv.get hx
  obtain ⟨f0,f1,f2,f3,f4,f5⟩:=hf it (by simp)
  refine wpAny_pyNext_list_item st p.isList (x:=u) (by simpa using hu) λh' st' sb=>?_
  have I1:zG X pins σ H { s with heap:=h' }:=I.turned (t':=s.toks) (λb o hb e=>(sb.2 b hb).trans e) f0 f1 f3 f4 f5
  obtain ⟨o,e,c,d⟩:=id st'
  exact ⟨u,rfl,gx (s:={ s with heap:=h' }) e c d (by decide) ⟨x,H,I1,ru,⟨rfl,λys hy=>by rw [I.list_inj hy hq]; exact hx⟩,st',λb hb=>(hf b hb).1⟩⟩
 done:=by
  intro X hP hw hK hc i pins s σ H E I hf st hg
  subst hP hw hK
  obtain ⟨⟨xs,hq,hx'⟩,C,hC⟩:=hg
  obtain ⟨its,rv,p,hz⟩:=I.list hq
  obtain ⟨f0,f1,f2,f3,f4,f5⟩:=hf it (by simp)
  have hl:=rv.length
  obtain ⟨⟨oe,vs,h1,h2,h3,h4⟩,_⟩:=(show yw X.prog X.w H s.heap hx (yV hx C) from I.hok hx _ hC)
  have ne:hx≠it:=λz=>by rw [z,f0] at hC; cases hC
  exact Qf hc h1 h3 h4 ne st p.isList (by simp; omega) λh' eb=>⟨rfl,I.turned (t':=s.toks) (λb o hb e=>eb b o hb e) f0 f1 f3 f4 f5⟩
 self:=λ_ _ _ _ _ st h=>wpAny_pyIter_listiter st h
section
variable {X:Cx} {tg:Expr}
theorem Qn {hx:Addr} {l:Expr} {tl:TE} (hl:PE X l tl):Wt hx X tg l (Ql X.K hx tl):=by
 intro pins s σ H R I h
 refine zd (hl pins s σ H _ I h) λv s1 ⟨x,H1,I1,r1,q1⟩=>?_
 obtain ⟨a,e,⟨xs,hq⟩,q⟩:=q1
 subst e
 cases r1
 obtain ⟨its,rv,p,hz⟩:=I1.list hq
 refine wpAny_pyIter_list p.isList ?_
 refine ⟨s1.heap.objs.size,[s1.heap.objs.size],_,_,H1,rfl,I1.kept (t':=s1.toks) λb o e=>Heap.get?_push_of_some _ e,Qm a _,⟨_,Heap.get?_push_size _ rfl,rfl,rfl⟩,λb hb=>?_,q⟩
 have e:b=s1.heap.objs.size:=by simpa using hb
 subst e
 exact I1.fpOk (Nat.le_refl _) (I1.hok.fresh (Nat.le_refl _))
end
section
variable {X:Cx} {scope:Scope} {own:List Str} {caps:List (Nat × Str)} {elt tg iter cond:Expr} {wi:TI} {g:TG} {tc:TT} {te:TE} {pos:Pos}
theorem Qo {hx:Addr} {pins:List (Addr × Obj)} {σ:St} {H2:Hp} {s2:Shared} {it:Addr} {fp:List Addr} {tn:Nat->Heap->Prop} {J:It} {W:Nat->Nat->List V->St->Hp->Prop} {m0:Nat} {Q:VK} {E:Value->Shared->Prop} {RR:Value->Addr->Result->Shared->Prop}
  (B:uI X scope own caps) (hc:X.A.handled=some (.ref hx)) (hg:∀ C s₀ H₀ ex,PG (yh X scope (zU own caps) C s₀ H₀ ex) tg g) (ht:∀ C s₀ H₀ ex,PT (yh X scope (zU own caps) C s₀ H₀ ex) cond tc) (he:∀ C s₀ H₀ ex,PE (yh X scope (zU own caps) C s₀ H₀ ex) elt te)
  (I2:zG X pins σ H2 s2) (T:Yc hx X.prog X.w X.K tg J fp it tn) (st2:tn 0 s2.heap) (f2:∀ b∈fp,zq X pins H2 b) (w0:W 0 m0 [] (xr own caps σ) H2)
  (turn:∀ i m ys σ1 H,W i m ys σ1 H->(J.stop i H/\∀ p,H p=none->Q (.ref p) (upd H p (.lst ys)))∨
   (J.go i H/\ys.length < sizeLine/\∃ (N:V->St->Hp->Prop) (N0:St->Hp->Prop),(∀ y σ' H',N y σ' H'->∃ m',m' < m/\W (i + 1) m' (ys++[y]) σ' H')/\(∀ σ' H',N0 σ' H'->∃ m',m' < m/\W (i + 1) m' ys σ' H')∧
    ∀ x H',J.yld i H x H'->g x σ1 H' λσ2 H2=>tc σ2 H2 λb H3=>if b=true then te σ2 H3 λy H4=>N y σ2 H4 else N0 σ2 H3))
  (hRR:∀ D C s6 H6 ys m,s6.heap.Ns C m->s2.heap.objs.size<=C->(∀ h',Heap.SameBut C s6.heap h'->zG X pins σ (upd H6 D (.lst ys)) { s6 with heap:=h' })->upd H6 D (.lst ys) C=none->Q (.ref D) (upd H6 D (.lst ys))->RR (.ref D) C (.ok .next) s6) :
  wpAny (model X.prog X.w) X.A (newList []) (λacc s3=>wpAny (model X.prog X.w) X.A (newFunctionEnv scope X.env.globals (xj scope X.env) [] X.env.qual none .none (some X.env)) (λcenv s4=>
   codeAny (model X.prog X.w) X.A (.compStart (.ListComp elt [⟨tg,iter,[cond],0⟩] scope pos) 0 (.ref it) acc { cenv with scope:=relabel scope X.env }) (RR acc cenv.locals) s4) E s3) E s2:=by
 have hlt:∀ b∈fp,b < s2.heap.objs.size:=λb hb=>by
  obtain ⟨o,ho,_⟩:=T.obj _ _ st2 b hb
  exact Heap.lt_size ho
 refine wpAny_newObj_type (wpAny_newFunctionEnv B.ncell (λy hy=>by simp at hy) (λh4 hns hsb=>?_) B.kind)
 dsimp only at hns hsb |-
 generalize hP:s2.heap.push { cls:=.type "list",dict:=none,data:=.seq ([]:List Value).toArray }=HD at hns hsb |-
 have hCD:HD.objs.size=s2.heap.objs.size + 1:=by rw [<- hP,Heap.size_push]
 have hDC:s2.heap.objs.size≠HD.objs.size:=by omega
 have hle:s2.heap.objs.size<=HD.objs.size:=by omega
 have old:∀ b o,s2.heap.get? b=some o->h4.get? b=some o:=λb o eb=>by
  have hb:=Heap.lt_size eb
  exact hsb.extBut b o (Nat.ne_of_lt (Nat.lt_of_lt_of_le hb hle)) (Heap.get?_push_of_some _ (by rw [<- hP]; exact Heap.get?_push_of_some _ eb))
 have hD4:h4.get? s2.heap.objs.size=some { cls:=.type "list",data:=.seq ([]:List Value).toArray 0 }:=
  hsb.extBut _ _ hDC (Heap.get?_push_of_some _ (by rw [<- hP]; exact Heap.get?_push_size _ rfl))
 have IY:zG (yh X scope (zU own caps) HD.objs.size s2 H2 fp) [] (xr own caps σ) H2 { s2 with heap:=h4,toks:=s2.toks + ([]:List (Str × Value)).length }:=
  WK B I2 f2 (by omega) hlt hns old rfl I2.bare
 have stat:∀ {H':Hp},(∀ b∈fp,H' b=none)->∀ b∈fp,zq (yh X scope (zU own caps) HD.objs.size s2 H2 fp) [] H' b:=λ{H'} hn b hb=>by
  have hb2:=hlt b hb
  refine ⟨hn b hb,?_,λz=>?_,.inl hb,λx c ec=>(f2 b hb).2.2.2.2.1 x c (wL B.free ec).1,λp hp=>by simp at hp⟩
  ·exact Nat.ne_of_lt (Nat.lt_of_lt_of_le hb2 hle)
  ·rcases List.mem_cons.mp (I2.stkSub b z) with e | z
   ·exact (f2 b hb).2.1 e
   ·exact (f2 b hb).2.2.1 z
 have statD:∀ {H':Hp},H' s2.heap.objs.size=none->zq (yh X scope (zU own caps) HD.objs.size s2 H2 fp) [] H' s2.heap.objs.size:=λ{H'} hn=>by
  refine ⟨hn,hDC,λz=>?_,.inr (Nat.le_refl _),λx c ec z=>?_,λp hp=>by simp at hp⟩
  ·obtain ⟨_,o,ho,_⟩:=I2.stack.mem z
   exact absurd (Heap.lt_size ho) (Nat.lt_irrefl _)
  ·obtain ⟨v,o,ho,_⟩:=I2.cell x c (wL B.free ec).1
   rw [z] at ho
   exact absurd (Heap.lt_size ho) (Nat.lt_irrefl _)
 have neD:∀ b∈fp,b≠s2.heap.objs.size:=λb hb=>Nat.ne_of_lt (hlt b hb)
 have IY':zG (yh X scope (zU own caps) HD.objs.size s2 H2 fp) [(s2.heap.objs.size,yE [] 0)] (xr own caps σ) H2 { s2 with heap:=h4,toks:=s2.toks + ([]:List (Str × Value)).length }:=
  IY.pins_of λp hp=>by
   rw [List.mem_singleton.mp hp]
   have z:=statD (I2.hok.fresh (Nat.le_refl _))
   exact ⟨hD4,z.1,z.2.1,z.2.2.1,λv z=>by cases z⟩
 have loop:∀ s3:Shared,s3={ s2 with heap:=h4,toks:=s2.toks + ([]:List (Str × Value)).length }->
   codeAny (model X.prog X.w) X.A (.compLoop (.ListComp elt [⟨tg,iter,[cond],0⟩] scope pos) 0 (.ref it) (.ref s2.heap.objs.size) (compEnvC scope (xj scope X.env) HD.objs.size X.env))
    (RR (.ref s2.heap.objs.size) HD.objs.size) s3:=by
  rintro s3 rfl
  refine Jj (λn s'=>∃ i ys σ' H' its k,zG (yh X scope (zU own caps) HD.objs.size s2 H2 fp) [(s2.heap.objs.size,yE its k)] σ' H' s'/\tn i s'.heap/\(∀ b∈fp,H' b=none)∧
   zO ys its/\ys.length<=sizeLine/\W i n ys σ' H') ?_ m0 ⟨0,[],_,H2,[],0,IY',T.keep _ _ _ st2 λb hb o eb=>old b o eb,λb hb=>(f2 b hb).1,.nil,Nat.zero_le _,w0⟩
  rintro n s5 ⟨i,ys,σ5,H5,its,k,I5,st5,fr5,rv5,hz5,w5⟩
  have stat5:∀ {H':Hp},(∀ b∈fp,H' b=none)->∀ b∈fp,zq (yh X scope (zU own caps) HD.objs.size s2 H2 fp) [(s2.heap.objs.size,yE its k)] H' b:=λ{H'} hn b hb=>by
   obtain ⟨a1,a2,a3,a4,a5,_⟩:=stat hn b hb
   refine ⟨a1,a2,a3,a4,a5,λp hp=>?_⟩
   have hp':p∈[(s2.heap.objs.size,yE its k)]:=hp
   rw [List.mem_singleton.mp hp']
   exact Ne.symm (neD b hb)
  rcases turn i n ys σ5 H5 w5 with ⟨stop,qn⟩ | ⟨go,hlen,N,N0,hN,hN0,step⟩
  ·refine zd (T.done (yh X scope (zU own caps) HD.objs.size s2 H2 fp) rfl rfl rfl hc i _ s5 σ5 H5 _ I5 (stat5 fr5) st5 stop) λr s6 ⟨hr,I6⟩=>?_
   subst hr
   obtain ⟨pD1,pD2,_⟩:=I6.pin (s2.heap.objs.size,yE its k) (List.mem_append_right _ List.mem_cons_self)
   obtain ⟨m6,hn6,_⟩:=I6.loc
   refine hRR _ _ s6 H5 ys m6 hn6 (by omega) (λh' sb=>?_) (by rw [zi (Ne.symm hDC)]; exact I6.free) (qn _ pD2)
   have hC5:H5 HD.objs.size=none:=I6.free
   have nb:∀ b o,s2.heap.get? b=some o->b≠HD.objs.size/\b≠s2.heap.objs.size:=λb o eb=>by
    have hb:=Heap.lt_size eb
    exact ⟨Nat.ne_of_lt (Nat.lt_of_lt_of_le hb hle),Nat.ne_of_lt hb⟩
   have nt:∀ b o,H5 b=some o->b≠s2.heap.objs.size:=λb o eb z=>by rw [z] at eb; rw [show H5 s2.heap.objs.size=none from pD2] at eb; cases eb
   have un:Un (yf X.stack) fp H2 (upd H5 s2.heap.objs.size (.lst ys)) s2.heap h':=
    ⟨λb o eb n1 n2 n3=>sb.extBut b o (nb b o eb).1 (I6.base.keep b o eb n1 n2 n3),
     λb o eb n1 n2 n3=>by
      obtain ⟨sl,e1⟩:=I6.base.slot b o eb n1 n2 n3
      exact ⟨sl,sb.extBut b _ (nb b o eb).1 e1⟩,
     λb o eb n1 n3=>by
      rw [zi (nb b o eb).2]
      exact I6.base.free b o eb n1 n3,
     λb o eb n3=>by
      obtain ⟨o',e1⟩:=I6.base.there b o eb n3
      exact ⟨o',sb.extBut b _ (nb b o eb).1 e1⟩,
     λb xs eb=>by
      have e1:=I6.base.tups b xs eb
      rw [zi (nt b _ e1)]
      exact e1,
     λb o u eb=>by
      have e1:=I6.base.frzs b o u eb
      rw [zi (nt b _ e1)]
      exact e1,
     λb ps eb=>by
      obtain ⟨more,e1⟩:=I6.base.tbls b ps eb
      refine ⟨more,?_⟩
      rw [zi (nt b _ e1)]
      exact e1⟩
   have ok5:ya X.prog X.w (upd H5 s2.heap.objs.size (.lst ys)) h':=λb u eb=>by
    by_cases hb:b=s2.heap.objs.size
    ·subst hb
     rw [zH] at eb
     cases eb
     exact ⟨hz5,its,k,rv5,sb.extBut _ _ hDC pD1⟩
    ·rw [zi hb] at eb
     refine (I6.hok b u eb).stay (λc v hcv ev=>sb.extBut c v ?_ ev) (λc ec=>by rw [zi (nt c _ ec)]; exact ec) λc xs ec=>by rw [zi (nt c _ ec)]; exact ec
     rintro rfl
     rcases hcv with z | z
     ·rw [<- z,hC5] at eb
      cases eb
     ·rw [hC5] at z
      cases z
   exact I2.call' (s':={ s6 with heap:=h' }) (ch:=fp) I6.os un ok5 I6.bare λb hb=>⟨(f2 b hb).2.2.2.1,(f2 b hb).2.1,(f2 b hb).2.2.2.2.1,(f2 b hb).2.2.2.2.2⟩
  ·refine zd (T.item (yh X scope (zU own caps) HD.objs.size s2 H2 fp) rfl rfl rfl hc i _ s5 σ5 H5 _ I5 (stat5 fr5) st5 go) λr s6 ⟨u,hr,h6⟩=>?_
   subst hr
   refine zd h6 λ_ s7 ⟨x,H7,I7,r7,y7,st7,fr7⟩=>?_
   have I7':=I7.pinned (stat5 fr7) (T.obj _ _ st7)
   refine zd (hg HD.objs.size s2 H2 fp _ s7 σ5 H7 x u _ I7' r7 (step x H7 y7)) λ_ s8 ⟨σ8,H8,I8,q8⟩=>?_
   refine zd (ht HD.objs.size s2 H2 fp _ s8 σ8 H8 _ I8 q8) λok sT ⟨HT,IT,qT⟩=>?_
   cases ok with
   | false=>
    obtain ⟨m',hm',w9⟩:=hN0 σ8 HT qT
    refine ⟨m',hm',i + 1,ys,σ8,HT,its,k,IT.unpinned,?_,λb hb=>?_,rv5,hz5,w9⟩
    ·refine T.keep _ _ _ st7 λb hb o eb=>?_
     exact (IT.pin (b,o) (List.mem_append_right _ (List.mem_append_right _ (vi hb eb)))).1
    ·obtain ⟨o,eb,_⟩:=T.obj _ _ st7 b hb
     exact (IT.pin (b,o) (List.mem_append_right _ (List.mem_append_right _ (vi hb eb)))).2.1
   | true=>
    refine zd (he HD.objs.size s2 H2 fp _ sT σ8 HT _ IT qT) λyv s9 ⟨y,H9,I9,r9,n9⟩=>?_
    obtain ⟨m',hm',w9⟩:=hN y σ8 H9 n9
    have pD9:=(I9.pin (s2.heap.objs.size,yE its k) (List.mem_append_right _ (List.mem_append_left _ List.mem_cons_self))).2.1
    have hl:its.length=ys.length:=rv5.length.symm
    refine Zx (Y:=yh X scope (zU own caps) HD.objs.size s2 H2 fp) (its:=its) (k:=k) (pl:=uw fp s7.heap) I9 (statD pD9) rfl (by omega) λh' k' tk keep I'=>?_
    refine ⟨m',hm',i + 1,ys++[y],σ8,H9,its++[yv],k',I',?_,λb hb=>?_,rv5.append (.cons r9 .nil),?_,w9⟩
    ·refine T.keep _ _ _ st7 λb hb o eb=>keep b o (neD b hb) ?_
     exact (I9.pin (b,o) (List.mem_append_right _ (List.mem_append_right _ (vi hb eb)))).1
    ·obtain ⟨o,eb,_⟩:=T.obj _ _ st7 b hb
     exact (I9.pin (b,o) (List.mem_append_right _ (List.mem_append_right _ (vi hb eb)))).2.1
    ·rw [List.length_append,List.length_singleton]
     omega
 exact codeAny_compStart_list (loop _ rfl) (T.self _ 0 _ _ _ (T.keep _ _ _ st2 λb hb o eb=>old b o eb) (loop _ rfl))
theorem Qp {hx:Addr} (B:uI X scope own caps) (hc:X.A.handled=some (.ref hx)) (hi:Wt hx X tg iter wi) (hg:∀ C s₀ H₀ ex,PG (yh X scope (zU own caps) C s₀ H₀ ex) tg g)
  (ht:∀ C s₀ H₀ ex,PT (yh X scope (zU own caps) C s₀ H₀ ex) cond tc) (he:∀ C s₀ H₀ ex,PE (yh X scope (zU own caps) C s₀ H₀ ex) elt te) (hs:∀ x,foldedSetIterable iter X.env x=pure x:=by intro _; rfl) :
  PE X (.ListComp elt [⟨tg,iter,[cond],0⟩] scope pos) (Jk own caps wi g tc te):=by
 intro pins s σ H Q I h
 rw [eval_ListComp]
 refine wpAny_comprehension_free (use:=none) rfl hs (qi B.free) B.kind B.locs ?_
 refine zd (hi pins s σ H _ I h) λxv s1 h1=>zd h1 λitv s2 h2=>?_
 obtain ⟨it,fp,tn,J,H2,e,I2,T,st2,f2,W,⟨m0,w0⟩,turn⟩:=h2
 subst e
 refine Qo (RR:=λacc C=>compPost (model X.prog X.w) X.A X.xe none (EP X pins σ Q) acc C) B hc hg ht he I2 T st2 f2 w0 turn λD C s6 H6 ys m hn hC J6 hC6 q=>?_
 exact ⟨m,hn,λh' sb=>⟨.ref D,_,J6 h' sb,rfl,q⟩⟩
end
theorem Qq {K:PySem.W.Frag} {x0 C a:Addr} {xs:List V} {g:TG} {tc:TT} {te:TE} {σ0:St} {H:Hp} {Q:VK} (Pv:Nat->List V->St->Hp->Prop) (h0:Pv 0 [] σ0 H) (hl:∀ i ys σ H,i<=xs.length->Pv i ys σ H->zP K H a xs/\ys.length<=i/\H x0=some (yV x0 C)) (hz:xs.length<=sizeLine)
  (hs:∀ i x ys σ H,xs[i]? = some x->Pv i ys σ H->g x σ H λσ2 H2=>tc σ2 H2 λb H3=>if b=true then te σ2 H3 λy H4=>Pv (i + 1) (ys++[y]) σ2 H4 else Pv (i + 1) ys σ2 H3)
  (hd:∀ ys σ H,Pv xs.length ys σ H->∀ p,H p=none->Q (.ref p) (upd H p (.lst ys))) :
  WR (jV K x0 a) g tc te Q σ0 H:=by
 refine ⟨λi m ys σ H=>m=xs.length - i/\i<=xs.length/\Pv i ys σ H,⟨xs.length,by simp,Nat.zero_le _,h0⟩,?_⟩
 rintro i m ys σ H ⟨rfl,hi,p⟩
 obtain ⟨q,hy,hC⟩:=hl i ys σ H hi p
 by_cases hlt:i < xs.length
 ·refine .inr ⟨⟨xs,xs[i],q,by simp [hlt]⟩,by omega,λy σ' H'=>Pv (i + 1) (ys++[y]) σ' H',λσ' H'=>Pv (i + 1) ys σ' H',λy σ' H' z=>⟨xs.length - (i + 1),by omega,rfl,hlt,z⟩,λσ' H' z=>⟨xs.length - (i + 1),by omega,rfl,hlt,z⟩,λx H' y=>?_⟩
  obtain ⟨e,y⟩:=y
  subst e
  exact hs i x ys σ _ (y xs q) p
 ·have e:i=xs.length:=by omega
  subst e
  exact .inl ⟨⟨⟨xs,q,Nat.le_refl _⟩,C,hC⟩,hd ys σ H p⟩
noncomputable def Qr (K:PySem.W.Frag) (Cb:Addr) (i:Nat) (tb:TX) (th:Addr->TS):TS:=λD σ H=>
 tb (λσ1 cls _ H2=>∃ C,cls=.ref C/\PySem.W.exmOne K (.ref C) (.ref Cb)=some true/\∀ e,H2 e=none->
  th e { nx:=λσ' H'=>D.nx (σ'.set i none) H',rt:=D.rt,bk:=λσ' H'=>D.bk (σ'.set i none) H',ct:=λσ' H'=>D.ct (σ'.set i none) H' } (σ1.set i (some (.ref e))) (upd H2 e (yV e C))) D σ H
theorem Qs {X:Cx} {Cb:Addr} {x n:Str} {i:Nat} {body:List Stmt} {tb:TX} {th:Addr->TS} {b₀:Stmt} {suite:List Stmt} {np hpos pos:Pos} (hg:Gl X x) (hm:X.mg x=some (.ref Cb)) (hc:X.calm=true)
  (hf:X.env.frame=some X.env.locals) (hst:X.stack=X.env :: X.outer) (hN:X.N.Nodup) (hi:X.N[i]? = some n) (hn:X.env.scope.names.lookup n=some .local) (hb:wx X body tb) (hh:∀ e,xz (X.mark e) (b₀ :: suite) (th e))
  (hdb:(x == ("__debug__" : Str))=false:=by decide) :
  PS X (.Try body [.ExceptHandler (some (.Name x np)) (some n) (b₀ :: suite) hpos] [] [] pos) (Qr X.K Cb i tb th):=by
 intro pins s σ H D I h
 refine wpAny_Try_except (wpAny_mono (hb pins s σ H D _ I h) (λfl s1 q1=>?_) λev s1 hx=>?_)
 ·cases fl with
  | next=>exact wpAny_execs_nil q1
  | brk=>exact q1
  | cont=>exact q1
  | ret u=>exact q1
 obtain ⟨σ1,s0,H1,H2,e,cls,a0,B,I0,rfl,xl,C,rfl,hx,q⟩:=hx
 have hfr:X.A.frames=some (X.env :: X.outer):=by rw [<- hst]; exact I.ok.frames
 have xl':XL X.prog X.w (X.env :: X.outer) H1 H2 s0 s1 B e (.ref C) a0:=by rw [<- hst]; exact xl
 have behind:∀ {h':Heap} {tk:Nat},XL X.prog X.w (X.env :: X.outer) H1 H2 s0 { s1 with heap:=h',toks:=tk } B e (.ref C) a0->zG X pins σ1 H2 { s1 with heap:=h',toks:=tk }:=λ{h' tk} z=>by
  have z':XL X.prog X.w X.stack H1 H2 s0 { s1 with heap:=h',toks:=tk } B e (.ref C) a0:=by rw [hst]; exact z
  exact I0.call' (ch:=[]) z'.os z'.un z'.held z'.bare λb hb=>absurd hb (by simp)
 have hE:∀ (Y:Around) (v:Value) (sx:Shared),False->notedBy (model X.prog X.w) Y X.env (cameBackBy (model X.prog X.w) X.A X.env X.xe) v sx:=λ_ _ _ z=>z.elim
 refine Wi YT hfr hf xl'.fly λh4 held4 up4=>?_
 refine ka held4 λh5 fly5 up5=>?_
 have x5:=xl'.move (tk:=s1.toks) fly5 (up4.trans up5)
 have I5:=behind x5
 refine wpAny_handleBy_cons (codeAny_handlers_test (ur (I5.mark e) hg hm ?_ hdb)) (by intro q; cases q)
 obtain ⟨oe,ws,he,hcl,hd,_⟩:=yO.first fly5
 have LT:PySem.W.Looks (model X.prog X.w) h5 (typeOf (.ref e)) (.ref C):=hcl ▸ (PySem.W.Looks.ld he).andThen .now
 refine (PySem.W.exm_one (K:=X.K) I5.kIn LT hx).here (codeAny_handlers_suite_as ?_)
 refine ka (s:={ s1 with heap:=h5 }) fly5 λh6 fly6 up6=>?_
 have x6:=xl'.move (tk:=s1.toks) fly6 ((up4.trans up5).trans up6)
 have I6:=behind x6
 obtain ⟨oe6,ws6,he6,hcl6,hd6,h26⟩:=yO.first fly6
 obtain ⟨new,hH,nfr⟩:=xl.new
 have eL:e≠X.env.locals:=λz=>nfr (by
  rw [hst]
  unfold yf
  rw [List.filterMap_cons,hf,z]
  exact List.mem_cons_self)
 have J6:zG X pins σ1 (upd H2 e (yV e C)) { s1 with heap:=h6,toks:=s1.toks }:=by
  refine I6.track hH ?_ eL (λy c q z=>?_) (λp hp z=>?_) ⟨⟨oe6,ws6,he6,hcl6,hd6,h26⟩,⟨oe6,he6⟩,λg1 g2 ⟨o,v,p1,p2,p3⟩ k=>⟨o,v,k _ p1,p2,p3⟩⟩
  ·by_cases hx:e∈X.ex
   ·exact .inl hx
   ·refine .inr ?_
    cases q:X.s₀.heap.get? e with
    | none=>rfl
    | some o=>
     obtain ⟨o',z⟩:=I0.base.there e o q hx
     rw [new] at z
     cases z
  ·obtain ⟨v,o,ho,_⟩:=I0.cell y c q
   rw [z,new] at ho
   cases ho
  ·have z1:=(I0.pin p hp).1
   rw [z,new] at z1
   cases z1
 refine ZO (X:=X.mark e) (J6.mark e) hN hi (.inl hn) (v:=.ref e) rfl (λs7 I7=>?_) (.inr hn)
 refine wpAny_mono (hh e pins s7 _ _ _ I7 (q e hH)) (λfl s8 h8=>?_) λ_ _ z=>False.elim z
 have hcls:(X.env.scope.kind == .class || (X.env.scope.kind == .module && X.env.locals != X.env.globals))=false:=by rw [I.ok.kind]; rfl
 have goes:∀ {σ8:St} {H8:Hp} {R:Shared->Prop},zG (X.mark e) pins σ8 H8 s8->(∀ s9,zG X pins (σ8.set i none) H8 s9->R s9)->wpAny (model X.prog X.w) X.A (do bindName X.env n .none; unbindBehindTheSuite X.env n hpos) (λ_ s9=>R s9) X.xe s8:=λ{σ8 H8 R} I8 q=>by
  have I8':zG X pins σ8 H8 s8:=I8.unmark λz=>I.ok.hd z
  obtain ⟨m8,hn8,hl8⟩:=id I8'.loc
  refine wpAny_nameGoes_keeps hn hn8 hcls λh9 v9 hn9 sb9=>?_
  exact q _ (I8'.gone hN hi hl8 hn9 λb o nb q=>(sb9.2 b nb).trans q)
 cases fl with
 | ret u=>obtain ⟨v,σ8,H8,I8,r8,q8⟩:=h8; exact goes I8 λs9 I9=>⟨v,_,H8,I9,r8,q8⟩
 | brk=>obtain ⟨σ8,H8,I8,q8⟩:=h8; exact goes I8 λs9 I9=>⟨_,H8,I9,q8⟩
 | cont=>obtain ⟨σ8,H8,I8,q8⟩:=h8; exact goes I8 λs9 I9=>⟨_,H8,I9,q8⟩
 | next=>obtain ⟨σ8,H8,I8,q8⟩:=h8; exact goes I8 λs9 I9=>⟨_,H8,I9,q8⟩
end L2
namespace L2
open PySem PySem.Spec PyProof.Rows
section
variable {P:Program} {w:World} {K:PySem.W.Frag} {mg:Str->Option Value} {base:Heap} {x:Str} {C:Addr} {ps:List Str} {k:Nat} {sp sq:Sp} {dv:V}
theorem Fn.imp (F:Fn P w K mg base x ps k sp) (h:∀ vs H Q E,sq vs H Q E->sp vs H Q E):Fn P w K mg base x ps k sq:=let ⟨f,fd,a,r⟩:=F.ex; ⟨f,fd,a.imp h,r⟩
theorem wk.imp (F:wk P w K mg base x ps k sp dv) (h:∀ vs H Q E,sq vs H Q E->sp vs H Q E):wk P w K mg base x ps k sq dv:=let ⟨f,fd,d,a,r⟩:=F.ex; ⟨f,fd,d,a.imp h,r⟩
theorem xG.imp (F:xG P w K mg base C ps k sp dv) (h:∀ vs H Q E,sq vs H Q E->sp vs H Q E):xG P w K mg base C ps k sq dv:=let ⟨f,fd,d,a,r⟩:=F.ex; ⟨f,fd,d,a.imp h,r⟩
end
end L2
namespace Sh
open PySem L2
structure Ye (mg:Str->Option Value) (C1 C2 c2 c3 c4 c5 c6 c7 c8 c9 cS:Addr):Prop where
 m0:mg "BadRule" = some (.ref C1)
 m1:mg "TooMany" = some (.ref C2)
 m2:mg "BadThing" = some (.ref c2)
 m3:mg "BadTurn" = some (.ref c3)
 m4:mg "NoNumber" = some (.ref c4)
 m5:mg "NoRow" = some (.ref c5)
 m6:mg "NoRun" = some (.ref c6)
 m7:mg "NoText" = some (.ref c7)
 m8:mg "NotClosed" = some (.ref c8)
 m9:mg "NotPlain" = some (.ref c9)
 mS:mg "SteadyError" = some (.ref cS)
structure jW (K:PySem.W.Frag) (C:Addr) (j:Nat) (C1 C2 c2 c3 c4 c5 c6 c7 c8 c9 cS:Addr):Prop where
 xc:xw K C
 isV:PySem.W.kitOne K (.ref C) (.type "ValueError")=some true
 exm:PySem.W.exmOne K (.ref C) (.ref cS)=some true
 k0:PySem.W.kitOne K (.ref C) (.ref C1)=some (j == 0)
 k1:PySem.W.kitOne K (.ref C) (.ref C2)=some (j == 1)
 k2:PySem.W.kitOne K (.ref C) (.ref c2)=some (j == 2)
 k3:PySem.W.kitOne K (.ref C) (.ref c3)=some (j == 3)
 k4:PySem.W.kitOne K (.ref C) (.ref c4)=some (j == 4)
 k5:PySem.W.kitOne K (.ref C) (.ref c5)=some (j == 5)
 k6:PySem.W.kitOne K (.ref C) (.ref c6)=some (j == 6)
 k7:PySem.W.kitOne K (.ref C) (.ref c7)=some (j == 7)
 k8:PySem.W.kitOne K (.ref C) (.ref c8)=some (j == 8)
 k9:PySem.W.kitOne K (.ref C) (.ref c9)=some (j == 9)
structure vv (K:PySem.W.Frag) (mg:Str->Option Value) (C1 C2:Addr):Prop where
 mg1:mg "BadRule" = some (.ref C1)
 exc1:PySem.W.excIn K C1 YU "ValueError.__new__" = true
 mg2:mg "TooMany" = some (.ref C2)
 exc2:PySem.W.excIn K C2 YU "ValueError.__new__" = true
 ex:∃ c2 c3 c4 c5 c6 c7 c8 c9 cS,Ye mg C1 C2 c2 c3 c4 c5 c6 c7 c8 c9 cS/\jW K C1 0 C1 C2 c2 c3 c4 c5 c6 c7 c8 c9 cS/\jW K C2 1 C1 C2 c2 c3 c4 c5 c6 c7 c8 c9 cS
theorem AV.whole_inv {C:Addr} {H:Hp} {v:V} {a:AK} (h:AV C H v a) (e:yP a=true):∃ i,v=.int i/\a=.int i:=by
 cases h with
 | int i=>exact ⟨i,rfl,rfl⟩
 | _=>cases e
theorem Qt {a:AK} (e:yP a=false):xx a=false:=by
 cases a with
 | int i=>cases e
 | _=>rfl
end Sh
namespace K24
open PySem L2 Sh
noncomputable def yI (i:Nat):Stmt:=PySem.Challenge.pw_steadyhand_k24_rules_refused.main.body.getD i (.Pass ⟨0,0,0,0⟩)
structure Bl (mg:Str->Option Value):Prop where
 isinstance_:mg "isinstance" = none
 int_:mg "int" = none
 bool_:mg "bool" = none
 tuple_:mg "tuple" = none
 len_:mg "len" = none
 all_:mg "all" = none
 list_:mg "list" = none
 range_:mg "range" = none
 zip_:mg "zip" = none
 ValueError_:mg "ValueError" = none
 MOST_PIECES_:∃ t,mg "MOST_PIECES" = some (.int 60 t)
 MOST_NUMBERS_:∃ t,mg "MOST_NUMBERS" = some (.int 3 t)
 MOST_PUSHES_:∃ t,mg "MOST_PUSHES" = some (.int 6 t)
 MOST_MODES_:∃ t,mg "MOST_MODES" = some (.int 40 t)
structure vx (K:PySem.W.Frag) (C:Addr):Prop where
 no:True
structure vy (K:PySem.W.Frag) (C:Addr):Prop where
 n_numbers:xL K C "numbers"
 n_add:xL K C "add"
 n_divisor:xL K C "divisor"
structure vz (K:PySem.W.Frag) (C:Addr):Prop where
 n_rule:xL K C "rule"
 n_low:xL K C "low"
 n_high:xL K C "high"
structure v4 (K:PySem.W.Frag) (C:Addr):Prop where
 n_row:xL K C "row"
 n_rule:xL K C "rule"
 n_other:xL K C "other"
structure v5 (K:PySem.W.Frag) (C:Addr):Prop where
 n_rows:xL K C "rows"
 n_nexts:xL K C "nexts"
 n_steer:xL K C "steer"
 n_push:xL K C "push"
 n_add:xL K C "add"
 n_divisor:xL K C "divisor"
structure v6 (K:PySem.W.Frag) (C:Addr):Prop where
 n_many:xL K C "many"
 n_kept_pushes:xL K C "kept_pushes"
 n_kept_modes:xL K C "kept_modes"
structure v7 (K:PySem.W.Frag) (C C1 C2 C3:Addr):Prop where
 a:gR K C
 k21:PySem.W.kitOne K (.ref C2) (.ref C1)=some false
 k31:PySem.W.kitOne K (.ref C3) (.ref C1)=some false
 k12:PySem.W.kitOne K (.ref C1) (.ref C2)=some false
 k32:PySem.W.kitOne K (.ref C3) (.ref C2)=some false
 k13:PySem.W.kitOne K (.ref C1) (.ref C3)=some false
 i1:PySem.W.kitOne K (.type "int") (.ref C1)=some false
 i2:PySem.W.kitOne K (.type "int") (.ref C2)=some false
 i3:PySem.W.kitOne K (.type "int") (.ref C3)=some false
 n1:PySem.W.kitOne K (.type "NoneType") (.ref C1)=some false
 n2:PySem.W.kitOne K (.type "NoneType") (.ref C2)=some false
 n3:PySem.W.kitOne K (.type "NoneType") (.ref C3)=some false
 s1:PySem.W.kitOne K (.type "str") (.ref C1)=some false
 s2:PySem.W.kitOne K (.type "str") (.ref C2)=some false
 s3:PySem.W.kitOne K (.type "str") (.ref C3)=some false
 l1:PySem.W.kitOne K (.type "list") (.ref C1)=some false
 l2:PySem.W.kitOne K (.type "list") (.ref C2)=some false
 l3:PySem.W.kitOne K (.type "list") (.ref C3)=some false
inductive FC:Nat->AK->Prop
 | int {k:Nat} (i:Int):FC (k + 1) (.int i)
 | bool {k:Nat} (b:Bool):FC (k + 1) (.bool b)
 | non {k:Nat}:FC (k + 1) .non
 | str {k:Nat} (x:Str):FC (k + 1) (.str x)
 | lst {k:Nat} {as:List AK} (l:as.length<=900) (h:∀ a∈as,FC (k + 1) a):FC (k + 1 + 1) (.lst as)
 | tup {k:Nat} {as:List AK} (l:as.length<=900) (h:∀ a∈as,FC (k + 1) a):FC (k + 1 + 1) (.tup as)
theorem FC.fa {k:Nat} {a:AK} (h:FC k a):FA k a:=by
 induction h with
 | int i=>exact .int i
 | bool i=>exact .bool i
 | non=>exact .non
 | str i=>exact .str i
 | lst l _ ih=>exact .lst l ih
 | tup l _ ih=>exact .tup l ih
theorem FC.lst1 {j:Nat} {as:List AK} (h:FC j (.lst as)):∃ k,j=k + 1 + 1/\as.length<=900/\∀ a∈as,FC (k + 1) a:=by
 cases h with
 | lst l h=>exact ⟨_,rfl,l,h⟩
theorem FC.tup1 {j:Nat} {as:List AK} (h:FC j (.tup as)):∃ k,j=k + 1 + 1/\as.length<=900/\∀ a∈as,FC (k + 1) a:=by
 cases h with
 | tup l h=>exact ⟨_,rfl,l,h⟩
theorem Wu {H H' J:Hp} (s:zC H H'):zC (xm H' J) (xm H J):=λb o h=>by
 obtain ⟨h1,h2⟩:=vq h
 rw [kR (s.free h1)]
 exact h2
inductive ue (C:Addr) (k:Nat) (vs:List V) (H:Hp) (Q:VK) (E:XK):Prop
 | mk (v:V) (a:AK) (d:Int) (j:Nat) (_:vs=[v,.int d]) (_:AV C H v a) (_:FC j a) (_:j<=k) (_:(j<=1\/(j:Int)<=d + 1)) (_:∀ v' H',zC H H'->AV C (xm H H') v' a->(j=1->H'=H)->Q v' H'):ue C k vs H Q E
theorem Qu {C:Addr}:∀ vs H Q E,¬ ue C 0 vs H Q E:=by
 rintro _ _ _ _ ⟨_,_,_,j,_,_,h,hj,_⟩
 obtain rfl:j=0:=by omega
 cases h
noncomputable def yC (ns:List Int):AK:=.lst (ns.map .int)
noncomputable def yQ (ns:List Int):AK:=.tup (ns.map .int)
theorem jX {C:Addr} {H:Hp}:∀ ns:List Int,Paired (AV C H) (ns.map V.int) (ns.map .int)
 | []=>.nil
 | n :: ns=>.cons (.int n) (jX ns)
theorem wR {C:Addr} {H:Hp} {a:Addr} {ns:List Int} (h:H a=some (.lst (ns.map V.int))):AV C H (.ref a) (yC ns):=.lst h (jX ns)
theorem vH {C:Addr} {H:Hp} {a:Addr} {ns:List Int} (h:H a=some (.tup (ns.map V.int))):AV C H (.ref a) (yQ ns):=.tup h (jX ns)
theorem Yg {C:Addr} {H:Hp}:∀ {ns:List Int} {xs:List V},Paired (AV C H) xs (ns.map .int)->xs=ns.map V.int
 | [],_,.nil=>rfl
 | _ :: _,_,.cons a h=>by
  cases a
  rw [Yg h]
  rfl
theorem ki {C:Addr} {H:Hp} {v:V} {ns:List Int} (h:AV C H v (yC ns)):∃ a,v=.ref a/\H a=some (.lst (ns.map V.int)):=by
 cases h with
 | lst e h=>exact ⟨_,rfl,by rw [e,Yg h]⟩
theorem Yh {C:Addr} {H:Hp} {v:V} {ns:List Int} (h:AV C H v (yQ ns)):∃ a,v=.ref a/\H a=some (.tup (ns.map V.int)):=by
 cases h with
 | tup e h=>exact ⟨_,rfl,by rw [e,Yg h]⟩
theorem Wv (ns:List Int):(ns.map AK.int).all yP=true:=List.all_eq_true.mpr λa m=>by
 obtain ⟨i,_,rfl⟩:=List.mem_map.mp m
 rfl
theorem Ww {ns:List Int} {n:Int} (h:(ns.length:Int)=n):wc n (yC ns)=true:=by
 show (decide (((ns.map AK.int).length:Int)=n) && (ns.map AK.int).all yP)=true
 rw [List.length_map,decide_eq_true h,Wv]
 rfl
theorem Wx {ns:List Int} {n:Int} (h:(ns.length:Int)=n + 1):xJ n (yQ ns)=true:=by
 show (decide (((ns.map AK.int).length:Int)=n + 1) && (ns.map AK.int).all yP)=true
 rw [List.length_map,decide_eq_true h,Wv]
 rfl
theorem j6 {k:Nat} (ns:List Int):∀ a∈ns.map AK.int,FC (k + 1) a:=λa h=>by
 obtain ⟨i,_,rfl⟩:=List.mem_map.mp h
 exact .int i
theorem wS {k:Nat} {ns:List Int} (h:ns.length<=900):FC (k + 1 + 1) (yC ns):=.lst (by rw [List.length_map]; exact h) (j6 ns)
theorem vI {k:Nat} {ns:List Int} (h:ns.length<=900):FC (k + 1 + 1) (yQ ns):=.tup (by rw [List.length_map]; exact h) (j6 ns)
theorem Yi {C:Addr}:∀ vs H Q E,gG vs H Q E->jT C vs H Q E:=λ_ _ _ _ h=>by
 obtain ⟨i,rfl,q⟩:=h
 exact ⟨_,.int i,rfl,.int i,q⟩
theorem Wy {C:Addr}:∀ vs H Q E,kQ vs H Q E->YY C vs H Q E:=λ_ _ _ _ h=>by
 obtain ⟨a,ns,rfl,ha,few,q⟩:=h
 exact ⟨_,yC ns,_,2,rfl,wR ha,(wS few).fa,λH' s=>by rw [Ww rfl]; exact q H' s⟩
theorem Qv {C:Addr}:∀ vs H Q E,YA vs H Q E->YZ C vs H Q E:=λ_ _ _ _ h=>by
 obtain ⟨a,ns,n,rfl,ha,ln,few,q⟩:=h
 exact ⟨_,yQ ns,_,2,rfl,vH ha,(vI (by omega)).fa,λH' s=>by rw [Wx (by omega)]; exact q H' s⟩
theorem Wz {C:Addr} {H:Hp}:∀ {rv:List V} {rows:List (List Int)},zh H rv rows->Paired (AV C H) rv (rows.map yQ)
 | _,_,.nil=>.nil
 | _,_,.cons ⟨a,e,h⟩ t=>by
  subst e
  exact .cons (vH h) (Wz t)
theorem W0 {C:Addr} {H:Hp}:∀ {rows:List (List Int)} {rv:List V},Paired (AV C H) rv (rows.map yQ)->zh H rv rows
 | [],_,.nil=>.nil
 | _ :: _,_,.cons a t=>.cons (Yh a) (W0 t)
theorem W1 {C:Addr} {H:Hp}:∀ {tv:List V} {tab:List (List Int)},zI H tv tab->Paired (AV C H) tv (tab.map yC)
 | _,_,.nil=>.nil
 | _,_,.cons ⟨a,e,h⟩ t=>by
  subst e
  exact .cons (wR h) (W1 t)
theorem W2 {C:Addr} {H J:Hp}:∀ {tab:List (List Int)} {tv:List V},Paired (AV C (xm H J)) tv (tab.map yC)->Paired (xI H J) tv tab
 | [],_,.nil=>.nil
 | _ :: _,_,.cons a t=>by
  obtain ⟨l,e,h⟩:=ki a
  obtain ⟨h1,h2⟩:=vq h
  exact .cons ⟨l,e,h1,h2⟩ (W2 t)
theorem Qw {C:Addr}:∀ vs H Q E,gF vs H Q E->ue C 3 vs H Q E:=λ_ H Q _ h=>by
 rcases h with (⟨i,d,rfl,q⟩ | ⟨a,ns,d,rfl,d1,ha,few,q⟩ | ⟨a,ns,d,rfl,d1,ha,few,q⟩) | ⟨a,rv,rows,d,rfl,d1,ha,hrv,few,rl,q⟩ | ⟨a,tv,tab,d,rfl,d1,ha,htv,few,rl,q⟩
 ·exact ⟨_,.int i,d,1,rfl,.int i,.int i,by decide,.inl (Nat.le_refl _),λv' H' s h z=>by cases h; rw [z rfl]; exact q⟩
 ·exact ⟨_,yC ns,d,2,rfl,wR ha,wS few,by decide,.inr (by omega),λv' H' s h _=>by
   obtain ⟨l,rfl,e⟩:=ki h
   obtain ⟨h1,h2⟩:=vq e
   exact q l H' s h1 h2⟩
 ·exact ⟨_,yQ ns,d,2,rfl,vH ha,vI few,by decide,.inr (by omega),λv' H' s h _=>by
   obtain ⟨l,rfl,e⟩:=Yh h
   obtain ⟨h1,h2⟩:=vq e
   exact q l H' s h1 h2⟩
 ·refine ⟨_,.lst (rows.map yQ),d,3,rfl,.lst ha (Wz hrv),.lst (by rw [List.length_map]; exact few) (λx hx=>?_),by decide,.inr (by omega),λv' H' s h _=>?_⟩
  ·obtain ⟨r,hr,rfl⟩:=List.mem_map.mp hx
   exact vI (rl r hr)
  ·cases h with
   | lst e h=>
    obtain ⟨h1,h2⟩:=vq e
    exact q _ _ H' s h1 h2 (zh.same YG (W0 h))
 ·refine ⟨_,.lst (tab.map yC),d,3,rfl,.lst ha (W1 htv),.lst (by rw [List.length_map]; exact few) (λx hx=>?_),by decide,.inr (by omega),λv' H' s h _=>?_⟩
  ·obtain ⟨r,hr,rfl⟩:=List.mem_map.mp hx
   exact wS (rl r hr)
  ·cases h with
   | lst e h=>
    obtain ⟨h1,h2⟩:=vq e
    exact q _ _ H' s h1 h2 (W2 h)
theorem W3 {H J:Hp} {c:Addr} {o:HO} (h:H c=none):xm H (upd J c o) c=some o:=by rw [kR h]; exact zH
structure kj (n:Nat) (bs:List (Int × Int)) (ms:List MD):Prop where
 n1:1<=n
 n3:n<=3
 bok:∀ b∈bs,b.1<=b.2
 b6:bs.length<=6
 m1:1<=ms.length
 m40:ms.length<=900
 mok:∀ m∈ms,yk m n bs.length
inductive Yj (C:Addr) (vs:List V) (H:Hp) (Q:VK) (E:XK):Prop
 | mk (pa ma:Addr) (pv mv:List V) (n:Nat) (bs:List (Int × Int)) (ms:List MD) (_:vs=[.int (n:Int),.ref pa,.ref ma]) (_:H pa=some (.lst pv)) (_:Paired (vS H) pv bs) (_:H ma=some (.lst mv)) (_:Paired (yX C H) mv ms) (_:kj n bs ms) (_:∀ H',zC H H'->Q (.bl true) H'):Yj C vs H Q E
inductive j7 (C CM C2:Addr) (vs:List V) (H:Hp) (Q:VK) (E:XK):Prop
 | mk (o dx pa ma:Addr) (pv mv:List V) (n:Nat) (bs:List (Int × Int)) (ms:List MD) (_:vs=[.ref o,.int (n:Int),.ref pa,.ref ma]) (_:H o=some (.ins C dx [])) (_:H pa=some (.lst pv)) (_:Paired (vS H) pv bs) (_:H ma=some (.lst mv)) (_:Paired (yX CM H) mv ms) (_:kj n bs ms) (_:(40 < ms.length->∀ H',zC H H'->E (.ref C2) none H')) (_:(ms.length<=40->∀ (kp km:Addr) (H':Hp),zw o H H'->H' o=some (.ins C dx (WZ (n:Int) (.ref kp) (.ref km)))->H' kp=some (.lst pv)->H' km=some (.lst mv)->Q .non H')):j7 C CM C2 vs H Q E
section
variable {P:Program} {w:World} {K:PySem.W.Frag} {mg:Str->Option Value} {base:Heap}
noncomputable abbrev Yk:Stmt:=yI 14
theorem Qx:zv ["thing"] ["thing"] (zW Yk):=.a
noncomputable abbrev Yl:Stmt:=yI 19
theorem Qy:zv ["value","count"] ["value","count"] (zW Yl):=.a
noncomputable abbrev Ym:Stmt:=yI 25
theorem Qz:zv ["value","many"] ["value","many"] (zW Ym):=.a
noncomputable abbrev gW:Stmt:=yI 21
theorem Q0:zv ["value","depth"] ["value","depth"] (zW gW):=.a
noncomputable abbrev kn:Stmt:=yI 20
theorem Q1:zv ["value","tall","wide"] ["value","tall","wide"] (zW kn):=.a
noncomputable abbrev ko:Stmt:=yI 26
theorem Q2:zv ["value","many"] ["value","many"] (zW ko):=.a
noncomputable abbrev Yn:Stmt:=yI 53
theorem Q3:zv ["value"] ["value"] (zW Yn):=.a
noncomputable abbrev Yo:Stmt:=u8 (yI 50) 0
theorem Q4:zv ["self","rows","nexts","steer","push","add","divisor"] ["self","rows","nexts","steer","push","add","divisor"] (zW Yo):=.a
noncomputable abbrev Yp:Stmt:=yI 54
theorem Q5:zv ["value","many","wide"] ["value","many","wide"] (zW Yp):=.a
noncomputable abbrev kq:Stmt:=yI 52
theorem Q6:zv ["many","pushes","modes"] ["many","pushes","modes"] (zW kq):=.a
noncomputable abbrev Yq:Stmt:=u8 (yI 51) 0
theorem Q7:zv ["self","many","pushes","modes"] ["self","many","pushes","modes"] (zW Yq):=.a
noncomputable abbrev Yr:Stmt:=u8 (yI 51) 1
theorem Q8:zv ["self"] ["self"] (zW Yr):=.a
noncomputable abbrev Ys:Stmt:=u8 (yI 51) 2
theorem Q9:zv ["self"] ["self"] (zW Ys):=.a
variable {aRule ad ae af ac au:Addr} (TRule:zQ K mg "Rule" aRule) (ARule:vx K aRule) (ah:zQ K mg "Straight" ad) (ap:vy K ad) (al:zQ K mg "Stopped" ae) (aq:vz K ae) (aj:zQ K mg "Parted" af) (ar:v4 K af) (ag:zQ K mg "Mode" ac) (ai:v5 K ac) (am:zQ K mg "Thing" au) (ao:v6 K au) (Y:v7 K ac ad ae af) {C1 C2:Addr} (Z:vv K mg C1 C2)
include TRule ARule ah ap al aq aj ar ag ai am ao Y Z
theorem KA {k:Nat} {f:Addr} {fd:FuncData} (F:yA K "is_whole" "is_whole" Yk f fd) (B:Bl mg):zL P w K mg base zj (k + 1) f fd ["thing"] (jT ac):=by
 refine F.ok Qx (λvs H Q E h=>?_) (λcdv A outer s H vs Q E hr h=>?_)
 ·obtain ⟨_,_,rfl,_⟩:=h
  rfl
 obtain ⟨v,a,rfl,hv,q⟩:=h
 refine ⟨_,(zX (zo (wA (yG vR rfl B.isinstance_ yj (zA (zB 0) (zA (vB (v:=.ty "int") (u:=.type "int") rfl B.int_ WM rfl) zE))) (vN (UT (yG vR rfl B.isinstance_ yj (zA (zB 0) (zA (vB (v:=.ty "bool") (u:=.type "bool") rfl B.bool_ Ja rfl) zE)))))))),?_⟩
 try dsimp only [zM,Cx.nox,Cx.wish]
 obtain ⟨ty,ak⟩:=hv.ask ag Y.a
 refine ⟨_,rfl,_,_,_,_,rfl,ak.ty,ak.i,_,rfl,?_⟩
 cases hv with
 | int i=>exact yM rfl ⟨_,rfl,_,_,_,_,rfl,ak.ty,ak.b,_,rfl,q⟩
 | bool b=>exact yM rfl ⟨_,rfl,_,_,_,_,rfl,ak.ty,ak.b,_,rfl,q⟩
 | _=>exact zr rfl q
theorem KB {k:Nat} {f:Addr} {fd:FuncData} (F:yA K "is_numbers" "is_numbers" Yl f fd) (B:Bl mg) (av:Fn P w K mg base "is_whole" ["thing"] k (jT ac)):zL P w K mg base zj (k + 1) f fd ["value","count"] (YY ac):=by
 refine F.ok Qy (λvs H Q E h=>?_) (λcdv A outer s H vs Q E hr h=>?_)
 ·obtain ⟨_,_,_,_,rfl,_⟩:=h
  rfl
 obtain ⟨v,a,n,k2,rfl,hv,fa,q⟩:=h
 refine ⟨_,(zX (zo (wA (yG vR rfl B.isinstance_ yj (zA (zB 0) (zA (vB (v:=.ty "list") (u:=.type "list") rfl B.list_ vP rfl) zE))) (wA (uE wQ (yG xb rfl B.len_ vm (zA (zB 0) zE)) (zB 1) (yS _)) (vN (yG (jn rfl) rfl B.all_ jp (zA (xY (own:=["number"]) (caps:=[]) (wr rfl) rfl (xB (zB 0)) (λ_ _ _ _=>zu (i:=0) (show (["number"]:List Str).Nodup by decide +kernel) rfl (Or.inl rfl)) (λ_ _ _ _=>(zZ av hr rfl (zA (zB 0) zE)))) zE))))))),?_⟩
 try dsimp only [zM,Cx.nox,Cx.wish]
 obtain ⟨ty,ak⟩:=hv.ask ag Y.a
 refine ⟨_,rfl,_,_,_,_,rfl,ak.ty,ak.l,_,rfl,?_⟩
 cases hv with
 | @lst p xs as e h=>
  have lx:xs.length=as.length:=Paired.length h
  obtain ⟨fw,fw2⟩:=fa.lst_inv
  refine yM rfl ?_
  refine ⟨_,rfl,p,_,rfl,.inl (zP.of e),_,rfl,rfl,_,rfl,?_⟩
  by_cases c:((xs.length:Nat):Int)=n
  case neg=>
   refine zr (wM c) ?_
   have z:=q _ (zC.refl _)
   rw [show wc n (.lst as)=false from by show (decide ((as.length:Int)=n) && _)=false; rw [decide_eq_false (by rw [<- lx]; exact c)]; rfl] at z
   exact z
  refine yM (xv c) ?_
  refine ⟨_,rfl,p,rfl,⟨_,zP.of e⟩,xu (K:=K) (a:=p) (xs:=xs) (λi ys σ H'=>ys=((as.take i).map yP).map V.bl/\(∃ o,σ=[o])/\zC H H')
   ⟨rfl,⟨none,rfl⟩,zC.refl _⟩ (λi ys σ H' hi ⟨e1,_,sm⟩=>⟨zP.of (sm _ _ e),by rw [e1,List.length_map,List.length_map,List.length_take]; exact Nat.min_le_left _ _⟩) (Nat.le_of_lt (zy (by omega))) ?_ ?_⟩
  ·rintro i x ys σ H' hi ⟨rfl,⟨o,rfl⟩,sm⟩
   obtain ⟨a1,ha1,hx⟩:=xF h hi
   refine ⟨_,rfl,x,a1,rfl,hx.same sm,?_,⟨_,rfl⟩,sm⟩
   rw [xO ha1,List.map_append,List.map_append]
   rfl
  rintro ys σ J ⟨rfl,⟨o,rfl⟩,sm⟩ l hl
  refine ⟨l,_,rfl,zP.of zH,?_⟩
  have zl:=zK hl (HO.lst (((as.take xs.length).map yP).map V.bl))
  rw [List.take_of_length_le (by omega)] at zl |-
  rw [show ((as.map yP).all id)=as.all yP by rw [List.all_map]; rfl]
  have z:=q _ (sm.trans zl)
  rw [show wc n (.lst as)=as.all yP from by show (decide ((as.length:Int)=n) && _)=_; rw [decide_eq_true (by rw [<- lx]; exact c)]; rfl] at z
  exact z
 | _=>exact zr rfl (q _ (zC.refl _))
theorem KC {k:Nat} {f:Addr} {fd:FuncData} (F:yA K "is_row" "is_row" Ym f fd) (B:Bl mg) (av:Fn P w K mg base "is_whole" ["thing"] k (jT ac)):zL P w K mg base zj (k + 1) f fd ["value","many"] (YZ ac):=by
 refine F.ok Qz (λvs H Q E h=>?_) (λcdv A outer s H vs Q E hr h=>?_)
 ·obtain ⟨_,_,_,_,rfl,_⟩:=h
  rfl
 obtain ⟨v,a,n,k2,rfl,hv,fa,q⟩:=h
 refine ⟨_,(zX (zo (wA (yG vR rfl B.isinstance_ yj (zA (zB 0) (zA (vB (v:=.ty "tuple") (u:=.type "tuple") rfl B.tuple_ uK rfl) zE))) (wA (uE wQ (yG xb rfl B.len_ vm (zA (zB 0) zE)) (zR (yF xi) (zB 1) zJ) (yS _)) (vN (yG (jn rfl) rfl B.all_ jp (zA (xY (own:=["number"]) (caps:=[]) (wr rfl) rfl (ZW (zB 0)) (λ_ _ _ _=>zu (i:=0) (show (["number"]:List Str).Nodup by decide +kernel) rfl (Or.inl rfl)) (λ_ _ _ _=>(zZ av hr rfl (zA (zB 0) zE)))) zE))))))),?_⟩
 try dsimp only [zM,Cx.nox,Cx.wish]
 obtain ⟨ty,ak⟩:=hv.ask ag Y.a
 refine ⟨_,rfl,_,_,_,_,rfl,ak.ty,ak.u,_,rfl,?_⟩
 cases hv with
 | @tup p xs as e h=>
  have lx:xs.length=as.length:=Paired.length h
  obtain ⟨fw,fw2⟩:=fa.tup_inv
  refine yM rfl ?_
  refine ⟨_,rfl,p,_,rfl,.inr (zn.of e),_,rfl,_,_,rfl,rfl,rfl,_,rfl,?_⟩
  by_cases c:((xs.length:Nat):Int)=n + 1
  case neg=>
   refine zr (wM c) ?_
   have z:=q _ (zC.refl _)
   rw [show xJ n (.tup as)=false from by show (decide ((as.length:Int)=n + 1) && _)=false; rw [decide_eq_false (by rw [<- lx]; exact c)]; rfl] at z
   exact z
  refine yM (xv c) ?_
  refine ⟨_,rfl,p,rfl,⟨_,zn.of e⟩,Z1 (K:=K) (a:=p) (xs:=xs) (λi ys σ H'=>ys=((as.take i).map yP).map V.bl/\(∃ o,σ=[o])/\zC H H')
   ⟨rfl,⟨none,rfl⟩,zC.refl _⟩ (λi ys σ H' hi ⟨e1,_,sm⟩=>⟨zn.of (sm _ _ e),by rw [e1,List.length_map,List.length_map,List.length_take]; exact Nat.min_le_left _ _⟩) (Nat.le_of_lt (zy (by omega))) ?_ ?_⟩
  ·rintro i x ys σ H' hi ⟨rfl,⟨o,rfl⟩,sm⟩
   obtain ⟨a1,ha1,hx⟩:=xF h hi
   refine ⟨_,rfl,x,a1,rfl,hx.same sm,?_,⟨_,rfl⟩,sm⟩
   rw [xO ha1,List.map_append,List.map_append]
   rfl
  rintro ys σ J ⟨rfl,⟨o,rfl⟩,sm⟩ l hl
  refine ⟨l,_,rfl,zP.of zH,?_⟩
  have zl:=zK hl (HO.lst (((as.take xs.length).map yP).map V.bl))
  rw [List.take_of_length_le (by omega)] at zl |-
  rw [show ((as.map yP).all id)=as.all yP by rw [List.all_map]; rfl]
  have z:=q _ (sm.trans zl)
  rw [show xJ n (.tup as)=as.all yP from by show (decide ((as.length:Int)=n + 1) && _)=_; rw [decide_eq_true (by rw [<- lx]; exact c)]; rfl] at z
  exact z
 | _=>exact zr rfl (q _ (zC.refl _))
theorem Yt {k:Nat} {f:Addr} {fd:FuncData} {dv:Value} {d0:Nat} (F:yt K "copied" "copied" gW f fd dv) (B:Bl mg) (ay:wk P w K mg base "copied" ["value","depth"] k (ue ac d0) (.int 5)):zL P w K mg base zj (k + 1) f fd ["value","depth"] (ue ac (d0 + 1)):=by
 refine F.ok Q0 (λvs H Q E h=>?_) (λcdv A outer s H vs Q E hr h=>?_)
 ·obtain ⟨_,_,_,_,rfl,_⟩:=h
  rfl
 obtain ⟨v,a,d,j,rfl,hv,fa,jk,jd,q⟩:=h
 refine ⟨_,(zS (yT (yp wQ (zB 1) zJ (yS _)) (zX (zo (zB 0))) yc)
  (zS (yT (yo (yG vR rfl B.isinstance_ yj (zA (zB 0) (zA (vB (v:=.ty "list") (u:=.type "list") rfl B.list_ vP rfl) zE)))) (zX (zo (xY (own:=["part"]) (caps:=[(1,"depth")]) (wD (S:=zW gW) (N:=["value","depth"]) rfl (by decide +kernel) rfl ⟨_,rfl⟩ rfl (by decide +kernel) (by decide +kernel)) rfl (xB (zB 0)) (λ_ _ _ _=>zu (i:=0) (show (["part","depth"]:List Str).Nodup by decide +kernel) rfl (Or.inl rfl)) (λ_ _ _ _=>(zZ ay.fn hr rfl (zA (zB 0) (zA (zR (yF wj) (zB 1) zJ) zE))))))) yc)
  (zS (yT (yo (yG vR rfl B.isinstance_ yj (zA (zB 0) (zA (vB (v:=.ty "tuple") (u:=.type "tuple") rfl B.tuple_ uK rfl) zE)))) (zX (zo (vC wu rfl B.tuple_ uK (zA (xY (own:=["part"]) (caps:=[(1,"depth")]) (wD (S:=zW gW) (N:=["value","depth"]) rfl (by decide +kernel) rfl ⟨_,rfl⟩ rfl (by decide +kernel) (by decide +kernel)) rfl (ZW (zB 0)) (λ_ _ _ _=>zu (i:=0) (show (["part","depth"]:List Str).Nodup by decide +kernel) rfl (Or.inl rfl)) (λ_ _ _ _=>(zZ ay.fn hr rfl (zA (zB 0) (zA (zR (yF wj) (zB 1) zJ) zE))))) zE)))) yc)
  (zX (zo (zB 0)))))),?_⟩
 try dsimp only [zM,Cx.nox,Cx.wish]
 obtain ⟨ty,ak⟩:=hv.ask ag Y.a
 refine ⟨_,rfl,rfl,_,rfl,?_⟩
 by_cases dz:d=0
 ·cases hv with
  | int i=>exact yM (xv dz) ⟨_,rfl,q _ H (zC.refl _) (.int i) λ_=>rfl⟩
  | bool i=>exact yM (xv dz) ⟨_,rfl,q _ H (zC.refl _) (.bool i) λ_=>rfl⟩
  | non=>exact yM (xv dz) ⟨_,rfl,q _ H (zC.refl _) .non λ_=>rfl⟩
  | str i=>exact yM (xv dz) ⟨_,rfl,q _ H (zC.refl _) (.str i) λ_=>rfl⟩
  | lst e h=>
   obtain ⟨j2,rfl,_⟩:=fa.lst1
   omega
  | tup e h=>
   obtain ⟨j2,rfl,_⟩:=fa.tup1
   omega
  | dic e=>cases fa
  | mode e h1 h2 h3 h4 h5 h6=>cases fa
 refine zr (wM dz) ?_
 refine ⟨_,rfl,_,_,_,_,rfl,ak.ty,ak.l,_,rfl,?_⟩
 cases hv with
 | @lst p xs as e h=>
  refine yM rfl ?_
  have lx:xs.length=as.length:=Paired.length h
  obtain ⟨j2,rfl,fw,fw2⟩:=fa.lst1
  refine ⟨_,rfl,p,rfl,⟨_,zP.of e⟩,xu (K:=K) (a:=p) (xs:=xs) (λi ys σ H'=>Paired (AV ac (xm H H')) ys (as.take i)/\(∃ o,σ=[o,some (.int d)])/\zC H H')
   ⟨.nil,⟨none,rfl⟩,zC.refl _⟩ (λi ys σ H' hi ⟨e1,_,sm⟩=>⟨zP.of (sm _ _ e),by have:=Paired.length e1; rw [List.length_take] at this; omega⟩) (Nat.le_of_lt (zy (by omega))) ?_ ?_⟩
  ·rintro i x ys σ H' hi ⟨hz,⟨o,rfl⟩,sm⟩
   obtain ⟨a1,ha1,hx⟩:=xF h hi
   refine ⟨_,rfl,_,rfl,_,_,rfl,rfl,x,a1,d - 1,j2 + 1,rfl,hx.same sm,fw2 a1 (List.mem_of_getElem? ha1),by omega,by omega,λv' H2 s2 hv' _=>⟨?_,⟨_,rfl⟩,sm.trans s2⟩⟩
   rw [xO ha1]
   exact xZ (R:=AV ac (xm H H2)) (hv'.same (Wu sm)) (j4 (kS s2) hz)
  rintro ys σ H' ⟨hz,⟨o,rfl⟩,sm⟩ l hl
  rw [List.take_of_length_le (by omega)] at hz
  have zl:=zK hl (HO.lst ys)
  exact q _ _ (sm.trans zl) (.lst (W3 (sm.free hl)) (j4 (kS zl) hz)) (λz=>by omega)
 | @tup p xs as e h=>
  refine zr rfl ?_
  refine ⟨_,rfl,_,_,_,_,rfl,ak.ty,ak.u,_,rfl,yM rfl ?_⟩
  have lx:xs.length=as.length:=Paired.length h
  obtain ⟨j2,rfl,fw,fw2⟩:=fa.tup1
  refine ⟨_,rfl,p,rfl,⟨_,zn.of e⟩,Z1 (K:=K) (a:=p) (xs:=xs) (λi ys σ H'=>Paired (AV ac (xm H H')) ys (as.take i)/\(∃ o,σ=[o,some (.int d)])/\zC H H')
   ⟨.nil,⟨none,rfl⟩,zC.refl _⟩ (λi ys σ H' hi ⟨e1,_,sm⟩=>⟨zn.of (sm _ _ e),by have:=Paired.length e1; rw [List.length_take] at this; omega⟩) (Nat.le_of_lt (zy (by omega))) ?_ ?_⟩
  ·rintro i x ys σ H' hi ⟨hz,⟨o,rfl⟩,sm⟩
   obtain ⟨a1,ha1,hx⟩:=xF h hi
   refine ⟨_,rfl,_,rfl,_,_,rfl,rfl,x,a1,d - 1,j2 + 1,rfl,hx.same sm,fw2 a1 (List.mem_of_getElem? ha1),by omega,by omega,λv' H2 s2 hv' _=>⟨?_,⟨_,rfl⟩,sm.trans s2⟩⟩
   rw [xO ha1]
   exact xZ (R:=AV ac (xm H H2)) (hv'.same (Wu sm)) (j4 (kS s2) hz)
  rintro ys σ H' ⟨hz,⟨o,rfl⟩,sm⟩ l hl
  rw [List.take_of_length_le (by omega)] at hz
  have zl:=zK hl (HO.lst ys)
  refine ⟨l,_,rfl,.inl ⟨zP.of zH,λt ht=>?_⟩⟩
  have zt:=zK ht (HO.tup ys)
  exact q _ _ (sm.trans (zl.trans zt)) (.tup (W3 ((sm.trans zl).free ht)) (j4 (kS (zl.trans zt)) hz)) (λz=>by omega)
 | int i=>exact zr rfl ⟨_,rfl,_,_,_,_,rfl,ak.ty,ak.u,_,rfl,zr rfl ⟨_,rfl,q _ H (zC.refl _) (.int i) λ_=>rfl⟩⟩
 | bool i=>exact zr rfl ⟨_,rfl,_,_,_,_,rfl,ak.ty,ak.u,_,rfl,zr rfl ⟨_,rfl,q _ H (zC.refl _) (.bool i) λ_=>rfl⟩⟩
 | non=>exact zr rfl ⟨_,rfl,_,_,_,_,rfl,ak.ty,ak.u,_,rfl,zr rfl ⟨_,rfl,q _ H (zC.refl _) .non λ_=>rfl⟩⟩
 | str i=>exact zr rfl ⟨_,rfl,_,_,_,_,rfl,ak.ty,ak.u,_,rfl,zr rfl ⟨_,rfl,q _ H (zC.refl _) (.str i) λ_=>rfl⟩⟩
 | dic e=>cases fa
 | mode e h1 h2 h3 h4 h5 h6=>cases fa
theorem KD {k:Nat} {f:Addr} {fd:FuncData} (F:yA K "is_table" "is_table" kn f fd) (B:Bl mg) (aF:Fn P w K mg base "is_numbers" ["value","count"] k kQ):zL P w K mg base zj (k + 1) f fd ["value","tall","wide"] Z9:=by
 refine F.ok Q1 (λvs H Q E h=>?_) (λcdv A outer s H vs Q E hr h=>?_)
 ·obtain ⟨_,_,_,_,rfl,_⟩:=h
  rfl
 obtain ⟨a,tv,tab,w0,rfl,ha,htv,few,tw,w9,q⟩:=h
 refine ⟨_,(zX (zo (wA (yG vR rfl B.isinstance_ yj (zA (zB 0) (zA (vB (v:=.ty "list") (u:=.type "list") rfl B.list_ vP rfl) zE))) (wA (uE wQ (yG xb rfl B.len_ vm (zA (zB 0) zE)) (zB 1) (yS _)) (vN (yG (jn rfl) rfl B.all_ jp (zA (xY (own:=["part"]) (caps:=[(2,"wide")]) (wD (S:=zW kn) (N:=["value","tall","wide"]) rfl (by decide +kernel) rfl ⟨_,rfl⟩ rfl (by decide +kernel) (by decide +kernel)) rfl (xB (zB 0)) (λ_ _ _ _=>zu (i:=0) (show (["part","wide"]:List Str).Nodup by decide +kernel) rfl (Or.inl rfl)) (λ_ _ _ _=>(zZ aF hr rfl (zA (zB 0) (zA (zB 1) zE))))) zE))))))),?_⟩
 try dsimp only [zM,Cx.nox,Cx.wish]
 have lt:tv.length=tab.length:=Paired.length htv
 refine ⟨_,rfl,_,_,_,_,rfl,.lst ha,kL K,_,rfl,yH ?_⟩
 refine ⟨_,rfl,a,_,rfl,.inl (zP.of ha),_,rfl,rfl,_,rfl,yM (xv (by omega)) ?_⟩
 refine ⟨_,rfl,a,rfl,⟨_,zP.of ha⟩,xu (K:=K) (a:=a) (xs:=tv) (λi ys σ H'=>ys=(List.replicate i true).map V.bl/\(∃ o,σ=[o,some (.int (w0:Int))])/\zC H H')
  ⟨rfl,⟨none,rfl⟩,zC.refl _⟩ (λi ys σ H' hi ⟨e1,_,sm⟩=>⟨zP.of (sm _ _ ha),by rw [e1,List.length_map,List.length_replicate]; exact Nat.le_refl _⟩) (Nat.le_of_lt (zy (by omega))) ?_ ?_⟩
 ·rintro i x ys σ H' hi ⟨rfl,⟨o,rfl⟩,sm⟩
  obtain ⟨r,hr',b,rfl,eb⟩:=xF htv hi
  have lw:=tw r (List.mem_of_getElem? hr')
  refine ⟨_,rfl,_,rfl,b,r,(by rw [lw]; rfl),sm _ _ eb,(by omega),λH2 s2=>⟨?_,⟨_,rfl⟩,sm.trans s2⟩⟩
  rw [List.replicate_succ',List.map_append]
  rfl
 rintro ys σ H' ⟨rfl,⟨o,rfl⟩,sm⟩ l hl
 refine ⟨l,List.replicate _ true,rfl,zP.of zH,?_⟩
 rw [gJ]
 exact q _ (sm.trans (zK hl _))
theorem KE {k:Nat} {f:Addr} {fd:FuncData} (F:yA K "is_room" "is_room" ko f fd) (B:Bl mg) (aO:Fn P w K mg base "is_row" ["value","many"] k YA):zL P w K mg base zj (k + 1) f fd ["value","many"] YB:=by
 refine F.ok Q2 (λvs H Q E h=>?_) (λcdv A outer s H vs Q E hr h=>?_)
 ·obtain ⟨_,_,_,_,rfl,_⟩:=h
  rfl
 obtain ⟨a,rv,rows,n,rfl,ha,hrv,few,rl,n8,q⟩:=h
 refine ⟨_,(zX (zo (wA (yG vR rfl B.isinstance_ yj (zA (zB 0) (zA (vB (v:=.ty "list") (u:=.type "list") rfl B.list_ vP rfl) zE))) (vN (yG (jn rfl) rfl B.all_ jp (zA (xY (own:=["row"]) (caps:=[(1,"many")]) (wD (S:=zW ko) (N:=["value","many"]) rfl (by decide +kernel) rfl ⟨_,rfl⟩ rfl (by decide +kernel) (by decide +kernel)) rfl (xB (zB 0)) (λ_ _ _ _=>zu (i:=0) (show (["row","many"]:List Str).Nodup by decide +kernel) rfl (Or.inl rfl)) (λ_ _ _ _=>(zZ aO hr rfl (zA (zB 0) (zA (zB 1) zE))))) zE)))))),?_⟩
 try dsimp only [zM,Cx.nox,Cx.wish]
 have lr:rv.length=rows.length:=Paired.length hrv
 refine ⟨_,rfl,_,_,_,_,rfl,.lst ha,kL K,_,rfl,yH ?_⟩
 refine ⟨_,rfl,a,rfl,⟨_,zP.of ha⟩,xu (K:=K) (a:=a) (xs:=rv) (λi ys σ H'=>ys=(List.replicate i true).map V.bl/\(∃ o,σ=[o,some (.int (n:Int))])/\zC H H')
  ⟨rfl,⟨none,rfl⟩,zC.refl _⟩ (λi ys σ H' hi ⟨e1,_,sm⟩=>⟨zP.of (sm _ _ ha),by rw [e1,List.length_map,List.length_replicate]; exact Nat.le_refl _⟩) (Nat.le_of_lt (zy (by omega))) ?_ ?_⟩
 ·rintro i x ys σ H' hi ⟨rfl,⟨o,rfl⟩,sm⟩
  obtain ⟨r,hr',b,rfl,eb⟩:=xF hrv hi
  refine ⟨_,rfl,_,rfl,b,r,n,rfl,sm _ _ eb,rl r (List.mem_of_getElem? hr'),(by omega),λH2 s2=>⟨?_,⟨_,rfl⟩,sm.trans s2⟩⟩
  rw [List.replicate_succ',List.map_append]
  rfl
 rintro ys σ H' ⟨rfl,⟨o,rfl⟩,sm⟩ l hl
 refine ⟨l,List.replicate _ true,rfl,zP.of zH,?_⟩
 rw [gJ]
 exact q _ (sm.trans (zK hl _))
theorem KG {k:Nat} {f:Addr} {fd:FuncData} (F:yA K "is_push" "is_push" Yn f fd) (B:Bl mg) (av:Fn P w K mg base "is_whole" ["thing"] k gG):zL P w K mg base zj (k + 1) f fd ["value"] YC:=by
 refine F.ok Q3 (λvs H Q E h=>?_) (λcdv A outer s H vs Q E hr h=>?_)
 ·obtain ⟨_,_,_,rfl,_⟩:=h
  rfl
 obtain ⟨a,lo,hi,rfl,ha,lh,q⟩:=h
 refine ⟨_,(zS (yT (PW.pt (wT (xo (yo (yG vR rfl B.isinstance_ yj (zA (zB 0) (zA (vB (v:=.ty "tuple") (u:=.type "tuple") rfl B.tuple_ uK rfl) zE))))) (wp (yp uy (yG xb rfl B.len_ vm (zA (zB 0) zE)) zJ (yS _))))) (zX (zo xK)) yc)
  (zX (zo (wA (zZ av hr rfl (zA (wK gE (zB 0) zJ (λ_ _=>rfl)) zE)) (wA (zZ av hr rfl (zA (wK gE (zB 0) zJ (λ_ _=>rfl)) zE)) (vN (uE (yF Xv) (wK gE (zB 0) zJ (λ_ _=>rfl)) (wK gE (zB 0) zJ (λ_ _=>rfl)) (yS _)))))))),?_⟩
 try dsimp only [zM,Cx.nox,Cx.wish]
 refine ⟨_,rfl,_,_,_,_,rfl,.tup ha,Jb K,_,rfl,zb ?_⟩
 refine ⟨_,rfl,a,_,rfl,.inr (zn.of ha),rfl,_,rfl,qh rfl ?_⟩
 refine ⟨_,rfl,a,_,0,_,rfl,rfl,zn.of ha,WV,lo,rfl,_,rfl,yH ?_⟩
 refine ⟨_,rfl,a,_,1,_,rfl,rfl,zn.of ha,WW,hi,rfl,_,rfl,yH ?_⟩
 refine ⟨_,rfl,a,_,0,_,rfl,rfl,zn.of ha,WV,_,rfl,a,_,1,_,rfl,rfl,zn.of ha,WW,_,_,rfl,rfl,?_⟩
 have z:decide (lo<=hi)=true:=decide_eq_true lh
 show Q (.bl (decide (lo<=hi))) H
 rw [z]
 exact q
theorem KH {k:Nat} {f:Addr} {fd:FuncData} (F:yA K "__init__" "Mode.__init__" Yo f fd) (B:Bl mg) (ay:wk P w K mg base "copied" ["value","depth"] k gF (.int 5)):zL P w K mg base zj (k + 1) f fd ["self","rows","nexts","steer","push","add","divisor"] (ju ac):=by
 refine F.ok Q4 (λvs H Q E h=>?_) (λcdv A outer s H vs Q E hr h=>?_)
 ·obtain ⟨_,_,_,_,_,_,_,_,_,_,_,_,_,rfl,_⟩:=h
  rfl
 obtain ⟨o,dx,ra,na,sa,pa,aa,rv,nv,pv,m,n0,p0,rfl,ho,MO,hra,hrv,hna,hnv,hsa,hpa,hpv,haa,q⟩:=h
 refine ⟨_,(zS (wC (zB 0) (jA ay hr rfl (zA (zB 1) zE)) rfl)
  (zS (wC (zB 0) (jA ay hr rfl (zA (zB 2) zE)) rfl)
  (zS (wC (zB 0) (jA ay hr rfl (zA (zB 3) zE)) rfl)
  (zS (wC (zB 0) (jA ay hr rfl (zA (zB 4) zE)) rfl)
  (zS (wC (zB 0) (jA ay hr rfl (zA (zB 5) zE)) rfl)
  (zX (wC (zB 0) (zB 6) rfl))))))),?_⟩
 try dsimp only [zM,Cx.nox,Cx.wish]
 have n3:=MO.n3
 have p6:=MO.p6
 have G0:zw o H H:=λ_ _ e _=>e
 refine ⟨_,rfl,.inr (.inl ⟨ra,rv,m.rows,5,rfl,(by decide),hra,hrv,MO.few,(λx hx=>by have:=MO.rows x hx; omega),λr lr H1 s1 fr er hr=>?_⟩)⟩
 refine ⟨_,rfl,o,ac,dx,_,rfl,(s1 _ _ ho),ag.cl,ai.n_rows,(by show 0 < 1000; decide),?_⟩
 have o1:=zH (H:=H1) (a:=o) (o:=HO.ins ac dx (zD "rows" (.ref r) []))
 have G1:zw o H (upd H1 o (HO.ins ac dx (zD "rows" (.ref r) []))):=G0.trans ((zC.but s1).trans (xP o H1 _))
 have T1:zw o H1 (upd H1 o (HO.ins ac dx (zD "rows" (.ref r) []))):=xP o H1 _
 have b1:=s1 _ _ ho
 obtain ⟨J1,hJ1⟩:∃ J,J=upd H1 o (HO.ins ac dx (zD "rows" (.ref r) [])):=⟨_,rfl⟩
 rw [<- hJ1] at o1 G1 T1 |-
 refine ⟨_,rfl,.inr (.inr ⟨na,nv,m.nexts,5,rfl,(by decide),(keepB ho G1 hna (λz=>by cases z)),(zI.keepB ho G1 hnv),(by have:=MO.nexts.1; omega),(λx hx=>by have:=MO.nexts.2 x hx; omega),λn ln H2 s2 fn en hn=>?_⟩)⟩
 refine ⟨_,rfl,o,ac,dx,_,rfl,(s2 _ _ o1),ag.cl,ai.n_nexts,(by show 1 < 1000; decide),?_⟩
 have o2:=zH (H:=H2) (a:=o) (o:=HO.ins ac dx (zD "nexts" (.ref n) (zD "rows" (.ref r) [])))
 have G2:zw o H (upd H2 o (HO.ins ac dx (zD "nexts" (.ref n) (zD "rows" (.ref r) [])))):=G1.trans ((zC.but s2).trans (xP o H2 _))
 have T2:zw o H2 (upd H2 o (HO.ins ac dx (zD "nexts" (.ref n) (zD "rows" (.ref r) [])))):=xP o H2 _
 have b2:=s2 _ _ o1
 obtain ⟨J2,hJ2⟩:∃ J,J=upd H2 o (HO.ins ac dx (zD "nexts" (.ref n) (zD "rows" (.ref r) []))):=⟨_,rfl⟩
 rw [<- hJ2] at o2 G2 T2 |-
 refine ⟨_,rfl,.inl (.inr (.inl ⟨sa,m.steer,5,rfl,(by decide),(keepB ho G2 hsa (λz=>by cases z)),(by have:=MO.steer; omega),λs H3 s3 fs es=>?_⟩))⟩
 refine ⟨_,rfl,o,ac,dx,_,rfl,(s3 _ _ o2),ag.cl,ai.n_steer,(by show 2 < 1000; decide),?_⟩
 have o3:=zH (H:=H3) (a:=o) (o:=HO.ins ac dx (zD "steer" (.ref s) (zD "nexts" (.ref n) (zD "rows" (.ref r) []))))
 have G3:zw o H (upd H3 o (HO.ins ac dx (zD "steer" (.ref s) (zD "nexts" (.ref n) (zD "rows" (.ref r) []))))):=G2.trans ((zC.but s3).trans (xP o H3 _))
 have T3:zw o H3 (upd H3 o (HO.ins ac dx (zD "steer" (.ref s) (zD "nexts" (.ref n) (zD "rows" (.ref r) []))))):=xP o H3 _
 have b3:=s3 _ _ o2
 obtain ⟨J3,hJ3⟩:∃ J,J=upd H3 o (HO.ins ac dx (zD "steer" (.ref s) (zD "nexts" (.ref n) (zD "rows" (.ref r) [])))):=⟨_,rfl⟩
 rw [<- hJ3] at o3 G3 T3 |-
 refine ⟨_,rfl,.inr (.inr ⟨pa,pv,m.push,5,rfl,(by decide),(keepB ho G3 hpa (λz=>by cases z)),(zI.keepB ho G3 hpv),(by have:=MO.push.1; omega),(λx hx=>by have:=MO.push.2 x hx; omega),λp lp H4 s4 fp ep hp=>?_⟩)⟩
 refine ⟨_,rfl,o,ac,dx,_,rfl,(s4 _ _ o3),ag.cl,ai.n_push,(by show 3 < 1000; decide),?_⟩
 have o4:=zH (H:=H4) (a:=o) (o:=HO.ins ac dx (zD "push" (.ref p) (zD "steer" (.ref s) (zD "nexts" (.ref n) (zD "rows" (.ref r) [])))))
 have G4:zw o H (upd H4 o (HO.ins ac dx (zD "push" (.ref p) (zD "steer" (.ref s) (zD "nexts" (.ref n) (zD "rows" (.ref r) [])))))):=G3.trans ((zC.but s4).trans (xP o H4 _))
 have T4:zw o H4 (upd H4 o (HO.ins ac dx (zD "push" (.ref p) (zD "steer" (.ref s) (zD "nexts" (.ref n) (zD "rows" (.ref r) [])))))):=xP o H4 _
 have b4:=s4 _ _ o3
 obtain ⟨J4,hJ4⟩:∃ J,J=upd H4 o (HO.ins ac dx (zD "push" (.ref p) (zD "steer" (.ref s) (zD "nexts" (.ref n) (zD "rows" (.ref r) []))))):=⟨_,rfl⟩
 rw [<- hJ4] at o4 G4 T4 |-
 refine ⟨_,rfl,.inl (.inr (.inl ⟨aa,m.add,5,rfl,(by decide),(keepB ho G4 haa (λz=>by cases z)),(by have:=MO.add; omega),λa H5 s5 fa ea=>?_⟩))⟩
 refine ⟨_,rfl,o,ac,dx,_,rfl,(s5 _ _ o4),ag.cl,ai.n_add,(by show 4 < 1000; decide),?_⟩
 have o5:=zH (H:=H5) (a:=o) (o:=HO.ins ac dx (zD "add" (.ref a) (zD "push" (.ref p) (zD "steer" (.ref s) (zD "nexts" (.ref n) (zD "rows" (.ref r) []))))))
 have G5:zw o H (upd H5 o (HO.ins ac dx (zD "add" (.ref a) (zD "push" (.ref p) (zD "steer" (.ref s) (zD "nexts" (.ref n) (zD "rows" (.ref r) []))))))):=G4.trans ((zC.but s5).trans (xP o H5 _))
 have T5:zw o H5 (upd H5 o (HO.ins ac dx (zD "add" (.ref a) (zD "push" (.ref p) (zD "steer" (.ref s) (zD "nexts" (.ref n) (zD "rows" (.ref r) []))))))):=xP o H5 _
 have b5:=s5 _ _ o4
 obtain ⟨J5,hJ5⟩:∃ J,J=upd H5 o (HO.ins ac dx (zD "add" (.ref a) (zD "push" (.ref p) (zD "steer" (.ref s) (zD "nexts" (.ref n) (zD "rows" (.ref r) [])))))):=⟨_,rfl⟩
 rw [<- hJ5] at o5 G5 T5 |-
 refine ⟨_,rfl,_,rfl,o,ac,dx,_,rfl,o5,ag.cl,ai.n_divisor,(by show 5 < 1000; decide),?_⟩
 have e6:upd J5 o (HO.ins ac dx (zD "divisor" (.int m.div) (zD "add" (.ref a) (zD "push" (.ref p) (zD "steer" (.ref s) (zD "nexts" (.ref n) (zD "rows" (.ref r) []))))))) o=some (.ins ac dx (YD (.ref r) (.ref n) (.ref s) (.ref p) (.ref a) m.div)):=zH.trans (by rw [QB])
 have T6:zw o J5 (upd J5 o (HO.ins ac dx (zD "divisor" (.int m.div) (zD "add" (.ref a) (zD "push" (.ref p) (zD "steer" (.ref s) (zD "nexts" (.ref n) (zD "rows" (.ref r) [])))))))):=xP o J5 _
 obtain ⟨J6,hJ6⟩:∃ J,J=upd J5 o (HO.ins ac dx (zD "divisor" (.int m.div) (zD "add" (.ref a) (zD "push" (.ref p) (zD "steer" (.ref s) (zD "nexts" (.ref n) (zD "rows" (.ref r) []))))))):=⟨_,rfl⟩
 rw [<- hJ6] at e6 T6 |-
 have U5:zw o H5 J6:=T5.trans T6
 have U4:zw o H4 J6:=T4.trans ((zC.but s5).trans U5)
 have U3:zw o H3 J6:=T3.trans ((zC.but s4).trans U4)
 have U2:zw o H2 J6:=T2.trans ((zC.but s3).trans U3)
 have U1:zw o H1 J6:=T1.trans ((zC.but s2).trans U2)
 have G6:zw o H J6:=G5.trans T6
 have nH:∀ {k:Nat} {Hk:Hp} {x:HO},zw o H Hk->Hk o=some x->∀ {vs:List V} {tab:List (List Int)} {Hj:Hp},Paired (xI Hk Hj) vs tab->zw o Hj J6->(∃ y,Hj o=some y/\∀ l,HO.lst l≠y)->Paired (xI H J6) vs tab:=λG e _ _ _ z U ⟨y,ey,ny⟩=>
  Paired.mapP z λ_ _ ⟨c,e1,e2,e3⟩=>⟨c,e1,jK G e e2,U _ _ e3 λw=>by rw [w,ey] at e3; exact ny _ (Option.some.inj e3).symm⟩
 have NI:∀ (fs:List (Str × V)) (l:List V),HO.lst l≠.ins ac dx fs:=λ_ _ z=>by cases z
 refine q ⟨dx,r,lr,n,ln,s,p,lp,a⟩ J6 G6 ⟨e6,keepB b1 U1 er (NI _ _),zh.keepB b1 U1 hr,keepB b2 U2 en (NI _ _),zI.keepB b2 U2 (xI.tab hn),keepB b3 U3 es (NI _ _),keepB b4 U4 ep (NI _ _),zI.keepB b4 U4 (xI.tab hp),keepB b5 U5 ea (NI _ _)⟩ fr (jK G1 o1 fn) (jK G2 o2 fs) (jK G3 o3 fp) (jK G4 o4 fa) (nH (k:=0) G1 o1 hn U2 ⟨_,b2,NI _⟩) (nH (k:=0) G3 o3 hp U4 ⟨_,b4,NI _⟩)
theorem KI {k:Nat} {f:Addr} {fd:FuncData} (F:yA K "is_mode" "is_mode" Yp f fd) (B:Bl mg) (aY:Fn P w K mg base "is_room" ["value","many"] k YB) (aU:Fn P w K mg base "is_table" ["value","tall","wide"] k Z9) (aF:Fn P w K mg base "is_numbers" ["value","count"] k kQ) (av:Fn P w K mg base "is_whole" ["thing"] k gG):zL P w K mg base zj (k + 1) f fd ["value","many","wide"] (YE ac):=by
 refine F.ok Q5 (λvs H Q E h=>?_) (λcdv A outer s H vs Q E hr h=>?_)
 ·obtain ⟨_,_,_,_,rfl,_⟩:=h
  rfl
 obtain ⟨v,m,n,p,rfl,⟨o,M,rfl,k0⟩,MO,q⟩:=h
 refine ⟨_,(zS (yT (PW.pt (wT (xo (yo (yG (show yW _ _ (vo K) from uQ) rfl B.isinstance_ yj (zA (zB 0) (zA (uP ag rfl) zE))))) (wp (xo (yo (zZ aY hr rfl (zA (ze (zB 0) rfl) (zA (zB 1) zE)))))))) (zX (zo xK)) yc)
  (zS (yT (PW.pt (wT (xo (yo (zZ aU hr rfl (zA (ze (zB 0) rfl) (zA (zB 1) (zA (zB 1) zE)))))) (wp (xo (yo (zZ aU hr rfl (zA (ze (zB 0) rfl) (zA (zB 1) (zA (zB 2) zE))))))))) (zX (zo xK)) yc)
  (zS (yT (PW.pt (wT (xo (yo (zZ aF hr rfl (zA (ze (zB 0) rfl) (zA (zB 1) zE))))) (wp (xo (yo (zZ aF hr rfl (zA (ze (zB 0) rfl) (zA (zB 1) zE)))))))) (zX (zo xK)) yc)
  (zX (zo (wA (zZ av hr rfl (zA (ze (zB 0) rfl) zE)) (vN (uE (yF Zb) (ze (zB 0) rfl) zJ (yS _))))))))),?_⟩
 try dsimp only [zM,Cx.nox,Cx.wish]
 have n3:=MO.n3
 have p6:=MO.p6
 refine ⟨_,rfl,_,_,_,_,rfl,(ag.ty k0.ins),vp,_,rfl,zb ?_⟩
 refine ⟨_,rfl,o,ac,M.dx,_,_,rfl,k0.ins,ag.cl,ai.n_rows,rfl,_,rfl,M.r,M.rv,m.rows,n,rfl,k0.hr,k0.hrv,MO.few,MO.rows,(by omega),λH1 s1=>?_⟩
 refine ⟨_,rfl,zb ?_⟩
 refine ⟨_,rfl,o,ac,M.dx,_,_,rfl,(s1 _ _ k0.ins),ag.cl,ai.n_nexts,rfl,_,rfl,_,rfl,M.n,M.nv,m.nexts,n,(by rw [MO.nexts.1]; rfl),s1 _ _ k0.hn,k0.hnv.same s1,(by have:=MO.nexts.1; omega),MO.nexts.2,(by omega),λH2 s2=>?_⟩
 have s12:=s1.trans s2
 refine ⟨_,rfl,zb ?_⟩
 refine ⟨_,rfl,o,ac,M.dx,_,_,rfl,(s12 _ _ k0.ins),ag.cl,ai.n_push,rfl,_,rfl,_,rfl,M.p,M.pv,m.push,p,(by rw [MO.push.1]; rfl),s12 _ _ k0.hp,k0.hpv.same s12,(by have:=MO.push.1; omega),MO.push.2,(by omega),λH3 s3=>?_⟩
 have s13:=s12.trans s3
 refine ⟨_,rfl,zb ?_⟩
 refine ⟨_,rfl,o,ac,M.dx,_,_,rfl,(s13 _ _ k0.ins),ag.cl,ai.n_steer,rfl,_,rfl,M.s,m.steer,(by rw [MO.steer]; rfl),s13 _ _ k0.hs,(by have:=MO.steer; omega),λH4 s4=>?_⟩
 have s14:=s13.trans s4
 refine ⟨_,rfl,zb ?_⟩
 refine ⟨_,rfl,o,ac,M.dx,_,_,rfl,(s14 _ _ k0.ins),ag.cl,ai.n_add,rfl,_,rfl,M.a,m.add,(by rw [MO.add]; rfl),s14 _ _ k0.ha,(by have:=MO.add; omega),λH5 s5=>?_⟩
 have s15:=s14.trans s5
 refine ⟨_,rfl,zb ?_⟩
 refine ⟨_,rfl,o,ac,M.dx,_,_,rfl,(s15 _ _ k0.ins),ag.cl,ai.n_divisor,rfl,m.div,rfl,_,rfl,yH ?_⟩
 refine ⟨_,rfl,o,ac,M.dx,_,_,rfl,(s15 _ _ k0.ins),ag.cl,ai.n_divisor,rfl,_,_,rfl,rfl,?_⟩
 have z:decide (m.div ≥ 1)=true:=decide_eq_true MO.div
 show Q (.bl (decide (m.div ≥ 1))) H5
 rw [z]
 exact q _ s15
theorem KJ {k:Nat} {f:Addr} {fd:FuncData} (F:yA K "is_sound" "is_sound" kq f fd) (B:Bl mg) (av:Fn P w K mg base "is_whole" ["thing"] k gG) (aZ:Fn P w K mg base "is_push" ["value"] k YC) (ba:Fn P w K mg base "is_mode" ["value","many","wide"] k (YE ac)):zL P w K mg base zj (k + 1) f fd ["many","pushes","modes"] (Yj ac):=by
 refine F.ok Q6 (λvs H Q E h=>?_) (λcdv A outer s H vs Q E hr h=>?_)
 ·obtain ⟨_,_,_,_,_,_,_,rfl,_⟩:=h
  rfl
 obtain ⟨pa,ma,pv,mv,n,bs,ms,rfl,hpa,hpv,hma,hmv,TO,q⟩:=h
 refine ⟨_,(zS (yT (PW.pt (wT (xo (yo (zZ av hr rfl (zA (zB 0) zE)))) (wT (yp (yF Za) (zB 0) zJ (yS _)) (wp (yp (yF uz) (zB 0) (qw rfl B.MOST_NUMBERS_) (yS _)))))) (zX (zo xK)) yc)
  (zS (yT (PW.pt (wT (xo (yo (yG vR rfl B.isinstance_ yj (zA (zB 1) (zA (vB (v:=.ty "list") (u:=.type "list") rfl B.list_ vP rfl) zE))))) (wp (xo (yo (yG (jn rfl) rfl B.all_ jp (zA (xY (own:=["push"]) (caps:=[]) (wr rfl) rfl (xB (zB 1)) (λ_ _ _ _=>zu (i:=0) (show (["push"]:List Str).Nodup by decide +kernel) rfl (Or.inl rfl)) (λ_ _ _ _=>(zZ aZ hr rfl (zA (zB 0) zE)))) zE))))))) (zX (zo xK)) yc)
  (zS (yT (PW.pt (wT (xo (yo (yG vR rfl B.isinstance_ yj (zA (zB 2) (zA (vB (v:=.ty "list") (u:=.type "list") rfl B.list_ vP rfl) zE))))) (wp (yp wQ (yG xb rfl B.len_ vm (zA (zB 2) zE)) zJ (yS _))))) (zX (zo xK)) yc)
  (zX (zo (yG (jn rfl) rfl B.all_ jp (zA (xY (own:=["mode"]) (caps:=[(0,"many"),(1,"pushes")]) (wD (S:=zW kq) (N:=["many","pushes","modes"]) rfl (by decide +kernel) rfl ⟨_,rfl⟩ rfl (by decide +kernel) (by decide +kernel)) rfl (xB (zB 2)) (λ_ _ _ _=>zu (i:=0) (show (["mode","many","pushes"]:List Str).Nodup by decide +kernel) rfl (Or.inl rfl)) (λ_ _ _ _=>(zZ ba hr rfl (zA (zB 0) (zA (zB 1) (zA (yG (show yW _ _ (jH K) from xb) rfl B.len_ vm (zA (zB 2) zE)) zE)))))) zE))))))),?_⟩
 try dsimp only [zM,Cx.nox,Cx.wish]
 have n1:=TO.n1
 have n3:=TO.n3
 have b6:=TO.b6
 have m1:=TO.m1
 have m40:=TO.m40
 have lp:pv.length=bs.length:=Paired.length hpv
 have lm:mv.length=ms.length:=Paired.length hmv
 refine ⟨_,rfl,(n:Int),rfl,_,rfl,zb ?_⟩
 refine ⟨_,rfl,_,_,rfl,rfl,_,rfl,zr (decide_eq_false (show ¬ ((n:Int) < 1) by omega)) ?_⟩
 refine ⟨_,rfl,_,_,rfl,rfl,_,rfl,zr (decide_eq_false (show ¬ ((n:Int) > 3) by omega)) ?_⟩
 refine ⟨_,rfl,_,_,_,_,rfl,.lst hpa,kL K,_,rfl,zb ?_⟩
 refine ⟨_,rfl,pa,rfl,⟨_,zP.of hpa⟩,xu (K:=K) (a:=pa) (xs:=pv) (λi ys σ H'=>ys=(List.replicate i true).map V.bl/\(∃ o,σ=[o])/\H'=H)
  ⟨rfl,⟨none,rfl⟩,rfl⟩ (λi ys σ H' hi ⟨e1,_,e3⟩=>⟨by rw [e3]; exact zP.of hpa,by rw [e1,List.length_map,List.length_replicate]; exact Nat.le_refl _⟩) (Nat.le_of_lt (zy (by omega))) ?_ ?_⟩
 ·rintro i x ys σ H' hi ⟨rfl,⟨o,rfl⟩,rfl⟩
  obtain ⟨b,hb,c,rfl,ec⟩:=xF hpv hi
  refine ⟨_,rfl,c,b.1,b.2,rfl,ec,TO.bok b (List.mem_of_getElem? hb),?_,⟨_,rfl⟩,rfl⟩
  rw [List.replicate_succ',List.map_append]
  rfl
 rintro ys σ H1 ⟨rfl,⟨o,rfl⟩,rfl⟩ l1 hl1
 refine ⟨l1,List.replicate _ true,rfl,zP.of zH,?_⟩
 rw [gJ]
 refine ⟨_,rfl,zb ?_⟩
 have s1:=zK hl1 (HO.lst ((List.replicate pv.length true).map V.bl))
 obtain ⟨H2,hH2⟩:∃ H2,H2=upd H1 l1 (HO.lst ((List.replicate pv.length true).map V.bl)):=⟨_,rfl⟩
 rw [<- hH2] at s1 |-
 have hma2:=s1 _ _ hma
 refine ⟨_,rfl,_,_,_,_,rfl,.lst hma2,kL K,_,rfl,zb ?_⟩
 refine ⟨_,rfl,ma,_,rfl,.inl (zP.of hma2),rfl,_,rfl,zr (wM (by omega)) ?_⟩
 refine ⟨_,rfl,ma,rfl,⟨_,zP.of hma2⟩,xu (K:=K) (a:=ma) (xs:=mv) (λi ys σ H'=>ys=(List.replicate i true).map V.bl/\(∃ o,σ=[o,some (.int (n:Int)),some (.ref pa)])/\zC H2 H')
  ⟨rfl,⟨none,rfl⟩,zC.refl _⟩ (λi ys σ H' hi ⟨e1,_,sm⟩=>⟨zP.of (sm _ _ hma2),by rw [e1,List.length_map,List.length_replicate]; exact Nat.le_refl _⟩) (Nat.le_of_lt (zy (by omega))) ?_ ?_⟩
 ·rintro i x ys σ H' hi ⟨rfl,⟨o,rfl⟩,sm⟩
  obtain ⟨md,hmd,hx⟩:=xF hmv hi
  have s2:=s1.trans sm
  refine ⟨_,rfl,_,rfl,_,rfl,pa,_,rfl,.inl (zP.of (s2 _ _ hpa)),x,md,n,bs.length,(by rw [lp]; rfl),hx.same s2,TO.mok md (List.mem_of_getElem? hmd),λH3 s3=>⟨?_,⟨_,rfl⟩,sm.trans s3⟩⟩
  rw [List.replicate_succ',List.map_append]
  rfl
 rintro ys σ H3 ⟨rfl,⟨o,rfl⟩,sm⟩ l hl
 refine ⟨l,List.replicate _ true,rfl,zP.of zH,?_⟩
 rw [gJ]
 exact q _ (s1.trans (sm.trans (zK hl _)))
theorem KL {k:Nat} {f:Addr} {fd:FuncData} (F:yA K "__init__" "Thing.__init__" Yq f fd) (B:Bl mg) (bb:Fn P w K mg base "is_sound" ["many","pushes","modes"] k (Yj ac)):zL P w K mg base (yL P w) (k + 1) f fd ["self","many","pushes","modes"] (j7 au ac C2):=by
 refine F.okX Q7 (λvs H Q E h=>?_) (λcdv A outer s H vs Q E hr h=>?_)
 ·obtain ⟨_,_,_,_,_,_,_,_,_,rfl,_⟩:=h
  rfl
 obtain ⟨o,dx,pa,ma,pv,mv,n,bs,ms,rfl,ho,hpa,hpv,hma,hmv,TO,qx,q⟩:=h
 refine ⟨_,(zS (yT (xo (yo (zZ bb hr rfl (zA (zB 1) (zA (zB 2) (zA (zB 3) zE)))))) (zX UV) yc)
  (zS (yT (PW.pt (wT (yp (yF uz) (yG xb rfl B.len_ vm (zA (zB 2) zE)) (qw rfl B.MOST_PUSHES_) (yS _)) (wp (yp (yF uz) (yG xb rfl B.len_ vm (zA (zB 3) zE)) (qw rfl B.MOST_MODES_) (yS _))))) (zX (j0 (C:=C2) (E:=E) (λ_ _ _ _ _ _ _ _ I mx qx=>jz I mx qx) Z.exc2 rfl Z.mg2 rfl (zA xV zE))) yc)
  (zS (wC (zB 0) (zB 1) rfl)
  (zS (wC (zB 0) (vC qe rfl B.list_ vP (zA (zB 2) zE)) rfl)
  (zX (wC (zB 0) (vC qe rfl B.list_ vP (zA (zB 3) zE)) rfl)))))),?_⟩
 try dsimp only [zM,Cx.nox,Cx.wish]
 have b6:=TO.b6
 have m40:=TO.m40
 have lp:pv.length=bs.length:=Paired.length hpv
 have lm:mv.length=ms.length:=Paired.length hmv
 refine ⟨_,rfl,_,rfl,_,rfl,pa,ma,pv,mv,n,bs,ms,rfl,hpa,hpv,hma,hmv,TO,λH1 s1=>?_⟩
 refine ⟨_,rfl,zb ?_⟩
 refine ⟨_,rfl,pa,_,rfl,.inl (zP.of (s1 _ _ hpa)),_,_,rfl,rfl,_,rfl,zr (decide_eq_false (show ¬ ((pv.length:Int) > 6) by omega)) ?_⟩
 refine ⟨_,rfl,ma,_,rfl,.inl (zP.of (s1 _ _ hma)),_,_,rfl,rfl,_,rfl,?_⟩
 by_cases c4:(mv.length:Int) > 40
 ·exact yM (decide_eq_true c4) ⟨(by show 1<=sizeLine; decide),qx (by omega) _ s1⟩
 refine zr (decide_eq_false c4) ?_
 have ho1:=s1 _ _ ho
 refine ⟨_,rfl,_,rfl,o,au,dx,_,rfl,ho1,am.cl,ao.n_many,(by show 0 < 1000; decide),?_⟩
 have NI:∀ (fs:List (Str × V)) (l:List V),HO.lst l≠.ins au dx fs:=λ_ _ z=>by cases z
 have e2:=zH (H:=H1) (a:=o) (o:=HO.ins au dx (zD "many" (.int (n:Int)) []))
 have T2:zw o H1 (upd H1 o (HO.ins au dx (zD "many" (.int (n:Int)) []))):=xP o H1 _
 obtain ⟨H2,hH2⟩:∃ H2,H2=upd H1 o (HO.ins au dx (zD "many" (.int (n:Int)) [])):=⟨_,rfl⟩
 rw [<- hH2] at e2 T2 |-
 have hpa2:=keepB ho1 T2 (s1 _ _ hpa) (NI _ _)
 have hma2:=keepB ho1 T2 (s1 _ _ hma) (NI _ _)
 refine ⟨_,rfl,pa,pv,rfl,.inl (zP.of hpa2),λkp hkp=>?_⟩
 have z3:=zK hkp (HO.lst pv)
 have ekp:=zH (H:=H2) (a:=kp) (o:=HO.lst pv)
 have G2:zw o H H2:=(zC.but s1).trans T2
 have nkp:=jK G2 e2 hkp
 obtain ⟨H3,hH3⟩:∃ H3,H3=upd H2 kp (HO.lst pv):=⟨_,rfl⟩
 rw [<- hH3] at z3 ekp |-
 refine ⟨_,rfl,o,au,dx,_,rfl,(z3 _ _ e2),am.cl,ao.n_kept_pushes,(by show 1 < 1000; decide),?_⟩
 have e4:=zH (H:=H3) (a:=o) (o:=HO.ins au dx (zD "kept_pushes" (.ref kp) (zD "many" (.int (n:Int)) [])))
 have T4:zw o H3 (upd H3 o (HO.ins au dx (zD "kept_pushes" (.ref kp) (zD "many" (.int (n:Int)) [])))):=xP o H3 _
 obtain ⟨H4,hH4⟩:∃ H4,H4=upd H3 o (HO.ins au dx (zD "kept_pushes" (.ref kp) (zD "many" (.int (n:Int)) []))):=⟨_,rfl⟩
 rw [<- hH4] at e4 T4 |-
 have e23:=z3 _ _ e2
 have hma4:=keepB e23 T4 (z3 _ _ hma2) (NI _ _)
 have hkp4:=keepB e23 T4 ekp (NI _ _)
 refine ⟨_,rfl,ma,mv,rfl,.inl (zP.of hma4),λkm hkm=>?_⟩
 have z5:=zK hkm (HO.lst mv)
 have ekm:=zH (H:=H4) (a:=km) (o:=HO.lst mv)
 have G4:zw o H H4:=G2.trans ((zC.but z3).trans T4)
 have nkm:=jK G4 e4 hkm
 have nkk:kp≠km:=wP hkp4 hkm
 obtain ⟨H5,hH5⟩:∃ H5,H5=upd H4 km (HO.lst mv):=⟨_,rfl⟩
 rw [<- hH5] at z5 ekm |-
 have e45:=z5 _ _ e4
 refine ⟨_,rfl,o,au,dx,_,rfl,(z5 _ _ e4),am.cl,ao.n_kept_modes,(by show 2 < 1000; decide),?_⟩
 have T6:zw o H5 (upd H5 o (HO.ins au dx (zD "kept_modes" (.ref km) (zD "kept_pushes" (.ref kp) (zD "many" (.int (n:Int)) []))))):=xP o H5 _
 exact q (by omega) kp km _ (G4.trans ((zC.but z5).trans T6)) zH (keepB e45 T6 (z5 _ _ hkp4) (NI _ _)) (keepB e45 T6 ekm (NI _ _))
theorem KM {k:Nat} {f:Addr} {fd:FuncData} (F:yA K "pushes" "Thing.pushes" Yr f fd) (B:Bl mg):zL P w K mg base zj (k + 1) f fd ["self"] (gH au ac):=by
 refine F.ok Q8 (λvs H Q E h=>?_) (λcdv A outer s H vs Q E hr h=>?_)
 ·obtain ⟨_,_,_,_,_,_,_,_,rfl,_⟩:=h
  rfl
 obtain ⟨o,kp,km,n,bs,ms,pv,mv,rfl,TA,q⟩:=h
 refine ⟨_,(zX (zo (vC qe rfl B.list_ vP (zA (ze (zB 0) rfl) zE)))),?_⟩
 try dsimp only [zM,Cx.nox,Cx.wish]
 obtain ⟨dx,ins⟩:=TA.ins
 refine ⟨_,rfl,o,au,dx,_,_,rfl,ins,am.cl,ao.n_kept_pushes,rfl,kp,pv,rfl,.inl (zP.of TA.hp),λl hl=>?_⟩
 exact q l _ (zK hl _) hl zH
theorem KN {k:Nat} {f:Addr} {fd:FuncData} (F:yA K "modes" "Thing.modes" Ys f fd) (B:Bl mg):zL P w K mg base zj (k + 1) f fd ["self"] (gI au ac):=by
 refine F.ok Q9 (λvs H Q E h=>?_) (λcdv A outer s H vs Q E hr h=>?_)
 ·obtain ⟨_,_,_,_,_,_,_,_,rfl,_⟩:=h
  rfl
 obtain ⟨o,kp,km,n,bs,ms,pv,mv,rfl,TA,q⟩:=h
 refine ⟨_,(zX (zo (vC qe rfl B.list_ vP (zA (ze (zB 0) rfl) zE)))),?_⟩
 try dsimp only [zM,Cx.nox,Cx.wish]
 obtain ⟨dx,ins⟩:=TA.ins
 refine ⟨_,rfl,o,au,dx,_,_,rfl,ins,am.cl,ao.n_kept_modes,rfl,km,mv,rfl,.inl (zP.of TA.hm),λl hl=>?_⟩
 exact q l _ (zK hl _) hl zH
end
inductive RA where
 | num (i:Int)
 | non
 | txt (x:Str)
 | lst
 | str (n a d:AK)
 | stp (r:RA) (lo hi:AK)
 | prt (row:AK) (x y:RA)
noncomputable def RA.dep:RA->Nat
 | .stp r _ _=>r.dep + 1
 | .prt _ x y=>max x.dep y.dep + 1
 | _=>1
theorem RA.dep_pos (t:RA):1<=t.dep:=by cases t <;> simp [RA.dep]
noncomputable def gX (n a d:V):List (Str × V):=[("numbers",n),("add",a),("divisor",d)]
noncomputable def gY (u lo hi:V):List (Str × V):=[("rule",u),("low",lo),("high",hi)]
noncomputable def RV (C C1 C2 C3:Addr) (H:Hp):V->RA->Prop
 | v,.num i=>v=.int i
 | v,.non=>v=.non
 | v,.txt x=>v=.str x
 | v,.lst=>∃ l xs,v=.ref l/\H l=some (.lst xs)
 | v,.str n a d=>∃ o dx vn va vd,v=.ref o/\H o=some (.ins C1 dx (gX vn va vd))/\AV C H vn n/\AV C H va a/\AV C H vd d/\FA 3 n
 | v,.stp r lo hi=>∃ o dx u vl vh,v=.ref o/\H o=some (.ins C2 dx (gY u vl vh))/\AV C H vl lo/\AV C H vh hi/\RV C C1 C2 C3 H u r
 | v,.prt row x y=>∃ o dx vr u w,v=.ref o/\H o=some (.ins C3 dx (jL vr u w))/\AV C H vr row/\FA 3 row/\RV C C1 C2 C3 H u x/\RV C C1 C2 C3 H w y
theorem RV.same {C C1 C2 C3:Addr} {H H':Hp} (s:zC H H'):∀ {t:RA} {v:V},RV C C1 C2 C3 H v t->RV C C1 C2 C3 H' v t
 | .num _,_,h=>h
 | .non,_,h=>h
 | .txt _,_,h=>h
 | .lst,_,⟨l,xs,e,h⟩=>⟨l,xs,e,s _ _ h⟩
 | .str ..,_,⟨o,dx,vn,va,vd,e,h,a,b,c,f⟩=>⟨o,dx,vn,va,vd,e,s _ _ h,a.same s,b.same s,c.same s,f⟩
 | .stp ..,_,⟨o,dx,u,vl,vh,e,h,a,b,r⟩=>⟨o,dx,u,vl,vh,e,s _ _ h,a.same s,b.same s,RV.same s r⟩
 | .prt ..,_,⟨o,dx,vr,u,w,e,h,a,f,r,r2⟩=>⟨o,dx,vr,u,w,e,s _ _ h,a.same s,f,RV.same s r,RV.same s r2⟩
noncomputable def uT (lo hi:AK):Bool:=yP lo && (yP hi && Qa lo hi)
noncomputable def we (n:Int):RA->Bool
 | .str ns a d=>wc n ns && (yP a && xx d)
 | _=>false
noncomputable def yg (n:Int):RA->Bool
 | .str ns a d=>wc n ns && (yP a && xx d)
 | .stp r lo hi=>uT lo hi && yg n r
 | .prt row x y=>xJ n row && (yg n x && yg n y)
 | _=>false
noncomputable def yz:RT->RA
 | .str ns a d=>.str (yC ns) (.int a) (.int d)
 | .stp t lo hi=>.stp (yz t) (.int lo) (.int hi)
 | .prt r x y=>.prt (yQ r) (yz x) (yz y)
theorem j8:∀ t:RT,(yz t).dep=t.dep
 | .str ..=>rfl
 | .stp t _ _=>by show (yz t).dep + 1=_; rw [j8 t]; rfl
 | .prt _ x y=>by show max (yz x).dep (yz y).dep + 1=_; rw [j8 x,j8 y]; rfl
theorem uU {C C1 C2 C3:Addr} {H:Hp} {n:Nat} (n8:n<=800):∀ {t:RT} {v:V},yY n t->xR C1 C2 C3 H v t->RV C C1 C2 C3 H v (yz t)
 | .str ..,_,S,⟨o,dx,la,e,h1,h2⟩=>⟨o,dx,_,_,_,e,h1,wR h2,.int _,.int _,(wS (k:=1) (by have:=S.1; omega)).fa⟩
 | .stp ..,_,S,⟨o,dx,u,e,h1,h2⟩=>⟨o,dx,u,_,_,e,h1,.int _,.int _,uU n8 S.1 h2⟩
 | .prt ..,_,S,⟨o,dx,ra,u,w,e,h1,h2,h3,h4⟩=>⟨o,dx,_,u,w,e,h1,vH h2,(vI (k:=1) (by have:=S.1; omega)).fa,uU n8 S.2.1 h3,uU n8 S.2.2 h4⟩
theorem gZ {n:Nat}:∀ {t:RT},yY n t->yg (n:Int) (yz t)=true
 | .str ns a d,S=>by
  show (wc (n:Int) (yC ns) && (true && decide (1<=d)))=true
  rw [Ww (by rw [S.1]),decide_eq_true (show 1<=d by have:=S.2; omega)]
  rfl
 | .stp t lo hi,S=>by
  show ((true && (true && decide (lo<=hi))) && yg (n:Int) (yz t))=true
  rw [decide_eq_true S.2,gZ S.1]
  rfl
 | .prt r x y,S=>by
  show (xJ (n:Int) (yQ r) && (yg (n:Int) (yz x) && yg (n:Int) (yz y)))=true
  rw [Wx (by have:=S.1; omega),gZ S.2.1,gZ S.2.2]
  rfl
inductive qA (C C1:Addr) (vs:List V) (H:Hp) (Q:VK) (E:XK):Prop
 | mk (o dx:Addr) (vn va vd:V) (N:AK) (j:Nat) (_:vs=[.ref o,vn,va,vd]) (_:H o=some (.ins C1 dx [])) (_:AV C H vn N) (_:FC j N) (_:j<=3) (_:∀ vn' H',zw o H H'->H' o=some (.ins C1 dx (gX vn' va vd))->AV C (xm H H') vn' N->Q .non H'):qA C C1 vs H Q E
inductive jY (C2:Addr) (vs:List V) (H:Hp) (Q:VK) (E:XK):Prop
 | mk (o dx:Addr) (u vl vh:V) (_:vs=[.ref o,u,vl,vh]) (_:H o=some (.ins C2 dx [])) (_:∀ H',zw o H H'->H' o=some (.ins C2 dx (gY u vl vh))->Q .non H'):jY C2 vs H Q E
inductive jZ (C C3:Addr) (vs:List V) (H:Hp) (Q:VK) (E:XK):Prop
 | mk (o dx:Addr) (vr u w:V) (R:AK) (j:Nat) (_:vs=[.ref o,vr,u,w]) (_:H o=some (.ins C3 dx [])) (_:AV C H vr R) (_:FC j R) (_:j<=3) (_:∀ vr' H',zw o H H'->H' o=some (.ins C3 dx (jL vr' u w))->AV C (xm H H') vr' R->Q .non H'):jZ C C3 vs H Q E
theorem uf {C C1:Addr}:∀ vs H Q E,YJ C1 vs H Q E->qA C C1 vs H Q E:=λ_ _ _ _ h=>by
 obtain ⟨o,dx,la,ns,a,d,rfl,ho,hl,few,q⟩:=h
 exact ⟨o,dx,_,_,_,yC ns,2,rfl,ho,wR hl,wS few,by decide,λvn' H' sb e h=>by
  obtain ⟨l,rfl,e2⟩:=ki h
  obtain ⟨h1,h2⟩:=vq e2
  exact q l H' sb h1 e h2⟩
theorem W4 {H J J':Hp} {o:Addr} {u:HO} (h:H o=some u) (s:zw o J J'):zC (xm H J) (xm H J'):=λb w hb=>by
 obtain ⟨h1,h2⟩:=vq hb
 rw [kR h1]
 exact s _ _ h2 (λe=>by rw [e,h] at h1; cases h1)
inductive Yu (C:Addr) (vs:List V) (H:Hp) (Q:VK) (E:XK):Prop
 | mk (vl vh:V) (lo hi:AK) (_:vs=[vl,vh]) (_:AV C H vl lo) (_:AV C H vh hi) (_:Q (.bl (uT lo hi)) H):Yu C vs H Q E
inductive kr (C C1 C2 C3:Addr) (vs:List V) (H:Hp) (Q:VK) (E:XK):Prop
 | mk (v:V) (ra:RA) (n:Int) (_:vs=[v,.int n]) (_:RV C C1 C2 C3 H v ra) (_:∀ H',zC H H'->Q (.bl (we n ra)) H'):kr C C1 C2 C3 vs H Q E
inductive qB (C C1 C2 C3:Addr) (d:Nat) (vs:List V) (H:Hp) (Q:VK) (E:XK):Prop
 | mk (v:V) (ra:RA) (n:Int) (_:vs=[v,.int n]) (_:ra.dep<=d) (_:RV C C1 C2 C3 H v ra) (_:∀ H',zC H H'->Q (.bl (yg n ra)) H'):qB C C1 C2 C3 d vs H Q E
theorem KO {C C1 C2 C3:Addr}:∀ vs H Q E,¬ qB C C1 C2 C3 0 vs H Q E:=by
 rintro _ _ _ _ ⟨_,t,_,_,h,_⟩
 have:=t.dep_pos
 omega
inductive gb (C C1 C2 C3 cB cM:Addr) (d:Nat) (vs:List V) (H:Hp) (Q:VK) (E:XK):Prop
 | mk (v:V) (n:Nat) (_:vs=[v,.int (n:Int)]) (_:((∃ ra,RV C C1 C2 C3 H v ra/\ra.dep<=d/\yg (n:Int) ra=false/\∀ H',zC H H'->E (.ref cB) none H')∨
 (∃ t,xR C1 C2 C3 H v t/\t.dep<=d/\t.dep<=100/\yY n t/\1<=n/\n<=800/\wG t/\(60 < zg t->∀ H',zC H H'->E (.ref cM) none H')/\(zg t<=60->∀ l lv H',zC H H'->H l=none->H' l=some (.lst lv)->Paired (yB C1 H H') lv (yd t)->Q (.ref l) H')))):gb C C1 C2 C3 cB cM d vs H Q E
section
variable {P:Program} {w:World} {K:PySem.W.Frag} {mg:Str->Option Value} {base:Heap}
noncomputable abbrev Yv:Stmt:=u8 (yI 34) 0
theorem KP:zv ["self","numbers","add","divisor"] ["self","numbers","add","divisor"] (zW Yv):=.a
noncomputable abbrev Yx:Stmt:=u8 (yI 35) 0
theorem KQ:zv ["self","rule","low","high"] ["self","rule","low","high"] (zW Yx):=.a
noncomputable abbrev Yy:Stmt:=u8 (yI 36) 0
theorem KR:zv ["self","row","rule","other"] ["self","row","rule","other"] (zW Yy):=.a
noncomputable abbrev Yz:Stmt:=yI 39
theorem KS:zv ["low","high"] ["low","high"] (zW Yz):=.a
noncomputable abbrev Y0:Stmt:=yI 38
theorem KU:zv ["value","many"] ["value","many"] (zW Y0):=.a
noncomputable abbrev Y1:Stmt:=yI 37
theorem KW:zv ["value","many"] ["value","many"] (zW Y1):=.a
noncomputable abbrev Y2:Stmt:=yI 30
theorem KY:zv ["row"] ["row"] (zW Y2):=.a
noncomputable abbrev Y3:Stmt:=yI 40
theorem KZ:zv ["rule"] ["rule"] (zW Y3):=.a
noncomputable abbrev Y4:Stmt:=yI 45
theorem Ka:zv ["straight","stop"] ["straight","stop"] (zW Y4):=.a
noncomputable abbrev Y5:Stmt:=yI 44
theorem ja:zv ["rule","told","rows","straight","noughts","low_row","high_row"] ["rule"] (zW Y5):=.a
noncomputable abbrev gc:Stmt:=yI 43
theorem kt:zv ["rule","turned_about","ones","others"] ["rule"] (zW gc):=.a
noncomputable abbrev Y6:Stmt:=yI 42
theorem Kb:zv ["rule"] ["rule"] (zW Y6):=.a
noncomputable abbrev Y7:Stmt:=yI 41
theorem Kc:zv ["rule","many"] ["rule","many"] (zW Y7):=.a
variable {aRule ad ae af ac au:Addr} (TRule:zQ K mg "Rule" aRule) (ARule:vx K aRule) (ah:zQ K mg "Straight" ad) (ap:vy K ad) (al:zQ K mg "Stopped" ae) (aq:vz K ae) (aj:zQ K mg "Parted" af) (ar:v4 K af) (ag:zQ K mg "Mode" ac) (ai:v5 K ac) (am:zQ K mg "Thing" au) (ao:v6 K au) (Y:v7 K ac ad ae af) {C1 C2:Addr} (Z:vv K mg C1 C2)
include TRule ARule ah ap al aq aj ar ag ai am ao Y Z
theorem Ke {k:Nat} {f:Addr} {fd:FuncData} {dv:Value} (F:yt K "__init__" "Straight.__init__" Yv f fd dv) (B:Bl mg) (ay:wk P w K mg base "copied" ["value","depth"] k (ue ac 3) (.int 5)):zL P w K mg base zj (k + 1) f fd ["self","numbers","add","divisor"] (qA ac ad):=by
 refine F.ok KP (λvs H Q E h=>?_) (λcdv A outer s H vs Q E hr h=>?_)
 ·obtain ⟨_,_,_,_,_,_,_,rfl,_⟩:=h
  rfl
 obtain ⟨o,dx,vn,va,vd,N,j,rfl,ho,hn,fc,j3,q⟩:=h
 refine ⟨_,(zS (wC (zB 0) (jA ay hr rfl (zA (zB 1) zE)) rfl)
  (zS (wC (zB 0) (zB 2) rfl)
  (zX (wC (zB 0) (zB 3) rfl)))),?_⟩
 try dsimp only [zM,Cx.nox,Cx.wish]
 refine ⟨_,rfl,vn,N,5,j,rfl,hn,fc,j3,.inr (by omega),λvn' H1 s1 hv _=>?_⟩
 have ho1:=s1 _ _ ho
 refine ⟨_,rfl,o,ad,dx,_,rfl,ho1,ah.cl,ap.n_numbers,(by show 0 < 1000; decide),?_⟩
 have o1:=zH (H:=H1) (a:=o) (o:=HO.ins ad dx (zD "numbers" vn' []))
 have T1:zw o H1 (upd H1 o (HO.ins ad dx (zD "numbers" vn' []))):=xP o H1 _
 obtain ⟨J1,hJ1⟩:∃ J,J=upd H1 o (HO.ins ad dx (zD "numbers" vn' [])):=⟨_,rfl⟩
 rw [<- hJ1] at o1 T1 |-
 refine ⟨_,rfl,_,rfl,o,ad,dx,_,rfl,o1,ah.cl,ap.n_add,(by show 1 < 1000; decide),?_⟩
 have o2:=zH (H:=J1) (a:=o) (o:=HO.ins ad dx (zD "add" va (zD "numbers" vn' [])))
 have T2:zw o J1 (upd J1 o (HO.ins ad dx (zD "add" va (zD "numbers" vn' [])))):=xP o J1 _
 obtain ⟨J2,hJ2⟩:∃ J,J=upd J1 o (HO.ins ad dx (zD "add" va (zD "numbers" vn' []))):=⟨_,rfl⟩
 rw [<- hJ2] at o2 T2 |-
 refine ⟨_,rfl,_,rfl,o,ad,dx,_,rfl,o2,ah.cl,ap.n_divisor,(by show 2 < 1000; decide),?_⟩
 have o3:=zH (H:=J2) (a:=o) (o:=HO.ins ad dx (zD "divisor" vd (zD "add" va (zD "numbers" vn' []))))
 have T3:zw o J2 (upd J2 o (HO.ins ad dx (zD "divisor" vd (zD "add" va (zD "numbers" vn' []))))):=xP o J2 _
 obtain ⟨J3,hJ3⟩:∃ J,J=upd J2 o (HO.ins ad dx (zD "divisor" vd (zD "add" va (zD "numbers" vn' [])))):=⟨_,rfl⟩
 rw [<- hJ3] at o3 T3 |-
 have T13:zw o H1 J3:=T1.trans (T2.trans T3)
 exact q vn' J3 ((zC.but s1).trans T13) o3 (hv.same (W4 ho T13))
theorem Kf {k:Nat} {f:Addr} {fd:FuncData} (F:yA K "__init__" "Stopped.__init__" Yx f fd) (B:Bl mg):zL P w K mg base zj (k + 1) f fd ["self","rule","low","high"] (jY ae):=by
 refine F.ok KQ (λvs H Q E h=>?_) (λcdv A outer s H vs Q E hr h=>?_)
 ·obtain ⟨_,_,_,_,_,rfl,_⟩:=h
  rfl
 obtain ⟨o,dx,u,vl,vh,rfl,ho,q⟩:=h
 refine ⟨_,(zS (wC (zB 0) (zB 1) rfl)
  (zS (wC (zB 0) (zB 2) rfl)
  (zX (wC (zB 0) (zB 3) rfl)))),?_⟩
 try dsimp only [zM,Cx.nox,Cx.wish]
 obtain ⟨H1,hH1⟩:∃ H1,H1=H:=⟨_,rfl⟩
 rw [<- hH1] at ho q |-
 have ho1:=ho
 refine ⟨_,rfl,_,rfl,o,ae,dx,_,rfl,ho1,al.cl,aq.n_rule,(by show 0 < 1000; decide),?_⟩
 have o1:=zH (H:=H1) (a:=o) (o:=HO.ins ae dx (zD "rule" u []))
 have T1:zw o H1 (upd H1 o (HO.ins ae dx (zD "rule" u []))):=xP o H1 _
 obtain ⟨J1,hJ1⟩:∃ J,J=upd H1 o (HO.ins ae dx (zD "rule" u [])):=⟨_,rfl⟩
 rw [<- hJ1] at o1 T1 |-
 refine ⟨_,rfl,_,rfl,o,ae,dx,_,rfl,o1,al.cl,aq.n_low,(by show 1 < 1000; decide),?_⟩
 have o2:=zH (H:=J1) (a:=o) (o:=HO.ins ae dx (zD "low" vl (zD "rule" u [])))
 have T2:zw o J1 (upd J1 o (HO.ins ae dx (zD "low" vl (zD "rule" u [])))):=xP o J1 _
 obtain ⟨J2,hJ2⟩:∃ J,J=upd J1 o (HO.ins ae dx (zD "low" vl (zD "rule" u []))):=⟨_,rfl⟩
 rw [<- hJ2] at o2 T2 |-
 refine ⟨_,rfl,_,rfl,o,ae,dx,_,rfl,o2,al.cl,aq.n_high,(by show 2 < 1000; decide),?_⟩
 have o3:=zH (H:=J2) (a:=o) (o:=HO.ins ae dx (zD "high" vh (zD "low" vl (zD "rule" u []))))
 have T3:zw o J2 (upd J2 o (HO.ins ae dx (zD "high" vh (zD "low" vl (zD "rule" u []))))):=xP o J2 _
 obtain ⟨J3,hJ3⟩:∃ J,J=upd J2 o (HO.ins ae dx (zD "high" vh (zD "low" vl (zD "rule" u [])))):=⟨_,rfl⟩
 rw [<- hJ3] at o3 T3 |-
 have T13:zw o H1 J3:=T1.trans (T2.trans T3)
 exact q J3 T13 o3
theorem Kg {k:Nat} {f:Addr} {fd:FuncData} (F:yA K "__init__" "Parted.__init__" Yy f fd) (B:Bl mg) (ay:wk P w K mg base "copied" ["value","depth"] k (ue ac 3) (.int 5)):zL P w K mg base zj (k + 1) f fd ["self","row","rule","other"] (jZ ac af):=by
 refine F.ok KR (λvs H Q E h=>?_) (λcdv A outer s H vs Q E hr h=>?_)
 ·obtain ⟨_,_,_,_,_,_,_,rfl,_⟩:=h
  rfl
 obtain ⟨o,dx,vr,u,w,R,j,rfl,ho,hn,fc,j3,q⟩:=h
 refine ⟨_,(zS (wC (zB 0) (jA ay hr rfl (zA (zB 1) zE)) rfl)
  (zS (wC (zB 0) (zB 2) rfl)
  (zX (wC (zB 0) (zB 3) rfl)))),?_⟩
 try dsimp only [zM,Cx.nox,Cx.wish]
 refine ⟨_,rfl,vr,R,5,j,rfl,hn,fc,j3,.inr (by omega),λvr' H1 s1 hv _=>?_⟩
 have ho1:=s1 _ _ ho
 refine ⟨_,rfl,o,af,dx,_,rfl,ho1,aj.cl,ar.n_row,(by show 0 < 1000; decide),?_⟩
 have o1:=zH (H:=H1) (a:=o) (o:=HO.ins af dx (zD "row" vr' []))
 have T1:zw o H1 (upd H1 o (HO.ins af dx (zD "row" vr' []))):=xP o H1 _
 obtain ⟨J1,hJ1⟩:∃ J,J=upd H1 o (HO.ins af dx (zD "row" vr' [])):=⟨_,rfl⟩
 rw [<- hJ1] at o1 T1 |-
 refine ⟨_,rfl,_,rfl,o,af,dx,_,rfl,o1,aj.cl,ar.n_rule,(by show 1 < 1000; decide),?_⟩
 have o2:=zH (H:=J1) (a:=o) (o:=HO.ins af dx (zD "rule" u (zD "row" vr' [])))
 have T2:zw o J1 (upd J1 o (HO.ins af dx (zD "rule" u (zD "row" vr' [])))):=xP o J1 _
 obtain ⟨J2,hJ2⟩:∃ J,J=upd J1 o (HO.ins af dx (zD "rule" u (zD "row" vr' []))):=⟨_,rfl⟩
 rw [<- hJ2] at o2 T2 |-
 refine ⟨_,rfl,_,rfl,o,af,dx,_,rfl,o2,aj.cl,ar.n_other,(by show 2 < 1000; decide),?_⟩
 have o3:=zH (H:=J2) (a:=o) (o:=HO.ins af dx (zD "other" w (zD "rule" u (zD "row" vr' []))))
 have T3:zw o J2 (upd J2 o (HO.ins af dx (zD "other" w (zD "rule" u (zD "row" vr' []))))):=xP o J2 _
 obtain ⟨J3,hJ3⟩:∃ J,J=upd J2 o (HO.ins af dx (zD "other" w (zD "rule" u (zD "row" vr' [])))):=⟨_,rfl⟩
 rw [<- hJ3] at o3 T3 |-
 have T13:zw o H1 J3:=T1.trans (T2.trans T3)
 exact q vr' J3 ((zC.but s1).trans T13) o3 (hv.same (W4 ho T13))
theorem Kh {k:Nat} {f:Addr} {fd:FuncData} (F:yA K "are_stops" "are_stops" Yz f fd) (B:Bl mg) (av:Fn P w K mg base "is_whole" ["thing"] k (jT ac)):zL P w K mg base zj (k + 1) f fd ["low","high"] (Yu ac):=by
 refine F.ok KS (λvs H Q E h=>?_) (λcdv A outer s H vs Q E hr h=>?_)
 ·obtain ⟨_,_,_,_,rfl,_⟩:=h
  rfl
 obtain ⟨vl,vh,lo,hi,rfl,hl,hh,q⟩:=h
 refine ⟨_,(zX (zo (wA (zZ av hr rfl (zA (zB 0) zE)) (wA (zZ av hr rfl (zA (zB 1) zE)) (vN (uE (yF Xv) (zB 0) (zB 1) (yS _))))))),?_⟩
 try dsimp only [zM,Cx.nox,Cx.wish]
 refine ⟨_,rfl,vl,lo,rfl,hl,_,rfl,?_⟩
 by_cases c1:yP lo=true
 case neg=>
  rw [Bool.not_eq_true] at c1
  have z:uT lo hi=false:=by show (yP lo && _)=false; rw [c1]; rfl
  rw [z] at q
  exact zr c1 q
 refine yM c1 ?_
 refine ⟨_,rfl,vh,hi,rfl,hh,_,rfl,?_⟩
 by_cases c2:yP hi=true
 case neg=>
  rw [Bool.not_eq_true] at c2
  have z:uT lo hi=false:=by show (yP lo && (yP hi && _))=false; rw [c1,c2]; rfl
  rw [z] at q
  exact zr c2 q
 refine yM c2 ?_
 obtain ⟨i1,rfl,rfl⟩:=hl.whole_inv c1
 obtain ⟨i2,rfl,rfl⟩:=hh.whole_inv c2
 exact ⟨_,rfl,_,rfl,_,_,rfl,rfl,q⟩
theorem Ki {k:Nat} {f:Addr} {fd:FuncData} (F:yA K "is_straight" "is_straight" Y0 f fd) (B:Bl mg) (aF:Fn P w K mg base "is_numbers" ["value","count"] k (YY ac)) (av:Fn P w K mg base "is_whole" ["thing"] k (jT ac)):zL P w K mg base zj (k + 1) f fd ["value","many"] (kr ac ad ae af):=by
 refine F.ok KU (λvs H Q E h=>?_) (λcdv A outer s H vs Q E hr h=>?_)
 ·obtain ⟨_,_,_,rfl,_⟩:=h
  rfl
 obtain ⟨v,ra,n,rfl,hR,q⟩:=h
 refine ⟨_,(zS (yT (PW.pt (wT (xo (yo (yG (show yW _ _ (vo K) from uQ) rfl B.isinstance_ yj (zA (zB 0) (zA (uP ah rfl) zE))))) (wp (xo (yo (zZ aF hr rfl (zA (ze (zB 0) rfl) (zA (zB 1) zE)))))))) (zX (zo xK)) yc)
  (zX (zo (wA (zZ av hr rfl (zA (ze (zB 0) rfl) zE)) (wA (zZ av hr rfl (zA (ze (zB 0) rfl) zE)) (vN (uE (yF Zb) (ze (zB 0) rfl) zJ (yS _)))))))),?_⟩
 try dsimp only [zM,Cx.nox,Cx.wish]
 cases ra with
 | str N A9 D9=>
  obtain ⟨o,dx,vn,va,vd,rfl,ins,hn,ha,hd,fa⟩:=hR
  refine ⟨_,rfl,_,_,_,_,rfl,(ah.ty ins),vp,_,rfl,zb ?_⟩
  refine ⟨_,rfl,o,ad,dx,_,_,rfl,ins,ah.cl,ap.n_numbers,rfl,_,rfl,vn,N,n,3,rfl,hn,fa,λH1 s1=>?_⟩
  have T:we n (.str N A9 D9)=(wc n N && (yP A9 && xx D9)):=rfl
  have q:=q H1 s1
  rw [T] at q
  by_cases c1:wc n N=true
  case neg=>
   rw [Bool.not_eq_true] at c1
   rw [c1] at q |-
   exact ⟨_,rfl,yH q⟩
  rw [c1] at q |-
  refine ⟨_,rfl,zb ?_⟩
  refine ⟨_,rfl,o,ad,dx,_,_,rfl,(s1 _ _ ins),ah.cl,ap.n_add,rfl,va,A9,rfl,ha.same s1,_,rfl,?_⟩
  by_cases c2:yP A9=true
  case neg=>
   rw [Bool.not_eq_true] at c2
   rw [c2] at q |-
   exact zr rfl q
  rw [c2] at q
  refine yM c2 ?_
  refine ⟨_,rfl,o,ad,dx,_,_,rfl,(s1 _ _ ins),ah.cl,ap.n_divisor,rfl,vd,D9,rfl,hd.same s1,_,rfl,?_⟩
  by_cases c3:yP D9=true
  case neg=>
   rw [Bool.not_eq_true] at c3
   rw [Qt c3] at q
   exact zr c3 q
  refine yM c3 ?_
  obtain ⟨i3,rfl,rfl⟩:=hd.whole_inv c3
  exact ⟨_,rfl,o,ad,dx,_,_,rfl,(s1 _ _ ins),ah.cl,ap.n_divisor,rfl,_,_,rfl,rfl,q⟩
 | stp r lo hi=>
  obtain ⟨o,dx,u,vl,vh,rfl,ins,_⟩:=hR
  exact ⟨_,rfl,_,_,_,_,rfl,(al.ty ins),Y.k21,_,rfl,yH (q _ (zC.refl _))⟩
 | prt r x y=>
  obtain ⟨o,dx,vr,u,w2,rfl,ins,_⟩:=hR
  exact ⟨_,rfl,_,_,_,_,rfl,(aj.ty ins),Y.k31,_,rfl,yH (q _ (zC.refl _))⟩
 | num i=>
  cases (show _=_ from hR)
  exact ⟨_,rfl,_,_,_,_,rfl,.int _,Y.i1,_,rfl,yH (q _ (zC.refl _))⟩
 | non=>
  cases (show _=_ from hR)
  exact ⟨_,rfl,_,_,_,_,rfl,.non,Y.n1,_,rfl,yH (q _ (zC.refl _))⟩
 | txt x=>
  cases (show _=_ from hR)
  exact ⟨_,rfl,_,_,_,_,rfl,.str _,Y.s1,_,rfl,yH (q _ (zC.refl _))⟩
 | lst=>
  obtain ⟨l,xs,rfl,e⟩:=hR
  exact ⟨_,rfl,_,_,_,_,rfl,(.lst e),Y.l1,_,rfl,yH (q _ (zC.refl _))⟩
theorem ug {k:Nat} {f:Addr} {fd:FuncData} {d:Nat} (F:yA K "is_rule" "is_rule" Y1 f fd) (B:Bl mg) (aP:Fn P w K mg base "is_straight" ["value","many"] k (kr ac ad ae af)) (aI:Fn P w K mg base "is_rule" ["value","many"] k (qB ac ad ae af d)) (be:Fn P w K mg base "are_stops" ["low","high"] k (Yu ac)) (aO:Fn P w K mg base "is_row" ["value","many"] k (YZ ac)):zL P w K mg base zj (k + 1) f fd ["value","many"] (qB ac ad ae af (d + 1)):=by
 refine F.ok KW (λvs H Q E h=>?_) (λcdv A outer s H vs Q E hr h=>?_)
 ·obtain ⟨_,_,_,rfl,_⟩:=h
  rfl
 obtain ⟨v,ra,n,rfl,dp,hR,q⟩:=h
 refine ⟨_,(zS (yT (yo (yG (show yW _ _ (vo K) from uQ) rfl B.isinstance_ yj (zA (zB 0) (zA (uP ah rfl) zE)))) (zX (zo (zZ aP hr rfl (zA (zB 0) (zA (zB 1) zE))))) yc)
  (zS (yT (yo (yG (show yW _ _ (vo K) from uQ) rfl B.isinstance_ yj (zA (zB 0) (zA (uP al rfl) zE)))) (zX (zo (wA (zZ be hr rfl (zA (ze (zB 0) rfl) (zA (ze (zB 0) rfl) zE))) (vN (zZ aI hr rfl (zA (ze (zB 0) rfl) (zA (zB 1) zE))))))) yc)
  (zS (yT (yo (yG (show yW _ _ (vo K) from uQ) rfl B.isinstance_ yj (zA (zB 0) (zA (uP aj rfl) zE)))) (zX (zo (wA (zZ aO hr rfl (zA (ze (zB 0) rfl) (zA (zB 1) zE))) (wA (zZ aI hr rfl (zA (ze (zB 0) rfl) (zA (zB 1) zE))) (vN (zZ aI hr rfl (zA (ze (zB 0) rfl) (zA (zB 1) zE)))))))) yc)
  (zX (zo xK))))),?_⟩
 try dsimp only [zM,Cx.nox,Cx.wish]
 cases ra with
 | str N A9 D9=>
  have hR':=hR
  obtain ⟨o,dx,vn,va,vd,rfl,ins,_⟩:=hR
  refine ⟨_,rfl,_,_,_,_,rfl,(ah.ty ins),vp,_,rfl,yH ?_⟩
  exact ⟨_,rfl,_,rfl,.ref o,.str N A9 D9,n,rfl,hR',λH' s=>q H' s⟩
 | stp r lo hi=>
  obtain ⟨o,dx,u,vl,vh,rfl,ins,hl,hh,hu⟩:=hR
  refine ⟨_,rfl,_,_,_,_,rfl,(al.ty ins),Y.k21,_,rfl,zb ?_⟩
  refine ⟨_,rfl,_,_,_,_,rfl,(al.ty ins),vp,_,rfl,yH ?_⟩
  have q:∀ H',zC H H'->Q (.bl (uT lo hi && yg n r)) H':=q
  refine ⟨_,rfl,o,ae,dx,_,_,rfl,ins,al.cl,aq.n_low,rfl,_,rfl,o,ae,dx,_,_,rfl,ins,al.cl,aq.n_high,rfl,vl,vh,lo,hi,rfl,hl,hh,_,rfl,?_⟩
  by_cases c:uT lo hi=true
  case neg=>
   rw [Bool.not_eq_true] at c
   rw [c] at q |-
   exact zr rfl (q _ (zC.refl _))
  rw [c] at q
  refine yM c ?_
  exact ⟨_,rfl,o,ae,dx,_,_,rfl,ins,al.cl,aq.n_rule,rfl,_,rfl,u,r,n,rfl,Nat.le_of_succ_le_succ dp,hu,λH' s=>q H' s⟩
 | prt row x y=>
  obtain ⟨o,dx,vr,u,w2,rfl,ins,hr',fa,hu,hw⟩:=hR
  have dp2:max x.dep y.dep<=d:=Nat.le_of_succ_le_succ dp
  refine ⟨_,rfl,_,_,_,_,rfl,(aj.ty ins),Y.k31,_,rfl,zb ?_⟩
  refine ⟨_,rfl,_,_,_,_,rfl,(aj.ty ins),Y.k32,_,rfl,zb ?_⟩
  refine ⟨_,rfl,_,_,_,_,rfl,(aj.ty ins),vp,_,rfl,yH ?_⟩
  have q:∀ H',zC H H'->Q (.bl (xJ n row && (yg n x && yg n y))) H':=q
  refine ⟨_,rfl,o,af,dx,_,_,rfl,ins,aj.cl,ar.n_row,rfl,_,rfl,vr,row,n,3,rfl,hr',fa,λH1 s1=>⟨_,rfl,?_⟩⟩
  by_cases c:xJ n row=true
  case neg=>
   rw [Bool.not_eq_true] at c
   rw [c] at q |-
   exact zr rfl (q _ s1)
  rw [c] at q
  refine yM c ?_
  refine ⟨_,rfl,o,af,dx,_,_,rfl,(s1 _ _ ins),aj.cl,ar.n_rule,rfl,_,rfl,u,x,n,rfl,(by omega),hu.same s1,λH2 s2=>⟨_,rfl,?_⟩⟩
  by_cases c2:yg n x=true
  case neg=>
   rw [Bool.not_eq_true] at c2
   rw [c2] at q |-
   exact zr rfl (q _ (s1.trans s2))
  rw [c2] at q
  refine yM c2 ?_
  exact ⟨_,rfl,o,af,dx,_,_,rfl,(s2 _ _ (s1 _ _ ins)),aj.cl,ar.n_other,rfl,_,rfl,w2,y,n,rfl,(by omega),hw.same (s1.trans s2),λH3 s3=>q H3 (s1.trans (s2.trans s3))⟩
 | num i=>
  cases (show _=_ from hR)
  refine ⟨_,rfl,_,_,_,_,rfl,.int _,Y.i1,_,rfl,zb ?_⟩
  refine ⟨_,rfl,_,_,_,_,rfl,.int _,Y.i2,_,rfl,zb ?_⟩
  refine ⟨_,rfl,_,_,_,_,rfl,.int _,Y.i3,_,rfl,zb ?_⟩
  exact q _ (zC.refl _)
 | non=>
  cases (show _=_ from hR)
  refine ⟨_,rfl,_,_,_,_,rfl,.non,Y.n1,_,rfl,zb ?_⟩
  refine ⟨_,rfl,_,_,_,_,rfl,.non,Y.n2,_,rfl,zb ?_⟩
  refine ⟨_,rfl,_,_,_,_,rfl,.non,Y.n3,_,rfl,zb ?_⟩
  exact q _ (zC.refl _)
 | txt x=>
  cases (show _=_ from hR)
  refine ⟨_,rfl,_,_,_,_,rfl,.str _,Y.s1,_,rfl,zb ?_⟩
  refine ⟨_,rfl,_,_,_,_,rfl,.str _,Y.s2,_,rfl,zb ?_⟩
  refine ⟨_,rfl,_,_,_,_,rfl,.str _,Y.s3,_,rfl,zb ?_⟩
  exact q _ (zC.refl _)
 | lst=>
  obtain ⟨l,xs,rfl,e⟩:=hR
  refine ⟨_,rfl,_,_,_,_,rfl,(.lst e),Y.l1,_,rfl,zb ?_⟩
  refine ⟨_,rfl,_,_,_,_,rfl,(.lst e),Y.l2,_,rfl,zb ?_⟩
  refine ⟨_,rfl,_,_,_,_,rfl,(.lst e),Y.l3,_,rfl,zb ?_⟩
  exact q _ (zC.refl _)
theorem Kj {k:Nat} {f:Addr} {fd:FuncData} (F:yA K "other_side" "other_side" Y2 f fd) (B:Bl mg):zL P w K mg base zj (k + 1) f fd ["row"] kX:=by
 refine F.ok KY (λvs H Q E h=>?_) (λcdv A outer s H vs Q E hr h=>?_)
 ·obtain ⟨_,_,rfl,_⟩:=h
  rfl
 obtain ⟨ra,r,rfl,hra,few,q⟩:=h
 refine ⟨_,(zX (zo (vC wu rfl B.tuple_ uK (zA (xY (own:=["number"]) (caps:=[]) (wr rfl) rfl (ZW (zB 0)) (λ_ _ _ _=>zu (i:=0) (show (["number"]:List Str).Nodup by decide +kernel) rfl (Or.inl rfl)) (λ_ _ _ _=>(g6 kB (zB 0)))) zE)))),?_⟩
 try dsimp only [zM,Cx.nox,Cx.wish]
 refine ⟨_,rfl,ra,rfl,⟨_,zn.of hra⟩,Z1 (K:=K) (a:=ra) (xs:=r.map V.int) (λi ys σ H'=>ys=((r.take i).map (λx=>-x)).map V.int/\(∃ o,σ=[o])/\H'=H)
  ⟨rfl,⟨none,rfl⟩,rfl⟩ (λi ys σ H' hi ⟨e1,_,e3⟩=>⟨by rw [e3]; exact zn.of hra,by rw [e1,List.length_map,List.length_map,List.length_take]; exact Nat.min_le_left _ _⟩) (by rw [List.length_map]; exact Nat.le_of_lt (zy (by omega))) ?_ ?_⟩
 ·rintro i x ys σ H' hi ⟨rfl,⟨o,rfl⟩,rfl⟩
  obtain ⟨z,hz,rfl⟩:=uN hi
  refine ⟨_,rfl,_,rfl,?_,⟨_,rfl⟩,rfl⟩
  rw [xO hz,List.map_append,List.map_append]
  rfl
 rintro ys σ H' ⟨rfl,⟨o,rfl⟩,rfl⟩ l hl
 refine ⟨l,_,rfl,.inl ⟨zP.of zH,λt ht=>?_⟩⟩
 refine q t _ ((zK hl _).trans (zK ht _)) ((zK hl _).free ht) (zH.trans ?_)
 rw [List.length_map,List.take_length]
 rfl
theorem uh {k:Nat} {f:Addr} {fd:FuncData} {d:Nat} (F:yA K "piece_count" "piece_count" Y3 f fd) (B:Bl mg) (aJ:Fn P w K mg base "piece_count" ["rule"] k (jw ad ae af d)):zL P w K mg base zj (k + 1) f fd ["rule"] (jw ad ae af (d + 1)):=by
 refine F.ok KZ (λvs H Q E h=>?_) (λcdv A outer s H vs Q E hr h=>?_)
 ·obtain ⟨_,_,rfl,_⟩:=h
  rfl
 obtain ⟨v,t,rfl,dp,d100,hR,q⟩:=h
 refine ⟨_,(zS (yT (yo (yG (show yW _ _ (vo K) from uQ) rfl B.isinstance_ yj (zA (zB 0) (zA (uP al rfl) zE)))) (zX (zo (zR (ji vD) zJ (zZ aJ hr rfl (zA (ze (zB 0) rfl) zE))))) yc)
  (zS (yT (yo (yG (show yW _ _ (vo K) from uQ) rfl B.isinstance_ yj (zA (zB 0) (zA (uP aj rfl) zE)))) (zX (zo (zR (yF xi) (zZ aJ hr rfl (zA (ze (zB 0) rfl) zE)) (zZ aJ hr rfl (zA (ze (zB 0) rfl) zE))))) yc)
  (zX (zo zJ)))),?_⟩
 try dsimp only [zM,Cx.nox,Cx.wish]
 cases t with
 | str ns a d0=>
  obtain ⟨o,dx,la,rfl,ins,ela⟩:=hR
  refine ⟨_,rfl,_,_,_,_,rfl,(ah.ty ins),Y.k12,_,rfl,zb ?_⟩
  refine ⟨_,rfl,_,_,_,_,rfl,(ah.ty ins),Y.k13,_,rfl,zb ?_⟩
  exact q
 | stp t1 lo hi=>
  obtain ⟨o,dx,u,rfl,ins,hu⟩:=hR
  have d1:t1.dep + 1<=100:=d100
  have b3:Bd 2 (3:Int):=Bd.lit
  refine ⟨_,rfl,_,_,_,_,rfl,(al.ty ins),vp,_,rfl,yH ?_⟩
  refine ⟨_,rfl,o,ae,dx,_,_,rfl,ins,al.cl,aq.n_rule,rfl,u,t1,rfl,Nat.le_of_succ_le_succ dp,(by omega),hu,_,_,rfl,rfl,⟨b3.mono,(kW t1).mono (by omega)⟩,?_⟩
  have e:((zg (.stp t1 lo hi):Nat):Int)=3 * (zg t1:Int):=by show ((3 * zg t1:Nat):Int)=_; omega
  rw [e] at q
  exact q
 | prt r x y=>
  obtain ⟨o,dx,ra,u,w2,rfl,ins,era,hu,hw⟩:=hR
  have dp2:max x.dep y.dep<=d:=Nat.le_of_succ_le_succ dp
  have d1:max x.dep y.dep + 1<=100:=d100
  refine ⟨_,rfl,_,_,_,_,rfl,(aj.ty ins),Y.k32,_,rfl,zb ?_⟩
  refine ⟨_,rfl,_,_,_,_,rfl,(aj.ty ins),vp,_,rfl,yH ?_⟩
  refine ⟨_,rfl,o,af,dx,_,_,rfl,ins,aj.cl,ar.n_rule,rfl,u,x,rfl,(by omega),(by omega),hu,_,rfl,o,af,dx,_,_,rfl,ins,aj.cl,ar.n_other,rfl,w2,y,rfl,(by omega),(by omega),hw,_,_,rfl,rfl,?_⟩
  have e:((zg (.prt r x y):Nat):Int)=(zg x:Int) + (zg y:Int):=by show ((zg x + zg y:Nat):Int)=_; omega
  rw [e] at q
  exact q
theorem Kk {k:Nat} {f:Addr} {fd:FuncData} (F:yA K "stop_row" "stop_row" Y4 f fd) (B:Bl mg):zL P w K mg base zj (k + 1) f fd ["straight","stop"] (YR ad):=by
 refine F.ok Ka (λvs H Q E h=>?_) (λcdv A outer s H vs Q E hr h=>?_)
 ·obtain ⟨_,_,_,_,_,rfl,_⟩:=h
  rfl
 obtain ⟨so,dx,la,l,st,rfl,ins,ela,n1,few,bd,bs,q⟩:=h
 refine ⟨_,(zX (zo (zR Zm (vC wu rfl B.tuple_ uK (zA (ze (zB 0) rfl) zE)) (wY (zA (zR (yF wj) (zR (ji vD) (ze (zB 0) rfl) (zB 1)) (ze (zB 0) rfl)) zE))))),?_⟩
 try dsimp only [zM,Cx.nox,Cx.wish]
 refine ⟨_,rfl,so,ad,dx,_,_,rfl,ins,ah.cl,ap.n_numbers,rfl,la,_,rfl,.inl ⟨zP.of ela,λt1 ht1=>?_⟩⟩
 have z1:=zK ht1 (HO.tup (l.ns.map V.int))
 refine ⟨_,rfl,so,ad,dx,_,_,rfl,(z1 _ _ ins),ah.cl,ap.n_divisor,rfl,_,rfl,_,_,rfl,rfl,⟨bd.mono,bs.mono⟩,_,rfl,so,ad,dx,_,_,rfl,(z1 _ _ ins),ah.cl,ap.n_add,rfl,_,_,rfl,rfl,(by show 1<=sizeLine; decide),λt2 ht2=>?_⟩
 have z2:=zK ht2 (HO.tup [V.int (l.d * st - l.a)])
 refine ⟨t1,t2,_,_,rfl,rfl,zn.of (z2 _ _ zH),zn.of zH,?_,(by rw [List.length_map]; exact Nat.le_of_lt (zy (by show l.ns.length + 1<=1000; omega))),(λz=>by cases z),λ_ p hp=>?_⟩
 ·cases e:l.ns with
  | nil=>rw [e] at n1; cases n1
  | cons x t=>intro z; cases z
 have z3:=zK hp (HO.tup (l.ns.map V.int++[V.int (l.d * st - l.a)]))
 refine q p _ (z1.trans (z2.trans z3)) (zH.trans ?_)
 unfold xM
 rw [List.map_append]
 rfl
theorem ui {k:Nat} {f:Addr} {fd:FuncData} {d:Nat} (F:yA K "stopped_pieces" "stopped_pieces" Y5 f fd) (B:Bl mg) (aG:Fn P w K mg base "listed" ["rule"] (k + 1) (vT ad ae af vU d)) (aV:Fn P w K mg base "stop_row" ["straight","stop"] (k + 1) (YR ad)) (aw:xG P w K mg base ad ["self","numbers","add","divisor"] k (YJ ad) (.int 1)) (aM:Fn P w K mg base "other_side" ["row"] (k + 1) kX):zL P w K mg base zj (k + 1 + 1) f fd ["rule"] (vT ad ae af YH (d + 1)):=by
 refine F.ok ja (λvs H Q E h=>?_) (λcdv A outer s H vs Q E hr h=>?_)
 ·obtain ⟨_,_,_,rfl,_⟩:=h
  rfl
 obtain ⟨v,n,t,rfl,kd,dp,d100,hR,SH,n1,n8,TF,c60,q⟩:=h
 obtain ⟨t1,lo,hi,rfl⟩:=QE kd
 obtain ⟨o,dx,u,rfl,ins,hu⟩:=hR
 refine ⟨_,(zS (zp (i:=1) ja.nd rfl (Or.inl rfl) (yD zE))
  (zS (vj PassesOwn.never rfl (xB (zZ aG hr rfl (zA (ze (zB 0) rfl) zE))) (vf rfl (xW (zu (i:=2) ja.nd rfl (Or.inl rfl)) (xW (zu (i:=3) ja.nd rfl (Or.inl rfl)) ve))) (zS (uJ (i:=4) ja.nd rfl rfl (own:=["number"]) (caps:=[]) (wr rfl) rfl (xB (ze (zB 3) rfl)) (λ_ _ _ _=>zu (i:=0) (show (["number"]:List Str).Nodup by decide +kernel) rfl (Or.inl rfl)) (λ_ _ _ _=>zJ) rfl)
   (zS (zp (i:=5) ja.nd rfl (Or.inl rfl) (zZ aV hr rfl (zA (zB 3) (zA (ze (zB 0) rfl) zE))))
   (zS (zp (i:=6) ja.nd rfl (Or.inl rfl) (zZ aV hr rfl (zA (zB 3) (zA (ze (zB 0) rfl) zE))))
   (zS (ut (ub PySem.F.plainAttrs_list PySem.F.slot_list_append PySem.F.type_list_append wZ (zB 1) (zA (wY (zA (zR zk (zB 2) (yD (zA (zB 5) zE))) (zA (yN aw.fn ah hr rfl (zA (zB 4) (zA (ze (zB 0) rfl) (zA zJ zE)))) zE))) zE)))
   (zS (ut (ub PySem.F.plainAttrs_list PySem.F.slot_list_append PySem.F.type_list_append wZ (zB 1) (zA (wY (zA (zR zk (zB 2) (yD (zA (zZ aM hr rfl (zA (zB 5) zE)) (zA (zB 6) zE)))) (zA (zB 3) zE))) zE)))
   (zX (ut (ub PySem.F.plainAttrs_list PySem.F.slot_list_append PySem.F.type_list_append wZ (zB 1) (zA (wY (zA (zR zk (zB 2) (yD (zA (zZ aM hr rfl (zA (zB 6) zE)) zE))) (zA (yN aw.fn ah hr rfl (zA (zB 4) (zA (ze (zB 0) rfl) (zA zJ zE)))) zE))) zE))))))))))
  (zX (zo (zB 1))))),?_⟩
 try dsimp only [zM,Cx.nox,Cx.wish]
 refine ⟨(by show 0<=sizeLine; decide),λtl htl=>?_⟩
 have z1:=zK htl (HO.lst [])
 have et1:=zH (H:=H) (a:=tl) (o:=HO.lst [])
 obtain ⟨H1,hH1⟩:∃ H1,H1=upd H tl (HO.lst []):=⟨_,rfl⟩
 rw [<- hH1] at z1 et1 |-
 have cnt:3 * zg t1<=60:=c60
 have d1:t1.dep + 1<=100:=d100
 refine ⟨_,rfl,o,ae,dx,_,_,rfl,(z1 _ _ ins),al.cl,aq.n_rule,rfl,u,n,t1,rfl,rfl,Nat.le_of_succ_le_succ dp,(by omega),hu.same z1,SH.1,n1,n8,TF.1,(by omega),λl lv H2 s2 nl el hlv=>?_⟩
 have et2:=s2 _ _ et1
 have llv:lv.length=zg t1:=(Paired.length hlv).trans (wn t1)
 have lnt:l∉[tl]:=λz=>by
  rw [List.mem_singleton.mp z,et1] at nl
  cases nl
 have PO:=gN SH.1
 have PFs:=gP TF.1
 have hlv2:Paired (yB ad H (hide [tl] H2)) lv (yd t1):=by
  refine Paired.mapM hlv λi v p hv hp z=>yB.back z1 (z.hid et1 et2 ?_)
  have:=(PO p (List.mem_of_getElem? hp)).len
  omega
 have gO2:hide [tl] H2 o=some (.ins ae dx (gL u lo hi)):=by
  rw [yq (λz=>by rw [List.mem_singleton.mp z,htl] at ins; cases ins)]
  exact s2 _ _ (z1 _ _ ins)
 have tlH:∀ {J:Hp} {y:Addr},zC (hide [tl] H2) J->y∉[tl]->J y=none->H y=none:=λsJ ny hy=>z1.free (s2.free (by
  have:=sJ.free hy
  rw [yq ny] at this
  exact this))
 have blo:=TF.2.1
 have bhi:=TF.2.2
 refine ⟨l,rfl,⟨_,zP.of el⟩,jj (K:=K) (a:=l) (xs:=lv)
  (λi σ H'=>∃ (tv:List V) (o2 o3 o4 o5 o6:Option V),σ=[some (.ref o),some (.ref tl),o2,o3,o4,o5,o6]/\yu [tl] H2 H'/\H' tl=some (.lst tv)/\Paired (yB ad H (hide [tl] H')) tv (((yd t1).take i).flatMap (jN lo hi)))
  ⟨[],none,none,none,none,none,rfl,yu.refl _ _,et2,.nil⟩ (λi σ H' _ ⟨_,_,_,_,_,_,_,of2,_⟩=>zP.of (of2 _ _ el lnt)) ?_ ?_⟩
 ·rintro i x σ H' hix ⟨tv,o2,o3,o4,o5,o6,rfl,of2,etl,htv⟩
  obtain ⟨p,hp,pc⟩:=xF hlv2 hix
  have pc':=pc.same (gK of2)
  obtain ⟨tt,rl,so,dxs,la,rv,rfl,gT,frl,gRl,gRv,gSo,gLa⟩:=pc'
  have pm:=List.mem_of_getElem? hp
  have lp:=(PO p pm).len
  have PF:=PFs p pm
  have rfew:=jP p pm
  have lrv:rv.length=p.1.length:=Paired.length gRv
  have ltv:=Paired.length htv
  rw [YL _ (λ_=>rfl),List.length_take,wn] at ltv
  have gO:=gK of2 _ _ gO2
  have S0:=gK of2
  have tlH:∀ {J:Hp} {y:Addr},zC (hide [tl] H') J->y∉[tl]->J y=none->H y=none:=λsJ ny hy=>tlH (S0.trans sJ) ny hy
  refine ⟨tt,_,rfl,zn.of (yK _ _ gT),rfl,_,_,rfl,_,_,rfl,rfl,?_⟩
  have S:zC (hide [tl] H') (hide [tl] H'):=zC.refl _
  refine ⟨_,rfl,so,ad,dxs,_,_,rfl,(yK _ _ gSo),ah.cl,ap.n_numbers,rfl,la,rfl,⟨_,zP.of (yK _ _ gLa)⟩,xu (K:=K) (a:=la) (xs:=p.2.ns.map V.int) (λi ys σ H4=>ys=(List.replicate i (0:Int)).map V.int/\(∃ o,σ=[o])/\H4=H')
   ⟨rfl,⟨none,rfl⟩,rfl⟩ (λi ys σ H4 _ ⟨e1,_,e3⟩=>⟨by rw [e3]; exact zP.of (yK _ _ gLa),by rw [e1,List.length_map,List.length_replicate]; exact Nat.le_refl _⟩) (by rw [List.length_map,lp]; exact Nat.le_of_lt (zy (by omega))) ?_ ?_⟩
  ·rintro i x ys σ H4 hix ⟨rfl,⟨o1,rfl⟩,rfl⟩
   refine ⟨?_,⟨_,rfl⟩,rfl⟩
   rw [List.replicate_succ',List.map_append]
   rfl
  rintro ys σ H4 ⟨rfl,⟨o1,rfl⟩,rfl⟩ ca hca
  have ezs:(List.replicate (p.2.ns.map V.int).length (0:Int)).map V.int=(p.2.ns.map λ_=>(0:Int)).map V.int:=by rw [List.length_map,kY]
  rw [ezs]
  have z_ca:=zK hca (HO.lst ((p.2.ns.map λ_=>(0:Int)).map V.int))
  have n_ca:ca∉[tl]:=λz=>by rw [List.mem_singleton.mp z,etl] at hca; cases hca
  have f_ca:H ca=none:=tlH (S.trans yK) n_ca hca
  have gCa:hide [tl] (upd H4 ca (HO.lst ((p.2.ns.map λ_=>(0:Int)).map V.int))) ca=some (HO.lst ((p.2.ns.map λ_=>(0:Int)).map V.int)):=(yq n_ca).trans zH
  have Sg:=wF (B:=[tl]) z_ca
  have gO:=Sg _ _ gO
  have gT:=Sg _ _ gT
  have gRl:=Sg _ _ gRl
  have gRv:=zh.same Sg gRv
  have gSo:=Sg _ _ gSo
  have gLa:=Sg _ _ gLa
  have S:=S.trans Sg
  have etl:=z_ca _ _ etl
  obtain ⟨HB1,hHB1⟩:∃ J,J=upd H4 ca (HO.lst ((p.2.ns.map λ_=>(0:Int)).map V.int)):=⟨_,rfl⟩
  rw [<- hHB1] at gCa gO gT gRl gRv gSo gLa S etl |-
  refine ⟨_,rfl,_,rfl,o,ae,dx,_,_,rfl,(yK _ _ gO),al.cl,aq.n_low,rfl,so,dxs,la,p.2,lo,rfl,(yK _ _ gSo),(yK _ _ gLa),(by omega),(by omega),PF.d.mono,blo.mono,λr0 J0 s_r0 e_r0=>?_⟩
  have n_r0:r0∉[tl]:=λz=>by have:=s_r0 _ _ etl; rw [<- List.mem_singleton.mp z,e_r0] at this; cases this
  have gR0:hide [tl] J0 r0=some (.tup ((xM p.2 lo).map V.int)):=(yq n_r0).trans e_r0
  have Sg:=wF (B:=[tl]) s_r0
  have gO:=Sg _ _ gO
  have gT:=Sg _ _ gT
  have gRl:=Sg _ _ gRl
  have gRv:=zh.same Sg gRv
  have gSo:=Sg _ _ gSo
  have gLa:=Sg _ _ gLa
  have gCa:=Sg _ _ gCa
  have S:=S.trans Sg
  have etl:=s_r0 _ _ etl
  refine ⟨_,rfl,_,rfl,o,ae,dx,_,_,rfl,(yK _ _ gO),al.cl,aq.n_high,rfl,so,dxs,la,p.2,hi,rfl,(yK _ _ gSo),(yK _ _ gLa),(by omega),(by omega),PF.d.mono,bhi.mono,λr1 J1 s_r1 e_r1=>?_⟩
  have n_r1:r1∉[tl]:=λz=>by have:=s_r1 _ _ etl; rw [<- List.mem_singleton.mp z,e_r1] at this; cases this
  have gR1:hide [tl] J1 r1=some (.tup ((xM p.2 hi).map V.int)):=(yq n_r1).trans e_r1
  have Sg:=wF (B:=[tl]) s_r1
  have gO:=Sg _ _ gO
  have gT:=Sg _ _ gT
  have gRl:=Sg _ _ gRl
  have gRv:=zh.same Sg gRv
  have gSo:=Sg _ _ gSo
  have gLa:=Sg _ _ gLa
  have gCa:=Sg _ _ gCa
  have gR0:=Sg _ _ gR0
  have S:=S.trans Sg
  have etl:=s_r1 _ _ etl
  refine ⟨_,rfl,.inl ⟨rfl,_,zP.of etl⟩,?_⟩
  refine ⟨_,rfl,_,rfl,(by show 1<=sizeLine; decide),λq1 hq1=>?_⟩
  have z_q1:=zK hq1 (HO.lst [V.ref r0])
  have n_q1:q1∉[tl]:=λz=>by rw [List.mem_singleton.mp z,etl] at hq1; cases hq1
  have f_q1:H q1=none:=tlH (S.trans yK) n_q1 hq1
  have gQ1:hide [tl] (upd J1 q1 (HO.lst [V.ref r0])) q1=some (HO.lst [V.ref r0]):=(yq n_q1).trans zH
  have Sg:=wF (B:=[tl]) z_q1
  have gO:=Sg _ _ gO
  have gT:=Sg _ _ gT
  have gRl:=Sg _ _ gRl
  have gRv:=zh.same Sg gRv
  have gSo:=Sg _ _ gSo
  have gLa:=Sg _ _ gLa
  have gCa:=Sg _ _ gCa
  have gR0:=Sg _ _ gR0
  have gR1:=Sg _ _ gR1
  have S:=S.trans Sg
  have etl:=z_q1 _ _ etl
  obtain ⟨HB2,hHB2⟩:∃ J,J=upd J1 q1 (HO.lst [V.ref r0]):=⟨_,rfl⟩
  rw [<- hHB2] at gQ1 gO gT gRl gRv gSo gLa gCa gR0 gR1 S etl |-
  refine ⟨rl,q1,_,_,rfl,rfl,(yK _ _ gRl),(yK _ _ gQ1),Nat.le_of_lt (zy (by show rv.length + 1<=1000; omega)),λc1 hc1=>?_⟩
  have z_c1:=zK hc1 (HO.lst (rv++[V.ref r0]))
  have n_c1:c1∉[tl]:=λz=>by rw [List.mem_singleton.mp z,etl] at hc1; cases hc1
  have f_c1:H c1=none:=tlH (S.trans yK) n_c1 hc1
  have gC1:hide [tl] (upd HB2 c1 (HO.lst (rv++[V.ref r0]))) c1=some (HO.lst (rv++[V.ref r0])):=(yq n_c1).trans zH
  have Sg:=wF (B:=[tl]) z_c1
  have gO:=Sg _ _ gO
  have gT:=Sg _ _ gT
  have gRl:=Sg _ _ gRl
  have gRv:=zh.same Sg gRv
  have gSo:=Sg _ _ gSo
  have gLa:=Sg _ _ gLa
  have gCa:=Sg _ _ gCa
  have gR0:=Sg _ _ gR0
  have gR1:=Sg _ _ gR1
  have gQ1:=Sg _ _ gQ1
  have S:=S.trans Sg
  have etl:=z_c1 _ _ etl
  obtain ⟨HB3,hHB3⟩:∃ J,J=upd HB2 c1 (HO.lst (rv++[V.ref r0])):=⟨_,rfl⟩
  rw [<- hHB3] at gC1 gO gT gRl gRv gSo gLa gCa gR0 gR1 gQ1 S etl |-
  refine ⟨_,rfl,_,rfl,o,ae,dx,_,_,rfl,(yK _ _ gO),al.cl,aq.n_low,rfl,λx1 dx1 hx1 hdx1 ne1=>?_⟩
  have zm1:=ww hx1 hdx1 ne1 (HO.own x1) (HO.ins ad dx1 [])
  have ex1:=zH (H:=upd HB3 dx1 (HO.own x1)) (a:=x1) (o:=HO.ins ad dx1 [])
  obtain ⟨HM1,hHM1⟩:∃ J,J=upd (upd HB3 dx1 (HO.own x1)) x1 (HO.ins ad dx1 []):=⟨_,rfl⟩
  rw [<- hHM1] at zm1 ex1 |-
  refine ⟨x1,dx1,ca,p.2.ns.map (λ_=>(0:Int)),lo,1,rfl,ex1,zm1 _ _ (yK _ _ gCa),(by rw [List.length_map]; omega),λm1 HS1 sb1 fm1 eo1 em1=>⟨rfl,?_⟩⟩
  have sS1:=wa zm1 sb1 hx1
  have n_x1:x1∉[tl]:=λz=>by rw [List.mem_singleton.mp z,etl] at hx1; cases hx1
  have n_m1:m1∉[tl]:=λz=>by have:=zm1 _ _ etl; rw [<- List.mem_singleton.mp z,fm1] at this; cases this
  have gX1:hide [tl] HS1 x1=some (.ins ad dx1 (wb (.ref m1) lo 1)):=(yq n_x1).trans eo1
  have gM1:hide [tl] HS1 m1=some (.lst ((p.2.ns.map λ_=>(0:Int)).map V.int)):=(yq n_m1).trans em1
  have Sg:=wF (B:=[tl]) sS1
  have gO:=Sg _ _ gO
  have gT:=Sg _ _ gT
  have gRl:=Sg _ _ gRl
  have gRv:=zh.same Sg gRv
  have gSo:=Sg _ _ gSo
  have gLa:=Sg _ _ gLa
  have gCa:=Sg _ _ gCa
  have gR0:=Sg _ _ gR0
  have gR1:=Sg _ _ gR1
  have gQ1:=Sg _ _ gQ1
  have gC1:=Sg _ _ gC1
  have S:=S.trans Sg
  have etl:=sS1 _ _ etl
  refine ⟨(by show 2<=sizeLine; decide),λy1 hy1=>?_⟩
  have z_y1:=zK hy1 (HO.tup [V.ref c1,V.ref x1])
  have n_y1:y1∉[tl]:=λz=>by rw [List.mem_singleton.mp z,etl] at hy1; cases hy1
  have f_y1:H y1=none:=tlH (S.trans yK) n_y1 hy1
  have gY1:hide [tl] (upd HS1 y1 (HO.tup [V.ref c1,V.ref x1])) y1=some (HO.tup [V.ref c1,V.ref x1]):=(yq n_y1).trans zH
  have Sg:=wF (B:=[tl]) z_y1
  have gO:=Sg _ _ gO
  have gT:=Sg _ _ gT
  have gRl:=Sg _ _ gRl
  have gRv:=zh.same Sg gRv
  have gSo:=Sg _ _ gSo
  have gLa:=Sg _ _ gLa
  have gCa:=Sg _ _ gCa
  have gR0:=Sg _ _ gR0
  have gR1:=Sg _ _ gR1
  have gQ1:=Sg _ _ gQ1
  have gC1:=Sg _ _ gC1
  have gX1:=Sg _ _ gX1
  have gM1:=Sg _ _ gM1
  have S:=S.trans Sg
  have etl:=z_y1 _ _ etl
  obtain ⟨HB4,hHB4⟩:∃ J,J=upd HS1 y1 (HO.tup [V.ref c1,V.ref x1]):=⟨_,rfl⟩
  rw [<- hHB4] at gY1 gO gT gRl gRv gSo gLa gCa gR0 gR1 gQ1 gC1 gX1 gM1 S etl |-
  have gPc1:yB ad H (hide [tl] HB4) (V.ref y1) (p.1++[xM p.2 lo],jM p.2 lo):=⟨y1,c1,x1,dx1,m1,_,rfl,gY1,f_c1,gC1,wm gRv (.cons ⟨r0,rfl,gR0⟩ .nil),gX1,gM1⟩
  refine ⟨tl,_,_,rfl,rfl,etl,zy (by first | omega | (simp only [List.length_append,List.length_cons,List.length_nil]; omega)),?_⟩
  have Sg:=jO (x:=tl) (H:=HB4) (HO.lst (tv++[V.ref y1]))
  have gO:=Sg _ _ gO
  have gT:=Sg _ _ gT
  have gRl:=Sg _ _ gRl
  have gRv:=zh.same Sg gRv
  have gSo:=Sg _ _ gSo
  have gLa:=Sg _ _ gLa
  have gCa:=Sg _ _ gCa
  have gR0:=Sg _ _ gR0
  have gR1:=Sg _ _ gR1
  have gQ1:=Sg _ _ gQ1
  have gC1:=Sg _ _ gC1
  have gX1:=Sg _ _ gX1
  have gM1:=Sg _ _ gM1
  have gY1:=Sg _ _ gY1
  have gPc1:=yB.same Sg gPc1
  have S:=S.trans Sg
  have etl:=zH (H:=HB4) (a:=tl) (o:=HO.lst (tv++[V.ref y1]))
  obtain ⟨HB5,hHB5⟩:∃ J,J=upd HB4 tl (HO.lst (tv++[V.ref y1])):=⟨_,rfl⟩
  rw [<- hHB5] at gO gT gRl gRv gSo gLa gCa gR0 gR1 gQ1 gC1 gX1 gM1 gY1 gPc1 S etl |-
  refine ⟨_,rfl,.inl ⟨rfl,_,zP.of etl⟩,?_⟩
  refine ⟨_,rfl,_,rfl,r0,xM p.2 lo,rfl,(yK _ _ gR0),(by rw [jv lp]; omega),λv2 JNv2 s_v2 f0_v2 e_v2=>?_⟩
  have n_v2:v2∉[tl]:=λz=>by have:=s_v2 _ _ etl; rw [<- List.mem_singleton.mp z,e_v2] at this; cases this
  have g_v2:hide [tl] JNv2 v2=some (.tup ((yl (xM p.2 lo)).map V.int)):=(yq n_v2).trans e_v2
  have Sg:=wF (B:=[tl]) s_v2
  have gO:=Sg _ _ gO
  have gT:=Sg _ _ gT
  have gRl:=Sg _ _ gRl
  have gRv:=zh.same Sg gRv
  have gSo:=Sg _ _ gSo
  have gLa:=Sg _ _ gLa
  have gCa:=Sg _ _ gCa
  have gR0:=Sg _ _ gR0
  have gR1:=Sg _ _ gR1
  have gQ1:=Sg _ _ gQ1
  have gC1:=Sg _ _ gC1
  have gX1:=Sg _ _ gX1
  have gM1:=Sg _ _ gM1
  have gY1:=Sg _ _ gY1
  have gPc1:=yB.same Sg gPc1
  have S:=S.trans Sg
  have etl:=s_v2 _ _ etl
  refine ⟨_,rfl,(by show 2<=sizeLine; decide),λq2 hq2=>?_⟩
  have z_q2:=zK hq2 (HO.lst [V.ref v2,V.ref r1])
  have n_q2:q2∉[tl]:=λz=>by rw [List.mem_singleton.mp z,etl] at hq2; cases hq2
  have f_q2:H q2=none:=tlH (S.trans yK) n_q2 hq2
  have gQ2:hide [tl] (upd JNv2 q2 (HO.lst [V.ref v2,V.ref r1])) q2=some (HO.lst [V.ref v2,V.ref r1]):=(yq n_q2).trans zH
  have Sg:=wF (B:=[tl]) z_q2
  have gO:=Sg _ _ gO
  have gT:=Sg _ _ gT
  have gRl:=Sg _ _ gRl
  have gRv:=zh.same Sg gRv
  have gSo:=Sg _ _ gSo
  have gLa:=Sg _ _ gLa
  have gCa:=Sg _ _ gCa
  have gR0:=Sg _ _ gR0
  have gR1:=Sg _ _ gR1
  have gQ1:=Sg _ _ gQ1
  have gC1:=Sg _ _ gC1
  have gX1:=Sg _ _ gX1
  have gM1:=Sg _ _ gM1
  have gY1:=Sg _ _ gY1
  have gPc1:=yB.same Sg gPc1
  have g_v2:=Sg _ _ g_v2
  have S:=S.trans Sg
  have etl:=z_q2 _ _ etl
  obtain ⟨HB6,hHB6⟩:∃ J,J=upd JNv2 q2 (HO.lst [V.ref v2,V.ref r1]):=⟨_,rfl⟩
  rw [<- hHB6] at gQ2 gO gT gRl gRv gSo gLa gCa gR0 gR1 gQ1 gC1 gX1 gM1 gY1 gPc1 g_v2 S etl |-
  refine ⟨rl,q2,_,_,rfl,rfl,(yK _ _ gRl),(yK _ _ gQ2),Nat.le_of_lt (zy (by show rv.length + 2<=1000; omega)),λc2 hc2=>?_⟩
  have z_c2:=zK hc2 (HO.lst (rv++[V.ref v2,V.ref r1]))
  have n_c2:c2∉[tl]:=λz=>by rw [List.mem_singleton.mp z,etl] at hc2; cases hc2
  have f_c2:H c2=none:=tlH (S.trans yK) n_c2 hc2
  have gC2:hide [tl] (upd HB6 c2 (HO.lst (rv++[V.ref v2,V.ref r1]))) c2=some (HO.lst (rv++[V.ref v2,V.ref r1])):=(yq n_c2).trans zH
  have Sg:=wF (B:=[tl]) z_c2
  have gO:=Sg _ _ gO
  have gT:=Sg _ _ gT
  have gRl:=Sg _ _ gRl
  have gRv:=zh.same Sg gRv
  have gSo:=Sg _ _ gSo
  have gLa:=Sg _ _ gLa
  have gCa:=Sg _ _ gCa
  have gR0:=Sg _ _ gR0
  have gR1:=Sg _ _ gR1
  have gQ1:=Sg _ _ gQ1
  have gC1:=Sg _ _ gC1
  have gX1:=Sg _ _ gX1
  have gM1:=Sg _ _ gM1
  have gY1:=Sg _ _ gY1
  have gPc1:=yB.same Sg gPc1
  have g_v2:=Sg _ _ g_v2
  have gQ2:=Sg _ _ gQ2
  have S:=S.trans Sg
  have etl:=z_c2 _ _ etl
  obtain ⟨HB7,hHB7⟩:∃ J,J=upd HB6 c2 (HO.lst (rv++[V.ref v2,V.ref r1])):=⟨_,rfl⟩
  rw [<- hHB7] at gC2 gO gT gRl gRv gSo gLa gCa gR0 gR1 gQ1 gC1 gX1 gM1 gY1 gPc1 g_v2 gQ2 S etl |-
  refine ⟨_,rfl,(by show 2<=sizeLine; decide),λy2 hy2=>?_⟩
  have z_y2:=zK hy2 (HO.tup [V.ref c2,V.ref so])
  have n_y2:y2∉[tl]:=λz=>by rw [List.mem_singleton.mp z,etl] at hy2; cases hy2
  have f_y2:H y2=none:=tlH (S.trans yK) n_y2 hy2
  have gY2:hide [tl] (upd HB7 y2 (HO.tup [V.ref c2,V.ref so])) y2=some (HO.tup [V.ref c2,V.ref so]):=(yq n_y2).trans zH
  have Sg:=wF (B:=[tl]) z_y2
  have gO:=Sg _ _ gO
  have gT:=Sg _ _ gT
  have gRl:=Sg _ _ gRl
  have gRv:=zh.same Sg gRv
  have gSo:=Sg _ _ gSo
  have gLa:=Sg _ _ gLa
  have gCa:=Sg _ _ gCa
  have gR0:=Sg _ _ gR0
  have gR1:=Sg _ _ gR1
  have gQ1:=Sg _ _ gQ1
  have gC1:=Sg _ _ gC1
  have gX1:=Sg _ _ gX1
  have gM1:=Sg _ _ gM1
  have gY1:=Sg _ _ gY1
  have gPc1:=yB.same Sg gPc1
  have g_v2:=Sg _ _ g_v2
  have gQ2:=Sg _ _ gQ2
  have gC2:=Sg _ _ gC2
  have S:=S.trans Sg
  have etl:=z_y2 _ _ etl
  obtain ⟨HB8,hHB8⟩:∃ J,J=upd HB7 y2 (HO.tup [V.ref c2,V.ref so]):=⟨_,rfl⟩
  rw [<- hHB8] at gY2 gO gT gRl gRv gSo gLa gCa gR0 gR1 gQ1 gC1 gX1 gM1 gY1 gPc1 g_v2 gQ2 gC2 S etl |-
  have gPc2:yB ad H (hide [tl] HB8) (V.ref y2) (p.1++[yl (xM p.2 lo),xM p.2 hi],p.2):=⟨y2,c2,so,dxs,la,_,rfl,gY2,f_c2,gC2,wm gRv (.cons ⟨v2,rfl,g_v2⟩ (.cons ⟨r1,rfl,gR1⟩ .nil)),gSo,gLa⟩
  refine ⟨tl,_,_,rfl,rfl,etl,zy (by first | omega | (simp only [List.length_append,List.length_cons,List.length_nil]; omega)),?_⟩
  have Sg:=jO (x:=tl) (H:=HB8) (HO.lst (tv++[V.ref y1]++[V.ref y2]))
  have gO:=Sg _ _ gO
  have gT:=Sg _ _ gT
  have gRl:=Sg _ _ gRl
  have gRv:=zh.same Sg gRv
  have gSo:=Sg _ _ gSo
  have gLa:=Sg _ _ gLa
  have gCa:=Sg _ _ gCa
  have gR0:=Sg _ _ gR0
  have gR1:=Sg _ _ gR1
  have gQ1:=Sg _ _ gQ1
  have gC1:=Sg _ _ gC1
  have gX1:=Sg _ _ gX1
  have gM1:=Sg _ _ gM1
  have gY1:=Sg _ _ gY1
  have gPc1:=yB.same Sg gPc1
  have g_v2:=Sg _ _ g_v2
  have gQ2:=Sg _ _ gQ2
  have gC2:=Sg _ _ gC2
  have gY2:=Sg _ _ gY2
  have gPc2:=yB.same Sg gPc2
  have S:=S.trans Sg
  have etl:=zH (H:=HB8) (a:=tl) (o:=HO.lst (tv++[V.ref y1]++[V.ref y2]))
  obtain ⟨HB9,hHB9⟩:∃ J,J=upd HB8 tl (HO.lst (tv++[V.ref y1]++[V.ref y2])):=⟨_,rfl⟩
  rw [<- hHB9] at gO gT gRl gRv gSo gLa gCa gR0 gR1 gQ1 gC1 gX1 gM1 gY1 gPc1 g_v2 gQ2 gC2 gY2 gPc2 S etl |-
  refine ⟨_,rfl,.inl ⟨rfl,_,zP.of etl⟩,?_⟩
  refine ⟨_,rfl,_,rfl,r1,xM p.2 hi,rfl,(yK _ _ gR1),(by rw [jv lp]; omega),λv3 JNv3 s_v3 f0_v3 e_v3=>?_⟩
  have n_v3:v3∉[tl]:=λz=>by have:=s_v3 _ _ etl; rw [<- List.mem_singleton.mp z,e_v3] at this; cases this
  have g_v3:hide [tl] JNv3 v3=some (.tup ((yl (xM p.2 hi)).map V.int)):=(yq n_v3).trans e_v3
  have Sg:=wF (B:=[tl]) s_v3
  have gO:=Sg _ _ gO
  have gT:=Sg _ _ gT
  have gRl:=Sg _ _ gRl
  have gRv:=zh.same Sg gRv
  have gSo:=Sg _ _ gSo
  have gLa:=Sg _ _ gLa
  have gCa:=Sg _ _ gCa
  have gR0:=Sg _ _ gR0
  have gR1:=Sg _ _ gR1
  have gQ1:=Sg _ _ gQ1
  have gC1:=Sg _ _ gC1
  have gX1:=Sg _ _ gX1
  have gM1:=Sg _ _ gM1
  have gY1:=Sg _ _ gY1
  have gPc1:=yB.same Sg gPc1
  have g_v2:=Sg _ _ g_v2
  have gQ2:=Sg _ _ gQ2
  have gC2:=Sg _ _ gC2
  have gY2:=Sg _ _ gY2
  have gPc2:=yB.same Sg gPc2
  have S:=S.trans Sg
  have etl:=s_v3 _ _ etl
  refine ⟨(by show 1<=sizeLine; decide),λq3 hq3=>?_⟩
  have z_q3:=zK hq3 (HO.lst [V.ref v3])
  have n_q3:q3∉[tl]:=λz=>by rw [List.mem_singleton.mp z,etl] at hq3; cases hq3
  have f_q3:H q3=none:=tlH (S.trans yK) n_q3 hq3
  have gQ3:hide [tl] (upd JNv3 q3 (HO.lst [V.ref v3])) q3=some (HO.lst [V.ref v3]):=(yq n_q3).trans zH
  have Sg:=wF (B:=[tl]) z_q3
  have gO:=Sg _ _ gO
  have gT:=Sg _ _ gT
  have gRl:=Sg _ _ gRl
  have gRv:=zh.same Sg gRv
  have gSo:=Sg _ _ gSo
  have gLa:=Sg _ _ gLa
  have gCa:=Sg _ _ gCa
  have gR0:=Sg _ _ gR0
  have gR1:=Sg _ _ gR1
  have gQ1:=Sg _ _ gQ1
  have gC1:=Sg _ _ gC1
  have gX1:=Sg _ _ gX1
  have gM1:=Sg _ _ gM1
  have gY1:=Sg _ _ gY1
  have gPc1:=yB.same Sg gPc1
  have g_v2:=Sg _ _ g_v2
  have gQ2:=Sg _ _ gQ2
  have gC2:=Sg _ _ gC2
  have gY2:=Sg _ _ gY2
  have gPc2:=yB.same Sg gPc2
  have g_v3:=Sg _ _ g_v3
  have S:=S.trans Sg
  have etl:=z_q3 _ _ etl
  obtain ⟨HB10,hHB10⟩:∃ J,J=upd JNv3 q3 (HO.lst [V.ref v3]):=⟨_,rfl⟩
  rw [<- hHB10] at gQ3 gO gT gRl gRv gSo gLa gCa gR0 gR1 gQ1 gC1 gX1 gM1 gY1 gPc1 g_v2 gQ2 gC2 gY2 gPc2 g_v3 S etl |-
  refine ⟨rl,q3,_,_,rfl,rfl,(yK _ _ gRl),(yK _ _ gQ3),Nat.le_of_lt (zy (by show rv.length + 1<=1000; omega)),λc3 hc3=>?_⟩
  have z_c3:=zK hc3 (HO.lst (rv++[V.ref v3]))
  have n_c3:c3∉[tl]:=λz=>by rw [List.mem_singleton.mp z,etl] at hc3; cases hc3
  have f_c3:H c3=none:=tlH (S.trans yK) n_c3 hc3
  have gC3:hide [tl] (upd HB10 c3 (HO.lst (rv++[V.ref v3]))) c3=some (HO.lst (rv++[V.ref v3])):=(yq n_c3).trans zH
  have Sg:=wF (B:=[tl]) z_c3
  have gO:=Sg _ _ gO
  have gT:=Sg _ _ gT
  have gRl:=Sg _ _ gRl
  have gRv:=zh.same Sg gRv
  have gSo:=Sg _ _ gSo
  have gLa:=Sg _ _ gLa
  have gCa:=Sg _ _ gCa
  have gR0:=Sg _ _ gR0
  have gR1:=Sg _ _ gR1
  have gQ1:=Sg _ _ gQ1
  have gC1:=Sg _ _ gC1
  have gX1:=Sg _ _ gX1
  have gM1:=Sg _ _ gM1
  have gY1:=Sg _ _ gY1
  have gPc1:=yB.same Sg gPc1
  have g_v2:=Sg _ _ g_v2
  have gQ2:=Sg _ _ gQ2
  have gC2:=Sg _ _ gC2
  have gY2:=Sg _ _ gY2
  have gPc2:=yB.same Sg gPc2
  have g_v3:=Sg _ _ g_v3
  have gQ3:=Sg _ _ gQ3
  have S:=S.trans Sg
  have etl:=z_c3 _ _ etl
  obtain ⟨HB11,hHB11⟩:∃ J,J=upd HB10 c3 (HO.lst (rv++[V.ref v3])):=⟨_,rfl⟩
  rw [<- hHB11] at gC3 gO gT gRl gRv gSo gLa gCa gR0 gR1 gQ1 gC1 gX1 gM1 gY1 gPc1 g_v2 gQ2 gC2 gY2 gPc2 g_v3 gQ3 S etl |-
  refine ⟨_,rfl,_,rfl,o,ae,dx,_,_,rfl,(yK _ _ gO),al.cl,aq.n_high,rfl,λx3 dx3 hx3 hdx3 ne3=>?_⟩
  have zm3:=ww hx3 hdx3 ne3 (HO.own x3) (HO.ins ad dx3 [])
  have ex3:=zH (H:=upd HB11 dx3 (HO.own x3)) (a:=x3) (o:=HO.ins ad dx3 [])
  obtain ⟨HM3,hHM3⟩:∃ J,J=upd (upd HB11 dx3 (HO.own x3)) x3 (HO.ins ad dx3 []):=⟨_,rfl⟩
  rw [<- hHM3] at zm3 ex3 |-
  refine ⟨x3,dx3,ca,p.2.ns.map (λ_=>(0:Int)),hi,1,rfl,ex3,zm3 _ _ (yK _ _ gCa),(by rw [List.length_map]; omega),λm3 HS3 sb3 fm3 eo3 em3=>⟨rfl,?_⟩⟩
  have sS3:=wa zm3 sb3 hx3
  have n_x3:x3∉[tl]:=λz=>by rw [List.mem_singleton.mp z,etl] at hx3; cases hx3
  have n_m3:m3∉[tl]:=λz=>by have:=zm3 _ _ etl; rw [<- List.mem_singleton.mp z,fm3] at this; cases this
  have gX3:hide [tl] HS3 x3=some (.ins ad dx3 (wb (.ref m3) hi 1)):=(yq n_x3).trans eo3
  have gM3:hide [tl] HS3 m3=some (.lst ((p.2.ns.map λ_=>(0:Int)).map V.int)):=(yq n_m3).trans em3
  have Sg:=wF (B:=[tl]) sS3
  have gO:=Sg _ _ gO
  have gT:=Sg _ _ gT
  have gRl:=Sg _ _ gRl
  have gRv:=zh.same Sg gRv
  have gSo:=Sg _ _ gSo
  have gLa:=Sg _ _ gLa
  have gCa:=Sg _ _ gCa
  have gR0:=Sg _ _ gR0
  have gR1:=Sg _ _ gR1
  have gQ1:=Sg _ _ gQ1
  have gC1:=Sg _ _ gC1
  have gX1:=Sg _ _ gX1
  have gM1:=Sg _ _ gM1
  have gY1:=Sg _ _ gY1
  have gPc1:=yB.same Sg gPc1
  have g_v2:=Sg _ _ g_v2
  have gQ2:=Sg _ _ gQ2
  have gC2:=Sg _ _ gC2
  have gY2:=Sg _ _ gY2
  have gPc2:=yB.same Sg gPc2
  have g_v3:=Sg _ _ g_v3
  have gQ3:=Sg _ _ gQ3
  have gC3:=Sg _ _ gC3
  have S:=S.trans Sg
  have etl:=sS3 _ _ etl
  refine ⟨(by show 2<=sizeLine; decide),λy3 hy3=>?_⟩
  have z_y3:=zK hy3 (HO.tup [V.ref c3,V.ref x3])
  have n_y3:y3∉[tl]:=λz=>by rw [List.mem_singleton.mp z,etl] at hy3; cases hy3
  have f_y3:H y3=none:=tlH (S.trans yK) n_y3 hy3
  have gY3:hide [tl] (upd HS3 y3 (HO.tup [V.ref c3,V.ref x3])) y3=some (HO.tup [V.ref c3,V.ref x3]):=(yq n_y3).trans zH
  have Sg:=wF (B:=[tl]) z_y3
  have gO:=Sg _ _ gO
  have gT:=Sg _ _ gT
  have gRl:=Sg _ _ gRl
  have gRv:=zh.same Sg gRv
  have gSo:=Sg _ _ gSo
  have gLa:=Sg _ _ gLa
  have gCa:=Sg _ _ gCa
  have gR0:=Sg _ _ gR0
  have gR1:=Sg _ _ gR1
  have gQ1:=Sg _ _ gQ1
  have gC1:=Sg _ _ gC1
  have gX1:=Sg _ _ gX1
  have gM1:=Sg _ _ gM1
  have gY1:=Sg _ _ gY1
  have gPc1:=yB.same Sg gPc1
  have g_v2:=Sg _ _ g_v2
  have gQ2:=Sg _ _ gQ2
  have gC2:=Sg _ _ gC2
  have gY2:=Sg _ _ gY2
  have gPc2:=yB.same Sg gPc2
  have g_v3:=Sg _ _ g_v3
  have gQ3:=Sg _ _ gQ3
  have gC3:=Sg _ _ gC3
  have gX3:=Sg _ _ gX3
  have gM3:=Sg _ _ gM3
  have S:=S.trans Sg
  have etl:=z_y3 _ _ etl
  obtain ⟨HB12,hHB12⟩:∃ J,J=upd HS3 y3 (HO.tup [V.ref c3,V.ref x3]):=⟨_,rfl⟩
  rw [<- hHB12] at gY3 gO gT gRl gRv gSo gLa gCa gR0 gR1 gQ1 gC1 gX1 gM1 gY1 gPc1 g_v2 gQ2 gC2 gY2 gPc2 g_v3 gQ3 gC3 gX3 gM3 S etl |-
  have gPc3:yB ad H (hide [tl] HB12) (V.ref y3) (p.1++[yl (xM p.2 hi)],jM p.2 hi):=⟨y3,c3,x3,dx3,m3,_,rfl,gY3,f_c3,gC3,wm gRv (.cons ⟨v3,rfl,g_v3⟩ .nil),gX3,gM3⟩
  refine ⟨tl,_,_,rfl,rfl,etl,zy (by first | omega | (simp only [List.length_append,List.length_cons,List.length_nil]; omega)),?_⟩
  have Sg:=jO (x:=tl) (H:=HB12) (HO.lst (tv++[V.ref y1]++[V.ref y2]++[V.ref y3]))
  have gO:=Sg _ _ gO
  have gT:=Sg _ _ gT
  have gRl:=Sg _ _ gRl
  have gRv:=zh.same Sg gRv
  have gSo:=Sg _ _ gSo
  have gLa:=Sg _ _ gLa
  have gCa:=Sg _ _ gCa
  have gR0:=Sg _ _ gR0
  have gR1:=Sg _ _ gR1
  have gQ1:=Sg _ _ gQ1
  have gC1:=Sg _ _ gC1
  have gX1:=Sg _ _ gX1
  have gM1:=Sg _ _ gM1
  have gY1:=Sg _ _ gY1
  have gPc1:=yB.same Sg gPc1
  have g_v2:=Sg _ _ g_v2
  have gQ2:=Sg _ _ gQ2
  have gC2:=Sg _ _ gC2
  have gY2:=Sg _ _ gY2
  have gPc2:=yB.same Sg gPc2
  have g_v3:=Sg _ _ g_v3
  have gQ3:=Sg _ _ gQ3
  have gC3:=Sg _ _ gC3
  have gX3:=Sg _ _ gX3
  have gM3:=Sg _ _ gM3
  have gY3:=Sg _ _ gY3
  have gPc3:=yB.same Sg gPc3
  have S:=S.trans Sg
  have etl:=zH (H:=HB12) (a:=tl) (o:=HO.lst (tv++[V.ref y1]++[V.ref y2]++[V.ref y3]))
  obtain ⟨HB13,hHB13⟩:∃ J,J=upd HB12 tl (HO.lst (tv++[V.ref y1]++[V.ref y2]++[V.ref y3])):=⟨_,rfl⟩
  rw [<- hHB13] at gO gT gRl gRv gSo gLa gCa gR0 gR1 gQ1 gC1 gX1 gM1 gY1 gPc1 g_v2 gQ2 gC2 gY2 gPc2 g_v3 gQ3 gC3 gX3 gM3 gY3 gPc3 S etl |-
  refine ⟨tv++[V.ref y1]++[V.ref y2]++[V.ref y3],_,_,_,_,_,rfl,of2.trans (QJ S),etl,?_⟩
  rw [YS _ hp]
  have h0:=Paired.mapP htv λ_ _ z=>yB.same S z
  have h3:=xZ gPc3 (xZ gPc2 (xZ gPc1 h0))
  rw [show jN lo hi p=[(p.1++[xM p.2 lo],jM p.2 lo)]++[(p.1++[yl (xM p.2 lo),xM p.2 hi],p.2)]++[(p.1++[yl (xM p.2 hi)],jM p.2 hi)] from rfl,<- List.append_assoc,<- List.append_assoc]
  exact h3
 rintro σ H' ⟨tv,o2,o3,o4,o5,o6,rfl,of2,etl,htv⟩
 rw [llv,<- wn,List.take_length] at htv
 refine ⟨_,rfl,q tl tv H' (λb o e=>of2 _ _ (s2 _ _ (z1 _ _ e)) (λz=>by rw [List.mem_singleton.mp z,htl] at e; cases e)) htl etl (Paired.mapP htv λ_ _ z=>yB.same yK z)⟩
theorem uj {k:Nat} {f:Addr} {fd:FuncData} {d:Nat} (F:yA K "parted_pieces" "parted_pieces" gc f fd) (B:Bl mg) (aM:Fn P w K mg base "other_side" ["row"] k kX) (aG:Fn P w K mg base "listed" ["rule"] k (vT ad ae af vU d)):zL P w K mg base zj (k + 1) f fd ["rule"] (vT ad ae af YI (d + 1)):=by
 refine F.ok kt (λvs H Q E h=>?_) (λcdv A outer s H vs Q E hr h=>?_)
 ·obtain ⟨_,_,_,rfl,_⟩:=h
  rfl
 obtain ⟨v,n,t,rfl,kd,dp,d100,hR,SH,n1,n8,TF,c60,q⟩:=h
 obtain ⟨r,x,y,rfl⟩:=QF kd
 obtain ⟨o,dx,ra,u,w2,rfl,ins,era,hu,hw⟩:=hR
 refine ⟨_,(zS (zp (i:=1) kt.nd rfl (Or.inr rfl) (zZ aM hr rfl (zA (ze (zB 0) rfl) zE)))
  (zS (uJ (i:=2) kt.nd rfl rfl (own:=["rows","straight"]) (caps:=[(0,"rule")]) (wD (S:=zW gc) (N:=["rule","turned_about","ones","others"]) rfl (by decide +kernel) rfl ⟨_,rfl⟩ rfl (by decide +kernel) (by decide +kernel)) rfl (xB (zZ aG hr rfl (zA (ze (zB 0) rfl) zE))) (λ_ _ _ _=>show PG _ _ (wV K 2 (wq (wB 0) (wq (wB 1) wU))) from vf (n:=2) rfl (xW (zu (i:=0) (show (["rows","straight","rule"]:List Str).Nodup by decide +kernel) rfl (Or.inl rfl)) (xW (zu (i:=1) (show (["rows","straight","rule"]:List Str).Nodup by decide +kernel) rfl (Or.inl rfl)) ve))) (λ_ _ _ _=>(wY (zA (zR zk (yD (zA (show PE _ _ (uG K _ _) from ze (zB 2) rfl) zE)) (zB 0)) (zA (zB 1) zE)))) rfl)
  (zS (uJ (i:=3) kt.nd rfl rfl (own:=["rows","straight"]) (caps:=[(1,"turned_about")]) (wD (S:=zW gc) (N:=["rule","turned_about","ones","others"]) rfl (by decide +kernel) rfl ⟨_,rfl⟩ rfl (by decide +kernel) (by decide +kernel)) rfl (xB (zZ aG hr rfl (zA (ze (zB 0) rfl) zE))) (λ_ _ _ _=>show PG _ _ (wV K 2 (wq (wB 0) (wq (wB 1) wU))) from vf (n:=2) rfl (xW (zu (i:=0) (show (["rows","straight","turned_about"]:List Str).Nodup by decide +kernel) rfl (Or.inl rfl)) (xW (zu (i:=1) (show (["rows","straight","turned_about"]:List Str).Nodup by decide +kernel) rfl (Or.inl rfl)) ve))) (λ_ _ _ _=>(wY (zA (zR zk (yD (zA (zB 2) zE)) (zB 0)) (zA (zB 1) zE)))) rfl)
  (zX (zo (zR zk (zB 2) (zB 3))))))),?_⟩
 try dsimp only [zM,Cx.nox,Cx.wish]
 have cnt:zg x + zg y<=60:=c60
 have d1:max x.dep y.dep + 1<=100:=d100
 have dp2:max x.dep y.dep<=d:=Nat.le_of_succ_le_succ dp
 have lr:=SH.1
 refine ⟨_,rfl,o,af,dx,_,_,rfl,ins,aj.cl,ar.n_row,rfl,ra,r,rfl,era,(by omega),λta H1 s1 fta eta=>?_⟩
 refine ⟨_,rfl,o,af,dx,_,_,rfl,(s1 _ _ ins),aj.cl,ar.n_rule,rfl,u,n,x,rfl,rfl,(by omega),(by omega),hu.same s1,SH.2.1,n1,n8,TF.2.1,(by omega),λl1 lv1 HL1 sL1 nl1 el1 hlv1=>?_⟩
 have llv1:lv1.length=zg x:=(Paired.length hlv1).trans (wn x)
 refine ⟨l1,rfl,⟨_,zP.of el1⟩,xu (K:=K) (a:=l1) (xs:=lv1)
  (λi ys σ H'=>Paired (yB ad H H') ys (((yd x).take i).map (λp=>([r]++p.1,p.2)))/\(∃ o1 o2,σ=[o1,o2,some (.ref o)])/\zC HL1 H')
  ⟨.nil,⟨none,none,rfl⟩,zC.refl _⟩ (λi ys σ H' hi ⟨e1,_,sm⟩=>⟨zP.of (sm _ _ el1),by have:=Paired.length e1; rw [List.length_map,List.length_take] at this; omega⟩) (Nat.le_of_lt (zy (by omega))) ?_ ?_⟩
 ·rintro i x ys σ H' hi ⟨hys,⟨o1,o2,rfl⟩,sm⟩
  obtain ⟨p,hp,pc⟩:=xF hlv1 hi
  obtain ⟨tt,rl,so,dxs,la,rv,rfl,eT,frl,eRl,eRv,eSo,eLa⟩:=pc.same sm
  have rfew:=jP p (List.mem_of_getElem? hp)
  have lrv:rv.length=p.1.length:=Paired.length eRv
  refine ⟨tt,_,rfl,zn.of eT,rfl,_,_,rfl,_,_,rfl,rfl,?_⟩
  refine ⟨_,rfl,o,af,dx,_,_,rfl,((s1.trans (sL1.trans sm)) _ _ ins),aj.cl,ar.n_row,rfl,(by show 1<=sizeLine; decide),λq1 hq1=>?_⟩
  have y1:=zK hq1 (HO.lst [V.ref ra])
  refine ⟨_,rfl,q1,rl,_,_,rfl,rfl,zH,y1 _ _ eRl,Nat.le_of_lt (zy (by show 1 + rv.length<=1000; omega)),λc1 hc1=>?_⟩
  have y2:=zK hc1 (HO.lst ([V.ref ra]++rv))
  have ec1:=zH (H:=upd H' q1 (HO.lst [V.ref ra])) (a:=c1) (o:=HO.lst ([V.ref ra]++rv))
  refine ⟨_,rfl,(by show 2<=sizeLine; decide),λy hy=>?_⟩
  have y3:=zK hy (HO.tup [V.ref c1,V.ref so])
  have sY:=y1.trans (y2.trans y3)
  refine ⟨?_,⟨_,_,rfl⟩,sm.trans sY⟩
  rw [xO hp,List.map_append]
  refine xZ (R:=yB ad H _) (y:=([r]++p.1,p.2)) ⟨y,c1,so,dxs,la,_,rfl,zH,((s1.trans sL1).trans (sm.trans y1)).free hc1,y3 _ _ ec1,wm (xs:=[V.ref ra]) (ys:=[r]) (.cons ⟨ra,rfl,(sm.trans sY) _ _ (sL1 _ _ (s1 _ _ era))⟩ .nil) (zh.same sY eRv),sY _ _ eSo,sY _ _ eLa⟩ (Paired.mapP hys λ_ _ z=>yB.same sY z)
 rintro cv1 σ HE1 ⟨hcv1,⟨o1,o2,rfl⟩,sE1⟩ c1 hc1
 rw [llv1,<- wn,List.take_length] at hcv1
 have zC1:=zK hc1 (HO.lst cv1)
 have eC1:=zH (H:=HE1) (a:=c1) (o:=HO.lst cv1)
 obtain ⟨HC1,hHC1⟩:∃ J,J=upd HE1 c1 (HO.lst cv1):=⟨_,rfl⟩
 rw [<- hHC1] at zC1 eC1 |-
 have hcw1:=Paired.mapP hcv1 λ_ _ z=>yB.same zC1 z
 refine ⟨_,rfl,o,af,dx,_,_,rfl,((s1.trans (sL1.trans (sE1.trans zC1))) _ _ ins),aj.cl,ar.n_other,rfl,w2,n,y,rfl,rfl,(by omega),(by omega),hw.same (s1.trans (sL1.trans (sE1.trans zC1))),SH.2.2,n1,n8,TF.2.2,(by omega),λl2 lv2 HL2 sL2 nl2 el2 hlv2=>?_⟩
 have llv2:lv2.length=zg y:=(Paired.length hlv2).trans (wn y)
 refine ⟨l2,rfl,⟨_,zP.of el2⟩,xu (K:=K) (a:=l2) (xs:=lv2)
  (λi ys σ H'=>Paired (yB ad H H') ys (((yd y).take i).map (λp=>([yl r]++p.1,p.2)))/\(∃ o1 o2,σ=[o1,o2,some (.ref ta)])/\zC HL2 H')
  ⟨.nil,⟨none,none,rfl⟩,zC.refl _⟩ (λi ys σ H' hi ⟨e1,_,sm⟩=>⟨zP.of (sm _ _ el2),by have:=Paired.length e1; rw [List.length_map,List.length_take] at this; omega⟩) (Nat.le_of_lt (zy (by omega))) ?_ ?_⟩
 ·rintro i x ys σ H' hi ⟨hys,⟨o1,o2,rfl⟩,sm⟩
  obtain ⟨p,hp,pc⟩:=xF hlv2 hi
  obtain ⟨tt,rl,so,dxs,la,rv,rfl,eT,frl,eRl,eRv,eSo,eLa⟩:=pc.same sm
  have rfew:=jP p (List.mem_of_getElem? hp)
  have lrv:rv.length=p.1.length:=Paired.length eRv
  refine ⟨tt,_,rfl,zn.of eT,rfl,_,_,rfl,_,_,rfl,rfl,?_⟩
  refine ⟨_,rfl,(by show 1<=sizeLine; decide),λq1 hq1=>?_⟩
  have y1:=zK hq1 (HO.lst [V.ref ta])
  refine ⟨_,rfl,q1,rl,_,_,rfl,rfl,zH,y1 _ _ eRl,Nat.le_of_lt (zy (by show 1 + rv.length<=1000; omega)),λc1 hc1=>?_⟩
  have y2:=zK hc1 (HO.lst ([V.ref ta]++rv))
  have ec1:=zH (H:=upd H' q1 (HO.lst [V.ref ta])) (a:=c1) (o:=HO.lst ([V.ref ta]++rv))
  refine ⟨_,rfl,(by show 2<=sizeLine; decide),λy hy=>?_⟩
  have y3:=zK hy (HO.tup [V.ref c1,V.ref so])
  have sY:=y1.trans (y2.trans y3)
  refine ⟨?_,⟨_,_,rfl⟩,sm.trans sY⟩
  rw [xO hp,List.map_append]
  refine xZ (R:=yB ad H _) (y:=([yl r]++p.1,p.2)) ⟨y,c1,so,dxs,la,_,rfl,zH,((s1.trans (sL1.trans (sE1.trans (zC1.trans sL2)))).trans (sm.trans y1)).free hc1,y3 _ _ ec1,wm (xs:=[V.ref ta]) (ys:=[yl r]) (.cons ⟨ta,rfl,(sm.trans sY) _ _ (sL2 _ _ (zC1 _ _ (sE1 _ _ (sL1 _ _ eta))))⟩ .nil) (zh.same sY eRv),sY _ _ eSo,sY _ _ eLa⟩ (Paired.mapP hys λ_ _ z=>yB.same sY z)
 rintro cv2 σ HE2 ⟨hcv2,⟨o1,o2,rfl⟩,sE2⟩ c2 hc2
 rw [llv2,<- wn,List.take_length] at hcv2
 have zC2:=zK hc2 (HO.lst cv2)
 have eC2:=zH (H:=HE2) (a:=c2) (o:=HO.lst cv2)
 obtain ⟨HC2,hHC2⟩:∃ J,J=upd HE2 c2 (HO.lst cv2):=⟨_,rfl⟩
 rw [<- hHC2] at zC2 eC2 |-
 have hcw2:=Paired.mapP hcv2 λ_ _ z=>yB.same zC2 z
 have sAll:=s1.trans (sL1.trans (sE1.trans (zC1.trans (sL2.trans (sE2.trans zC2)))))
 have s12:=sL2.trans (sE2.trans zC2)
 have lc1:=Paired.length hcv1
 have lc2:=Paired.length hcv2
 rw [List.length_map,wn] at lc1 lc2
 refine ⟨_,rfl,_,rfl,c1,c2,_,_,rfl,rfl,s12 _ _ eC1,eC2,Nat.le_of_lt (zy (by omega)),λc hc=>?_⟩
 have zF:=zK hc (HO.lst (cv1++cv2))
 exact q c _ _ (sAll.trans zF) (sAll.free hc) zH (wm (Paired.mapP hcw1 λ_ _ z=>yB.same (s12.trans zF) z) (Paired.mapP hcw2 λ_ _ z=>yB.same zF z))
theorem uk {k:Nat} {f:Addr} {fd:FuncData} {d:Nat} (F:yA K "listed" "listed" Y6 f fd) (B:Bl mg) (bi:Fn P w K mg base "stopped_pieces" ["rule"] k (vT ad ae af YH (d + 1))) (bj:Fn P w K mg base "parted_pieces" ["rule"] k (vT ad ae af YI (d + 1))):zL P w K mg base zj (k + 1) f fd ["rule"] (vT ad ae af vU (d + 1)):=by
 refine F.ok Kb (λvs H Q E h=>?_) (λcdv A outer s H vs Q E hr h=>?_)
 ·obtain ⟨_,_,_,rfl,_⟩:=h
  rfl
 obtain ⟨v,n,t,rfl,kd,dp,d100,hR,SH,n1,n8,TF,c60,q⟩:=h
 refine ⟨_,(zS (yT (yo (yG (show yW _ _ (vo K) from uQ) rfl B.isinstance_ yj (zA (zB 0) (zA (uP al rfl) zE)))) (zX (zo (zZ bi hr rfl (zA (zB 0) zE)))) yc)
  (zS (yT (yo (yG (show yW _ _ (vo K) from uQ) rfl B.isinstance_ yj (zA (zB 0) (zA (uP aj rfl) zE)))) (zX (zo (zZ bj hr rfl (zA (zB 0) zE)))) yc)
  (zX (zo (yD (zA (wY (zA (yD zE) (zA (zB 0) zE))) zE)))))),?_⟩
 try dsimp only [zM,Cx.nox,Cx.wish]
 cases t with
 | str ns a d0=>
  have hR':=hR
  obtain ⟨o,dx,la,rfl,ins,ela⟩:=hR
  refine ⟨_,rfl,_,_,_,_,rfl,(ah.ty ins),Y.k12,_,rfl,zb ?_⟩
  refine ⟨_,rfl,_,_,_,_,rfl,(ah.ty ins),Y.k13,_,rfl,zb ?_⟩
  refine ⟨(by show 0<=sizeLine; decide),λrl hrl=>?_⟩
  have z1:=zK hrl (HO.lst [])
  refine ⟨_,rfl,(by show 2<=sizeLine; decide),λt ht=>?_⟩
  have z2:=zK ht (HO.tup [V.ref rl,V.ref o])
  refine ⟨(by show 1<=sizeLine; decide),λl hl=>?_⟩
  have z3:=zK hl (HO.lst [V.ref t])
  have z13:=z1.trans (z2.trans z3)
  exact q l [.ref t] _ z13 ((z1.trans z2).free hl) zH (.cons ⟨t,rl,o,dx,la,[],rfl,z3 _ _ zH,hrl,z3 _ _ (z2 _ _ zH),.nil,z13 _ _ ins,z13 _ _ ela⟩ .nil)
 | stp t1 lo hi=>
  have hR':=hR
  obtain ⟨o,dx,u,rfl,ins,hu⟩:=hR
  refine ⟨_,rfl,_,_,_,_,rfl,(al.ty ins),vp,_,rfl,yH ?_⟩
  exact ⟨_,rfl,.ref o,n,.stp t1 lo hi,rfl,rfl,dp,d100,hR',SH,n1,n8,TF,c60,λl lv H' s e1 e2 e3=>q l lv H' s e1 e2 e3⟩
 | prt r x y=>
  have hR':=hR
  obtain ⟨o,dx,ra,u,w2,rfl,ins,era,hu,hw⟩:=hR
  refine ⟨_,rfl,_,_,_,_,rfl,(aj.ty ins),Y.k32,_,rfl,zb ?_⟩
  refine ⟨_,rfl,_,_,_,_,rfl,(aj.ty ins),vp,_,rfl,yH ?_⟩
  exact ⟨_,rfl,.ref o,n,.prt r x y,rfl,rfl,dp,d100,hR',SH,n1,n8,TF,c60,λl lv H' s e1 e2 e3=>q l lv H' s e1 e2 e3⟩
theorem Kl {k:Nat} {f:Addr} {fd:FuncData} (F:yA K "pieces" "pieces" Y7 f fd) (B:Bl mg) (aI:Fn P w K mg base "is_rule" ["value","many"] k (qB ac ad ae af 8)) (aJ:Fn P w K mg base "piece_count" ["rule"] k (jw ad ae af 8)) (aG:Fn P w K mg base "listed" ["rule"] k (vT ad ae af vU 8)):zL P w K mg base (yL P w) (k + 1) f fd ["rule","many"] (gb ac ad ae af C1 C2 8):=by
 refine F.okX Kc (λvs H Q E h=>?_) (λcdv A outer s H vs Q E hr h=>?_)
 ·obtain ⟨_,_,rfl,_⟩:=h
  rfl
 obtain ⟨v,n,rfl,W⟩:=h
 have hrm:=hr
 refine ⟨_,(zS (yT (xo (yo (zZ aI hr rfl (zA (zB 0) (zA (zB 1) zE))))) (zX (j0 (C:=C1) (E:=E) (λ_ _ _ _ _ _ _ _ I mx qx=>jz I mx qx) Z.exc1 rfl Z.mg1 rfl (zA xV zE))) yc)
  (zS (yT (yp (yF uz) (zZ aJ hr rfl (zA (zB 0) zE)) (qw rfl B.MOST_PIECES_) (yS _)) (zX (j0 (C:=C2) (E:=E) (λ_ _ _ _ _ _ _ _ I mx qx=>jz I mx qx) Z.exc2 rfl Z.mg2 rfl (zA xV zE))) yc)
  (zX (zo (zZ aG hr rfl (zA (zB 0) zE)))))),?_⟩
 rcases W with ⟨ra,hR,dp,hf,qx⟩ | ⟨t,hR,dp,d100,SH,n1,n8,TF,qm,q⟩
 ·refine ⟨_,rfl,_,rfl,v,ra,n,rfl,dp,hR,λH1 s1=>?_⟩
  rw [hf]
  exact ⟨_,rfl,yH ⟨(by show 1<=sizeLine; decide),qx _ s1⟩⟩
 ·refine ⟨_,rfl,_,rfl,v,yz t,n,rfl,(by rw [j8]; exact dp),uU n8 SH hR,λH1 s1=>?_⟩
  rw [gZ SH]
  refine ⟨_,rfl,zb ?_⟩
  refine ⟨_,rfl,v,t,rfl,dp,d100,hR.same s1,_,_,rfl,rfl,_,rfl,?_⟩
  by_cases c:60 < zg t
  ·exact yM (decide_eq_true (show ((zg t:Int) > 60) by omega)) ⟨(by show 1<=sizeLine; decide),qm c _ s1⟩
  refine zr (decide_eq_false (show ¬ ((zg t:Int) > 60) by omega)) ?_
  exact ⟨_,rfl,v,n,t,rfl,rfl,dp,d100,hR.same s1,SH,n1,n8,TF,(by omega),λl lv H' s e1 e2 e3=>q (by omega) l lv H' (s1.trans s) (s1.free e1) e2 (Paired.mapP e3 λ_ _ z=>z.back s1)⟩
end
theorem vY {α:Type} {xs:List α} {n:Nat} (h:xs.length<=n):xs.take n=xs:=List.take_of_length_le h
noncomputable def yr (f:Int) (ns:List Int):List Int:=ns.map λx=>f * x
theorem vJ (f:Int) (ns:List Int):(yr f ns).length=ns.length:=List.length_map _
noncomputable def wf (f:Int) (ns:List Int) (g:Int) (os:List Int):List Int:=(ns.zip os).map λq=>f * q.1 + g * q.2
theorem W5 (f:Int) (ns:List Int) (g:Int) (os:List Int):(wf f ns g os).length=min ns.length os.length:=by
 unfold wf
 rw [List.length_map,List.length_zip]
noncomputable def xg (m:MD) (p:PC):MD:=⟨m.rows++p.1,(m.nexts.zip m.steer).map λq=>wf p.2.d q.1 q.2 p.2.ns,m.steer.map λ_=>0,m.push.map (yr p.2.d),wf p.2.d m.add p.2.a m.steer,p.2.d * m.div⟩
noncomputable def Y8 (n:Nat) (r:List Int):List Int:=r.take n++[0,r.getD n 0]
noncomputable def vK (n:Nat) (m:MD) (p:PC):MD:=⟨(m.rows++p.1).map (Y8 n),((m.nexts.zip m.steer).map λq=>yr p.2.d (q.1++[q.2]))++[yr m.div p.2.ns++[0]],(m.steer.map λ_=>0)++[0],m.push.map (yr p.2.d)++[((m.push.map (yr p.2.d)).getD 0 []).map λ_=>0],yr p.2.d m.add++[m.div * p.2.a],m.div * p.2.d⟩
noncomputable def qC (m:MD) (l:LF):MD:=⟨(xg m ([],l)).rows,(xg m ([],l)).nexts,(xg m ([],l)).steer,((xg m ([],l)).push.zip m.steer).map λq=>q.1++yr (-q.2) l.ns,(xg m ([],l)).add,(xg m ([],l)).div⟩
structure MB (m:MD):Prop where
 nexts:∀ r∈m.nexts,∀ x∈r,Bd 300 x
 steer:∀ x∈m.steer,Bd 300 x
 push:∀ r∈m.push,∀ x∈r,Bd 300 x
 add:∀ x∈m.add,Bd 300 x
 div:Bd 300 m.div
 few:m.rows.length<=100
structure PB (n:Nat) (p:PC):Prop where
 rows:∀ r∈p.1,r.length=n + 1
 few:p.1.length<=100
 len:p.2.ns.length=n
 d0:0 < p.2.d
 ns:∀ x∈p.2.ns,Bd 300 x
 a:Bd 300 p.2.a
 d:Bd 300 p.2.d
theorem ku {m:MD} {p:PC} {n w:Nat} (h:yk m n w) (b:MB m) (k:PB n p):yk (xg m p) n w:=by
 have n1:=h.nexts.1
 have n2:=h.steer
 have a1:=h.add
 have d1:=h.div
 have d2:=k.d0
 refine ⟨λr hr=>?_,?_,⟨?_,λr hr=>?_⟩,?_,⟨?_,λr hr=>?_⟩,?_,?_,h.n3,h.p6⟩
 ·exact (List.mem_append.mp hr).elim (h.rows r) (k.rows r)
 ·have:=b.few
  have:=k.few
  show (m.rows++p.1).length<=900
  rw [List.length_append]
  omega
 ·show ((m.nexts.zip m.steer).map _).length=n
  rw [List.length_map,List.length_zip]
  omega
 ·obtain ⟨q,hq,rfl⟩:=List.mem_map.mp hr
  have:=h.nexts.2 q.1 (List.of_mem_zip hq).1
  have:=k.len
  rw [W5]
  omega
 ·show (m.steer.map _).length=n
  rw [List.length_map]
  exact n2
 ·show (m.push.map _).length=n
  rw [List.length_map]
  exact h.push.1
 ·obtain ⟨q,hq,rfl⟩:=List.mem_map.mp hr
  rw [vJ]
  exact h.push.2 q hq
 ·show (wf _ _ _ _).length=n
  rw [W5]
  omega
 ·show 1<=p.2.d * m.div
  have:=Int.mul_pos d2 (show 0 < m.div by omega)
  omega
theorem W6 {m:MD} {p:PC} {n w:Nat} (h:yk m n w) (b:MB m) (k:PB n p) (n1:1<=n) (n2:n<=2):yk (vK n m p) (n + 1) w:=by
 have e1:=h.nexts.1
 have e2:=h.steer
 have e3:=h.add
 have d1:=h.div
 have d2:=k.d0
 refine ⟨λr hr=>?_,?_,⟨?_,λr hr=>?_⟩,?_,⟨?_,λr hr=>?_⟩,?_,?_,by omega,h.p6⟩
 ·obtain ⟨q,hq,rfl⟩:=List.mem_map.mp hr
  have:q.length=n + 1:=(List.mem_append.mp hq).elim (h.rows q) (k.rows q)
  show (q.take n++[0,q.getD n 0]).length=_
  rw [List.length_append,List.length_take]
  show min n q.length + 2=_
  omega
 ·have:=b.few
  have:=k.few
  show ((m.rows++p.1).map _).length<=900
  rw [List.length_map,List.length_append]
  omega
 ·show (((m.nexts.zip m.steer).map _)++[_]).length=n + 1
  rw [List.length_append,List.length_map,List.length_zip,List.length_singleton]
  omega
 ·rcases List.mem_append.mp hr with hr | hr
  ·obtain ⟨q,hq,rfl⟩:=List.mem_map.mp hr
   have:=h.nexts.2 q.1 (List.of_mem_zip hq).1
   rw [vJ,List.length_append,List.length_singleton]
   omega
  ·rw [List.mem_singleton.mp hr,List.length_append,vJ,k.len]
   rfl
 ·show ((m.steer.map _)++[_]).length=n + 1
  rw [List.length_append,List.length_map,List.length_singleton]
  omega
 ·show ((m.push.map _)++[_]).length=n + 1
  rw [List.length_append,List.length_map,List.length_singleton,h.push.1]
 ·rcases List.mem_append.mp hr with hr | hr
  ·obtain ⟨q,hq,rfl⟩:=List.mem_map.mp hr
   rw [vJ]
   exact h.push.2 q hq
  ·rw [List.mem_singleton.mp hr,List.length_map]
   have l0:0 < (m.push.map (yr p.2.d)).length:=by rw [List.length_map,h.push.1]; omega
   rw [List.getD_eq_getElem?_getD,List.getElem?_eq_getElem l0,Option.getD_some,List.getElem_map,vJ]
   exact h.push.2 _ (List.getElem_mem _)
 ·show (yr _ _++[_]).length=n + 1
  rw [List.length_append,vJ,e3]
  rfl
 ·show 1<=m.div * p.2.d
  have:=Int.mul_pos (show 0 < m.div by omega) d2
  omega
theorem W7 {m:MD} {l:LF} {n w:Nat} (h:yk m n w) (b:MB m) (k:PB n ([],l)) (w3:w<=3):yk (qC m l) n (w + n):=by
 have s:=ku h b k
 have p1:=s.push.1
 have e2:=h.steer
 have n3:=h.n3
 refine ⟨s.rows,s.few,s.nexts,s.steer,⟨?_,λr hr=>?_⟩,s.add,s.div,n3,by omega⟩
 ·show (((xg m ([],l)).push.zip m.steer).map _).length=n
  rw [List.length_map,List.length_zip]
  omega
 ·obtain ⟨q,hq,rfl⟩:=List.mem_map.mp hr
  have:=s.push.2 q.1 (List.of_mem_zip hq).1
  have kl:l.ns.length=n:=k.len
  rw [List.length_append,vJ]
  omega
theorem Km {α:Type} {xs:List α} {i:Nat} {x d:α} (h:xs[i]? = some x):xs.getD i d=x:=by rw [List.getD_eq_getElem?_getD,h]; rfl
inductive gd (vs:List V) (H:Hp) (Q:VK) (E:XK):Prop
 | mk (f:Int) (a:Addr) (ns:List Int) (_:vs=[.int f,.ref a]) (_:H a=some (.lst (ns.map V.int))) (_:ns.length<=900) (_:Bd 1000 f) (_:(∀ x∈ns,Bd 1000 x)) (_:∀ l H',zC H H'->H l=none->H' l=some (.lst ((yr f ns).map V.int))->Q (.ref l) H'):gd vs H Q E
inductive Y9 (vs:List V) (H:Hp) (Q:VK) (E:XK):Prop
 | mk (f g:Int) (a b:Addr) (ns os:List Int) (_:vs=[.int f,.ref a,.int g,.ref b]) (_:H a=some (.lst (ns.map V.int))) (_:H b=some (.lst (os.map V.int))) (_:ns.length=os.length) (_:ns.length<=900) (_:Bd 1000 f) (_:Bd 1000 g) (_:(∀ x∈ns,Bd 1000 x)) (_:(∀ x∈os,Bd 1000 x)) (_:∀ l H',zC H H'->H l=none->H' l=some (.lst ((wf f ns g os).map V.int))->Q (.ref l) H'):Y9 vs H Q E
structure xh (C:Addr) (H:Hp) (so:Addr) (l:LF) (dx la:Addr):Prop where
 ins:H so=some (.ins C dx (wb (.ref la) l.a l.d))
 ns:H la=some (.lst (l.ns.map V.int))
theorem xh.same {C:Addr} {H H':Hp} {so:Addr} {l:LF} {dx la:Addr} (s:zC H H') (h:xh C H so l dx la):xh C H' so l dx la:=⟨s _ _ h.ins,s _ _ h.ns⟩
theorem W8 {C:Addr} {J1 J2:Hp} {o:Addr} {m:MD} {M:jt C J2 o m} (ok:M.Ok) {b:Addr} {xs:List V} (h1:J1 b=some (.lst xs)) (h2:J2 b=some (.lst xs)) (f1:J1 M.r=none) (f2:J1 M.n=none) (f3:J1 M.s=none) (f4:J1 M.p=none) (f5:J1 M.a=none) (m1:Paired (xI J1 J2) M.nv m.nexts) (m2:Paired (xI J1 J2) M.pv m.push):yX C (hide [b] J2) (.ref o) m:=by
 have ne:∀ {a:Addr} {u:HO},J1 a=none->J2 a=some u->hide [b] J2 a=some u:=λha hu=>(yq λz=>by rw [List.mem_singleton.mp z,h1] at ha; cases ha).trans hu
 have nk:∀ {a:Addr} {u:HO},J2 a=some u->(∀ ys,u≠.lst ys)->hide [b] J2 a=some u:=λhu k=>(yq λz=>by rw [List.mem_singleton.mp z,h2] at hu; exact k _ (Option.some.inj hu).symm).trans hu
 exact ⟨o,⟨M.dx,M.r,M.rv,M.n,M.nv,M.s,M.p,M.pv,M.a⟩,rfl,⟨nk ok.ins (λ_ z=>nomatch z),ne f1 ok.hr,Paired.mapP ok.hrv λ_ _ ⟨a,e,q⟩=>⟨a,e,nk q (λ_ z=>nomatch z)⟩,ne f2 ok.hn,Paired.mapP m1 λ_ _ ⟨a,e,n,q⟩=>⟨a,e,ne n q⟩,ne f3 ok.hs,ne f4 ok.hp,Paired.mapP m2 λ_ _ ⟨a,e,n,q⟩=>⟨a,e,ne n q⟩,ne f5 ok.ha⟩⟩
inductive ky (C CM:Addr) (vs:List V) (H:Hp) (Q:VK) (E:XK):Prop
 | mk (v:V) (m:MD) (rl so dxs la:Addr) (rv:List V) (rows:List (List Int)) (l:LF) (n w:Nat) (_:vs=[v,.ref rl,.ref so]) (_:yX CM H v m) (_:yk m n w) (_:MB m) (_:H rl=some (.lst rv)) (_:zh H rv rows) (_:xh C H so l dxs la) (_:PB n (rows,l)) (_:∀ u H',zC H H'->yX CM H' u (xg m (rows,l))->(∀ b xs,H b=some (.lst xs)->yX CM (hide [b] H') u (xg m (rows,l)))->Q u H'):ky C CM vs H Q E
inductive XA (C CM:Addr) (vs:List V) (H:Hp) (Q:VK) (E:XK):Prop
 | mk (v:V) (m:MD) (rl so dxs la:Addr) (rv:List V) (rows:List (List Int)) (l:LF) (n w:Nat) (_:vs=[v,.ref rl,.ref so]) (_:yX CM H v m) (_:yk m n w) (_:MB m) (_:H rl=some (.lst rv)) (_:zh H rv rows) (_:xh C H so l dxs la) (_:PB n (rows,l)) (_:1<=n) (_:n<=2) (_:∀ u H',zC H H'->yX CM H' u (vK n m (rows,l))->(∀ b xs,H b=some (.lst xs)->yX CM (hide [b] H') u (vK n m (rows,l)))->Q u H'):XA C CM vs H Q E
inductive XB (C CM:Addr) (vs:List V) (H:Hp) (Q:VK) (E:XK):Prop
 | mk (v:V) (m:MD) (so dxs la:Addr) (l:LF) (n w:Nat) (_:vs=[v,.ref so]) (_:yX CM H v m) (_:yk m n w) (_:MB m) (_:xh C H so l dxs la) (_:PB n ([],l)) (_:w<=3) (_:∀ u H',zC H H'->yX CM H' u (qC m l)->Q u H'):XB C CM vs H Q E
section
variable {P:Program} {w:World} {K:PySem.W.Frag} {mg:Str->Option Value} {base:Heap}
noncomputable abbrev kz:Stmt:=yI 22
theorem Kn:zv ["factor","numbers"] ["factor","numbers"] (zW kz):=.a
noncomputable abbrev ZA:Stmt:=yI 23
theorem Ko:zv ["factor","numbers","other_factor","others"] ["factor","numbers","other_factor","others"] (zW ZA):=.a
noncomputable abbrev gf:Stmt:=yI 57
theorem W9:zv ["mode","rows","straight","factor"] ["mode","rows","straight"] (zW gf):=.a
noncomputable abbrev ZB:Stmt:=yI 59
theorem XC:zv ["mode","straight","exact","push"] ["mode","straight"] (zW ZB):=.a
noncomputable abbrev gg:Stmt:=yI 61
theorem ZC:zv ["mode","rows","straight","factor","nexts","push"] ["mode","rows","straight"] (zW gg):=.a
variable {aRule ad ae af ac au:Addr} (TRule:zQ K mg "Rule" aRule) (ARule:vx K aRule) (ah:zQ K mg "Straight" ad) (ap:vy K ad) (al:zQ K mg "Stopped" ae) (aq:vz K ae) (aj:zQ K mg "Parted" af) (ar:v4 K af) (ag:zQ K mg "Mode" ac) (ai:v5 K ac) (am:zQ K mg "Thing" au) (ao:v6 K au) (Y:v7 K ac ad ae af) {C1 C2:Addr} (Z:vv K mg C1 C2)
include TRule ARule ah ap al aq aj ar ag ai am ao Y Z
theorem Kp {k:Nat} {f:Addr} {fd:FuncData} (F:yA K "scaled" "scaled" kz f fd) (B:Bl mg):zL P w K mg base zj (k + 1) f fd ["factor","numbers"] gd:=by
 refine F.ok Kn (λvs H Q E h=>?_) (λcdv A outer s H vs Q E hr h=>?_)
 ·obtain ⟨_,_,_,rfl,_⟩:=h
  rfl
 obtain ⟨f,a,ns,rfl,ha,few,bf,bn,q⟩:=h
 refine ⟨_,(zX (zo (xY (own:=["number"]) (caps:=[(0,"factor")]) (wD (S:=zW kz) (N:=["factor","numbers"]) rfl (by decide +kernel) rfl ⟨_,rfl⟩ rfl (by decide +kernel) (by decide +kernel)) rfl (xB (zB 1)) (λ_ _ _ _=>zu (i:=0) (show (["number","factor"]:List Str).Nodup by decide +kernel) rfl (Or.inl rfl)) (λ_ _ _ _=>(zR (ji vD) (zB 1) (zB 0)))))),?_⟩
 try dsimp only [zM,Cx.nox,Cx.wish]
 refine ⟨_,rfl,a,rfl,⟨_,zP.of ha⟩,xu (K:=K) (a:=a) (xs:=ns.map V.int) (λi ys σ H'=>ys=(yr f (ns.take i)).map V.int/\(∃ o,σ=[o,some (.int f)])/\H'=H)
  ⟨rfl,⟨none,rfl⟩,rfl⟩ (λi ys σ H' hi ⟨e1,_,e3⟩=>⟨by rw [e3]; exact zP.of ha,by rw [e1,List.length_map,vJ,List.length_take]; exact Nat.min_le_left _ _⟩) (by rw [List.length_map]; exact Nat.le_of_lt (zy (by omega))) ?_ ?_⟩
 ·rintro i x ys σ H' hi ⟨rfl,⟨o,rfl⟩,rfl⟩
  obtain ⟨z,hz,rfl⟩:=uN hi
  refine ⟨_,rfl,_,rfl,_,_,rfl,rfl,⟨bf.mono,(bn z (List.mem_of_getElem? hz)).mono⟩,?_,⟨_,rfl⟩,rfl⟩
  unfold yr
  rw [xO hz,List.map_append,List.map_append]
  rfl
 rintro ys σ H' ⟨rfl,⟨o,rfl⟩,rfl⟩ l hl
 refine q l _ (zK hl _) hl (zH.trans ?_)
 rw [List.length_map,List.take_length]
theorem Kq {k:Nat} {f:Addr} {fd:FuncData} (F:yA K "mixed" "mixed" ZA f fd) (B:Bl mg):zL P w K mg base zj (k + 1) f fd ["factor","numbers","other_factor","others"] Y9:=by
 refine F.ok Ko (λvs H Q E h=>?_) (λcdv A outer s H vs Q E hr h=>?_)
 ·obtain ⟨_,_,_,_,_,_,rfl,_⟩:=h
  rfl
 obtain ⟨f,g,a,b,ns,os,rfl,ha,hb,ln,few,bf,bg,bn,bo,q⟩:=h
 refine ⟨_,(zX (zo (xY (own:=["number","other"]) (caps:=[(0,"factor"),(2,"other_factor")]) (wD (S:=zW ZA) (N:=["factor","numbers","other_factor","others"]) rfl (by decide +kernel) rfl ⟨_,rfl⟩ rfl (by decide +kernel) (by decide +kernel)) rfl (kN rfl B.zip_ (zA (zB 1) (zA (zB 3) zE))) (λ_ _ _ _=>show PG _ _ (wV K 2 (wq (wB 0) (wq (wB 1) wU))) from vf (n:=2) rfl (xW (zu (i:=0) (show (["number","other","factor","other_factor"]:List Str).Nodup by decide +kernel) rfl (Or.inl rfl)) (xW (zu (i:=1) (show (["number","other","factor","other_factor"]:List Str).Nodup by decide +kernel) rfl (Or.inl rfl)) ve))) (λ_ _ _ _=>(zR (yF xi) (zR (ji vD) (zB 2) (zB 0)) (zR (ji vD) (zB 3) (zB 1))))))),?_⟩
 try dsimp only [zM,Cx.nox,Cx.wish]
 refine ⟨_,rfl,_,rfl,a,b,rfl,⟨_,zP.of ha⟩,⟨_,zP.of hb⟩,kO (K:=K) (a:=a) (b:=b) (xs:=ns.map V.int) (ys:=os.map V.int)
  (λi zs σ H'=>zs=(((ns.zip os).take i).map λq=>f * q.1 + g * q.2).map V.int/\(∃ o1 o2,σ=[o1,o2,some (.int f),some (.int g)])/\zC H H')
  ⟨rfl,⟨none,none,rfl⟩,zC.refl _⟩ (λi zs σ H' hi ⟨e1,_,sm⟩=>⟨zP.of (sm _ _ ha),zP.of (sm _ _ hb),by rw [e1,List.length_map,List.length_map,List.length_take]; exact Nat.min_le_left _ _⟩) (by rw [List.length_map,List.length_map,ln]; exact Nat.le_refl _) (by rw [List.length_map]; exact Nat.le_of_lt (zy (by omega))) ?_ ?_⟩
 ·rintro i x y T zs σ H' hx hy hT ⟨rfl,⟨o1,o2,rfl⟩,sm⟩
  obtain ⟨x0,hx0,rfl⟩:=uN hx
  obtain ⟨y0,hy0,rfl⟩:=uN hy
  have s2:=sm.trans (zK hT (HO.tup [V.int x0,V.int y0]))
  refine ⟨T,_,rfl,zn.of zH,rfl,_,_,rfl,_,_,rfl,rfl,?_⟩
  refine ⟨_,rfl,_,rfl,_,_,rfl,rfl,⟨bf.mono,(bn _ (List.mem_of_getElem? hx0)).mono⟩,_,rfl,_,rfl,_,_,rfl,rfl,⟨bg.mono,(bo _ (List.mem_of_getElem? hy0)).mono⟩,_,_,rfl,rfl,?_,⟨_,_,rfl⟩,s2⟩
  have hz:(ns.zip os)[i]? = some (x0,y0):=by rw [List.getElem?_zip_eq_some]; exact ⟨hx0,hy0⟩
  rw [xO hz,List.map_append,List.map_append]
  rfl
 rintro zs σ H' ⟨rfl,⟨o1,o2,rfl⟩,sm⟩ l hl
 refine q l _ (sm.trans (zK hl _)) (sm.free hl) (zH.trans ?_)
 rw [List.take_of_length_le (by rw [List.length_zip,List.length_map]; omega)]
 rfl
theorem Kr {k:Nat} {f:Addr} {fd:FuncData} (F:yA K "steered_mode" "steered_mode" gf f fd) (B:Bl mg) (aE:xk P w K mg base ac ["self","rows","nexts","steer","push","add","divisor"] k (ju ac)) (aW:Fn P w K mg base "mixed" ["factor","numbers","other_factor","others"] (k + 1) Y9) (aD:Fn P w K mg base "scaled" ["factor","numbers"] (k + 1) gd):zL P w K mg base zj (k + 1 + 1) f fd ["mode","rows","straight"] (ky ad ac):=by
 refine F.ok W9 (λvs H Q E h=>?_) (λcdv A outer s H vs Q E hr h=>?_)
 ·obtain ⟨_,_,_,_,_,_,_,_,_,_,_,rfl,_⟩:=h
  rfl
 obtain ⟨v,m,rl,so,dxs,la,rv,rows,l,n,w,rfl,hM,MO,MBm,hrl,hrv,SA,PK,q⟩:=h
 refine ⟨_,(zS (zp (i:=3) W9.nd rfl (Or.inr rfl) (ze (zB 2) rfl))
  (zX (zo (yN aE ag hr rfl (zA (zR zk (ze (zB 0) rfl) (zB 1)) (zA (xY (own:=["part","steer"]) (caps:=[(2,"straight"),(3,"factor")]) (wD (S:=zW gf) (N:=["mode","rows","straight","factor"]) rfl (by decide +kernel) rfl ⟨_,rfl⟩ rfl (by decide +kernel) (by decide +kernel)) rfl (kN rfl B.zip_ (zA (ze (zB 0) rfl) (zA (ze (zB 0) rfl) zE))) (λ_ _ _ _=>show PG _ _ (wV K 2 (wq (wB 0) (wq (wB 1) wU))) from vf (n:=2) rfl (xW (zu (i:=0) (show (["part","steer","straight","factor"]:List Str).Nodup by decide +kernel) rfl (Or.inl rfl)) (xW (zu (i:=1) (show (["part","steer","straight","factor"]:List Str).Nodup by decide +kernel) rfl (Or.inl rfl)) ve))) (λ_ _ _ _=>(zZ aW hr rfl (zA (zB 3) (zA (zB 0) (zA (zB 1) (zA (show PE _ _ (uG K _ _) from ze (zB 2) rfl) zE))))))) (zA (xY (own:=["steer"]) (caps:=[]) (wr rfl) rfl (xB (ze (zB 0) rfl)) (λ_ _ _ _=>zu (i:=0) (show (["steer"]:List Str).Nodup by decide +kernel) rfl (Or.inl rfl)) (λ_ _ _ _=>zJ)) (zA (xY (own:=["part"]) (caps:=[(3,"factor")]) (wD (S:=zW gf) (N:=["mode","rows","straight","factor"]) rfl (by decide +kernel) rfl ⟨_,rfl⟩ rfl (by decide +kernel) (by decide +kernel)) rfl (xB (ze (zB 0) rfl)) (λ_ _ _ _=>zu (i:=0) (show (["part","factor"]:List Str).Nodup by decide +kernel) rfl (Or.inl rfl)) (λ_ _ _ _=>(zZ aD hr rfl (zA (zB 1) (zA (zB 0) zE))))) (zA (zZ aW hr rfl (zA (zB 3) (zA (ze (zB 0) rfl) (zA (ze (zB 2) rfl) (zA (ze (zB 0) rfl) zE))))) (zA (zR (ji vD) (zB 3) (ze (zB 0) rfl)) zE)))))))))),?_⟩
 try dsimp only [zM,Cx.nox,Cx.wish]
 obtain ⟨o,M,rfl,k0⟩:=hM
 have n3:=MO.n3
 have p6:=MO.p6
 have ln1:=MO.nexts.1
 have ln2:=MO.steer
 have ln3:=MO.push.1
 have ln4:=MO.add
 have fw:=MBm.few
 have lrv:M.rv.length=m.rows.length:=Paired.length k0.hrv
 have lnv:M.nv.length=m.nexts.length:=Paired.length k0.hnv
 have lpv:M.pv.length=m.push.length:=Paired.length k0.hpv
 have kl:l.ns.length=n:=PK.len
 have fr:rows.length<=100:=PK.few
 have lr2:rv.length=rows.length:=Paired.length hrv
 refine ⟨_,rfl,so,ad,dxs,_,_,rfl,SA.ins,ah.cl,ap.n_divisor,rfl,?_⟩
 refine ⟨_,rfl,o,ac,M.dx,_,_,rfl,k0.ins,ag.cl,ai.n_rows,rfl,_,rfl,M.r,rl,_,_,rfl,rfl,k0.hr,hrl,Nat.le_of_lt (zy (by omega)),λc1 hc1=>?_⟩
 have S1:=zK hc1 (HO.lst (M.rv++rv))
 have ec1:=zH (H:=H) (a:=c1) (o:=HO.lst (M.rv++rv))
 have hw1:zh (upd H c1 (HO.lst (M.rv++rv))) (M.rv++rv) (m.rows++rows):=wm (zh.same S1 k0.hrv) (zh.same S1 hrv)
 generalize hhG1:upd H c1 (HO.lst (M.rv++rv))=G1 at S1 ec1 hw1 |-
 refine ⟨_,rfl,o,ac,M.dx,_,_,rfl,(S1 _ _ k0.ins),ag.cl,ai.n_nexts,rfl,_,rfl,o,ac,M.dx,_,_,rfl,(S1 _ _ k0.ins),ag.cl,ai.n_steer,rfl,M.n,M.s,rfl,⟨_,zP.of (S1 _ _ k0.hn)⟩,⟨_,zP.of (S1 _ _ k0.hs)⟩,kO (K:=K) (a:=M.n) (b:=M.s) (xs:=M.nv) (ys:=m.steer.map V.int)
  (λi zs σ H'=>zI H' zs (((m.nexts.zip m.steer).take i).map λq=>wf l.d q.1 q.2 l.ns)/\(∃ o1 o2,σ=[o1,o2,some (.ref so),some (.int l.d)])/\zC G1 H')
  ⟨.nil,⟨none,none,rfl⟩,zC.refl _⟩ (λi zs σ H' hi ⟨e1,_,sm⟩=>⟨zP.of (sm _ _ (S1 _ _ k0.hn)),zP.of (sm _ _ (S1 _ _ k0.hs)),by have:=Paired.length e1; rw [List.length_map,List.length_take] at this; omega⟩) (by rw [List.length_map]; omega) (Nat.le_of_lt (zy (by omega))) ?_ ?_⟩
 ·rintro i x y T zs σ H' hx hy hT ⟨hz,⟨o1,o2,rfl⟩,sm⟩
  obtain ⟨r,hr',a,rfl,ea⟩:=xF k0.hnv hx
  obtain ⟨y0,hy0,rfl⟩:=uN hy
  have zT:=zK hT (HO.tup [V.ref a,V.int y0])
  have s2:=S1.trans (sm.trans zT)
  have rl':=MO.nexts.2 r (List.mem_of_getElem? hr')
  refine ⟨T,_,rfl,zn.of zH,rfl,_,_,rfl,_,_,rfl,rfl,?_⟩
  refine ⟨_,rfl,_,rfl,_,rfl,_,rfl,so,ad,dxs,_,_,rfl,(s2 _ _ SA.ins),ah.cl,ap.n_numbers,rfl,l.d,y0,a,la,r,l.ns,rfl,s2 _ _ ea,s2 _ _ SA.ns,(by omega),(by omega),PK.d.mono,(MBm.steer y0 (List.mem_of_getElem? hy0)).mono,(λx hx=>(MBm.nexts r (List.mem_of_getElem? hr') x hx).mono),(λx hx=>(PK.ns x hx).mono),λl2 H2 s3 _ el2=>?_⟩
  have hz':(m.nexts.zip m.steer)[i]? = some (r,y0):=by rw [List.getElem?_zip_eq_some]; exact ⟨hr',hy0⟩
  refine ⟨?_,⟨_,_,rfl⟩,sm.trans (zT.trans s3)⟩
  rw [xO hz',List.map_append]
  exact xZ (R:=xH _) ⟨l2,rfl,el2⟩ (zI.same (zT.trans s3) hz)
 rintro tn σ G1' ⟨htn,⟨o1,o2,rfl⟩,y20⟩ n1 hn1
 rw [vY (by rw [List.length_zip]; omega)] at htn
 have y2:=y20.trans (zK hn1 (HO.lst tn))
 replace htn:=zI.same (zK hn1 (HO.lst tn)) htn
 have en1:=zH (H:=G1') (a:=n1) (o:=HO.lst tn)
 generalize hhG2:upd G1' n1 (HO.lst tn)=G2 at y2 en1 htn |-
 have S2:=S1.trans y2
 refine ⟨_,rfl,o,ac,M.dx,_,_,rfl,(S2 _ _ k0.ins),ag.cl,ai.n_steer,rfl,M.s,rfl,⟨_,zP.of (S2 _ _ k0.hs)⟩,xu (K:=K) (a:=M.s) (xs:=(m.steer).map V.int) (λi ys σ H'=>ys=(List.replicate i (0:Int)).map V.int/\(∃ o,σ=[o])/\H'=G2)
  ⟨rfl,⟨none,rfl⟩,rfl⟩ (λi ys σ H' hi ⟨e1,_,e3⟩=>⟨by rw [e3]; exact zP.of (S2 _ _ k0.hs),by rw [e1,List.length_map,List.length_replicate]; exact Nat.le_refl _⟩) (by rw [List.length_map,ln2]; exact Nat.le_of_lt (zy (by omega))) ?_ ?_⟩
 ·rintro i x ys σ H' hi ⟨rfl,⟨o1,rfl⟩,rfl⟩
  refine ⟨?_,⟨_,rfl⟩,rfl⟩
  rw [List.replicate_succ',List.map_append]
  rfl
 rintro ys σ H' ⟨rfl,⟨o1,rfl⟩,hZ⟩ z1 hz1
 rw [hZ] at hz1 |-
 rw [List.length_map,kY]
 have y3:=zK hz1 (HO.lst (((m.steer).map λ_=>(0:Int)).map V.int))
 have ez1:=zH (H:=G2) (a:=z1) (o:=HO.lst (((m.steer).map λ_=>(0:Int)).map V.int))
 generalize hhG3:upd G2 z1 (HO.lst (((m.steer).map λ_=>(0:Int)).map V.int))=G3 at y3 ez1 |-
 clear hZ
 have S3:=S2.trans y3
 refine ⟨_,rfl,o,ac,M.dx,_,_,rfl,(S3 _ _ k0.ins),ag.cl,ai.n_push,rfl,M.p,rfl,⟨_,zP.of (S3 _ _ k0.hp)⟩,xu (K:=K) (a:=M.p) (xs:=M.pv) (λi ys σ H'=>zI H' ys ((m.push.take i).map (yr l.d))/\(∃ o,σ=[o,some (.int l.d)])/\zC G3 H')
  ⟨.nil,⟨none,rfl⟩,zC.refl _⟩ (λi ys σ H' hi ⟨e1,_,sm⟩=>⟨zP.of (sm _ _ (S3 _ _ k0.hp)),by have:=Paired.length e1; rw [List.length_map,List.length_take] at this; omega⟩) (Nat.le_of_lt (zy (by omega))) ?_ ?_⟩
 ·rintro i x ys σ H' hi ⟨hz,⟨o1,rfl⟩,sm⟩
  obtain ⟨r,hr',a,rfl,ea⟩:=xF k0.hpv hi
  have rl':=MO.push.2 r (List.mem_of_getElem? hr')
  refine ⟨_,rfl,_,rfl,l.d,a,r,rfl,sm _ _ (S3 _ _ ea),(by omega),PK.d.mono,(λx hx=>(MBm.push r (List.mem_of_getElem? hr') x hx).mono),λl2 H2 s3 _ el2=>?_⟩
  refine ⟨?_,⟨_,rfl⟩,sm.trans s3⟩
  rw [xO hr',List.map_append]
  exact xZ (R:=xH _) ⟨l2,rfl,el2⟩ (zI.same s3 hz)
 rintro tp σ G3' ⟨htp,⟨o1,rfl⟩,y40⟩ p1 hp1
 rw [vY (by omega)] at htp
 have y4:=y40.trans (zK hp1 (HO.lst tp))
 replace htp:=zI.same (zK hp1 (HO.lst tp)) htp
 have ep1:=zH (H:=G3') (a:=p1) (o:=HO.lst tp)
 generalize hhG4:upd G3' p1 (HO.lst tp)=G4 at y4 ep1 htp |-
 have S4:=S3.trans y4
 refine ⟨_,rfl,_,rfl,o,ac,M.dx,_,_,rfl,(S4 _ _ k0.ins),ag.cl,ai.n_add,rfl,_,rfl,so,ad,dxs,_,_,rfl,(S4 _ _ SA.ins),ah.cl,ap.n_add,rfl,_,rfl,o,ac,M.dx,_,_,rfl,(S4 _ _ k0.ins),ag.cl,ai.n_steer,rfl,l.d,l.a,M.a,M.s,m.add,m.steer,rfl,S4 _ _ k0.ha,S4 _ _ k0.hs,(by omega),(by omega),PK.d.mono,PK.a.mono,(λx hx=>(MBm.add x hx).mono),(λx hx=>(MBm.steer x hx).mono),λa1 G5 y5 _ ea1=>?_⟩
 have S5:=S4.trans y5
 refine ⟨_,rfl,_,rfl,o,ac,M.dx,_,_,rfl,(S5 _ _ k0.ins),ag.cl,ai.n_divisor,rfl,_,_,rfl,rfl,⟨PK.d.mono,MBm.div.mono⟩,?_⟩
 have y25:=y3.trans (y4.trans y5)
 have y15:=y2.trans y25
 intro mo dx hmo hdx ne
 have zm:=ww hmo hdx ne (HO.own mo) (HO.ins ac dx [])
 have eo:=zH (H:=upd G5 dx (HO.own mo)) (a:=mo) (o:=HO.ins ac dx [])
 generalize hhJ1:upd (upd G5 dx (HO.own mo)) mo (HO.ins ac dx [])=J1 at zm eo |-
 refine ⟨mo,dx,c1,n1,z1,p1,a1,(M.rv++rv),tn,tp,(xg m (rows,l)),n,w,rfl,eo,ku MO MBm PK,zm _ _ (y15 _ _ ec1),zh.same zm (zh.same y15 hw1),zm _ _ (y25 _ _ en1),zI.same zm (zI.same y25 htn),zm _ _ (y4.trans y5 _ _ ez1),zm _ _ (y5 _ _ ep1),zI.same zm (zI.same y5 htp),zm _ _ ea1,λM2 J2 sb ok f1 f2 f3 f4 f5 m1 m2=>⟨rfl,?_⟩⟩
 exact q (.ref mo) J2 (S5.trans (wa zm sb hmo)) ⟨mo,_,rfl,ok⟩ (λb xs hb=>W8 ok (zm _ _ (S5 _ _ hb)) ((wa zm sb hmo) _ _ (S5 _ _ hb)) f1 f2 f3 f4 f5 m1 m2)
theorem Ks {k:Nat} {f:Addr} {fd:FuncData} (F:yA K "rounded_mode" "rounded_mode" ZB f fd) (B:Bl mg) (aQ:Fn P w K mg base "steered_mode" ["mode","rows","straight"] (k + 1) (ky ad ac)) (aD:Fn P w K mg base "scaled" ["factor","numbers"] (k + 1) gd) (aE:xk P w K mg base ac ["self","rows","nexts","steer","push","add","divisor"] k (ju ac)):zL P w K mg base zj (k + 1 + 1) f fd ["mode","straight"] (XB ad ac):=by
 refine F.ok XC (λvs H Q E h=>?_) (λcdv A outer s H vs Q E hr h=>?_)
 ·obtain ⟨_,_,_,_,_,_,_,_,rfl,_⟩:=h
  rfl
 obtain ⟨v,m,so,dxs,la,l,n,w,rfl,hM,MO,MBm,SA,PK,w3,q⟩:=h
 refine ⟨_,(zS (zp (i:=2) XC.nd rfl (Or.inl rfl) (zZ aQ hr rfl (zA (zB 0) (zA (yD zE) (zA (zB 1) zE)))))
  (zS (uJ (i:=3) XC.nd rfl rfl (own:=["part","steer"]) (caps:=[(1,"straight")]) (wD (S:=zW ZB) (N:=["mode","straight","exact","push"]) rfl (by decide +kernel) rfl ⟨_,rfl⟩ rfl (by decide +kernel) (by decide +kernel)) rfl (kN rfl B.zip_ (zA (ze (zB 2) rfl) (zA (ze (zB 0) rfl) zE))) (λ_ _ _ _=>show PG _ _ (wV K 2 (wq (wB 0) (wq (wB 1) wU))) from vf (n:=2) rfl (xW (zu (i:=0) (show (["part","steer","straight"]:List Str).Nodup by decide +kernel) rfl (Or.inl rfl)) (xW (zu (i:=1) (show (["part","steer","straight"]:List Str).Nodup by decide +kernel) rfl (Or.inl rfl)) ve))) (λ_ _ _ _=>(zR zk (zB 0) (zZ aD hr rfl (zA (g6 kB (zB 1)) (zA (show PE _ _ (uG K _ _) from ze (zB 2) rfl) zE))))) rfl)
  (zX (zo (yN aE ag hr rfl (zA (ze (zB 2) rfl) (zA (ze (zB 2) rfl) (zA (ze (zB 2) rfl) (zA (zB 3) (zA (ze (zB 2) rfl) (zA (ze (zB 2) rfl) zE))))))))))),?_⟩
 try dsimp only [zM,Cx.nox,Cx.wish]
 have hM2:=hM
 obtain ⟨o,M,rfl,k0⟩:=hM
 have n3:=MO.n3
 have p6:=MO.p6
 have ln1:=MO.nexts.1
 have ln2:=MO.steer
 have ln3:=MO.push.1
 have ln4:=MO.add
 have fw:=MBm.few
 have lrv:M.rv.length=m.rows.length:=Paired.length k0.hrv
 have lnv:M.nv.length=m.nexts.length:=Paired.length k0.hnv
 have lpv:M.pv.length=m.push.length:=Paired.length k0.hpv
 have kl:l.ns.length=n:=PK.len
 refine ⟨_,rfl,(by show 0<=sizeLine; decide),λe0 he0=>?_⟩
 have yG1:=zK he0 (HO.lst [])
 have ee0:=zH (H:=H) (a:=e0) (o:=HO.lst [])
 generalize hhG1:upd H e0 (HO.lst [])=G1 at yG1 ee0 |-
 have SG1:=yG1
 refine ⟨_,rfl,_,m,e0,so,dxs,la,[],[],l,n,w,rfl,(yX.same SG1 hM2),MO,MBm,ee0,.nil,(xh.same SG1 SA),PK,λu J1 y1 hE _=>?_⟩
 have SG2:=SG1.trans y1
 replace ee0:=(y1 _ _ ee0)
 obtain ⟨o2,M2,rfl,k2⟩:=hE
 have so2:=ku MO MBm PK
 have lq1:=so2.push.1
 have lp2:M2.pv.length=(xg m ([],l)).push.length:=Paired.length k2.hpv
 obtain ⟨pq,hpq⟩:∃ pq,pq=(xg m ([],l)).push:=⟨_,rfl⟩
 refine ⟨_,rfl,o2,ac,M2.dx,_,_,rfl,k2.ins,ag.cl,ai.n_push,rfl,_,rfl,o,ac,M.dx,_,_,rfl,(SG2 _ _ k0.ins),ag.cl,ai.n_steer,rfl,M2.p,M.s,rfl,⟨_,zP.of k2.hp⟩,⟨_,zP.of (SG2 _ _ k0.hs)⟩,kO (K:=K) (a:=M2.p) (b:=M.s) (xs:=M2.pv) (ys:=m.steer.map V.int)
  (λi zs σ H'=>zI H' zs ((((xg m ([],l)).push.zip m.steer).take i).map λq=>q.1++yr (-q.2) l.ns)/\(∃ o1 o2,σ=[o1,o2,some (.ref so)])/\zC J1 H')
  ⟨.nil,⟨none,none,rfl⟩,zC.refl _⟩ (λi zs σ H' hi ⟨e1,_,sm⟩=>⟨zP.of (sm _ _ k2.hp),zP.of (sm _ _ (SG2 _ _ k0.hs)),by have:=Paired.length e1; rw [List.length_map,List.length_take] at this; omega⟩) (by rw [List.length_map]; omega) (Nat.le_of_lt (zy (by omega))) ?_ ?_⟩
 ·rintro i x y T zs σ H' hx hy hT ⟨hz,⟨o1,o3,rfl⟩,sm⟩
  obtain ⟨r,hr',a,rfl,ea⟩:=xF k2.hpv hx
  obtain ⟨y0,hy0,rfl⟩:=uN hy
  have zT:=zK hT (HO.tup [V.ref a,V.int y0])
  have s1:=sm.trans zT
  have s2:=SG2.trans s1
  have rl':=so2.push.2 r (List.mem_of_getElem? hr')
  refine ⟨T,_,rfl,zn.of zH,rfl,_,_,rfl,_,_,rfl,rfl,?_⟩
  refine ⟨_,rfl,_,rfl,_,rfl,_,rfl,so,ad,dxs,_,_,rfl,(s2 _ _ SA.ins),ah.cl,ap.n_numbers,rfl,-y0,la,l.ns,rfl,s2 _ _ SA.ns,(by omega),((MBm.steer y0 (List.mem_of_getElem? hy0)).neg).mono,(λx hx=>(PK.ns x hx).mono),λl2 H2 s3 _ el2=>?_⟩
  refine ⟨a,l2,_,_,rfl,rfl,s3 _ _ (s1 _ _ ea),el2,?_,λc hc=>?_⟩
  ·rw [List.length_map,List.length_map,vJ]
   exact Nat.le_of_lt (zy (by omega))
  have zc:=zK hc (HO.lst (r.map V.int++(yr (-y0) l.ns).map V.int))
  have hz':((xg m ([],l)).push.zip m.steer)[i]? = some (r,y0):=by rw [List.getElem?_zip_eq_some]; exact ⟨hr',hy0⟩
  refine ⟨?_,⟨_,_,rfl⟩,s1.trans (s3.trans zc)⟩
  rw [xO hz',List.map_append (l₁:=List.take i _)]
  exact xZ (R:=xH _) ⟨c,rfl,zH.trans (by rw [List.map_append])⟩ (zI.same (zT.trans (s3.trans zc)) hz)
 rintro tn σ J2 ⟨htn,⟨o1,o3,rfl⟩,y2⟩ p1 hp1
 rw [vY (by rw [List.length_zip]; omega)] at htn
 have yb:=y2
 have SG3:=SG2.trans y2
 replace ee0:=(y2 _ _ ee0)
 have yG4:=zK hp1 (HO.lst tn)
 have ep1:=zH (H:=J2) (a:=p1) (o:=HO.lst tn)
 generalize hhG4:upd J2 p1 (HO.lst tn)=G4 at yG4 ep1 |-
 have SG4:=SG3.trans yG4
 replace ee0:=(yG4 _ _ ee0)
 replace htn:=(zI.same yG4 htn)
 have y3:=y2.trans yG4
 refine ⟨_,rfl,o2,ac,M2.dx,_,_,rfl,(y3 _ _ k2.ins),ag.cl,ai.n_rows,rfl,_,rfl,o2,ac,M2.dx,_,_,rfl,(y3 _ _ k2.ins),ag.cl,ai.n_nexts,rfl,_,rfl,o2,ac,M2.dx,_,_,rfl,(y3 _ _ k2.ins),ag.cl,ai.n_steer,rfl,_,rfl,_,rfl,o2,ac,M2.dx,_,_,rfl,(y3 _ _ k2.ins),ag.cl,ai.n_add,rfl,_,rfl,o2,ac,M2.dx,_,_,rfl,(y3 _ _ k2.ins),ag.cl,ai.n_divisor,rfl,?_⟩
 intro mo dx hmo hdx ne
 have zm:=ww hmo hdx ne (HO.own mo) (HO.ins ac dx [])
 have eo:=zH (H:=upd G4 dx (HO.own mo)) (a:=mo) (o:=HO.ins ac dx [])
 generalize hhJ1:upd (upd G4 dx (HO.own mo)) mo (HO.ins ac dx [])=J1 at zm eo |-
 refine ⟨mo,dx,M2.r,M2.n,M2.s,p1,M2.a,M2.rv,M2.nv,tn,(qC m l),n,(w + n),rfl,eo,W7 MO MBm PK w3,zm _ _ (y3 _ _ k2.hr),zh.same zm (zh.same y3 k2.hrv),zm _ _ (y3 _ _ k2.hn),zI.same zm (zI.same y3 k2.hnv),zm _ _ (y3 _ _ k2.hs),zm _ _ ep1,zI.same zm htn,zm _ _ (y3 _ _ k2.ha),λM2 J2 sb ok f1 f2 f3 f4 f5 m1 m2=>⟨rfl,?_⟩⟩
 exact q (.ref mo) J2 (SG4.trans (wa zm sb hmo)) ⟨mo,_,rfl,ok⟩
theorem Kt {k:Nat} {f:Addr} {fd:FuncData} (F:yA K "late_mode" "late_mode" gg f fd) (B:Bl mg) (aD:Fn P w K mg base "scaled" ["factor","numbers"] (k + 1) gd) (aE:xk P w K mg base ac ["self","rows","nexts","steer","push","add","divisor"] k (ju ac)):zL P w K mg base zj (k + 1 + 1) f fd ["mode","rows","straight"] (XA ad ac):=by
 refine F.ok ZC (λvs H Q E h=>?_) (λcdv A outer s H vs Q E hr h=>?_)
 ·obtain ⟨_,_,_,_,_,_,_,_,_,_,_,rfl,_⟩:=h
  rfl
 obtain ⟨v,m,rl,so,dxs,la,rv,rows,l,n,w,rfl,hM,MO,MBm,hrl,hrv,SA,PK,n1',n2',q⟩:=h
 refine ⟨_,(zS (zp (i:=3) ZC.nd rfl (Or.inr rfl) (ze (zB 2) rfl))
  (zS (uJ (i:=4) ZC.nd rfl rfl (own:=["part","steer"]) (caps:=[(3,"factor")]) (wD (S:=zW gg) (N:=["mode","rows","straight","factor","nexts","push"]) rfl (by decide +kernel) rfl ⟨_,rfl⟩ rfl (by decide +kernel) (by decide +kernel)) rfl (kN rfl B.zip_ (zA (ze (zB 0) rfl) (zA (ze (zB 0) rfl) zE))) (λ_ _ _ _=>show PG _ _ (wV K 2 (wq (wB 0) (wq (wB 1) wU))) from vf (n:=2) rfl (xW (zu (i:=0) (show (["part","steer","factor"]:List Str).Nodup by decide +kernel) rfl (Or.inl rfl)) (xW (zu (i:=1) (show (["part","steer","factor"]:List Str).Nodup by decide +kernel) rfl (Or.inl rfl)) ve))) (λ_ _ _ _=>(zZ aD hr rfl (zA (zB 2) (zA (zR zk (zB 0) (yD (zA (zB 1) zE))) zE)))) rfl)
  (zS (uJ (i:=5) ZC.nd rfl rfl (own:=["part"]) (caps:=[(3,"factor")]) (wD (S:=zW gg) (N:=["mode","rows","straight","factor","nexts","push"]) rfl (by decide +kernel) rfl ⟨_,rfl⟩ rfl (by decide +kernel) (by decide +kernel)) rfl (xB (ze (zB 0) rfl)) (λ_ _ _ _=>zu (i:=0) (show (["part","factor"]:List Str).Nodup by decide +kernel) rfl (Or.inl rfl)) (λ_ _ _ _=>(zZ aD hr rfl (zA (zB 1) (zA (zB 0) zE)))) rfl)
  (zX (zo (yN aE ag hr rfl (zA (xY (own:=["row"]) (caps:=[]) (wr rfl) rfl (xB (zR zk (ze (zB 0) rfl) (zB 1))) (λ_ _ _ _=>zu (i:=0) (show (["row"]:List Str).Nodup by decide +kernel) rfl (Or.inl rfl)) (λ_ _ _ _=>(zR (show yi _ _ (WA K) from Zm) (uZ (show u6 _ (jI K) from QA) (zB 0) uX (uY (g6 kB zJ))) (wY (zA zJ (zA (wK (show jm _ (kP (zn K)) from gE) (zB 0) (g6 kB zJ) (λ_ _=>rfl)) zE)))))) (zA (zR zk (zB 4) (yD (zA (zR zk (zZ aD hr rfl (zA (ze (zB 0) rfl) (zA (ze (zB 2) rfl) zE))) (yD (zA zJ zE))) zE))) (zA (zR zk (xY (own:=["steer"]) (caps:=[]) (wr rfl) rfl (xB (ze (zB 0) rfl)) (λ_ _ _ _=>zu (i:=0) (show (["steer"]:List Str).Nodup by decide +kernel) rfl (Or.inl rfl)) (λ_ _ _ _=>zJ)) (yD (zA zJ zE))) (zA (zR zk (zB 5) (yD (zA (xY (own:=["number"]) (caps:=[]) (wr rfl) rfl (xB (wK vF (zB 5) zJ (λ_ _=>rfl))) (λ_ _ _ _=>zu (i:=0) (show (["number"]:List Str).Nodup by decide +kernel) rfl (Or.inl rfl)) (λ_ _ _ _=>zJ)) zE))) (zA (zR zk (zZ aD hr rfl (zA (zB 3) (zA (ze (zB 0) rfl) zE))) (yD (zA (zR (ji vD) (ze (zB 0) rfl) (ze (zB 2) rfl)) zE))) (zA (zR (ji vD) (ze (zB 0) rfl) (zB 3)) zE)))))))))))),?_⟩
 try dsimp only [zM,Cx.nox,Cx.wish]
 obtain ⟨o,M,rfl,k0⟩:=hM
 have n3:=MO.n3
 have p6:=MO.p6
 have ln1:=MO.nexts.1
 have ln2:=MO.steer
 have ln3:=MO.push.1
 have ln4:=MO.add
 have fw:=MBm.few
 have lrv:M.rv.length=m.rows.length:=Paired.length k0.hrv
 have lnv:M.nv.length=m.nexts.length:=Paired.length k0.hnv
 have lpv:M.pv.length=m.push.length:=Paired.length k0.hpv
 have kl:l.ns.length=n:=PK.len
 have fr:rows.length<=100:=PK.few
 have lr2:rv.length=rows.length:=Paired.length hrv
 refine ⟨_,rfl,so,ad,dxs,_,_,rfl,SA.ins,ah.cl,ap.n_divisor,rfl,?_⟩
 refine ⟨_,rfl,o,ac,M.dx,_,_,rfl,k0.ins,ag.cl,ai.n_nexts,rfl,_,rfl,o,ac,M.dx,_,_,rfl,k0.ins,ag.cl,ai.n_steer,rfl,M.n,M.s,rfl,⟨_,zP.of k0.hn⟩,⟨_,zP.of k0.hs⟩,kO (K:=K) (a:=M.n) (b:=M.s) (xs:=M.nv) (ys:=m.steer.map V.int)
  (λi zs σ H'=>zI H' zs (((m.nexts.zip m.steer).take i).map λq=>yr l.d (q.1++[q.2]))/\(∃ o1 o2,σ=[o1,o2,some (.int l.d)])/\zC H H')
  ⟨.nil,⟨none,none,rfl⟩,zC.refl _⟩ (λi zs σ H' hi ⟨e1,_,sm⟩=>⟨zP.of (sm _ _ k0.hn),zP.of (sm _ _ k0.hs),by have:=Paired.length e1; rw [List.length_map,List.length_take] at this; omega⟩) (by rw [List.length_map]; omega) (Nat.le_of_lt (zy (by omega))) ?_ ?_⟩
 ·rintro i x y T zs σ H' hx hy hT ⟨hz,⟨o1,o2,rfl⟩,sm⟩
  obtain ⟨r,hr',a,rfl,ea⟩:=xF k0.hnv hx
  obtain ⟨y0,hy0,rfl⟩:=uN hy
  have zT:=zK hT (HO.tup [V.ref a,V.int y0])
  have s1:=sm.trans zT
  have rl':=MO.nexts.2 r (List.mem_of_getElem? hr')
  refine ⟨T,_,rfl,zn.of zH,rfl,_,_,rfl,_,_,rfl,rfl,?_⟩
  refine ⟨_,rfl,_,rfl,_,rfl,(by show 1<=sizeLine; decide),λz hz1=>?_⟩
  have zz:=zK hz1 (HO.lst [V.int y0])
  refine ⟨a,z,_,_,rfl,rfl,zz _ _ (s1 _ _ ea),zH,?_,λc hc=>?_⟩
  ·rw [List.length_map,List.length_singleton]
   exact Nat.le_of_lt (zy (by omega))
  have zc:=zK hc (HO.lst (r.map V.int++[V.int y0]))
  refine ⟨l.d,c,r++[y0],rfl,zH.trans (by rw [List.map_append]; rfl),(by rw [List.length_append,List.length_singleton]; omega),PK.d.mono,(λx hx=>?_),λl2 H2 s3 _ el2=>?_⟩
  ·rcases List.mem_append.mp hx with hx | hx
   ·exact (MBm.nexts r (List.mem_of_getElem? hr') x hx).mono
   ·rw [List.mem_singleton.mp hx]
    exact (MBm.steer y0 (List.mem_of_getElem? hy0)).mono
  have hz':(m.nexts.zip m.steer)[i]? = some (r,y0):=by rw [List.getElem?_zip_eq_some]; exact ⟨hr',hy0⟩
  have sA:=zT.trans (zz.trans (zc.trans s3))
  refine ⟨?_,⟨_,_,rfl⟩,sm.trans sA⟩
  rw [xO hz',List.map_append (l₁:=List.take i _)]
  exact xZ (R:=xH _) ⟨l2,rfl,el2⟩ (zI.same sA hz)
 rintro tn σ J1 ⟨htn,⟨o1,o2,rfl⟩,y1⟩ n1 hn1
 rw [vY (by rw [List.length_zip]; omega)] at htn
 have SG1:=y1
 have yG2:=zK hn1 (HO.lst tn)
 have en1:=zH (H:=J1) (a:=n1) (o:=HO.lst tn)
 generalize hhG2:upd J1 n1 (HO.lst tn)=G2 at yG2 en1 |-
 have SG2:=SG1.trans yG2
 replace htn:=(zI.same yG2 htn)
 refine ⟨_,rfl,o,ac,M.dx,_,_,rfl,(SG2 _ _ k0.ins),ag.cl,ai.n_push,rfl,M.p,rfl,⟨_,zP.of (SG2 _ _ k0.hp)⟩,xu (K:=K) (a:=M.p) (xs:=M.pv) (λi ys σ H'=>zI H' ys ((m.push.take i).map (yr l.d))/\(∃ o,σ=[o,some (.int l.d)])/\zC G2 H')
  ⟨.nil,⟨none,rfl⟩,zC.refl _⟩ (λi ys σ H' hi ⟨e1,_,sm⟩=>⟨zP.of (sm _ _ (SG2 _ _ k0.hp)),by have:=Paired.length e1; rw [List.length_map,List.length_take] at this; omega⟩) (Nat.le_of_lt (zy (by omega))) ?_ ?_⟩
 ·rintro i x ys σ H' hi ⟨hz,⟨o1,rfl⟩,sm⟩
  obtain ⟨r,hr',a,rfl,ea⟩:=xF k0.hpv hi
  have rl':=MO.push.2 r (List.mem_of_getElem? hr')
  refine ⟨_,rfl,_,rfl,l.d,a,r,rfl,sm _ _ (SG2 _ _ ea),(by omega),PK.d.mono,(λx hx=>(MBm.push r (List.mem_of_getElem? hr') x hx).mono),λl2 H2 s3 _ el2=>?_⟩
  refine ⟨?_,⟨_,rfl⟩,sm.trans s3⟩
  rw [xO hr',List.map_append]
  exact xZ (R:=xH _) ⟨l2,rfl,el2⟩ (zI.same s3 hz)
 rintro tp σ G2' ⟨htp,⟨o1,rfl⟩,y20⟩ p1 hp1
 rw [vY (by omega)] at htp
 have y2:=y20.trans (zK hp1 (HO.lst tp))
 replace htp:=zI.same (zK hp1 (HO.lst tp)) htp
 have ep1:=zH (H:=G2') (a:=p1) (o:=HO.lst tp)
 generalize hhJ2:upd G2' p1 (HO.lst tp)=J2 at y2 ep1 htp |-
 have SG3:=SG2.trans y2
 replace htn:=(zI.same y2 htn)
 replace en1:=(y2 _ _ en1)
 refine ⟨_,rfl,o,ac,M.dx,_,_,rfl,(SG3 _ _ k0.ins),ag.cl,ai.n_rows,rfl,_,rfl,M.r,rl,_,_,rfl,rfl,(SG3 _ _ k0.hr),(SG3 _ _ hrl),Nat.le_of_lt (zy (by omega)),λc1 hc1=>?_⟩
 have yG4:=zK hc1 (HO.lst (M.rv++rv))
 have ec1:=zH (H:=J2) (a:=c1) (o:=HO.lst (M.rv++rv))
 generalize hhG4:upd J2 c1 (HO.lst (M.rv++rv))=G4 at yG4 ec1 |-
 have SG4:=SG3.trans yG4
 replace htn:=(zI.same yG4 htn)
 replace en1:=(yG4 _ _ en1)
 replace ep1:=(yG4 _ _ ep1)
 replace htp:=(zI.same yG4 htp)
 have hw1:zh G4 (M.rv++rv) (m.rows++rows):=wm (zh.same SG4 k0.hrv) (zh.same SG4 hrv)
 refine ⟨c1,rfl,⟨_,zP.of ec1⟩,xu (K:=K) (a:=c1) (xs:=M.rv++rv) (λi ys σ H'=>zh H' ys (((m.rows++rows).take i).map (Y8 n))/\(∃ o,σ=[o])/\zC G4 H')
  ⟨.nil,⟨none,rfl⟩,zC.refl _⟩ (λi ys σ H' hi ⟨e1,_,sm⟩=>⟨zP.of (sm _ _ ec1),by have:=Paired.length e1; rw [List.length_map,List.length_take] at this; omega⟩) (by rw [List.length_append]; exact Nat.le_of_lt (zy (by omega))) ?_ ?_⟩
 ·rintro i x ys σ H' hi ⟨hz,⟨o1,rfl⟩,sm⟩
  obtain ⟨r,hr',a,rfl,ea0⟩:=xF hw1 hi
  have rl':r.length=n + 1:=(List.mem_append.mp (List.mem_of_getElem? hr')).elim (MO.rows r) (PK.rows r)
  have ea:H' a=some (.tup (uO (r.take n) (r.getD n 0))):=by rw [Jy rl']; exact sm _ _ ea0
  refine ⟨_,rfl,_,rfl,_,rfl,a,_,rfl,zn.of ea,Jd _ _,λu1 hu1=>?_⟩
  rw [show yR (uO (r.take n) (r.getD n 0)) none (some (-1))=(r.take n).map V.int from Jc _ _]
  have z1:=zK hu1 (HO.tup ((r.take n).map V.int))
  refine ⟨_,rfl,_,rfl,a,_,_,_,rfl,rfl,zn.of (z1 _ _ ea),U9 _ _,(by show 2<=sizeLine; decide),λu2 hu2=>?_⟩
  have z2:=zK hu2 (HO.tup [V.int 0,V.int (r.getD n 0)])
  refine ⟨u1,u2,_,_,rfl,rfl,zn.of (z2 _ _ zH),zn.of zH,(λz=>?_),?_,(λz=>nomatch z),λ_ u3 hu3=>?_⟩
  ·have:=congrArg List.length z
   rw [List.length_map,List.length_take,List.length_nil] at this
   omega
  ·rw [List.length_map,List.length_take]
   show _ + 2<=_
   exact Nat.le_of_lt (zy (by omega))
  have z3:=zK hu3 (HO.tup ((r.take n).map V.int++[V.int 0,V.int (r.getD n 0)]))
  have sA:=z1.trans (z2.trans z3)
  refine ⟨?_,⟨_,rfl⟩,sm.trans sA⟩
  rw [xO hr',List.map_append (l₁:=List.take i _)]
  refine xZ ⟨u3,rfl,zH.trans ?_⟩ (zh.same sA hz)
  unfold Y8
  rw [List.map_append]
  rfl
 rintro wv σ J3 ⟨hwv,⟨o1,rfl⟩,y3⟩ w1 hw9
 rw [vY (by rw [List.length_append,List.length_append]; omega)] at hwv
 have SG5:=SG4.trans y3
 replace htn:=(zI.same y3 htn)
 replace en1:=(y3 _ _ en1)
 replace ep1:=(y3 _ _ ep1)
 replace htp:=(zI.same y3 htp)
 replace ec1:=(y3 _ _ ec1)
 have yG6:=zK hw9 (HO.lst wv)
 have ew1:=zH (H:=J3) (a:=w1) (o:=HO.lst wv)
 generalize hhG6:upd J3 w1 (HO.lst wv)=G6 at yG6 ew1 |-
 have SG6:=SG5.trans yG6
 replace htn:=(zI.same yG6 htn)
 replace en1:=(yG6 _ _ en1)
 replace ep1:=(yG6 _ _ ep1)
 replace htp:=(zI.same yG6 htp)
 replace ec1:=(yG6 _ _ ec1)
 replace hwv:=(zh.same yG6 hwv)
 refine ⟨_,rfl,_,rfl,o,ac,M.dx,_,_,rfl,(SG6 _ _ k0.ins),ag.cl,ai.n_divisor,rfl,_,rfl,so,ad,dxs,_,_,rfl,(SG6 _ _ SA.ins),ah.cl,ap.n_numbers,rfl,m.div,la,l.ns,rfl,(SG6 _ _ SA.ns),(by omega),MBm.div.mono,(λx hx=>(PK.ns x hx).mono),λq1 J4 y4 _ eq1=>?_⟩
 have SG7:=SG6.trans y4
 replace htn:=(zI.same y4 htn)
 replace en1:=(y4 _ _ en1)
 replace ep1:=(y4 _ _ ep1)
 replace htp:=(zI.same y4 htp)
 replace ec1:=(y4 _ _ ec1)
 replace hwv:=(zh.same y4 hwv)
 replace ew1:=(y4 _ _ ew1)
 refine ⟨(by show 1<=sizeLine; decide),λz2 hz2=>?_⟩
 have yG8:=zK hz2 (HO.lst [V.int 0])
 have ez2:=zH (H:=J4) (a:=z2) (o:=HO.lst [V.int 0])
 generalize hhG8:upd J4 z2 (HO.lst [V.int 0])=G8 at yG8 ez2 |-
 have SG8:=SG7.trans yG8
 replace htn:=(zI.same yG8 htn)
 replace en1:=(yG8 _ _ en1)
 replace ep1:=(yG8 _ _ ep1)
 replace htp:=(zI.same yG8 htp)
 replace ec1:=(yG8 _ _ ec1)
 replace hwv:=(zh.same yG8 hwv)
 replace ew1:=(yG8 _ _ ew1)
 replace eq1:=(yG8 _ _ eq1)
 refine ⟨q1,z2,_,_,rfl,rfl,eq1,ez2,(by rw [List.length_map,vJ]; exact Nat.le_of_lt (zy (by show l.ns.length + 1<=1000; omega))),λc2 hc2=>?_⟩
 rw [show (yr m.div l.ns).map V.int++[V.int 0]=(yr m.div l.ns++[0]).map V.int from by rw [List.map_append]; rfl]
 have yG9:=zK hc2 (HO.lst ((yr m.div l.ns++[0]).map V.int))
 have ec2:=zH (H:=G8) (a:=c2) (o:=HO.lst ((yr m.div l.ns++[0]).map V.int))
 generalize hhG9:upd G8 c2 (HO.lst ((yr m.div l.ns++[0]).map V.int))=G9 at yG9 ec2 |-
 have SG9:=SG8.trans yG9
 replace htn:=(zI.same yG9 htn)
 replace en1:=(yG9 _ _ en1)
 replace ep1:=(yG9 _ _ ep1)
 replace htp:=(zI.same yG9 htp)
 replace ec1:=(yG9 _ _ ec1)
 replace hwv:=(zh.same yG9 hwv)
 replace ew1:=(yG9 _ _ ew1)
 replace eq1:=(yG9 _ _ eq1)
 replace ez2:=(yG9 _ _ ez2)
 refine ⟨(by show 1<=sizeLine; decide),λd2 hd2=>?_⟩
 have yG10:=zK hd2 (HO.lst [V.ref c2])
 have ed2:=zH (H:=G9) (a:=d2) (o:=HO.lst [V.ref c2])
 generalize hhG10:upd G9 d2 (HO.lst [V.ref c2])=G10 at yG10 ed2 |-
 have SG10:=SG9.trans yG10
 replace htn:=(zI.same yG10 htn)
 replace en1:=(yG10 _ _ en1)
 replace ep1:=(yG10 _ _ ep1)
 replace htp:=(zI.same yG10 htp)
 replace ec1:=(yG10 _ _ ec1)
 replace hwv:=(zh.same yG10 hwv)
 replace ew1:=(yG10 _ _ ew1)
 replace eq1:=(yG10 _ _ eq1)
 replace ez2:=(yG10 _ _ ez2)
 replace ec2:=(yG10 _ _ ec2)
 have lt0:=Paired.length htn
 rw [List.length_map,List.length_zip] at lt0
 refine ⟨n1,d2,_,_,rfl,rfl,en1,ed2,Nat.le_of_lt (zy (by show tn.length + 1<=1000; omega)),λn2 hn2=>?_⟩
 have yG11:=zK hn2 (HO.lst (tn++[V.ref c2]))
 have en2:=zH (H:=G10) (a:=n2) (o:=HO.lst (tn++[V.ref c2]))
 generalize hhG11:upd G10 n2 (HO.lst (tn++[V.ref c2]))=G11 at yG11 en2 |-
 have SG11:=SG10.trans yG11
 replace htn:=(zI.same yG11 htn)
 replace en1:=(yG11 _ _ en1)
 replace ep1:=(yG11 _ _ ep1)
 replace htp:=(zI.same yG11 htp)
 replace ec1:=(yG11 _ _ ec1)
 replace hwv:=(zh.same yG11 hwv)
 replace ew1:=(yG11 _ _ ew1)
 replace eq1:=(yG11 _ _ eq1)
 replace ez2:=(yG11 _ _ ez2)
 replace ec2:=(yG11 _ _ ec2)
 replace ed2:=(yG11 _ _ ed2)
 have htn2:zI G11 (tn++[V.ref c2]) (vK n m (rows,l)).nexts:=xZ (R:=xH _) ⟨c2,rfl,ec2⟩ htn
 refine ⟨_,rfl,o,ac,M.dx,_,_,rfl,(SG11 _ _ k0.ins),ag.cl,ai.n_steer,rfl,M.s,rfl,⟨_,zP.of (SG11 _ _ k0.hs)⟩,xu (K:=K) (a:=M.s) (xs:=(m.steer).map V.int) (λi ys σ H'=>ys=(List.replicate i (0:Int)).map V.int/\(∃ o,σ=[o])/\H'=G11)
  ⟨rfl,⟨none,rfl⟩,rfl⟩ (λi ys σ H' hi ⟨e1,_,e3⟩=>⟨by rw [e3]; exact zP.of (SG11 _ _ k0.hs),by rw [e1,List.length_map,List.length_replicate]; exact Nat.le_refl _⟩) (by rw [List.length_map,ln2]; exact Nat.le_of_lt (zy (by omega))) ?_ ?_⟩
 ·rintro i x ys σ H' hi ⟨rfl,⟨o1,rfl⟩,rfl⟩
  refine ⟨?_,⟨_,rfl⟩,rfl⟩
  rw [List.replicate_succ',List.map_append]
  rfl
 rintro ys σ H' ⟨rfl,⟨o1,rfl⟩,hZ⟩ z3 hz3
 rw [hZ] at hz3 |-
 rw [List.length_map,kY]
 have y5:=zK hz3 (HO.lst (((m.steer).map λ_=>(0:Int)).map V.int))
 have ez3:=zH (H:=G11) (a:=z3) (o:=HO.lst (((m.steer).map λ_=>(0:Int)).map V.int))
 generalize hhJ5:upd G11 z3 (HO.lst (((m.steer).map λ_=>(0:Int)).map V.int))=J5 at y5 ez3 |-
 clear hZ
 have SG12:=SG11.trans y5
 replace htn:=(zI.same y5 htn)
 replace en1:=(y5 _ _ en1)
 replace ep1:=(y5 _ _ ep1)
 replace htp:=(zI.same y5 htp)
 replace ec1:=(y5 _ _ ec1)
 replace hwv:=(zh.same y5 hwv)
 replace ew1:=(y5 _ _ ew1)
 replace eq1:=(y5 _ _ eq1)
 replace ez2:=(y5 _ _ ez2)
 replace ec2:=(y5 _ _ ec2)
 replace ed2:=(y5 _ _ ed2)
 replace en2:=(y5 _ _ en2)
 replace htn2:=(zI.same y5 htn2)
 refine ⟨(by show 1<=sizeLine; decide),λz4 hz4=>?_⟩
 have yG13:=zK hz4 (HO.lst [V.int 0])
 have ez4:=zH (H:=J5) (a:=z4) (o:=HO.lst [V.int 0])
 generalize hhG13:upd J5 z4 (HO.lst [V.int 0])=G13 at yG13 ez4 |-
 have SG13:=SG12.trans yG13
 replace htn:=(zI.same yG13 htn)
 replace en1:=(yG13 _ _ en1)
 replace ep1:=(yG13 _ _ ep1)
 replace htp:=(zI.same yG13 htp)
 replace ec1:=(yG13 _ _ ec1)
 replace hwv:=(zh.same yG13 hwv)
 replace ew1:=(yG13 _ _ ew1)
 replace eq1:=(yG13 _ _ eq1)
 replace ez2:=(yG13 _ _ ez2)
 replace ec2:=(yG13 _ _ ec2)
 replace ed2:=(yG13 _ _ ed2)
 replace en2:=(yG13 _ _ en2)
 replace htn2:=(zI.same yG13 htn2)
 replace ez3:=(yG13 _ _ ez3)
 refine ⟨z3,z4,_,_,rfl,rfl,ez3,ez4,(by rw [List.length_map,List.length_map]; exact Nat.le_of_lt (zy (by show m.steer.length + 1<=1000; omega))),λc3 hc3=>?_⟩
 rw [show (m.steer.map λ_=>(0:Int)).map V.int++[V.int 0]=((m.steer.map λ_=>(0:Int))++[0]).map V.int from by rw [List.map_append]; rfl]
 have yG14:=zK hc3 (HO.lst (((m.steer.map λ_=>(0:Int))++[0]).map V.int))
 have ec3:=zH (H:=G13) (a:=c3) (o:=HO.lst (((m.steer.map λ_=>(0:Int))++[0]).map V.int))
 generalize hhG14:upd G13 c3 (HO.lst (((m.steer.map λ_=>(0:Int))++[0]).map V.int))=G14 at yG14 ec3 |-
 have SG14:=SG13.trans yG14
 replace htn:=(zI.same yG14 htn)
 replace en1:=(yG14 _ _ en1)
 replace ep1:=(yG14 _ _ ep1)
 replace htp:=(zI.same yG14 htp)
 replace ec1:=(yG14 _ _ ec1)
 replace hwv:=(zh.same yG14 hwv)
 replace ew1:=(yG14 _ _ ew1)
 replace eq1:=(yG14 _ _ eq1)
 replace ez2:=(yG14 _ _ ez2)
 replace ec2:=(yG14 _ _ ec2)
 replace ed2:=(yG14 _ _ ed2)
 replace en2:=(yG14 _ _ en2)
 replace htn2:=(zI.same yG14 htn2)
 replace ez3:=(yG14 _ _ ez3)
 replace ez4:=(yG14 _ _ ez4)
 have ltp:=Paired.length htp
 rw [List.length_map] at ltp
 have hv0:tp[0]? = some (tp[0]'(by omega)):=List.getElem?_eq_getElem _
 obtain ⟨r0,hr0,a0,e0,ea0⟩:=xF htp hv0
 have av0:wJ tp (0:Int)=some (.ref a0):=kF (j:=0) (hv0.trans (by rw [e0]))
 have lr0:r0.length=w:=by
  obtain ⟨r1,hr1,rfl⟩:=List.mem_map.mp (List.mem_of_getElem? hr0)
  rw [vJ]
  exact MO.push.2 r1 hr1
 refine ⟨_,rfl,_,rfl,p1,_,_,_,rfl,rfl,zP.of ep1,av0,a0,rfl,⟨_,zP.of ea0⟩,xu (K:=K) (a:=a0) (xs:=(r0).map V.int) (λi ys σ H'=>ys=(List.replicate i (0:Int)).map V.int/\(∃ o,σ=[o])/\H'=G14)
  ⟨rfl,⟨none,rfl⟩,rfl⟩ (λi ys σ H' hi ⟨e1,_,e3⟩=>⟨by rw [e3]; exact zP.of ea0,by rw [e1,List.length_map,List.length_replicate]; exact Nat.le_refl _⟩) (by rw [List.length_map,lr0]; exact Nat.le_of_lt (zy (by omega))) ?_ ?_⟩
 ·rintro i x ys σ H' hi ⟨rfl,⟨o1,rfl⟩,rfl⟩
  refine ⟨?_,⟨_,rfl⟩,rfl⟩
  rw [List.replicate_succ',List.map_append]
  rfl
 rintro ys σ H' ⟨rfl,⟨o1,rfl⟩,hZ⟩ z5 hz5
 rw [hZ] at hz5 |-
 rw [List.length_map,kY]
 have y6:=zK hz5 (HO.lst (((r0).map λ_=>(0:Int)).map V.int))
 have ez5:=zH (H:=G14) (a:=z5) (o:=HO.lst (((r0).map λ_=>(0:Int)).map V.int))
 generalize hhJ6:upd G14 z5 (HO.lst (((r0).map λ_=>(0:Int)).map V.int))=J6 at y6 ez5 |-
 clear hZ
 have SG15:=SG14.trans y6
 replace htn:=(zI.same y6 htn)
 replace en1:=(y6 _ _ en1)
 replace ep1:=(y6 _ _ ep1)
 replace htp:=(zI.same y6 htp)
 replace ec1:=(y6 _ _ ec1)
 replace hwv:=(zh.same y6 hwv)
 replace ew1:=(y6 _ _ ew1)
 replace eq1:=(y6 _ _ eq1)
 replace ez2:=(y6 _ _ ez2)
 replace ec2:=(y6 _ _ ec2)
 replace ed2:=(y6 _ _ ed2)
 replace en2:=(y6 _ _ en2)
 replace htn2:=(zI.same y6 htn2)
 replace ez3:=(y6 _ _ ez3)
 replace ez4:=(y6 _ _ ez4)
 replace ec3:=(y6 _ _ ec3)
 replace ea0:=(y6 _ _ ea0)
 refine ⟨(by show 1<=sizeLine; decide),λd3 hd3=>?_⟩
 have yG16:=zK hd3 (HO.lst [V.ref z5])
 have ed3:=zH (H:=J6) (a:=d3) (o:=HO.lst [V.ref z5])
 generalize hhG16:upd J6 d3 (HO.lst [V.ref z5])=G16 at yG16 ed3 |-
 have SG16:=SG15.trans yG16
 replace htn:=(zI.same yG16 htn)
 replace en1:=(yG16 _ _ en1)
 replace ep1:=(yG16 _ _ ep1)
 replace htp:=(zI.same yG16 htp)
 replace ec1:=(yG16 _ _ ec1)
 replace hwv:=(zh.same yG16 hwv)
 replace ew1:=(yG16 _ _ ew1)
 replace eq1:=(yG16 _ _ eq1)
 replace ez2:=(yG16 _ _ ez2)
 replace ec2:=(yG16 _ _ ec2)
 replace ed2:=(yG16 _ _ ed2)
 replace en2:=(yG16 _ _ en2)
 replace htn2:=(zI.same yG16 htn2)
 replace ez3:=(yG16 _ _ ez3)
 replace ez4:=(yG16 _ _ ez4)
 replace ec3:=(yG16 _ _ ec3)
 replace ea0:=(yG16 _ _ ea0)
 replace ez5:=(yG16 _ _ ez5)
 refine ⟨p1,d3,_,_,rfl,rfl,ep1,ed3,Nat.le_of_lt (zy (by show tp.length + 1<=1000; omega)),λp2 hp2=>?_⟩
 have yG17:=zK hp2 (HO.lst (tp++[V.ref z5]))
 have ep2:=zH (H:=G16) (a:=p2) (o:=HO.lst (tp++[V.ref z5]))
 generalize hhG17:upd G16 p2 (HO.lst (tp++[V.ref z5]))=G17 at yG17 ep2 |-
 have SG17:=SG16.trans yG17
 replace htn:=(zI.same yG17 htn)
 replace en1:=(yG17 _ _ en1)
 replace ep1:=(yG17 _ _ ep1)
 replace htp:=(zI.same yG17 htp)
 replace ec1:=(yG17 _ _ ec1)
 replace hwv:=(zh.same yG17 hwv)
 replace ew1:=(yG17 _ _ ew1)
 replace eq1:=(yG17 _ _ eq1)
 replace ez2:=(yG17 _ _ ez2)
 replace ec2:=(yG17 _ _ ec2)
 replace ed2:=(yG17 _ _ ed2)
 replace en2:=(yG17 _ _ en2)
 replace htn2:=(zI.same yG17 htn2)
 replace ez3:=(yG17 _ _ ez3)
 replace ez4:=(yG17 _ _ ez4)
 replace ec3:=(yG17 _ _ ec3)
 replace ea0:=(yG17 _ _ ea0)
 replace ez5:=(yG17 _ _ ez5)
 replace ed3:=(yG17 _ _ ed3)
 have htp2:zI G17 (tp++[V.ref z5]) (vK n m (rows,l)).push:=xZ (R:=xH _) ⟨z5,rfl,by rw [Km hr0]; exact ez5⟩ htp
 refine ⟨_,rfl,_,rfl,o,ac,M.dx,_,_,rfl,(SG17 _ _ k0.ins),ag.cl,ai.n_add,rfl,l.d,M.a,m.add,rfl,(SG17 _ _ k0.ha),(by omega),PK.d.mono,(λx hx=>(MBm.add x hx).mono),λq2 J7 y7 _ eq2=>?_⟩
 have SG18:=SG17.trans y7
 replace htn:=(zI.same y7 htn)
 replace en1:=(y7 _ _ en1)
 replace ep1:=(y7 _ _ ep1)
 replace htp:=(zI.same y7 htp)
 replace ec1:=(y7 _ _ ec1)
 replace hwv:=(zh.same y7 hwv)
 replace ew1:=(y7 _ _ ew1)
 replace eq1:=(y7 _ _ eq1)
 replace ez2:=(y7 _ _ ez2)
 replace ec2:=(y7 _ _ ec2)
 replace ed2:=(y7 _ _ ed2)
 replace en2:=(y7 _ _ en2)
 replace htn2:=(zI.same y7 htn2)
 replace ez3:=(y7 _ _ ez3)
 replace ez4:=(y7 _ _ ez4)
 replace ec3:=(y7 _ _ ec3)
 replace ea0:=(y7 _ _ ea0)
 replace ez5:=(y7 _ _ ez5)
 replace ed3:=(y7 _ _ ed3)
 replace ep2:=(y7 _ _ ep2)
 replace htp2:=(zI.same y7 htp2)
 refine ⟨_,rfl,o,ac,M.dx,_,_,rfl,(SG18 _ _ k0.ins),ag.cl,ai.n_divisor,rfl,_,rfl,so,ad,dxs,_,_,rfl,(SG18 _ _ SA.ins),ah.cl,ap.n_add,rfl,_,_,rfl,rfl,⟨MBm.div.mono,PK.a.mono⟩,(by show 1<=sizeLine; decide),λd4 hd4=>?_⟩
 have yG19:=zK hd4 (HO.lst [V.int (m.div * l.a)])
 have ed4:=zH (H:=J7) (a:=d4) (o:=HO.lst [V.int (m.div * l.a)])
 generalize hhG19:upd J7 d4 (HO.lst [V.int (m.div * l.a)])=G19 at yG19 ed4 |-
 have SG19:=SG18.trans yG19
 replace htn:=(zI.same yG19 htn)
 replace en1:=(yG19 _ _ en1)
 replace ep1:=(yG19 _ _ ep1)
 replace htp:=(zI.same yG19 htp)
 replace ec1:=(yG19 _ _ ec1)
 replace hwv:=(zh.same yG19 hwv)
 replace ew1:=(yG19 _ _ ew1)
 replace eq1:=(yG19 _ _ eq1)
 replace ez2:=(yG19 _ _ ez2)
 replace ec2:=(yG19 _ _ ec2)
 replace ed2:=(yG19 _ _ ed2)
 replace en2:=(yG19 _ _ en2)
 replace htn2:=(zI.same yG19 htn2)
 replace ez3:=(yG19 _ _ ez3)
 replace ez4:=(yG19 _ _ ez4)
 replace ec3:=(yG19 _ _ ec3)
 replace ea0:=(yG19 _ _ ea0)
 replace ez5:=(yG19 _ _ ez5)
 replace ed3:=(yG19 _ _ ed3)
 replace ep2:=(yG19 _ _ ep2)
 replace htp2:=(zI.same yG19 htp2)
 replace eq2:=(yG19 _ _ eq2)
 refine ⟨q2,d4,_,_,rfl,rfl,eq2,ed4,(by rw [List.length_map,vJ]; exact Nat.le_of_lt (zy (by show m.add.length + 1<=1000; omega))),λc4 hc4=>?_⟩
 rw [show (yr l.d m.add).map V.int++[V.int (m.div * l.a)]=(yr l.d m.add++[m.div * l.a]).map V.int from by rw [List.map_append]; rfl]
 have yG20:=zK hc4 (HO.lst ((yr l.d m.add++[m.div * l.a]).map V.int))
 have ec4:=zH (H:=G19) (a:=c4) (o:=HO.lst ((yr l.d m.add++[m.div * l.a]).map V.int))
 generalize hhG20:upd G19 c4 (HO.lst ((yr l.d m.add++[m.div * l.a]).map V.int))=G20 at yG20 ec4 |-
 have SG20:=SG19.trans yG20
 replace htn:=(zI.same yG20 htn)
 replace en1:=(yG20 _ _ en1)
 replace ep1:=(yG20 _ _ ep1)
 replace htp:=(zI.same yG20 htp)
 replace ec1:=(yG20 _ _ ec1)
 replace hwv:=(zh.same yG20 hwv)
 replace ew1:=(yG20 _ _ ew1)
 replace eq1:=(yG20 _ _ eq1)
 replace ez2:=(yG20 _ _ ez2)
 replace ec2:=(yG20 _ _ ec2)
 replace ed2:=(yG20 _ _ ed2)
 replace en2:=(yG20 _ _ en2)
 replace htn2:=(zI.same yG20 htn2)
 replace ez3:=(yG20 _ _ ez3)
 replace ez4:=(yG20 _ _ ez4)
 replace ec3:=(yG20 _ _ ec3)
 replace ea0:=(yG20 _ _ ea0)
 replace ez5:=(yG20 _ _ ez5)
 replace ed3:=(yG20 _ _ ed3)
 replace ep2:=(yG20 _ _ ep2)
 replace htp2:=(zI.same yG20 htp2)
 replace eq2:=(yG20 _ _ eq2)
 replace ed4:=(yG20 _ _ ed4)
 refine ⟨_,rfl,o,ac,M.dx,_,_,rfl,(SG20 _ _ k0.ins),ag.cl,ai.n_divisor,rfl,_,rfl,_,_,rfl,rfl,⟨MBm.div.mono,PK.d.mono⟩,?_⟩
 intro mo dx hmo hdx ne
 have zm:=ww hmo hdx ne (HO.own mo) (HO.ins ac dx [])
 have eo:=zH (H:=upd G20 dx (HO.own mo)) (a:=mo) (o:=HO.ins ac dx [])
 generalize hhJ1:upd (upd G20 dx (HO.own mo)) mo (HO.ins ac dx [])=J1 at zm eo |-
 refine ⟨mo,dx,w1,n2,c3,p2,c4,wv,(tn++[V.ref c2]),(tp++[V.ref z5]),(vK n m (rows,l)),(n + 1),w,rfl,eo,W6 MO MBm PK n1' n2',zm _ _ ew1,zh.same zm hwv,zm _ _ en2,zI.same zm htn2,zm _ _ ec3,zm _ _ ep2,zI.same zm htp2,zm _ _ ec4,λM2 J2 sb ok f1 f2 f3 f4 f5 m1 m2=>⟨rfl,?_⟩⟩
 exact q (.ref mo) J2 (SG20.trans (wa zm sb hmo)) ⟨mo,_,rfl,ok⟩ (λb xs hb=>W8 ok (zm _ _ (SG20 _ _ hb)) ((wa zm sb hmo) _ _ (SG20 _ _ hb)) f1 f2 f3 f4 f5 m1 m2)
end
theorem wy {H H':Hp} {pv:List V} {bs:List (Int × Int)} (s:zC H H') (h:Paired (vS H) pv bs):Paired (vS H') pv bs:=Paired.mapP h λ_ _ z=>z.same s
theorem w8 {C:Addr} {H H':Hp} {mv:List V} {ms:List MD} (s:zC H H') (h:Paired (yX C H) mv ms):Paired (yX C H') mv ms:=Paired.mapP h λ_ _ z=>z.same s
theorem UA {C:Addr} {H0 H H':Hp} {lv:List V} {ps:List PC} (s:zC H H') (h:Paired (yB C H0 H) lv ps):Paired (yB C H0 H') lv ps:=Paired.mapP h λ_ _ z=>z.same s
noncomputable def vL (f:MD->PC->MD) (ms:List MD) (ps:List PC):List MD:=ms.flatMap λm=>ps.map (f m)
theorem v8 (f:MD->PC->MD) (ps:List PC):∀ ms:List MD,(vL f ms ps).length=ms.length * ps.length
 | []=>by simp [vL]
 | m :: t=>by
  have:=v8 f ps t
  unfold vL at this |-
  rw [List.flatMap_cons,List.length_append,this,List.length_map,List.length_cons,Nat.add_mul,Nat.one_mul,Nat.add_comm]
structure wO (n:Nat) (t:RT):Prop where
 sh:yY n t
 tf:wG t
 dp:t.dep<=7
theorem wO.pb {n:Nat} {t:RT} (h:wO n t):∀ p∈yd t,PB n p:=λp hp=>by
 have a:=gN h.sh p hp
 have b:=gP h.tf p hp
 have c:=jP p hp
 have d:=h.dp
 exact ⟨a.rows,by omega,a.len,a.d0,λx hx=>(b.ns x hx).mono,b.a.mono,b.d.mono⟩
structure jc (n:Nat) (bs:List (Int × Int)) (ms:List MD):Prop where
 ok:YF n bs ms
 mb:∀ m∈ms,MB m
 few:ms.length<=5
 b3:bs.length<=3
theorem UB {n n2:Nat} {bs:List (Int × Int)} {ms:List MD} {t:RT} {f:MD->PC->MD} (T:jc n bs ms) (c:zg t<=60) (h1:1<=n2) (h3:n2<=3) (h:∀ m∈ms,∀ p∈yd t,yk (f m p) n2 bs.length):kj n2 bs (vL f ms (yd t)):=by
 have l:=v8 f (yd t) ms
 have c1:=YQ t
 have m1:=T.ok.m1
 have m3:=T.few
 rw [wn] at l
 refine ⟨h1,h3,T.ok.bok,T.ok.b6,?_,?_,λm hm=>?_⟩
 ·rw [l]
  exact Nat.mul_pos m1 c1
 ·rw [l]
  exact Nat.le_trans (Nat.mul_le_mul m3 c) (by decide)
 ·obtain ⟨a,ha,hm⟩:=List.mem_flatMap.mp hm
  obtain ⟨p,hp,rfl⟩:=List.mem_map.mp hm
  exact h a ha p hp
theorem gh {n:Nat} {bs:List (Int × Int)} {ms:List MD} {l:LF} {z:Int} (T:jc n bs ms) (k:PB n ([],l)) (hz:1<=z):kj n (bs++List.replicate n (0,z)) (ms.map λm=>qC m l):=by
 have b3:=T.b3
 have n3:=T.ok.n3
 have lb:(bs++List.replicate n (0,z)).length=bs.length + n:=by rw [List.length_append,List.length_replicate]
 refine ⟨T.ok.n1,n3,λb hb=>?_,by omega,by rw [List.length_map]; exact T.ok.m1,by rw [List.length_map]; have:=T.ok.m40; omega,λm hm=>?_⟩
 ·rcases List.mem_append.mp hb with hb | hb
  ·exact T.ok.bok b hb
  ·rw [List.eq_of_mem_replicate hb]
   show (0:Int)<=z
   omega
 ·obtain ⟨a,ha,rfl⟩:=List.mem_map.mp hm
  rw [lb]
  exact W7 (T.ok.mok a ha) (T.mb a ha) k b3
inductive gi (C1 C2 C3 C CM cB cM:Addr) (lt:Bool) (vs:List V) (H:Hp) (Q:VK) (E:XK):Prop
 | mk (o kp km:Addr) (v:V) (n:Nat) (bs:List (Int × Int)) (ms:List MD) (pv mv:List V) (_:vs=[.ref o,v]) (_:uR C CM H o n bs ms pv mv kp km) (_:jc n bs ms) (_:((∃ ra,RV CM C1 C2 C3 H v ra/\ra.dep<=8/\yg (n:Int) ra=false/\∀ H',zC H H'->E (.ref cB) none H')∨
 (∃ t,xR C1 C2 C3 H v t/\wO n t/\(60 < zg t\/(lt=true/\n=3)\/40 < ms.length * zg t->∀ H',zC H H'->E (.ref cM) none H')/\(zg t<=60->(lt=true->n<=2)->ms.length * zg t<=40->∀ o' H',zC H H'->Q (.ref o') H')))):gi C1 C2 C3 C CM cB cM lt vs H Q E
inductive XD (C1 C2 C3 C CM cB:Addr) (vs:List V) (H:Hp) (Q:VK) (E:XK):Prop
 | mk (o kp km:Addr) (v u:V) (n:Nat) (bs:List (Int × Int)) (ms:List MD) (pv mv:List V) (_:vs=[.ref o,v,u]) (_:uR C CM H o n bs ms pv mv kp km) (_:jc n bs ms) (_:((∃ ra,RV CM C1 C2 C3 H v ra/\we (n:Int) ra=false/\∀ H',zC H H'->E (.ref cB) none H')∨
 (∃ (so dxs la:Addr) (l:LF),v=.ref so/\xh C1 H so l dxs la/\PB n ([],l)/\((∃ a,AV CM H u a/\xx a=false/\∀ H',zC H H'->E (.ref cB) none H')\/∃ z:Int,u=.int z/\1<=z/\∀ o' H',zC H H'->Q (.ref o') H')))):XD C1 C2 C3 C CM cB vs H Q E
section
variable {P:Program} {w:World} {K:PySem.W.Frag} {mg:Str->Option Value} {base:Heap}
noncomputable abbrev XE:Stmt:=yI 56
theorem qD:zv ["thing","rule","parts","modes","mode","rows","straight"] ["thing","rule"] (zW XE):=.a
noncomputable abbrev XF:Stmt:=yI 60
theorem qF:zv ["thing","rule","parts","modes","mode","rows","straight"] ["thing","rule"] (zW XF):=.a
noncomputable abbrev gj:Stmt:=yI 58
theorem XG:zv ["thing","straight","size","readings","modes"] ["thing","straight","size"] (zW gj):=.a
variable {aRule ad ae af ac au:Addr} (TRule:zQ K mg "Rule" aRule) (ARule:vx K aRule) (ah:zQ K mg "Straight" ad) (ap:vy K ad) (al:zQ K mg "Stopped" ae) (aq:vz K ae) (aj:zQ K mg "Parted" af) (ar:v4 K af) (ag:zQ K mg "Mode" ac) (ai:v5 K ac) (am:zQ K mg "Thing" au) (ao:v6 K au) (Y:v7 K ac ad ae af) {C1 C2:Addr} (Z:vv K mg C1 C2)
include TRule ARule ah ap al aq aj ar ag ai am ao Y Z
theorem Ku {k:Nat} {f:Addr} {fd:FuncData} (F:yA K "steered" "steered" XE f fd) (B:Bl mg) (x_pieces:vG P w K mg base "pieces" ["rule","many"] (k + 1) (gb ac ad ae af C1 C2 8)) (aK:vQ P w K mg base au "modes" ["self"] (k + 1) (gI au ac)) (aQ:Fn P w K mg base "steered_mode" ["mode","rows","straight"] (k + 1) (ky ad ac)) (x_Thing___init__:xQ P w K mg base au ["self","many","pushes","modes"] k (j7 au ac C2)) (aL:vQ P w K mg base au "pushes" ["self"] (k + 1) (gH au ac)):zL P w K mg base (yL P w) (k + 1 + 1) f fd ["thing","rule"] (gi ad ae af au ac C1 C2 false):=by
 refine F.okX qD (λvs H Q E h=>?_) (λcdv A outer s H vs Q E hr h=>?_)
 ·obtain ⟨_,_,_,_,_,_,_,_,_,rfl,_⟩:=h
  rfl
 obtain ⟨o,kp,km,v,n,bs,ms,pv,mv,rfl,TA,TB,W⟩:=h
 have hrm:=hr
 refine ⟨_,(zS (zp (i:=2) qD.nd rfl (Or.inl rfl) (Wm x_pieces hr rfl (zA (zB 1) (zA (ze (zB 0) rfl) zE))))
  (zS (zp (i:=3) qD.nd rfl (Or.inl rfl) (yD zE))
  (zS (vj PassesOwn.leaving rfl (xB (js aK am hrm (zB 0))) (zu (i:=4) qD.nd rfl (Or.inl rfl)) (zX (vj PassesOwn.leaving rfl (xB (zB 2)) (vf rfl (xW (zu (i:=5) qD.nd rfl (Or.inl rfl)) (xW (zu (i:=6) qD.nd rfl (Or.inl rfl)) ve))) (zX (ut (ub PySem.F.plainAttrs_list PySem.F.slot_list_append PySem.F.type_list_append wZ (zB 3) (zA (zZ aQ hr rfl (zA (zB 4) (zA (zB 5) (zA (zB 6) zE)))) zE)))))))
  (zX (zo (YX x_Thing___init__ am hr rfl (zA (ze (zB 0) rfl) (zA (js aL am hrm (zB 0)) (zA (zB 3) zE))))))))),?_⟩
 obtain ⟨dx,ins⟩:=TA.ins
 have n1:=TB.ok.n1
 have n3:=TB.ok.n3
 have m1:=TB.ok.m1
 have m3:=TB.few
 have lmv:mv.length=ms.length:=Paired.length TA.hmv
 rcases W with ⟨ra,hR,dp,hf,qb⟩ | ⟨t,hR,RU,qx,q⟩
 ·exact ⟨_,rfl,_,rfl,o,au,dx,_,_,rfl,ins,am.cl,ao.n_many,rfl,v,n,rfl,.inl ⟨ra,hR,dp,hf,qb⟩⟩
 have dp:=RU.dp
 have PBs:=RU.pb
 have lpc:=wn t
 refine ⟨_,rfl,_,rfl,o,au,dx,_,_,rfl,ins,am.cl,ao.n_many,rfl,v,n,rfl,.inr ⟨t,hR,(by omega),(by omega),RU.sh,n1,(by omega),RU.tf,(λc J y=>qx (.inl c) J y),λcc l lv J1 y1 nl el hlv=>?_⟩⟩
 have llv:lv.length=zg t:=(Paired.length hlv).trans lpc
 refine ⟨(by show 0<=sizeLine; decide),λml hml=>?_⟩
 have y2:=zK hml (HO.lst [])
 have eml0:=zH (H:=J1) (a:=ml) (o:=HO.lst [])
 generalize hhJ2:upd J1 ml (HO.lst [])=J2 at y2 eml0 |-
 have s2:=y1.trans y2
 refine ⟨_,rfl,o,dx,_,rfl,(s2 _ _ ins),rfl,o,kp,km,n,bs,ms,pv,mv,rfl,TA.same s2,λl2 J3 y3 nl2 el2=>?_⟩
 have nel:l2≠ml:=(wP eml0 nl2).symm
 have s3:=Wa (B:=[ml]) (λx hx=>by rw [List.mem_singleton.mp hx]; exact hml) (y2.trans y3)
 have hlv':=UA s3 hlv
 refine ⟨l2,rfl,⟨_,zP.of el2⟩,jj (K:=K) (a:=l2) (xs:=mv)
  (λi σ H'=>∃ (xs:List V) (o4 o5 o6:Option V),σ=[some (.ref o),some v,some (.ref l),some (.ref ml),o4,o5,o6]/\zC J1 (hide [ml] H')/\H' l2=some (.lst mv)/\H' ml=some (.lst xs)/\Paired (yX ac (hide [ml] H')) xs (vL xg (ms.take i) (yd t)))
  ⟨[],none,none,none,rfl,s3,el2,y3 _ _ eml0,.nil⟩ (λi σ H' _ ⟨_,_,_,_,_,_,e,_⟩=>zP.of e) ?_ ?_⟩
 ·rintro i x σ H' hix ⟨xs,o4,o5,o6,rfl,sm,e2,eml,hxs⟩
  obtain ⟨md,hmd,hx⟩:=xF TA.hmv hix
  have mo:=TB.ok.mok md (List.mem_of_getElem? hmd)
  have mb:=TB.mb md (List.mem_of_getElem? hmd)
  have im0:i < ms.length:=(List.getElem?_eq_some_iff.mp hmd).1
  have im:i < 5:=by omega
  have lx:xs.length=i * zg t:=by
   rw [Paired.length hxs,v8,lpc,List.length_take,Nat.min_eq_left (by omega)]
  have lxb:i * zg t<=4 * 60:=Nat.mul_le_mul (by omega) cc
  refine ⟨_,rfl,l,rfl,⟨_,zP.of (yK _ _ (sm _ _ el))⟩,jj (K:=K) (a:=l) (xs:=lv)
   (λj σ H2=>∃ (ys:List V) (o5 o6:Option V),σ=[some (.ref o),some v,some (.ref l),some (.ref ml),some x,o5,o6]/\zC J1 (hide [ml] H2)/\H2 l2=some (.lst mv)/\H2 ml=some (.lst ys)/\Paired (yX ac (hide [ml] H2)) ys (vL xg (ms.take i) (yd t)++((yd t).take j).map (xg md)))
   ⟨xs,o5,o6,rfl,sm,e2,eml,by rw [List.take_zero,List.map_nil,List.append_nil]; exact hxs⟩ (λj σ H2 _ ⟨_,_,_,_,s,_⟩=>zP.of (yK _ _ (s _ _ el))) ?_ ?_⟩
  ·rintro j y σ H2 hjy ⟨ys,o5,o6,rfl,sm2,e22,eml2,hys⟩
   obtain ⟨p,hp,pc⟩:=xF hlv hjy
   have sj:=sm2.trans yK
   obtain ⟨tt,rl,so,dxs,la,rv,rfl,eT,_,eRl,eRv,eSo,eLa⟩:=pc.same sj
   have ly:=Paired.length hys
   rw [List.length_append,v8,lpc,List.length_map,List.length_take,List.length_take,Nat.min_eq_left (show i<=ms.length by omega)] at ly
   have jb:=(List.getElem?_eq_some_iff.mp hp).1
   refine ⟨tt,_,rfl,zn.of eT,rfl,_,_,rfl,_,_,rfl,rfl,?_⟩
   refine ⟨_,rfl,.inl ⟨rfl,_,zP.of eml2⟩,_,rfl,_,rfl,_,rfl,x,md,rl,so,dxs,la,rv,p.1,p.2,n,bs.length,rfl,yX.same (y1.trans sj) hx,mo,mb,eRl,eRv,⟨eSo,eLa⟩,PBs p (List.mem_of_getElem? hp),λu H3 z3 hu hid=>?_⟩
   refine ⟨ml,ys,u,rfl,rfl,z3 _ _ eml2,zy (by omega),?_⟩
   have h3:=wF (B:=[ml]) z3
   have h4:=h3.trans (jO (x:=ml) (HO.lst (ys++[u])))
   refine ⟨ys++[u],_,_,rfl,sm2.trans h4,(zi nel).trans (z3 _ _ e22),zH,?_⟩
   rw [xO hp,List.map_append,<- List.append_assoc]
   exact xZ (R:=yX ac _) (yX.same (jO _) (hid ml _ eml2)) (w8 h4 hys)
  rintro σ H2 ⟨ys,o5,o6,rfl,sm2,e22,eml2,hys⟩
  rw [vY (xs:=yd t) (by omega)] at hys
  refine ⟨ys,_,_,_,rfl,sm2,e22,eml2,?_⟩
  unfold vL at hys |-
  rw [YS _ hmd]
  exact hys
 rintro σ H4 ⟨xs,o4,o5,o6,rfl,sm,e2,eml,hxs⟩
 rw [vY (by omega)] at hxs
 have s4:=y1.trans (sm.trans yK)
 replace hxs:=w8 yK hxs
 refine ⟨_,rfl,o,au,dx,_,_,rfl,(s4 _ _ ins),am.cl,ao.n_many,rfl,_,rfl,o,dx,_,rfl,(s4 _ _ ins),rfl,o,kp,km,n,bs,ms,pv,mv,rfl,TA.same s4,λlp J8 y8 _ elp=>?_⟩
 refine ⟨_,rfl,?_⟩
 have s8:=s4.trans y8
 replace eml:=y8 _ _ eml
 replace hxs:=w8 y8 hxs
 intro to dt hto hdt ne2
 have zt:=ww hto hdt ne2 (HO.own to) (HO.ins au dt [])
 have et9:=zH (H:=upd J8 dt (HO.own to)) (a:=to) (o:=HO.ins au dt [])
 generalize hhJ9:upd (upd J8 dt (HO.own to)) to (HO.ins au dt [])=J9 at zt et9 |-
 refine ⟨to,dt,lp,ml,pv,xs,n,bs,(vL xg ms (yd t)),rfl,et9,zt _ _ elp,wy zt (wy s8 TA.hpv),zt _ _ eml,w8 zt hxs,(UB TB cc n1 n3 λa ha p hp=>ku (TB.ok.mok a ha) (TB.mb a ha) (PBs p hp)),λc J y=>qx (.inr (.inr (by have:=v8 xg (yd t) ms; rw [lpc] at this; omega))) J (s8.trans (zt.trans y)),λ_ kp' km' J10 sb eo5 ek em=>⟨rfl,?_⟩⟩
 have sz:=wa zt sb hto
 exact (q cc (λz=>by cases z) (by have:=v8 xg (yd t) ms; rw [lpc] at this; omega)) to J10 (s8.trans sz)
theorem Kv {k:Nat} {f:Addr} {fd:FuncData} (F:yA K "late" "late" XF f fd) (B:Bl mg) (x_pieces:vG P w K mg base "pieces" ["rule","many"] (k + 1) (gb ac ad ae af C1 C2 8)) (aK:vQ P w K mg base au "modes" ["self"] (k + 1) (gI au ac)) (bp:Fn P w K mg base "late_mode" ["mode","rows","straight"] (k + 1) (XA ad ac)) (x_Thing___init__:xQ P w K mg base au ["self","many","pushes","modes"] k (j7 au ac C2)) (aL:vQ P w K mg base au "pushes" ["self"] (k + 1) (gH au ac)):zL P w K mg base (yL P w) (k + 1 + 1) f fd ["thing","rule"] (gi ad ae af au ac C1 C2 true):=by
 refine F.okX qF (λvs H Q E h=>?_) (λcdv A outer s H vs Q E hr h=>?_)
 ·obtain ⟨_,_,_,_,_,_,_,_,_,rfl,_⟩:=h
  rfl
 obtain ⟨o,kp,km,v,n,bs,ms,pv,mv,rfl,TA,TB,W⟩:=h
 have hrm:=hr
 refine ⟨_,(zS (zp (i:=2) qF.nd rfl (Or.inl rfl) (Wm x_pieces hr rfl (zA (zB 1) (zA (ze (zB 0) rfl) zE))))
  (zS (yT (yp wQ (ze (zB 0) rfl) (qw rfl B.MOST_NUMBERS_) (yS _)) (zX (j0 (C:=C2) (E:=E) (λ_ _ _ _ _ _ _ _ I mx qx=>jz I mx qx) Z.exc2 rfl Z.mg2 rfl (zA xV zE))) yc)
  (zS (zp (i:=3) qF.nd rfl (Or.inl rfl) (yD zE))
  (zS (vj PassesOwn.leaving rfl (xB (js aK am hrm (zB 0))) (zu (i:=4) qF.nd rfl (Or.inl rfl)) (zX (vj PassesOwn.leaving rfl (xB (zB 2)) (vf rfl (xW (zu (i:=5) qF.nd rfl (Or.inl rfl)) (xW (zu (i:=6) qF.nd rfl (Or.inl rfl)) ve))) (zX (ut (ub PySem.F.plainAttrs_list PySem.F.slot_list_append PySem.F.type_list_append wZ (zB 3) (zA (zZ bp hr rfl (zA (zB 4) (zA (zB 5) (zA (zB 6) zE)))) zE)))))))
  (zX (zo (YX x_Thing___init__ am hr rfl (zA (zR (yF xi) (ze (zB 0) rfl) zJ) (zA (js aL am hrm (zB 0)) (zA (zB 3) zE)))))))))),?_⟩
 obtain ⟨dx,ins⟩:=TA.ins
 have n1:=TB.ok.n1
 have n3:=TB.ok.n3
 have m1:=TB.ok.m1
 have m3:=TB.few
 have lmv:mv.length=ms.length:=Paired.length TA.hmv
 rcases W with ⟨ra,hR,dp,hf,qb⟩ | ⟨t,hR,RU,qx,q⟩
 ·exact ⟨_,rfl,_,rfl,o,au,dx,_,_,rfl,ins,am.cl,ao.n_many,rfl,v,n,rfl,.inl ⟨ra,hR,dp,hf,qb⟩⟩
 have dp:=RU.dp
 have PBs:=RU.pb
 have lpc:=wn t
 refine ⟨_,rfl,_,rfl,o,au,dx,_,_,rfl,ins,am.cl,ao.n_many,rfl,v,n,rfl,.inr ⟨t,hR,(by omega),(by omega),RU.sh,n1,(by omega),RU.tf,(λc J y=>qx (.inl c) J y),λcc l lv J1 y1 nl el hlv=>?_⟩⟩
 have llv:lv.length=zg t:=(Paired.length hlv).trans lpc
 refine ⟨_,rfl,o,au,dx,_,_,rfl,(y1 _ _ ins),am.cl,ao.n_many,rfl,rfl,_,rfl,?_⟩
 by_cases e3:n=3
 ·exact yM (xv (by omega)) ⟨(by show 1<=sizeLine; decide),qx (.inr (.inl ⟨rfl,e3⟩)) _ y1⟩
 have n2:n<=2:=by omega
 refine zr (wM (by omega)) ?_
 refine ⟨(by show 0<=sizeLine; decide),λml hml=>?_⟩
 have y2:=zK hml (HO.lst [])
 have eml0:=zH (H:=J1) (a:=ml) (o:=HO.lst [])
 generalize hhJ2:upd J1 ml (HO.lst [])=J2 at y2 eml0 |-
 have s2:=y1.trans y2
 refine ⟨_,rfl,o,dx,_,rfl,(s2 _ _ ins),rfl,o,kp,km,n,bs,ms,pv,mv,rfl,TA.same s2,λl2 J3 y3 nl2 el2=>?_⟩
 have nel:l2≠ml:=(wP eml0 nl2).symm
 have s3:=Wa (B:=[ml]) (λx hx=>by rw [List.mem_singleton.mp hx]; exact hml) (y2.trans y3)
 have hlv':=UA s3 hlv
 refine ⟨l2,rfl,⟨_,zP.of el2⟩,jj (K:=K) (a:=l2) (xs:=mv)
  (λi σ H'=>∃ (xs:List V) (o4 o5 o6:Option V),σ=[some (.ref o),some v,some (.ref l),some (.ref ml),o4,o5,o6]/\zC J1 (hide [ml] H')/\H' l2=some (.lst mv)/\H' ml=some (.lst xs)/\Paired (yX ac (hide [ml] H')) xs (vL (vK n) (ms.take i) (yd t)))
  ⟨[],none,none,none,rfl,s3,el2,y3 _ _ eml0,.nil⟩ (λi σ H' _ ⟨_,_,_,_,_,_,e,_⟩=>zP.of e) ?_ ?_⟩
 ·rintro i x σ H' hix ⟨xs,o4,o5,o6,rfl,sm,e2,eml,hxs⟩
  obtain ⟨md,hmd,hx⟩:=xF TA.hmv hix
  have mo:=TB.ok.mok md (List.mem_of_getElem? hmd)
  have mb:=TB.mb md (List.mem_of_getElem? hmd)
  have im0:i < ms.length:=(List.getElem?_eq_some_iff.mp hmd).1
  have im:i < 5:=by omega
  have lx:xs.length=i * zg t:=by
   rw [Paired.length hxs,v8,lpc,List.length_take,Nat.min_eq_left (by omega)]
  have lxb:i * zg t<=4 * 60:=Nat.mul_le_mul (by omega) cc
  refine ⟨_,rfl,l,rfl,⟨_,zP.of (yK _ _ (sm _ _ el))⟩,jj (K:=K) (a:=l) (xs:=lv)
   (λj σ H2=>∃ (ys:List V) (o5 o6:Option V),σ=[some (.ref o),some v,some (.ref l),some (.ref ml),some x,o5,o6]/\zC J1 (hide [ml] H2)/\H2 l2=some (.lst mv)/\H2 ml=some (.lst ys)/\Paired (yX ac (hide [ml] H2)) ys (vL (vK n) (ms.take i) (yd t)++((yd t).take j).map ((vK n) md)))
   ⟨xs,o5,o6,rfl,sm,e2,eml,by rw [List.take_zero,List.map_nil,List.append_nil]; exact hxs⟩ (λj σ H2 _ ⟨_,_,_,_,s,_⟩=>zP.of (yK _ _ (s _ _ el))) ?_ ?_⟩
  ·rintro j y σ H2 hjy ⟨ys,o5,o6,rfl,sm2,e22,eml2,hys⟩
   obtain ⟨p,hp,pc⟩:=xF hlv hjy
   have sj:=sm2.trans yK
   obtain ⟨tt,rl,so,dxs,la,rv,rfl,eT,_,eRl,eRv,eSo,eLa⟩:=pc.same sj
   have ly:=Paired.length hys
   rw [List.length_append,v8,lpc,List.length_map,List.length_take,List.length_take,Nat.min_eq_left (show i<=ms.length by omega)] at ly
   have jb:=(List.getElem?_eq_some_iff.mp hp).1
   refine ⟨tt,_,rfl,zn.of eT,rfl,_,_,rfl,_,_,rfl,rfl,?_⟩
   refine ⟨_,rfl,.inl ⟨rfl,_,zP.of eml2⟩,_,rfl,_,rfl,_,rfl,x,md,rl,so,dxs,la,rv,p.1,p.2,n,bs.length,rfl,yX.same (y1.trans sj) hx,mo,mb,eRl,eRv,⟨eSo,eLa⟩,PBs p (List.mem_of_getElem? hp),n1,n2,λu H3 z3 hu hid=>?_⟩
   refine ⟨ml,ys,u,rfl,rfl,z3 _ _ eml2,zy (by omega),?_⟩
   have h3:=wF (B:=[ml]) z3
   have h4:=h3.trans (jO (x:=ml) (HO.lst (ys++[u])))
   refine ⟨ys++[u],_,_,rfl,sm2.trans h4,(zi nel).trans (z3 _ _ e22),zH,?_⟩
   rw [xO hp,List.map_append,<- List.append_assoc]
   exact xZ (R:=yX ac _) (yX.same (jO _) (hid ml _ eml2)) (w8 h4 hys)
  rintro σ H2 ⟨ys,o5,o6,rfl,sm2,e22,eml2,hys⟩
  rw [vY (xs:=yd t) (by omega)] at hys
  refine ⟨ys,_,_,_,rfl,sm2,e22,eml2,?_⟩
  unfold vL at hys |-
  rw [YS _ hmd]
  exact hys
 rintro σ H4 ⟨xs,o4,o5,o6,rfl,sm,e2,eml,hxs⟩
 rw [vY (by omega)] at hxs
 have s4:=y1.trans (sm.trans yK)
 replace hxs:=w8 yK hxs
 refine ⟨_,rfl,o,au,dx,_,_,rfl,(s4 _ _ ins),am.cl,ao.n_many,rfl,_,_,rfl,rfl,_,rfl,o,dx,_,rfl,(s4 _ _ ins),rfl,o,kp,km,n,bs,ms,pv,mv,rfl,TA.same s4,λlp J8 y8 _ elp=>?_⟩
 refine ⟨_,rfl,?_⟩
 have s8:=s4.trans y8
 replace eml:=y8 _ _ eml
 replace hxs:=w8 y8 hxs
 intro to dt hto hdt ne2
 have zt:=ww hto hdt ne2 (HO.own to) (HO.ins au dt [])
 have et9:=zH (H:=upd J8 dt (HO.own to)) (a:=to) (o:=HO.ins au dt [])
 generalize hhJ9:upd (upd J8 dt (HO.own to)) to (HO.ins au dt [])=J9 at zt et9 |-
 refine ⟨to,dt,lp,ml,pv,xs,(n + 1),bs,(vL (vK n) ms (yd t)),rfl,et9,zt _ _ elp,wy zt (wy s8 TA.hpv),zt _ _ eml,w8 zt hxs,(UB TB cc (by omega) (by omega) λa ha p hp=>W6 (TB.ok.mok a ha) (TB.mb a ha) (PBs p hp) n1 n2),λc J y=>qx (.inr (.inr (by have:=v8 (vK n) (yd t) ms; rw [lpc] at this; omega))) J (s8.trans (zt.trans y)),λ_ kp' km' J10 sb eo5 ek em=>⟨rfl,?_⟩⟩
 have sz:=wa zt sb hto
 exact (q cc (λ_=>n2) (by have:=v8 (vK n) (yd t) ms; rw [lpc] at this; omega)) to J10 (s8.trans sz)
theorem Kw {k:Nat} {f:Addr} {fd:FuncData} (F:yA K "rounded" "rounded" gj f fd) (B:Bl mg) (aP:Fn P w K mg base "is_straight" ["value","many"] (k + 1) (kr ac ad ae af)) (av:Fn P w K mg base "is_whole" ["thing"] (k + 1) (jT ac)) (aK:vQ P w K mg base au "modes" ["self"] (k + 1) (gI au ac)) (bq:Fn P w K mg base "rounded_mode" ["mode","straight"] (k + 1) (XB ad ac)) (x_Thing___init__:xQ P w K mg base au ["self","many","pushes","modes"] k (j7 au ac C2)) (aL:vQ P w K mg base au "pushes" ["self"] (k + 1) (gH au ac)):zL P w K mg base (yL P w) (k + 1 + 1) f fd ["thing","straight","size"] (XD ad ae af au ac C1):=by
 refine F.okX XG (λvs H Q E h=>?_) (λcdv A outer s H vs Q E hr h=>?_)
 ·obtain ⟨_,_,_,_,_,_,_,_,_,_,rfl,_⟩:=h
  rfl
 obtain ⟨o,kp,km,v,u,n,bs,ms,pv,mv,rfl,TA,TB,W⟩:=h
 have hrm:=hr
 refine ⟨_,(zS (yT (xo (yo (zZ aP hr rfl (zA (zB 1) (zA (ze (zB 0) rfl) zE))))) (zX (j0 (C:=C1) (E:=E) (λ_ _ _ _ _ _ _ _ I mx qx=>jz I mx qx) Z.exc1 rfl Z.mg1 rfl (zA xV zE))) yc)
  (zS (yT (PW.pt (wT (xo (yo (zZ av hr rfl (zA (zB 2) zE)))) (wp (yp (yF Za) (zB 2) zJ (yS _))))) (zX (j0 (C:=C1) (E:=E) (λ_ _ _ _ _ _ _ _ I mx qx=>jz I mx qx) Z.exc1 rfl Z.mg1 rfl (zA xV zE))) yc)
  (zS (uJ (i:=3) XG.nd rfl rfl (own:=["place"]) (caps:=[(2,"size")]) (wD (S:=zW gj) (N:=["thing","straight","size","readings","modes"]) rfl (by decide +kernel) rfl ⟨_,rfl⟩ rfl (by decide +kernel) (by decide +kernel)) rfl (vg rfl B.range_ (zA (ze (zB 0) rfl) zE)) (λ_ _ _ _=>zu (i:=0) (show (["place","size"]:List Str).Nodup by decide +kernel) rfl (Or.inl rfl)) (λ_ _ _ _=>(wY (zA zJ (zA (zB 1) zE)))) rfl)
  (zS (uJ (i:=4) XG.nd rfl rfl (own:=["mode"]) (caps:=[(1,"straight")]) (wD (S:=zW gj) (N:=["thing","straight","size","readings","modes"]) rfl (by decide +kernel) rfl ⟨_,rfl⟩ rfl (by decide +kernel) (by decide +kernel)) rfl (xB (js aK am hrm (zB 0))) (λ_ _ _ _=>zu (i:=0) (show (["mode","straight"]:List Str).Nodup by decide +kernel) rfl (Or.inl rfl)) (λ_ _ _ _=>(zZ bq hr rfl (zA (zB 0) (zA (zB 1) zE)))) rfl)
  (zX (zo (YX x_Thing___init__ am hr rfl (zA (ze (zB 0) rfl) (zA (zR zk (js aL am hrm (zB 0)) (zB 3)) (zA (zB 4) zE)))))))))),?_⟩
 obtain ⟨dx,ins⟩:=TA.ins
 have n1:=TB.ok.n1
 have n3:=TB.ok.n3
 have m1:=TB.ok.m1
 have m3:=TB.few
 have lmv:mv.length=ms.length:=Paired.length TA.hmv
 have lpv:pv.length=bs.length:=Paired.length TA.hpv
 have b3:=TB.b3
 rcases W with ⟨ra,hR,hf,qb⟩ | ⟨so,dxs,la,l,rfl,SA,PK,W⟩
 ·refine ⟨_,rfl,_,rfl,o,au,dx,_,_,rfl,ins,am.cl,ao.n_many,rfl,v,ra,n,rfl,hR,λJ1 y1=>?_⟩
  rw [hf]
  exact ⟨_,rfl,yH ⟨(by show 1<=sizeLine; decide),qb _ y1⟩⟩
 have kl:l.ns.length=n:=PK.len
 have SH:yY n (.str l.ns l.a l.d):=⟨kl,PK.d0⟩
 have yes:we (n:Int) (.str (yC l.ns) (.int l.a) (.int l.d))=true:=gZ SH
 refine ⟨_,rfl,_,rfl,o,au,dx,_,_,rfl,ins,am.cl,ao.n_many,rfl,.ref so,.str (yC l.ns) (.int l.a) (.int l.d),n,rfl,uU (t:=.str l.ns l.a l.d) (C2:=ae) (C3:=af) (show n<=800 by omega) SH ⟨so,dxs,la,rfl,SA.ins,SA.ns⟩,λJ1 y1=>?_⟩
 rw [yes]
 refine ⟨_,rfl,zb ?_⟩
 have SG1:=y1
 rcases W with ⟨a9,ha9,hd9,qb⟩ | ⟨z,rfl,z1,q⟩
 ·refine ⟨_,rfl,u,a9,rfl,ha9.same y1,?_⟩
  by_cases c9:yP a9=true
  case neg=>
   rw [Bool.not_eq_true] at c9
   rw [c9]
   exact ⟨_,rfl,yH ⟨(by show 1<=sizeLine; decide),qb _ y1⟩⟩
  rw [c9]
  obtain ⟨z,rfl,rfl⟩:=ha9.whole_inv c9
  have z1:¬ 1<=z:=of_decide_eq_false hd9
  refine ⟨_,rfl,zb ?_⟩
  exact ⟨_,rfl,_,_,rfl,rfl,_,rfl,yM (decide_eq_true (show z < 1 by omega)) ⟨(by show 1<=sizeLine; decide),qb _ y1⟩⟩
 refine ⟨_,rfl,.int z,.int z,rfl,.int z,_,rfl,zb ?_⟩
 refine ⟨_,rfl,_,_,rfl,rfl,_,rfl,zr (decide_eq_false (show ¬ (z < 1) by omega)) ?_⟩
 refine ⟨_,rfl,o,au,dx,_,_,rfl,(SG1 _ _ ins),am.cl,ao.n_many,rfl,_,rfl,(by omega),(by omega),jo (lo:=0) (n:=((n:Nat):Int).toNat)
  (λi ys σ H'=>Paired (vS H') ys (List.replicate i ((0:Int),z))/\(∃ o,σ=[o,some (.int z)])/\zC J1 H')
  ⟨.nil,⟨none,rfl⟩,zC.refl _⟩ (λi ys σ H' ⟨e1,_⟩=>by have:=Paired.length e1; rw [List.length_replicate] at this; omega) (Nat.le_of_lt (zy (by omega))) ?_ ?_⟩
 ·rintro i ys σ H' hi ⟨hys,⟨o1,rfl⟩,sm⟩
  refine ⟨_,rfl,(by show 2<=sizeLine; decide),λa ha=>?_⟩
  have za:=zK ha (HO.tup [V.int 0,V.int z])
  refine ⟨?_,⟨_,rfl⟩,sm.trans za⟩
  rw [List.replicate_succ']
  exact xZ (R:=vS _) (y:=((0:Int),z)) ⟨a,rfl,zH⟩ (wy za hys)
 rintro rv σ J2 ⟨hrv,⟨o1,rfl⟩,y2⟩ ra hra
 rw [Int.toNat_natCast] at hrv
 have SG2:=SG1.trans y2
 have yG3:=zK hra (HO.lst rv)
 have era:=zH (H:=J2) (a:=ra) (o:=HO.lst rv)
 generalize hhG3:upd J2 ra (HO.lst rv)=G3 at yG3 era |-
 have SG3:=SG2.trans yG3
 replace hrv:=(wy yG3 hrv)
 refine ⟨_,rfl,o,dx,_,rfl,(SG3 _ _ ins),rfl,o,kp,km,n,bs,ms,pv,mv,rfl,TA.same SG3,λl2 J3 y3 _ el2=>?_⟩
 have SG4:=SG3.trans y3
 replace hrv:=(wy y3 hrv)
 replace era:=(y3 _ _ era)
 refine ⟨l2,rfl,⟨_,zP.of el2⟩,xu (K:=K) (a:=l2) (xs:=mv) (λi ys σ H'=>Paired (yX ac H') ys ((ms.take i).map λm=>qC m l)/\(∃ o,σ=[o,some (.ref so)])/\zC J3 H')
  ⟨.nil,⟨none,rfl⟩,zC.refl _⟩ (λi ys σ H' hi ⟨e1,_,sm⟩=>⟨zP.of (sm _ _ el2),by have:=Paired.length e1; rw [List.length_map,List.length_take] at this; omega⟩) (Nat.le_of_lt (zy (by omega))) ?_ ?_⟩
 ·rintro i x ys σ H' hix ⟨hys,⟨o1,rfl⟩,sm⟩
  obtain ⟨md,hmd,hx⟩:=xF TA.hmv hix
  have s0:=SG4.trans sm
  refine ⟨_,rfl,_,rfl,x,md,so,dxs,la,l,n,bs.length,rfl,yX.same s0 hx,TB.ok.mok md (List.mem_of_getElem? hmd),TB.mb md (List.mem_of_getElem? hmd),SA.same s0,PK,b3,λu H2 z2 hu=>⟨?_,⟨_,rfl⟩,sm.trans z2⟩⟩
  rw [xO hmd,List.map_append (l₁:=List.take i _)]
  exact xZ (R:=yX ac _) hu (w8 z2 hys)
 rintro xs σ J4 ⟨hxs,⟨o1,rfl⟩,y4⟩ ml hml
 rw [vY (by omega)] at hxs
 have SG5:=SG4.trans y4
 replace hrv:=(wy y4 hrv)
 replace era:=(y4 _ _ era)
 replace el2:=(y4 _ _ el2)
 have yG6:=zK hml (HO.lst xs)
 have eml:=zH (H:=J4) (a:=ml) (o:=HO.lst xs)
 generalize hhG6:upd J4 ml (HO.lst xs)=G6 at yG6 eml |-
 have SG6:=SG5.trans yG6
 replace hrv:=(wy yG6 hrv)
 replace era:=(yG6 _ _ era)
 replace el2:=(yG6 _ _ el2)
 replace hxs:=(w8 yG6 hxs)
 refine ⟨_,rfl,o,au,dx,_,_,rfl,(SG6 _ _ ins),am.cl,ao.n_many,rfl,_,rfl,o,dx,_,rfl,(SG6 _ _ ins),rfl,o,kp,km,n,bs,ms,pv,mv,rfl,TA.same SG6,λlp J5 y5 _ elp=>?_⟩
 have SG7:=SG6.trans y5
 replace hrv:=(wy y5 hrv)
 replace era:=(y5 _ _ era)
 replace el2:=(y5 _ _ el2)
 replace hxs:=(w8 y5 hxs)
 replace eml:=(y5 _ _ eml)
 have lrv:=Paired.length hrv
 rw [List.length_replicate] at lrv
 refine ⟨_,rfl,lp,ra,_,_,rfl,rfl,elp,era,Nat.le_of_lt (zy (by omega)),λcp hcp=>?_⟩
 have yG8:=zK hcp (HO.lst (pv++rv))
 have ecp:=zH (H:=J5) (a:=cp) (o:=HO.lst (pv++rv))
 generalize hhG8:upd J5 cp (HO.lst (pv++rv))=G8 at yG8 ecp |-
 have SG8:=SG7.trans yG8
 replace hrv:=(wy yG8 hrv)
 replace era:=(yG8 _ _ era)
 replace el2:=(yG8 _ _ el2)
 replace hxs:=(w8 yG8 hxs)
 replace eml:=(yG8 _ _ eml)
 replace elp:=(yG8 _ _ elp)
 have hcv:Paired (vS G8) (pv++rv) (bs++List.replicate n ((0:Int),z)):=wm (wy SG8 TA.hpv) hrv
 refine ⟨_,rfl,?_⟩
 intro to dt hto hdt ne2
 have zt:=ww hto hdt ne2 (HO.own to) (HO.ins au dt [])
 have et9:=zH (H:=upd G8 dt (HO.own to)) (a:=to) (o:=HO.ins au dt [])
 generalize hhJ9:upd (upd G8 dt (HO.own to)) to (HO.ins au dt [])=J9 at zt et9 |-
 refine ⟨to,dt,cp,ml,(pv++rv),xs,n,(bs++List.replicate n (0,z)),(ms.map λm=>qC m l),rfl,et9,zt _ _ ecp,wy zt hcv,zt _ _ eml,w8 zt hxs,(gh TB PK z1),(λc=>by rw [List.length_map] at c; have:=TB.few; omega),λ_ kp' km' J10 sb eo5 ek em=>⟨rfl,?_⟩⟩
 have sz:=wa zt sb hto
 exact q to J10 (SG8.trans sz)
end
noncomputable def zY (C C1 C2 C3:Addr) (n:Nat) (d:Nat) (H:Hp) (v:V):Prop:=∃ ra,RV C C1 C2 C3 H v ra/\yg (n:Int) ra=false/\ra.dep<=d
theorem zY.same {C C1 C2 C3:Addr} {n d:Nat} {H H':Hp} {v:V} (h:zY C C1 C2 C3 n d H v) (s:zC H H'):zY C C1 C2 C3 n d H' v:=let ⟨ra,a,b,c⟩:=h; ⟨ra,a.same s,b,c⟩
noncomputable def zN (C C1 C2 C3:Addr) (n d:Nat) (H:Hp) (xs:List V):Prop:=∀ x∈xs,zY C C1 C2 C3 n d H x
theorem zN.same {C C1 C2 C3:Addr} {n d:Nat} {H H':Hp} {xs:List V} (h:zN C C1 C2 C3 n d H xs) (s:zC H H'):zN C C1 C2 C3 n d H' xs:=λx hx=>(h x hx).same s
theorem zN.nil {C C1 C2 C3:Addr} {n d:Nat} {H:Hp}:zN C C1 C2 C3 n d H []:=λ_ h=>by cases h
theorem zN.cons {C C1 C2 C3:Addr} {n d:Nat} {H:Hp} {x:V} {xs:List V} (h:zY C C1 C2 C3 n d H x) (t:zN C C1 C2 C3 n d H xs):zN C C1 C2 C3 n d H (x :: xs):=λy hy=>by
 rcases List.mem_cons.mp hy with e | e
 ·rw [e]; exact h
 ·exact t y e
theorem zN.app {C C1 C2 C3:Addr} {n d:Nat} {H:Hp} {xs ys:List V} (h:zN C C1 C2 C3 n d H xs) (t:zN C C1 C2 C3 n d H ys):zN C C1 C2 C3 n d H (xs++ys):=λy hy=>(List.mem_append.mp hy).elim (h y) (t y)
theorem zN.at {C C1 C2 C3:Addr} {n d:Nat} {H:Hp} {xs:List V} (h:zN C C1 C2 C3 n d H xs) {i:Int} (h0:0<=i) (h1:i < (xs.length:Int)):∃ v,wJ xs i=some v/\zY C C1 C2 C3 n d H v:=by
 obtain ⟨k,rfl⟩:=Int.eq_ofNat_of_zero_le h0
 have hk:k < xs.length:=by omega
 exact ⟨xs[k],kF (List.getElem?_eq_getElem hk),h _ (List.getElem_mem hk)⟩
theorem wo {C C1 C2 C3:Addr} {H:Hp} {vn va vd:V} {N A D:AK} {j:Nat} {Q:Addr->VK} {E:XK} (hn:AV C H vn N) (fc:FC j N) (j3:j<=3) (ha:AV C H va A) (hd:AV C H vd D) (q:∀ x H',zC H H'->RV C C1 C2 C3 H' (.ref x) (.str N A D)->Q x .non H') :
  ∀ x dx,H x=none->H dx=none->dx≠x->qA C C1 (.ref x :: ([vn,va,vd]++[])) (upd (upd H dx (.own x)) x (.ins C1 dx [])) (Q x) E:=λx dx hx hdx ne=>by
 have zx:=ww hx hdx ne (HO.own x) (HO.ins C1 dx [])
 refine ⟨x,dx,vn,va,vd,N,j,rfl,zH,hn.same zx,fc,j3,λvn' H' sb e hv=>?_⟩
 have s:=wa zx sb hx
 exact q x H' s ⟨x,dx,vn',va,vd,rfl,e,hv.same YG,ha.same s,hd.same s,fc.fa.mono j3⟩
theorem uV {C C1 C2 C3:Addr} {H:Hp} {u vl vh:V} {r:RA} {lo hi:AK} {Q:Addr->VK} {E:XK} (hu:RV C C1 C2 C3 H u r) (hl:AV C H vl lo) (hh:AV C H vh hi) (q:∀ x H',zC H H'->RV C C1 C2 C3 H' (.ref x) (.stp r lo hi)->Q x .non H') :
  ∀ x dx,H x=none->H dx=none->dx≠x->jY C2 (.ref x :: ([u,vl,vh]++[])) (upd (upd H dx (.own x)) x (.ins C2 dx [])) (Q x) E:=λx dx hx hdx ne=>by
 have zx:=ww hx hdx ne (HO.own x) (HO.ins C2 dx [])
 refine ⟨x,dx,u,vl,vh,rfl,zH,λH' sb e=>?_⟩
 have s:=wa zx sb hx
 exact q x H' s ⟨x,dx,u,vl,vh,rfl,e,hl.same s,hh.same s,hu.same s⟩
theorem vZ {C C1 C2 C3:Addr} {H:Hp} {vr u w:V} {R:AK} {a b:RA} {j:Nat} {Q:Addr->VK} {E:XK} (hr:AV C H vr R) (fc:FC j R) (j3:j<=3) (hu:RV C C1 C2 C3 H u a) (hw:RV C C1 C2 C3 H w b) (q:∀ x H',zC H H'->RV C C1 C2 C3 H' (.ref x) (.prt R a b)->Q x .non H') :
  ∀ x dx,H x=none->H dx=none->dx≠x->jZ C C3 (.ref x :: ([vr,u,w]++[])) (upd (upd H dx (.own x)) x (.ins C3 dx [])) (Q x) E:=λx dx hx hdx ne=>by
 have zx:=ww hx hdx ne (HO.own x) (HO.ins C3 dx [])
 refine ⟨x,dx,vr,u,w,R,j,rfl,zH,hr.same zx,fc,j3,λvr' H' sb e hv=>?_⟩
 have s:=wa zx sb hx
 exact q x H' s ⟨x,dx,vr',u,w,rfl,e,hv.same YG,fc.fa.mono j3,hu.same s,hw.same s⟩
theorem gk {C C1 C2 C3:Addr} {H:Hp}:∀ {t:RT} {v:V},RV C C1 C2 C3 H v (yz t)->xR C1 C2 C3 H v t
 | .str ..,_,⟨o,dx,vn,va,vd,e,h,hn,ha,hd,_⟩=>by
  obtain ⟨l,rfl,hl⟩:=ki hn
  cases ha
  cases hd
  exact ⟨o,dx,l,e,h,hl⟩
 | .stp ..,_,⟨o,dx,u,vl,vh,e,h,hl,hh,hu⟩=>by
  cases hl
  cases hh
  exact ⟨o,dx,u,e,h,gk hu⟩
 | .prt ..,_,⟨o,dx,vr,u,w,e,h,hr,_,hu,hw⟩=>by
  obtain ⟨l,rfl,hl⟩:=Yh hr
  exact ⟨o,dx,l,u,w,e,h,hl,gk hu,gk hw⟩
theorem XH {α:Type}:∀ {l:List α},l.length=5->∃ a b c d e,l=[a,b,c,d,e]
 | [a,b,c,d,e],_=>⟨a,b,c,d,e,rfl⟩
theorem XI {α:Type}:∀ {l:List α},l.length=4->∃ a b c d,l=[a,b,c,d]
 | [a,b,c,d],_=>⟨a,b,c,d,rfl⟩
theorem xA {n:Nat} (h:n<=900):n<=sizeLine:=Nat.le_of_lt (zy (by omega))
theorem XJ (x:Int):Bd 31 (x.fmod 19 - 9):=by
 have a:=Int.fmod_nonneg_of_pos x (show (0:Int) < 19 by decide)
 have b:=Int.fmod_lt_of_pos x (show (0:Int) < 19 by decide)
 show (x.fmod 19 - 9).natAbs < 2 ^ 31
 omega
inductive ZD (C1 C2 C3:Addr) (vs:List V) (H:Hp) (Q:VK) (E:XK):Prop
 | mk (c:Int) (n:Nat) (nn:Int) (_:vs=[.int c,.int nn]) (_:nn=(n:Int)) (_:1<=n) (_:n<=3) (_:∀ (v:V) (t:RT) (H':Hp),zC H H'->xR C1 C2 C3 H' v t->wG t->yY n t->gM t=true->Q v H'):ZD C1 C2 C3 vs H Q E
inductive ZE (C C1 C2 C3:Addr) (vs:List V) (H:Hp) (Q:VK) (E:XK):Prop
 | mk (c:Int) (n:Nat) (nn:Int) (_:vs=[.int c,.int nn]) (_:nn=(n:Int)) (_:1<=n) (_:n<=3) (_:∀ (v:V) (H':Hp),zC H H'->zY C C1 C2 C3 n 2 H' v->Q v H'):ZE C C1 C2 C3 vs H Q E
inductive XM (C C1 C2 C3:Addr) (vs:List V) (H:Hp) (Q:VK) (E:XK):Prop
 | mk (c:Int) (v:V) (ra:RA) (n d:Nat) (nn:Int) (_:vs=[.int c,v,.int nn]) (_:nn=(n:Int)) (_:RV C C1 C2 C3 H v ra) (_:ra.dep<=d) (_:1<=n) (_:n<=3) (_:∀ (v':V) (H':Hp),zC H H'->zY C C1 C2 C3 n (d + 1) H' v'->Q v' H'):XM C C1 C2 C3 vs H Q E
theorem qG {n:Int} {N A D:AK} (h:wc n N=false):yg n (.str N A D)=false:=by show (wc n N && _)=false; rw [h]; rfl
theorem XN {n:Int} {N A D:AK} (h:yP A=false):yg n (.str N A D)=false:=by show (wc n N && (yP A && _))=false; rw [h]; exact Bool.and_false _
theorem ZF {n:Int} {N A D:AK} (h:xx D=false):yg n (.str N A D)=false:=by show (wc n N && (yP A && xx D))=false; rw [h,Bool.and_false]; exact Bool.and_false _
theorem gl {n:Int} {r:RA} {lo hi:AK} (h:uT lo hi=false):yg n (.stp r lo hi)=false:=by show (uT lo hi && _)=false; rw [h]; rfl
theorem XO {n:Int} {r:RA} {lo hi:AK} (h:yg n r=false):yg n (.stp r lo hi)=false:=by show (_ && yg n r)=false; rw [h]; exact Bool.and_false _
theorem gm {n:Int} {x y:RA} {R:AK} (h:xJ n R=false):yg n (.prt R x y)=false:=by show (xJ n R && _)=false; rw [h]; rfl
theorem XQ {n:Int} {x y:RA} {R:AK} (h:yg n x=false):yg n (.prt R x y)=false:=by show (_ && (yg n x && _))=false; rw [h]; exact Bool.and_false _
theorem XR {n:Int} {x y:RA} {R:AK} (h:yg n y=false):yg n (.prt R x y)=false:=by show (_ && (_ && yg n y))=false; rw [h,Bool.and_false]; exact Bool.and_false _
theorem XS {n:Int} {as:List AK} (h:¬ (as.length:Int)=n):wc n (.lst as)=false:=by show (decide _ && _)=false; rw [decide_eq_false h]; rfl
theorem UC {n:Int} {as:List AK} (h:¬ (as.length:Int)=n + 1):xJ n (.tup as)=false:=by show (decide _ && _)=false; rw [decide_eq_false h]; rfl
theorem UD {as:List AK} {a:AK} (h:yP a=false):(as++[a]).all yP=false:=by rw [List.all_append]; show (_ && (yP a && true))=false; rw [h]; exact Bool.and_false _
theorem Kx {n:Int} {as:List AK} {a:AK} (h:yP a=false):wc n (.lst (as++[a]))=false:=by show (_ && (as++[a]).all yP)=false; rw [UD h]; exact Bool.and_false _
theorem Ky {n:Int} {as:List AK} {a:AK} (h:yP a=false):xJ n (.tup (as++[a]))=false:=by show (_ && (as++[a]).all yP)=false; rw [UD h]; exact Bool.and_false _
theorem Kz {i j:Int} (h:¬ i<=j):uT (.int i) (.int j)=false:=by show (true && (true && decide (i<=j)))=false; rw [decide_eq_false h]; rfl
theorem XT:∀ k:Nat,(List.replicate k [V.int 0]).flatten=(List.replicate k (0:Int)).map V.int
 | 0=>rfl
 | k + 1=>by rw [List.replicate_succ,List.replicate_succ,List.flatten_cons,XT k]; rfl
section
variable {P:Program} {w:World} {K:PySem.W.Frag} {mg:Str->Option Value} {base:Heap}
noncomputable abbrev XU:Stmt:=yI 63
theorem K0:zv ["_law_script","_law_k"] ["_law_script","_law_k"] (zW XU):=.a
noncomputable abbrev XV:Stmt:=yI 64
theorem ul:zv ["_law_cell","_law_many","_law_found","_law_rest","_law_k","_law_number"] ["_law_cell","_law_many"] (zW XV):=.a
noncomputable abbrev XW:Stmt:=yI 67
theorem UE:zv ["_law_cell","_law_many","_law_xs"] ["_law_cell","_law_many"] (zW XW):=.a
noncomputable abbrev ZG:Stmt:=yI 68
theorem um:zv ["_law_cell","_law_many","_law_numbers","_law_some"] ["_law_cell","_law_many"] (zW ZG):=.a
noncomputable abbrev ZH:Stmt:=yI 69
theorem je:zv ["_law_cell","_law_rule","_law_many","_law_row","_law_some"] ["_law_cell","_law_rule","_law_many"] (zW ZH):=.a
variable {aRule ad ae af ac au:Addr} (TRule:zQ K mg "Rule" aRule) (ARule:vx K aRule) (ah:zQ K mg "Straight" ad) (ap:vy K ad) (al:zQ K mg "Stopped" ae) (aq:vz K ae) (aj:zQ K mg "Parted" af) (ar:v4 K af) (ag:zQ K mg "Mode" ac) (ai:v5 K ac) (am:zQ K mg "Thing" au) (ao:v6 K au) (Y:v7 K ac ad ae af) {C1 C2:Addr} (Z:vv K mg C1 C2)
include TRule ARule ah ap al aq aj ar ag ai am ao Y Z
theorem K1 {k:Nat} {f:Addr} {fd:FuncData} (F:yA K "_law_cell_at" "_law_cell_at" XU f fd) (B:Bl mg):zL P w K mg base zj (k + 1) f fd ["_law_script","_law_k"] (kK K):=by
 refine F.ok K0 (λvs H Q E h=>?_) (λcdv A outer s H vs Q E hr h=>?_)
 ·obtain ⟨_,_,_,rfl,_⟩:=h
  rfl
 obtain ⟨a,ns,k,rfl,hS,h0,q⟩:=h
 refine ⟨_,(zS (yT (yp (yF Za) (zB 1) (yG xb rfl B.len_ vm (zA (zB 0) zE)) (yS _)) (zX (zo (wK vF (zB 0) (zB 1) (λ_ _=>rfl)))) yc)
  (zX (zo zJ))),?_⟩
 try dsimp only [zM,Cx.nox,Cx.wish]
 refine ⟨_,rfl,_,rfl,a,_,rfl,.inl hS,_,_,rfl,rfl,_,rfl,?_⟩
 refine qg (λc=>?_) (λc=>?_)
 ·have c':k < ((ns.map V.int).length:Int):=of_decide_eq_true c
  rw [List.length_map] at c'
  have hk:k.toNat < ns.length:=by omega
  have ek:k=((k.toNat:Nat):Int):=by omega
  have q0:wJ (ns.map V.int) ((k.toNat:Nat):Int)=some (.int ns[k.toNat]):=kF (by rw [List.getElem?_map,List.getElem?_eq_getElem hk]; rfl)
  rw [<- ek] at q0
  refine ⟨_,rfl,_,rfl,a,_,k,.int (ns[k.toNat]),rfl,rfl,hS,q0,?_⟩
  ·have e:ns[k.toNat]=yy ns k:=by unfold yy; rw [List.getElem?_eq_getElem hk]; rfl
   rw [e]
   exact q
 ·have c':¬ k < ((ns.map V.int).length:Int):=λz=>c (decide_eq_true z)
  rw [List.length_map] at c'
  have e:(0:Int)=yy ns k:=by unfold yy; rw [List.getElem?_eq_none (by omega)]; rfl
  show Q (.int 0) H
  rw [e]
  exact q
theorem K2 {k:Nat} {f:Addr} {fd:FuncData} (F:yA K "_law_stream" "_law_stream" XV f fd) (B:Bl mg):zL P w K mg base zj (k + 1) f fd ["_law_cell","_law_many"] kM:=by
 refine F.ok ul (λvs H Q E h=>?_) (λcdv A outer s H vs Q E hr h=>?_)
 ·obtain ⟨_,_,rfl,_⟩:=h
  rfl
 obtain ⟨c,mm,rfl,m0,m10,q⟩:=h
 refine ⟨_,(zS (zp (i:=2) ul.nd rfl (Or.inl rfl) (yD zE))
  (zS (yT (yp (yF Zb) (zB 0) (zR (ji kA) zJ zJ) (yS _)) (zS (zp (i:=3) ul.nd rfl (Or.inl rfl) (zR (yF wj) (zB 0) (zR (ji kA) zJ zJ)))
   (zS (vj PassesOwn.never rfl (vg rfl B.range_ (zA (zB 1) zE)) (zu (i:=4) ul.nd rfl (Or.inl rfl)) (zS (ut (ub PySem.F.plainAttrs_list PySem.F.slot_list_append PySem.F.type_list_append wZ (zB 2) (zA (zR (ji yx) (zB 3) zJ) zE)))
    (zX (zp (i:=3) ul.nd rfl (Or.inl rfl) (zR (ji u9) (zB 3) zJ)))))
   (zX (zo (zB 2))))) yc)
  (zS (zp (i:=5) ul.nd rfl (Or.inl rfl) (zR (yF xi) (zR (ji yx) (zB 0) zJ) zJ))
  (zS (vj PassesOwn.never rfl (vg rfl B.range_ (zA (zR (yF xi) (zB 1) zJ) zE)) (zu (i:=4) ul.nd rfl (Or.inl rfl)) (zS (zp (i:=5) ul.nd rfl (Or.inl rfl) (zR (ji yx) (zR (yF xi) (zR (yF xi) (zR (ji vD) (zB 5) (zB 5)) (zR (ji vD) zJ (zB 5))) (zB 4)) zJ))
   (zX (ut (ub PySem.F.plainAttrs_list PySem.F.slot_list_append PySem.F.type_list_append wZ (zB 2) (zA (zB 5) zE))))))
  (zX (zo (uZ gD (zB 2) (uY zJ) uX))))))),?_⟩
 try dsimp only [zM,Cx.nox,Cx.wish]
 have p0:(0:Int) < 2147483647:=by decide
 have b0:Bd 31 (2147483647:Int):=Bd.lit
 have big:(2147483647:Int) < 10 ^ 45:=by decide
 have bmod:∀ z:Int,Bd 31 (z.fmod 2147483647):=λz=>by
  have h1:=Int.fmod_nonneg_of_pos z p0
  have h2:=Int.fmod_lt_of_pos z p0
  have h3:(2147483647:Int).natAbs < 2 ^ 31:=b0
  show (z.fmod 2147483647).natAbs < 2 ^ 31
  omega
 refine ⟨(by show 0<=sizeLine; decide),λl hl=>?_⟩
 refine ⟨_,rfl,_,_,rfl,rfl,⟨by decide,by decide,by decide⟩,_,_,rfl,rfl,_,rfl,?_⟩
 refine qg (λcc=>?_) (λcc=>?_)
 ·refine ⟨_,rfl,_,_,rfl,rfl,⟨by decide,by decide,by decide⟩,_,_,rfl,rfl,?_⟩
  refine ⟨_,rfl,mm,rfl,(by omega),(by omega),gy (lo:=0) (n:=mm.toNat)
   (λi σ H2=>∃ (xs:List Int) (rs:Int) (kk:Option V),σ=[some (.int c),some (.int mm),some (.ref l),some (.int rs),kk,none]/\H2=upd H l (.lst (xs.map V.int))/\xs.length=i/\∀ x∈xs,0<=x/\x < 10 ^ 45)
   ⟨[],_,none,rfl,rfl,rfl,λx hx=>by cases hx⟩ ?_ ?_⟩
  ·rintro i σ H2 hi ⟨xs,rs,kk,rfl,rfl,hlen,hxs⟩
   refine ⟨_,rfl,.inl ⟨rfl,_,zP.of zH⟩,_,rfl,_,_,rfl,rfl,(show (2147483647:Int)≠0 by decide),l,_,_,rfl,rfl,zH,?_,?_⟩
   ·rw [List.length_map]
    exact zy (by omega)
   refine ⟨_,rfl,_,_,rfl,rfl,⟨(show (2147483647:Int)≠0 by decide),b0.mono⟩,?_⟩
   refine ⟨xs++[rs.fmod 2147483647],_,_,rfl,?_,?_,λx hx=>?_⟩
   ·rw [Xk,List.map_append]
    rfl
   ·rw [List.length_append,hlen]
    rfl
   ·rcases List.mem_append.mp hx with hx | hx
    ·exact hxs x hx
    ·rw [List.mem_singleton.mp hx]
     have h2:=Int.fmod_lt_of_pos rs p0
     exact ⟨Int.fmod_nonneg_of_pos _ p0,by omega⟩
  ·rintro σ H2 ⟨xs,rs,kk,rfl,rfl,hlen,hxs⟩
   exact ⟨_,rfl,q l _ xs (zK hl _) hl zH hlen hxs⟩
 ·refine ⟨_,rfl,_,_,rfl,rfl,(show (2147483647:Int)≠0 by decide),_,_,rfl,rfl,?_⟩
  have bk:Bd 31 (48271:Int):=Bd.lit
  have hb0:Bd 62 (c.fmod 2147483647 + 48271):=((bmod c).add bk).mono
  refine ⟨_,rfl,_,_,rfl,rfl,mm + 2,rfl,(by omega),(by omega),gy (lo:=0) (n:=(mm + 2).toNat)
   (λi σ H2=>∃ (xs:List Int) (nh:Int) (kk:Option V),σ=[some (.int c),some (.int mm),some (.ref l),none,kk,some (.int nh)]/\H2=upd H l (.lst (xs.map V.int))/\xs.length=i/\Bd 62 nh/\∀ x∈xs,0<=x/\x < 10 ^ 45)
   ⟨[],_,none,rfl,rfl,rfl,hb0,λx hx=>by cases hx⟩ ?_ ?_⟩
  ·rintro i σ H2 hi ⟨xs,nh,kk,rfl,rfl,hlen,hnh,hxs⟩
   refine ⟨_,rfl,_,rfl,_,_,rfl,rfl,⟨hnh.mono,hnh.mono⟩,_,rfl,_,_,rfl,rfl,⟨bk.mono,hnh.mono⟩,_,_,rfl,rfl,_,rfl,_,_,rfl,rfl,_,_,rfl,rfl,(show (2147483647:Int)≠0 by decide),?_⟩
   refine ⟨_,rfl,.inl ⟨rfl,_,zP.of zH⟩,_,rfl,l,_,_,rfl,rfl,zH,?_,?_⟩
   ·rw [List.length_map]
    exact zy (by omega)
   refine ⟨xs++[(nh * nh + 48271 * nh + (0 + (i:Int))).fmod 2147483647],_,_,rfl,?_,?_,(bmod _).mono,λx hx=>?_⟩
   ·rw [Xk,List.map_append]
    rfl
   ·rw [List.length_append,hlen]
    rfl
   ·rcases List.mem_append.mp hx with hx | hx
    ·exact hxs x hx
    ·rw [List.mem_singleton.mp hx]
     have h2:=Int.fmod_lt_of_pos (nh * nh + 48271 * nh + (0 + (i:Int))) p0
     exact ⟨Int.fmod_nonneg_of_pos _ p0,by omega⟩
  ·rintro σ H2 ⟨xs,nh,kk,rfl,rfl,hlen,hnh,hxs⟩
   refine ⟨_,rfl,_,rfl,l,_,rfl,zP.of zH,λp hp=>?_⟩
   have ec:yR (xs.map V.int) (some 2) none=(xs.drop 2).map V.int:=by
    have e1:HT.sIx (xs.map V.int).length 0 (some 2)=min 2 (xs.map V.int).length:=HT.sIx_nat _ 0 2
    unfold yR
    rw [e1,HT.sIx_none,List.length_map,hlen,show min 2 (mm + 2).toNat=2 by omega,<- List.map_drop,List.take_of_length_le (by rw [List.length_map,List.length_drop]; omega)]
   refine q p _ (xs.drop 2) ((zK hl _).trans (zK hp _)) ((zK hl _).free hp) (zH.trans (by rw [ec])) (by rw [List.length_drop]; omega) λx hx=>hxs x (List.mem_of_mem_drop hx)
theorem K3 {k:Nat} {f:Addr} {fd:FuncData} (F:yA K "_law_leaf" "_law_leaf" XW f fd) (B:Bl mg) (aR:Fn P w K mg base "_law_stream" ["_law_cell","_law_many"] (k + 1) kM) (aw:xG P w K mg base ad ["self","numbers","add","divisor"] k (qA ac ad) (.int 1)):zL P w K mg base zj (k + 1 + 1) f fd ["_law_cell","_law_many"] (ZD ad ae af):=by
 refine F.ok UE (λvs H Q E h=>?_) (λcdv A outer s H vs Q E hr h=>?_)
 ·obtain ⟨_,_,_,rfl,_⟩:=h
  rfl
 obtain ⟨c,n,_,rfl,rfl,n1,n3,q⟩:=h
 refine ⟨_,(zS (zp (i:=2) UE.nd rfl (Or.inl rfl) (zZ aR hr rfl (zA (zB 0) (zA zJ zE))))
  (zX (zo (yN aw.fn ah hr rfl (zA (xY (own:=["_law_number"]) (caps:=[]) (wr rfl) rfl (xB (uZ gD (zB 2) uX (uY (zB 1)))) (λ_ _ _ _=>zu (i:=0) (show (["_law_number"]:List Str).Nodup by decide +kernel) rfl (Or.inl rfl)) (λ_ _ _ _=>(zR (yF wj) (zR (ji yx) (zB 0) zJ) zJ))) (zA (zR (yF wj) (zR (ji yx) (wK vF (zB 2) zJ (λ_ _=>rfl)) zJ) zJ) (zA (zR (yF xi) zJ (zR (ji yx) (wK vF (zB 2) zJ (λ_ _=>rfl)) zJ)) zE))))))),?_⟩
 try dsimp only [zM,Cx.nox,Cx.wish]
 refine ⟨_,rfl,c,5,rfl,(by decide),(by decide),λxa H1 xs s1 f1 e1 lx bx=>?_⟩
 have lx:xs.length=5:=lx
 obtain ⟨x0,x1,x2,x3,x4,rfl⟩:=XH lx
 refine ⟨_,rfl,_,rfl,_,rfl,xa,_,rfl,zP.of e1,λc1 hc1=>?_⟩
 rw [Wb _ (b:=n) (by show n<=5; omega)]
 obtain ⟨zs,hzs⟩:∃ zs,zs=([x0,x1,x2,x3,x4]:List Int).take n:=⟨_,rfl⟩
 have lz:zs.length=n:=by rw [hzs,List.length_take]; show min n 5=n; omega
 rw [<- hzs]
 have w1:=zK hc1 (HO.lst (zs.map V.int))
 have ec:=zH (H:=H1) (a:=c1) (o:=HO.lst (zs.map V.int))
 generalize upd H1 c1 (HO.lst (zs.map V.int))=H2 at w1 ec |-
 refine ⟨c1,rfl,⟨_,zP.of ec⟩,xu (K:=K) (a:=c1) (xs:=zs.map V.int) (λi ys σ H'=>ys=((zs.take i).map λx=>x.fmod 19 - 9).map V.int/\(∃ o,σ=[o])/\H'=H2)
  ⟨rfl,⟨none,rfl⟩,rfl⟩ (λi ys σ H' _ ⟨g1,_,g3⟩=>⟨by rw [g3]; exact zP.of ec,by rw [g1,List.length_map,List.length_map,List.length_take]; exact Nat.min_le_left _ _⟩) (xA (by rw [List.length_map]; omega)) ?_ ?_⟩
 ·rintro i x ys σ H' hx ⟨rfl,⟨o,rfl⟩,rfl⟩
  obtain ⟨z,hz,rfl⟩:=uN hx
  refine ⟨_,rfl,_,_,rfl,rfl,(show (19:Int)≠0 by decide),_,_,rfl,rfl,?_,⟨_,rfl⟩,rfl⟩
  rw [xO hz,List.map_append,List.map_append]
  rfl
 rintro ys σ H' ⟨rfl,⟨o,rfl⟩,rfl⟩ l hl
 rw [List.length_map,List.take_length]
 obtain ⟨ns,hns⟩:∃ ns,ns=zs.map λx=>x.fmod 19 - 9:=⟨_,rfl⟩
 rw [<- hns]
 have w2:=w1.trans (zK hl (HO.lst (ns.map V.int)))
 have d0:=Int.fmod_nonneg_of_pos x4 (show (0:Int) < 9 by decide)
 have d1:=Int.fmod_lt_of_pos x4 (show (0:Int) < 9 by decide)
 have ln:ns.length=n:=by rw [hns,List.length_map,lz]
 refine ⟨_,rfl,xa,_,3,_,rfl,rfl,zP.of (w2 _ _ e1),rfl,_,_,rfl,rfl,(show (19:Int)≠0 by decide),_,_,rfl,rfl,_,rfl,xa,_,4,_,rfl,rfl,zP.of (w2 _ _ e1),rfl,_,_,rfl,rfl,(show (9:Int)≠0 by decide),_,_,rfl,rfl,?_⟩
 refine wo (C:=ac) (C2:=ae) (C3:=af) (N:=yC ns) (A:=.int (x3.fmod 19 - 9)) (D:=.int (1 + x4.fmod 9)) (j:=2) (wR zH) (wS (by omega)) (by decide) (.int _) (.int _) λx G s R=>⟨rfl,?_⟩
 refine q (.ref x) (.str ns (x3.fmod 19 - 9) (1 + x4.fmod 9)) G (s1.trans (w2.trans s)) (gk R) ⟨?_,?_,?_⟩ ⟨ln,by omega⟩ rfl
 ·intro y hy
  rw [hns] at hy
  obtain ⟨z,_,rfl⟩:=List.mem_map.mp hy
  exact (XJ z).mono
 ·exact (XJ x3).mono
 ·show (1 + x4.fmod 9).natAbs < _
  first | omega | (have:(2:Nat) ^ 31 > 100:=by decide); omega
theorem K4 {k:Nat} {f:Addr} {fd:FuncData} (F:yA K "_law_no_leaf" "_law_no_leaf" ZG f fd) (B:Bl mg) (aw:xG P w K mg base ad ["self","numbers","add","divisor"] k (qA ac ad) (.int 1)) (ax:xk P w K mg base af ["self","row","rule","other"] k (jZ ac af)) (aA:xk P w K mg base ae ["self","rule","low","high"] k (jY ae)):zL P w K mg base zj (k + 1 + 1) f fd ["_law_cell","_law_many"] (ZE ac ad ae af):=by
 refine F.ok um (λvs H Q E h=>?_) (λcdv A outer s H vs Q E hr h=>?_)
 ·obtain ⟨_,_,_,rfl,_⟩:=h
  rfl
 obtain ⟨c,n,_,rfl,rfl,n1,n3,q⟩:=h
 refine ⟨_,(zS (uJ (i:=2) um.nd rfl rfl (own:=["_law_k"]) (caps:=[(0,"_law_cell")]) (wD (S:=zW ZG) (N:=["_law_cell","_law_many","_law_numbers","_law_some"]) rfl (by decide +kernel) rfl ⟨_,rfl⟩ rfl (by decide +kernel) (by decide +kernel)) rfl (vg rfl B.range_ (zA (zB 1) zE)) (λ_ _ _ _=>zu (i:=0) (show (["_law_k","_law_cell"]:List Str).Nodup by decide +kernel) rfl (Or.inl rfl)) (λ_ _ _ _=>(zR (yF xi) (zR (yF wj) (zR (ji yx) (zR (ji u9) (zB 1) zJ) zJ) zJ) (zB 0))) rfl)
  (zS (zp (i:=3) um.nd rfl (Or.inl rfl) (yD (zA (yN aw.fn ah hr rfl (zA (zR zk (zB 2) (yD (zA zJ zE))) (zA zJ (zA zJ zE)))) (zA (yN aw.fn ah hr rfl (zA (uZ gD (zB 2) (uY zJ) uX) (zA zJ (zA zJ zE)))) (zA (yN aw.fn ah hr rfl (zA (vC wu rfl B.tuple_ uK (zA (zB 2) zE)) (zA zJ (zA zJ zE)))) zE)))))
  (zS (zp (i:=3) um.nd rfl (Or.inl rfl) (zR zk (zB 3) (yD (zA (yN aw.fn ah hr rfl (zA (zB 2) (zA zJ (zA zJ zE)))) (zA (yN aw.fn ah hr rfl (zA (zB 2) (zA zJ (zA (zR (yF wj) (zR (yF wj) zJ zJ) (zR (ji yx) (zB 0) (zR (ji kA) zJ zJ))) zE)))) zE)))))
  (zS (zp (i:=3) um.nd rfl (Or.inl rfl) (zR zk (zB 3) (yD (zA (yN aw.fn ah hr rfl (zA (zB 2) (zA vM (zA zJ zE)))) zE))))
  (zS (zp (i:=3) um.nd rfl (Or.inl rfl) (zR zk (zB 3) (yD (zA (yN aw.fn ah hr rfl (zA (zB 2) (zA xK (zA zJ zE)))) (zA (yN aw.fn ah hr rfl (zA (zB 2) (zA zJ (zA xK zE)))) zE)))))
  (zS (zp (i:=3) um.nd rfl (Or.inl rfl) (zR zk (zB 3) (yD (zA (yN aw.fn ah hr rfl (zA (zB 2) (zA zJ (zA vM zE)))) (zA vM (zA zJ (zA (zB 2) zE)))))))
  (zS (zp (i:=3) um.nd rfl (Or.inl rfl) (zR zk (zB 3) (yD (zA (yN aw.fn ah hr rfl (zA (zR zk (uZ gD (zB 2) (uY zJ) uX) (yD (zA xK zE))) (zA zJ (zA zJ zE)))) (zA (yN aw.fn ah hr rfl (zA vM (zA zJ (zA zJ zE)))) (zA (yN aw.fn ah hr rfl (zA (zB 2) (zA xV (zA zJ zE)))) (zA xV zE)))))))
  (zX (zo (wK vF (zR zk (zB 3) (yD (zA (yN aA al hr rfl (zA vM (zA zJ (zA zJ zE)))) (zA (yN ax aj hr rfl (zA (zR WS (wY (zA zJ zE)) (zR (yF xi) (zB 1) zJ)) (zA vM (zA (yN aw.fn ah hr rfl (zA (zB 2) (zA zJ (zA zJ zE)))) zE)))) zE)))) (zR (ji yx) (zB 0) zJ) (λ_ _=>rfl))))))))))),?_⟩
 try dsimp only [zM,Cx.nox,Cx.wish]
 have b7:Bd 4 (7:Int):=Bd.lit
 refine ⟨_,rfl,_,rfl,(by omega),(by omega),jo (lo:=0) (n:=((n:Int)).toNat) (λi ys σ H'=>(∃ ns:List Int,ys=ns.map V.int/\ns.length=i)/\(∃ o,σ=[o,some (.int c)])/\H'=H)
  ⟨⟨[],rfl,rfl⟩,⟨none,rfl⟩,rfl⟩ (λi ys σ H' ⟨⟨ns,g1,g2⟩,_,_⟩=>by rw [g1,List.length_map,g2]; exact Nat.le_refl _) (xA (by omega)) ?_ ?_⟩
 ·rintro i ys σ H' hi ⟨⟨ns,rfl,l⟩,⟨o,rfl⟩,rfl⟩
  refine ⟨_,rfl,_,_,rfl,rfl,⟨by decide,b7.mono⟩,_,_,rfl,rfl,(show (19:Int)≠0 by decide),_,_,rfl,rfl,_,rfl,_,_,rfl,rfl,⟨ns++[(c.fdiv 7).fmod 19 - 9 + (0 + (i:Int))],?_,by rw [List.length_append,l]; rfl⟩,⟨_,rfl⟩,rfl⟩
  rw [List.map_append]
  rfl
 rintro ys σ H' ⟨⟨ns,rfl,ln⟩,⟨o,rfl⟩,rfl⟩ nu hnu
 have ln:ns.length=n:=by omega
 have w0:=zK hnu (HO.lst (ns.map V.int))
 have eN:=zH (H:=H') (a:=nu) (o:=HO.lst (ns.map V.int))
 generalize upd H' nu (HO.lst (ns.map V.int))=H0 at w0 eN |-
 have z0:=zC.refl H0
 refine ⟨_,rfl,(by show 1<=sizeLine; decide),λa1 ha1=>?_⟩
 have p1:=zK ha1 (HO.lst [V.int 0])
 refine ⟨nu,a1,_,_,rfl,rfl,p1 _ _ eN,zH,xA (by rw [List.length_map,ln]; show n + 1<=900; omega),λb1 hb1=>?_⟩
 have p2:=p1.trans (zK hb1 (HO.lst (ns.map V.int++[V.int 0])))
 refine wo (C:=ac) (C2:=ae) (C3:=af) (N:=.lst (ns.map .int++[.int 0])) (A:=.int 1) (D:=.int 1) (j:=2) (.lst zH (wm (jX ns) (.cons (.int 0) .nil))) (.lst (by rw [List.length_append,List.length_map,ln]; show n + 1<=900; omega) (λa h=>by rcases List.mem_append.mp h with h | h; exact j6 _ a h; rw [List.mem_singleton.mp h]; exact .int _)) (by decide) (.int _) (.int _) λx1 G1 s1 R1=>⟨rfl,?_⟩
 have z1:=z0.trans (p2.trans s1)
 have B1:zY ac ad ae af n 2 G1 (.ref x1):=⟨_,R1,qG (XS (by rw [List.length_append,List.length_map,ln]; show ¬ ((n + 1:Nat):Int)=(n:Int); omega)),(by first | exact (by decide:1<=2) | exact (by decide:2<=2))⟩
 refine ⟨_,rfl,_,rfl,nu,_,rfl,zP.of (z1 _ _ eN),λb2 hb2=>?_⟩
 rw [kT,<- List.map_drop]
 have p3:=zK hb2 (HO.lst ((ns.drop 1).map V.int))
 refine wo (C:=ac) (C2:=ae) (C3:=af) (N:=yC (ns.drop 1)) (A:=.int 1) (D:=.int 1) (j:=2) (wR zH) (wS (by rw [List.length_drop]; omega)) (by decide) (.int _) (.int _) λx2 G2 s2 R2=>⟨rfl,?_⟩
 have z2:=z1.trans (p3.trans s2)
 have B1:=B1.same (p3.trans s2)
 have B2:zY ac ad ae af n 2 G2 (.ref x2):=⟨_,R2,qG (XS (by rw [List.length_map,List.length_drop]; omega)),(by first | exact (by decide:1<=2) | exact (by decide:2<=2))⟩
 refine ⟨_,rfl,nu,_,rfl,.inl ⟨zP.of (z2 _ _ eN),λb3 hb3=>?_⟩⟩
 have p4:=zK hb3 (HO.tup (ns.map V.int))
 refine wo (C:=ac) (C2:=ae) (C3:=af) (N:=yQ ns) (A:=.int 1) (D:=.int 1) (j:=2) (vH zH) (vI (by omega)) (by decide) (.int _) (.int _) λx3 G3 s3 R3=>⟨rfl,?_⟩
 have z3:=z2.trans (p4.trans s3)
 have B1:=B1.same (p4.trans s3)
 have B2:=B2.same (p4.trans s3)
 have B3:zY ac ad ae af n 2 G3 (.ref x3):=⟨_,R3,qG rfl,(by first | exact (by decide:1<=2) | exact (by decide:2<=2))⟩
 refine ⟨(by show 3<=sizeLine; decide),λl1 hl1=>?_⟩
 have wl1:=zK hl1 (HO.lst [V.ref x1,V.ref x2,V.ref x3])
 have al1:zN ac ad ae af n 2 G3 [V.ref x1,V.ref x2,V.ref x3]:=(zN.cons B1 (zN.cons B2 (zN.cons B3 zN.nil)))
 have al1:=al1.same wl1
 have el1:=zH (H:=G3) (a:=l1) (o:=HO.lst [V.ref x1,V.ref x2,V.ref x3])
 generalize upd G3 l1 (HO.lst [V.ref x1,V.ref x2,V.ref x3])=Gl1 at wl1 al1 el1 |-
 have z4:=z3.trans (wl1)
 obtain ⟨sS,xS,eS,aS,lS,hS⟩:∃ (sS:Addr) (xS:List V),Gl1 sS=some (.lst xS)/\zN ac ad ae af n 2 Gl1 xS/\xS.length=3/\sS=l1:=⟨l1,_,el1,al1,rfl,rfl⟩
 rw [<- hS]
 refine ⟨_,rfl,?_⟩
 refine ⟨_,rfl,?_⟩
 refine wo (C:=ac) (C2:=ae) (C3:=af) (N:=yC ns) (A:=.int 1) (D:=.int 0) (j:=2) (wR (z4 _ _ eN)) (wS (by omega)) (by decide) (.int _) (.int _) λx4 H4 s4 R4=>⟨rfl,?_⟩
 have z5:=z4.trans (s4)
 have eS:=(s4) _ _ eS
 have aS:=aS.same (s4)
 have B4:zY ac ad ae af n 2 H4 (.ref x4):=⟨_,R4,ZF rfl,(by first | exact (by decide:1<=2) | exact (by decide:2<=2))⟩
 refine ⟨_,rfl,_,_,rfl,rfl,_,rfl,_,_,rfl,rfl,⟨by decide,by decide,by decide⟩,_,_,rfl,rfl,(show (10:Int) ^ (20:Int).toNat≠0 by decide),_,_,rfl,rfl,?_⟩
 refine wo (C:=ac) (C2:=ae) (C3:=af) (N:=yC ns) (A:=.int 1) (D:=.int (0 - 1 - c.fmod (10 ^ (20:Int).toNat))) (j:=2) (wR (z5 _ _ eN)) (wS (by omega)) (by decide) (.int _) (.int _) λx5 H5 s5 R5=>⟨rfl,?_⟩
 have z6:=z5.trans (s5)
 have B4:=B4.same (s5)
 have eS:=(s5) _ _ eS
 have aS:=aS.same (s5)
 have B5:zY ac ad ae af n 2 H5 (.ref x5):=⟨_,R5,ZF (decide_eq_false (by have:=Int.fmod_nonneg_of_pos c (show (0:Int) < 10 ^ (20:Int).toNat by decide); omega)),(by first | exact (by decide:1<=2) | exact (by decide:2<=2))⟩
 refine ⟨(by show 2<=sizeLine; decide),λl2 hl2=>?_⟩
 have wl2:=zK hl2 (HO.lst [V.ref x4,V.ref x5])
 have al2:zN ac ad ae af n 2 H5 [V.ref x4,V.ref x5]:=(zN.cons B4 (zN.cons B5 zN.nil))
 have al2:=al2.same wl2
 have el2:=zH (H:=H5) (a:=l2) (o:=HO.lst [V.ref x4,V.ref x5])
 have z7:=z6.trans (wl2)
 have eS:=(wl2) _ _ eS
 have aS:=aS.same (wl2)
 refine ⟨sS,l2,_,_,rfl,rfl,eS,el2,xA (by rw [lS]; show 5<=900; decide),λcl2 hcl2=>?_⟩
 have vl2:=zK hcl2 (HO.lst (xS++[V.ref x4,V.ref x5]))
 have bl2:=(aS.app al2).same vl2
 have kl2:(xS++[V.ref x4,V.ref x5]).length=5:=by rw [List.length_append,lS]; rfl
 have fl2:=zH (H:=upd H5 l2 (HO.lst [V.ref x4,V.ref x5])) (a:=cl2) (o:=HO.lst (xS++[V.ref x4,V.ref x5]))
 generalize upd (upd H5 l2 (HO.lst [V.ref x4,V.ref x5])) cl2 (HO.lst (xS++[V.ref x4,V.ref x5]))=Gl2 at vl2 bl2 fl2 |-
 have z8:=z7.trans (vl2)
 have eS:=(vl2) _ _ eS
 have aS:=aS.same (vl2)
 clear eS aS
 obtain ⟨sS,xS,eS,aS,lS,hS⟩:∃ (sS:Addr) (xS:List V),Gl2 sS=some (.lst xS)/\zN ac ad ae af n 2 Gl2 xS/\xS.length=5/\sS=cl2:=⟨cl2,_,fl2,bl2,kl2,rfl⟩
 rw [<- hS]
 refine ⟨_,rfl,?_⟩
 refine ⟨_,rfl,?_⟩
 refine wo (C:=ac) (C2:=ae) (C3:=af) (N:=yC ns) (A:=.non) (D:=.int 1) (j:=2) (wR (z8 _ _ eN)) (wS (by omega)) (by decide) .non (.int _) λx6 H6 s6 R6=>⟨rfl,?_⟩
 have z9:=z8.trans (s6)
 have eS:=(s6) _ _ eS
 have aS:=aS.same (s6)
 have B6:zY ac ad ae af n 2 H6 (.ref x6):=⟨_,R6,XN rfl,(by first | exact (by decide:1<=2) | exact (by decide:2<=2))⟩
 refine ⟨(by show 1<=sizeLine; decide),λl3 hl3=>?_⟩
 have wl3:=zK hl3 (HO.lst [V.ref x6])
 have al3:zN ac ad ae af n 2 H6 [V.ref x6]:=(zN.cons B6 zN.nil)
 have al3:=al3.same wl3
 have el3:=zH (H:=H6) (a:=l3) (o:=HO.lst [V.ref x6])
 have z10:=z9.trans (wl3)
 have eS:=(wl3) _ _ eS
 have aS:=aS.same (wl3)
 refine ⟨sS,l3,_,_,rfl,rfl,eS,el3,xA (by rw [lS]; show 6<=900; decide),λcl3 hcl3=>?_⟩
 have vl3:=zK hcl3 (HO.lst (xS++[V.ref x6]))
 have bl3:=(aS.app al3).same vl3
 have kl3:(xS++[V.ref x6]).length=6:=by rw [List.length_append,lS]; rfl
 have fl3:=zH (H:=upd H6 l3 (HO.lst [V.ref x6])) (a:=cl3) (o:=HO.lst (xS++[V.ref x6]))
 generalize upd (upd H6 l3 (HO.lst [V.ref x6])) cl3 (HO.lst (xS++[V.ref x6]))=Gl3 at vl3 bl3 fl3 |-
 have z11:=z10.trans (vl3)
 have eS:=(vl3) _ _ eS
 have aS:=aS.same (vl3)
 clear eS aS
 obtain ⟨sS,xS,eS,aS,lS,hS⟩:∃ (sS:Addr) (xS:List V),Gl3 sS=some (.lst xS)/\zN ac ad ae af n 2 Gl3 xS/\xS.length=6/\sS=cl3:=⟨cl3,_,fl3,bl3,kl3,rfl⟩
 rw [<- hS]
 refine ⟨_,rfl,?_⟩
 refine ⟨_,rfl,?_⟩
 refine wo (C:=ac) (C2:=ae) (C3:=af) (N:=yC ns) (A:=.bool true) (D:=.int 1) (j:=2) (wR (z11 _ _ eN)) (wS (by omega)) (by decide) (.bool _) (.int _) λx7 H7 s7 R7=>⟨rfl,?_⟩
 have z12:=z11.trans (s7)
 have eS:=(s7) _ _ eS
 have aS:=aS.same (s7)
 have B7:zY ac ad ae af n 2 H7 (.ref x7):=⟨_,R7,XN rfl,(by first | exact (by decide:1<=2) | exact (by decide:2<=2))⟩
 refine ⟨_,rfl,?_⟩
 refine wo (C:=ac) (C2:=ae) (C3:=af) (N:=yC ns) (A:=.int 1) (D:=.bool true) (j:=2) (wR (z12 _ _ eN)) (wS (by omega)) (by decide) (.int _) (.bool _) λx8 H8 s8 R8=>⟨rfl,?_⟩
 have z13:=z12.trans (s8)
 have B7:=B7.same (s8)
 have eS:=(s8) _ _ eS
 have aS:=aS.same (s8)
 have B8:zY ac ad ae af n 2 H8 (.ref x8):=⟨_,R8,ZF rfl,(by first | exact (by decide:1<=2) | exact (by decide:2<=2))⟩
 refine ⟨(by show 2<=sizeLine; decide),λl4 hl4=>?_⟩
 have wl4:=zK hl4 (HO.lst [V.ref x7,V.ref x8])
 have al4:zN ac ad ae af n 2 H8 [V.ref x7,V.ref x8]:=(zN.cons B7 (zN.cons B8 zN.nil))
 have al4:=al4.same wl4
 have el4:=zH (H:=H8) (a:=l4) (o:=HO.lst [V.ref x7,V.ref x8])
 have z14:=z13.trans (wl4)
 have eS:=(wl4) _ _ eS
 have aS:=aS.same (wl4)
 refine ⟨sS,l4,_,_,rfl,rfl,eS,el4,xA (by rw [lS]; show 8<=900; decide),λcl4 hcl4=>?_⟩
 have vl4:=zK hcl4 (HO.lst (xS++[V.ref x7,V.ref x8]))
 have bl4:=(aS.app al4).same vl4
 have kl4:(xS++[V.ref x7,V.ref x8]).length=8:=by rw [List.length_append,lS]; rfl
 have fl4:=zH (H:=upd H8 l4 (HO.lst [V.ref x7,V.ref x8])) (a:=cl4) (o:=HO.lst (xS++[V.ref x7,V.ref x8]))
 generalize upd (upd H8 l4 (HO.lst [V.ref x7,V.ref x8])) cl4 (HO.lst (xS++[V.ref x7,V.ref x8]))=Gl4 at vl4 bl4 fl4 |-
 have z15:=z14.trans (vl4)
 have eS:=(vl4) _ _ eS
 have aS:=aS.same (vl4)
 clear eS aS
 obtain ⟨sS,xS,eS,aS,lS,hS⟩:∃ (sS:Addr) (xS:List V),Gl4 sS=some (.lst xS)/\zN ac ad ae af n 2 Gl4 xS/\xS.length=8/\sS=cl4:=⟨cl4,_,fl4,bl4,kl4,rfl⟩
 rw [<- hS]
 refine ⟨_,rfl,?_⟩
 refine ⟨_,rfl,?_⟩
 refine wo (C:=ac) (C2:=ae) (C3:=af) (N:=yC ns) (A:=.int 1) (D:=.non) (j:=2) (wR (z15 _ _ eN)) (wS (by omega)) (by decide) (.int _) .non λx9 H9 s9 R9=>⟨rfl,?_⟩
 have z16:=z15.trans (s9)
 have eS:=(s9) _ _ eS
 have aS:=aS.same (s9)
 have B9:zY ac ad ae af n 2 H9 (.ref x9):=⟨_,R9,ZF rfl,(by first | exact (by decide:1<=2) | exact (by decide:2<=2))⟩
 have Bv10:zY ac ad ae af n 2 H9 V.non:=⟨.non,rfl,rfl,(by first | exact (by decide:1<=2) | exact (by decide:2<=2))⟩
 have Bv11:zY ac ad ae af n 2 H9 (V.int 5):=⟨.num 5,rfl,rfl,(by first | exact (by decide:1<=2) | exact (by decide:2<=2))⟩
 refine ⟨_,rfl,?_⟩
 have Bnu:zY ac ad ae af n 2 H9 (V.ref nu):=⟨.lst,⟨nu,_,rfl,z16 _ _ eN⟩,rfl,(by first | exact (by decide:1<=2) | exact (by decide:2<=2))⟩
 refine ⟨(by show 4<=sizeLine; decide),λl5 hl5=>?_⟩
 have wl5:=zK hl5 (HO.lst [V.ref x9,V.non,(V.int 5),(V.ref nu)])
 have al5:zN ac ad ae af n 2 H9 [V.ref x9,V.non,(V.int 5),(V.ref nu)]:=(zN.cons B9 (zN.cons Bv10 (zN.cons Bv11 (zN.cons Bnu zN.nil))))
 have al5:=al5.same wl5
 have el5:=zH (H:=H9) (a:=l5) (o:=HO.lst [V.ref x9,V.non,(V.int 5),(V.ref nu)])
 have z17:=z16.trans (wl5)
 have eS:=(wl5) _ _ eS
 have aS:=aS.same (wl5)
 refine ⟨sS,l5,_,_,rfl,rfl,eS,el5,xA (by rw [lS]; show 12<=900; decide),λcl5 hcl5=>?_⟩
 have vl5:=zK hcl5 (HO.lst (xS++[V.ref x9,V.non,(V.int 5),(V.ref nu)]))
 have bl5:=(aS.app al5).same vl5
 have kl5:(xS++[V.ref x9,V.non,(V.int 5),(V.ref nu)]).length=12:=by rw [List.length_append,lS]; rfl
 have fl5:=zH (H:=upd H9 l5 (HO.lst [V.ref x9,V.non,(V.int 5),(V.ref nu)])) (a:=cl5) (o:=HO.lst (xS++[V.ref x9,V.non,(V.int 5),(V.ref nu)]))
 generalize upd (upd H9 l5 (HO.lst [V.ref x9,V.non,(V.int 5),(V.ref nu)])) cl5 (HO.lst (xS++[V.ref x9,V.non,(V.int 5),(V.ref nu)]))=Gl5 at vl5 bl5 fl5 |-
 have z18:=z17.trans (vl5)
 have eS:=(vl5) _ _ eS
 have aS:=aS.same (vl5)
 clear eS aS
 obtain ⟨sS,xS,eS,aS,lS,hS⟩:∃ (sS:Addr) (xS:List V),Gl5 sS=some (.lst xS)/\zN ac ad ae af n 2 Gl5 xS/\xS.length=12/\sS=cl5:=⟨cl5,_,fl5,bl5,kl5,rfl⟩
 rw [<- hS]
 refine ⟨_,rfl,?_⟩
 refine ⟨_,rfl,_,rfl,nu,_,rfl,zP.of (z18 _ _ eN),λb4 hb4=>?_⟩
 rw [kT,<- List.map_drop]
 have p5:=zK hb4 (HO.lst ((ns.drop 1).map V.int))
 refine ⟨(by show 1<=sizeLine; decide),λb5 hb5=>?_⟩
 have p6:=zK hb5 (HO.lst [V.bl false])
 refine ⟨b4,b5,_,_,rfl,rfl,p6 _ _ zH,zH,xA (by rw [List.length_map,List.length_drop,ln]; show n - 1 + 1<=900; omega),λb6 hb6=>?_⟩
 have p7:=p5.trans (p6.trans (zK hb6 (HO.lst ((ns.drop 1).map V.int++[V.bl false]))))
 refine wo (C:=ac) (C2:=ae) (C3:=af) (N:=.lst ((ns.drop 1).map .int++[.bool false])) (A:=.int 1) (D:=.int 1) (j:=2) (.lst zH (wm (jX (ns.drop 1)) (.cons (.bool false) .nil))) (.lst (by rw [List.length_append,List.length_map,List.length_drop,ln]; show n - 1 + 1<=900; omega) (λa h=>by rcases List.mem_append.mp h with h | h; exact j6 _ a h; rw [List.mem_singleton.mp h]; exact .bool _)) (by decide) (.int _) (.int _) λx10 H10 s10 R10=>⟨rfl,?_⟩
 have z19:=z18.trans (p7.trans s10)
 have eS:=(p7.trans s10) _ _ eS
 have aS:=aS.same (p7.trans s10)
 have B10:zY ac ad ae af n 2 H10 (.ref x10):=⟨_,R10,qG (Kx rfl),(by first | exact (by decide:1<=2) | exact (by decide:2<=2))⟩
 refine wo (vn:=.non) (C:=ac) (C2:=ae) (C3:=af) (N:=.non) (A:=.int 1) (D:=.int 1) (j:=1) (.non) .non (by decide) (.int _) (.int _) λx11 H11 s11 R11=>⟨rfl,?_⟩
 have z20:=z19.trans (s11)
 have B10:=B10.same (s11)
 have eS:=(s11) _ _ eS
 have aS:=aS.same (s11)
 have B11:zY ac ad ae af n 2 H11 (.ref x11):=⟨_,R11,qG rfl,(by first | exact (by decide:1<=2) | exact (by decide:2<=2))⟩
 refine ⟨_,rfl,?_⟩
 refine wo (C:=ac) (C2:=ae) (C3:=af) (N:=yC ns) (A:=.str (Str.ofString "1")) (D:=.int 1) (j:=2) (wR (z20 _ _ eN)) (wS (by omega)) (by decide) (.str _) (.int _) λx12 H12 s12 R12=>⟨rfl,?_⟩
 have z21:=z20.trans (s12)
 have B10:=B10.same (s12)
 have B11:=B11.same (s12)
 have eS:=(s12) _ _ eS
 have aS:=aS.same (s12)
 have B12:zY ac ad ae af n 2 H12 (.ref x12):=⟨_,R12,XN rfl,(by first | exact (by decide:1<=2) | exact (by decide:2<=2))⟩
 have Bv16:zY ac ad ae af n 2 H12 (V.str (Str.ofString "rule")):=⟨.txt (Str.ofString "rule"),rfl,rfl,(by first | exact (by decide:1<=2) | exact (by decide:2<=2))⟩
 refine ⟨(by show 4<=sizeLine; decide),λl6 hl6=>?_⟩
 have wl6:=zK hl6 (HO.lst [V.ref x10,V.ref x11,V.ref x12,(V.str (Str.ofString "rule"))])
 have al6:zN ac ad ae af n 2 H12 [V.ref x10,V.ref x11,V.ref x12,(V.str (Str.ofString "rule"))]:=(zN.cons B10 (zN.cons B11 (zN.cons B12 (zN.cons Bv16 zN.nil))))
 have al6:=al6.same wl6
 have el6:=zH (H:=H12) (a:=l6) (o:=HO.lst [V.ref x10,V.ref x11,V.ref x12,(V.str (Str.ofString "rule"))])
 have z22:=z21.trans (wl6)
 have eS:=(wl6) _ _ eS
 have aS:=aS.same (wl6)
 refine ⟨sS,l6,_,_,rfl,rfl,eS,el6,xA (by rw [lS]; show 16<=900; decide),λcl6 hcl6=>?_⟩
 have vl6:=zK hcl6 (HO.lst (xS++[V.ref x10,V.ref x11,V.ref x12,(V.str (Str.ofString "rule"))]))
 have bl6:=(aS.app al6).same vl6
 have kl6:(xS++[V.ref x10,V.ref x11,V.ref x12,(V.str (Str.ofString "rule"))]).length=16:=by rw [List.length_append,lS]; rfl
 have fl6:=zH (H:=upd H12 l6 (HO.lst [V.ref x10,V.ref x11,V.ref x12,(V.str (Str.ofString "rule"))])) (a:=cl6) (o:=HO.lst (xS++[V.ref x10,V.ref x11,V.ref x12,(V.str (Str.ofString "rule"))]))
 generalize upd (upd H12 l6 (HO.lst [V.ref x10,V.ref x11,V.ref x12,(V.str (Str.ofString "rule"))])) cl6 (HO.lst (xS++[V.ref x10,V.ref x11,V.ref x12,(V.str (Str.ofString "rule"))]))=Gl6 at vl6 bl6 fl6 |-
 have z23:=z22.trans (vl6)
 have eS:=(vl6) _ _ eS
 have aS:=aS.same (vl6)
 clear eS aS
 obtain ⟨sS,xS,eS,aS,lS,hS⟩:∃ (sS:Addr) (xS:List V),Gl6 sS=some (.lst xS)/\zN ac ad ae af n 2 Gl6 xS/\xS.length=16/\sS=cl6:=⟨cl6,_,fl6,bl6,kl6,rfl⟩
 rw [<- hS]
 refine ⟨_,rfl,?_⟩
 refine uV (C:=ac) (C1:=ad) (C3:=af) (u:=.non) (r:=.non) (lo:=.int 0) (hi:=.int 1) rfl (.int _) (.int _) λx17 H17 s17 R17=>⟨rfl,?_⟩
 have z24:=z23.trans (s17)
 have eS:=(s17) _ _ eS
 have aS:=aS.same (s17)
 have B17:zY ac ad ae af n 2 H17 (.ref x17):=⟨_,R17,XO rfl,(by first | exact (by decide:1<=2) | exact (by decide:2<=2))⟩
 refine ⟨(by show 1<=sizeLine; decide),λt0 ht0=>?_⟩
 have p8:=zK ht0 (HO.tup [V.int 0])
 refine ⟨_,rfl,_,_,rfl,rfl,t0,_,_,rfl,rfl,zn.of zH,(by nofun),(by omega),(by omega),(by show 1<=1000; decide),λt1 ht1=>?_⟩
 have er:(List.replicate ((n:Int) + 1).toNat [V.int 0]).flatten=(List.replicate (n + 1) (0:Int)).map V.int:=by rw [show ((n:Int) + 1).toNat=n + 1 by omega]; exact XT _
 rw [er]
 have p9:=p8.trans (zK ht1 (HO.tup ((List.replicate (n + 1) (0:Int)).map V.int)))
 have eR:=zH (H:=upd H17 t0 (HO.tup [V.int 0])) (a:=t1) (o:=HO.tup ((List.replicate (n + 1) (0:Int)).map V.int))
 generalize upd (upd H17 t0 (HO.tup [V.int 0])) t1 (HO.tup ((List.replicate (n + 1) (0:Int)).map V.int))=HR at p9 eR |-
 have z25:=z24.trans (p9)
 have B17:=B17.same (p9)
 have eS:=(p9) _ _ eS
 have aS:=aS.same (p9)
 refine ⟨_,rfl,?_⟩
 refine wo (C:=ac) (C2:=ae) (C3:=af) (N:=yC ns) (A:=.int 1) (D:=.int 1) (j:=2) (wR (z25 _ _ eN)) (wS (by omega)) (by decide) (.int _) (.int _) λx18 H18 s18 R18=>⟨rfl,?_⟩
 have z26:=z25.trans (s18)
 have B17:=B17.same (s18)
 have eS:=(s18) _ _ eS
 have aS:=aS.same (s18)
 refine vZ (C:=ac) (C1:=ad) (C2:=ae) (u:=.non) (a:=.non) (R:=yQ (List.replicate (n + 1) 0)) (j:=2) (vH (s18 _ _ eR)) (vI (by rw [List.length_replicate]; omega)) (by decide) rfl R18 λx19 H19 s19 R19=>⟨rfl,?_⟩
 have z27:=z26.trans (s19)
 have B17:=B17.same (s19)
 have eS:=(s19) _ _ eS
 have aS:=aS.same (s19)
 have B19:zY ac ad ae af n 2 H19 (.ref x19):=⟨_,R19,XQ rfl,(by first | exact (by decide:1<=2) | exact (by decide:2<=2))⟩
 refine ⟨(by show 2<=sizeLine; decide),λl7 hl7=>?_⟩
 have wl7:=zK hl7 (HO.lst [V.ref x17,V.ref x19])
 have al7:zN ac ad ae af n 2 H19 [V.ref x17,V.ref x19]:=(zN.cons B17 (zN.cons B19 zN.nil))
 have al7:=al7.same wl7
 have el7:=zH (H:=H19) (a:=l7) (o:=HO.lst [V.ref x17,V.ref x19])
 have z28:=z27.trans (wl7)
 have eS:=(wl7) _ _ eS
 have aS:=aS.same (wl7)
 refine ⟨sS,l7,_,_,rfl,rfl,eS,el7,xA (by rw [lS]; show 18<=900; decide),λcl7 hcl7=>?_⟩
 have vl7:=zK hcl7 (HO.lst (xS++[V.ref x17,V.ref x19]))
 have bl7:=(aS.app al7).same vl7
 have kl7:(xS++[V.ref x17,V.ref x19]).length=18:=by rw [List.length_append,lS]; rfl
 have fl7:=zH (H:=upd H19 l7 (HO.lst [V.ref x17,V.ref x19])) (a:=cl7) (o:=HO.lst (xS++[V.ref x17,V.ref x19]))
 generalize upd (upd H19 l7 (HO.lst [V.ref x17,V.ref x19])) cl7 (HO.lst (xS++[V.ref x17,V.ref x19]))=Gl7 at vl7 bl7 fl7 |-
 have z29:=z28.trans (vl7)
 have eS:=(vl7) _ _ eS
 have aS:=aS.same (vl7)
 clear eS aS
 obtain ⟨sS,xS,eS,aS,lS,hS⟩:∃ (sS:Addr) (xS:List V),Gl7 sS=some (.lst xS)/\zN ac ad ae af n 2 Gl7 xS/\xS.length=18/\sS=cl7:=⟨cl7,_,fl7,bl7,kl7,rfl⟩
 rw [<- hS]
 have k0:=Int.fmod_nonneg_of_pos c (show (0:Int) < 18 by decide)
 have k1:=Int.fmod_lt_of_pos c (show (0:Int) < 18 by decide)
 obtain ⟨v,hv,bv⟩:=aS.at k0 (by rw [lS]; exact k1)
 exact ⟨_,rfl,_,_,rfl,rfl,(show (18:Int)≠0 by decide),sS,_,_,_,rfl,rfl,zP.of eS,hv,q v _ (w0.trans z29) bv⟩
theorem K5 {k:Nat} {f:Addr} {fd:FuncData} (F:yA K "_law_no_part" "_law_no_part" ZH f fd) (B:Bl mg) (aA:xk P w K mg base ae ["self","rule","low","high"] k (jY ae)) (ax:xk P w K mg base af ["self","row","rule","other"] k (jZ ac af)):zL P w K mg base zj (k + 1 + 1) f fd ["_law_cell","_law_rule","_law_many"] (XM ac ad ae af):=by
 refine F.ok je (λvs H Q E h=>?_) (λcdv A outer s H vs Q E hr h=>?_)
 ·obtain ⟨_,_,_,_,_,_,rfl,_⟩:=h
  rfl
 obtain ⟨c,v,ra,n,d,_,rfl,rfl,hv,hd,n1,n3,q⟩:=h
 refine ⟨_,(zS (zp (i:=3) je.nd rfl (Or.inl rfl) (vC wu rfl B.tuple_ uK (zA (xY (own:=["_law_k"]) (caps:=[(0,"_law_cell")]) (wD (S:=zW ZH) (N:=["_law_cell","_law_rule","_law_many","_law_row","_law_some"]) rfl (by decide +kernel) rfl ⟨_,rfl⟩ rfl (by decide +kernel) (by decide +kernel)) rfl (vg rfl B.range_ (zA (zR (yF xi) (zB 2) zJ) zE)) (λ_ _ _ _=>zu (i:=0) (show (["_law_k","_law_cell"]:List Str).Nodup by decide +kernel) rfl (Or.inl rfl)) (λ_ _ _ _=>(zR (yF wj) (zR (ji yx) (zB 1) zJ) zJ))) zE)))
  (zS (zp (i:=4) je.nd rfl (Or.inl rfl) (yD (zA (yN aA al hr rfl (zA (zB 1) (zA zJ (zA zJ zE)))) (zA (yN aA al hr rfl (zA (zB 1) (zA vM (zA zJ zE)))) (zA (yN aA al hr rfl (zA (zB 1) (zA zJ (zA xK zE)))) zE)))))
  (zS (zp (i:=4) je.nd rfl (Or.inl rfl) (zR zk (zB 4) (yD (zA (yN aA al hr rfl (zA (zB 1) (zA zJ (zA xV zE)))) (zA (yN aA al hr rfl (zA (yD (zA (zB 1) zE)) (zA zJ (zA zJ zE)))) zE)))))
  (zS (zp (i:=4) je.nd rfl (Or.inl rfl) (zR zk (zB 4) (yD (zA (yN ax aj hr rfl (zA (zR Wp (zB 3) (wY (zA zJ zE))) (zA (zB 1) (zA (zB 1) zE)))) (zA (yN ax aj hr rfl (zA (uZ Wq (zB 3) (uY zJ) uX) (zA (zB 1) (zA (zB 1) zE)))) (zA (yN ax aj hr rfl (zA (vC qe rfl B.list_ vP (zA (zB 3) zE)) (zA (zB 1) (zA (zB 1) zE)))) zE))))))
  (zS (zp (i:=4) je.nd rfl (Or.inl rfl) (zR zk (zB 4) (yD (zA (yN ax aj hr rfl (zA vM (zA (zB 1) (zA (zB 1) zE)))) (zA (yN ax aj hr rfl (zA (zR Wp (uZ Wq (zB 3) (uY zJ) uX) (wY (zA xK zE))) (zA (zB 1) (zA (zB 1) zE)))) (zA (yN ax aj hr rfl (zA (zB 3) (zA (zB 1) (zA vM zE)))) zE))))))
  (zS (zp (i:=4) je.nd rfl (Or.inl rfl) (zR zk (zB 4) (yD (zA (yN ax aj hr rfl (zA (zB 3) (zA zJ (zA (zB 1) zE)))) (zA (yN ax aj hr rfl (zA (zB 3) (zA (zB 1) (zA (yD (zA (zB 1) zE)) zE)))) (zA (yN aA al hr rfl (zA (zB 1) (zA zJ (zA (zR (yF wj) zJ (zR (ji yx) (zB 0) (zR (ji kA) zJ zJ))) zE)))) zE))))))
  (zX (zo (wK vF (zB 4) (zR (ji yx) (zB 0) zJ) (λ_ _=>rfl)))))))))),?_⟩
 try dsimp only [zM,Cx.nox,Cx.wish]
 have hd1:1<=d:=Nat.le_trans ra.dep_pos hd
 refine ⟨_,rfl,_,_,rfl,rfl,_,rfl,(by omega),(by omega),jo (lo:=0) (n:=((n:Int) + 1).toNat) (λi ys σ H'=>(∃ ns:List Int,ys=ns.map V.int/\ns.length=i)/\(∃ o,σ=[o,some (.int c)])/\H'=H)
  ⟨⟨[],rfl,rfl⟩,⟨none,rfl⟩,rfl⟩ (λi ys σ H' ⟨⟨ns,g1,g2⟩,_,_⟩=>by rw [g1,List.length_map,g2]; exact Nat.le_refl _) (xA (by omega)) ?_ ?_⟩
 ·rintro i ys σ H' hi ⟨⟨ns,rfl,l⟩,⟨o,rfl⟩,rfl⟩
  refine ⟨_,rfl,_,_,rfl,rfl,(show (7:Int)≠0 by decide),_,_,rfl,rfl,⟨ns++[c.fmod 7 - 3],?_,by rw [List.length_append,l]; rfl⟩,⟨_,rfl⟩,rfl⟩
  rw [List.map_append]
  rfl
 rintro ys σ H' ⟨⟨ns,rfl,ln⟩,⟨o,rfl⟩,rfl⟩ nu hnu
 have ln:ns.length=n + 1:=by omega
 refine ⟨nu,_,rfl,.inl ⟨zP.of zH,λr hr=>?_⟩⟩
 have w0:=(zK hnu (HO.lst (ns.map V.int))).trans (zK hr (HO.tup (ns.map V.int)))
 have eR:=zH (H:=upd H' nu (HO.lst (ns.map V.int))) (a:=r) (o:=HO.tup (ns.map V.int))
 generalize upd (upd H' nu (HO.lst (ns.map V.int))) r (HO.tup (ns.map V.int))=H0 at w0 eR |-
 have hv:=hv.same w0
 have z0:=zC.refl H0
 refine ⟨_,rfl,?_⟩
 refine uV (C:=ac) (C1:=ad) (C3:=af) (u:=v) (r:=ra) (lo:=.int 1) (hi:=.int 0) (hv.same z0) (.int _) (.int _) λx1 H1 s1 R1=>⟨rfl,?_⟩
 have z1:=z0.trans (s1)
 have B1:zY ac ad ae af n (d + 1) H1 (.ref x1):=⟨_,R1,gl rfl,(Nat.succ_le_succ hd)⟩
 refine ⟨_,rfl,?_⟩
 refine uV (C:=ac) (C1:=ad) (C3:=af) (u:=v) (r:=ra) (lo:=.non) (hi:=.int 1) (hv.same z1) .non (.int _) λx2 H2 s2 R2=>⟨rfl,?_⟩
 have z2:=z1.trans (s2)
 have B1:=B1.same (s2)
 have B2:zY ac ad ae af n (d + 1) H2 (.ref x2):=⟨_,R2,gl rfl,(Nat.succ_le_succ hd)⟩
 refine ⟨_,rfl,?_⟩
 refine uV (C:=ac) (C1:=ad) (C3:=af) (u:=v) (r:=ra) (lo:=.int 0) (hi:=.bool true) (hv.same z2) (.int _) (.bool _) λx3 H3 s3 R3=>⟨rfl,?_⟩
 have z3:=z2.trans (s3)
 have B1:=B1.same (s3)
 have B2:=B2.same (s3)
 have B3:zY ac ad ae af n (d + 1) H3 (.ref x3):=⟨_,R3,gl rfl,(Nat.succ_le_succ hd)⟩
 refine ⟨(by show 3<=sizeLine; decide),λl1 hl1=>?_⟩
 have wl1:=zK hl1 (HO.lst [V.ref x1,V.ref x2,V.ref x3])
 have al1:zN ac ad ae af n (d + 1) H3 [V.ref x1,V.ref x2,V.ref x3]:=(zN.cons B1 (zN.cons B2 (zN.cons B3 zN.nil)))
 have al1:=al1.same wl1
 have el1:=zH (H:=H3) (a:=l1) (o:=HO.lst [V.ref x1,V.ref x2,V.ref x3])
 generalize upd H3 l1 (HO.lst [V.ref x1,V.ref x2,V.ref x3])=Gl1 at wl1 al1 el1 |-
 have z4:=z3.trans (wl1)
 obtain ⟨sS,xS,eS,aS,lS,hS⟩:∃ (sS:Addr) (xS:List V),Gl1 sS=some (.lst xS)/\zN ac ad ae af n (d + 1) Gl1 xS/\xS.length=3/\sS=l1:=⟨l1,_,el1,al1,rfl,rfl⟩
 rw [<- hS]
 refine ⟨_,rfl,?_⟩
 refine ⟨_,rfl,?_⟩
 refine uV (C:=ac) (C1:=ad) (C3:=af) (u:=v) (r:=ra) (lo:=.int 0) (hi:=.str (Str.ofString "1")) (hv.same z4) (.int _) (.str _) λx4 H4 s4 R4=>⟨rfl,?_⟩
 have z5:=z4.trans (s4)
 have eS:=(s4) _ _ eS
 have aS:=aS.same (s4)
 have B4:zY ac ad ae af n (d + 1) H4 (.ref x4):=⟨_,R4,gl rfl,(Nat.succ_le_succ hd)⟩
 refine ⟨_,rfl,?_⟩
 refine ⟨(by show 1<=sizeLine; decide),λla hla=>?_⟩
 have pa:=zK hla (HO.lst [v])
 refine uV (C:=ac) (C1:=ad) (C3:=af) (u:=(.ref la)) (r:=.lst) (lo:=.int 0) (hi:=.int 1) ⟨la,_,rfl,zH⟩ (.int _) (.int _) λx5 H5 s5 R5=>⟨rfl,?_⟩
 have z6:=z5.trans (pa.trans s5)
 have B4:=B4.same (pa.trans s5)
 have eS:=(pa.trans s5) _ _ eS
 have aS:=aS.same (pa.trans s5)
 have B5:zY ac ad ae af n (d + 1) H5 (.ref x5):=⟨_,R5,XO rfl,(Nat.succ_le_succ hd1)⟩
 refine ⟨(by show 2<=sizeLine; decide),λl2 hl2=>?_⟩
 have wl2:=zK hl2 (HO.lst [V.ref x4,V.ref x5])
 have al2:zN ac ad ae af n (d + 1) H5 [V.ref x4,V.ref x5]:=(zN.cons B4 (zN.cons B5 zN.nil))
 have al2:=al2.same wl2
 have el2:=zH (H:=H5) (a:=l2) (o:=HO.lst [V.ref x4,V.ref x5])
 have z7:=z6.trans (wl2)
 have eS:=(wl2) _ _ eS
 have aS:=aS.same (wl2)
 refine ⟨sS,l2,_,_,rfl,rfl,eS,el2,xA (by rw [lS]; show 5<=900; decide),λcl2 hcl2=>?_⟩
 have vl2:=zK hcl2 (HO.lst (xS++[V.ref x4,V.ref x5]))
 have bl2:=(aS.app al2).same vl2
 have kl2:(xS++[V.ref x4,V.ref x5]).length=5:=by rw [List.length_append,lS]; rfl
 have fl2:=zH (H:=upd H5 l2 (HO.lst [V.ref x4,V.ref x5])) (a:=cl2) (o:=HO.lst (xS++[V.ref x4,V.ref x5]))
 generalize upd (upd H5 l2 (HO.lst [V.ref x4,V.ref x5])) cl2 (HO.lst (xS++[V.ref x4,V.ref x5]))=Gl2 at vl2 bl2 fl2 |-
 have z8:=z7.trans (vl2)
 have eS:=(vl2) _ _ eS
 have aS:=aS.same (vl2)
 clear eS aS
 obtain ⟨sS,xS,eS,aS,lS,hS⟩:∃ (sS:Addr) (xS:List V),Gl2 sS=some (.lst xS)/\zN ac ad ae af n (d + 1) Gl2 xS/\xS.length=5/\sS=cl2:=⟨cl2,_,fl2,bl2,kl2,rfl⟩
 rw [<- hS]
 refine ⟨_,rfl,?_⟩
 refine ⟨_,rfl,(by show 1<=sizeLine; decide),λt1 ht1=>?_⟩
 have p1:=zK ht1 (HO.tup [V.int 0])
 refine ⟨r,t1,_,_,rfl,rfl,p1 _ _ (z8 _ _ eR),zH,xA (by rw [List.length_map,ln]; show n + 1 + 1<=900; omega),λp G s e=>?_⟩
 have p2:=p1.trans s
 refine ⟨_,rfl,_,rfl,?_⟩
 refine vZ (C:=ac) (C1:=ad) (C2:=ae) (vr:=(.ref p)) (u:=v) (w:=v) (R:=.tup (ns.map .int++[.int 0])) (a:=ra) (b:=ra) (j:=2) (.tup e (wm (jX ns) (.cons (.int 0) .nil))) (.tup (by rw [List.length_append,List.length_map,ln]; show n + 1 + 1<=900; omega) (λa h=>by rcases List.mem_append.mp h with h | h; exact j6 _ a h; rw [List.mem_singleton.mp h]; exact .int _)) (by decide) (hv.same (z8.trans p2)) (hv.same (z8.trans p2)) λx6 H6 s6 R6=>⟨rfl,?_⟩
 have z9:=z8.trans (p2.trans s6)
 have eS:=(p2.trans s6) _ _ eS
 have aS:=aS.same (p2.trans s6)
 have B6:zY ac ad ae af n (d + 1) H6 (.ref x6):=⟨_,R6,gm (UC (by rw [List.length_append,List.length_map,ln]; show ¬ ((n + 1 + 1:Nat):Int)=(n:Int) + 1; omega)),(Nat.succ_le_succ (Nat.max_le.mpr ⟨hd,hd⟩))⟩
 refine ⟨_,rfl,_,rfl,r,_,rfl,z9 _ _ eR,λp G s e=>?_⟩
 rw [kT,<- List.map_drop] at e
 refine ⟨_,rfl,_,rfl,?_⟩
 refine vZ (C:=ac) (C1:=ad) (C2:=ae) (vr:=(.ref p)) (u:=v) (w:=v) (R:=yQ (ns.drop 1)) (a:=ra) (b:=ra) (j:=2) (vH e) (vI (by rw [List.length_drop]; omega)) (by decide) (hv.same (z9.trans s)) (hv.same (z9.trans s)) λx7 H7 s7 R7=>⟨rfl,?_⟩
 have z10:=z9.trans (s.trans s7)
 have B6:=B6.same (s.trans s7)
 have eS:=(s.trans s7) _ _ eS
 have aS:=aS.same (s.trans s7)
 have B7:zY ac ad ae af n (d + 1) H7 (.ref x7):=⟨_,R7,gm (UC (by rw [List.length_map,List.length_drop]; omega)),(Nat.succ_le_succ (Nat.max_le.mpr ⟨hd,hd⟩))⟩
 refine ⟨_,rfl,r,_,rfl,.inr (zn.of (z10 _ _ eR)),λb3 hb3=>?_⟩
 have p4:=zK hb3 (HO.lst (ns.map V.int))
 refine ⟨_,rfl,_,rfl,?_⟩
 refine vZ (C:=ac) (C1:=ad) (C2:=ae) (vr:=(.ref b3)) (u:=v) (w:=v) (R:=yC ns) (a:=ra) (b:=ra) (j:=2) (wR zH) (wS (by omega)) (by decide) (hv.same (z10.trans p4)) (hv.same (z10.trans p4)) λx8 H8 s8 R8=>⟨rfl,?_⟩
 have z11:=z10.trans (p4.trans s8)
 have B6:=B6.same (p4.trans s8)
 have B7:=B7.same (p4.trans s8)
 have eS:=(p4.trans s8) _ _ eS
 have aS:=aS.same (p4.trans s8)
 have B8:zY ac ad ae af n (d + 1) H8 (.ref x8):=⟨_,R8,gm rfl,(Nat.succ_le_succ (Nat.max_le.mpr ⟨hd,hd⟩))⟩
 refine ⟨(by show 3<=sizeLine; decide),λl3 hl3=>?_⟩
 have wl3:=zK hl3 (HO.lst [V.ref x6,V.ref x7,V.ref x8])
 have al3:zN ac ad ae af n (d + 1) H8 [V.ref x6,V.ref x7,V.ref x8]:=(zN.cons B6 (zN.cons B7 (zN.cons B8 zN.nil)))
 have al3:=al3.same wl3
 have el3:=zH (H:=H8) (a:=l3) (o:=HO.lst [V.ref x6,V.ref x7,V.ref x8])
 have z12:=z11.trans (wl3)
 have eS:=(wl3) _ _ eS
 have aS:=aS.same (wl3)
 refine ⟨sS,l3,_,_,rfl,rfl,eS,el3,xA (by rw [lS]; show 8<=900; decide),λcl3 hcl3=>?_⟩
 have vl3:=zK hcl3 (HO.lst (xS++[V.ref x6,V.ref x7,V.ref x8]))
 have bl3:=(aS.app al3).same vl3
 have kl3:(xS++[V.ref x6,V.ref x7,V.ref x8]).length=8:=by rw [List.length_append,lS]; rfl
 have fl3:=zH (H:=upd H8 l3 (HO.lst [V.ref x6,V.ref x7,V.ref x8])) (a:=cl3) (o:=HO.lst (xS++[V.ref x6,V.ref x7,V.ref x8]))
 generalize upd (upd H8 l3 (HO.lst [V.ref x6,V.ref x7,V.ref x8])) cl3 (HO.lst (xS++[V.ref x6,V.ref x7,V.ref x8]))=Gl3 at vl3 bl3 fl3 |-
 have z13:=z12.trans (vl3)
 have eS:=(vl3) _ _ eS
 have aS:=aS.same (vl3)
 clear eS aS
 obtain ⟨sS,xS,eS,aS,lS,hS⟩:∃ (sS:Addr) (xS:List V),Gl3 sS=some (.lst xS)/\zN ac ad ae af n (d + 1) Gl3 xS/\xS.length=8/\sS=cl3:=⟨cl3,_,fl3,bl3,kl3,rfl⟩
 rw [<- hS]
 refine ⟨_,rfl,?_⟩
 refine ⟨_,rfl,_,rfl,?_⟩
 refine vZ (C:=ac) (C1:=ad) (C2:=ae) (vr:=.non) (u:=v) (w:=v) (R:=.non) (a:=ra) (b:=ra) (j:=2) .non .non (by decide) (hv.same z13) (hv.same z13) λx9 H9 s9 R9=>⟨rfl,?_⟩
 have z14:=z13.trans (s9)
 have eS:=(s9) _ _ eS
 have aS:=aS.same (s9)
 have B9:zY ac ad ae af n (d + 1) H9 (.ref x9):=⟨_,R9,gm rfl,(Nat.succ_le_succ (Nat.max_le.mpr ⟨hd,hd⟩))⟩
 refine ⟨_,rfl,_,rfl,r,_,rfl,z14 _ _ eR,λp G s e=>?_⟩
 rw [kT,<- List.map_drop] at e
 refine ⟨(by show 1<=sizeLine; decide),λt2 ht2=>?_⟩
 have p5:=zK ht2 (HO.tup [V.bl true])
 refine ⟨p,t2,_,_,rfl,rfl,p5 _ _ e,zH,xA (by rw [List.length_map,List.length_drop,ln]; show n + 1 - 1 + 1<=900; omega),λp G s2 e=>?_⟩
 have p6:=s.trans (p5.trans s2)
 refine ⟨_,rfl,_,rfl,?_⟩
 refine vZ (C:=ac) (C1:=ad) (C2:=ae) (vr:=(.ref p)) (u:=v) (w:=v) (R:=.tup ((ns.drop 1).map .int++[.bool true])) (a:=ra) (b:=ra) (j:=2) (.tup e (wm (jX (ns.drop 1)) (.cons (.bool true) .nil))) (.tup (by rw [List.length_append,List.length_map,List.length_drop,ln]; show n + 1 - 1 + 1<=900; omega) (λa h=>by rcases List.mem_append.mp h with h | h; exact j6 _ a h; rw [List.mem_singleton.mp h]; exact .bool _)) (by decide) (hv.same (z14.trans p6)) (hv.same (z14.trans p6)) λx10 H10 s10 R10=>⟨rfl,?_⟩
 have z15:=z14.trans (p6.trans s10)
 have B9:=B9.same (p6.trans s10)
 have eS:=(p6.trans s10) _ _ eS
 have aS:=aS.same (p6.trans s10)
 have B10:zY ac ad ae af n (d + 1) H10 (.ref x10):=⟨_,R10,gm (Ky rfl),(Nat.succ_le_succ (Nat.max_le.mpr ⟨hd,hd⟩))⟩
 refine ⟨_,rfl,_,rfl,?_⟩
 refine vZ (C:=ac) (C1:=ad) (C2:=ae) (vr:=(.ref r)) (u:=v) (w:=.non) (R:=yQ ns) (a:=ra) (b:=.non) (j:=2) (vH (z15 _ _ eR)) (vI (by omega)) (by decide) (hv.same z15) rfl λx11 H11 s11 R11=>⟨rfl,?_⟩
 have z16:=z15.trans (s11)
 have B9:=B9.same (s11)
 have B10:=B10.same (s11)
 have eS:=(s11) _ _ eS
 have aS:=aS.same (s11)
 have B11:zY ac ad ae af n (d + 1) H11 (.ref x11):=⟨_,R11,XR rfl,(Nat.succ_le_succ (Nat.max_le.mpr ⟨hd,hd1⟩))⟩
 refine ⟨(by show 3<=sizeLine; decide),λl4 hl4=>?_⟩
 have wl4:=zK hl4 (HO.lst [V.ref x9,V.ref x10,V.ref x11])
 have al4:zN ac ad ae af n (d + 1) H11 [V.ref x9,V.ref x10,V.ref x11]:=(zN.cons B9 (zN.cons B10 (zN.cons B11 zN.nil)))
 have al4:=al4.same wl4
 have el4:=zH (H:=H11) (a:=l4) (o:=HO.lst [V.ref x9,V.ref x10,V.ref x11])
 have z17:=z16.trans (wl4)
 have eS:=(wl4) _ _ eS
 have aS:=aS.same (wl4)
 refine ⟨sS,l4,_,_,rfl,rfl,eS,el4,xA (by rw [lS]; show 11<=900; decide),λcl4 hcl4=>?_⟩
 have vl4:=zK hcl4 (HO.lst (xS++[V.ref x9,V.ref x10,V.ref x11]))
 have bl4:=(aS.app al4).same vl4
 have kl4:(xS++[V.ref x9,V.ref x10,V.ref x11]).length=11:=by rw [List.length_append,lS]; rfl
 have fl4:=zH (H:=upd H11 l4 (HO.lst [V.ref x9,V.ref x10,V.ref x11])) (a:=cl4) (o:=HO.lst (xS++[V.ref x9,V.ref x10,V.ref x11]))
 generalize upd (upd H11 l4 (HO.lst [V.ref x9,V.ref x10,V.ref x11])) cl4 (HO.lst (xS++[V.ref x9,V.ref x10,V.ref x11]))=Gl4 at vl4 bl4 fl4 |-
 have z18:=z17.trans (vl4)
 have eS:=(vl4) _ _ eS
 have aS:=aS.same (vl4)
 clear eS aS
 obtain ⟨sS,xS,eS,aS,lS,hS⟩:∃ (sS:Addr) (xS:List V),Gl4 sS=some (.lst xS)/\zN ac ad ae af n (d + 1) Gl4 xS/\xS.length=11/\sS=cl4:=⟨cl4,_,fl4,bl4,kl4,rfl⟩
 rw [<- hS]
 refine ⟨_,rfl,?_⟩
 refine ⟨_,rfl,_,rfl,?_⟩
 refine vZ (C:=ac) (C1:=ad) (C2:=ae) (vr:=(.ref r)) (u:=(.int 5)) (w:=v) (R:=yQ ns) (a:=.num 5) (b:=ra) (j:=2) (vH (z18 _ _ eR)) (vI (by omega)) (by decide) rfl (hv.same z18) λx12 H12 s12 R12=>⟨rfl,?_⟩
 have z19:=z18.trans (s12)
 have eS:=(s12) _ _ eS
 have aS:=aS.same (s12)
 have B12:zY ac ad ae af n (d + 1) H12 (.ref x12):=⟨_,R12,XQ rfl,(Nat.succ_le_succ (Nat.max_le.mpr ⟨hd1,hd⟩))⟩
 refine ⟨_,rfl,_,rfl,_,rfl,(by show 1<=sizeLine; decide),λla hla=>?_⟩
 have pb:=zK hla (HO.lst [v])
 refine vZ (C:=ac) (C1:=ad) (C2:=ae) (vr:=(.ref r)) (u:=v) (w:=(.ref la)) (R:=yQ ns) (a:=ra) (b:=.lst) (j:=2) (vH (pb _ _ (z19 _ _ eR))) (vI (by omega)) (by decide) (hv.same (z19.trans pb)) ⟨la,_,rfl,zH⟩ λx13 H13 s13 R13=>⟨rfl,?_⟩
 have z20:=z19.trans (pb.trans s13)
 have B12:=B12.same (pb.trans s13)
 have eS:=(pb.trans s13) _ _ eS
 have aS:=aS.same (pb.trans s13)
 have B13:zY ac ad ae af n (d + 1) H13 (.ref x13):=⟨_,R13,XR rfl,(Nat.succ_le_succ (Nat.max_le.mpr ⟨hd,hd1⟩))⟩
 refine ⟨_,rfl,_,rfl,_,_,rfl,rfl,⟨by decide,by decide,by decide⟩,_,_,rfl,rfl,(show (10:Int) ^ (20:Int).toNat≠0 by decide),_,_,rfl,rfl,?_⟩
 refine uV (C:=ac) (C1:=ad) (C3:=af) (u:=v) (r:=ra) (lo:=.int 5) (hi:=.int (4 - c.fmod (10 ^ (20:Int).toNat))) (hv.same z20) (.int _) (.int _) λx14 H14 s14 R14=>⟨rfl,?_⟩
 have z21:=z20.trans (s14)
 have B12:=B12.same (s14)
 have B13:=B13.same (s14)
 have eS:=(s14) _ _ eS
 have aS:=aS.same (s14)
 have B14:zY ac ad ae af n (d + 1) H14 (.ref x14):=⟨_,R14,gl (Kz (by have:=Int.fmod_nonneg_of_pos c (show (0:Int) < 10 ^ (20:Int).toNat by decide); omega)),(Nat.succ_le_succ hd)⟩
 refine ⟨(by show 3<=sizeLine; decide),λl5 hl5=>?_⟩
 have wl5:=zK hl5 (HO.lst [V.ref x12,V.ref x13,V.ref x14])
 have al5:zN ac ad ae af n (d + 1) H14 [V.ref x12,V.ref x13,V.ref x14]:=(zN.cons B12 (zN.cons B13 (zN.cons B14 zN.nil)))
 have al5:=al5.same wl5
 have el5:=zH (H:=H14) (a:=l5) (o:=HO.lst [V.ref x12,V.ref x13,V.ref x14])
 have z22:=z21.trans (wl5)
 have eS:=(wl5) _ _ eS
 have aS:=aS.same (wl5)
 refine ⟨sS,l5,_,_,rfl,rfl,eS,el5,xA (by rw [lS]; show 14<=900; decide),λcl5 hcl5=>?_⟩
 have vl5:=zK hcl5 (HO.lst (xS++[V.ref x12,V.ref x13,V.ref x14]))
 have bl5:=(aS.app al5).same vl5
 have kl5:(xS++[V.ref x12,V.ref x13,V.ref x14]).length=14:=by rw [List.length_append,lS]; rfl
 have fl5:=zH (H:=upd H14 l5 (HO.lst [V.ref x12,V.ref x13,V.ref x14])) (a:=cl5) (o:=HO.lst (xS++[V.ref x12,V.ref x13,V.ref x14]))
 generalize upd (upd H14 l5 (HO.lst [V.ref x12,V.ref x13,V.ref x14])) cl5 (HO.lst (xS++[V.ref x12,V.ref x13,V.ref x14]))=Gl5 at vl5 bl5 fl5 |-
 have z23:=z22.trans (vl5)
 have eS:=(vl5) _ _ eS
 have aS:=aS.same (vl5)
 clear eS aS
 obtain ⟨sS,xS,eS,aS,lS,hS⟩:∃ (sS:Addr) (xS:List V),Gl5 sS=some (.lst xS)/\zN ac ad ae af n (d + 1) Gl5 xS/\xS.length=14/\sS=cl5:=⟨cl5,_,fl5,bl5,kl5,rfl⟩
 rw [<- hS]
 have k0:=Int.fmod_nonneg_of_pos c (show (0:Int) < 14 by decide)
 have k1:=Int.fmod_lt_of_pos c (show (0:Int) < 14 by decide)
 obtain ⟨v',hv',bv⟩:=aS.at k0 (by rw [lS]; exact k1)
 exact ⟨_,rfl,_,rfl,_,_,rfl,rfl,(show (14:Int)≠0 by decide),sS,_,_,_,rfl,rfl,zP.of eS,hv',q v' _ (w0.trans z23) bv⟩
end
noncomputable def UF (C1 C2:Addr):Addr->Sp:=λe vs H Q _=>∃ (C:Addr) (b:vW),vs=[.ref e]/\H e=some (yV e C)/\((C=C1/\b=.bad)\/(C=C2/\b=.many))/\∀ H',zC H H'->Q (.str b.str) H'
theorem K6:bootBuiltins "ValueError" = some (.type "ValueError"):=by decide +kernel
theorem K7 {bs:List Bool} {i:Nat} {x:V} (h:(bs.map V.bl)[i]? = some x):∃ b,bs[i]? = some b/\x=.bl b:=by
 rw [List.getElem?_map] at h
 cases e:bs[i]? with
 | none=>rw [e] at h; cases h
 | some b=>rw [e] at h; exact ⟨b,rfl,(Option.some.inj h).symm⟩
inductive XX (C1 C2 C3 C CM:Addr) (vs:List V) (H:Hp) (Q:VK) (E:XK):Prop
 | mk (way:Int) (o kp km:Addr) (v u:V) (n:Nat) (bs:List (Int × Int)) (ms:List MD) (pv mv:List V) (w:Str) (_:vs=[.int way,.ref o,v,u]) (_:uR C CM H o n bs ms pv mv kp km) (_:jc n bs ms) (_:(((0<=way/\way<=2)/\((zY CM C1 C2 C3 n 8 H v/\w = "bad")\/(∃ t,xR C1 C2 C3 H v t/\wO n t/\w=if 60 < zg t\/(0 < way/\40 < ms.length * zg t)\/(way=2/\n=3) then "many" else "told")))∨
  (way=3/\((∃ ra,RV CM C1 C2 C3 H v ra/\we (n:Int) ra=false/\w = "bad")\/(∃ (so dxs la:Addr) (l:LF),v=.ref so/\xh C1 H so l dxs la/\PB n ([],l)/\((∃ a,AV CM H u a/\xx a=false/\w = "bad")\/∃ z:Int,u=.int z/\1<=z/\w = "told")))))) (_:∀ H',zC H H'->Q (.str w) H'):XX C1 C2 C3 C CM vs H Q E
section
variable {P:Program} {w:World} {K:PySem.W.Frag} {mg:Str->Option Value} {base:Heap}
noncomputable abbrev uo:Stmt:=yI 65
theorem ZI:zv ["_law_e","_law_some"] ["_law_e"] (zW uo):=.a
noncomputable abbrev XY:Stmt:=yI 66
theorem ZJ:zv ["_law_way","_law_thing_here","_law_rule","_law_size","_law_word_here","_law_e"] ["_law_way","_law_thing_here","_law_rule","_law_size"] (zW XY):=.a
variable {aRule ad ae af ac au:Addr} (TRule:zQ K mg "Rule" aRule) (ARule:vx K aRule) (ah:zQ K mg "Straight" ad) (ap:vy K ad) (al:zQ K mg "Stopped" ae) (aq:vz K ae) (aj:zQ K mg "Parted" af) (ar:v4 K af) (ag:zQ K mg "Mode" ac) (ai:v5 K ac) (am:zQ K mg "Thing" au) (ao:v6 K au) (Y:v7 K ac ad ae af) {C1 C2:Addr} (Z:vv K mg C1 C2)
include TRule ARule ah ap al aq aj ar ag ai am ao Y Z
theorem K8 {k:Nat} {f:Addr} {fd:FuncData} (F:yA K "_law_word" "_law_word" uo f fd) (B:Bl mg):jU P w K mg base zj (k + 1) f fd ["_law_e"] (UF C1 C2):=by
 refine F.okH ZI (λe vs H Q E h=>?_) (λe cdv A outer s H vs Q E hr h=>?_)
 ·obtain ⟨_,_,rfl,_⟩:=h
  rfl
 obtain ⟨C,b,rfl,he,hb,q⟩:=h
 obtain ⟨c2,c3,c4,c5,c6,c7,c8,c9,cS,NM,T1,T2⟩:=Z.ex
 conv in (xD uo)=>whnf
 generalize hL1:(Expr.List [(Expr.Constant (Const.str "bad") 0 ⟨293,12,293,17⟩),(Expr.Constant (Const.str "many") 0 ⟨293,19,293,25⟩),(Expr.Constant (Const.str "") 0 ⟨293,27,293,29⟩),(Expr.Constant (Const.str "") 0 ⟨293,31,293,33⟩),(Expr.Constant (Const.str "") 0 ⟨293,35,293,37⟩),(Expr.Constant (Const.str "") 0 ⟨293,39,293,41⟩),(Expr.Constant (Const.str "") 0 ⟨293,43,293,45⟩),(Expr.Constant (Const.str "") 0 ⟨293,47,293,49⟩),(Expr.Constant (Const.str "") 0 ⟨293,51,293,53⟩),(Expr.Constant (Const.str "") 0 ⟨293,55,293,57⟩)] ⟨293,11,293,58⟩)=l1
 have pl1:PE (vX zj P w K mg base ["_law_e","_law_some"] "_law_word" (zW uo) f cdv A outer s H E).nox l1 (tK ac (AK.lst [(AK.str "bad"),(AK.str "many"),(AK.str ""),(AK.str ""),(AK.str ""),(AK.str ""),(AK.str ""),(AK.str ""),(AK.str ""),(AK.str "")])):=Qd hL1 (yZ.lst (Paired.cons yZ.str (Paired.cons yZ.str (Paired.cons yZ.str (Paired.cons yZ.str (Paired.cons yZ.str (Paired.cons yZ.str (Paired.cons yZ.str (Paired.cons yZ.str (Paired.cons yZ.str (Paired.cons yZ.str Paired.nil)))))))))) (by decide))
 have sl1:∀ es,starEach (l1 :: es) (vX zj P w K mg base ["_law_e","_law_some"] "_law_word" (zW uo) f cdv A outer s H E).nox.env=(false,eval l1 (vX zj P w K mg base ["_law_e","_law_some"] "_law_word" (zW uo) f cdv A outer s H E).nox.env) :: starEach es (vX zj P w K mg base ["_law_e","_law_some"] "_law_word" (zW uo) f cdv A outer s H E).nox.env:=Qc hL1 (yZ.lst (Paired.cons yZ.str (Paired.cons yZ.str (Paired.cons yZ.str (Paired.cons yZ.str (Paired.cons yZ.str (Paired.cons yZ.str (Paired.cons yZ.str (Paired.cons yZ.str (Paired.cons yZ.str (Paired.cons yZ.str Paired.nil)))))))))) (by decide))
 refine ⟨_,(zS (zp (i:=1) ZI.nd rfl (Or.inl rfl) (yD (zA (yG (show yW _ _ (vV K) from vt) rfl B.isinstance_ yj (zA (zB 0) (zA (show PE _ _ (tC (.ref C1)) from vA rfl NM.m0 rfl) zE))) (zA (yG (show yW _ _ (vV K) from vt) rfl B.isinstance_ yj (zA (zB 0) (zA (show PE _ _ (tC (.ref C2)) from vA rfl NM.m1 rfl) zE))) (zA (yG (show yW _ _ (vV K) from vt) rfl B.isinstance_ yj (zA (zB 0) (zA (show PE _ _ (tC (.ref c2)) from vA rfl NM.m2 rfl) zE))) (zA (yG (show yW _ _ (vV K) from vt) rfl B.isinstance_ yj (zA (zB 0) (zA (show PE _ _ (tC (.ref c3)) from vA rfl NM.m3 rfl) zE))) zE))))))
  (zS (zp (i:=1) ZI.nd rfl (Or.inl rfl) (zR zk (zB 1) (yD (zA (yG (show yW _ _ (vV K) from vt) rfl B.isinstance_ yj (zA (zB 0) (zA (show PE _ _ (tC (.ref c4)) from vA rfl NM.m4 rfl) zE))) (zA (yG (show yW _ _ (vV K) from vt) rfl B.isinstance_ yj (zA (zB 0) (zA (show PE _ _ (tC (.ref c5)) from vA rfl NM.m5 rfl) zE))) (zA (yG (show yW _ _ (vV K) from vt) rfl B.isinstance_ yj (zA (zB 0) (zA (show PE _ _ (tC (.ref c6)) from vA rfl NM.m6 rfl) zE))) (zA (yG (show yW _ _ (vV K) from vt) rfl B.isinstance_ yj (zA (zB 0) (zA (show PE _ _ (tC (.ref c7)) from vA rfl NM.m7 rfl) zE))) zE)))))))
  (zS (zp (i:=1) ZI.nd rfl (Or.inl rfl) (zR zk (zB 1) (yD (zA (yG (show yW _ _ (vV K) from vt) rfl B.isinstance_ yj (zA (zB 0) (zA (show PE _ _ (tC (.ref c8)) from vA rfl NM.m8 rfl) zE))) (zA (yG (show yW _ _ (vV K) from vt) rfl B.isinstance_ yj (zA (zB 0) (zA (show PE _ _ (tC (.ref c9)) from vA rfl NM.m9 rfl) zE))) zE)))))
  (zS (yT (PW.pt (wT (xo (yo (yG (show yW _ _ (Wk K) from QR) rfl B.isinstance_ yj (zA (zB 0) (zA (vB (v:=.ty "ValueError") (u:=.type "ValueError") rfl B.ValueError_ K6 rfl) zE))))) (wp (yp uy (yG xb rfl B.len_ vm (zA (Qp (own:=["_law_one"]) (caps:=[]) (wr rfl) hr.hd (Qn (zB 1)) (λ_ _ _ _=>zu (i:=0) (show (["_law_one"]:List Str).Nodup by decide +kernel) rfl (Or.inl rfl)) (λ_ _ _ _=>(yo (zB 0))) (λ_ _ _ _=>(zB 0))) zE)) zJ (yS _))))) (zX (zo xV)) yc)
  (zX (zo (wK vF pl1 (ub PySem.F.plainAttrs_list PySem.F.slot_list_index PySem.F.type_list_index Yb (zB 1) (zA xK zE)) (λ_ _=>rfl)))))))),?_⟩
 try dsimp only [vX,Cx.nox,Cx.wish]
 obtain ⟨j,KT,j2,eb⟩:∃ j,jW K C j C1 C2 c2 c3 c4 c5 c6 c7 c8 c9 cS/\j < 2/\b=(if j=0 then vW.bad else vW.many):=by
  rcases hb with ⟨rfl,rfl⟩ | ⟨rfl,rfl⟩
  ·exact ⟨0,T1,by decide,rfl⟩
  ·exact ⟨1,T2,by decide,rfl⟩
 refine ⟨_,rfl,e,C,C1,_,rfl,he,KT.xc,KT.k0,_,rfl,e,C,C2,_,rfl,he,KT.xc,KT.k1,_,rfl,e,C,c2,_,rfl,he,KT.xc,KT.k2,_,rfl,e,C,c3,_,rfl,he,KT.xc,KT.k3,(by show 4<=sizeLine; decide),λl1 hl1=>?_⟩
 have yG1:=zK hl1 (HO.lst [V.bl (j == 0),V.bl (j == 1),V.bl (j == 2),V.bl (j == 3)])
 have el1:=zH (H:=H) (a:=l1) (o:=HO.lst [V.bl (j == 0),V.bl (j == 1),V.bl (j == 2),V.bl (j == 3)])
 generalize hhG1:upd H l1 (HO.lst [V.bl (j == 0),V.bl (j == 1),V.bl (j == 2),V.bl (j == 3)])=G1 at yG1 el1 |-
 have SG1:=yG1
 refine ⟨_,rfl,_,rfl,e,C,c4,_,rfl,(SG1 _ _ he),KT.xc,KT.k4,_,rfl,e,C,c5,_,rfl,(SG1 _ _ he),KT.xc,KT.k5,_,rfl,e,C,c6,_,rfl,(SG1 _ _ he),KT.xc,KT.k6,_,rfl,e,C,c7,_,rfl,(SG1 _ _ he),KT.xc,KT.k7,(by show 4<=sizeLine; decide),λl2 hl2=>?_⟩
 have yG2:=zK hl2 (HO.lst [V.bl (j == 4),V.bl (j == 5),V.bl (j == 6),V.bl (j == 7)])
 have el2:=zH (H:=G1) (a:=l2) (o:=HO.lst [V.bl (j == 4),V.bl (j == 5),V.bl (j == 6),V.bl (j == 7)])
 generalize hhG2:upd G1 l2 (HO.lst [V.bl (j == 4),V.bl (j == 5),V.bl (j == 6),V.bl (j == 7)])=G2 at yG2 el2 |-
 have SG2:=SG1.trans yG2
 replace el1:=(yG2 _ _ el1)
 refine ⟨l1,l2,_,_,rfl,rfl,el1,el2,(by show 4 + 4<=sizeLine; decide),λl3 hl3=>?_⟩
 have yG3:=zK hl3 (HO.lst ([V.bl (j == 0),V.bl (j == 1),V.bl (j == 2),V.bl (j == 3)]++[V.bl (j == 4),V.bl (j == 5),V.bl (j == 6),V.bl (j == 7)]))
 have el3:=zH (H:=G2) (a:=l3) (o:=HO.lst ([V.bl (j == 0),V.bl (j == 1),V.bl (j == 2),V.bl (j == 3)]++[V.bl (j == 4),V.bl (j == 5),V.bl (j == 6),V.bl (j == 7)]))
 generalize hhG3:upd G2 l3 (HO.lst ([V.bl (j == 0),V.bl (j == 1),V.bl (j == 2),V.bl (j == 3)]++[V.bl (j == 4),V.bl (j == 5),V.bl (j == 6),V.bl (j == 7)]))=G3 at yG3 el3 |-
 have SG3:=SG2.trans yG3
 replace el1:=(yG3 _ _ el1)
 replace el2:=(yG3 _ _ el2)
 replace el3:G3 l3=some (.lst [V.bl (j == 0),V.bl (j == 1),V.bl (j == 2),V.bl (j == 3),V.bl (j == 4),V.bl (j == 5),V.bl (j == 6),V.bl (j == 7)]):=el3
 refine ⟨_,rfl,_,rfl,e,C,c8,_,rfl,(SG3 _ _ he),KT.xc,KT.k8,_,rfl,e,C,c9,_,rfl,(SG3 _ _ he),KT.xc,KT.k9,(by show 2<=sizeLine; decide),λl4 hl4=>?_⟩
 have yG4:=zK hl4 (HO.lst [V.bl (j == 8),V.bl (j == 9)])
 have el4:=zH (H:=G3) (a:=l4) (o:=HO.lst [V.bl (j == 8),V.bl (j == 9)])
 generalize hhG4:upd G3 l4 (HO.lst [V.bl (j == 8),V.bl (j == 9)])=G4 at yG4 el4 |-
 have SG4:=SG3.trans yG4
 replace el3:=(yG4 _ _ el3)
 refine ⟨l3,l4,_,_,rfl,rfl,el3,el4,(by show 8 + 2<=sizeLine; decide),λl5 hl5=>?_⟩
 have yG5:=zK hl5 (HO.lst ([V.bl (j == 0),V.bl (j == 1),V.bl (j == 2),V.bl (j == 3),V.bl (j == 4),V.bl (j == 5),V.bl (j == 6),V.bl (j == 7)]++[V.bl (j == 8),V.bl (j == 9)]))
 have el5:=zH (H:=G4) (a:=l5) (o:=HO.lst ([V.bl (j == 0),V.bl (j == 1),V.bl (j == 2),V.bl (j == 3),V.bl (j == 4),V.bl (j == 5),V.bl (j == 6),V.bl (j == 7)]++[V.bl (j == 8),V.bl (j == 9)]))
 generalize hhG5:upd G4 l5 (HO.lst ([V.bl (j == 0),V.bl (j == 1),V.bl (j == 2),V.bl (j == 3),V.bl (j == 4),V.bl (j == 5),V.bl (j == 6),V.bl (j == 7)]++[V.bl (j == 8),V.bl (j == 9)]))=G5 at yG5 el5 |-
 have SG5:=SG4.trans yG5
 replace el3:=(yG5 _ _ el3)
 replace el4:=(yG5 _ _ el4)
 replace el5:G5 l5=some (.lst [V.bl (j == 0),V.bl (j == 1),V.bl (j == 2),V.bl (j == 3),V.bl (j == 4),V.bl (j == 5),V.bl (j == 6),V.bl (j == 7),V.bl (j == 8),V.bl (j == 9)]):=el5
 obtain ⟨bs,hbs⟩:∃ bs:List Bool,bs=[j == 0,j == 1,j == 2,j == 3,j == 4,j == 5,j == 6,j == 7,j == 8,j == 9]:=⟨_,rfl⟩
 have e5:G5 l5=some (.lst (bs.map V.bl)):=by rw [hbs]; exact el5
 have lbs:bs.length=10:=by rw [hbs]; rfl
 have fil:(bs.filter id).length=1:=by
  rw [hbs]
  rcases (show j=0\/j=1 by omega) with rfl | rfl <;> rfl
 have hj:bs[j]? = some true:=by
  rw [hbs]
  rcases (show j=0\/j=1 by omega) with rfl | rfl <;> rfl
 have hno:∀ m,m < j->bs[m]? = some false:=λm hm=>by
  have m0:m=0:=by omega
  have j1:j=1:=by omega
  rw [hbs,m0,j1]
  rfl
 clear el5
 refine ⟨_,rfl,e,C,"ValueError",rfl,(SG5 _ _ he),KT.isV,_,rfl,zb ?_⟩
 refine ⟨_,rfl,l5,rfl,⟨_,zP.of e5⟩,Qq (K:=K) (x0:=e) (C:=C) (a:=l5) (xs:=bs.map V.bl) (λi ys σ H'=>ys=((bs.take i).filter id).map V.bl/\(∃ o,σ=[o])/\H'=G5)
  ⟨rfl,⟨none,rfl⟩,rfl⟩ (λi ys σ H' hi ⟨e1,_,e3⟩=>⟨by rw [e3]; exact zP.of e5,by rw [e1,List.length_map]; exact Nat.le_trans (List.length_filter_le _ _) (by rw [List.length_take]; exact Nat.min_le_left _ _),by rw [e3]; exact (SG5 _ _ he)⟩) (by rw [List.length_map,lbs]; exact Nat.le_of_lt (zy (by decide))) ?_ ?_⟩
 ·rintro i x ys σ H' hi ⟨rfl,⟨o,rfl⟩,rfl⟩
  obtain ⟨b0,hb0,rfl⟩:=K7 hi
  refine ⟨_,rfl,_,rfl,?_⟩
  rw [xO hb0,List.filter_append,List.map_append]
  cases b0 with
  | true=>exact yM rfl ⟨_,rfl,rfl,⟨_,rfl⟩,rfl⟩
  | false=>exact zr rfl ⟨by rw [show List.filter id [false]=[] from rfl,List.map_nil,List.append_nil],⟨_,rfl⟩,rfl⟩
 rintro ys σ H' ⟨rfl,⟨o,rfl⟩,hZ⟩ c0 hc0
 rw [hZ] at hc0 |-
 clear hZ
 rw [List.length_map,List.take_of_length_le (Nat.le_refl _)]
 have yG6:=zK hc0 (HO.lst ((bs.filter id).map V.bl))
 have ec0:=zH (H:=G5) (a:=c0) (o:=HO.lst ((bs.filter id).map V.bl))
 generalize hhG6:upd G5 c0 (HO.lst ((bs.filter id).map V.bl))=G6 at yG6 ec0 |-
 have SG6:=SG5.trans yG6
 replace e5:=(yG6 _ _ e5)
 refine ⟨c0,_,rfl,.inl (zP.of ec0),rfl,_,rfl,zr (Je (by rw [List.length_map,fil]; rfl)) ?_⟩
 refine λv J9 y9 mv=>?_
 have SG7:=SG6.trans y9
 replace e5:=(y9 _ _ e5)
 obtain ⟨pz,xsz,asz,ez0,ez,epz,hpz⟩:=mv.lst_inv rfl
 subst ez0
 injection ez with ez
 subst ez
 have lz:xsz.length=10:=Paired.length hpz
 have hx:xsz[j]? = some (xsz[j]'(by omega)):=List.getElem?_eq_getElem _
 obtain ⟨az,haz,hxz⟩:=xF hpz hx
 have ea:az=.str b.str:=by
  rw [eb]
  rcases (show j=0\/j=1 by omega) with rfl | rfl <;> exact (Option.some.inj haz).symm
 subst ea
 have ex:xsz[j]'(by omega)=.str b.str:=by
  generalize xsz[j]'(by omega)=x9 at hxz
  cases hxz
  rfl
 rw [ex] at hx
 exact ⟨_,rfl,.inl ⟨rfl,_,zP.of e5⟩,l5,bs,j,rfl,rfl,zP.of e5,hj,hno,(by omega),pz,_,_,_,rfl,rfl,zP.of epz,kF hx,q _ SG7⟩
theorem K9 {k:Nat} {f:Addr} {fd:FuncData} (F:yA K "_law_said" "_law_said" XY f fd) (B:Bl mg) (x_pieces:vG P w K mg base "pieces" ["rule","many"] k (gb ac ad ae af C1 C2 8)) (x_steered:vG P w K mg base "steered" ["thing","rule"] k (gi ad ae af au ac C1 C2 false)) (x_late:vG P w K mg base "late" ["thing","rule"] k (gi ad ae af au ac C1 C2 true)) (x_rounded:vG P w K mg base "rounded" ["thing","straight","size"] k (XD ad ae af au ac C1)) (bu:j5 P w K mg base "_law_word" ["_law_e"] k (UF C1 C2)):zL P w K mg base zj (k + 1) f fd ["_law_way","_law_thing_here","_law_rule","_law_size"] (XX ad ae af au ac):=by
 refine F.ok ZJ (λvs H Q E h=>?_) (λcdv A outer s H vs Q E hr h=>?_)
 ·obtain ⟨_,_,_,_,_,_,_,_,_,_,_,_,rfl,_⟩:=h
  rfl
 obtain ⟨way,o,kp,km,v,u,n,bs,ms,pv,mv,w,rfl,TA,TB,W,q⟩:=h
 obtain ⟨c2,c3,c4,c5,c6,c7,c8,c9,cS,NM,T1,T2⟩:=Z.ex
 refine ⟨_,(zS (zp (i:=4) ZJ.nd rfl (Or.inl rfl) xV)
  (zS (Qs (i:=5) rfl NM.mS rfl rfl rfl ZJ.nd rfl rfl (jR (YW (yp wQ (zB 0) zJ (yS _)) (jR (kh (kg x_pieces hr rfl (zA (zB 2) (zA (ze (zB 1) rfl) zE)))) jQ) (jR (YW (yp wQ (zB 0) zJ (yS _)) (jR (kh (kg x_steered hr rfl (zA (zB 1) (zA (zB 2) zE)))) jQ) (jR (YW (yp wQ (zB 0) zJ (yS _)) (jR (kh (kg x_late hr rfl (zA (zB 1) (zA (zB 2) zE)))) jQ) (jR (kh (kg x_rounded hr rfl (zA (zB 1) (zA (zB 2) (zA (zB 3) zE))))) jQ)) jQ)) jQ)) jQ) (λ_=>(zX (zp (i:=4) ZJ.nd rfl (Or.inl rfl) (Qk bu hr rfl (zA (zB 5) zE))))))
  (zX (zo (zB 4))))),?_⟩
 try dsimp only [zM,Cx.nox,Cx.wish]
 obtain ⟨dx,ins⟩:=TA.ins
 have n1:=TB.ok.n1
 have n3:=TB.ok.n3
 rcases W with ⟨⟨w0,w2⟩,W⟩ | ⟨rfl,W⟩
 ·refine ⟨_,rfl,rfl,_,rfl,?_⟩
  by_cases e0:way=0
  ·refine yM (xv e0) ?_
   rcases W with ⟨⟨ra,hR,hf,dp⟩,rfl⟩ | ⟨t,hR,RU,hw⟩
   ·exact ⟨_,rfl,_,rfl,o,au,dx,_,_,rfl,ins,am.cl,ao.n_many,rfl,v,n,rfl,.inl ⟨ra,hR,dp,hf,λJ y=>⟨C1,rfl,T1.exm,λe he=>⟨_,rfl,C1,.bad,rfl,zH,.inl ⟨rfl,rfl⟩,λH9 s9=>⟨_,rfl,q _ (y.trans ((zK he (yV e C1)).trans s9))⟩⟩⟩⟩⟩
   have dp:=RU.dp
   by_cases c:60 < zg t\/(0 < way/\40 < ms.length * zg t)\/(way=2/\n=3)
   ·rw [if_pos c] at hw
    subst hw
    exact ⟨_,rfl,_,rfl,o,au,dx,_,_,rfl,ins,am.cl,ao.n_many,rfl,v,n,rfl,.inr ⟨t,hR,(by omega),(by omega),RU.sh,n1,(by omega),RU.tf,(λ_ J y=>⟨C2,rfl,T2.exm,λe he=>⟨_,rfl,C2,.many,rfl,zH,.inr ⟨rfl,rfl⟩,λH9 s9=>⟨_,rfl,q _ (y.trans ((zK he (yV e C2)).trans s9))⟩⟩⟩),λc2=>absurd c (by omega)⟩⟩
   rw [if_neg c] at hw
   subst hw
   exact ⟨_,rfl,_,rfl,o,au,dx,_,_,rfl,ins,am.cl,ao.n_many,rfl,v,n,rfl,.inr ⟨t,hR,(by omega),(by omega),RU.sh,n1,(by omega),RU.tf,(λc2=>absurd (Or.inl c2) c),λ_ l lv J y _ _ _=>⟨_,rfl,q _ y⟩⟩⟩
  refine zr (wM e0) ?_
  refine ⟨_,rfl,rfl,_,rfl,?_⟩
  by_cases e1:way=1
  ·refine yM (xv e1) ?_
   rcases W with ⟨⟨ra,hR,hf,dp⟩,rfl⟩ | ⟨t,hR,RU,hw⟩
   ·exact ⟨_,rfl,_,rfl,o,kp,km,v,n,bs,ms,pv,mv,rfl,TA,TB,.inl ⟨ra,hR,dp,hf,λJ y=>⟨C1,rfl,T1.exm,λe he=>⟨_,rfl,C1,.bad,rfl,zH,.inl ⟨rfl,rfl⟩,λH9 s9=>⟨_,rfl,q _ (y.trans ((zK he (yV e C1)).trans s9))⟩⟩⟩⟩⟩
   have dp:=RU.dp
   by_cases c:60 < zg t\/(0 < way/\40 < ms.length * zg t)\/(way=2/\n=3)
   ·rw [if_pos c] at hw
    subst hw
    exact ⟨_,rfl,_,rfl,o,kp,km,v,n,bs,ms,pv,mv,rfl,TA,TB,.inr ⟨t,hR,RU,(λ_ J y=>⟨C2,rfl,T2.exm,λe he=>⟨_,rfl,C2,.many,rfl,zH,.inr ⟨rfl,rfl⟩,λH9 s9=>⟨_,rfl,q _ (y.trans ((zK he (yV e C2)).trans s9))⟩⟩⟩),λc1 c2 c3=>absurd c (by first | omega | (have c4:=c2 rfl; omega))⟩⟩
   rw [if_neg c] at hw
   subst hw
   exact ⟨_,rfl,_,rfl,o,kp,km,v,n,bs,ms,pv,mv,rfl,TA,TB,.inr ⟨t,hR,RU,(λc2=>absurd c2 (by rintro (a | ⟨b,d⟩ | d); exact c (.inl a); (first | (exact absurd b (by decide)) | exact c (.inr (.inr ⟨by omega,d⟩))); exact c (.inr (.inl ⟨by omega,d⟩)))),λ_ _ _ o2 J y=>⟨_,rfl,q _ y⟩⟩⟩
  refine zr (wM e1) ?_
  refine ⟨_,rfl,rfl,_,rfl,yM (xv (by omega)) ?_⟩
  rcases W with ⟨⟨ra,hR,hf,dp⟩,rfl⟩ | ⟨t,hR,RU,hw⟩
  ·exact ⟨_,rfl,_,rfl,o,kp,km,v,n,bs,ms,pv,mv,rfl,TA,TB,.inl ⟨ra,hR,dp,hf,λJ y=>⟨C1,rfl,T1.exm,λe he=>⟨_,rfl,C1,.bad,rfl,zH,.inl ⟨rfl,rfl⟩,λH9 s9=>⟨_,rfl,q _ (y.trans ((zK he (yV e C1)).trans s9))⟩⟩⟩⟩⟩
  have dp:=RU.dp
  by_cases c:60 < zg t\/(0 < way/\40 < ms.length * zg t)\/(way=2/\n=3)
  ·rw [if_pos c] at hw
   subst hw
   exact ⟨_,rfl,_,rfl,o,kp,km,v,n,bs,ms,pv,mv,rfl,TA,TB,.inr ⟨t,hR,RU,(λ_ J y=>⟨C2,rfl,T2.exm,λe he=>⟨_,rfl,C2,.many,rfl,zH,.inr ⟨rfl,rfl⟩,λH9 s9=>⟨_,rfl,q _ (y.trans ((zK he (yV e C2)).trans s9))⟩⟩⟩),λc1 c2 c3=>absurd c (by first | omega | (have c4:=c2 rfl; omega))⟩⟩
  rw [if_neg c] at hw
  subst hw
  exact ⟨_,rfl,_,rfl,o,kp,km,v,n,bs,ms,pv,mv,rfl,TA,TB,.inr ⟨t,hR,RU,(λc2=>absurd c2 (by rintro (a | ⟨b,d⟩ | d); exact c (.inl a); (first | (exact absurd b (by decide)) | exact c (.inr (.inr ⟨by omega,d⟩))); exact c (.inr (.inl ⟨by omega,d⟩)))),λ_ _ _ o2 J y=>⟨_,rfl,q _ y⟩⟩⟩
 refine ⟨_,rfl,rfl,_,rfl,zr (wM (by decide)) ⟨_,rfl,rfl,_,rfl,zr (wM (by decide)) ⟨_,rfl,rfl,_,rfl,zr (wM (by decide)) ?_⟩⟩⟩
 refine ⟨_,rfl,_,rfl,_,rfl,o,kp,km,v,u,n,bs,ms,pv,mv,rfl,TA,TB,?_⟩
 rcases W with ⟨ra,hR,hf,rfl⟩ | ⟨so,dxs,la,l,hv,SA,pb,W⟩
 ·exact .inl ⟨ra,hR,hf,λJ y=>⟨C1,rfl,T1.exm,λe he=>⟨_,rfl,C1,.bad,rfl,zH,.inl ⟨rfl,rfl⟩,λH9 s9=>⟨_,rfl,q _ (y.trans ((zK he (yV e C1)).trans s9))⟩⟩⟩⟩
 rcases W with ⟨a,hu,hf,rfl⟩ | ⟨z,hu,hz,rfl⟩
 ·exact .inr ⟨so,dxs,la,l,hv,SA,pb,.inl ⟨a,hu,hf,λJ y=>⟨C1,rfl,T1.exm,λe he=>⟨_,rfl,C1,.bad,rfl,zH,.inl ⟨rfl,rfl⟩,λH9 s9=>⟨_,rfl,q _ (y.trans ((zK he (yV e C1)).trans s9))⟩⟩⟩⟩⟩
 exact .inr ⟨so,dxs,la,l,hv,SA,pb,.inr ⟨z,hu,hz,λo2 J y=>⟨_,rfl,q _ y⟩⟩⟩
end
theorem xQ.calm {P:Program} {w:World} {K:PySem.W.Frag} {mg:Str->Option Value} {base:Heap} {C:Addr} {ps:List Str} {k:Nat} {sp:Sp} (F:xQ P w K mg base C ps k sp):xk P w K mg base C ps k (λvs H Q _=>sp vs H Q (λ_ _ _=>False)):=by
 obtain ⟨f,fd,a,b,c⟩:=F.ex
 refine ⟨f,fd,⟨λvs H Q E h=>a.len _ _ _ _ h,λA outer s H args us vs Q E hr he hb hv hs=>?_⟩,b,c⟩
 refine codeAny_mono (a.run A outer s H args us vs Q (λ_ _ _=>False) hr he hb hv hs) λr s' h=>?_
 cases r with
 | ok o=>cases o <;> exact h
 | error ev=>
  obtain ⟨e,cls,a0,B,H',_,_,z⟩:=h
  exact z.elim
noncomputable def zJS (C CM C2:Addr):Sp:=λvs H Q _=>j7 C CM C2 vs H Q (λ_ _ _=>False)
inductive XZ (C CM:Addr) (vs:List V) (H:Hp) (Q:VK) (E:XK):Prop
 | mk (n k:Nat) (nn kk:Int) (_:vs=[.int nn,.int kk]) (_:nn=(n:Int)) (_:kk=(k:Int)) (_:1<=n) (_:n<=3) (_:1<=k) (_:k<=5) (_:∀ (o kp km:Addr) (bs:List (Int × Int)) (ms:List MD) (pv mv:List V) (H':Hp),zC H H'->uR C CM H' o n bs ms pv mv kp km->jc n bs ms->ms.length=k->Q (.ref o) H'):XZ C CM vs H Q E
theorem Xa (x:Int):∀ k:Nat,(List.replicate k [V.int x]).flatten=(List.replicate k x).map V.int
 | 0=>rfl
 | k + 1=>by rw [List.replicate_succ,List.replicate_succ,List.flatten_cons,Xa x k]; rfl
theorem UG (x:V):∀ k:Nat,(List.replicate k [x]).flatten=List.replicate k x
 | 0=>rfl
 | k + 1=>by rw [List.replicate_succ,List.replicate_succ,List.flatten_cons,UG x k]; rfl
theorem UH {H:Hp} {vs:List V} {tab:List (List Int)} {t:Addr} {r:List Int} (h:H t=some (.lst (r.map V.int))) (z:zI H vs tab):zI H (vs++[.ref t]) (tab++[r]):=xZ (R:=xH H) ⟨t,rfl,h⟩ z
theorem Xb {C:Addr} {H:Hp} {v:V} {m:MD} (h:yX C H v m):∀ k:Nat,Paired (yX C H) (List.replicate k v) (List.replicate k m)
 | 0=>.nil
 | k + 1=>.cons h (Xb h k)
noncomputable def jf (n:Nat) (tab:List (List Int)):MD:=⟨[],tab,List.replicate n 1,List.replicate n [],List.replicate n 0,1⟩
theorem UI {n:Nat} {tab:List (List Int)} (n3:n<=3) (l:tab.length=n) (h:∀ r∈tab,r.length=n/\∀ x∈r,Bd 4 x):yk (jf n tab) n 0:=⟨(λ_ h=>by cases h),by show 0<=900; omega,⟨l,λr hr=>(h r hr).1⟩,List.length_replicate,⟨List.length_replicate,λr hr=>by rw [List.eq_of_mem_replicate hr]; rfl⟩,List.length_replicate,(by decide:(1:Int)<=1),n3,by omega⟩
theorem zLF {n:Nat} {tab:List (List Int)} (h:∀ r∈tab,r.length=n/\∀ x∈r,Bd 4 x):MB (jf n tab):=by
 have b0:Bd 4 (0:Int):=Bd.lit
 have b1:Bd 4 (1:Int):=Bd.lit
 exact ⟨λr hr x hx=>((h r hr).2 x hx).mono,λx hx=>by rw [List.eq_of_mem_replicate hx]; exact b1.mono,λr hr x hx=>(by rw [List.eq_of_mem_replicate hr] at hx; cases hx),λx hx=>by rw [List.eq_of_mem_replicate hx]; exact b0.mono,b1.mono,by show 0<=100; omega⟩
theorem Xc {n k:Nat} {tab:List (List Int)} (n1:1<=n) (n3:n<=3) (k1:1<=k) (k5:k<=5) (l:tab.length=n) (h:∀ r∈tab,r.length=n/\∀ x∈r,Bd 4 x):jc n [] (List.replicate k (jf n tab)):=
 ⟨⟨n1,n3,(λ_ h=>by cases h),by show 0<=6; omega,by rw [List.length_replicate]; exact k1,by rw [List.length_replicate]; omega,λm hm=>by rw [List.eq_of_mem_replicate hm]; exact UI n3 l h⟩,λm hm=>by rw [List.eq_of_mem_replicate hm]; exact zLF h,by rw [List.length_replicate]; exact k5,by show 0<=3; omega⟩
section
variable {P:Program} {w:World} {K:PySem.W.Frag} {mg:Str->Option Value} {base:Heap}
noncomputable abbrev ZK:Stmt:=yI 71
theorem Xd:zv ["_law_many","_law_modes","_law_table","_law_mode"] ["_law_many","_law_modes"] (zW ZK):=.a
variable {aRule ad ae af ac au:Addr} (TRule:zQ K mg "Rule" aRule) (ARule:vx K aRule) (ah:zQ K mg "Straight" ad) (ap:vy K ad) (al:zQ K mg "Stopped" ae) (aq:vz K ae) (aj:zQ K mg "Parted" af) (ar:v4 K af) (ag:zQ K mg "Mode" ac) (ai:v5 K ac) (am:zQ K mg "Thing" au) (ao:v6 K au) (Y:v7 K ac ad ae af) {C1 C2:Addr} (Z:vv K mg C1 C2)
include TRule ARule ah ap al aq aj ar ag ai am ao Y Z
theorem zH2 {k:Nat} {f:Addr} {fd:FuncData} (F:yA K "_law_thing" "_law_thing" ZK f fd) (B:Bl mg) (aE:xk P w K mg base ac ["self","rows","nexts","steer","push","add","divisor"] k (ju ac)) (bw:xk P w K mg base au ["self","many","pushes","modes"] k (zJS au ac C2)):zL P w K mg base zj (k + 1 + 1) f fd ["_law_many","_law_modes"] (XZ au ac):=by
 refine F.ok Xd (λvs H Q E h=>?_) (λcdv A outer s H vs Q E hr h=>?_)
 ·obtain ⟨_,_,_,_,rfl,_⟩:=h
  rfl
 obtain ⟨n,k,_,_,rfl,rfl,rfl,n1,n3,k1,k5,q⟩:=h
 refine ⟨_,(zS (Jt (i:=2) Xd.nd rfl rfl (own:=["_law_i"]) (caps:=[(0,"_law_many")]) (Ju (S:=zW ZK) (N:=["_law_many","_law_modes","_law_table","_law_mode"]) rfl (by decide +kernel) rfl ⟨_,rfl⟩ rfl (by decide +kernel) (by decide +kernel)) rfl (vg rfl B.range_ (zA (zB 0) zE)) (λ_ _ _ _=>zu (i:=0) (show (["_law_i","_law_many"]:List Str).Nodup by decide +kernel) rfl (Or.inr rfl)) (λ_ _ _ _=>(Js (own:=["_law_j"]) (caps:=[(0,"_law_i")]) (Jv rfl (by decide +kernel) (by decide +kernel) (by decide +kernel) (by decide +kernel)) rfl (vg rfl B.range_ (zA (zB 1) zE)) (λ_ _ _ _=>zu (i:=0) (show (["_law_j","_law_i"]:List Str).Nodup by decide +kernel) rfl (Or.inl rfl)) (λ_ _ _ _=>(vC Ug rfl B.int_ WM (zA (uE wQ (zB 1) (zB 0) (yS _)) zE))))) rfl)
  (zS (zp (i:=3) Xd.nd rfl (Or.inl rfl) (yN aE ag hr rfl (zA (yD zE) (zA (zB 2) (zA (zR jJ (yD (zA zJ zE)) (zB 0)) (zA (xY (own:=["_law_i"]) (caps:=[]) (wr rfl) rfl (vg rfl B.range_ (zA (zB 0) zE)) (λ_ _ _ _=>zu (i:=0) (show (["_law_i"]:List Str).Nodup by decide +kernel) rfl (Or.inl rfl)) (λ_ _ _ _=>(yD zE))) (zA (zR jJ (yD (zA zJ zE)) (zB 0)) (zA zJ zE))))))))
  (zX (zo (yN bw am hr rfl (zA (zB 0) (zA (yD zE) (zA (zR jJ (yD (zA (zB 3) zE)) (zB 1)) zE)))))))),?_⟩
 try dsimp only [zM,Cx.nox,Cx.wish]
 refine ⟨_,rfl,_,rfl,(by omega),(by omega),jo (lo:=0) (n:=((n:Int)).toNat) (λi ys σ H'=>(∃ tab,zI H' ys tab/\tab.length=i/\∀ r∈tab,r.length=n/\∀ x∈r,Bd 4 x)/\(∃ o,σ=[o,some (.int (n:Int))])/\zC H H')
  ⟨⟨[],.nil,rfl,λ_ h=>by cases h⟩,⟨none,rfl⟩,zC.refl _⟩ (λi ys σ H' ⟨⟨tab,g1,g2,_⟩,_,_⟩=>by rw [Paired.length g1,g2]; exact Nat.le_refl _) (xA (by omega)) ?_ ?_⟩
 ·rintro i ys σ H' hi ⟨⟨tab,hys,lt,ht⟩,⟨o,rfl⟩,sm⟩
  refine ⟨_,rfl,_,rfl,(by omega),(by omega),jo (lo:=0) (n:=((n:Int)).toNat) (λj zs τ H2=>(∃ r:List Int,zs=r.map V.int/\r.length=j/\∀ x∈r,Bd 4 x)/\(∃ o2,τ=[o2,some (.int (0 + (i:Int)))])/\H2=H')
   ⟨⟨[],rfl,rfl,λ_ h=>by cases h⟩,⟨none,rfl⟩,rfl⟩ (λj zs τ H2 ⟨⟨r,g1,g2,_⟩,_,_⟩=>by rw [g1,List.length_map,g2]; exact Nat.le_refl _) (xA (by omega)) ?_ ?_⟩
  ·rintro j zs τ H2 hj ⟨⟨r,rfl,lr,hr2⟩,⟨o2,rfl⟩,rfl⟩
   refine ⟨_,rfl,_,rfl,rfl,.inr ⟨_,rfl,⟨r++[if decide (V.int (0 + (i:Int))=V.int (0 + (j:Int))) then 1 else 0],?_,by rw [List.length_append,lr]; rfl,λx hx=>?_⟩,⟨_,rfl⟩,rfl⟩⟩
   ·rw [List.map_append]
    rfl
   rcases List.mem_append.mp hx with hx | hx
   ·exact hr2 x hx
   rw [List.mem_singleton.mp hx]
   split
   ·exact (Bd.lit:Bd 4 (1:Int))
   ·exact (Bd.lit:Bd 4 (0:Int))
  rintro zs τ H2 ⟨⟨r,rfl,lr,hr2⟩,⟨o2,rfl⟩,rfl⟩ c2 hc2
  have w2:=zK hc2 (HO.lst (r.map V.int))
  refine ⟨⟨tab++[r],UH zH (zI.same w2 hys),by rw [List.length_append,lt]; rfl,λr' hr'=>?_⟩,⟨_,rfl⟩,sm.trans w2⟩
  rcases List.mem_append.mp hr' with e | e
  ·exact ht r' e
  ·rw [List.mem_singleton.mp e]; exact ⟨by omega,hr2⟩
 rintro ys σ H1 ⟨⟨tab,hys,lt,ht⟩,⟨o,rfl⟩,s1⟩ ta hta
 have lt:tab.length=n:=by omega
 have w1:=zK hta (HO.lst ys)
 have et:=zH (H:=H1) (a:=ta) (o:=HO.lst ys)
 have hys:=zI.same w1 hys
 have y1:=s1.trans w1
 generalize upd H1 ta (HO.lst ys)=H2 at w1 et hys y1 |-
 refine ⟨(by show 0<=sizeLine; decide),λra hra=>?_⟩
 have w2:=zK hra (HO.lst [])
 have er:=zH (H:=H2) (a:=ra) (o:=HO.lst [])
 have et:=w2 _ _ et
 have hys:=zI.same w2 hys
 have y2:=y1.trans w2
 generalize upd H2 ra (HO.lst [])=H3 at w2 er et hys y2 |-
 refine ⟨_,rfl,(by show 1<=sizeLine; decide),λl1 hl1=>?_⟩
 have w3:=zK hl1 (HO.lst [V.int 1])
 refine ⟨_,rfl,l1,_,_,rfl,rfl,zH,(by omega),(by omega),(by show 1 * (n:Int).toNat<=sizeLine; exact xA (by omega)),λsa hsa=>?_⟩
 rw [Xa,Int.toNat_natCast]
 have w4:=w3.trans (zK hsa (HO.lst ((List.replicate n (1:Int)).map V.int)))
 have es:=zH (H:=upd H3 l1 (HO.lst [V.int 1])) (a:=sa) (o:=HO.lst ((List.replicate n (1:Int)).map V.int))
 have er:=w4 _ _ er
 have et:=w4 _ _ et
 have hys:=zI.same w4 hys
 have y4:=y2.trans w4
 generalize upd (upd H3 l1 (HO.lst [V.int 1])) sa (HO.lst ((List.replicate n (1:Int)).map V.int))=H4 at w4 es er et hys y4 |-
 refine ⟨_,rfl,_,rfl,(by omega),(by omega),jo (lo:=0) (n:=((n:Int)).toNat) (λi zs σ H'=>(∃ tb,zI H' zs tb/\tb=List.replicate i [])/\(∃ o,σ=[o])/\zC H4 H')
  ⟨⟨[],.nil,rfl⟩,⟨none,rfl⟩,zC.refl _⟩ (λi zs σ H' ⟨⟨tb,g1,g2⟩,_,_⟩=>by rw [Paired.length g1,g2,List.length_replicate]; exact Nat.le_refl _) (xA (by omega)) ?_ ?_⟩
 ·rintro i zs σ H' hi ⟨⟨tb,hzs,rfl⟩,⟨o,rfl⟩,sm⟩
  refine ⟨(by show 0<=sizeLine; decide),λc3 hc3=>?_⟩
  have w5:=zK hc3 (HO.lst [])
  exact ⟨⟨_,UH (r:=[]) zH (zI.same w5 hzs),(List.replicate_succ' ..).symm⟩,⟨_,rfl⟩,sm.trans w5⟩
 rintro zs σ H5 ⟨⟨tb,hzs,htb⟩,⟨o,rfl⟩,s5⟩ pa hpa
 rw [Int.toNat_natCast] at htb
 subst htb
 have w5:=s5.trans (zK hpa (HO.lst zs))
 have ep:=zH (H:=H5) (a:=pa) (o:=HO.lst zs)
 have hzs:=zI.same (zK hpa (HO.lst zs)) hzs
 have es:=w5 _ _ es
 have er:=w5 _ _ er
 have et:=w5 _ _ et
 have hys:=zI.same w5 hys
 have y5:=y4.trans w5
 generalize upd H5 pa (HO.lst zs)=H6 at w5 ep hzs es er et hys y5 |-
 refine ⟨(by show 1<=sizeLine; decide),λl2 hl2=>?_⟩
 have w6:=zK hl2 (HO.lst [V.int 0])
 refine ⟨_,rfl,l2,_,_,rfl,rfl,zH,(by omega),(by omega),(by show 1 * (n:Int).toNat<=sizeLine; exact xA (by omega)),λaa haa=>?_⟩
 rw [Xa,Int.toNat_natCast]
 have w7:=w6.trans (zK haa (HO.lst ((List.replicate n (0:Int)).map V.int)))
 have ea:=zH (H:=upd H6 l2 (HO.lst [V.int 0])) (a:=aa) (o:=HO.lst ((List.replicate n (0:Int)).map V.int))
 have ep:=w7 _ _ ep
 have hzs:=zI.same w7 hzs
 have es:=w7 _ _ es
 have er:=w7 _ _ er
 have et:=w7 _ _ et
 have hys:=zI.same w7 hys
 have y7:=y5.trans w7
 generalize upd (upd H6 l2 (HO.lst [V.int 0])) aa (HO.lst ((List.replicate n (0:Int)).map V.int))=H7 at w7 ea ep hzs es er et hys y7 |-
 intro x dx hx hdx ne
 have zm:=ww hx hdx ne (HO.own x) (HO.ins ac dx [])
 refine ⟨x,dx,ra,ta,sa,pa,aa,[],ys,zs,jf n tab,n,0,rfl,zH,UI n3 lt ht,zm _ _ er,.nil,zm _ _ et,zI.same zm hys,zm _ _ es,zm _ _ ep,zI.same zm hzs,zm _ _ ea,λM H8 sb MO _ _ _ _ _ _ _=>⟨rfl,?_⟩⟩
 have y8:=y7.trans (wa zm sb hx)
 have hM:yX ac H8 (.ref x) (jf n tab):=⟨x,_,rfl,MO⟩
 refine ⟨_,rfl,(by show 0<=sizeLine; decide),λpl hpl=>?_⟩
 have w9:=zK hpl (HO.lst [])
 have epl:=zH (H:=H8) (a:=pl) (o:=HO.lst [])
 generalize upd H8 pl (HO.lst [])=H9 at w9 epl |-
 refine ⟨_,rfl,(by show 1<=sizeLine; decide),λl3 hl3=>?_⟩
 have w10:=zK hl3 (HO.lst [V.ref x])
 refine ⟨_,rfl,l3,_,_,rfl,rfl,zH,(by omega),(by omega),(by show 1 * (k:Int).toNat<=sizeLine; exact xA (by omega)),λml hml=>?_⟩
 rw [UG,Int.toNat_natCast]
 have w11:=w10.trans (zK hml (HO.lst (List.replicate k (V.ref x))))
 have em:=zH (H:=upd H9 l3 (HO.lst [V.ref x])) (a:=ml) (o:=HO.lst (List.replicate k (V.ref x)))
 have epl:=w11 _ _ epl
 have hM:=hM.same (w9.trans w11)
 have y11:=y8.trans (w9.trans w11)
 generalize upd (upd H9 l3 (HO.lst [V.ref x])) ml (HO.lst (List.replicate k (V.ref x)))=H11 at w11 em epl hM y11 |-
 intro to dt hto hdt ne2
 have zt:=ww hto hdt ne2 (HO.own to) (HO.ins au dt [])
 have TB:=Xc n1 n3 k1 k5 lt ht
 refine ⟨to,dt,pl,ml,[],List.replicate k (V.ref x),n,[],List.replicate k (jf n tab),rfl,zH,zt _ _ epl,.nil,zt _ _ em,Xb (hM.same zt) k,⟨n1,n3,TB.ok.bok,TB.ok.b6,TB.ok.m1,(by rw [List.length_replicate]; omega),TB.ok.mok⟩,λc=>absurd c (by rw [List.length_replicate]; omega),λ_ kp km H12 sb eo ek em2=>⟨rfl,?_⟩⟩
 have sz:=wa zt sb hto
 exact q to kp km [] (List.replicate k (jf n tab)) [] (List.replicate k (V.ref x)) H12 (y11.trans sz) ⟨⟨dt,eo⟩,ek,.nil,em2,Xb (hM.same sz) k⟩ TB List.length_replicate
end
theorem Xe {t u:TS} {D:xU} {σ:St} {H:Hp} {R:St->Hp->Prop} (h:∀ N:St->Hp->Prop,(∀ σ' J,R σ' J->N σ' J)->t { D with nx:=N } σ H) (k:∀ σ' J,R σ' J->u D σ' J):qR t u D σ H:=h (u D) k
noncomputable def wH (C C1 C2 C3:Addr) (n i:Nat) (H:Hp) (v:V) (c:Nat) (g:Bool):Prop:=∃ ra,RV C C1 C2 C3 H v ra/\ra.dep<=i + 2/\(g=true->∃ t,ra=yz t/\t.dep<=i + 1/\wG t/\yY n t/\zg t=c)/\(g=false->yg (n:Int) ra=false)
theorem wH.same {C C1 C2 C3:Addr} {n i c:Nat} {H H':Hp} {v:V} {g:Bool} (h:wH C C1 C2 C3 n i H v c g) (s:zC H H'):wH C C1 C2 C3 n i H' v c g:=let ⟨ra,a,b,d,e⟩:=h; ⟨ra,a.same s,b,d,e⟩
theorem wH.leaf {C C1 C2 C3:Addr} {n:Nat} {H:Hp} {v:V} {t:RT} (n3:n<=3) (h:xR C1 C2 C3 H v t) (tf:wG t) (sh:yY n t) (st:gM t=true):wH C C1 C2 C3 n 0 H v 1 true:=by
 cases t with
 | str ns a d=>exact ⟨_,uU (by omega) sh h,(by decide:1<=2),λ_=>⟨_,rfl,Nat.le_refl _,tf,sh,rfl⟩,λe=>by cases e⟩
 | stp=>cases st
 | prt=>cases st
theorem wH.bad {C C1 C2 C3:Addr} {n i c:Nat} {H:Hp} {v:V} (h:zY C C1 C2 C3 n (i + 2) H v):wH C C1 C2 C3 n i H v c false:=by
 obtain ⟨ra,a,b,d⟩:=h
 exact ⟨ra,a,d,(λe=>by cases e),λ_=>b⟩
theorem wH.stp {C C1 C2 C3:Addr} {n i c:Nat} {H:Hp} {v:V} {g:Bool} {ra:RA} {lo hi:Int} (d:ra.dep<=i + 2) (a:g=true->∃ t,ra=yz t/\t.dep<=i + 1/\wG t/\yY n t/\zg t=c) (b:g=false->yg (n:Int) ra=false) (h:RV C C1 C2 C3 H v (.stp ra (.int lo) (.int hi))) (lh:lo<=hi) (bl:Bd 220 lo) (bh:Bd 220 hi):wH C C1 C2 C3 n (i + 1) H v (3 * c) g:=by
 refine ⟨_,h,Nat.succ_le_succ d,λe=>?_,λe=>XO (b e)⟩
 obtain ⟨t,rfl,dt,tf,sh,rfl⟩:=a e
 exact ⟨.stp t lo hi,rfl,Nat.succ_le_succ dt,⟨tf,bl,bh⟩,⟨sh,lh⟩,rfl⟩
theorem UJ {t:RT} (h:gM t=true):t.dep=1/\zg t=1:=by
 cases t with
 | str ns a d=>exact ⟨rfl,rfl⟩
 | stp=>cases h
 | prt=>cases h
theorem wH.prt {C C1 C2 C3:Addr} {n i c:Nat} {H:Hp} {v:V} {g:Bool} {ra x y:RA} {u:RT} {r:List Int} (d:ra.dep<=i + 2) (a:g=true->∃ t,ra=yz t/\t.dep<=i + 1/\wG t/\yY n t/\zg t=c) (b:g=false->yg (n:Int) ra=false) (tu:wG u) (su:yY n u) (iu:gM u=true) (h:RV C C1 C2 C3 H v (.prt (yQ r) x y)) (xy:(x=ra/\y=yz u)\/(x=yz u/\y=ra)) (lr:r.length=n + 1) (br:∀ z∈r,Bd 101 z):wH C C1 C2 C3 n (i + 1) H v (c + 1) g:=by
 obtain ⟨u1,u2⟩:=UJ iu
 have du:(yz u).dep=1:=by rw [j8,u1]
 rcases xy with ⟨rfl,rfl⟩ | ⟨rfl,rfl⟩
 ·refine ⟨_,h,Nat.succ_le_succ (Nat.max_le.mpr ⟨d,by omega⟩),λe=>?_,λe=>XQ (b e)⟩
  obtain ⟨t,rfl,dt,tf,sh,rfl⟩:=a e
  exact ⟨.prt r t u,rfl,Nat.succ_le_succ (Nat.max_le.mpr ⟨dt,by omega⟩),⟨br,tf,tu⟩,⟨lr,sh,su⟩,by show zg t + zg u=_; rw [u2]⟩
 ·refine ⟨_,h,Nat.succ_le_succ (Nat.max_le.mpr ⟨by omega,d⟩),λe=>?_,λe=>XR (b e)⟩
  obtain ⟨t,rfl,dt,tf,sh,rfl⟩:=a e
  exact ⟨.prt r u t,rfl,Nat.succ_le_succ (Nat.max_le.mpr ⟨by omega,dt⟩),⟨br,tu,tf⟩,⟨lr,su,sh⟩,by show zg u + zg t=_; rw [u2,Nat.add_comm]⟩
inductive Xf (C C1 C2 C3:Addr) (K:PySem.W.Frag) (vs:List V) (H:Hp) (Q:VK) (E:XK):Prop
 | mk (sa:Addr) (ns:List Int) (n:Nat) (nn:Int) (_:vs=[.ref sa,.int nn]) (_:nn=(n:Int)) (_:zP K H sa (ns.map V.int)) (_:1<=n) (_:n<=3) (_:∀ (p:Addr) (v:V) (g:Bool) (ci:Int) (H':Hp),zC H H'->H' p=some (.tup [v,.bl g,.int ci])->
 (g=false->zY C C1 C2 C3 n 8 H' v)->(g=true->∃ t,xR C1 C2 C3 H' v t/\wO n t/\ci=(zg t:Int))->(1<=ci/\ci<=729)->Q (.ref p) H'):Xf C C1 C2 C3 K vs H Q E
section
variable {P:Program} {w:World} {K:PySem.W.Frag} {mg:Str->Option Value} {base:Heap}
noncomputable abbrev Xg:Stmt:=yI 70
theorem wI:zv ["_law_script","_law_many","_law_good","_law_count","_law_spoil","_law_rule","_law_k","_law_cell","_law_xs","_law_row","_law_other"] ["_law_script","_law_many"] (zW Xg):=.a
variable {aRule ad ae af ac au:Addr} (TRule:zQ K mg "Rule" aRule) (ARule:vx K aRule) (ah:zQ K mg "Straight" ad) (ap:vy K ad) (al:zQ K mg "Stopped" ae) (aq:vz K ae) (aj:zQ K mg "Parted" af) (ar:v4 K af) (ag:zQ K mg "Mode" ac) (ai:v5 K ac) (am:zQ K mg "Thing" au) (ao:v6 K au) (Y:v7 K ac ad ae af) {C1 C2:Addr} (Z:vv K mg C1 C2)
include TRule ARule ah ap al aq aj ar ag ai am ao Y Z
theorem zIo {k:Nat} {f:Addr} {fd:FuncData} (F:yA K "_law_case" "_law_case" Xg f fd) (B:Bl mg) (aB:Fn P w K mg base "_law_cell_at" ["_law_script","_law_k"] (k + 1) (kK K)) (aN:Fn P w K mg base "_law_leaf" ["_law_cell","_law_many"] (k + 1) (ZD ad ae af)) (aT:Fn P w K mg base "_law_no_leaf" ["_law_cell","_law_many"] (k + 1) (ZE ac ad ae af)) (aR:Fn P w K mg base "_law_stream" ["_law_cell","_law_many"] (k + 1) kM) (bz:Fn P w K mg base "_law_no_part" ["_law_cell","_law_rule","_law_many"] (k + 1) (XM ac ad ae af)) (aA:xk P w K mg base ae ["self","rule","low","high"] k (jY ae)) (ax:xk P w K mg base af ["self","row","rule","other"] k (jZ ac af)):zL P w K mg base zj (k + 1 + 1) f fd ["_law_script","_law_many"] (Xf ac ad ae af K):=by
 refine F.ok wI (λvs H Q E h=>?_) (λcdv A outer s H vs Q E hr h=>?_)
 ·obtain ⟨_,_,_,_,rfl,_⟩:=h
  rfl
 obtain ⟨sa,ns,n,_,rfl,rfl,hS,n1,n3,q⟩:=h
 refine ⟨_,(zS (zp (i:=2) wI.nd rfl (Or.inl rfl) xK)
  (zS (zp (i:=3) wI.nd rfl (Or.inl rfl) zJ)
  (zS (zp (i:=4) wI.nd rfl (Or.inl rfl) (zR (ji yx) (zZ aB hr rfl (zA (zB 0) (zA zJ zE))) zJ))
  (zS (zp (i:=5) wI.nd rfl (Or.inl rfl) (zZ aN hr rfl (zA (zZ aB hr rfl (zA (zB 0) (zA zJ zE))) (zA (zB 1) zE))))
  (zS (yT (yp wQ (zB 4) zJ (yS _)) (zS (zp (i:=5) wI.nd rfl (Or.inl rfl) (zZ aT hr rfl (zA (zZ aB hr rfl (zA (zB 0) (zA zJ zE))) (zA (zB 1) zE))))
   (zX (zp (i:=2) wI.nd rfl (Or.inl rfl) xK))) yc)
  (zS (vj PassesOwn.never rfl (vg rfl B.range_ (zA (zR (ji yx) (zR (ji u9) (zZ aB hr rfl (zA (zB 0) (zA zJ zE))) zJ) zJ) zE)) (zu (i:=6) wI.nd rfl (Or.inl rfl)) (zS (zp (i:=7) wI.nd rfl (Or.inl rfl) (zZ aB hr rfl (zA (zB 0) (zA (zR (yF xi) zJ (zB 6)) zE))))
   (zS (zp (i:=8) wI.nd rfl (Or.inl rfl) (zZ aR hr rfl (zA (zB 7) (zA zJ zE))))
   (zX (yT (yp wQ (zB 4) (zR (yF xi) (zB 6) zJ) (yS _)) (zS (zp (i:=5) wI.nd rfl (Or.inl rfl) (zZ bz hr rfl (zA (zR (ji u9) (zB 7) zJ) (zA (zB 5) (zA (zB 1) zE)))))
    (zX (zp (i:=2) wI.nd rfl (Or.inl rfl) xK))) (zX (yT (yp wQ (zR (ji yx) (zB 7) zJ) zJ (yS _)) (zS (zp (i:=5) wI.nd rfl (Or.inl rfl) (yN aA al hr rfl (zA (zB 5) (zA (zR (yF wj) (zR (ji yx) (wK vF (zB 8) zJ (λ_ _=>rfl)) zJ) zJ) (zA (zR (ji yx) (wK vF (zB 8) zJ (λ_ _=>rfl)) zJ) zE)))))
     (zX (zp (i:=3) wI.nd rfl (Or.inl rfl) (zR (ji vD) zJ (zB 3))))) (zS (zp (i:=9) wI.nd rfl (Or.inl rfl) (vC wu rfl B.tuple_ uK (zA (zR zk (xY (own:=["_law_number"]) (caps:=[]) (wr rfl) rfl (xB (uZ gD (zB 8) uX (uY (zB 1)))) (λ_ _ _ _=>zu (i:=0) (show (["_law_number"]:List Str).Nodup by decide +kernel) rfl (Or.inl rfl)) (λ_ _ _ _=>(zR (yF wj) (zR (ji yx) (zB 0) zJ) zJ))) (yD (zA (zR (ji yx) (zR (ji u9) (zB 7) zJ) zJ) zE))) zE)))
     (zS (zp (i:=10) wI.nd rfl (Or.inl rfl) (zZ aN hr rfl (zA (zR (ji u9) (zB 7) zJ) (zA (zB 1) zE))))
     (zS (zp (i:=5) wI.nd rfl (Or.inl rfl) (yN ax aj hr rfl (zA (zB 9) (zA (wK vF (yD (zA (zB 5) (zA (zB 10) zE))) (zR (ji yx) (zB 7) zJ) (λ_ _=>rfl)) (zA (wK vF (yD (zA (zB 10) (zA (zB 5) zE))) (zR (ji yx) (zB 7) zJ) (λ_ _=>rfl)) zE)))))
     (zX (zp (i:=3) wI.nd rfl (Or.inl rfl) (zR (yF xi) (zB 3) zJ)))))))))))))
  (zX (zo (wY (zA (zB 5) (zA (zB 2) (zA (zB 3) zE)))))))))))),?_⟩
 try dsimp only [zM,Cx.nox,Cx.wish]
 have b16:Bd 6 (16:Int):=Bd.lit
 have b3:Bd 4 (3:Int):=Bd.lit
 have b9:Bd 4 (9:Int):=Bd.lit
 have m0:=Int.fmod_nonneg_of_pos ((yy ns 1).fdiv 16) (show (0:Int) < 7 by decide)
 have m1:=Int.fmod_lt_of_pos ((yy ns 1).fdiv 16) (show (0:Int) < 7 by decide)
 refine ⟨_,rfl,sa,ns,1,rfl,hS,(by decide),_,_,rfl,rfl,(show (16:Int)≠0 by decide),_,rfl,sa,ns,2,rfl,hS,(by decide),_,rfl,_,n,_,rfl,rfl,n1,n3,λv t H1 s1 hv tf sh st=>?_⟩
 obtain ⟨sp,hsp⟩:∃ sp,sp=(yy ns 1).fmod 16:=⟨_,rfl⟩
 rw [<- hsp]
 dsimp only [wB]
 refine Xe (R:=λσ J=>∃ (v:V) (g:Bool),σ=[some (.ref sa),some (.int (n:Int)),some (.bl g),some (.int 1),some (.int sp),some v,none,none,none,none,none]/\zC H J/\wH ac ad ae af n 0 J v 1 g) (λN hN=>?_) ?_
 ·refine ⟨_,rfl,rfl,_,rfl,?_⟩
  by_cases e0:sp=0
  ·refine yM (xv e0) ?_
   refine ⟨_,rfl,sa,ns,2,rfl,s1.seq hS,(by decide),_,rfl,_,n,_,rfl,rfl,n1,n3,λv2 H2 s2 B=>?_⟩
   exact hN _ _ ⟨v2,false,rfl,s1.trans s2,wH.bad B⟩
  ·exact zr (wM e0) (hN _ _ ⟨v,true,rfl,s1,wH.leaf n3 hv tf sh st⟩)
 rintro σ J ⟨v,g,rfl,sJ,cJ⟩
 refine ⟨_,rfl,sa,ns,1,rfl,sJ.seq hS,(by decide),_,_,rfl,rfl,⟨by decide,b16.mono⟩,_,_,rfl,rfl,(show (7:Int)≠0 by decide),_,rfl,(by omega),(by omega),gy (lo:=0) (n:=(((yy ns 1).fdiv 16).fmod 7).toNat) (λi σ H'=>∃ (c:Nat) (ci:Int) (v:V) (g:Bool) (o6 o7 o8 o9 o10:Option V),σ=[some (.ref sa),some (.int (n:Int)),some (.bl g),some (.int ci),some (.int sp),some v,o6,o7,o8,o9,o10]/\ci=(c:Int)/\zC H H'/\1<=c/\c<=3 ^ i/\wH ac ad ae af n i H' v c g) ⟨1,1,v,g,none,none,none,none,none,rfl,rfl,sJ,Nat.le_refl _,Nat.le_refl _,cJ⟩ ?_ ?_⟩
 ·rintro i σ H' hi ⟨c,ci,v,g,o6,o7,o8,o9,o10,rfl,hc,sm,c1,c3,ra,hR,dr,hg,hb⟩
  have p6:3 ^ i<=3 ^ 6:=Nat.pow_le_pow_right (by decide) (by omega)
  have p7:3 ^ 6=729:=by decide
  have ps:3 ^ (i + 1)=3 ^ i * 3:=Nat.pow_succ ..
  refine ⟨_,rfl,_,rfl,_,_,rfl,rfl,sa,ns,3 + (0 + (i:Int)),rfl,sm.seq hS,(by omega),?_⟩
  obtain ⟨cc,hcc⟩:∃ cc,cc=yy ns (3 + (0 + (i:Int))):=⟨_,rfl⟩
  rw [<- hcc]
  refine ⟨_,rfl,cc,4,rfl,(by decide),(by decide),λxa H1 xs s1 f1 e1 lx bx=>?_⟩
  have lx:xs.length=4:=lx
  obtain ⟨x0,x1,x2,x3,rfl⟩:=XI lx
  have y1:=sm.trans s1
  have hR:=hR.same s1
  refine ⟨_,rfl,_,rfl,_,_,rfl,rfl,rfl,_,rfl,?_⟩
  by_cases e0:sp=0 + (i:Int) + 1
  ·refine yM (xv e0) ?_
   refine ⟨_,rfl,_,_,rfl,rfl,⟨by decide,b3.mono⟩,_,rfl,_,rfl,_,v,ra,n,i + 2,_,rfl,rfl,hR,dr,n1,n3,λv2 H2 s2 B=>?_⟩
   exact ⟨c,ci,v2,false,_,_,_,_,_,rfl,hc,y1.trans s2,c1,by omega,wH.bad B⟩
  refine zr (wM e0) ?_
  refine ⟨_,rfl,_,_,rfl,rfl,(show (3:Int)≠0 by decide),rfl,_,rfl,?_⟩
  by_cases e1':cc.fmod 3=0
  ·refine yM (xv e1') ?_
   have a0:=Int.fmod_nonneg_of_pos x0 (show (0:Int) < 9 by decide)
   have a1:=Int.fmod_lt_of_pos x0 (show (0:Int) < 9 by decide)
   have a2:=Int.fmod_nonneg_of_pos x1 (show (0:Int) < 9 by decide)
   have a3:=Int.fmod_lt_of_pos x1 (show (0:Int) < 9 by decide)
   refine ⟨_,rfl,_,rfl,xa,_,0,_,rfl,rfl,zP.of e1,rfl,_,_,rfl,rfl,(show (9:Int)≠0 by decide),_,_,rfl,rfl,_,rfl,xa,_,1,_,rfl,rfl,zP.of e1,rfl,_,_,rfl,rfl,(show (9:Int)≠0 by decide),?_⟩
   refine uV (C:=ac) (C1:=ad) (C3:=af) (u:=v) (r:=ra) (lo:=.int (x0.fmod 9 - 9)) (hi:=.int (x1.fmod 9)) hR (.int _) (.int _) λx G s R=>⟨rfl,?_⟩
   have bl:Bd 10 (x0.fmod 9 - 9):=by show (x0.fmod 9 - 9).natAbs < 2 ^ 10; omega
   have bh:Bd 10 (x1.fmod 9):=by show (x1.fmod 9).natAbs < 2 ^ 10; omega
   have bc:Bd 20 ci:=by show ci.natAbs < 2 ^ 20; omega
   refine ⟨_,rfl,_,_,rfl,rfl,⟨b3.mono,bc.mono⟩,3 * c,3 * ci,.ref x,g,_,_,_,_,_,rfl,by omega,y1.trans s,by omega,by omega,?_⟩
   exact wH.stp dr hg hb R (by omega) bl.mono bh.mono
  refine zr (wM e1') ?_
  refine ⟨_,rfl,_,rfl,_,rfl,xa,_,rfl,zP.of e1,λd1 hd1=>?_⟩
  rw [Wb _ (b:=n) (by show n<=4; omega)]
  obtain ⟨zs,hzs⟩:∃ zs,zs=([x0,x1,x2,x3]:List Int).take n:=⟨_,rfl⟩
  have lz:zs.length=n:=by rw [hzs,List.length_take]; show min n 4=n; omega
  rw [<- hzs]
  have w1:=zK hd1 (HO.lst (zs.map V.int))
  have ec:=zH (H:=H1) (a:=d1) (o:=HO.lst (zs.map V.int))
  generalize upd H1 d1 (HO.lst (zs.map V.int))=H2 at w1 ec |-
  refine ⟨d1,rfl,⟨_,zP.of ec⟩,xu (K:=K) (a:=d1) (xs:=zs.map V.int) (λi ys σ H'=>ys=((zs.take i).map λx=>x.fmod 19 - 9).map V.int/\(∃ o,σ=[o])/\H'=H2)
   ⟨rfl,⟨none,rfl⟩,rfl⟩ (λi ys σ H' _ ⟨g1,_,g3⟩=>⟨by rw [g3]; exact zP.of ec,by rw [g1,List.length_map,List.length_map,List.length_take]; exact Nat.min_le_left _ _⟩) (xA (by rw [List.length_map]; omega)) ?_ ?_⟩
  ·rintro i x ys σ H' hx ⟨rfl,⟨o,rfl⟩,rfl⟩
   obtain ⟨z,hz,rfl⟩:=uN hx
   refine ⟨_,rfl,_,_,rfl,rfl,(show (19:Int)≠0 by decide),_,_,rfl,rfl,?_,⟨_,rfl⟩,rfl⟩
   rw [xO hz,List.map_append,List.map_append]
   rfl
  rintro ys σ H3 ⟨rfl,⟨o,rfl⟩,rfl⟩ l hl
  rw [List.length_map,List.take_length]
  obtain ⟨rs,hrs⟩:∃ rs,rs=zs.map λx=>x.fmod 19 - 9:=⟨_,rfl⟩
  rw [<- hrs]
  have ln:rs.length=n:=by rw [hrs,List.length_map,lz]
  have w2:=w1.trans (zK hl (HO.lst (rs.map V.int)))
  have el:=zH (H:=H3) (a:=l) (o:=HO.lst (rs.map V.int))
  generalize upd H3 l (HO.lst (rs.map V.int))=H4 at w2 el |-
  refine ⟨_,rfl,_,_,rfl,rfl,⟨by decide,b3.mono⟩,_,_,rfl,rfl,(show (9:Int)≠0 by decide),(by show 1<=sizeLine; decide),λl2 hl2=>?_⟩
  have r0:=Int.fmod_nonneg_of_pos (cc.fdiv 3) (show (0:Int) < 9 by decide)
  have r1:=Int.fmod_lt_of_pos (cc.fdiv 3) (show (0:Int) < 9 by decide)
  obtain ⟨rl,hrl⟩:∃ rl,rl=(cc.fdiv 3).fmod 9:=⟨_,rfl⟩
  rw [<- hrl] at r0 r1 |-
  have w3:=zK hl2 (HO.lst [V.int rl])
  refine ⟨l,l2,_,_,rfl,rfl,w3 _ _ el,zH,xA (by rw [List.length_map,ln]; show n + 1<=900; omega),λl3 hl3=>?_⟩
  have ee:rs.map V.int++[V.int rl]=(rs++[rl]).map V.int:=by rw [List.map_append]; rfl
  rw [ee]
  have w4:=w3.trans (zK hl3 (HO.lst ((rs++[rl]).map V.int)))
  refine ⟨l3,_,rfl,.inl ⟨zP.of zH,λr hr=>?_⟩⟩
  have w5:=w2.trans (w4.trans (zK hr (HO.tup ((rs++[rl]).map V.int))))
  have er:=zH (H:=upd (upd H4 l2 (HO.lst [V.int rl])) l3 (HO.lst ((rs++[rl]).map V.int))) (a:=r) (o:=HO.tup ((rs++[rl]).map V.int))
  generalize upd (upd (upd H4 l2 (HO.lst [V.int rl])) l3 (HO.lst ((rs++[rl]).map V.int))) r (HO.tup ((rs++[rl]).map V.int))=H5 at w5 er |-
  have y5:=y1.trans w5
  have hR:=hR.same w5
  have lr:(rs++[rl]).length=n + 1:=by rw [List.length_append,ln]; rfl
  have br:∀ z∈rs++[rl],Bd 101 z:=λz hz=>by
   rcases List.mem_append.mp hz with hz | hz
   ·rw [hrs] at hz
    obtain ⟨w,_,rfl⟩:=List.mem_map.mp hz
    exact (XJ w).mono
   ·rw [List.mem_singleton.mp hz]
    have:Bd 10 rl:=by show rl.natAbs < 2 ^ 10; omega
    exact this.mono
  refine ⟨_,rfl,_,_,rfl,rfl,⟨by decide,b9.mono⟩,_,rfl,_,n,_,rfl,rfl,n1,n3,λov u H6 s6 hov tu su iu=>?_⟩
  have er:=s6 _ _ er
  have y6:=y5.trans s6
  have hR:=hR.same s6
  have hO:=uU (C:=ac) (by omega) su hov
  have q0:=Int.fmod_nonneg_of_pos cc (show (0:Int) < 2 by decide)
  have q1:=Int.fmod_lt_of_pos cc (show (0:Int) < 2 by decide)
  refine ⟨_,rfl,_,rfl,_,rfl,(by show 2<=sizeLine; decide),λf1 hf1=>?_⟩
  have v1:=zK hf1 (HO.lst [v,ov])
  obtain ⟨va,vb,xa',xb',hva,hvb,hxy,hA,hB⟩:∃ va vb A B,wJ [v,ov] (cc.fmod 2)=some va/\wJ [ov,v] (cc.fmod 2)=some vb/\((A=ra/\B=yz u)\/(A=yz u/\B=ra))/\RV ac ad ae af H6 va A/\RV ac ad ae af H6 vb B:=by
   rcases (show cc.fmod 2=0\/cc.fmod 2=1 by omega) with e | e
   ·rw [e]; exact ⟨v,ov,_,_,rfl,rfl,.inl ⟨rfl,rfl⟩,hR,hO⟩
   ·rw [e]; exact ⟨ov,v,_,_,rfl,rfl,.inr ⟨rfl,rfl⟩,hO,hR⟩
  refine ⟨_,rfl,_,_,rfl,rfl,(show (2:Int)≠0 by decide),f1,_,_,_,rfl,rfl,zP.of zH,hva,?_⟩
  refine ⟨_,rfl,_,rfl,(by show 2<=sizeLine; decide),λf2 hf2=>?_⟩
  have v2:=v1.trans (zK hf2 (HO.lst [ov,v]))
  refine ⟨_,rfl,_,_,rfl,rfl,(show (2:Int)≠0 by decide),f2,_,_,_,rfl,rfl,zP.of zH,hvb,?_⟩
  refine vZ (C:=ac) (C1:=ad) (C2:=ae) (vr:=.ref r) (u:=va) (w:=vb) (R:=yQ (rs++[rl])) (a:=xa') (b:=xb') (j:=2) (vH (v2 _ _ er)) (vI (by omega)) (by decide) (hA.same v2) (hB.same v2) λx G s R=>⟨rfl,?_⟩
  refine ⟨_,rfl,_,_,rfl,rfl,c + 1,ci + 1,.ref x,g,_,_,_,_,_,rfl,by omega,y6.trans (v2.trans s),by omega,by omega,?_⟩
  exact wH.prt dr hg hb tu su iu R hxy lr br
 rintro σ H' ⟨c,ci,v,g,o6,o7,o8,o9,o10,rfl,hc,sm,c1,c3,ra,hR,dr,hg,hb⟩
 have p6:3 ^ (((yy ns 1).fdiv 16).fmod 7).toNat<=3 ^ 6:=Nat.pow_le_pow_right (by decide) (by omega)
 have p7:3 ^ 6=729:=by decide
 refine ⟨_,rfl,_,rfl,_,rfl,(by show 3<=sizeLine; decide),λp hp=>?_⟩
 have z:=zK hp (HO.tup [v,V.bl g,V.int ci])
 refine q p v g ci _ (sm.trans z) zH (λe=>⟨ra,hR.same z,hb e,by omega⟩) (λe=>?_) ⟨by omega,by omega⟩
 obtain ⟨t,rfl,dt,tf,sh,rfl⟩:=hg e
 exact ⟨t,gk (hR.same z),⟨sh,tf,by omega⟩,hc⟩
end
theorem zKc {C1 C2 C3:Addr} {H:Hp} {v:V} {t:RT} (h:xR C1 C2 C3 H v t) (st:gM t=true):∃ (so dxs la:Addr) (l:LF),v=.ref so/\xh C1 H so l dxs la/\t=.str l.ns l.a l.d:=by
 cases t with
 | str ns a d=>
  obtain ⟨o,dx,la,e,h1,h2⟩:=h
  exact ⟨o,dx,la,⟨ns,a,d⟩,e,⟨h1,h2⟩,rfl⟩
 | stp=>cases st
 | prt=>cases st
theorem zK2 {n:Int} {ra:RA} (h:yg n ra=false):we n ra=false:=by
 cases ra with
 | str=>exact h
 | _=>rfl
section
variable {P:Program} {w:World} {K:PySem.W.Frag} {mg:Str->Option Value} {base:Heap}
noncomputable abbrev qH:Stmt:=yI 72
theorem wg:zv ["_law_script","_law_many","_law_rule","_law_good","_law_count","_law_modes","_law_thing_here","_law_way","_law_due","_law_leaf_here","_law_size","_law_wrong"] ["_law_script"] (zW qH):=.a
variable {aRule ad ae af ac au:Addr} (TRule:zQ K mg "Rule" aRule) (ARule:vx K aRule) (ah:zQ K mg "Straight" ad) (ap:vy K ad) (al:zQ K mg "Stopped" ae) (aq:vz K ae) (aj:zQ K mg "Parted" af) (ar:v4 K af) (ag:zQ K mg "Mode" ac) (ai:v5 K ac) (am:zQ K mg "Thing" au) (ao:v6 K au) (Y:v7 K ac ad ae af) {C1 C2:Addr} (Z:vv K mg C1 C2)
include TRule ARule ah ap al aq aj ar ag ai am ao Y Z
theorem zLC {k:Nat} {f:Addr} {fd:FuncData} (F:yA K "law" "law" qH f fd) (B:Bl mg) (aB:Fn P w K mg base "_law_cell_at" ["_law_script","_law_k"] (k + 1) (kK K)) (bA:Fn P w K mg base "_law_case" ["_law_script","_law_many"] (k + 1) (Xf ac ad ae af K)) (aX:Fn P w K mg base "_law_thing" ["_law_many","_law_modes"] (k + 1) (XZ au ac)) (aH:Fn P w K mg base "_law_said" ["_law_way","_law_thing_here","_law_rule","_law_size"] (k + 1) (XX ad ae af au ac)) (aN:Fn P w K mg base "_law_leaf" ["_law_cell","_law_many"] (k + 1) (ZD ad ae af)) (aT:Fn P w K mg base "_law_no_leaf" ["_law_cell","_law_many"] (k + 1) (ZE ac ad ae af)) (ax:xk P w K mg base af ["self","row","rule","other"] k (jZ ac af)) (aA:xk P w K mg base ae ["self","rule","low","high"] k (jY ae)):zL P w K mg base zj (k + 1 + 1) f fd ["_law_script"] (qt K):=by
 refine F.ok wg (λvs H Q E h=>?_) (λcdv A outer s H vs Q E hr h=>?_)
 ·obtain ⟨_,_,rfl,_⟩:=h
  rfl
 obtain ⟨a,ns,rfl,hS,lns,q⟩:=h
 refine ⟨_,(zS (zp (i:=1) wg.nd rfl (Or.inl rfl) (zR (yF xi) zJ (zR (ji yx) (zZ aB hr rfl (zA (zB 0) (zA zJ zE))) zJ)))
  (zS (UW (zZ bA hr rfl (zA (zB 0) (zA (zB 1) zE))) (vf rfl (xW (zu (i:=2) wg.nd rfl (Or.inl rfl)) (xW (zu (i:=3) wg.nd rfl (Or.inl rfl)) (xW (zu (i:=4) wg.nd rfl (Or.inl rfl)) ve)))))
  (zS (zp (i:=5) wg.nd rfl (Or.inl rfl) (zR (yF xi) zJ (zR (ji yx) (zR (ji u9) (zZ aB hr rfl (zA (zB 0) (zA zJ zE))) zJ) zJ)))
  (zS (zp (i:=6) wg.nd rfl (Or.inl rfl) (zZ aX hr rfl (zA (zB 1) (zA (zB 5) zE))))
  (zS (vj PassesOwn.never rfl (vg rfl B.range_ (zA zJ zE)) (zu (i:=7) wg.nd rfl (Or.inl rfl)) (zS (zp (i:=8) wg.nd rfl (Or.inl rfl) xV)
   (zS (yT (xo (yo (zB 3))) (zX (zp (i:=8) wg.nd rfl (Or.inl rfl) xV)) (zX (yT (PW.pt (wT (yp (yF uz) (zB 4) zJ (yS _)) (wT (PW.pt (Xo (yp (yF uz) (zB 7) zJ (yS _)) (Xn (yp (yF uz) (zR (ji vD) (zB 4) (zB 5)) zJ (yS _))))) (wp (PW.pt (Xo (yp wQ (zB 7) zJ (yS _)) (Xn (yp wQ (zB 1) zJ (yS _))))))))) (zX (zp (i:=8) wg.nd rfl (Or.inl rfl) xV)) yc)))
   (zX (yT (yp uy (zZ aH hr rfl (zA (zB 7) (zA (zB 6) (zA (zB 2) (zA zJ zE))))) (zB 8) (yS _)) (zX (zo xK)) yc)))))
  (zS (zp (i:=9) wg.nd rfl (Or.inl rfl) (zZ aN hr rfl (zA (zZ aB hr rfl (zA (zB 0) (zA zJ zE))) (zA (zB 1) zE))))
  (zS (yT (PW.pt (wT (yp uy (zZ aH hr rfl (zA zJ (zA (zB 6) (zA (zB 9) (zA (zR (yF xi) zJ (zR (ji yx) (zZ aB hr rfl (zA (zB 0) (zA zJ zE))) zJ)) zE))))) xV (yS _)) (wp (yp uy (zZ aH hr rfl (zA zJ (zA (zB 6) (zA (zB 9) (zA zJ zE))))) xV (yS _))))) (zX (zo xK)) yc)
  (zS (vj PassesOwn.never rfl (xB (yD (zA zJ (zA (zR (yF wj) zJ zJ) (zA vM (zA xK (zA xV zE))))))) (zu (i:=10) wg.nd rfl (Or.inl rfl)) (zX (yT (yp uy (zZ aH hr rfl (zA zJ (zA (zB 6) (zA (zB 9) (zA (zB 10) zE))))) xV (yS _)) (zX (zo xK)) yc)))
  (zS (zp (i:=11) wg.nd rfl (Or.inl rfl) (yD (zA (zZ aT hr rfl (zA (zZ aB hr rfl (zA (zB 0) (zA zJ zE))) (zA (zB 1) zE))) zE)))
  (zS (zp (i:=11) wg.nd rfl (Or.inl rfl) (zR zk (zB 11) (yD (zA (yN aA al hr rfl (zA (zB 9) (zA zJ (zA zJ zE)))) (zA (yN ax aj hr rfl (zA (zR WS (wY (zA zJ zE)) (zR (yF xi) (zB 1) zJ)) (zA (zB 9) (zA (zB 9) zE)))) zE)))))
  (zS (yT (yp uy (zZ aH hr rfl (zA zJ (zA (zB 6) (zA (wK vF (zB 11) (zR (ji yx) (zZ aB hr rfl (zA (zB 0) (zA zJ zE))) zJ) (λ_ _=>rfl)) (zA zJ zE))))) xV (yS _)) (zX (zo xK)) yc)
  (zX (zo (uE wQ (zZ aH hr rfl (zA zJ (zA (zZ aX hr rfl (zA (zR (yF xi) zJ (zR (ji yx) (zB 1) zJ)) (zA zJ zE))) (zA (zB 9) (zA zJ zE))))) xV (yS _))))))))))))))),?_⟩
 try dsimp only [zM,Cx.nox,Cx.wish]
 have b3:Bd 4 (3:Int):=Bd.lit
 have u0:=Int.fmod_nonneg_of_pos (yy ns 0) (show (0:Int) < 3 by decide)
 have u1:=Int.fmod_lt_of_pos (yy ns 0) (show (0:Int) < 3 by decide)
 have u2:=Int.fmod_nonneg_of_pos ((yy ns 0).fdiv 3) (show (0:Int) < 5 by decide)
 have u3:=Int.fmod_lt_of_pos ((yy ns 0).fdiv 3) (show (0:Int) < 5 by decide)
 obtain ⟨n,hn,n1,n3⟩:∃ n:Nat,1 + (yy ns 0).fmod 3=(n:Int)/\1<=n/\n<=3:=⟨(1 + (yy ns 0).fmod 3).toNat,by omega,by omega,by omega⟩
 obtain ⟨k,hk,k1,k5⟩:∃ k:Nat,1 + ((yy ns 0).fdiv 3).fmod 5=(k:Int)/\1<=k/\k<=5:=⟨(1 + ((yy ns 0).fdiv 3).fmod 5).toNat,by omega,by omega,by omega⟩
 refine ⟨_,rfl,a,ns,0,rfl,hS,(by decide),_,_,rfl,rfl,(show (3:Int)≠0 by decide),_,_,rfl,rfl,?_⟩
 rw [hn]
 refine ⟨_,rfl,_,rfl,a,ns,n,_,rfl,rfl,hS,n1,n3,λp v g ci H1 s1 ep hB hG hci=>?_⟩
 refine ⟨p,_,rfl,zn.of ep,rfl,_,_,rfl,_,_,rfl,_,_,rfl,rfl,?_⟩
 refine ⟨_,rfl,a,ns,0,rfl,s1.seq hS,(by decide),_,_,rfl,rfl,⟨by decide,b3.mono⟩,_,_,rfl,rfl,(show (5:Int)≠0 by decide),_,_,rfl,rfl,?_⟩
 rw [hk]
 refine ⟨_,rfl,_,rfl,n,k,_,_,rfl,rfl,rfl,n1,n3,k1,k5,λo kp km bs ms pv mv H2 s2 TA TB lk=>?_⟩
 have y2:=s1.trans s2
 have hB:=λe=>(hB e).same s2
 have hG:g=true->∃ t,xR ad ae af H2 v t/\wO n t/\ci=(zg t:Int):=λe=>let ⟨t,x,y,z⟩:=hG e; ⟨t,x.same s2,y,z⟩
 refine ⟨3,rfl,(by decide),(by decide),gy (lo:=0) (n:=(3:Int).toNat) (λi σ H'=>∃ o7 o8:Option V,σ=[some (.ref a),some (.int (n:Int)),some v,some (.bl g),some (.int ci),some (.int (k:Int)),some (.ref o),o7,o8,none,none,none]/\zC H2 H') ⟨none,none,rfl,zC.refl _⟩ ?_ ?_⟩
 ·rintro i σ H' hi ⟨o7,o8,rfl,sm⟩
  have hi:i < 3:=hi
  dsimp only [wB]
  refine Xe (R:=λσ J=>J=H'/\σ=[some (.ref a),some (.int (n:Int)),some v,some (.bl g),some (.int ci),some (.int (k:Int)),some (.ref o),some (.int (0 + (i:Int))),some (.str "told"),none,none,none]) (λN hN=>hN _ _ ⟨rfl,rfl⟩) ?_
  rintro σ J ⟨rfl,rfl⟩
  obtain ⟨due,hdue⟩:∃ due:Str,due=if g=true then (if 60 < ci\/(0 < 0 + (i:Int)/\40 < ci * (k:Int))\/(0 + (i:Int)=2/\n=3) then "many" else "told") else "bad":=⟨_,rfl⟩
  have hdue0:=hdue
  refine Xe (R:=λσ L=>L=J/\σ=[some (.ref a),some (.int (n:Int)),some v,some (.bl g),some (.int ci),some (.int (k:Int)),some (.ref o),some (.int (0 + (i:Int))),some (.str due),none,none,none]) (λN hN=>?_) ?_
  ·refine ⟨_,rfl,_,rfl,?_⟩
   cases g with
   | false=>
    rw [if_neg (by decide)] at hdue
    subst hdue
    exact yM rfl (hN _ _ ⟨rfl,rfl⟩)
   | true=>
    rw [if_pos rfl] at hdue
    refine zr rfl ?_
    refine ⟨_,rfl,_,_,rfl,rfl,_,rfl,?_⟩
    by_cases c1:ci > 60
    ·rw [if_pos (.inl c1)] at hdue
     subst hdue
     exact yM (decide_eq_true c1) (yM rfl (hN _ _ ⟨rfl,rfl⟩))
    refine zr (decide_eq_false c1) ?_
    refine ⟨_,rfl,_,_,rfl,rfl,_,rfl,?_⟩
    by_cases c2:0 + (i:Int) > 0
    ·have bc:Bd 20 ci:=by show ci.natAbs < 2 ^ 20; omega
     have bk:Bd 20 (k:Int):=by show (k:Int).natAbs < 2 ^ 20; omega
     refine yM (decide_eq_true c2) ⟨_,rfl,_,rfl,_,_,rfl,rfl,⟨bc.mono,bk.mono⟩,_,_,rfl,rfl,_,rfl,?_⟩
     by_cases c3:ci * (k:Int) > 40
     ·rw [if_pos (.inr (.inl ⟨c2,c3⟩))] at hdue
      subst hdue
      exact yM (decide_eq_true c3) (yM rfl (hN _ _ ⟨rfl,rfl⟩))
     refine zr (decide_eq_false c3) ?_
     refine ⟨_,rfl,rfl,_,rfl,?_⟩
     by_cases c4:0 + (i:Int)=2
     ·refine yM (xv c4) ⟨_,rfl,rfl,_,rfl,?_⟩
      by_cases c5:(n:Int)=3
      ·rw [if_pos (.inr (.inr ⟨by omega,by omega⟩))] at hdue
       subst hdue
       exact yM (xv c5) (hN _ _ ⟨rfl,rfl⟩)
      ·rw [if_neg (by omega)] at hdue
       subst hdue
       exact zr (wM c5) (hN _ _ ⟨rfl,rfl⟩)
     ·rw [if_neg (by omega)] at hdue
      subst hdue
      exact zr (wM c4) (zr rfl (hN _ _ ⟨rfl,rfl⟩))
    refine zr (decide_eq_false c2) (zr rfl ?_)
    refine ⟨_,rfl,rfl,_,rfl,?_⟩
    by_cases c4:0 + (i:Int)=2
    ·refine yM (xv c4) ⟨_,rfl,rfl,_,rfl,?_⟩
     by_cases c5:(n:Int)=3
     ·rw [if_pos (.inr (.inr ⟨by omega,by omega⟩))] at hdue
      subst hdue
      exact yM (xv c5) (hN _ _ ⟨rfl,rfl⟩)
     ·rw [if_neg (by omega)] at hdue
      subst hdue
      exact zr (wM c5) (hN _ _ ⟨rfl,rfl⟩)
    ·rw [if_neg (by omega)] at hdue
     subst hdue
     exact zr (wM c4) (zr rfl (hN _ _ ⟨rfl,rfl⟩))
  rintro σ L ⟨rfl,rfl⟩
  have W:(zY ac ad ae af n 8 L v/\due = "bad")\/(∃ t,xR ad ae af L v t/\wO n t/\due=if 60 < zg t\/(0 < 0 + (i:Int)/\40 < ms.length * zg t)\/(0 + (i:Int)=2/\n=3) then "many" else "told"):=by
   cases g with
   | false=>
    rw [if_neg (by decide)] at hdue0
    exact .inl ⟨(hB rfl).same sm,hdue0⟩
   | true=>
    rw [if_pos rfl] at hdue0
    obtain ⟨t,hR,RU,hct⟩:=hG rfl
    have hm:ci * (k:Int)=((ms.length * zg t:Nat):Int):=by rw [hct,<- lk,Int.natCast_mul,Int.mul_comm]
    refine .inr ⟨t,hR.same sm,RU,?_⟩
    rw [hdue0]
    by_cases c:60 < zg t\/(0 < 0 + (i:Int)/\40 < ms.length * zg t)\/(0 + (i:Int)=2/\n=3)
    ·rw [if_pos c,if_pos (by rcases c with c | ⟨c,d⟩ | c; exact .inl (by omega); exact .inr (.inl ⟨c,by omega⟩); exact .inr (.inr c))]
    ·rw [if_neg c,if_neg (λz=>c (by rcases z with z | ⟨z,d⟩ | z; exact .inl (by omega); exact .inr (.inl ⟨z,by omega⟩); exact .inr (.inr z)))]
  refine ⟨_,rfl,_,rfl,_,rfl,0 + (i:Int),o,kp,km,v,.int 1,n,bs,ms,pv,mv,due,rfl,TA.same sm,TB,.inl ⟨⟨by omega,by omega⟩,W⟩,λH9 s9=>?_⟩
  exact ⟨_,rfl,rfl,_,rfl,zr (by rw [decide_eq_true rfl]; rfl) ⟨_,_,rfl,sm.trans s9⟩⟩
 rintro σ H3 ⟨o7,o8,rfl,sm3⟩
 have y3:=y2.trans sm3
 have TA:=TA.same sm3
 clear hB hG
 refine ⟨_,rfl,a,ns,10,rfl,y3.seq hS,(by decide),_,rfl,_,n,_,rfl,rfl,n1,n3,λlv t H4 s4 hlv tf sh st=>?_⟩
 have y4:=y3.trans s4
 have TA:=TA.same s4
 obtain ⟨so,dxs,la,l,rfl,SA,et⟩:=zKc hlv st
 obtain ⟨dt,ct⟩:=UJ st
 have RU:wO n t:=⟨sh,tf,by omega⟩
 have pb:PB n ([],l):=RU.pb _ (by rw [et]; exact List.mem_singleton.mpr rfl)
 have w0:=Int.fmod_nonneg_of_pos (yy ns 11) (show (0:Int) < 9 by decide)
 refine ⟨_,rfl,_,rfl,_,rfl,a,ns,11,rfl,y4.seq hS,(by decide),_,_,rfl,rfl,(show (9:Int)≠0 by decide),_,_,rfl,rfl,3,o,kp,km,.ref so,_,n,bs,ms,pv,mv,"told",rfl,TA,TB,.inr ⟨rfl,.inr ⟨so,dxs,la,l,rfl,SA,pb,.inr ⟨_,rfl,by omega,rfl⟩⟩⟩,λH5 s5=>⟨rfl,_,rfl,zr rfl ?_⟩⟩
 have y5:=y4.trans s5
 refine ⟨_,rfl,_,rfl,1,o,kp,km,.ref so,.int 1,n,bs,ms,pv,mv,"told",rfl,TA.same s5,TB,.inl ⟨⟨by decide,by decide⟩,.inr ⟨t,hlv.same s5,RU,by rw [if_neg (by rw [ct]; omega)]⟩⟩,λH6 s6=>⟨rfl,_,rfl,zr rfl ?_⟩⟩
 have s46:=s5.trans s6
 have y6:=y5.trans s6
 have TA:=TA.same s46
 have hlv:=hlv.same s46
 have SA:=SA.same s46
 refine ⟨_,_,rfl,rfl,(by show 5<=sizeLine; decide),λzl hzl=>?_⟩
 have wz:=zK hzl (HO.lst [V.int 0,V.int (0 - 1),V.non,V.bl true,V.str (Str.ofString "1")])
 have ez:=zH (H:=H6) (a:=zl) (o:=HO.lst [V.int 0,V.int (0 - 1),V.non,V.bl true,V.str (Str.ofString "1")])
 have y7:=y6.trans wz
 have TA:=TA.same wz
 have hlv:=hlv.same wz
 have SA:=SA.same wz
 generalize upd H6 zl (HO.lst [V.int 0,V.int (0 - 1),V.non,V.bl true,V.str (Str.ofString "1")])=H7 at wz ez y7 TA hlv SA |-
 refine ⟨zl,rfl,⟨_,zP.of ez⟩,jj (K:=K) (a:=zl) (xs:=[V.int 0,V.int (0 - 1),V.non,V.bl true,V.str (Str.ofString "1")]) (λi σ H'=>∃ o10:Option V,σ=[some (.ref a),some (.int (n:Int)),some v,some (.bl g),some (.int ci),some (.int (k:Int)),some (.ref o),o7,o8,some (.ref so),o10,none]/\zC H7 H') ⟨none,rfl,zC.refl _⟩ (λi σ H' _ ⟨_,_,sz⟩=>zP.of (sz _ _ ez)) ?_ ?_⟩
 ·rintro i x σ H' hx ⟨o10,rfl,sm⟩
  obtain ⟨ak,hak,hdv⟩:∃ ak,AV ac H' x ak/\xx ak=false:=by
   have hm:=List.mem_of_getElem? hx
   simp only [List.mem_cons,List.not_mem_nil,or_false] at hm
   rcases hm with rfl | rfl | rfl | rfl | rfl
   ·exact ⟨_,.int _,rfl⟩
   ·exact ⟨_,.int _,rfl⟩
   ·exact ⟨_,.non,rfl⟩
   ·exact ⟨_,.bool _,rfl⟩
   ·exact ⟨_,.str _,rfl⟩
  exact ⟨_,rfl,_,rfl,_,rfl,3,o,kp,km,.ref so,x,n,bs,ms,pv,mv,"bad",rfl,TA.same sm,TB,.inr ⟨rfl,.inr ⟨so,dxs,la,l,rfl,SA.same sm,pb,.inl ⟨ak,hak,hdv,rfl⟩⟩⟩,λH9 s9=>⟨rfl,_,rfl,zr rfl ⟨_,rfl,sm.trans s9⟩⟩⟩
 rintro σ H8 ⟨o10,rfl,sm8⟩
 have y8:=y7.trans sm8
 have TA:=TA.same sm8
 have hlv:=hlv.same sm8
 refine ⟨_,rfl,a,ns,10,rfl,y8.seq hS,(by decide),_,rfl,_,n,_,rfl,rfl,n1,n3,λbv H9 s9 BV=>⟨(by show 1<=sizeLine; decide),λwl hwl=>?_⟩⟩
 obtain ⟨rb,hrb,rbf,_⟩:=BV
 have v1:=zK hwl (HO.lst [bv])
 have ew:=zH (H:=H9) (a:=wl) (o:=HO.lst [bv])
 have y10:=y8.trans (s9.trans v1)
 have TA:=TA.same (s9.trans v1)
 have hlv:=hlv.same (s9.trans v1)
 have hrb:=hrb.same v1
 generalize upd H9 wl (HO.lst [bv])=H10 at v1 ew y10 TA hlv hrb |-
 have RL:=uU (C:=ac) (by omega) sh hlv
 refine ⟨_,rfl,_,rfl,?_⟩
 refine uV (C:=ac) (C1:=ad) (C3:=af) (u:=.ref so) (r:=yz t) (lo:=.int 0) (hi:=.int 1) RL (.int _) (.int _) λx1 J1 z1 R1=>⟨rfl,?_⟩
 refine ⟨(by show 1<=sizeLine; decide),λt0 ht0=>?_⟩
 have p8:=zK ht0 (HO.tup [V.int 0])
 refine ⟨_,rfl,_,_,rfl,rfl,t0,_,_,rfl,rfl,zn.of zH,(by nofun),(by omega),(by omega),(by show 1<=1000; decide),λt1 ht1=>?_⟩
 have er:(List.replicate ((n:Int) + 1).toNat [V.int 0]).flatten=(List.replicate (n + 1) (0:Int)).map V.int:=by rw [show ((n:Int) + 1).toNat=n + 1 by omega]; exact XT _
 rw [er]
 have p9:=p8.trans (zK ht1 (HO.tup ((List.replicate (n + 1) (0:Int)).map V.int)))
 have eR:=zH (H:=upd J1 t0 (HO.tup [V.int 0])) (a:=t1) (o:=HO.tup ((List.replicate (n + 1) (0:Int)).map V.int))
 generalize upd (upd J1 t0 (HO.tup [V.int 0])) t1 (HO.tup ((List.replicate (n + 1) (0:Int)).map V.int))=J2 at p9 eR |-
 refine ⟨_,rfl,_,rfl,?_⟩
 refine vZ (C:=ac) (C1:=ad) (C2:=ae) (vr:=.ref t1) (u:=.ref so) (w:=.ref so) (a:=yz t) (b:=yz t) (R:=yQ (List.replicate (n + 1) 0)) (j:=2) (vH eR) (vI (by rw [List.length_replicate]; omega)) (by decide) (RL.same (z1.trans p9)) (RL.same (z1.trans p9)) λx2 J3 z3 R2=>⟨rfl,?_⟩
 refine ⟨(by show 2<=sizeLine; decide),λwl2 hwl2=>?_⟩
 have v2:=zK hwl2 (HO.lst [V.ref x1,V.ref x2])
 have z13:=z1.trans (p9.trans z3)
 refine ⟨wl,wl2,_,_,rfl,rfl,(z13.trans v2) _ _ ew,zH,xA (by show 1 + 2<=900; decide),λwl3 hwl3=>?_⟩
 have v3:=v2.trans (zK hwl3 (HO.lst ([bv]++[V.ref x1,V.ref x2])))
 have e3:=zH (H:=upd J3 wl2 (HO.lst [V.ref x1,V.ref x2])) (a:=wl3) (o:=HO.lst ([bv]++[V.ref x1,V.ref x2]))
 have y11:=y10.trans (z13.trans v3)
 have TA:=TA.same (z13.trans v3)
 have hlv:=hlv.same (z13.trans v3)
 have hrb:=hrb.same (z13.trans v3)
 have R1:=R1.same (p9.trans (z3.trans v3))
 have R2:=R2.same v3
 generalize upd (upd J3 wl2 (HO.lst [V.ref x1,V.ref x2])) wl3 (HO.lst ([bv]++[V.ref x1,V.ref x2]))=J4 at v3 e3 y11 TA hlv hrb R1 R2 |-
 have q0:=Int.fmod_nonneg_of_pos (yy ns 11) (show (0:Int) < 3 by decide)
 have q1:=Int.fmod_lt_of_pos (yy ns 11) (show (0:Int) < 3 by decide)
 obtain ⟨wv,rw',hat,hrw,hno⟩:∃ wv ra,wJ ([bv]++[V.ref x1,V.ref x2]) ((yy ns 11).fmod 3)=some wv/\RV ac ad ae af J4 wv ra/\we (n:Int) ra=false:=by
  rcases (show (yy ns 11).fmod 3=0\/(yy ns 11).fmod 3=1\/(yy ns 11).fmod 3=2 by omega) with e | e | e
  ·rw [e]; exact ⟨bv,_,rfl,hrb,zK2 rbf⟩
  ·rw [e]; exact ⟨_,_,rfl,R1,rfl⟩
  ·rw [e]; exact ⟨_,_,rfl,R2,rfl⟩
 refine ⟨_,rfl,_,rfl,_,rfl,a,ns,11,rfl,y11.seq hS,(by decide),_,_,rfl,rfl,(show (3:Int)≠0 by decide),wl3,_,_,_,rfl,rfl,zP.of e3,hat,?_⟩
 refine ⟨3,o,kp,km,wv,.int 1,n,bs,ms,pv,mv,"bad",rfl,TA,TB,.inr ⟨rfl,.inl ⟨rw',hrw,hno,rfl⟩⟩,λJ5 s5'=>⟨rfl,_,rfl,zr rfl ?_⟩⟩
 have hlv:=hlv.same s5'
 have g0:=Int.fmod_nonneg_of_pos (n:Int) (show (0:Int) < 3 by decide)
 have g1:=Int.fmod_lt_of_pos (n:Int) (show (0:Int) < 3 by decide)
 obtain ⟨n2,hn2,n21,n23,nn⟩:∃ n2:Nat,1 + (n:Int).fmod 3=(n2:Int)/\1<=n2/\n2<=3/\n≠n2:=by
  rcases (show n=1\/n=2\/n=3 by omega) with rfl | rfl | rfl
  ·exact ⟨2,rfl,by decide,by decide,by decide⟩
  ·exact ⟨3,rfl,by decide,by decide,by decide⟩
  ·exact ⟨1,rfl,by decide,by decide,by decide⟩
 refine ⟨_,rfl,_,_,rfl,rfl,(show (3:Int)≠0 by decide),_,_,rfl,rfl,n2,1,_,_,rfl,hn2,rfl,n21,n23,by decide,by decide,λo2 kp2 km2 bs2 ms2 pv2 mv2 J6 s6' TA2 TB2 _=>?_⟩
 have hlv:=hlv.same s6'
 have bad:zY ac ad ae af n2 8 J6 (.ref so):=⟨yz t,uU (by omega) sh hlv,by rw [et]; exact qG (XS (by rw [List.length_map]; have:=pb.len; have:l.ns.length=n:=this; omega)),by rw [j8,dt]; decide⟩
 refine ⟨_,rfl,0,o2,kp2,km2,.ref so,.int 1,n2,bs2,ms2,pv2,mv2,"bad",rfl,TA2,TB2,.inl ⟨⟨by decide,by decide⟩,.inl ⟨bad,rfl⟩⟩,λJ7 _=>⟨rfl,?_⟩⟩
 exact q J7
end
end K24
namespace L2
open PySem PySem.Spec PyProof.Rows
theorem qI {α:Type} {P:List α->Prop} (h:∀ x0:α,P [x0]):∀ us:List α,us.length=1->P us
 | [x0],_=>h x0
theorem jg {α:Type} {P:List α->Prop} (h:∀ x0 x1:α,P [x0,x1]):∀ us:List α,us.length=2->P us
 | [x0,x1],_=>h x0 x1
theorem qJ {α:Type} {P:List α->Prop} (h:∀ x0 x1 x2:α,P [x0,x1,x2]):∀ us:List α,us.length=3->P us
 | [x0,x1,x2],_=>h x0 x1 x2
theorem jh {α:Type} {P:List α->Prop} (h:∀ x0 x1 x2 x3:α,P [x0,x1,x2,x3]):∀ us:List α,us.length=4->P us
 | [x0,x1,x2,x3],_=>h x0 x1 x2 x3
theorem qK {α:Type} {P:List α->Prop} (h:∀ x0 x1 x2 x3 x4 x5 x6:α,P [x0,x1,x2,x3,x4,x5,x6]):∀ us:List α,us.length=7->P us
 | [x0,x1,x2,x3,x4,x5,x6],_=>h x0 x1 x2 x3 x4 x5 x6
structure Gf (K:W.Frag) (x:Str) (st:Stmt) (f:Addr) (fd:FuncData):Prop where
 at_:W.nsIn K mainGlobals x=some (some (.ref f))
 F:yA K x x st f fd
noncomputable abbrev Ge (K:W.Frag) (x:Str) (st:Stmt):Prop:=∃ f fd,Gf K x st f fd
structure Gm (K:W.Frag) (C:Addr) (x q:Str) (st:Stmt) (f:Addr) (fd:FuncData):Prop where
 at_:W.findIn K (.ref C) x=some (some (.ref f))
 fn:W.isFn K (.ref f)=true
 F:yA K x q st f fd
noncomputable abbrev Gn (K:W.Frag) (C:Addr) (x q:Str) (st:Stmt):Prop:=∃ f fd,Gm K C x q st f fd
structure Gd (K:W.Frag) (x:Str) (st:Stmt) (f:Addr) (fd:FuncData) (d:Value):Prop where
 at_:W.nsIn K mainGlobals x=some (some (.ref f))
 F:yt K x x st f fd d
noncomputable abbrev Gi (K:W.Frag) (x:Str) (st:Stmt) (i:Int):Prop:=∃ f fd t,Gd K x st f fd (.int i t)
structure Gk (K:W.Frag) (C:Addr) (x q:Str) (st:Stmt) (f:Addr) (fd:FuncData) (d:Value):Prop where
 at_:W.findIn K (.ref C) x=some (some (.ref f))
 fn:W.isFn K (.ref f)=true
 F:yt K x q st f fd d
noncomputable abbrev Gj (K:W.Frag) (C:Addr) (x q:Str) (st:Stmt) (i:Int):Prop:=∃ f fd t,Gk K C x q st f fd (.int i t)
structure Gc (K:W.Frag) (x:Str) (C:Addr):Prop where
 nm:W.nsIn K mainGlobals x=some (some (.ref C))
 pg:W.plainGet K C Str.empty=true
 hd:W.hasDictIn K C=true
 po:W.plainOver K C=true
 sa:W.findIn K (.ref C) "__setattr__" = some (some (.builtin "object.__setattr__"))
 mk_:W.makesIn K C=true
 kc:W.keepIn K (.ref C)=true
 ha:W.findIn K (.ref C) "__class__" = some (some (.builtin "object.__class__"))
 hn:W.specialIn K (.builtin "object.__class__") "__get__" = some (some (.builtin "getset_descriptor.__get__"))
 tk:W.takesIn K (.builtin "object.__class__")=some true
 hm:W.mroIn K C (.type "object")=some true
section
variable {P:Program} {w:World} {K:W.Frag} {mg:Str->Option Value} {base h:Heap} {x q:Str} {st:Stmt} {f C T:Addr} {fd:FuncData} {ps:List Str} {k:Nat} {sp:Sp} {oc kV doc pm cdv ct oT:Value} {od an dT:Option Addr} {osl sT:Array (Option Value)}
theorem gn (a:W.nsIn K mainGlobals x=some (some (.ref f))) (l:K.lookup f=some ⟨oc,od,.func (W.fnOf x x (xq st) (xD st) (zW st) .none kV doc pm an cdv ct),osl⟩) (c:W.codeIn K cdv x=true) (k:W.keepIn K (.ref f)=true):Ge K x st:=⟨f,_,a,WF l c k⟩
theorem gp (a:W.findIn K (.ref C) x=some (some (.ref f))) (i:W.isFn K (.ref f)=true) (l:K.lookup f=some ⟨oc,od,.func (W.fnOf x q (xq st) (xD st) (zW st) .none kV doc pm an cdv ct),osl⟩) (c:W.codeIn K cdv q=true) (k:W.keepIn K (.ref f)=true):Gn K C x q st:=⟨f,_,a,i,WF l c k⟩
theorem gq {i:Int} {t:Tok} {n:Nat} (a:W.nsIn K mainGlobals x=some (some (.ref f))) (l:K.lookup f=some ⟨oc,od,.func (W.fnOf x x (xq st) (xD st) (zW st) (.ref T) kV doc pm an cdv ct),osl⟩) (c:W.codeIn K cdv x=true) (k:W.keepIn K (.ref f)=true) (d:K.lookup T=some ⟨oT,dT,.seq #[.int i t] n,sT⟩):Gi K x st i:=⟨f,_,t,a,WN l c k d rfl⟩
theorem gr {i:Int} {t:Tok} {n:Nat} (a:W.findIn K (.ref C) x=some (some (.ref f))) (z:W.isFn K (.ref f)=true) (l:K.lookup f=some ⟨oc,od,.func (W.fnOf x q (xq st) (xD st) (zW st) (.ref T) kV doc pm an cdv ct),osl⟩) (c:W.codeIn K cdv q=true) (k:W.keepIn K (.ref f)=true) (d:K.lookup T=some ⟨oT,dT,.seq #[.int i t] n,sT⟩):Gj K C x q st i:=⟨f,_,t,a,z,WN l c k d rfl⟩
theorem Gc.cls (g:Gc K x C) (X:K.In h) (G:h.Ns mainGlobals mg):zQ K mg x C:=⟨⟨g.pg,g.hd,g.po,g.sa⟩,W.mg_of X G g.nm,g.ha,g.hn,g.tk,g.hm⟩
noncomputable abbrev Bn (x q:Str) (st:Stmt) (ps:List Str):Prop:=∀ (kV doc pm:Value) (an:Option Addr) (cdv ct:Value) (us:List Value),us.length=ps.length->bindArgs (W.fnOf x q (xq st) (xD st) (zW st) .none kV doc pm an cdv ct) ⟨us,[]⟩=pure (ps.zip us)
structure Wh (P:Program) (w:World) (K:W.Frag) (mg:Str->Option Value) (base h:Heap):Prop where
 X:K.In h
 G:h.Ns mainGlobals mg
theorem Gf.fn (g:Gf K x st f fd) (Y:Wh P w K mg base h) (o:zL P w K mg base zj k f fd ps sp) (b:Bn x x st ps:=by intro _ _ _ _ _ _; first | exact L2.qI λ_=>rfl | exact L2.jg λ_ _=>rfl | exact L2.qJ λ_ _ _=>rfl | exact L2.jh λ_ _ _ _=>rfl | exact L2.qK λ_ _ _ _ _ _ _=>rfl):Fn P w K mg base x ps k sp:=⟨f,fd,o,W.mg_of Y.X Y.G g.at_,g.F.kp,g.F.binds b⟩
theorem Gf.fx (g:Gf K x st f fd) (Y:Wh P w K mg base h) (o:zL P w K mg base (yL P w) k f fd ps sp) (b:Bn x x st ps:=by intro _ _ _ _ _ _; first | exact L2.qI λ_=>rfl | exact L2.jg λ_ _=>rfl | exact L2.qJ λ_ _ _=>rfl | exact L2.jh λ_ _ _ _=>rfl | exact L2.qK λ_ _ _ _ _ _ _=>rfl):vG P w K mg base x ps k sp:=⟨f,fd,o,W.mg_of Y.X Y.G g.at_,g.F.kp,g.F.binds b⟩
theorem Gm.fm (g:Gm K C x q st f fd) (_:Wh P w K mg base h) (o:zL P w K mg base zj k f fd ps sp) (b:Bn x q st ps:=by intro _ _ _ _ _ _; first | exact L2.qI λ_=>rfl | exact L2.jg λ_ _=>rfl | exact L2.qJ λ_ _ _=>rfl | exact L2.jh λ_ _ _ _=>rfl | exact L2.qK λ_ _ _ _ _ _ _=>rfl):vQ P w K mg base C x ps k sp:=⟨f,fd,o,⟨g.at_,g.fn,g.F.kp⟩,g.F.binds b⟩
theorem Gm.fc {y:Str} (g:Gm K C "__init__" q st f fd) (_:Wh P w K mg base h) (c:Gc K y C) (o:zL P w K mg base zj k f fd ps sp) (b:Bn "__init__" q st ps:=by intro _ _ _ _ _ _; first | exact L2.qI λ_=>rfl | exact L2.jg λ_ _=>rfl | exact L2.qJ λ_ _ _=>rfl | exact L2.jh λ_ _ _ _=>rfl | exact L2.qK λ_ _ _ _ _ _ _=>rfl):xk P w K mg base C ps k sp:=⟨f,fd,o,⟨c.mk_,g.at_,g.fn,c.kc⟩,g.F.binds b⟩
theorem Gm.fcx {y:Str} (g:Gm K C "__init__" q st f fd) (_:Wh P w K mg base h) (c:Gc K y C) (o:zL P w K mg base (yL P w) k f fd ps sp) (b:Bn "__init__" q st ps:=by intro _ _ _ _ _ _; first | exact L2.qI λ_=>rfl | exact L2.jg λ_ _=>rfl | exact L2.qJ λ_ _ _=>rfl | exact L2.jh λ_ _ _ _=>rfl | exact L2.qK λ_ _ _ _ _ _ _=>rfl):xQ P w K mg base C ps k sp:=⟨f,fd,o,⟨c.mk_,g.at_,g.fn,c.kc⟩,g.F.binds b⟩
theorem Gf.fh {spH:Addr->Sp} (g:Gf K x st f fd) (Y:Wh P w K mg base h) (o:jU P w K mg base zj k f fd ps spH) (b:Bn x x st ps:=by intro _ _ _ _ _ _; first | exact L2.qI λ_=>rfl | exact L2.jg λ_ _=>rfl | exact L2.qJ λ_ _ _=>rfl | exact L2.jh λ_ _ _ _=>rfl | exact L2.qK λ_ _ _ _ _ _ _=>rfl):j5 P w K mg base x ps k spH:=⟨f,fd,o,W.mg_of Y.X Y.G g.at_,g.F.kp,g.F.binds b⟩
theorem Gd.fn {i:Int} {t:Tok} (g:Gd K x st f fd (.int i t)) (Y:Wh P w K mg base h) (b:∀ (T:Addr) (kV doc pm:Value) (an:Option Addr) (cdv ct:Value) (us:List Value),us.length=ps.length->∃ k:Option (Array Value)->Sem (List (Str × Value)),bindArgs (W.fnOf x x (xq st) (xD st) (zW st) (.ref T) kV doc pm an cdv ct) ⟨us,[]⟩=seqItems? (.ref T) >>= k/\k (some #[.int i t])=pure (ps.zip us))
  (d:∀ (T:Addr) (kV doc pm:Value) (an:Option Addr) (cdv ct:Value) (us:List Value),us.length + 1=ps.length->∃ k:Option (Array Value)->Sem (List (Str × Value)),bindArgs (W.fnOf x x (xq st) (xD st) (zW st) (.ref T) kV doc pm an cdv ct) ⟨us,[]⟩=seqItems? (.ref T) >>= k/\k (some #[.int i t])=pure (ps.zip (us++[.int i t]))) (o:zL P w K mg base zj k f fd ps sp):wk P w K mg base x ps k sp (.int i):=
 ⟨f,fd,_,o,W.mg_of Y.X Y.G g.at_,g.F.kp,g.F.binds b,g.F.binds1 d,⟨_,rfl⟩⟩
theorem Gk.fcd {i:Int} {t:Tok} {y:Str} (g:Gk K C "__init__" q st f fd (.int i t)) (_:Wh P w K mg base h) (c:Gc K y C) (b:∀ (T:Addr) (kV doc pm:Value) (an:Option Addr) (cdv ct:Value) (us:List Value),us.length=ps.length->∃ k:Option (Array Value)->Sem (List (Str × Value)),bindArgs (W.fnOf "__init__" q (xq st) (xD st) (zW st) (.ref T) kV doc pm an cdv ct) ⟨us,[]⟩=seqItems? (.ref T) >>= k/\k (some #[.int i t])=pure (ps.zip us))
  (d:∀ (T:Addr) (kV doc pm:Value) (an:Option Addr) (cdv ct:Value) (us:List Value),us.length + 1=ps.length->∃ k:Option (Array Value)->Sem (List (Str × Value)),bindArgs (W.fnOf "__init__" q (xq st) (xD st) (zW st) (.ref T) kV doc pm an cdv ct) ⟨us,[]⟩=seqItems? (.ref T) >>= k/\k (some #[.int i t])=pure (ps.zip (us++[.int i t]))) (o:zL P w K mg base zj k f fd ps sp):xG P w K mg base C ps k sp (.int i):=
 ⟨f,fd,_,o,⟨c.mk_,g.at_,g.fn,c.kc⟩,g.F.binds b,g.F.binds1 d,⟨_,rfl⟩⟩
end
end L2
namespace K24
open PySem L2 Sh
theorem all_mk {l:W.OpenLaw} {w:World} {K:W.Frag} {h:Heap} {mg:Str->Option Value} {fa:Addr} (X:K.In h) (G:h.Ns mainGlobals mg) (hfa:mg "law" = some (.ref fa))
  {aRule ad ae af ac au C1 C2 c2 c3 c4 c5 c6 c7 c8 c9 cS:Addr}
  (GRule:Gc K "Rule" aRule)
  (GStraight:Gc K "Straight" ad)
  (GStopped:Gc K "Stopped" ae)
  (GParted:Gc K "Parted" af)
  (GMode:Gc K "Mode" ac)
  (GThing:Gc K "Thing" au)
  (bB:W.findIn K (.ref ad) "numbers" = some none)
  (bC:W.findIn K (.ref ad) "add" = some none)
  (bD:W.findIn K (.ref ad) "divisor" = some none)
  (bE:W.findIn K (.ref ae) "rule" = some none)
  (bF:W.findIn K (.ref ae) "low" = some none)
  (bG:W.findIn K (.ref ae) "high" = some none)
  (bH:W.findIn K (.ref af) "row" = some none)
  (bI:W.findIn K (.ref af) "rule" = some none)
  (bJ:W.findIn K (.ref af) "other" = some none)
  (bK:W.findIn K (.ref ac) "rows" = some none)
  (bL:W.findIn K (.ref ac) "nexts" = some none)
  (bM:W.findIn K (.ref ac) "steer" = some none)
  (bN:W.findIn K (.ref ac) "push" = some none)
  (bO:W.findIn K (.ref ac) "add" = some none)
  (bP:W.findIn K (.ref ac) "divisor" = some none)
  (bQ:W.findIn K (.ref au) "many" = some none)
  (bR:W.findIn K (.ref au) "kept_pushes" = some none)
  (bS:W.findIn K (.ref au) "kept_modes" = some none)
  (m0:W.nsIn K mainGlobals "BadRule" = some (some (.ref C1)))
  (m1:W.nsIn K mainGlobals "TooMany" = some (some (.ref C2)))
  (m2:W.nsIn K mainGlobals "BadThing" = some (some (.ref c2)))
  (m3:W.nsIn K mainGlobals "BadTurn" = some (some (.ref c3)))
  (m4:W.nsIn K mainGlobals "NoNumber" = some (some (.ref c4)))
  (m5:W.nsIn K mainGlobals "NoRow" = some (some (.ref c5)))
  (m6:W.nsIn K mainGlobals "NoRun" = some (some (.ref c6)))
  (m7:W.nsIn K mainGlobals "NoText" = some (some (.ref c7)))
  (m8:W.nsIn K mainGlobals "NotClosed" = some (some (.ref c8)))
  (m9:W.nsIn K mainGlobals "NotPlain" = some (some (.ref c9)))
  (mS:W.nsIn K mainGlobals "SteadyError" = some (some (.ref cS)))
  (y_mi:W.kitOne K (.ref ac) (.type "int")=some false)
  (y_mb:W.kitOne K (.ref ac) (.type "bool")=some false)
  (y_ml:W.kitOne K (.ref ac) (.type "list")=some false)
  (y_mt:W.kitOne K (.ref ac) (.type "tuple")=some false)
  (y_k1:W.kitOne K (.type "int") (.ref ac)=some false)
  (y_k2:W.kitOne K (.type "bool") (.ref ac)=some false)
  (y_k3:W.kitOne K (.type "NoneType") (.ref ac)=some false)
  (y_k4:W.kitOne K (.type "str") (.ref ac)=some false)
  (y_k5:W.kitOne K (.type "list") (.ref ac)=some false)
  (y_k6:W.kitOne K (.type "tuple") (.ref ac)=some false)
  (y_k7:W.kitOne K (.type "dict") (.ref ac)=some false)
  (w_k21:W.kitOne K (.ref ae) (.ref ad)=some false)
  (w_k31:W.kitOne K (.ref af) (.ref ad)=some false)
  (w_k12:W.kitOne K (.ref ad) (.ref ae)=some false)
  (w_k32:W.kitOne K (.ref af) (.ref ae)=some false)
  (w_k13:W.kitOne K (.ref ad) (.ref af)=some false)
  (w_i1:W.kitOne K (.type "int") (.ref ad)=some false)
  (w_i2:W.kitOne K (.type "int") (.ref ae)=some false)
  (w_i3:W.kitOne K (.type "int") (.ref af)=some false)
  (w_n1:W.kitOne K (.type "NoneType") (.ref ad)=some false)
  (w_n2:W.kitOne K (.type "NoneType") (.ref ae)=some false)
  (w_n3:W.kitOne K (.type "NoneType") (.ref af)=some false)
  (w_s1:W.kitOne K (.type "str") (.ref ad)=some false)
  (w_s2:W.kitOne K (.type "str") (.ref ae)=some false)
  (w_s3:W.kitOne K (.type "str") (.ref af)=some false)
  (w_l1:W.kitOne K (.type "list") (.ref ad)=some false)
  (w_l2:W.kitOne K (.type "list") (.ref ae)=some false)
  (w_l3:W.kitOne K (.type "list") (.ref af)=some false)
  (x0:W.excIn K C1 [.type "ValueError",.type "Exception",.type "BaseException",.type "object"] "ValueError.__new__" = true)
  (e0ga:W.findIn K (.ref C1) "__getattribute__" = some (some (.builtin "BaseException.__getattribute__")))
  (e0gt:W.findIn K (.ref C1) "__getattr__" = some none)
  (e0ha:W.findIn K (.ref C1) "__class__" = some (some (.builtin "object.__class__")))
  (e0hn:W.specialIn K (.builtin "object.__class__") "__get__" = some (some (.builtin "getset_descriptor.__get__")))
  (e0tk:W.takesIn K (.builtin "object.__class__")=some true)
  (e0mb:W.mroIn K C1 (.type "BaseException")=some true)
  (e0mo:W.mroIn K C1 (.type "object")=some true)
  (v0:W.kitOne K (.ref C1) (.type "ValueError")=some true)
  (s0:W.exmOne K (.ref C1) (.ref cS)=some true)
  (t0_0:W.kitOne K (.ref C1) (.ref C1)=some true)
  (t0_1:W.kitOne K (.ref C1) (.ref C2)=some false)
  (t0_2:W.kitOne K (.ref C1) (.ref c2)=some false)
  (t0_3:W.kitOne K (.ref C1) (.ref c3)=some false)
  (t0_4:W.kitOne K (.ref C1) (.ref c4)=some false)
  (t0_5:W.kitOne K (.ref C1) (.ref c5)=some false)
  (t0_6:W.kitOne K (.ref C1) (.ref c6)=some false)
  (t0_7:W.kitOne K (.ref C1) (.ref c7)=some false)
  (t0_8:W.kitOne K (.ref C1) (.ref c8)=some false)
  (t0_9:W.kitOne K (.ref C1) (.ref c9)=some false)
  (x1:W.excIn K C2 [.type "ValueError",.type "Exception",.type "BaseException",.type "object"] "ValueError.__new__" = true)
  (e1ga:W.findIn K (.ref C2) "__getattribute__" = some (some (.builtin "BaseException.__getattribute__")))
  (e1gt:W.findIn K (.ref C2) "__getattr__" = some none)
  (e1ha:W.findIn K (.ref C2) "__class__" = some (some (.builtin "object.__class__")))
  (e1hn:W.specialIn K (.builtin "object.__class__") "__get__" = some (some (.builtin "getset_descriptor.__get__")))
  (e1tk:W.takesIn K (.builtin "object.__class__")=some true)
  (e1mb:W.mroIn K C2 (.type "BaseException")=some true)
  (e1mo:W.mroIn K C2 (.type "object")=some true)
  (v1:W.kitOne K (.ref C2) (.type "ValueError")=some true)
  (s1:W.exmOne K (.ref C2) (.ref cS)=some true)
  (t1_0:W.kitOne K (.ref C2) (.ref C1)=some false)
  (t1_1:W.kitOne K (.ref C2) (.ref C2)=some true)
  (t1_2:W.kitOne K (.ref C2) (.ref c2)=some false)
  (t1_3:W.kitOne K (.ref C2) (.ref c3)=some false)
  (t1_4:W.kitOne K (.ref C2) (.ref c4)=some false)
  (t1_5:W.kitOne K (.ref C2) (.ref c5)=some false)
  (t1_6:W.kitOne K (.ref C2) (.ref c6)=some false)
  (t1_7:W.kitOne K (.ref C2) (.ref c7)=some false)
  (t1_8:W.kitOne K (.ref C2) (.ref c8)=some false)
  (t1_9:W.kitOne K (.ref C2) (.ref c9)=some false)
  (z0:W.nsIn K mainGlobals "isinstance" = some none)
  (z1:W.nsIn K mainGlobals "int" = some none)
  (z2:W.nsIn K mainGlobals "bool" = some none)
  (z3:W.nsIn K mainGlobals "tuple" = some none)
  (z4:W.nsIn K mainGlobals "len" = some none)
  (z5:W.nsIn K mainGlobals "all" = some none)
  (z6:W.nsIn K mainGlobals "list" = some none)
  (z7:W.nsIn K mainGlobals "range" = some none)
  (z8:W.nsIn K mainGlobals "zip" = some none)
  (z9:W.nsIn K mainGlobals "ValueError" = some none)
  {gt0:Tok} (cst0:W.nsIn K mainGlobals "MOST_PIECES" = some (some (.int 60 gt0)))
  {gt1:Tok} (cst1:W.nsIn K mainGlobals "MOST_NUMBERS" = some (some (.int 3 gt1)))
  {gt2:Tok} (cst2:W.nsIn K mainGlobals "MOST_PUSHES" = some (some (.int 6 gt2)))
  {gt3:Tok} (cst3:W.nsIn K mainGlobals "MOST_MODES" = some (some (.int 40 gt3)))
  : Ge K "is_whole" Yk->Ge K "is_numbers" Yl->Ge K "is_row" Ym->Gi K "copied" gW 5->Ge K "is_table" kn->Ge K "is_room" ko->Ge K "is_push" Yn->Gn K ac "__init__" "Mode.__init__" Yo->Ge K "is_mode" Yp->Ge K "is_sound" kq->Gn K au "__init__" "Thing.__init__" Yq->Gn K au "pushes" "Thing.pushes" Yr->Gn K au "modes" "Thing.modes" Ys->Gj K ad "__init__" "Straight.__init__" Yv 1->Gn K ae "__init__" "Stopped.__init__" Yx->Gn K af "__init__" "Parted.__init__" Yy->Ge K "are_stops" Yz->Ge K "is_straight" Y0->Ge K "is_rule" Y1->Ge K "other_side" Y2->Ge K "piece_count" Y3->Ge K "stop_row" Y4->Ge K "stopped_pieces" Y5->Ge K "parted_pieces" gc->Ge K "listed" Y6->Ge K "pieces" Y7->Ge K "scaled" kz->Ge K "mixed" ZA->Ge K "steered_mode" gf->Ge K "rounded_mode" ZB->Ge K "late_mode" gg->Ge K "steered" XE->Ge K "late" XF->Ge K "rounded" gj->Ge K "_law_cell_at" XU->Ge K "_law_stream" XV->Ge K "_law_leaf" XW->Ge K "_law_no_leaf" ZG->Ge K "_law_no_part" ZH->Ge K "_law_word" uo->Ge K "_law_said" XY->Ge K "_law_thing" ZK->Ge K "_law_case" Xg->Ge K "law" qH->∃ fd:FuncData,(∀ (s:Shared) (v:Value),BindsTo s fd ⟨[v],[]⟩ [("_law_script",v)])/\∀ base:Heap,K.In base->base.Ns mainGlobals mg->zL l.prog w K mg base zj 26 fa fd ["_law_script"] (qt K):=by
 rintro ⟨_,_,G0⟩ ⟨_,_,G1⟩ ⟨_,_,G2⟩ ⟨_,_,_,G3⟩ ⟨_,_,G4⟩ ⟨_,_,G5⟩ ⟨_,_,G6⟩ ⟨_,_,G7⟩ ⟨_,_,G8⟩ ⟨_,_,G9⟩ ⟨_,_,G10⟩ ⟨_,_,G11⟩ ⟨_,_,G12⟩ ⟨_,_,_,G13⟩ ⟨_,_,G14⟩ ⟨_,_,G15⟩ ⟨_,_,G16⟩ ⟨_,_,G17⟩ ⟨_,_,G18⟩ ⟨_,_,G19⟩ ⟨_,_,G20⟩ ⟨_,_,G21⟩ ⟨_,_,G22⟩ ⟨_,_,G23⟩ ⟨_,_,G24⟩ ⟨_,_,G25⟩ ⟨_,_,G26⟩ ⟨_,_,G27⟩ ⟨_,_,G28⟩ ⟨_,_,G29⟩ ⟨_,_,G30⟩ ⟨_,_,G31⟩ ⟨_,_,G32⟩ ⟨_,_,G33⟩ ⟨_,_,G34⟩ ⟨_,_,G35⟩ ⟨_,_,G36⟩ ⟨_,_,G37⟩ ⟨_,_,G38⟩ ⟨_,_,G39⟩ ⟨_,_,G40⟩ ⟨_,_,G41⟩ ⟨_,_,G42⟩ ⟨_,_,G43⟩
 have e:=hfa.symm.trans (W.mg_of X G G43.at_)
 cases e
 have B:Bl mg:=⟨W.mg_none_of X G z0,W.mg_none_of X G z1,W.mg_none_of X G z2,W.mg_none_of X G z3,W.mg_none_of X G z4,W.mg_none_of X G z5,W.mg_none_of X G z6,W.mg_none_of X G z7,W.mg_none_of X G z8,W.mg_none_of X G z9,⟨_,W.mg_of X G cst0⟩,⟨_,W.mg_of X G cst1⟩,⟨_,W.mg_of X G cst2⟩,⟨_,W.mg_of X G cst3⟩⟩
 have TRule:=GRule.cls X G
 have ARule:vx K aRule:=⟨True.intro⟩
 have ah:=GStraight.cls X G
 have ap:vy K ad:=⟨bB,bC,bD⟩
 have al:=GStopped.cls X G
 have aq:vz K ae:=⟨bE,bF,bG⟩
 have aj:=GParted.cls X G
 have ar:v4 K af:=⟨bH,bI,bJ⟩
 have ag:=GMode.cls X G
 have ai:v5 K ac:=⟨bK,bL,bM,bN,bO,bP⟩
 have am:=GThing.cls X G
 have ao:v6 K au:=⟨bQ,bR,bS⟩
 have Y:v7 K ac ad ae af:=⟨⟨y_mi,y_mb,y_ml,y_mt,y_k1,y_k2,y_k3,y_k4,y_k5,y_k6,y_k7⟩,w_k21,w_k31,w_k12,w_k32,w_k13,w_i1,w_i2,w_i3,w_n1,w_n2,w_n3,w_s1,w_s2,w_s3,w_l1,w_l2,w_l3⟩
 have Z:vv K mg C1 C2:=⟨W.mg_of X G m0,x0,W.mg_of X G m1,x1,c2,c3,c4,c5,c6,c7,c8,c9,cS,⟨W.mg_of X G m0,W.mg_of X G m1,W.mg_of X G m2,W.mg_of X G m3,W.mg_of X G m4,W.mg_of X G m5,W.mg_of X G m6,W.mg_of X G m7,W.mg_of X G m8,W.mg_of X G m9,W.mg_of X G mS⟩,⟨⟨e0ga,e0gt,e0ha,e0hn,e0tk,e0mb,e0mo⟩,v0,s0,t0_0,t0_1,t0_2,t0_3,t0_4,t0_5,t0_6,t0_7,t0_8,t0_9⟩,⟨⟨e1ga,e1gt,e1ha,e1hn,e1tk,e1mb,e1mo⟩,v1,s1,t1_0,t1_1,t1_2,t1_3,t1_4,t1_5,t1_6,t1_7,t1_8,t1_9⟩⟩
 obtain ⟨_,_,kV,dc,pm,an,cd,ct,_,rfl,_⟩:=G43.F.ex
 refine ⟨W.fnOf "law" "law" (xq qH) (xD qH) (zW qH) .none kV dc pm an cd ct,λs v=>.of_eq rfl,λbase _ _=>?_⟩
 have Yw:Wh l.prog w K mg base h:=⟨X,G⟩
 have N0:=G0.fn Yw (KA (k:=0) TRule ARule ah ap al aq aj ar ag ai am ao Y Z G0.F B )
 have N1:=G1.fn Yw (KB (k:=1) TRule ARule ah ap al aq aj ar ag ai am ao Y Z G1.F B N0.mono)
 have N2:=G2.fn Yw (KC (k:=1) TRule ARule ah ap al aq aj ar ag ai am ao Y Z G2.F B N0.mono)
 have D3:=λ{k sp}=>G3.fn (ps:=["value","depth"]) (k:=k) (sp:=sp) Yw (λ_ _ _ _ _ _ _=>L2.jg λ_ _=>⟨_,rfl,rfl⟩) λ_ _ _ _ _ _ _ us hl=>match us,hl with | [_],_=>⟨_,rfl,rfl⟩
 have N3_0:=D3 (zL.no (k:=1) (sp:=(ue ac 0)) Qu)
 have N3_1:=D3 (Yt (k:=1) (d0:=0) TRule ARule ah ap al aq aj ar ag ai am ao Y Z G3.F B N3_0.mono)
 have N3_2:=D3 (Yt (k:=2) (d0:=1) TRule ARule ah ap al aq aj ar ag ai am ao Y Z G3.F B N3_1.mono)
 have N3_3:=D3 (Yt (k:=3) (d0:=2) TRule ARule ah ap al aq aj ar ag ai am ao Y Z G3.F B N3_2.mono)
 have N3:=N3_3
 have N4:=G4.fn Yw (KD (k:=2) TRule ARule ah ap al aq aj ar ag ai am ao Y Z G4.F B (N1.mono.imp Wy))
 have N5:=G5.fn Yw (KE (k:=2) TRule ARule ah ap al aq aj ar ag ai am ao Y Z G5.F B (N2.mono.imp Qv))
 have N6:=G6.fn Yw (KG (k:=1) TRule ARule ah ap al aq aj ar ag ai am ao Y Z G6.F B (N0.mono.imp Yi))
 have N7:=G7.fc Yw GMode (KH (k:=4) TRule ARule ah ap al aq aj ar ag ai am ao Y Z G7.F B (N3.mono.imp Qw))
 have N8:=G8.fn Yw (KI (k:=3) TRule ARule ah ap al aq aj ar ag ai am ao Y Z G8.F B N5.mono N4.mono (N1.mono.imp Wy) (N0.mono.imp Yi))
 have N9:=G9.fn Yw (KJ (k:=4) TRule ARule ah ap al aq aj ar ag ai am ao Y Z G9.F B (N0.mono.imp Yi) N6.mono N8.mono)
 have NX10:=G10.fcx Yw GThing (KL (k:=5) TRule ARule ah ap al aq aj ar ag ai am ao Y Z G10.F B N9.mono)
 have N10:=xQ.calm NX10
 have N11:=G11.fm Yw (KM (k:=0) TRule ARule ah ap al aq aj ar ag ai am ao Y Z G11.F B )
 have N12:=G12.fm Yw (KN (k:=0) TRule ARule ah ap al aq aj ar ag ai am ao Y Z G12.F B )
 have N13:=G13.fcd (ps:=["self","numbers","add","divisor"]) Yw GStraight (λ_ _ _ _ _ _ _=>L2.jh λ_ _ _ _=>⟨_,rfl,rfl⟩) (λ_ _ _ _ _ _ _ us hl=>match us,hl with | [_,_,_],_=>⟨_,rfl,rfl⟩) (Ke (k:=4) TRule ARule ah ap al aq aj ar ag ai am ao Y Z G13.F B N3.mono)
 have N14:=G14.fc Yw GStopped (Kf (k:=0) TRule ARule ah ap al aq aj ar ag ai am ao Y Z G14.F B )
 have N15:=G15.fc Yw GParted (Kg (k:=4) TRule ARule ah ap al aq aj ar ag ai am ao Y Z G15.F B N3.mono)
 have N16:=G16.fn Yw (Kh (k:=1) TRule ARule ah ap al aq aj ar ag ai am ao Y Z G16.F B N0.mono)
 have N17:=G17.fn Yw (Ki (k:=2) TRule ARule ah ap al aq aj ar ag ai am ao Y Z G17.F B N1.mono N0.mono)
 have N18_0:=G18.fn (ps:=["value","many"]) Yw (zL.no (k:=3) (sp:=(qB ac ad ae af 0)) KO)
 have N18_1:=G18.fn Yw (ug (k:=3) (d:=0) TRule ARule ah ap al aq aj ar ag ai am ao Y Z G18.F B N17.mono N18_0.mono N16.mono N2.mono)
 have N18_2:=G18.fn Yw (ug (k:=4) (d:=1) TRule ARule ah ap al aq aj ar ag ai am ao Y Z G18.F B N17.mono N18_1.mono N16.mono N2.mono)
 have N18_3:=G18.fn Yw (ug (k:=5) (d:=2) TRule ARule ah ap al aq aj ar ag ai am ao Y Z G18.F B N17.mono N18_2.mono N16.mono N2.mono)
 have N18_4:=G18.fn Yw (ug (k:=6) (d:=3) TRule ARule ah ap al aq aj ar ag ai am ao Y Z G18.F B N17.mono N18_3.mono N16.mono N2.mono)
 have N18_5:=G18.fn Yw (ug (k:=7) (d:=4) TRule ARule ah ap al aq aj ar ag ai am ao Y Z G18.F B N17.mono N18_4.mono N16.mono N2.mono)
 have N18_6:=G18.fn Yw (ug (k:=8) (d:=5) TRule ARule ah ap al aq aj ar ag ai am ao Y Z G18.F B N17.mono N18_5.mono N16.mono N2.mono)
 have N18_7:=G18.fn Yw (ug (k:=9) (d:=6) TRule ARule ah ap al aq aj ar ag ai am ao Y Z G18.F B N17.mono N18_6.mono N16.mono N2.mono)
 have N18_8:=G18.fn Yw (ug (k:=10) (d:=7) TRule ARule ah ap al aq aj ar ag ai am ao Y Z G18.F B N17.mono N18_7.mono N16.mono N2.mono)
 have N18:=N18_8
 have N19:=G19.fn Yw (Kj (k:=0) TRule ARule ah ap al aq aj ar ag ai am ao Y Z G19.F B )
 have N20_0:=G20.fn (ps:=["rule"]) Yw (zL.no (k:=1) (sp:=(jw ad ae af 0)) QH)
 have N20_1:=G20.fn Yw (uh (k:=1) (d:=0) TRule ARule ah ap al aq aj ar ag ai am ao Y Z G20.F B N20_0.mono)
 have N20_2:=G20.fn Yw (uh (k:=2) (d:=1) TRule ARule ah ap al aq aj ar ag ai am ao Y Z G20.F B N20_1.mono)
 have N20_3:=G20.fn Yw (uh (k:=3) (d:=2) TRule ARule ah ap al aq aj ar ag ai am ao Y Z G20.F B N20_2.mono)
 have N20_4:=G20.fn Yw (uh (k:=4) (d:=3) TRule ARule ah ap al aq aj ar ag ai am ao Y Z G20.F B N20_3.mono)
 have N20_5:=G20.fn Yw (uh (k:=5) (d:=4) TRule ARule ah ap al aq aj ar ag ai am ao Y Z G20.F B N20_4.mono)
 have N20_6:=G20.fn Yw (uh (k:=6) (d:=5) TRule ARule ah ap al aq aj ar ag ai am ao Y Z G20.F B N20_5.mono)
 have N20_7:=G20.fn Yw (uh (k:=7) (d:=6) TRule ARule ah ap al aq aj ar ag ai am ao Y Z G20.F B N20_6.mono)
 have N20_8:=G20.fn Yw (uh (k:=8) (d:=7) TRule ARule ah ap al aq aj ar ag ai am ao Y Z G20.F B N20_7.mono)
 have N20:=N20_8
 have N21:=G21.fn Yw (Kk (k:=0) TRule ARule ah ap al aq aj ar ag ai am ao Y Z G21.F B )
 have N24_0:=G24.fn (ps:=["rule"]) Yw (zL.no (k:=6) (sp:=(vT ad ae af vU 0)) QI)
 have N22_1:=G22.fn Yw (ui (k:=5) (d:=0) TRule ARule ah ap al aq aj ar ag ai am ao Y Z G22.F B N24_0.mono N21.mono (N13.mono.imp uf) N19.mono)
 have N23_1:=G23.fn Yw (uj (k:=6) (d:=0) TRule ARule ah ap al aq aj ar ag ai am ao Y Z G23.F B N19.mono N24_0.mono)
 have N24_1:=G24.fn Yw (uk (k:=7) (d:=0) TRule ARule ah ap al aq aj ar ag ai am ao Y Z G24.F B N22_1.mono N23_1.mono)
 have N22_2:=G22.fn Yw (ui (k:=7) (d:=1) TRule ARule ah ap al aq aj ar ag ai am ao Y Z G22.F B N24_1.mono N21.mono (N13.mono.imp uf) N19.mono)
 have N23_2:=G23.fn Yw (uj (k:=8) (d:=1) TRule ARule ah ap al aq aj ar ag ai am ao Y Z G23.F B N19.mono N24_1.mono)
 have N24_2:=G24.fn Yw (uk (k:=9) (d:=1) TRule ARule ah ap al aq aj ar ag ai am ao Y Z G24.F B N22_2.mono N23_2.mono)
 have N22_3:=G22.fn Yw (ui (k:=9) (d:=2) TRule ARule ah ap al aq aj ar ag ai am ao Y Z G22.F B N24_2.mono N21.mono (N13.mono.imp uf) N19.mono)
 have N23_3:=G23.fn Yw (uj (k:=10) (d:=2) TRule ARule ah ap al aq aj ar ag ai am ao Y Z G23.F B N19.mono N24_2.mono)
 have N24_3:=G24.fn Yw (uk (k:=11) (d:=2) TRule ARule ah ap al aq aj ar ag ai am ao Y Z G24.F B N22_3.mono N23_3.mono)
 have N22_4:=G22.fn Yw (ui (k:=11) (d:=3) TRule ARule ah ap al aq aj ar ag ai am ao Y Z G22.F B N24_3.mono N21.mono (N13.mono.imp uf) N19.mono)
 have N23_4:=G23.fn Yw (uj (k:=12) (d:=3) TRule ARule ah ap al aq aj ar ag ai am ao Y Z G23.F B N19.mono N24_3.mono)
 have N24_4:=G24.fn Yw (uk (k:=13) (d:=3) TRule ARule ah ap al aq aj ar ag ai am ao Y Z G24.F B N22_4.mono N23_4.mono)
 have N22_5:=G22.fn Yw (ui (k:=13) (d:=4) TRule ARule ah ap al aq aj ar ag ai am ao Y Z G22.F B N24_4.mono N21.mono (N13.mono.imp uf) N19.mono)
 have N23_5:=G23.fn Yw (uj (k:=14) (d:=4) TRule ARule ah ap al aq aj ar ag ai am ao Y Z G23.F B N19.mono N24_4.mono)
 have N24_5:=G24.fn Yw (uk (k:=15) (d:=4) TRule ARule ah ap al aq aj ar ag ai am ao Y Z G24.F B N22_5.mono N23_5.mono)
 have N22_6:=G22.fn Yw (ui (k:=15) (d:=5) TRule ARule ah ap al aq aj ar ag ai am ao Y Z G22.F B N24_5.mono N21.mono (N13.mono.imp uf) N19.mono)
 have N23_6:=G23.fn Yw (uj (k:=16) (d:=5) TRule ARule ah ap al aq aj ar ag ai am ao Y Z G23.F B N19.mono N24_5.mono)
 have N24_6:=G24.fn Yw (uk (k:=17) (d:=5) TRule ARule ah ap al aq aj ar ag ai am ao Y Z G24.F B N22_6.mono N23_6.mono)
 have N22_7:=G22.fn Yw (ui (k:=17) (d:=6) TRule ARule ah ap al aq aj ar ag ai am ao Y Z G22.F B N24_6.mono N21.mono (N13.mono.imp uf) N19.mono)
 have N23_7:=G23.fn Yw (uj (k:=18) (d:=6) TRule ARule ah ap al aq aj ar ag ai am ao Y Z G23.F B N19.mono N24_6.mono)
 have N24_7:=G24.fn Yw (uk (k:=19) (d:=6) TRule ARule ah ap al aq aj ar ag ai am ao Y Z G24.F B N22_7.mono N23_7.mono)
 have N22_8:=G22.fn Yw (ui (k:=19) (d:=7) TRule ARule ah ap al aq aj ar ag ai am ao Y Z G22.F B N24_7.mono N21.mono (N13.mono.imp uf) N19.mono)
 have N23_8:=G23.fn Yw (uj (k:=20) (d:=7) TRule ARule ah ap al aq aj ar ag ai am ao Y Z G23.F B N19.mono N24_7.mono)
 have N24_8:=G24.fn Yw (uk (k:=21) (d:=7) TRule ARule ah ap al aq aj ar ag ai am ao Y Z G24.F B N22_8.mono N23_8.mono)
 have N22:=N22_8
 have N23:=N23_8
 have N24:=N24_8
 have NX25:=G25.fx Yw (Kl (k:=22) TRule ARule ah ap al aq aj ar ag ai am ao Y Z G25.F B N18.mono N20.mono N24.mono)
 have N26:=G26.fn Yw (Kp (k:=0) TRule ARule ah ap al aq aj ar ag ai am ao Y Z G26.F B )
 have N27:=G27.fn Yw (Kq (k:=0) TRule ARule ah ap al aq aj ar ag ai am ao Y Z G27.F B )
 have N28:=G28.fn Yw (Kr (k:=5) TRule ARule ah ap al aq aj ar ag ai am ao Y Z G28.F B N7.mono N27.mono N26.mono)
 have N29:=G29.fn Yw (Ks (k:=6) TRule ARule ah ap al aq aj ar ag ai am ao Y Z G29.F B N28.mono N26.mono N7.mono)
 have N30:=G30.fn Yw (Kt (k:=5) TRule ARule ah ap al aq aj ar ag ai am ao Y Z G30.F B N26.mono N7.mono)
 have NX31:=G31.fx Yw (Ku (k:=22) TRule ARule ah ap al aq aj ar ag ai am ao Y Z G31.F B NX25.mono N12.mono N28.mono NX10.mono N11.mono)
 have NX32:=G32.fx Yw (Kv (k:=22) TRule ARule ah ap al aq aj ar ag ai am ao Y Z G32.F B NX25.mono N12.mono N30.mono NX10.mono N11.mono)
 have NX33:=G33.fx Yw (Kw (k:=7) TRule ARule ah ap al aq aj ar ag ai am ao Y Z G33.F B N17.mono N0.mono N12.mono N29.mono NX10.mono N11.mono)
 have N34:=G34.fn Yw (K1 (k:=0) TRule ARule ah ap al aq aj ar ag ai am ao Y Z G34.F B )
 have N35:=G35.fn Yw (K2 (k:=0) TRule ARule ah ap al aq aj ar ag ai am ao Y Z G35.F B )
 have N36:=G36.fn Yw (K3 (k:=5) TRule ARule ah ap al aq aj ar ag ai am ao Y Z G36.F B N35.mono N13.mono)
 have N37:=G37.fn Yw (K4 (k:=5) TRule ARule ah ap al aq aj ar ag ai am ao Y Z G37.F B N13.mono N15.mono N14.mono)
 have N38:=G38.fn Yw (K5 (k:=5) TRule ARule ah ap al aq aj ar ag ai am ao Y Z G38.F B N14.mono N15.mono)
 have N39:=G39.fh Yw (K8 (k:=0) TRule ARule ah ap al aq aj ar ag ai am ao Y Z G39.F B )
 have N40:=G40.fn Yw (K9 (k:=24) TRule ARule ah ap al aq aj ar ag ai am ao Y Z G40.F B NX25.mono NX31.mono NX32.mono NX33.mono N39.mono)
 have N41:=G41.fn Yw (zH2 (k:=6) TRule ARule ah ap al aq aj ar ag ai am ao Y Z G41.F B N7.mono N10.mono)
 have N42:=G42.fn Yw (zIo (k:=6) TRule ARule ah ap al aq aj ar ag ai am ao Y Z G42.F B N34.mono N36.mono N37.mono N35.mono N38.mono N14.mono N15.mono)
 exact zLC (k:=24) TRule ARule ah ap al aq aj ar ag ai am ao Y Z G43.F B N34.mono N42.mono N41.mono N40.mono N36.mono N37.mono N15.mono N14.mono
theorem walk {l:PySem.W.OpenLaw} {q:Program} {loose:List Str} {XP:(Str->Option Value)->Heap->Prop} {YP:World->Heap->Prop} {d:DefRec} {K:Params->PySem.W.Frag} (hn:l.most=some 63) (hdf:d.params.defaults=[])
  (hY:∀ (w:World) (h:Heap),YP w h->(K w.params).In h)
  (F:∀ (w:World) (mg:Str->Option Value) (fa:Addr) (h:Heap),(K w.params).In h->h.Ns mainGlobals mg->mg d.name=some (.ref fa)->
   ∃ fd:FuncData,(∀ (s:Shared) (u:Value),BindsTo s fd ⟨[u],[]⟩ [("_law_script",u)])/\∀ base:Heap,(K w.params).In base->base.Ns mainGlobals mg->zL l.prog w (K w.params) mg base zj 26 fa fd ["_law_script"] (qt (K w.params))) :
  PySem.W.WalkO q loose XP YP l.row.toRowW d [] (λf vs=>PySem.call f vs):=
 L2.JT (n:=63) (k:=26) (x:="_law_script") (CX:=λ_=>zj) (sp:=λw=>qt (K w.params)) hn (by decide) hdf ⟨rfl,by decide,by decide⟩ hY F (λ_ _ a ns hl _ hS=>⟨a,ns,rfl,hS,hl,λ_=>rfl⟩) λ_ _ _ _ _ z=>z
end K24
open PySem PySem.W PyProof.Rows
set_option maxRecDepth 100000 in
set_option maxHeartbeats 0 in
theorem PySem.Challenge.cw_steadyhand_k24_rules_refused_holds : PySem.Challenge.rw_steadyhand_k24_rules_refused.Holds := by
 w_on; o_law
 refine holds_open (q:=H24.vw) (loose:=H24.lo) (Xt:=H24.xt) (XP:=XL H24.vw []) (Yf:=(kHook H24.KK H24.ks H24.ke).obs) (Ya:=(kHook H24.KK H24.ks H24.ke).val) (YP:=(kHook H24.KK H24.ks H24.ke).says) H24.left
  (kHook H24.KK H24.ks H24.ke).of (kHook H24.KK H24.ks H24.ke).keeps
  (λs e=>xl_of s (Bool.and_eq_true_iff.mp e).1) XL.keeps (by rfl) (by rfl) (by rfl)
  (λs e=>recFacts_of (Bool.and_eq_true_iff.mp e).2) (by rfl) (by assumption) (by decide +kernel)
  ⟨rfl,rfl,rfl,rfl,rfl,by decide +kernel⟩ ?hw ?hc
 case hw=>w_witness2
 rename_i sd
 clear sd
 k_fill
 refine K24.walk (l:=PySem.Challenge.rw_steadyhand_k24_rules_refused) rfl rfl (λw h Y=>PySem.W.kIn_of Y) ?F
 case F=>
  intro w mg fa h KX G hmg
  refine' K24.all_mk KX G hmg ?g_Rule ?g_Straight ?g_Stopped ?g_Parted ?g_Mode ?g_Thing ?_ ?_ ?_ ?_ ?_ ?_ ?_ ?_ ?_ ?_ ?_ ?_ ?_ ?_ ?_ ?_ ?_ ?_ ?p_m0 ?p_m1 ?p_m2 ?p_m3 ?p_m4 ?p_m5 ?p_m6 ?p_m7 ?p_m8 ?p_m9 ?p_mS ?p_y_mi ?p_y_mb ?p_y_ml ?p_y_mt ?p_y_k1 ?p_y_k2 ?p_y_k3 ?p_y_k4 ?p_y_k5 ?p_y_k6 ?p_y_k7 ?p_w_k21 ?p_w_k31 ?p_w_k12 ?p_w_k32 ?p_w_k13 ?p_w_i1 ?p_w_i2 ?p_w_i3 ?p_w_n1 ?p_w_n2 ?p_w_n3 ?p_w_s1 ?p_w_s2 ?p_w_s3 ?p_w_l1 ?p_w_l2 ?p_w_l3 ?p_x0 ?p_e0ga ?p_e0gt ?p_e0ha ?p_e0hn ?p_e0tk ?p_e0mb ?p_e0mo ?p_v0 ?p_s0 ?p_t0_0 ?p_t0_1 ?p_t0_2 ?p_t0_3 ?p_t0_4 ?p_t0_5 ?p_t0_6 ?p_t0_7 ?p_t0_8 ?p_t0_9 ?p_x1 ?p_e1ga ?p_e1gt ?p_e1ha ?p_e1hn ?p_e1tk ?p_e1mb ?p_e1mo ?p_v1 ?p_s1 ?p_t1_0 ?p_t1_1 ?p_t1_2 ?p_t1_3 ?p_t1_4 ?p_t1_5 ?p_t1_6 ?p_t1_7 ?p_t1_8 ?p_t1_9 ?_ ?_ ?_ ?_ ?_ ?_ ?_ ?_ ?_ ?_ ?_ ?_ ?_ ?_ ?_ ?_ ?_ ?_ ?_ ?_ ?_ ?_ ?_ ?_ ?_ ?_ ?_ ?_ ?_ ?_ ?_ ?_ ?_ ?_ ?_ ?_ ?_ ?_ ?_ ?_ ?_ ?_ ?_ ?_ ?_ ?_ ?_ ?_ ?_ ?_ ?_ ?_ ?_ ?_ ?_ ?_ ?_ ?_
  (case g_Rule=>refine' L2.Gc.mk ?a ?b ?c ?d ?e ?f ?g ?h ?i ?j ?k; (case a=>k_is); (case b=>k_is); (case c=>k_is); (case d=>k_is); (case e=>k_is); (case f=>k_is); (case g=>k_is); (case h=>k_is); (case i=>k_is); (case j=>k_is); (case k=>k_is))
  (case g_Straight=>refine' L2.Gc.mk ?a ?b ?c ?d ?e ?f ?g ?h ?i ?j ?k; (case a=>k_is); (case b=>k_is); (case c=>k_is); (case d=>k_is); (case e=>k_is); (case f=>k_is); (case g=>k_is); (case h=>k_is); (case i=>k_is); (case j=>k_is); (case k=>k_is))
  (case g_Stopped=>refine' L2.Gc.mk ?a ?b ?c ?d ?e ?f ?g ?h ?i ?j ?k; (case a=>k_is); (case b=>k_is); (case c=>k_is); (case d=>k_is); (case e=>k_is); (case f=>k_is); (case g=>k_is); (case h=>k_is); (case i=>k_is); (case j=>k_is); (case k=>k_is))
  (case g_Parted=>refine' L2.Gc.mk ?a ?b ?c ?d ?e ?f ?g ?h ?i ?j ?k; (case a=>k_is); (case b=>k_is); (case c=>k_is); (case d=>k_is); (case e=>k_is); (case f=>k_is); (case g=>k_is); (case h=>k_is); (case i=>k_is); (case j=>k_is); (case k=>k_is))
  (case g_Mode=>refine' L2.Gc.mk ?a ?b ?c ?d ?e ?f ?g ?h ?i ?j ?k; (case a=>k_is); (case b=>k_is); (case c=>k_is); (case d=>k_is); (case e=>k_is); (case f=>k_is); (case g=>k_is); (case h=>k_is); (case i=>k_is); (case j=>k_is); (case k=>k_is))
  (case g_Thing=>refine' L2.Gc.mk ?a ?b ?c ?d ?e ?f ?g ?h ?i ?j ?k; (case a=>k_is); (case b=>k_is); (case c=>k_is); (case d=>k_is); (case e=>k_is); (case f=>k_is); (case g=>k_is); (case h=>k_is); (case i=>k_is); (case j=>k_is); (case k=>k_is))
  (case p_m0|p_m1|p_m2|p_m3|p_m4|p_m5|p_m6|p_m7|p_m8|p_m9|p_mS=>k_is)
  (case p_y_mi=>first | kit_is | k_is | rfl | decide +kernel)
  (case p_y_mb=>first | kit_is | k_is | rfl | decide +kernel)
  (case p_y_ml=>first | kit_is | k_is | rfl | decide +kernel)
  (case p_y_mt=>first | kit_is | k_is | rfl | decide +kernel)
  (case p_y_k1=>first | kit_is | k_is | rfl | decide +kernel)
  (case p_y_k2=>first | kit_is | k_is | rfl | decide +kernel)
  (case p_y_k3=>first | kit_is | k_is | rfl | decide +kernel)
  (case p_y_k4=>first | kit_is | k_is | rfl | decide +kernel)
  (case p_y_k5=>first | kit_is | k_is | rfl | decide +kernel)
  (case p_y_k6=>first | kit_is | k_is | rfl | decide +kernel)
  (case p_y_k7=>first | kit_is | k_is | rfl | decide +kernel)
  (case p_w_k21=>first | kit_is | k_is | rfl | decide +kernel)
  (case p_w_k31=>first | kit_is | k_is | rfl | decide +kernel)
  (case p_w_k12=>first | kit_is | k_is | rfl | decide +kernel)
  (case p_w_k32=>first | kit_is | k_is | rfl | decide +kernel)
  (case p_w_k13=>first | kit_is | k_is | rfl | decide +kernel)
  (case p_w_i1=>first | kit_is | k_is | rfl | decide +kernel)
  (case p_w_i2=>first | kit_is | k_is | rfl | decide +kernel)
  (case p_w_i3=>first | kit_is | k_is | rfl | decide +kernel)
  (case p_w_n1=>first | kit_is | k_is | rfl | decide +kernel)
  (case p_w_n2=>first | kit_is | k_is | rfl | decide +kernel)
  (case p_w_n3=>first | kit_is | k_is | rfl | decide +kernel)
  (case p_w_s1=>first | kit_is | k_is | rfl | decide +kernel)
  (case p_w_s2=>first | kit_is | k_is | rfl | decide +kernel)
  (case p_w_s3=>first | kit_is | k_is | rfl | decide +kernel)
  (case p_w_l1=>first | kit_is | k_is | rfl | decide +kernel)
  (case p_w_l2=>first | kit_is | k_is | rfl | decide +kernel)
  (case p_w_l3=>first | kit_is | k_is | rfl | decide +kernel)
  (case p_x0=>k_exc)
  (case p_e0ga|p_e0gt|p_e0ha|p_e0hn|p_e0tk|p_e0mb|p_e0mo=>k_is)
  (case p_v0=>first | kit_is | k_is | rfl | decide +kernel)
  (case p_s0=>first | kit_is | k_is | rfl | decide +kernel)
  (case p_t0_0=>first | kit_is | k_is | rfl | decide +kernel)
  (case p_t0_1=>first | kit_is | k_is | rfl | decide +kernel)
  (case p_t0_2=>first | kit_is | k_is | rfl | decide +kernel)
  (case p_t0_3=>first | kit_is | k_is | rfl | decide +kernel)
  (case p_t0_4=>first | kit_is | k_is | rfl | decide +kernel)
  (case p_t0_5=>first | kit_is | k_is | rfl | decide +kernel)
  (case p_t0_6=>first | kit_is | k_is | rfl | decide +kernel)
  (case p_t0_7=>first | kit_is | k_is | rfl | decide +kernel)
  (case p_t0_8=>first | kit_is | k_is | rfl | decide +kernel)
  (case p_t0_9=>first | kit_is | k_is | rfl | decide +kernel)
  (case p_x1=>k_exc)
  (case p_e1ga|p_e1gt|p_e1ha|p_e1hn|p_e1tk|p_e1mb|p_e1mo=>k_is)
  (case p_v1=>first | kit_is | k_is | rfl | decide +kernel)
  (case p_s1=>first | kit_is | k_is | rfl | decide +kernel)
  (case p_t1_0=>first | kit_is | k_is | rfl | decide +kernel)
  (case p_t1_1=>first | kit_is | k_is | rfl | decide +kernel)
  (case p_t1_2=>first | kit_is | k_is | rfl | decide +kernel)
  (case p_t1_3=>first | kit_is | k_is | rfl | decide +kernel)
  (case p_t1_4=>first | kit_is | k_is | rfl | decide +kernel)
  (case p_t1_5=>first | kit_is | k_is | rfl | decide +kernel)
  (case p_t1_6=>first | kit_is | k_is | rfl | decide +kernel)
  (case p_t1_7=>first | kit_is | k_is | rfl | decide +kernel)
  (case p_t1_8=>first | kit_is | k_is | rfl | decide +kernel)
  (case p_t1_9=>first | kit_is | k_is | rfl | decide +kernel)
  any_goals first | (refine' L2.Gc.mk ?a ?b ?c ?d ?e ?f ?g ?h ?i ?j ?k; (case a=>k_is); (case b=>k_is); (case c=>k_is); (case d=>k_is); (case e=>k_is); (case f=>k_is); (case g=>k_is); (case h=>k_is); (case i=>k_is); (case j=>k_is); (case k=>k_is)) | (refine' L2.gn ?a ?l ?c ?k; (case a=>k_is); (case l=>k_is); (case c=>k_is); (case k=>k_is)) | (refine' L2.gp ?a ?i ?l ?c ?k; (case a=>k_is); (case i=>k_is); (case l=>k_is); (case c=>k_is); (case k=>k_is)) | (refine' L2.gq ?a ?l ?c ?k ?d; (case a=>k_is); (case l=>k_is); (case c=>k_is); (case k=>k_is); (case d=>k_is)) | (refine' L2.gr ?a ?z ?l ?c ?k ?d; (case a=>k_is); (case z=>k_is); (case l=>k_is); (case c=>k_is); (case k=>k_is); (case d=>k_is)) | k_is
#print axioms PySem.Challenge.cw_steadyhand_k24_rules_refused_holds
