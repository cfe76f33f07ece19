import PyProof.Rows.All
import Wide.All
import OpenK.AllK
import Wide.FinOn
import Lean
import PyProof.EqAt
import PyProof.EqKinds
import PyProof.TupleCall
import PyProof.ZipIter
import PyProof.Draws
import PyProof.StationsW
import PyProof.EnumStmt
import PyProof.EnumMake
import PySem.Challenge.RW_steadyhand_k31_runs_walked
set_option Elab.async false
set_option linter.all false
set_option maxRecDepth 100000
set_option maxHeartbeats 0
namespace TT
open PySem PySem.W
noncomputable def runT (tb:String->Option Builtin) (p:Program) (w:World) (k:Nat) (an:Option Value):Nat->SharedT->Thread->Option SharedT
 | 0,_,_=>none
 | j + 1,x,t=>match through t with
  | true=>some x
  | false=>match stepOk k an t with
   | false=>none
   | true=>match stepT (denote tb) p w x t with
    | none=>none
    | some y=>runT tb p w k an j y.1 y.2
theorem Y3 {tb:String->Option Builtin} {p:Program} {w:World} {k:Nat} {an:Option Value}:∀ (j:Nat) (x y:SharedT) (t:Thread),runT tb p w k an j x t=some y->topRun tb p w k an j x.abs t=some y.abs
 | 0,_,_,_,e=>by cases e
 | j + 1,x,y,t,e=>by
  unfold runT at e
  unfold topRun
  cases e1:through t with
  | true=>
   rw [e1] at e
   cases e
   rfl
  | false=>
   rw [e1] at e
   cases e2:stepOk k an t with
   | false=>rw [e2] at e; cases e
   | true=>
    rw [e2] at e
    cases e3:stepT (denote tb) p w x t with
    | none=>rw [e3] at e; cases e
    | some z=>
     rw [e3] at e
     rw [stepT_spec e3]
     exact Y3 j z.1 y z.2 e
theorem left_is {p q:Program} {lo:List Str} {xt:Shared->Bool} {α:Type} {Yf:Shared->α} {Ya:World->α} {N k n0:Nat} {an:Option Value} {tr:Params->BT} (op:∀ w:World,(fencedOpening treeTable p w N).map (λs=>(s.heap,s.gens,s.drawn,s.toks))=some (boot_heap w.params,Array.mk [],boot_drawn,boot_toks))
  (et:∀ P:Params,absHeap (tr P) n0 (boot_heap P).life=boot_heap P) (z1:∀ P:Params,(boot_heap P).isNs mainGlobals=true) (z2:∀ P:Params,(boot_heap P).objs.size=k) (z3:∀ P:Params,(boot_heap P).nsMap mainGlobals "__annotations__" = an)
  (h:∀ (w:World) (os:OsState),(runT treeTable p w k an N ⟨tr w.params,n0,(boot_heap w.params).life,Array.mk [],boot_drawn,boot_toks,os⟩ (topStub p)).map (λs=>((staticsOk (importedModules p.main.body) (boot_heap w.params) s.abs.heap && namesBound p s.abs.heap && gensDone s.abs && laidKept (boot_heap w.params) s.abs.heap),openSeen q lo (importedModules p.main.body) xt true s.abs,Yf s.abs))=some (true,openGood q lo,Ya w)) :
  LeftO p q lo xt Yf Ya N:=λw=>by
 obtain ⟨⟨hp,gs,d,tk,os⟩,e,e'⟩:=Option.map_eq_some_iff.mp (op w)
 injection e' with a1 e'
 injection e' with a2 e'
 injection e' with a3 a4
 subst a1 a2 a3 a4
 obtain ⟨y,ey,eo⟩:=Option.map_eq_some_iff.mp (h w os)
 injection eo with l1 eo
 injection eo with l2 l3
 have r:=Y3 _ _ _ _ ey
 have r':topRun treeTable p w k an N ⟨boot_heap w.params,Array.mk [],boot_drawn,boot_toks,os⟩ (topStub p)=some y.abs:=by
  rw [<- r]
  unfold SharedT.abs
  rw [et]
 have f:topFrom treeTable p w N ⟨boot_heap w.params,Array.mk [],boot_drawn,boot_toks,os⟩=some y.abs:=by
  unfold topFrom
  show (match (boot_heap w.params).isNs mainGlobals && true with | true=>_ | false=>_)=_
  rw [z1,z2,z3,r']
  show (match (_ && _ && _ && _) with | true=>_ | false=>_)=_
  rw [l1]
 unfold openEnds
 rw [e]
 show (topFrom treeTable p w N _).map _=_
 rw [f]
 exact congrArg some (Prod.ext l2 l3)
end TT
namespace H31
open PySem PySem.W
set_option maxRecDepth 100000
noncomputable def hT (i:Nat):Stmt:=PySem.Challenge.pw_steadyhand_k31_runs_walked.main.body.getD i (.Pass ⟨0,0,0,0⟩)
noncomputable def hI (i j:Nat):Stmt:=match hT i with
 | .ClassDef _ _ _ b _ _ _ _ _ _ _=>b.getD j (.Pass ⟨0,0,0,0⟩)
 | s=>s
noncomputable def hA:Stmt->Arguments
 | .FunctionDef _ a _ _ _ _ _ _ _ _=>a
 | _=>⟨[],[],none,[],[],none,[]⟩
noncomputable def hB:Stmt->List Stmt
 | .FunctionDef _ _ b _ _ _ _ _ _ _=>b
 | _=>[]
noncomputable def hC:Stmt->Scope
 | .FunctionDef _ _ _ _ _ _ c _ _ _=>c
 | _=>{ kind:=.function,names:=[],isGenerator:=false,isCoroutine:=false }
noncomputable abbrev hS (s:String) (n:Nat):Value:=.str (Str.ofString s) n
noncomputable abbrev hE (P:Params) (s:String) (n:Nat) (v:Value):DictEntry:=⟨PyData.keyHash P (Str.ofString s),hS s n,v⟩
noncomputable abbrev hU (x:Array Value):Obj:={ cls:=.type "tuple",data:=.seq x }
noncomputable abbrev hD (s:String) (a:Nat) (s2:String) (b c:Nat) (i j f:Int) (r1 r2:Nat) (u v t r:Value) (y z:Int) (d:Nat):Obj:={ cls:=.type "code",data:=.fields #[hS s a,hS s2 b,hS "/claim/cut.py" c,.int i 0,.int j 0,.int 0 0,.int 0 0,.int f 0,.ref r1,.bool true,.int 181 0,.ref r2,u,v,t,r,.int y 0,.int z 0,hS "/claim/cut.py" d] }
noncomputable abbrev hF (n q:String) (s:Stmt) (d k:Value) (m:String) (j c:Nat):Obj:={ cls:=.type "function",data:=.func { name:=n,qualname:=q,params:=hA s,body:=.stmts (hB s),scope:=hC s,globals:=3,closure:=[],defaults:=d,kwdefaults:=k,pyModule:=hS m j,code:=.ref c } }
noncomputable def KK:Params->Frag:=λP=>
 (nat_lit 2,{ cls:=.none,data:=.dict #[] })::(nat_lit 3,{ cls:=.type "dict",data:=.dict #[hE P "__name__" 165 (hS "law_steadyhand_k31_runs_walked" 625),hE P "__doc__" 166 (.none),hE P "__package__" 167 (.none),hE P "__loader__" 168 (.builtin "__main__.__loader__#opaque"),hE P "__spec__" 169 (.none),hE P "__annotations__" 170 (.ref 6),hE P "__builtins__" 171 (.ref 4),hE P "__file__" 173 (hS "/claim/cut.py" 172),hE P "__cached__" 174 (.none),hE P "_wall" 193 (.ref 21),hE P "SteadyError" 213 (.ref 31),hE P "NoNumber" 229 (.ref 44),hE P "BadThing" 245 (.ref 56),hE P "BadRule" 261 (.ref 68),hE P "TooMany" 277 (.ref 80),hE P "NoRun" 302 (.ref 99),hE P "NotClosed" 318 (.ref 111),hE P "NotPlain" 334 (.ref 123),hE P "is_whole" 343 (.ref 132),hE P "common_divisor" 354 (.ref 139),hE P "fraction" 364 (.ref 147),hE P "under" 372 (.ref 154),hE P "is_numbers" 380 (.ref 159),hE P "is_table" 386 (.ref 164),hE P "copied" 393 (.ref 170),hE P "is_row" 401 (.ref 175),hE P "is_room" 407 (.ref 180),hE P "raw_sum" 419 (.ref 187),hE P "divided_sum" 430 (.ref 194),hE P "holds" 439 (.ref 201),hE P "lies_in" 445 (.ref 206),hE P "point_behind" 453 (.ref 211),hE P "number_behind" 466 (.ref 218),hE P "walked" 480 (.ref 225),hE P "can_be_made" 486 (.ref 230),hE P "lies_between" 494 (.ref 237),hE P "MOST_NUMBERS" 498 (.int 3 497),hE P "MOST_PUSHES" 500 (.int 6 499),hE P "MOST_MODES" 502 (.int 40 501),hE P "Mode" 541 (.ref 254),hE P "Thing" 602 (.ref 303),hE P "is_sound" 608 (.ref 312),hE P "is_push" 615 (.ref 319),hE P "is_mode" 624 (.ref 326),hE P "_law_cell_at" 634 (.ref 333),hE P "_law_stream" 646 (.ref 340),hE P "_law_number" 653 (.ref 347),hE P "_law_parts" 659 (.ref 352),hE P "_law_divisor" 667 (.ref 359),hE P "_law_fraction" 676 (.ref 366),hE P "_law_sum" 688 (.ref 373),hE P "_law_held" 698 (.ref 380),hE P "_law_behind" 717 (.ref 387),hE P "_law_pushes" 732 (.ref 394),hE P "_law_fit" 742 (.ref 401),hE P "_law_step" 756 (.ref 408),hE P "_law_refused" 768 (.ref 415),hE P "_law_copied" 774 (.ref 420),hE P "_law_told" 780 (.ref 425),hE P "law" 786 (.ref 430)] 60 })::(nat_lit 15,hU #[])::(nat_lit 17,hU #[hS "k" 190])::(nat_lit 18,hU #[])::(nat_lit 20,hD "_wall" 187 "_wall" 188 189 1 1 3 15 16 .none (.ref 17) (.ref 18) (.ref 19) 191 1 192)::(nat_lit 21,hF "_wall" "_wall" (hT 0) .none .none "__main__" 164 20)::(nat_lit 22,hU #[.type "ValueError"])::(nat_lit 29,hU #[])::(nat_lit 30,{ cls:=.type "dict",data:=.dict #[hE P "__module__" 203 (hS "steadyhand.errors" 194),hE P "__firstlineno__" 207 (.int 5 206),hE P "__static_attributes__" 208 (.ref 29),hE P "__weakref__" 210 (.ref 32),hE P "__doc__" 211 (.none)] 3 })::(nat_lit 31,{ cls:=.type "type",data:=.cls { name:="SteadyError",bases:=[.type "ValueError"],mro:=[.ref 31,.type "ValueError",.type "Exception",.type "BaseException",.type "object"],ns:=30,qualname:="SteadyError",subclasses:=[.ref 44,.ref 56,.ref 68,.ref 80,.ref 99,.ref 111,.ref 123] },slots:=#[some (.ref 22),none,some (hS "SteadyError" 196),some (hS "SteadyError" 204),some (.builtin "ValueError.__new__"),some (.bool true)] })::(nat_lit 32,{ cls:=.type "getset_descriptor",data:=.fields #[hS "__weakref__" 209,.ref 31,.builtin "ExceptionGroup.__weakref__",.none] })::(nat_lit 35,hU #[.ref 31])::(nat_lit 42,hU #[])::(nat_lit 43,{ cls:=.type "dict",data:=.dict #[hE P "__module__" 221 (hS "steadyhand.errors" 194),hE P "__firstlineno__" 225 (.int 7 224),hE P "__static_attributes__" 226 (.ref 42),hE P "__doc__" 227 (.none)] 2 })::(nat_lit 44,{ cls:=.type "type",data:=.cls { name:="NoNumber",bases:=[.ref 31],mro:=[.ref 44,.ref 31,.type "ValueError",.type "Exception",.type "BaseException",.type "object"],ns:=43,qualname:="NoNumber" },slots:=#[some (.ref 35),none,some (hS "NoNumber" 214),some (hS "NoNumber" 222),some (.builtin "ValueError.__new__"),some (.bool true)] })::(nat_lit 47,hU #[.ref 31])::(nat_lit 54,hU #[])::(nat_lit 55,{ cls:=.type "dict",data:=.dict #[hE P "__module__" 237 (hS "steadyhand.errors" 194),hE P "__firstlineno__" 241 (.int 9 240),hE P "__static_attributes__" 242 (.ref 54),hE P "__doc__" 243 (.none)] 2 })::(nat_lit 56,{ cls:=.type "type",data:=.cls { name:="BadThing",bases:=[.ref 31],mro:=[.ref 56,.ref 31,.type "ValueError",.type "Exception",.type "BaseException",.type "object"],ns:=55,qualname:="BadThing" },slots:=#[some (.ref 47),none,some (hS "BadThing" 230),some (hS "BadThing" 238),some (.builtin "ValueError.__new__"),some (.bool true)] })::(nat_lit 59,hU #[.ref 31])::(nat_lit 66,hU #[])::(nat_lit 67,{ cls:=.type "dict",data:=.dict #[hE P "__module__" 253 (hS "steadyhand.errors" 194),hE P "__firstlineno__" 257 (.int 11 256),hE P "__static_attributes__" 258 (.ref 66),hE P "__doc__" 259 (.none)] 2 })::(nat_lit 68,{ cls:=.type "type",data:=.cls { name:="BadRule",bases:=[.ref 31],mro:=[.ref 68,.ref 31,.type "ValueError",.type "Exception",.type "BaseException",.type "object"],ns:=67,qualname:="BadRule" },slots:=#[some (.ref 59),none,some (hS "BadRule" 246),some (hS "BadRule" 254),some (.builtin "ValueError.__new__"),some (.bool true)] })::(nat_lit 71,hU #[.ref 31])::(nat_lit 78,hU #[])::(nat_lit 79,{ cls:=.type "dict",data:=.dict #[hE P "__module__" 269 (hS "steadyhand.errors" 194),hE P "__firstlineno__" 273 (.int 13 272),hE P "__static_attributes__" 274 (.ref 78),hE P "__doc__" 275 (.none)] 2 })::(nat_lit 80,{ cls:=.type "type",data:=.cls { name:="TooMany",bases:=[.ref 31],mro:=[.ref 80,.ref 31,.type "ValueError",.type "Exception",.type "BaseException",.type "object"],ns:=79,qualname:="TooMany" },slots:=#[some (.ref 71),none,some (hS "TooMany" 262),some (hS "TooMany" 270),some (.builtin "ValueError.__new__"),some (.bool true)] })::(nat_lit 83,hU #[.ref 31])::(nat_lit 90,hU #[])::(nat_lit 92,hU #[hS "self" 293,hS "step" 294])::(nat_lit 93,hU #[])::(nat_lit 95,hD "__init__" 290 "NoRun.__init__" 291 292 17 2 3 90 91 .none (.ref 92) (.ref 93) (.ref 94) 295 17 296)::(nat_lit 96,hF "__init__" "NoRun.__init__" (hI 7 0) .none .none "steadyhand.errors" 194 95)::(nat_lit 97,hU #[hS "step" 298])::(nat_lit 98,{ cls:=.type "dict",data:=.dict #[hE P "__module__" 285 (hS "steadyhand.errors" 194),hE P "__firstlineno__" 289 (.int 15 288),hE P "__init__" 297 (.ref 96),hE P "__static_attributes__" 299 (.ref 97),hE P "__doc__" 300 (.none)] 2 })::(nat_lit 99,{ cls:=.type "type",data:=.cls { name:="NoRun",bases:=[.ref 31],mro:=[.ref 99,.ref 31,.type "ValueError",.type "Exception",.type "BaseException",.type "object"],ns:=98,qualname:="NoRun" },slots:=#[some (.ref 83),none,some (hS "NoRun" 278),some (hS "NoRun" 286),some (.builtin "ValueError.__new__"),some (.bool true)] })::(nat_lit 102,hU #[.ref 31])::(nat_lit 109,hU #[])::(nat_lit 110,{ cls:=.type "dict",data:=.dict #[hE P "__module__" 310 (hS "steadyhand.errors" 194),hE P "__firstlineno__" 314 (.int 20 313),hE P "__static_attributes__" 315 (.ref 109),hE P "__doc__" 316 (.none)] 2 })::(nat_lit 111,{ cls:=.type "type",data:=.cls { name:="NotClosed",bases:=[.ref 31],mro:=[.ref 111,.ref 31,.type "ValueError",.type "Exception",.type "BaseException",.type "object"],ns:=110,qualname:="NotClosed" },slots:=#[some (.ref 102),none,some (hS "NotClosed" 303),some (hS "NotClosed" 311),some (.builtin "ValueError.__new__"),some (.bool true)] })::(nat_lit 114,hU #[.ref 31])::(nat_lit 121,hU #[])::(nat_lit 122,{ cls:=.type "dict",data:=.dict #[hE P "__module__" 326 (hS "steadyhand.errors" 194),hE P "__firstlineno__" 330 (.int 22 329),hE P "__static_attributes__" 331 (.ref 121),hE P "__doc__" 332 (.none)] 2 })::(nat_lit 123,{ cls:=.type "type",data:=.cls { name:="NotPlain",bases:=[.ref 31],mro:=[.ref 123,.ref 31,.type "ValueError",.type "Exception",.type "BaseException",.type "object"],ns:=122,qualname:="NotPlain" },slots:=#[some (.ref 114),none,some (hS "NotPlain" 319),some (hS "NotPlain" 327),some (.builtin "ValueError.__new__"),some (.bool true)] })::(nat_lit 126,hU #[])::(nat_lit 128,hU #[hS "thing" 340])::(nat_lit 129,hU #[])::(nat_lit 131,hD "is_whole" 337 "is_whole" 338 339 25 1 3 126 127 .none (.ref 128) (.ref 129) (.ref 130) 341 25 342)::(nat_lit 132,hF "is_whole" "is_whole" (hT 11) .none .none "steadyhand.fractions" 335 131)::(nat_lit 133,hU #[])::(nat_lit 135,hU #[hS "numbers" 347,hS "common" 348,hS "number" 349,hS "rest" 350,hS "left" 351])::(nat_lit 136,hU #[])::(nat_lit 138,hD "common_divisor" 344 "common_divisor" 345 346 27 1 3 133 134 .none (.ref 135) (.ref 136) (.ref 137) 352 27 353)::(nat_lit 139,hF "common_divisor" "common_divisor" (hT 12) .none .none "steadyhand.fractions" 335 138)::(nat_lit 140,hU #[.int 1 355])::(nat_lit 141,hU #[])::(nat_lit 143,hU #[hS "top" 359,hS "bottom" 360,hS "common" 361])::(nat_lit 144,hU #[])::(nat_lit 146,hD "fraction" 356 "fraction" 357 358 36 2 3 141 142 .none (.ref 143) (.ref 144) (.ref 145) 362 36 363)::(nat_lit 147,hF "fraction" "fraction" (hT 13) (.ref 140) .none "steadyhand.fractions" 335 146)::(nat_lit 148,hU #[])::(nat_lit 150,hU #[hS "one" 368,hS "other" 369])::(nat_lit 151,hU #[])::(nat_lit 153,hD "under" 365 "under" 366 367 45 2 3 148 149 .none (.ref 150) (.ref 151) (.ref 152) 370 45 371)::(nat_lit 154,hF "under" "under" (hT 14) .none .none "steadyhand.fractions" 335 153)::(nat_lit 155,hU #[])::(nat_lit 158,hD "is_numbers" 375 "is_numbers" 376 377 48 2 3 155 156 .none .none .none (.ref 157) 378 48 379)::(nat_lit 159,hF "is_numbers" "is_numbers" (hT 16) .none .none "steadyhand.tables" 373 158)::(nat_lit 160,hU #[])::(nat_lit 163,hD "is_table" 381 "is_table" 382 383 50 3 3 160 161 .none .none .none (.ref 162) 384 50 385)::(nat_lit 164,hF "is_table" "is_table" (hT 17) .none .none "steadyhand.tables" 373 163)::(nat_lit 165,hU #[.int 5 387])::(nat_lit 166,hU #[])::(nat_lit 169,hD "copied" 388 "copied" 389 390 52 2 3 166 167 .none .none .none (.ref 168) 391 52 392)::(nat_lit 170,hF "copied" "copied" (hT 18) (.ref 165) .none "steadyhand.tables" 373 169)::(nat_lit 171,hU #[])::(nat_lit 174,hD "is_row" 396 "is_row" 397 398 61 2 3 171 172 .none .none .none (.ref 173) 399 61 400)::(nat_lit 175,hF "is_row" "is_row" (hT 20) .none .none "steadyhand.rows" 394 174)::(nat_lit 176,hU #[])::(nat_lit 179,hD "is_room" 402 "is_room" 403 404 63 2 3 176 177 .none .none .none (.ref 178) 405 63 406)::(nat_lit 180,hF "is_room" "is_room" (hT 21) .none .none "steadyhand.rows" 394 179)::(nat_lit 181,hU #[])::(nat_lit 183,hU #[hS "numbers" 411,hS "point" 412,hS "top" 413,hS "bottom" 414,hS "number" 415,hS "part" 416])::(nat_lit 184,hU #[])::(nat_lit 186,hD "raw_sum" 408 "raw_sum" 409 410 65 2 3 181 182 .none (.ref 183) (.ref 184) (.ref 185) 417 65 418)::(nat_lit 187,hF "raw_sum" "raw_sum" (hT 22) .none .none "steadyhand.rows" 394 186)::(nat_lit 188,hU #[])::(nat_lit 190,hU #[hS "numbers" 423,hS "point" 424,hS "add" 425,hS "divisor" 426,hS "total" 427])::(nat_lit 191,hU #[])::(nat_lit 193,hD "divided_sum" 420 "divided_sum" 421 422 72 4 3 188 189 .none (.ref 190) (.ref 191) (.ref 192) 428 72 429)::(nat_lit 194,hF "divided_sum" "divided_sum" (hT 23) .none .none "steadyhand.rows" 394 193)::(nat_lit 195,hU #[])::(nat_lit 197,hU #[hS "row" 434,hS "point" 435,hS "total" 436])::(nat_lit 198,hU #[])::(nat_lit 200,hD "holds" 431 "holds" 432 433 75 2 3 195 196 .none (.ref 197) (.ref 198) (.ref 199) 437 75 438)::(nat_lit 201,hF "holds" "holds" (hT 24) .none .none "steadyhand.rows" 394 200)::(nat_lit 202,hU #[])::(nat_lit 205,hD "lies_in" 440 "lies_in" 441 442 78 2 3 202 203 .none .none .none (.ref 204) 443 78 444)::(nat_lit 206,hF "lies_in" "lies_in" (hT 25) .none .none "steadyhand.rows" 394 205)::(nat_lit 207,hU #[])::(nat_lit 210,hD "point_behind" 448 "point_behind" 449 450 81 4 3 207 208 .none .none .none (.ref 209) 451 81 452)::(nat_lit 211,hF "point_behind" "point_behind" (hT 27) .none .none "steadyhand.runs" 446 210)::(nat_lit 212,hU #[])::(nat_lit 214,hU #[hS "mode" 457,hS "place" 458,hS "point" 459,hS "steering" 460,hS "pushes" 461,hS "numbers" 462,hS "values" 463])::(nat_lit 215,hU #[])::(nat_lit 217,hD "number_behind" 454 "number_behind" 455 456 83 5 3 212 213 .none (.ref 214) (.ref 215) (.ref 216) 464 83 465)::(nat_lit 218,hF "number_behind" "number_behind" (hT 28) .none .none "steadyhand.runs" 446 217)::(nat_lit 219,hU #[])::(nat_lit 221,hU #[hS "thing" 470,hS "point" 471,hS "run" 472,hS "modes" 473,hS "bounds" 474,hS "points" 475,hS "number" 476,hS "step" 477])::(nat_lit 222,hU #[])::(nat_lit 224,hD "walked" 467 "walked" 468 469 90 3 3 219 220 .none (.ref 221) (.ref 222) (.ref 223) 478 90 479)::(nat_lit 225,hF "walked" "walked" (hT 29) .none .none "steadyhand.runs" 446 224)::(nat_lit 226,hU #[])::(nat_lit 229,hD "can_be_made" 481 "can_be_made" 482 483 99 4 3 226 227 .none .none .none (.ref 228) 484 99 485)::(nat_lit 230,hF "can_be_made" "can_be_made" (hT 30) .none .none "steadyhand.runs" 446 229)::(nat_lit 231,hU #[])::(nat_lit 233,hU #[hS "push" 490,hS "bound" 491])::(nat_lit 234,hU #[])::(nat_lit 236,hD "lies_between" 487 "lies_between" 488 489 105 2 3 231 232 .none (.ref 233) (.ref 234) (.ref 235) 492 105 493)::(nat_lit 237,hF "lies_between" "lies_between" (hT 31) .none .none "steadyhand.runs" 446 236)::(nat_lit 245,hU #[])::(nat_lit 247,hU #[hS "self" 518,hS "rows" 519,hS "nexts" 520,hS "steer" 521,hS "push" 522,hS "add" 523,hS "divisor" 524])::(nat_lit 248,hU #[])::(nat_lit 250,hD "__init__" 515 "Mode.__init__" 516 517 113 7 3 245 246 .none (.ref 247) (.ref 248) (.ref 249) 525 113 526)::(nat_lit 251,hF "__init__" "Mode.__init__" (hI 36 0) .none .none "steadyhand.things" 495 250)::(nat_lit 252,hU #[hS "add" 528,hS "divisor" 529,hS "nexts" 530,hS "push" 531,hS "rows" 532,hS "steer" 533])::(nat_lit 253,{ cls:=.type "dict",data:=.dict #[hE P "__module__" 510 (hS "steadyhand.things" 495),hE P "__firstlineno__" 514 (.int 111 513),hE P "__init__" 527 (.ref 251),hE P "__static_attributes__" 534 (.ref 252),hE P "__dict__" 536 (.ref 255),hE P "__weakref__" 538 (.ref 256),hE P "__doc__" 539 (.none)] 4 })::(nat_lit 254,{ cls:=.type "type",data:=.cls { name:="Mode",bases:=[.type "object"],mro:=[.ref 254,.type "object"],ns:=253,qualname:="Mode" },slots:=#[none,none,some (hS "Mode" 503),some (hS "Mode" 511),some (.builtin "object.__new__"),some (.bool true)] })::(nat_lit 255,{ cls:=.type "getset_descriptor",data:=.fields #[hS "__dict__" 535,.ref 254,.builtin "function.__dict__",.builtin "function.__dict__#set"] })::(nat_lit 256,{ cls:=.type "getset_descriptor",data:=.fields #[hS "__weakref__" 537,.ref 254,.builtin "ExceptionGroup.__weakref__",.none] })::(nat_lit 266,hU #[])::(nat_lit 268,hU #[hS "self" 557,hS "many" 558,hS "pushes" 559,hS "modes" 560])::(nat_lit 269,hU #[])::(nat_lit 271,hD "__init__" 554 "Thing.__init__" 555 556 122 4 3 266 267 .none (.ref 268) (.ref 269) (.ref 270) 561 122 562)::(nat_lit 272,hF "__init__" "Thing.__init__" (hI 37 0) .none .none "steadyhand.things" 495 271)::(nat_lit 273,hU #[])::(nat_lit 275,hU #[hS "self" 567])::(nat_lit 276,hU #[])::(nat_lit 278,hD "pushes" 564 "Thing.pushes" 565 566 131 1 3 273 274 .none (.ref 275) (.ref 276) (.ref 277) 568 131 569)::(nat_lit 279,hF "pushes" "Thing.pushes" (hI 37 1) .none .none "steadyhand.things" 495 278)::(nat_lit 280,hU #[])::(nat_lit 282,hU #[hS "self" 574])::(nat_lit 283,hU #[])::(nat_lit 285,hD "modes" 571 "Thing.modes" 572 573 134 1 3 280 281 .none (.ref 282) (.ref 283) (.ref 284) 575 134 576)::(nat_lit 286,hF "modes" "Thing.modes" (hI 37 2) .none .none "steadyhand.things" 495 285)::(nat_lit 287,hU #[])::(nat_lit 289,hU #[hS "self" 581])::(nat_lit 290,hU #[])::(nat_lit 292,hD "is_closed" 578 "Thing.is_closed" 579 580 137 1 3 287 288 .none (.ref 289) (.ref 290) (.ref 291) 582 137 583)::(nat_lit 293,hF "is_closed" "Thing.is_closed" (hI 37 3) .none .none "steadyhand.things" 495 292)::(nat_lit 294,hU #[])::(nat_lit 296,hU #[hS "self" 588])::(nat_lit 297,hU #[])::(nat_lit 299,hD "is_plain" 585 "Thing.is_plain" 586 587 140 1 3 294 295 .none (.ref 296) (.ref 297) (.ref 298) 589 140 590)::(nat_lit 300,hF "is_plain" "Thing.is_plain" (hI 37 4) .none .none "steadyhand.things" 495 299)::(nat_lit 301,hU #[hS "kept_modes" 592,hS "kept_pushes" 593,hS "many" 594])::(nat_lit 302,{ cls:=.type "dict",data:=.dict #[hE P "__module__" 549 (hS "steadyhand.things" 495),hE P "__firstlineno__" 553 (.int 120 552),hE P "__init__" 563 (.ref 272),hE P "pushes" 570 (.ref 279),hE P "modes" 577 (.ref 286),hE P "is_closed" 584 (.ref 293),hE P "is_plain" 591 (.ref 300),hE P "__static_attributes__" 595 (.ref 301),hE P "__dict__" 597 (.ref 304),hE P "__weakref__" 599 (.ref 305),hE P "__doc__" 600 (.none)] 4 })::(nat_lit 303,{ cls:=.type "type",data:=.cls { name:="Thing",bases:=[.type "object"],mro:=[.ref 303,.type "object"],ns:=302,qualname:="Thing" },slots:=#[none,none,some (hS "Thing" 542),some (hS "Thing" 550),some (.builtin "object.__new__"),some (.bool true)] })::(nat_lit 304,{ cls:=.type "getset_descriptor",data:=.fields #[hS "__dict__" 596,.ref 303,.builtin "function.__dict__",.builtin "function.__dict__#set"] })::(nat_lit 305,{ cls:=.type "getset_descriptor",data:=.fields #[hS "__weakref__" 598,.ref 303,.builtin "ExceptionGroup.__weakref__",.none] })::(nat_lit 308,hU #[])::(nat_lit 311,hD "is_sound" 603 "is_sound" 604 605 142 3 3 308 309 .none .none .none (.ref 310) 606 142 607)::(nat_lit 312,hF "is_sound" "is_sound" (hT 38) .none .none "steadyhand.things" 495 311)::(nat_lit 313,hU #[])::(nat_lit 315,hU #[hS "value" 612])::(nat_lit 316,hU #[])::(nat_lit 318,hD "is_push" 609 "is_push" 610 611 150 1 3 313 314 .none (.ref 315) (.ref 316) (.ref 317) 613 150 614)::(nat_lit 319,hF "is_push" "is_push" (hT 39) .none .none "steadyhand.things" 495 318)::(nat_lit 320,hU #[])::(nat_lit 322,hU #[hS "value" 619,hS "many" 620,hS "wide" 621])::(nat_lit 323,hU #[])::(nat_lit 325,hD "is_mode" 616 "is_mode" 617 618 154 3 3 320 321 .none (.ref 322) (.ref 323) (.ref 324) 622 154 623)::(nat_lit 326,hF "is_mode" "is_mode" (hT 40) .none .none "steadyhand.things" 495 325)::(nat_lit 327,hU #[])::(nat_lit 329,hU #[hS "_law_script" 630,hS "_law_k" 631])::(nat_lit 330,hU #[])::(nat_lit 332,hD "_law_cell_at" 627 "_law_cell_at" 628 629 163 2 3 327 328 .none (.ref 329) (.ref 330) (.ref 331) 632 163 633)::(nat_lit 333,hF "_law_cell_at" "_law_cell_at" (hT 42) .none .none "law_steadyhand_k31_runs_walked" 625 332)::(nat_lit 334,hU #[])::(nat_lit 336,hU #[hS "_law_cell" 638,hS "_law_many" 639,hS "_law_found" 640,hS "_law_rest" 641,hS "_law_k" 642,hS "_law_number_here" 643])::(nat_lit 337,hU #[])::(nat_lit 339,hD "_law_stream" 635 "_law_stream" 636 637 167 2 3 334 335 .none (.ref 336) (.ref 337) (.ref 338) 644 167 645)::(nat_lit 340,hF "_law_stream" "_law_stream" (hT 43) .none .none "law_steadyhand_k31_runs_walked" 625 339)::(nat_lit 341,hU #[])::(nat_lit 343,hU #[hS "_law_number_here" 650])::(nat_lit 344,hU #[])::(nat_lit 346,hD "_law_number" 647 "_law_number" 648 649 180 1 3 341 342 .none (.ref 343) (.ref 344) (.ref 345) 651 180 652)::(nat_lit 347,hF "_law_number" "_law_number" (hT 44) .none .none "law_steadyhand_k31_runs_walked" 625 346)::(nat_lit 348,hU #[])::(nat_lit 351,hD "_law_parts" 654 "_law_parts" 655 656 184 3 3 348 349 .none .none .none (.ref 350) 657 184 658)::(nat_lit 352,hF "_law_parts" "_law_parts" (hT 45) .none .none "law_steadyhand_k31_runs_walked" 625 351)::(nat_lit 353,hU #[])::(nat_lit 355,hU #[hS "_law_one" 663,hS "_law_other" 664])::(nat_lit 356,hU #[])::(nat_lit 358,hD "_law_divisor" 660 "_law_divisor" 661 662 193 2 3 353 354 .none (.ref 355) (.ref 356) (.ref 357) 665 193 666)::(nat_lit 359,hF "_law_divisor" "_law_divisor" (hT 46) .none .none "law_steadyhand_k31_runs_walked" 625 358)::(nat_lit 360,hU #[])::(nat_lit 362,hU #[hS "_law_top" 671,hS "_law_bottom" 672,hS "_law_share" 673])::(nat_lit 363,hU #[])::(nat_lit 365,hD "_law_fraction" 668 "_law_fraction" 669 670 197 2 3 360 361 .none (.ref 362) (.ref 363) (.ref 364) 674 197 675)::(nat_lit 366,hF "_law_fraction" "_law_fraction" (hT 47) .none .none "law_steadyhand_k31_runs_walked" 625 365)::(nat_lit 367,hU #[])::(nat_lit 369,hU #[hS "_law_numbers" 680,hS "_law_point" 681,hS "_law_top" 682,hS "_law_bottom" 683,hS "_law_number_here" 684,hS "_law_value" 685])::(nat_lit 370,hU #[])::(nat_lit 372,hD "_law_sum" 677 "_law_sum" 678 679 200 2 3 367 368 .none (.ref 369) (.ref 370) (.ref 371) 686 200 687)::(nat_lit 373,hF "_law_sum" "_law_sum" (hT 48) .none .none "law_steadyhand_k31_runs_walked" 625 372)::(nat_lit 374,hU #[])::(nat_lit 376,hU #[hS "_law_rows" 692,hS "_law_point" 693,hS "_law_row" 694,hS "_law_value" 695])::(nat_lit 377,hU #[])::(nat_lit 379,hD "_law_held" 689 "_law_held" 690 691 207 2 3 374 375 .none (.ref 376) (.ref 377) (.ref 378) 696 207 697)::(nat_lit 380,hF "_law_held" "_law_held" (hT 49) .none .none "law_steadyhand_k31_runs_walked" 625 379)::(nat_lit 381,hU #[])::(nat_lit 383,hU #[hS "_law_parts_here" 702,hS "_law_point" 703,hS "_law_steering" 704,hS "_law_pushes_here" 705,hS "_law_rows" 706,hS "_law_nexts" 707,hS "_law_steer" 708,hS "_law_push" 709,hS "_law_add" 710,hS "_law_divisor_here" 711,hS "_law_found" 712,hS "_law_i" 713,hS "_law_value" 714])::(nat_lit 384,hU #[])::(nat_lit 386,hD "_law_behind" 699 "_law_behind" 700 701 213 4 3 381 382 .none (.ref 383) (.ref 384) (.ref 385) 715 213 716)::(nat_lit 387,hF "_law_behind" "_law_behind" (hT 50) .none .none "law_steadyhand_k31_runs_walked" 625 386)::(nat_lit 388,hU #[])::(nat_lit 390,hU #[hS "_law_cell" 721,hS "_law_bounds" 722,hS "_law_xs" 723,hS "_law_found" 724,hS "_law_k" 725,hS "_law_low" 726,hS "_law_high" 727,hS "_law_part" 728,hS "_law_between" 729])::(nat_lit 391,hU #[])::(nat_lit 393,hD "_law_pushes" 718 "_law_pushes" 719 720 220 2 3 388 389 .none (.ref 390) (.ref 391) (.ref 392) 730 220 731)::(nat_lit 394,hF "_law_pushes" "_law_pushes" (hT 51) .none .none "law_steadyhand_k31_runs_walked" 625 393)::(nat_lit 395,hU #[])::(nat_lit 397,hU #[hS "_law_pushes_here" 736,hS "_law_bounds" 737,hS "_law_value" 738,hS "_law_ends" 739])::(nat_lit 398,hU #[])::(nat_lit 400,hD "_law_fit" 733 "_law_fit" 734 735 235 2 3 395 396 .none (.ref 397) (.ref 398) (.ref 399) 740 235 741)::(nat_lit 401,hF "_law_fit" "_law_fit" (hT 52) .none .none "law_steadyhand_k31_runs_walked" 625 400)::(nat_lit 402,hU #[])::(nat_lit 404,hU #[hS "_law_cell" 746,hS "_law_some" 747,hS "_law_bounds" 748,hS "_law_point" 749,hS "_law_xs" 750,hS "_law_mode" 751,hS "_law_k" 752,hS "_law_steering" 753])::(nat_lit 405,hU #[])::(nat_lit 407,hD "_law_step" 743 "_law_step" 744 745 242 4 3 402 403 .none (.ref 404) (.ref 405) (.ref 406) 754 242 755)::(nat_lit 408,hF "_law_step" "_law_step" (hT 53) .none .none "law_steadyhand_k31_runs_walked" 625 407)::(nat_lit 409,hU #[])::(nat_lit 411,hU #[hS "_law_thing" 760,hS "_law_point" 761,hS "_law_run" 762,hS "_law_found" 763,hS "e" 764,hS "_law_others" 765])::(nat_lit 412,hU #[])::(nat_lit 414,hD "_law_refused" 757 "_law_refused" 758 759 252 3 3 409 410 .none (.ref 411) (.ref 412) (.ref 413) 766 252 767)::(nat_lit 415,hF "_law_refused" "_law_refused" (hT 54) .none .none "law_steadyhand_k31_runs_walked" 625 414)::(nat_lit 416,hU #[])::(nat_lit 419,hD "_law_copied" 769 "_law_copied" 770 771 263 1 3 416 417 .none .none .none (.ref 418) 772 263 773)::(nat_lit 420,hF "_law_copied" "_law_copied" (hT 55) .none .none "law_steadyhand_k31_runs_walked" 625 419)::(nat_lit 421,hU #[])::(nat_lit 424,hD "_law_told" 775 "_law_told" 776 777 265 4 3 421 422 .none .none .none (.ref 423) 778 265 779)::(nat_lit 425,hF "_law_told" "_law_told" (hT 56) .none .none "law_steadyhand_k31_runs_walked" 625 424)::(nat_lit 426,hU #[])::(nat_lit 429,hD "law" 781 "law" 782 783 276 1 3 426 427 .none .none .none (.ref 428) 784 276 785)::(nat_lit 430,hF "law" "law" (hT 57) .none .none "law_steadyhand_k31_runs_walked" 625 429) :: []
noncomputable def ks:List Addr:=[2,3,15,17,18,20,21,22,29,30,31,32,35,42,43,44,47,54,55,56,59,66,67,68,71,78,79,80,83,90,92,93,95,96,97,98,99,102,109,110,111,114,121,122,123,126,128,129,131,132,133,135,136,138,139,140,141,143,144,146,147,148,150,151,153,154,155,158,159,160,163,164,165,166,169,170,171,174,175,176,179,180,181,183,184,186,187,188,190,191,193,194,195,197,198,200,201,202,205,206,207,210,211,212,214,215,217,218,219,221,222,224,225,226,229,230,231,233,234,236,237,245,247,248,250,251,252,253,254,255,256,266,268,269,271,272,273,275,276,278,279,280,282,283,285,286,287,289,290,292,293,294,296,297,299,300,301,302,303,304,305,308,311,312,313,315,316,318,319,320,322,323,325,326,327,329,330,332,333,334,336,337,339,340,341,343,344,346,347,348,351,352,353,355,356,358,359,360,362,363,365,366,367,369,370,372,373,374,376,377,379,380,381,383,384,386,387,388,390,391,393,394,395,397,398,400,401,402,404,405,407,408,409,411,412,414,415,416,419,420,421,424,425,426,429,430]
theorem ke:∀ P:Params,ks=(KK P).map (·.1):=λ_=>by
 kernel_rfl
noncomputable def vw:Program:={ PySem.Challenge.pw_steadyhand_k31_runs_walked with main:={ PySem.Challenge.pw_steadyhand_k31_runs_walked.main with body:=[hT 0,hT 2,hT 3,hT 4,hT 5,hT 6,hT 7,hT 8,hT 9,hT 11,hT 12,hT 14,hT 16,hT 17,hT 20,hT 21,hT 22,hT 23,hT 24,hT 25,hT 27,hT 28,hT 29,hT 30,hT 31,hT 33,hT 34,hT 35,hT 36,hT 37,hT 38,hT 39,hT 40,hT 42,hT 43,hT 44,hT 45,hT 46,hT 47,hT 48,hT 49,hT 50,hT 51,hT 52,hT 53,hT 54,hT 55,hT 56,hT 57] } }
noncomputable def lo:List Str:=[Str.ofString "fraction",Str.ofString "copied"]
noncomputable abbrev rr:RowW:=(OpenLaw.row PySem.Challenge.rw_steadyhand_k31_runs_walked).toRowW
noncomputable abbrev xt:Shared->Bool:=λs=>xlAt vw [] s && recOk rr.records s
noncomputable def bt:Params->BT:=λP=>(.node (boot_o_0 P) (.node (boot_o_1 P) (.node (boot_o_3 P) (.node (boot_o_7 P) .nil .nil) .nil) (.node (boot_o_5 P) (.node (boot_o_9 P) .nil .nil) .nil)) (.node (boot_o_2 P) (.node (boot_o_4 P) (.node (boot_o_8 P) .nil .nil) .nil) (.node (boot_o_6 P) (.node (boot_o_10 P) .nil .nil) .nil)))
noncomputable def lhs (T:Params->BT) (h:Params->Heap) (d:Drawn) (k:Nat) (w:World) (os:OsState):=(TT.runT treeTable PySem.Challenge.pw_steadyhand_k31_runs_walked w 11 (some (.ref 6)) 7194 ⟨T w.params,11,(h w.params).life,Array.mk [],d,k,os⟩ (topStub PySem.Challenge.pw_steadyhand_k31_runs_walked)).map (λs=>((staticsOk (importedModules PySem.Challenge.pw_steadyhand_k31_runs_walked.main.body) (h w.params) s.abs.heap && namesBound PySem.Challenge.pw_steadyhand_k31_runs_walked s.abs.heap && gensDone s.abs && laidKept (h w.params) s.abs.heap),openSeen vw lo (importedModules PySem.Challenge.pw_steadyhand_k31_runs_walked.main.body) xt true s.abs,ks.map s.abs.heap.get?))
noncomputable def rhs (F:Params->Frag) (w:World) (_:OsState):=some (true,openGood vw lo,(F w.params).map λp=>some p.2)
lay_quick lhs rhs
theorem same (w:World) (os:OsState):PySem.W.Fast.tw11817915462795321419 bt boot_heap boot_drawn boot_toks w os=PySem.W.Fast.tw5737605487571699136 KK w os:=by
 kernel_rfl
theorem left:LeftO rr.prog vw lo xt (kHook KK ks ke).obs (kHook KK ks ke).val 7194:=
 TT.left_is (boot_open (by kernel_rfl) (by decide) (λ_=>by kernel_rfl)) (λ_=>by kernel_rfl) (λ_=>by kernel_rfl) (λ_=>by kernel_rfl) (λ_=>by kernel_rfl)
  λw os=>(congrArg (λf=>f bt boot_heap boot_drawn boot_toks w os) PySem.W.Fast.te11817915462795321419).trans ((same w os).trans (congrFun (congrFun (congrFun PySem.W.Fast.te5737605487571699136 KK) w) os).symm)
end H31
namespace L2
open PySem PySem.Spec PyProof.Rows
noncomputable abbrev yL:=Sum Int Str
noncomputable def Y4:yL->Value->Bool
 | .inl k,v=>Value.isInt k v
 | .inr x,v=>Value.isStrOf x v
noncomputable def kK (w:World):yL->Int
 | .inl k=>hashInt k
 | .inr x=>hashStr w x
theorem vZ:∀ {k:yL} {v:Value},Y4 k v=true->(∃ i t,k=Sum.inl i/\v=Value.int i t)\/(∃ x t,k=Sum.inr x/\v=Value.str x t)
 | .inl i,v,h=>by
  obtain ⟨t,e⟩:=Value.isInt_shape (k:=i) (v:=v) h
  exact .inl ⟨i,t,rfl,e⟩
 | .inr x,v,h=>by
  obtain ⟨t,e⟩:=Value.isStrOf_shape (x:=x) (v:=v) h
  exact .inr ⟨x,t,rfl,e⟩
theorem W8 (a b:Int):decide ((Sum.inl a:yL)=Sum.inl b)=(a == b):=by
 by_cases e:a=b
 ·subst e; simp
 ·have h:¬ (Sum.inl a:yL)=Sum.inl b:=λq=>e (Sum.inl.inj q)
  rw [decide_eq_false h]
  exact (beq_eq_false_iff_ne.mpr e).symm
theorem W9 (a b:Str):decide ((Sum.inr a:yL)=Sum.inr b)=decide (a=b):=by
 by_cases e:a=b
 ·subst e; simp
 ·have h:¬ (Sum.inr a:yL)=Sum.inr b:=λq=>e (Sum.inr.inj q)
  rw [decide_eq_false h,decide_eq_false e]
theorem UA (a:Int) (b:Str):decide ((Sum.inl a:yL)=Sum.inr b)=false:=decide_eq_false (λq=>nomatch q)
theorem UB (a:Str) (b:Int):decide ((Sum.inr a:yL)=Sum.inl b)=false:=decide_eq_false (λq=>nomatch q)
noncomputable def Y5 (prog:Program) (w:World):PySem.KeyKind prog w yL where
 is:=Y4
 hash:=kK w
 inj:=λv a b ha hb=>by
  rcases vZ ha with ⟨i,t,rfl,rfl⟩ | ⟨x,t,rfl,rfl⟩
  ·rcases vZ hb with ⟨j,u,rfl,e⟩ | ⟨y,u,rfl,e⟩
   ·injection e with e1 _; rw [e1]
   ·exact nomatch e
  ·rcases vZ hb with ⟨j,u,rfl,e⟩ | ⟨y,u,rfl,e⟩
   ·exact nomatch e
   ·injection e with e1 _; rw [e1]
 byValue:=λk v h=>by
  rcases vZ h with ⟨i,t,rfl,rfl⟩ | ⟨x,t,rfl,rfl⟩ <;> rfl
 pyHash:=λhv h=>by
  rcases vZ hv with ⟨i,t,rfl,rfl⟩ | ⟨x,t,rfl,rfl⟩
  ·exact wpAny_pyHash_int h
  ·exact wpAny_pyHash_str h
 eqBool:=λhu hv h=>by
  rcases vZ hu with ⟨i,t,rfl,rfl⟩ | ⟨x,t,rfl,rfl⟩
  ·rcases vZ hv with ⟨j,u,rfl,rfl⟩ | ⟨y,u,rfl,rfl⟩
   ·rw [W8] at h; exact wpAny_eqBool_int h
   ·rw [UA] at h; exact SeqAt.EqAt.int_str i t y u _ _ _ _ h
  ·rcases vZ hv with ⟨j,u,rfl,rfl⟩ | ⟨y,u,rfl,rfl⟩
   ·rw [UB] at h; exact SeqAt.EqAt.str_int x t j u _ _ _ _ h
   ·rw [W9] at h; exact wpAny_eqBool_str h
 «strs»:=λk x t v h=>by
  rcases vZ h with ⟨i,u,rfl,e⟩ | ⟨y,u,rfl,e⟩
  ·exact nomatch e
  ·injection e with e1 _
   subst e1
   cases v <;> rfl
end L2
namespace L2
open PySem PySem.Spec PyProof.Rows
inductive V where
 | non | bl (b:Bool) | int (i:Int) | str (x:Str) | byt (b:Array UInt8) | flt (b:UInt64) | ref (a:Addr) | ty (n:String)
 deriving DecidableEq
noncomputable def zQ:V->Value->Prop
 | .non,u=>u=Value.none
 | .bl b,u=>u=Value.bool b
 | .int i,u=>∃ t,u=Value.int i t
 | .str x,u=>∃ t,u=Value.str x t
 | .byt b,u=>∃ t,u=Value.bytes b t
 | .flt b,u=>∃ t,u=Value.float b t
 | .ref a,u=>u=Value.ref a
 | .ty n,u=>u=Value.type n
noncomputable abbrev zM:List V->List Value->Prop:=Paired zQ
theorem zM.length {xs:List V} {us:List Value} (r:zM xs us):xs.length=us.length:=Paired.length r
theorem zM.get:∀ {xs:List V} {us:List Value} {i:Nat} {x:V},zM xs us->xs[i]? = some x->∃ u,us[i]? = some u/\zQ x u
 | _,_,_,_,.nil,e=>by simp at e
 | _,_,0,_,.cons r _,e=>by simp at e; subst e; exact ⟨_,rfl,r⟩
 | _,_,i + 1,x,.cons _ t,e=>by
  obtain ⟨u,h1,h2⟩:=zM.get (i:=i) (x:=x) t (by simpa using e)
  exact ⟨u,by simpa using h1,h2⟩
theorem zM.set {x:V} {u:Value} (r:zQ x u):∀ {xs:List V} {us:List Value} (i:Nat),zM xs us->zM (xs.set i x) (us.set i u)
 | _,_,_,.nil=>.nil
 | _,_,0,.cons _ t=>.cons r t
 | _,_,i + 1,.cons q t=>.cons q (zM.set r i t)
theorem zM.append:∀ {xs ys:List V} {us ws:List Value},zM xs us->zM ys ws->zM (xs++ys) (us++ws)
 | _,_,_,_,.nil,s=>s
 | _,_,_,_,.cons r t,s=>.cons r (zM.append t s)
theorem zM.take:∀ {xs:List V} {us:List Value} (n:Nat),zM xs us->zM (xs.take n) (us.take n)
 | _,_,0,_=>.nil
 | _,_,_ + 1,.nil=>.nil
 | _,_,n + 1,.cons r t=>.cons r (zM.take n t)
theorem zM.drop:∀ {xs:List V} {us:List Value} (n:Nat),zM xs us->zM (xs.drop n) (us.drop n)
 | _,_,0,r=>r
 | _,_,_ + 1,.nil=>.nil
 | _,_,n + 1,.cons _ t=>zM.drop n t
theorem zM.none_of:∀ {xs:List V} {us:List Value} {i:Nat},zM xs us->xs[i]? = none->us[i]? = none:=λ{xs us i} r e=>by
 have h1:=r.length
 have h2:xs.length<=i:=List.getElem?_eq_none_iff.mp e
 exact List.getElem?_eq_none_iff.mpr (by omega)
noncomputable def yQ:Option V->Option Value->Prop
 | some v,some u=>zQ v u
 | none,none=>True
 | _,_=>False
noncomputable def KV {κ:Type}:List (κ × V)->List (κ × Value)->Prop:=Paired λ(p:κ × V) (q:κ × Value)=>p.1=q.1/\zQ p.2 q.2
noncomputable def kV:yL->V
 | .inl i=>.int i
 | .inr x=>.str x
inductive HO where
 | lst (xs:List V)
 | tup (xs:List V)
 | dK (kvs:List (yL × V)) | dT (kvs:List (List yL × V))
 | set (S:Int->Bool) (n:Nat)
 | ins (C dx:Addr) (fs:List (Str × V))
 | own (x:Addr)
 | xd (fs:List (Str × V))
 | met (f x:Addr)
 | rng (lo hi:Int)
 | frz (o:Obj) (u:HO)
 | tbl (ps:Array Value)
 | ext (φ:Heap->Prop)
noncomputable abbrev Hp:=Addr->Option HO
noncomputable def upd (H:Hp) (a:Addr) (o:HO):Hp:=λb=>if b=a then some o else H b
theorem zO {H:Hp} {a:Addr} {o:HO}:upd H a o a=some o:=by unfold upd; rw [if_pos rfl]
theorem zl {H:Hp} {a b:Addr} {o:HO} (h:b≠a):upd H a o b=H b:=by unfold upd; rw [if_neg h]
theorem Y6 {H:Hp} {a:Addr} {o u:HO}:upd (upd H a o) a u=upd H a u:=by
 funext b; unfold upd; split <;> rfl
theorem Y7 {H:Hp} {a b:Addr} {o u:HO} (h:H a=some o) (h':H b=some u) (d:o≠u):a≠b:=by
 intro e; subst e; rw [h] at h'; exact d (Option.some.inj h')
theorem wN {H:Hp} {a b:Addr} {o:HO} (h:H a=some o) (h':H b=none):a≠b:=by
 intro e; subst e; rw [h] at h'; cases h'
section
variable (P:Program) (w:World)
noncomputable def yh (H:Hp) (h:Heap) (a:Addr):HO->Prop
 | .lst xs=>xs.length<=sizeLine/\∃ (its:List Value) (n:Nat),zM xs its/\h.get? a=some { cls:=.type "list",data:=.seq its.toArray n }
 | .tup xs=>xs.length<=sizeLine/\∃ its:List Value,zM xs its/\IsTup h a its.toArray
 | .dK kvs=>kvs.length<=sizeLine/\(a == sysModules)=false/\∃ vs,KV kvs vs/\h.DictOf (Y5 P w) a vs
 | .dT kvs=>kvs.length<=sizeLine/\(a == sysModules)=false/\∃ xs:List (List yL × Addr × Value),
   Paired (λ(p:List yL × V) (q:List yL × Addr × Value)=>p.1=q.1/\H q.2.1=some (.tup (p.1.map kV))/\zQ p.2 q.2.2) kvs xs∧
   ∃ o es ep,h.get? a=some o/\o.ExactDict/\o.data=.dict es ep/\es.toList=xs.map (entryOfKey (tupleKind (Y5 P w)))/\(xs.map (·.1)).Nodup
 | .set S n=>h.SetOf (intKind P w) a S n
 | .ins C dx fs=>H dx=some (.own a)/\fs.length<=1000/\dx≠a/\h.get? a=some (PySem.W.instObj C dx)∧
   ∃ mA,h.Ns1 dx mA/\(∀ f,yQ (fs.lookup f) (mA f))/\PySem.Within mA (fs.map (·.1))
 | .own _=>∃ o,h.get? a=some o
 | .xd fs=>∃ mA,h.Ns1 a mA/\∀ f,yQ (fs.lookup f) (mA f)
 | .rng lo hi=>∃ t u v,h.get? a=some { cls:=.type "range",data:=.fields #[.int lo t,.int hi u,.int 1 v] }
 | .frz o u=>h.get? a=some o/\yh H h a u
 | .tbl ps=>h.get? a=some { cls:=.none,data:=.fields ps }
 | .met f x=>h.get? a=some (PySem.W.methodObj (.ref f) (.ref x))
 | .ext φ=>φ h/\(∃ o,h.get? a=some o)/\∀ h1 h2:Heap,φ h1->(∀ o,h1.get? a=some o->h2.get? a=some o)->φ h2
noncomputable def yZ (H:Hp) (h:Heap):Prop:=∀ a o,H a=some o->yh P w H h a o
end
section
variable {P:Program} {w:World} {H H':Hp} {h h':Heap} {a:Addr} {o:HO}
theorem yh.lt (x:yh P w H h a o):a < h.objs.size:=by
 cases o with
 | lst xs=>obtain ⟨_,_,_,_,e⟩:=x; exact Heap.lt_size e
 | tup xs=>obtain ⟨_,_,_,p⟩:=x; exact p.lt
 | dK kvs=>obtain ⟨_,_,_,_,o,_,_,e,_⟩:=x; exact Heap.lt_size e
 | dT kvs=>obtain ⟨_,_,_,_,o,_,_,e,_⟩:=x; exact Heap.lt_size e
 | set S n=>obtain ⟨o,_,_,_,e,_⟩:=x; exact Heap.lt_size e
 | ins C dx fs=>obtain ⟨_,_,_,e,_⟩:=x; exact Heap.lt_size e
 | own y=>obtain ⟨_,e⟩:=x; exact Heap.lt_size e
 | xd fs=>obtain ⟨_,⟨_,_,_,e,_⟩,_⟩:=x; exact Heap.lt_size e
 | rng lo hi=>obtain ⟨_,_,_,e⟩:=x; exact Heap.lt_size e
 | frz ob u=>obtain ⟨e,_⟩:=x; exact Heap.lt_size e
 | tbl ps=>exact Heap.lt_size (show h.get? a=some _ from x)
 | met f y=>exact Heap.lt_size (show h.get? a=some _ from x)
 | ext φ=>obtain ⟨_,⟨_,e⟩,_⟩:=x; exact Heap.lt_size e
theorem Paired.mapP {α β:Type} {F G:α->β->Prop}:∀ {l₁:List α} {l₂:List β},Paired F l₁ l₂->(∀ a b,F a b->G a b)->Paired G l₁ l₂
 | _,_,.nil,_=>.nil
 | _,_,.cons r t,f=>.cons (f _ _ r) (Paired.mapP t f)
theorem yh.stay (x:yh P w H h a o) (k:∀ b u,(b=a\/H b=some (.own a))->h.get? b=some u->h'.get? b=some u)
  (ho:∀ b,H b=some (.own a)->H' b=some (.own a)) (ht:∀ b xs,H b=some (.tup xs)->H' b=some (.tup xs)):yh P w H' h' a o:=by
 induction o with
 | lst xs=>obtain ⟨z,its,n,r,e⟩:=x; exact ⟨z,its,n,r,k _ _ (.inl rfl) e⟩
 | tup xs=>obtain ⟨z,its,r,ob,e,c⟩:=x; exact ⟨z,its,r,ob,k _ _ (.inl rfl) e,c⟩
 | dK kvs=>obtain ⟨z,y,vs,r,ob,es,ep,e,c⟩:=x; exact ⟨z,y,vs,r,ob,es,ep,k _ _ (.inl rfl) e,c⟩
 | dT kvs=>
  obtain ⟨z,y,xs,r,ob,es,ep,e,c⟩:=x
  exact ⟨z,y,xs,Paired.mapP r λp q z=>⟨z.1,ht _ _ z.2.1,z.2.2⟩,ob,es,ep,k _ _ (.inl rfl) e,c⟩
 | set S n=>obtain ⟨ob,es,ep,t,e,c⟩:=x; exact ⟨ob,es,ep,t,k _ _ (.inl rfl) e,c⟩
 | ins C dx fs=>
  obtain ⟨d,z,ne,e,mA,⟨od,es,ep,e2,c⟩,r⟩:=x
  exact ⟨ho _ d,z,ne,k _ _ (.inl rfl) e,mA,⟨od,es,ep,k _ _ (.inr d) e2,c⟩,r⟩
 | own y=>obtain ⟨ob,e⟩:=x; exact ⟨ob,k _ _ (.inl rfl) e⟩
 | xd fs=>obtain ⟨mA,⟨od,es,ep,e,c⟩,r⟩:=x; exact ⟨mA,⟨od,es,ep,k _ _ (.inl rfl) e,c⟩,r⟩
 | rng lo hi=>obtain ⟨t,u,v,e⟩:=x; exact ⟨t,u,v,k _ _ (.inl rfl) e⟩
 | frz ob u ih=>obtain ⟨e,q⟩:=x; exact ⟨k _ _ (.inl rfl) e,ih q⟩
 | tbl ps=>
  have e:h.get? a=some { cls:=.none,data:=.fields ps }:=x
  show h'.get? a=some { cls:=.none,data:=.fields ps }
  exact k a _ (.inl rfl) e
 | met f y=>
  have e:h.get? a=some (PySem.W.methodObj (.ref f) (.ref y)):=x
  show h'.get? a=some (PySem.W.methodObj (.ref f) (.ref y))
  exact k a _ (.inl rfl) e
 | ext φ=>obtain ⟨p,⟨o,e⟩,st⟩:=x; exact ⟨st _ _ p λo q=>k _ _ (.inl rfl) q,⟨o,k _ _ (.inl rfl) e⟩,st⟩
theorem yZ.lt (x:yZ P w H h) (e:H a=some o):a < h.objs.size:=(x a o e).lt
theorem yZ.fresh (x:yZ P w H h) (e:h.objs.size<=a):H a=none:=by
 cases q:H a with
 | none=>rfl
 | some u=>exact absurd (Nat.lt_of_lt_of_le (x.lt q) e) (Nat.lt_irrefl _)
theorem yZ.kept (x:yZ P w H h) (k:∀ b u,h.get? b=some u->h'.get? b=some u):yZ P w H h':=λa o e=>
 (x a o e).stay (λb u _ q=>k b u q) (λ_ q=>q) λ_ _ q=>q
theorem yZ.laid (x:yZ P w H h) (k:∀ b u,h.get? b=some u->h'.get? b=some u) (hp:h.objs.size<=a) (new:yh P w (upd H a o) h' a o):yZ P w (upd H a o) h':=λb u e=>by
 have hn:=x.fresh hp
 by_cases hb:b=a
 ·subst hb; rw [zO] at e; cases e; exact new
 ·rw [zl hb] at e
  exact (x b u e).stay (λc v _ q=>k c v q) (λc q=>by rw [zl (wN q hn)]; exact q) λc xs q=>by rw [zl (wN q hn)]; exact q
end
noncomputable def Rd (H:Hp) (a:Addr) (u:HO):Prop:=H a=some u\/∃ o,H a=some (.frz o u)
theorem Rd.of {H:Hp} {a:Addr} {u:HO} (h:H a=some u):Rd H a u:=.inl h
theorem Rd.ok {P:Program} {w:World} {H:Hp} {h:Heap} {a:Addr} {u:HO} (r:Rd H a u) (x:yZ P w H h):yh P w H h a u:=by
 rcases r with r | ⟨o,r⟩
 ·exact x a u r
 ·obtain ⟨_,q⟩:=x a _ r
  exact q
noncomputable def qz:Option HO->Prop
 | some (.lst _)=>True
 | some (.dK _)=>True
 | some (.dT _)=>True
 | some (.set _ _)=>True
 | some (.ins _ _ _)=>True
 | some (.ext _)=>True
 | _=>False
section
variable {P:Program} {w:World} {H:Hp} {h h':Heap} {x e:Addr} {o':HO}
theorem yZ.write (ok:yZ P w H h) (mu:qz (H x)) (he:e=x\/H e=some (.own x)) (k:∀ b u,b≠e->h.get? b=some u->h'.get? b=some u) (heo:∃ u,h'.get? e=some u)
  (new:yh P w (upd H x o') h' x o'):yZ P w (upd H x o') h':=λb u q=>by
 have nown:∀ c y,H c=some (.own y)->c≠x:=λc y r z=>by subst z; rw [r] at mu; exact mu
 have ntup:∀ c xs,H c=some (.tup xs)->c≠x:=λc xs r z=>by subst z; rw [r] at mu; exact mu
 by_cases hb:b=x
 ·subst hb; rw [zO] at q; cases q; exact new
 ·rw [zl hb] at q
  by_cases hbe:b=e
  ·have q':H b=some (.own x):=by
    rcases he with z | z
    ·exact absurd (hbe.trans z) hb
    ·rw [hbe]; exact z
   rw [q] at q'; cases q'
   obtain ⟨v,hv⟩:=heo
   exact ⟨v,by rw [hbe]; exact hv⟩
  ·refine (ok b u q).stay (λc v hc r=>k c v ?_ r) (λc r=>by rw [zl (nown c b r)]; exact r) λc xs r=>by rw [zl (ntup c xs r)]; exact r
   rcases hc with rfl | hc
   ·exact hbe
   ·rintro rfl
    rcases he with z | z
    ·exact nown c b hc z
    ·rw [hc] at z; cases z; exact hb rfl
end
structure Un (fs ex:List Addr) (H H':Hp) (h h':Heap):Prop where
 keep:∀ b o,h.get? b=some o->H b=none->b∉fs->b∉ex->h'.get? b=some o
 slot:∀ b o,h.get? b=some o->H b=none->b∈fs->b∉ex->∃ sl,h'.get? b=some { o with slots:=sl }
 free:∀ b o,h.get? b=some o->H b=none->b∉ex->H' b=none
 there:∀ b o,h.get? b=some o->b∉ex->∃ o',h'.get? b=some o'
 tups:∀ b xs,H b=some (.tup xs)->H' b=some (.tup xs)
 frzs:∀ b o u,H b=some (.frz o u)->H' b=some (.frz o u)
 tbls:∀ b ps,H b=some (.tbl ps)->∃ more,H' b=some (.tbl (ps++more))
section
variable {fs fs' ex ex':List Addr} {H H1 H2:Hp} {h h1 h2 h':Heap} {a x e:Addr} {o:HO}
theorem Un.any (u:Un fs ex H H1 h h1) {b:Addr} {ob:Obj} (q:h.get? b=some ob) (n:H b=none) (hx:b∉ex):∃ sl,h1.get? b=some { ob with slots:=sl }:=by
 by_cases hb:b∈fs
 ·exact u.slot b ob q n hb hx
 ·exact ⟨ob.slots,u.keep b ob q n hb hx⟩
theorem Un.trans (a:Un fs ex H H1 h h1) (b:Un fs ex H1 H2 h1 h2):Un fs ex H H2 h h2 where
 keep:=λc ob q n hc hx=>b.keep c ob (a.keep c ob q n hc hx) (a.free c ob q n hx) hc hx
 slot:=λc ob q n hc hx=>by
  obtain ⟨sl,e1⟩:=a.slot c ob q n hc hx
  obtain ⟨sl',e2⟩:=b.slot c _ e1 (a.free c ob q n hx) hc hx
  exact ⟨sl',e2⟩
 free:=λc ob q n hx=>by
  obtain ⟨o',e1⟩:=a.there c ob q hx
  exact b.free c o' e1 (a.free c ob q n hx) hx
 there:=λc ob q hx=>by
  obtain ⟨o',e1⟩:=a.there c ob q hx
  exact b.there c o' e1 hx
 tups:=λc xs q=>b.tups c xs (a.tups c xs q)
 frzs:=λc ob xs q=>b.frzs c ob xs (a.frzs c ob xs q)
 tbls:=λc ps q=>by
  obtain ⟨m1,e1⟩:=a.tbls c ps q
  obtain ⟨m2,e2⟩:=b.tbls c _ e1
  exact ⟨m1++m2,by rw [e2,Array.append_assoc]⟩
theorem Un.kept (k:∀ b u,h.get? b=some u->h'.get? b=some u):Un fs ex H H h h':=
 ⟨λb ob q _ _ _=>k b ob q,λb ob q _ _ _=>⟨ob.slots,k b ob q⟩,λ_ _ _ n _=>n,λb ob q _=>⟨ob,k b ob q⟩,λ_ _ q=>q,λ_ _ _ q=>q,λ_ ps q=>⟨#[],by rw [q]; simp⟩⟩
theorem Un.refl:Un fs ex H H h h:=Un.kept λ_ _ q=>q
theorem Un.laid (k:∀ b u,h.get? b=some u->h'.get? b=some u) (hp:h.objs.size<=a) (hn:H a=none):Un fs ex H (upd H a o) h h' where
 keep:=λb u q _ _ _=>k b u q
 slot:=λb u q _ _ _=>⟨u.slots,k b u q⟩
 free:=λb u q n _=>by rw [zl (Nat.ne_of_lt (Nat.lt_of_lt_of_le (Heap.lt_size q) hp))]; exact n
 there:=λb u q _=>⟨u,k b u q⟩
 tups:=λb xs q=>by rw [zl (wN q hn)]; exact q
 frzs:=λb u xs q=>by rw [zl (wN q hn)]; exact q
 tbls:=λb ps q=>⟨#[],by rw [zl (wN q hn),q]; simp⟩
theorem Un.write (mu:qz (H x)) (he:e=x\/H e=some (.own x)) (k:∀ b u,b≠e->h.get? b=some u->h'.get? b=some u) (heo:∃ u,h'.get? e=some u):Un fs ex H (upd H x o) h h':=by
 have hx:∀ b,H b=none->b≠x:=λb n z=>by subst z; rw [n] at mu; exact mu
 have hb:∀ b,H b=none->b≠e:=λb n z=>by
  subst z
  rcases he with r | r
  ·exact hx b n r
  ·rw [n] at r; cases r
 have hm:∀ b u,H b=some u->¬ qz (some u)->b≠x:=λb u q nm z=>by subst z; rw [q] at mu; exact nm mu
 refine ⟨λb u q n _ _=>k b u (hb b n) q,λb u q n _ _=>⟨u.slots,k b u (hb b n) q⟩,λb u q n _=>by rw [zl (hx b n)]; exact n,λb u q _=>?_,
  λb xs q=>by rw [zl (hm b _ q λz=>z)]; exact q,λb u xs q=>by rw [zl (hm b _ q λz=>z)]; exact q,λb ps q=>⟨#[],by rw [zl (hm b _ q λz=>z),q]; simp⟩⟩
 by_cases hbe:b=e
 ·subst hbe; exact heo
 ·exact ⟨u,k b u hbe q⟩
theorem Un.mono (u:Un fs ex H H1 h h1) (hs:∀ b∈fs,b∈fs') (hx:∀ b∈ex,b∈ex'):Un fs' ex' H H1 h h1:=
 ⟨λb ob q n hb he=>u.keep b ob q n (λz=>hb (hs b z)) λz=>he (hx b z),λ_ _ q n _ he=>u.any q n λz=>he (hx _ z),λb ob q n he=>u.free b ob q n λz=>he (hx b z),λb ob q he=>u.there b ob q λz=>he (hx b z),u.tups,u.frzs,u.tbls⟩
end
noncomputable def vO (h:Heap) (H:Hp):List Addr:=(List.range h.objs.size).filter λa=>(H a).isSome
noncomputable def xV (h:Heap) (H:Hp):Heap:=PySem.W.hideAll h (vO h H)
theorem UC (h:Heap) (H:Hp):(xV h H).objs.size=h.objs.size:=PySem.W.hideAll_size _ _
theorem UD {h:Heap} {H:Hp} {b:Addr} {o:Obj} (e:h.get? b=some o) (n:H b=none):(xV h H).get? b=some o:=
 PySem.W.hideAll_get _ e λhm=>by
  have q:(H b).isSome=true:=(List.mem_filter.mp hm).2
  rw [n] at q; simp at q
theorem UE {h:Heap} {H:Hp} {b:Addr} {o:Obj} (e:(xV h H).get? b=some o):h.get? b=some o/\H b=none:=by
 have e':h.get? b=some o:=PySem.W.of_hideAll (vO h H) e
 refine ⟨e',?_⟩
 cases q:H b with
 | none=>rfl
 | some x=>
  have hm:b∈vO h H:=List.mem_filter.mpr ⟨List.mem_range.mpr (Heap.lt_size e'),by simp [q]⟩
  have z:(xV h H).get? b=none:=PySem.W.hideAll_none (vO h H) hm
  rw [z] at e; cases e
noncomputable def UF (g h:Heap) (L:Addr):List (Addr × Obj):=(List.range h.objs.size).filterMap λa=>if a=L\/(g.get? a).isSome=true then none else (h.get? a).map λo=>(a,o)
noncomputable def zq (g h:Heap) (L d:Addr):List (Addr × Obj):=(UF g h L).filter λp=>decide (p.1≠d)
end L2
namespace L2
open PySem PySem.Spec PyProof.Rows
structure Mod (K:PySem.W.Frag) (mg:Str->Option Value) (base:Heap):Prop where
 kin:K.In base
 glob:base.Ns mainGlobals mg
 blt:∃ mb,base.Ns builtinsNs mb/\∀ x:Str,x≠"__name__"->mb x=bootBuiltins x
 nolimit:base.NoLimit
structure Cx where
 prog:Program
 w:World
 K:PySem.W.Frag
 mg:Str->Option Value
 base:Heap
 A:Around
 N:List Str
 s₀:Shared
 H₀:Hp
 env:Env
 outer:List Env
 stack:List Env
 ex:List Addr
 fn:Str->Bool
 calm:Bool
 pn:List (Addr × Obj)
 xe:Value->Shared->Prop
noncomputable def xD (l:List Env):List Addr:=l.filterMap (·.frame)
noncomputable abbrev Cx.fs (X:Cx):List Addr:=xD X.outer
noncomputable def jE (sc:Scope) (x:Str):Prop:=sc.names.lookup x=some .local\/sc.names.lookup x=some .cell\/sc.names.lookup x=some .free
noncomputable def q9 (sc:Scope) (x:Str):Prop:=sc.names.lookup x=some .local\/sc.names.lookup x=some .cell
noncomputable def je (env:Env) (h:Heap) (m:Str->Option Value) (x:Str) (u:Value):Prop:=
 (env.kindOf x=some .local/\m x=some u)\/((env.kindOf x=some .cell\/env.kindOf x=some .free)/\∃ c,env.cells.lookup x=some c/\h.IsCell c (some u))
structure Cx.Ok (X:Cx):Prop where
 mod:Mod X.K X.mg X.base
 kind:X.env.scope.kind=.function
 glob:X.env.globals=mainGlobals
 blt:X.env.builtins=builtinsNs
 above:X.s₀.heap.objs.size<=X.env.locals
 inj:∀ x y c,X.env.cells.lookup x=some c->X.env.cells.lookup y=some c->x=y
 has:∀ x,(X.env.kindOf x=some .cell\/X.env.kindOf x=some .free)->∃ c,X.env.cells.lookup x=some c
 cab:∀ x c,X.fn x=true->X.env.cells.lookup x=some c->X.s₀.heap.objs.size<=c
 hd:X.calm=true->X.A.handled=none
 frames:X.A.frames=some X.stack
 stk:X.stack=X.outer\/(X.stack=X.env :: X.outer/\X.env.frame=some X.env.locals)
 exf:∀ b∈X.ex,b≠X.env.locals/\∀ x c,X.env.cells.lookup x=some c->c≠b
 bs:∀ b o,X.base.get? b=some o->X.s₀.heap.get? b=some o/\X.H₀ b=none
 bsz:X.base.objs.size<=X.s₀.heap.objs.size
 noex:∀ b o,X.base.get? b=some o->b∉X.ex
 exfs:∀ b∈X.ex,b∉X.fs
 funs:X.s₀.heap.FunFrames X.base X.outer
 frf:∀ b∈X.fs,X.H₀ b=none
structure zF (X:Cx) (pins:List (Addr × Obj)) (σ:List (Option V)) (H:Hp) (s:Shared):Prop where
 ok:X.Ok
 os:s.os=X.s₀.os
 bare:AllBare s.gens
 base:Un X.fs X.ex X.H₀ H X.s₀.heap s.heap
 loc:∃ m,s.heap.Ns X.env.locals m/\∀ (i:Nat) (x:Str) (v:V),X.N[i]? = some x->σ[i]? = some (some v)->jE X.env.scope x->∃ u,zQ v u/\je X.env s.heap m x u
 cell:∀ x c,X.env.cells.lookup x=some c->∃ v,s.heap.IsCell c v
 free:H X.env.locals=none
 freeC:∀ x c,X.env.cells.lookup x=some c->H c=none
 pin:∀ p∈X.pn++pins,s.heap.get? p.1=some p.2/\H p.1=none/\p.1≠X.env.locals/\p.1∉X.fs/\∀ v,p.2.data≠.cell v
 hok:yZ X.prog X.w H s.heap
 len:σ.length=X.N.length
section
variable {X:Cx} {pins:List (Addr × Obj)} {σ:List (Option V)} {H H':Hp} {s:Shared} {h':Heap}
theorem Cx.Ok.nofr (ok:X.Ok) {b:Addr} {o:Obj} (e:X.base.get? b=some o):b∉X.fs:=λhb=>by
 have:=(ok.funs.mem hb).1
 rw [e] at this; cases this
theorem zF.bs (I:zF X pins σ H s):∀ b o,X.base.get? b=some o->s.heap.get? b=some o/\H b=none:=λb o e=>
 ⟨I.base.keep b o (I.ok.bs b o e).1 (I.ok.bs b o e).2 (I.ok.nofr e) (I.ok.noex b o e),I.base.free b o (I.ok.bs b o e).1 (I.ok.bs b o e).2 (I.ok.noex b o e)⟩
theorem zF.bk (I:zF X pins σ H s):∀ b o,X.base.get? b=some o->s.heap.get? b=some o:=λb o e=>(I.bs b o e).1
theorem zF.mod (I:zF X pins σ H s):Mod X.K X.mg X.base:=I.ok.mod
theorem zF.kIn (I:zF X pins σ H s):X.K.In s.heap:=I.ok.mod.kin.keeps I.bk
theorem zF.nolimit (I:zF X pins σ H s):s.heap.NoLimit:=I.ok.mod.nolimit.keeps I.bk
theorem zF.fr (I:zF X pins σ H s):∃ m,Fr X.base X.env.locals s.heap m:=
 let ⟨m,hn,_⟩:=I.loc
 ⟨m,hn,I.bk,Nat.le_trans I.ok.bsz I.ok.above⟩
theorem zF.lt (I:zF X pins σ H s):X.env.locals < s.heap.objs.size:=let ⟨_,hn,_⟩:=I.loc; hn.lt
theorem zF.sz (I:zF X pins σ H s):X.s₀.heap.objs.size<=s.heap.objs.size:=Nat.le_trans I.ok.above (Nat.le_of_lt I.lt)
theorem zF.nofs (I:zF X pins σ H s) {a:Addr} (h:s.heap.objs.size<=a):a∉X.fs:=λhb=>by
 obtain ⟨_,o,ho,_⟩:=I.ok.funs.mem hb
 exact absurd (Nat.lt_of_lt_of_le (Heap.lt_size ho) (Nat.le_trans I.sz h)) (Nat.lt_irrefl _)
theorem zF.cne (I:zF X pins σ H s):∀ x c,X.env.cells.lookup x=some c->c≠X.env.locals:=λx c e z=>by
 obtain ⟨v,o,ho,hd⟩:=I.cell x c e
 obtain ⟨m,⟨o',es,ep,ho',hd',_⟩,_⟩:=I.loc
 rw [z,ho'] at ho; cases ho; rw [hd'] at hd; cases hd
theorem zF.funs (I:zF X pins σ H s):s.heap.FunFrames X.base X.outer:=by
 have all:∀ (l:List Env),(∀ b∈xD l,b∈X.fs)->X.s₀.heap.FunFrames X.base l->s.heap.FunFrames X.base l:=by
  intro l
  induction l with
  | nil=>intro _ _; trivial
  | cons env r ih=>
   intro hs hl
   obtain ⟨hk,⟨L,o,hf,hn,ho,hd⟩,hr⟩:=hl
   have hL:L∈X.fs:=hs L (by unfold xD; rw [List.filterMap_cons,hf]; exact List.mem_cons_self)
   obtain ⟨sl,e⟩:=I.base.slot L o ho (I.ok.frf L hL) hL λz=>I.ok.exfs L z hL
   exact ⟨hk,⟨L,_,hf,hn,e,hd⟩,ih (λb hb=>hs b (by unfold xD; rw [List.filterMap_cons,hf]; exact List.mem_cons_of_mem _ hb)) hr⟩
 exact all X.outer (λ_ hb=>hb) I.ok.funs
theorem zF.stack (I:zF X pins σ H s):s.heap.FunFrames X.base X.stack:=by
 rcases I.ok.stk with e | ⟨e,hf⟩
 ·rw [e]; exact I.funs
 ·rw [e]
  obtain ⟨m,hn,_⟩:=I.loc
  refine .cons (by rw [I.ok.kind]; decide) hf hn ?_ I.funs
  exact Heap.get?_none_of_le (Nat.le_trans I.ok.bsz I.ok.above)
theorem zF.stkSub (I:zF X pins σ H s):∀ b∈xD X.stack,b∈X.env.locals :: X.fs:=λb hb=>by
 rcases I.ok.stk with e | ⟨e,hf⟩
 ·rw [e] at hb; exact List.mem_cons_of_mem _ hb
 ·rw [e] at hb
  unfold xD at hb
  rw [List.filterMap_cons,hf] at hb
  exact hb
theorem zF.stkFree (I:zF X pins σ H s):∀ b∈xD X.stack,H b=none:=λb hb=>by
 rcases List.mem_cons.mp (I.stkSub b hb) with e | hb
 ·rw [e]; exact I.free
 ·obtain ⟨_,o,ho,_⟩:=I.ok.funs.mem hb
  exact I.base.free b o ho (I.ok.frf b hb) λz=>I.ok.exfs b z hb
theorem zF.step {g':Array GenState} {t':Nat} {d':Drawn} {ch:List Addr} (I:zF X pins σ H s)
  (hch:∀ b∈ch,(b∈X.ex\/X.s₀.heap.objs.size<=b)/\b≠X.env.locals/\(∀ x c,X.env.cells.lookup x=some c->c≠b)/\∀ p∈X.pn++pins,p.1≠b)
  (keep:∀ b o,b≠X.env.locals->b∉X.fs->b∉ch->s.heap.get? b=some o->H b=none->h'.get? b=some o)
  (slot:∀ b o,b≠X.env.locals->b∈X.fs->b∉ch->s.heap.get? b=some o->H b=none->∃ sl,h'.get? b=some { o with slots:=sl }) (free:∀ b o,b∉ch->s.heap.get? b=some o->H b=none->H' b=none)
  (there:∀ b o,b∉ch->s.heap.get? b=some o->∃ o',h'.get? b=some o')
  (tups:∀ b xs,H b=some (.tup xs)->H' b=some (.tup xs)) (frzs:∀ b o u,H b=some (.frz o u)->H' b=some (.frz o u)) (tbls:∀ b ps,H b=some (.tbl ps)->∃ more,H' b=some (.tbl (ps++more)))
  (ns:∀ m,s.heap.Ns X.env.locals m->h'.Ns X.env.locals m) (hok:yZ X.prog X.w H' h') (hg:AllBare g') :
  zF X pins σ H' { s with heap:=h',gens:=g',drawn:=d',toks:=t' }:=by
 have neL:∀ b o,X.s₀.heap.get? b=some o->b≠X.env.locals:=λb o e=>Nat.ne_of_lt (Nat.lt_of_lt_of_le (Heap.lt_size e) I.ok.above)
 have neC:∀ b o,X.s₀.heap.get? b=some o->b∉X.ex->b∉ch:=λb o e hx hb=>by
  rcases (hch b hb).1 with z | z
  ·exact hx z
  ·exact absurd (Nat.lt_of_lt_of_le (Heap.lt_size e) z) (Nat.lt_irrefl _)
 have cellK:∀ x c,X.env.cells.lookup x=some c->∀ v,s.heap.IsCell c v->h'.IsCell c v:=λx c e v ⟨o,ho,hd⟩=>by
  have nch:c∉ch:=λz=>(hch c z).2.2.1 x c e rfl
  by_cases hc:c∈X.fs
  ·obtain ⟨sl,q⟩:=slot c o (I.cne x c e) hc nch ho (I.freeC x c e)
   exact ⟨_,q,hd⟩
  ·exact ⟨o,keep c o (I.cne x c e) hc nch ho (I.freeC x c e),hd⟩
 refine ⟨I.ok,I.os,hg,⟨λb o e n hb hx=>?_,λb o e n hb hx=>?_,λb o e n hx=>?_,λb o e hx=>?_,λb xs e=>tups b xs (I.base.tups b xs e),λb o xs e=>frzs b o xs (I.base.frzs b o xs e),λb ps e=>?_⟩,?_,λx c e=>?_,?_,λx c e=>?_,λp hp=>?_,hok,I.len⟩
 ·exact keep b o (neL b o e) hb (neC b o e hx) (I.base.keep b o e n hb hx) (I.base.free b o e n hx)
 ·obtain ⟨sl,e1⟩:=I.base.slot b o e n hb hx
  obtain ⟨sl',e2⟩:=slot b _ (neL b o e) hb (neC b o e hx) e1 (I.base.free b o e n hx)
  exact ⟨sl',e2⟩
 ·obtain ⟨o',e1⟩:=I.base.there b o e hx
  exact free b o' (neC b o e hx) e1 (I.base.free b o e n hx)
 ·obtain ⟨o',e1⟩:=I.base.there b o e hx
  exact there b o' (neC b o e hx) e1
 ·obtain ⟨m1,e1⟩:=I.base.tbls b ps e
  obtain ⟨m2,e2⟩:=tbls b _ e1
  exact ⟨m1++m2,by rw [e2,Array.append_assoc]⟩
 ·obtain ⟨m,hn,hl⟩:=I.loc
  refine ⟨m,ns m hn,λi x v e1 e2 e3=>?_⟩
  obtain ⟨u,r,l⟩:=hl i x v e1 e2 e3
  refine ⟨u,r,?_⟩
  rcases l with l | ⟨k,c,e,z⟩
  ·exact .inl l
  ·exact .inr ⟨k,c,e,cellK x c e _ z⟩
 ·obtain ⟨v,z⟩:=I.cell x c e
  exact ⟨v,cellK x c e v z⟩
 ·obtain ⟨m,⟨o,_,_,ho,_⟩,_⟩:=I.loc
  exact free _ o (λz=>(hch _ z).2.1 rfl) ho I.free
 ·obtain ⟨v,o,ho,hd⟩:=I.cell x c e
  exact free c o (λz=>(hch c z).2.2.1 x c e rfl) ho (I.freeC x c e)
 ·obtain ⟨e,n,ne,nf,d⟩:=I.pin p hp
  have nch:p.1∉ch:=λz=>(hch p.1 z).2.2.2 p hp rfl
  exact ⟨keep p.1 p.2 ne nf nch e n,free p.1 p.2 nch e n,ne,nf,d⟩
theorem zF.un {t':Nat} (I:zF X pins σ H s) (u:Un X.fs [] H H' s.heap h') (hok:yZ X.prog X.w H' h'):zF X pins σ H' { s with heap:=h',toks:=t' }:=by
 obtain ⟨m,⟨o,es,ep,ho,r⟩,_⟩:=id I.loc
 obtain ⟨sl,hL⟩:=u.any ho I.free (by simp)
 exact I.step (g':=s.gens) (d':=s.drawn) (ch:=[]) (λ_ z=>nomatch z) (λb o _ hb _ e n=>u.keep b o e n hb (by simp)) (λb o _ hb _ e n=>u.slot b o e n hb (by simp)) (λb o _ e n=>u.free b o e n (by simp)) (λb o _ e=>u.there b o e (by simp)) u.tups u.frzs u.tbls (λm' hm=>by
  obtain ⟨o',es',ep',ho',r'⟩:=hm
  rw [ho] at ho'; cases ho'
  exact ⟨_,es',ep',hL,r'⟩) hok I.bare
theorem zF.call {g':Array GenState} {t':Nat} {d':Drawn} {ch:List Addr} (I:zF X pins σ H s) (u:Un (xD X.stack) ch H H' s.heap h') (hok:yZ X.prog X.w H' h') (hg:AllBare g')
  (hch:∀ b∈ch,(b∈X.ex\/X.s₀.heap.objs.size<=b)/\b≠X.env.locals/\(∀ x c,X.env.cells.lookup x=some c->c≠b)/\∀ p∈X.pn++pins,p.1≠b) :
  zF X pins σ H' { s with heap:=h',gens:=g',drawn:=d',toks:=t' }:=by
 obtain ⟨m,⟨o,es,ep,ho,r⟩,_⟩:=id I.loc
 obtain ⟨sl,hL⟩:=u.any ho I.free λz=>(hch _ z).2.1 rfl
 exact I.step (ch:=ch) hch (λb o hL hb hc e n=>u.keep b o e n (λz=>(List.mem_cons.mp (I.stkSub b z)).elim hL hb) hc) (λb o _ _ hc e n=>u.any e n hc) (λb o hc e n=>u.free b o e n hc) (λb o hc e=>u.there b o e hc) u.tups u.frzs u.tbls (λm' hm=>by
  obtain ⟨o',es',ep',ho',r'⟩:=hm
  rw [ho] at ho'; cases ho'
  exact ⟨_,es',ep',hL,r'⟩) hok hg
theorem zF.turned {t':Nat} {it:Addr} (I:zF X pins σ H s) (k:∀ b o,b≠it->s.heap.get? b=some o->h'.get? b=some o) (hn:H it=none) (hL:it≠X.env.locals)
  (h1:it∈X.ex\/X.s₀.heap.objs.size<=it) (h2:∀ x c,X.env.cells.lookup x=some c->c≠it) (h3:∀ p∈X.pn++pins,p.1≠it):zF X pins σ H { s with heap:=h',toks:=t' }:=by
 have nit:∀ b u,H b=some u->b≠it:=λb u e z=>by rw [z,hn] at e; cases e
 refine I.step (g':=s.gens) (d':=s.drawn) (ch:=[it]) (λb hb=>?_) (λb o _ _ hc e _=>k b o (λz=>hc (by simp [z])) e) (λb o _ _ hc e _=>⟨o.slots,k b o (λz=>hc (by simp [z])) e⟩) (λ_ _ _ _ n=>n)
  (λb o hc e=>⟨o,k b o (λz=>hc (by simp [z])) e⟩) (λ_ _ e=>e) (λ_ _ _ e=>e) (λb ps e=>⟨#[],by rw [e]; simp⟩) (λm hm=>?_) (λb u e=>?_) I.bare
 ·have e:b=it:=by simpa using hb
  subst e
  exact ⟨h1,hL,h2,h3⟩
 ·obtain ⟨o,es,ep,ho,r⟩:=hm
  exact ⟨o,es,ep,k _ o (Ne.symm hL) ho,r⟩
 ·refine (I.hok b u e).stay (λc v hc q=>k c v ?_ q) (λ_ q=>q) λ_ _ q=>q
  rcases hc with z | z
  ·rw [z]; exact nit b u e
  ·exact nit c _ z
theorem zF.tok (I:zF X pins σ H s) (t:Nat):zF X pins σ H { s with toks:=t }:=I.un (h':=s.heap) (t':=t) Un.refl I.hok
theorem zF.kept {t':Nat} (I:zF X pins σ H s) (k:∀ b u,s.heap.get? b=some u->h'.get? b=some u):zF X pins σ H { s with heap:=h',toks:=t' }:=I.un (Un.kept k) (I.hok.kept k)
theorem zF.laid {a:Addr} {o:HO} {t':Nat} (I:zF X pins σ H s) (k:∀ b u,s.heap.get? b=some u->h'.get? b=some u) (hp:s.heap.objs.size<=a) (new:yh X.prog X.w (upd H a o) h' a o) :
  zF X pins σ (upd H a o) { s with heap:=h',toks:=t' }:=I.un (Un.laid k hp (I.hok.fresh hp)) (I.hok.laid k hp new)
theorem zF.write {x e:Addr} {o:HO} {t':Nat} (I:zF X pins σ H s) (mu:qz (H x)) (he:e=x\/H e=some (.own x)) (k:∀ b u,b≠e->s.heap.get? b=some u->h'.get? b=some u) (heo:∃ u,h'.get? e=some u)
  (new:yh X.prog X.w (upd H x o) h' x o):zF X pins σ (upd H x o) { s with heap:=h',toks:=t' }:=I.un (Un.write mu he k heo) (I.hok.write mu he k heo new)
theorem zF.pins_of {pins':List (Addr × Obj)} (I:zF X pins σ H s) (h:∀ p∈pins',s.heap.get? p.1=some p.2/\H p.1=none/\p.1≠X.env.locals/\p.1∉X.fs/\∀ v,p.2.data≠.cell v):zF X pins' σ H s:=
 ⟨I.ok,I.os,I.bare,I.base,I.loc,I.cell,I.free,I.freeC,λp hp=>(List.mem_append.mp hp).elim (λz=>I.pin p (List.mem_append_left _ z)) (h p),I.hok,I.len⟩
theorem kL {N:List Str} (hN:N.Nodup) {i j:Nat} {x:Str} (a:N[i]? = some x) (b:N[j]? = some x):i=j:=by
 obtain ⟨h1,e1⟩:=List.getElem?_eq_some_iff.mp a
 obtain ⟨h2,e2⟩:=List.getElem?_eq_some_iff.mp b
 exact (List.getElem_inj hN).mp (e1.trans e2.symm)
theorem Y8 {M:Model} {A:Around} {E:Value->Shared->Prop} {i:Nat} {x:Str} {v:V} {u:Value} {Q:Unit->Shared->Prop} (I:zF X pins σ H s) (hN:X.N.Nodup) (hi:X.N[i]? = some x) (hx:q9 X.env.scope x) (r:zQ v u)
  (h:∀ s',zF X pins (σ.set i (some v)) H s'->(∃ a,Heap.SameBut a s.heap s'.heap/\(a=X.env.locals\/X.env.cells.lookup x=some a))->Q () s') (hf:X.fn x=true\/X.env.scope.names.lookup x=some .local:=by first | exact .inl rfl | exact .inr rfl | assumption):wpAny M A (storeName X.env x u) Q E s:=by
 obtain ⟨m,hn,hl⟩:=id I.loc
 have hcls:(X.env.scope.kind == .class || (X.env.scope.kind == .module && X.env.locals != X.env.globals))=false:=by rw [I.ok.kind]; rfl
 have hiσ:i < σ.length:=by rw [I.len]; exact (List.getElem?_eq_some_iff.mp hi).1
 have cne:=I.cne
 have tracked:∀ {a:Addr} {h':Heap},(∃ o,s.heap.get? a=some o/\H a=none)->Heap.SameBut a s.heap h'->yZ X.prog X.w H h':=λ{a h'} ha hs b ob e=>by
  obtain ⟨_,_,hfree⟩:=ha
  refine (I.hok b ob e).stay (λc w' hc q=>(hs.2 c ?_).trans q) (λ_ q=>q) λ_ _ q=>q
  rintro rfl
  rcases hc with rfl | hc
  ·rw [hfree] at e; cases e
  ·rw [hfree] at hc; cases hc
 rcases hx with hk | hk
 ·refine wpAny_storeName_local hk hn (λh' hn' hs=>?_) hcls
  obtain ⟨oL,_,_,hoL,_⟩:=id hn
  refine h _ ⟨I.ok,I.os,I.bare,⟨λb o e n hb hx=>?_,λb o e n hb hx=>?_,I.base.free,λb o e hx=>?_,I.base.tups,I.base.frzs,I.base.tbls⟩,⟨_,hn',λj y v' e1 e2 e3=>?_⟩,λy c e=>?_,I.free,I.freeC,λp hp=>?_,tracked ⟨oL,hoL,I.free⟩ hs,by simpa using I.len⟩ ⟨_,hs,.inl rfl⟩
  ·exact (hs.2 b (Nat.ne_of_lt (Nat.lt_of_lt_of_le (Heap.lt_size e) I.ok.above))).trans (I.base.keep b o e n hb hx)
  ·obtain ⟨sl,e1⟩:=I.base.slot b o e n hb hx
   exact ⟨sl,(hs.2 b (Nat.ne_of_lt (Nat.lt_of_lt_of_le (Heap.lt_size e) I.ok.above))).trans e1⟩
  ·obtain ⟨o',e1⟩:=I.base.there b o e hx
   exact ⟨o',(hs.2 b (Nat.ne_of_lt (Nat.lt_of_lt_of_le (Heap.lt_size e) I.ok.above))).trans e1⟩
  ·by_cases hj:j=i
   ·subst hj
    rw [hi] at e1; cases e1
    rw [List.getElem?_set_self hiσ] at e2
    cases e2
    exact ⟨u,r,.inl ⟨hk,by simp⟩⟩
   ·rw [List.getElem?_set_ne (Ne.symm hj)] at e2
    obtain ⟨u',r',q⟩:=hl j y v' e1 e2 e3
    refine ⟨u',r',?_⟩
    rcases q with ⟨k,e⟩ | ⟨k,c,e,z⟩
    ·refine .inl ⟨k,?_⟩
     have:y≠x:=λe=>hj (kL hN e1 (e ▸ hi))
     simp [this,e]
    ·exact .inr ⟨k,c,e,z.sameBut hs (cne y c e)⟩
  ·obtain ⟨w',z⟩:=I.cell y c e
   exact ⟨w',z.sameBut hs (cne y c e)⟩
  ·obtain ⟨e,n,ne,nf,d⟩:=I.pin p hp
   exact ⟨(hs.2 p.1 ne).trans e,n,ne,nf,d⟩
 ·have hfn:X.fn x=true:=by
   rcases hf with z | z
   ·exact z
   ·rw [z] at hk; cases hk
  obtain ⟨c,hc⟩:=I.ok.has x (.inl hk)
  obtain ⟨w',z⟩:=I.cell x c hc
  refine wpAny_storeName_cell I.ok.kind hk hc z (λh' hc' hs=>?_)
  obtain ⟨oc,hoc,hocd⟩:=id z
  refine h { s with heap:=h' } ⟨I.ok,I.os,I.bare,⟨λb o e n hb hx=>?_,λb o e n hb hx=>?_,I.base.free,λb o e hx=>?_,I.base.tups,I.base.frzs,I.base.tbls⟩,⟨m,hn.sameBut hs (Ne.symm (cne x c hc)),λj y v' e1 e2 e3=>?_⟩,λy c' e=>?_,I.free,I.freeC,λp hp=>?_,tracked ⟨oc,hoc,I.freeC x c hc⟩ hs,by simpa using I.len⟩ ⟨c,hs,.inr hc⟩
  ·exact (hs.2 b (Nat.ne_of_lt (Nat.lt_of_lt_of_le (Heap.lt_size e) (I.ok.cab x c hfn hc)))).trans (I.base.keep b o e n hb hx)
  ·obtain ⟨sl,e1⟩:=I.base.slot b o e n hb hx
   exact ⟨sl,(hs.2 b (Nat.ne_of_lt (Nat.lt_of_lt_of_le (Heap.lt_size e) (I.ok.cab x c hfn hc)))).trans e1⟩
  ·obtain ⟨o',e1⟩:=I.base.there b o e hx
   exact ⟨o',(hs.2 b (Nat.ne_of_lt (Nat.lt_of_lt_of_le (Heap.lt_size e) (I.ok.cab x c hfn hc)))).trans e1⟩
  ·by_cases hj:j=i
   ·subst hj
    rw [hi] at e1; cases e1
    rw [List.getElem?_set_self hiσ] at e2
    cases e2
    exact ⟨u,r,.inr ⟨.inl hk,c,hc,hc'⟩⟩
   ·rw [List.getElem?_set_ne (Ne.symm hj)] at e2
    obtain ⟨u',r',q⟩:=hl j y v' e1 e2 e3
    refine ⟨u',r',?_⟩
    rcases q with q | ⟨k,c',e,z'⟩
    ·exact .inl q
    ·refine .inr ⟨k,c',e,z'.sameBut hs ?_⟩
     rintro rfl
     exact hj (kL hN e1 (I.ok.inj _ _ _ e hc ▸ hi))
  ·by_cases hcc:c'=c
   ·subst hcc; exact ⟨_,hc'⟩
   ·obtain ⟨w2,z2⟩:=I.cell y c' e
    exact ⟨w2,z2.sameBut hs hcc⟩
  ·obtain ⟨e,n,ne,nf,d⟩:=I.pin p hp
   refine ⟨(hs.2 p.1 ?_).trans e,n,ne,nf,d⟩
   intro q
   rw [q,hoc] at e
   have q':oc=p.2:=Option.some.inj e
   exact d w' (by rw [<- q']; exact hocd)
theorem jf {M:Model} {A:Around} {E:Value->Shared->Prop} {i:Nat} {x:Str} {v:V} {u:Value} {Q:Unit->Shared->Prop} (I:zF X pins σ H s) (hN:X.N.Nodup) (hi:X.N[i]? = some x) (hx:q9 X.env.scope x) (r:zQ v u)
  (h:∀ s',zF X pins (σ.set i (some v)) H s'->Q () s') (hf:X.fn x=true\/X.env.scope.names.lookup x=some .local:=by first | exact .inl rfl | exact .inr rfl | assumption):wpAny M A (storeName X.env x u) Q E s:=
 Y8 I hN hi hx r (λs' I' _=>h s' I') hf
theorem zF.call' {s':Shared} {ch:List Addr} (I:zF X pins σ H s) (ho:s'.os=s.os) (u:Un (xD X.stack) ch H H' s.heap s'.heap) (hok:yZ X.prog X.w H' s'.heap) (hg:AllBare s'.gens)
  (hch:∀ b∈ch,(b∈X.ex\/X.s₀.heap.objs.size<=b)/\b≠X.env.locals/\(∀ x c,X.env.cells.lookup x=some c->c≠b)/\∀ p∈X.pn++pins,p.1≠b):zF X pins σ H' s':=by
 obtain ⟨h',g',d',t',o'⟩:=s'
 have e:o'=s.os:=ho
 subst e
 exact I.call (g':=g') (t':=t') (d':=d') u hok hg hch
end
noncomputable abbrev XK:=Value->Option Addr->Hp->Prop
noncomputable abbrev St:=List (Option V)
noncomputable abbrev VK:=V->Hp->Prop
noncomputable abbrev TE:=St->Hp->VK->Prop
noncomputable abbrev TT:=St->Hp->(Bool->Hp->Prop)->Prop
noncomputable abbrev TA:=St->Hp->(List V->Hp->Prop)->Prop
structure yp where
 nx:St->Hp->Prop
 rt:VK
 bk:St->Hp->Prop:=λ_ _=>False
 ct:St->Hp->Prop:=λ_ _=>False
noncomputable abbrev TS:=yp->St->Hp->Prop
noncomputable def EP (X:Cx) (pins:List (Addr × Obj)) (σ:St) (Q:VK) (u:Value) (s':Shared):Prop:=∃ v H',zF X pins σ H' s'/\zQ v u/\Q v H'
noncomputable def TP (X:Cx) (pins:List (Addr × Obj)) (σ:St) (Q:Bool->Hp->Prop) (b:Bool) (s':Shared):Prop:=∃ H',zF X pins σ H' s'/\Q b H'
noncomputable def AP (X:Cx) (pins:List (Addr × Obj)) (σ:St) (Q:List V->Hp->Prop) (us:List Value) (s':Shared):Prop:=∃ vs H',zF X pins σ H' s'/\zM vs us/\Q vs H'
noncomputable def SP (X:Cx) (pins:List (Addr × Obj)) (D:yp) (f:Flow) (s':Shared):Prop:=
 match f with
 | .next=>∃ σ' H',zF X pins σ' H' s'/\D.nx σ' H'
 | .brk=>∃ σ' H',zF X pins σ' H' s'/\D.bk σ' H'
 | .cont=>∃ σ' H',zF X pins σ' H' s'/\D.ct σ' H'
 | .ret u=>∃ v σ' H',zF X pins σ' H' s'/\zQ v u/\D.rt v H'
noncomputable def PE (X:Cx) (e:Expr) (t:TE):Prop:=
 ∀ (pins:List (Addr × Obj)) (s:Shared) (σ:St) (H:Hp) (Q:VK),zF X pins σ H s->t σ H Q->wpAny (model X.prog X.w) X.A (eval e X.env) (EP X pins σ Q) X.xe s
noncomputable def PT (X:Cx) (e:Expr) (t:TT):Prop:=
 ∀ (pins:List (Addr × Obj)) (s:Shared) (σ:St) (H:Hp) (Q:Bool->Hp->Prop),zF X pins σ H s->t σ H Q->wpAny (model X.prog X.w) X.A (isTrue e X.env (eval e X.env)) (TP X pins σ Q) X.xe s
noncomputable def PW (X:Cx) (e:Expr) (t:TT):Prop:=
 ∀ (whole:Sem Value) (pins:List (Addr × Obj)) (s:Shared) (σ:St) (H:Hp) (Q:Bool->Hp->Prop),zF X pins σ H s->t σ H Q->wpAny (model X.prog X.w) X.A (isTrue e X.env whole) (TP X pins σ Q) X.xe s
theorem PW.pt {X:Cx} {e:Expr} {t:TT} (h:PW X e t):PT X e t:=h _
noncomputable def PA (X:Cx) (es:List Expr) (t:TA):Prop:=
 ∀ (pos:Pos) (pins:List (Addr × Obj)) (s:Shared) (σ:St) (H:Hp) (Q:List V->Hp->Prop),zF X pins σ H s->t σ H Q->wpAny (model X.prog X.w) X.A (spliced (backTo pos (starEach es X.env))) (AP X pins σ Q) X.xe s
noncomputable def PS (X:Cx) (st:Stmt) (t:TS):Prop:=
 ∀ (pins:List (Addr × Obj)) (s:Shared) (σ:St) (H:Hp) (D:yp),zF X pins σ H s->t D σ H->wpAny (model X.prog X.w) X.A (exec st X.env) (SP X pins D) X.xe s
noncomputable def yb (X:Cx) (st:List Stmt) (t:TS):Prop:=
 ∀ (pins:List (Addr × Obj)) (s:Shared) (σ:St) (H:Hp) (D:yp),zF X pins σ H s->t D σ H->wpAny (model X.prog X.w) X.A (execs st X.env) (SP X pins D) X.xe s
theorem za {α:Type} {t:Sem α} {Q Q':α->Shared->Prop} {M:Model} {A:Around} {E:Value->Shared->Prop} {s:Shared} (h:wpAny M A t Q E s) (hQ:∀ a s,Q a s->Q' a s):wpAny M A t Q' E s:=wpAny_mono h hQ λ_ _ x=>x
end L2
namespace L2
open PySem PySem.Spec PyProof.Rows
section
variable {X:Cx}
noncomputable def jg (i:Nat):TE:=λσ H Q=>∃ v,σ[i]? = some (some v)/\Q v H
noncomputable def tC (v:V):TE:=λ_ H Q=>Q v H
theorem Y9 {i:Nat} {x:Str} {pos:Pos} (hN:X.N[i]? = some x) (hv:jE X.env.scope x) (hd:(x == ("__debug__" : Str))=false:=by decide) (hcd:(x == ("__classdict__" : Str))=false:=by decide):PE X (.Name x pos) (jg i):=by
 intro pins s σ H Q I h
 obtain ⟨v,e,h⟩:=h
 obtain ⟨m,hn,hl⟩:=I.loc
 obtain ⟨u,r,l⟩:=hl i x v hN e hv
 have fin:EP X pins σ Q u s:=⟨v,H,I,r,h⟩
 rcases l with ⟨hk,hm⟩ | ⟨hk,c,hc,hcell⟩
 ·exact wpAny_Name (wpAny_loadName_local I.ok.kind hk hn hm fin) hd
 ·rcases hk with hk | hk
  ·exact wpAny_Name (wpAny_loadName_cell I.ok.kind hk hc hcell fin) hd
  ·exact wpAny_Name (wpAny_loadName_free I.ok.kind hk hc hcell fin hcd) hd
theorem zI {i j pos}:PE X (.Constant (.int i) j pos) (tC (.int i)):=λ_ _ _ H _ I h=>wpAny_Constant_int ⟨.int i,H,I.tok _,⟨_,rfl⟩,h⟩
theorem xi {b j pos}:PE X (.Constant (.bool b) j pos) (tC (.bl b)):=λ_ _ _ H _ I h=>Constant_bool ⟨.bl b,H,I,rfl,h⟩
theorem gA {j pos}:PE X (.Constant .none j pos) (tC .non):=λ_ _ _ H _ I h=>Constant_none ⟨.non,H,I,rfl,h⟩
noncomputable def Gl (X:Cx) (x:Str):Prop:=X.env.kindOf x=some .globalImplicit
theorem uO {E:Value->Shared->Prop} {pins:List (Addr × Obj)} {s:Shared} {σ:St} {H:Hp} {x:Str} {u:Value} {pos:Pos} {Q:Value->Shared->Prop} (I:zF X pins σ H s) (hg:Gl X x) (hm:X.mg x=some u) (h:Q u s)
  (hd:(x == ("__debug__" : Str))=false:=by decide):wpAny (model X.prog X.w) X.A (eval (.Name x pos) X.env) Q E s:=
 Calls.Name_function_global I.ok.kind hg (Calls.loadGlobal_global (by rw [I.ok.glob]; exact I.mod.glob.keeps I.bk) hm h) hd
theorem uP {E:Value->Shared->Prop} {pins:List (Addr × Obj)} {s:Shared} {σ:St} {H:Hp} {x:Str} {u:Value} {pos:Pos} {Q:Value->Shared->Prop} (I:zF X pins σ H s) (hg:Gl X x) (hm:X.mg x=none) (hv:bootBuiltins x=some u) (h:Q u s)
  (hn:x≠"__name__":=by decide) (hd:(x == ("__debug__" : Str))=false:=by decide):wpAny (model X.prog X.w) X.A (eval (.Name x pos) X.env) Q E s:=by
 obtain ⟨mb,h1,h2⟩:=I.mod.blt
 exact Calls.Name_function_global I.ok.kind hg (Calls.loadGlobal_builtin (by rw [I.ok.glob]; exact I.mod.glob.keeps I.bk) hm (by rw [I.ok.blt]; exact h1.keeps I.bk) ((h2 x hn).trans hv) h) hd
theorem v5 {x:Str} {v:V} {u:Value} {pos:Pos} (hg:Gl X x) (hm:X.mg x=some u) (r:zQ v u) (hd:(x == ("__debug__" : Str))=false:=by decide):PE X (.Name x pos) (tC v):=
 λ_ _ _ H _ I h=>uO I hg hm ⟨v,H,I,r,h⟩ hd
theorem xW {x:Str} {v:V} {u:Value} {pos:Pos} (hg:Gl X x) (hm:X.mg x=none) (hv:bootBuiltins x=some u) (r:zQ v u) (hn:x≠"__name__":=by decide) (hd:(x == ("__debug__" : Str))=false:=by decide):PE X (.Name x pos) (tC v):=
 λ_ _ _ H _ I h=>uP I hg hm hv ⟨v,H,I,r,h⟩ hn hd
variable {a b:Expr} {ta tb:TE} {pos:Pos}
noncomputable def tB (t:TE):TT:=λσ H Q=>t σ H λx H1=>∃ c,x=.bl c/\Q c H1
theorem yi {e:Expr} {t:TE} (h:PE X e t) (he:∀ whole,isTrue e X.env whole=(do let v <- whole; standAt e.pos; holding [v] (truthy v)):=by intro _; rfl):PT X e (tB t):=by
 intro pins s σ H Q I hw
 refine isTrue_plain (za (h pins s σ H _ I hw) λv s1 ⟨x,H1,I1,r1,q1⟩=>?_) (he _)
 obtain ⟨d,rfl,q⟩:=q1
 cases r1
 exact wpAny_truthy_bool ⟨H1,I1,q⟩
variable {tA tB':TT} {zq:List Expr}
noncomputable def kO (t u:TT):TT:=λσ H Q=>t σ H λc H1=>if c=true then u σ H1 Q else Q false H1
noncomputable def UG (t u:TT):TT:=λσ H Q=>t σ H λc H1=>if c=true then Q true H1 else u σ H1 Q
noncomputable def kQ (t:TT):TT:=λσ H Q=>t σ H λc H1=>Q (!c) H1
theorem XA (ha:PT X a tA):PW X (.BoolOp .And [a] pos) tA:=by
 intro wh pins s σ H Q I h
 refine isTrue_and (za (ha pins s σ H Q I h) λc s1 e=>?_)
 cases c with
 | true=>exact isTrue_and_nil e
 | false=>exact e
theorem wO (ha:PT X a tA):PW X (.BoolOp .Or [a] pos) tA:=by
 intro wh pins s σ H Q I h
 refine isTrue_or (za (ha pins s σ H Q I h) λc s1 e=>?_)
 cases c with
 | false=>exact isTrue_or_nil e
 | true=>exact e
theorem XB (ha:PT X a tA) (hb:PW X (.BoolOp .And (b :: zq) pos) tB'):PW X (.BoolOp .And (a :: b :: zq) pos) (kO tA tB'):=by
 intro wh pins s σ H Q I h
 refine isTrue_and (za (ha pins s σ H _ I h) λc s1 ⟨H1,I1,q1⟩=>?_)
 cases c with
 | true=>exact hb wh pins s1 σ H1 Q I1 q1
 | false=>exact ⟨H1,I1,q1⟩
theorem xc (ha:PT X a tA) (hb:PW X (.BoolOp .Or (b :: zq) pos) tB'):PW X (.BoolOp .Or (a :: b :: zq) pos) (UG tA tB'):=by
 intro wh pins s σ H Q I h
 refine isTrue_or (za (ha pins s σ H _ I h) λc s1 ⟨H1,I1,q1⟩=>?_)
 cases c with
 | true=>exact ⟨H1,I1,q1⟩
 | false=>exact hb wh pins s1 σ H1 Q I1 q1
theorem xE (ha:PT X a tA):PT X (.UnaryOp .Not a pos) (kQ tA):=by
 intro pins s σ H Q I h
 exact isTrue_not (ha pins s σ H (λc H1=>Q (!c) H1) I h)
noncomputable def jh (ta tb:TE):TE:=λσ H Q=>ta σ H λx H1=>∃ c,x=.bl c/\if c=true then tb σ H1 Q else Q (.bl false) H1
noncomputable def jj (ta:TE):TE:=λσ H Q=>ta σ H λx H1=>∃ c,x=.bl c/\Q (.bl (!c)) H1
theorem w6 {op} {t:TE} (h:PE X a t):PE X (.BoolOp op [a] pos) t:=λpins s σ H Q I hw=>BoolOp_one (h pins s σ H Q I hw)
theorem wD (ha:PE X a ta) (hb:PE X (.BoolOp .And (b :: zq) pos) tb):PE X (.BoolOp .And (a :: b :: zq) pos) (jh ta tb):=by
 intro pins s σ H Q I h
 refine BoolOp_and (za (ha pins s σ H _ I h) λv s1 ⟨x,H1,I1,r1,q1⟩=>?_)
 obtain ⟨c,rfl,q1⟩:=q1
 cases r1
 refine wpAny_truthy_bool ?_
 cases c with
 | true=>exact hb pins s1 σ H1 Q I1 q1
 | false=>exact ⟨.bl false,H1,I1,rfl,q1⟩
theorem kS (ha:PE X a ta):PE X (.UnaryOp .Not a pos) (jj ta):=by
 intro pins s σ H Q I h
 refine UnaryOp_ (za (ha pins s σ H _ I h) λv s1 ⟨x,H1,I1,r1,q1⟩=>?_)
 obtain ⟨c,rfl,q1⟩:=q1
 cases r1
 exact not_of (wpAny_truthy_bool ⟨.bl (!c),H1,I1,rfl,q1⟩)
end
end L2
namespace L2
open PySem PySem.Spec PyProof.Rows
noncomputable def zE (K:PySem.W.Frag) (H:Hp) (a:Addr) (xs:List V):Prop:=
 Rd H a (.lst xs)∨
  ∃ (o:Obj) (its:Array Value) (n:Nat),K.lookup a=some o/\o.cls=.type "list"/\o.dict=none/\o.data=.seq its n/\its.size<=sizeLine/\zM xs its.toList
noncomputable def zS (K:PySem.W.Frag) (H:Hp) (a:Addr) (xs:List V):Prop:=
 Rd H a (.tup xs)∨
  ∃ (o:Obj) (its:Array Value) (n:Nat),K.lookup a=some o/\o.cls=.type "tuple"/\o.data=.seq its n/\its.size<=sizeLine/\zM xs its.toList
noncomputable def kT:Value->Option V
 | .none=>some .non
 | .bool b=>some (.bl b)
 | .int i _=>some (.int i)
 | .str x _=>some (.str x)
 | .bytes b _=>some (.byt b)
 | .float b _=>some (.flt b)
 | .ref a=>some (.ref a)
 | .type n=>some (.ty n)
 | _=>none
theorem zQ.abs {x:V} {u:Value} (r:zQ x u):kT u=some x:=by
 cases x with
 | non=>cases r; rfl
 | bl _=>cases r; rfl
 | int _=>obtain ⟨t,rfl⟩:=r; rfl
 | str _=>obtain ⟨t,rfl⟩:=r; rfl
 | byt _=>obtain ⟨t,rfl⟩:=r; rfl
 | flt _=>obtain ⟨t,rfl⟩:=r; rfl
 | ref _=>cases r; rfl
 | ty _=>cases r; rfl
theorem zQ.inj {x y:V} {u:Value} (r:zQ x u) (q:zQ y u):x=y:=Option.some.inj (r.abs.symm.trans q.abs)
theorem zM.inj:∀ {xs ys:List V} {us:List Value},zM xs us->zM ys us->xs=ys
 | _,_,_,.nil,.nil=>rfl
 | _,_,_,.cons r t,.cons r' t'=>by rw [r.inj r',zM.inj t t']
section
variable {X:Cx} {pins:List (Addr × Obj)} {σ:St} {H:Hp} {s:Shared} {a:Addr} {xs ys:List V}
theorem zE.of {K:PySem.W.Frag} (h:H a=some (.lst xs)):zE K H a xs:=.inl (.inl h)
theorem zS.of {K:PySem.W.Frag} (h:H a=some (.tup xs)):zS K H a xs:=.inl (.inl h)
theorem zF.list (I:zF X pins σ H s) (h:zE X.K H a xs):∃ its:List Value,zM xs its/\PlainL s.heap a its.toArray/\xs.length<=sizeLine:=by
 rcases h with h | ⟨o,its,n,hk,hc,hd,hs,hz,r⟩
 ·obtain ⟨z,its,n,r,e⟩:=h.ok I.hok
  exact ⟨its,r,⟨_,n,e,rfl,rfl,rfl⟩,z⟩
 ·refine ⟨its.toList,r,⟨o,n,I.kIn a o hk,hc,hd,by simpa using hs⟩,?_⟩
  have e:=r.length
  simp only [Array.length_toList] at e
  omega
theorem zF.tuple (I:zF X pins σ H s) (h:zS X.K H a xs):∃ its:List Value,zM xs its/\IsTup s.heap a its.toArray/\xs.length<=sizeLine:=by
 rcases h with h | ⟨o,its,n,hk,hc,hs,hz,r⟩
 ·obtain ⟨z,its,r,p⟩:=h.ok I.hok
  exact ⟨its,r,p,z⟩
 ·refine ⟨its.toList,r,⟨o,I.kIn a o hk,hc,n,by simpa using hs⟩,?_⟩
  have e:=r.length
  simp only [Array.length_toList] at e
  omega
theorem zF.list_inj (I:zF X pins σ H s) (h:zE X.K H a xs) (h':zE X.K H a ys):xs=ys:=by
 obtain ⟨its,r,⟨o,n,e,_,_,d⟩,_⟩:=I.list h
 obtain ⟨its',r',⟨o',n',e',_,_,d'⟩,_⟩:=I.list h'
 rw [e] at e'; cases e'
 rw [d] at d'
 injection d' with d1 _
 have:its=its':=by simpa using congrArg Array.toList d1
 subst this
 exact r.inj r'
theorem zF.tuple_inj (I:zF X pins σ H s) (h:zS X.K H a xs) (h':zS X.K H a ys):xs=ys:=by
 obtain ⟨its,r,⟨o,e,_,n,d⟩,_⟩:=I.tuple h
 obtain ⟨its',r',⟨o',e',_,n',d'⟩,_⟩:=I.tuple h'
 rw [e] at e'; cases e'
 rw [d] at d'
 injection d' with d1 _
 have:its=its':=by simpa using congrArg Array.toList d1
 subst this
 exact r.inj r'
end
noncomputable abbrev Cx.wish (X:Cx) (E:Value->Shared->Prop):Cx:={ X with xe:=E }
noncomputable abbrev Cx.nox (X:Cx):Cx:=X.wish λ_ _=>False
theorem Cx.Ok.wish {X:Cx} (ok:X.Ok) (E:Value->Shared->Prop):(X.wish E).Ok:=
 ⟨ok.mod,ok.kind,ok.glob,ok.blt,ok.above,ok.inj,ok.has,ok.cab,ok.hd,ok.frames,ok.stk,ok.exf,ok.bs,ok.bsz,ok.noex,ok.exfs,ok.funs,ok.frf⟩
theorem Cx.Ok.unwish {X:Cx} {E:Value->Shared->Prop} (ok:(X.wish E).Ok):X.Ok:=
 ⟨ok.mod,ok.kind,ok.glob,ok.blt,ok.above,ok.inj,ok.has,ok.cab,ok.hd,ok.frames,ok.stk,ok.exf,ok.bs,ok.bsz,ok.noex,ok.exfs,ok.funs,ok.frf⟩
section
variable {X:Cx} {pins:List (Addr × Obj)} {σ:St} {H:Hp} {s:Shared} {E:Value->Shared->Prop}
theorem zF.wish (I:zF X pins σ H s) (E:Value->Shared->Prop):zF (X.wish E) pins σ H s:=⟨I.ok.wish E,I.os,I.bare,I.base,I.loc,I.cell,I.free,I.freeC,I.pin,I.hok,I.len⟩
theorem zF.unwish (I:zF (X.wish E) pins σ H s):zF X pins σ H s:=⟨I.ok.unwish,I.os,I.bare,I.base,I.loc,I.cell,I.free,I.freeC,I.pin,I.hok,I.len⟩
theorem SP.unwish {D:yp} {f:Flow} {s':Shared} (h:SP (X.wish E) pins D f s'):SP X pins D f s':=by
 cases f with
 | next=>obtain ⟨σ',H',I,q⟩:=h; exact ⟨σ',H',I.unwish,q⟩
 | brk=>obtain ⟨σ',H',I,q⟩:=h; exact ⟨σ',H',I.unwish,q⟩
 | cont=>obtain ⟨σ',H',I,q⟩:=h; exact ⟨σ',H',I.unwish,q⟩
 | ret u=>obtain ⟨v,σ',H',I,r,q⟩:=h; exact ⟨v,σ',H',I.unwish,r,q⟩
theorem PE.nox {e:Expr} {t:TE} (h:PE X.nox e t):PE X e t:=λpins s σ H Q I hw=>
 wpAny_mono (h pins s σ H Q (I.wish _) hw) (λ_ _ ⟨v,H',I',r,q⟩=>⟨v,H',I'.unwish,r,q⟩) λ_ _ z=>False.elim z
theorem PT.nox {e:Expr} {t:TT} (h:PT X.nox e t):PT X e t:=λpins s σ H Q I hw=>
 wpAny_mono (h pins s σ H Q (I.wish _) hw) (λ_ _ ⟨H',I',q⟩=>⟨H',I'.unwish,q⟩) λ_ _ z=>False.elim z
theorem yb.nox {st:List Stmt} {t:TS} (h:yb X.nox st t):yb X st t:=λpins s σ H D I hw=>
 wpAny_mono (h pins s σ H D (I.wish _) hw) (λ_ _ q=>q.unwish) λ_ _ z=>False.elim z
end
section
variable {X:Cx} {st:Stmt} {zq:List Stmt} {t u:TS} {e:Expr} {te:TE} {pos:Pos}
noncomputable def jk:TS:=λD σ H=>D.nx σ H
noncomputable def kU (t u:TS):TS:=λD σ H=>t { D with nx:=u D } σ H
theorem yM:yb X [] jk:=λ_ _ σ H _ I h=>wpAny_execs_nil ⟨σ,H,I,h⟩
theorem zP (h1:PS X st t) (h2:yb X zq u):yb X (st :: zq) (kU t u):=by
 intro pins s σ H D I h
 refine wpAny_execs_cons (za (h1 pins s σ H { D with nx:=u D } I h) λf s1 q=>?_)
 cases f with
 | next=>
  obtain ⟨σ',H',I',q⟩:=q
  exact h2 pins s1 σ' H' D I' q
 | ret v=>exact q
 | brk=>exact q
 | cont=>exact q
theorem zW (h1:PS X st t):yb X [st] t:=by
 intro pins s σ H D I h
 refine wpAny_execs_cons (za (h1 pins s σ H D I h) λf s1 q=>?_)
 cases f with
 | next=>exact wpAny_execs_nil q
 | ret v=>exact q
 | brk=>exact q
 | cont=>exact q
theorem zF.quiet {pins:List (Addr × Obj)} {σ:St} {H:Hp} {s:Shared} (I:zF X pins σ H s):interactive X.env=false:=by simp [interactive,I.ok.kind]
noncomputable def jl (te:TE):TS:=λD σ H=>te σ H λ_ H1=>D.nx σ H1
theorem wb (he:PE X e te) (hs:swapsWith e none pos.line X.env=pure false:=by rfl):PS X (.Expr e pos) (jl te):=by
 intro pins s σ H D I h
 exact wpAny_Expr_any (za (he pins s σ H _ I h) λv s1 ⟨x,H1,I1,r1,q1⟩=>⟨σ,H1,I1,q1⟩) I.quiet hs
noncomputable def kW (te:TE):TS:=λD σ H=>te σ H D.rt
theorem zg (he:PE X e te):PS X (.Return (some e) pos) (kW te):=by
 intro pins s σ H D I h
 exact wpAny_Return_some (za (he pins s σ H _ I h) λv s1 ⟨x,H1,I1,r1,q1⟩=>⟨x,σ,H1,I1,r1,q1⟩)
noncomputable def kX (c:TT) (t u:TS):TS:=λD σ H=>c σ H λb H1=>if b=true then t D σ H1 else u D σ H1
theorem yG {c:Expr} {a b:List Stmt} {tc:TT} (hc:PT X c tc) (ha:yb X a t) (hb:yb X b u):PS X (.If c a b pos) (kX tc t u):=by
 intro pins s σ H D I h
 refine wpAny_If (za (hc pins s σ H _ I h) λd s1 ⟨H1,I1,q1⟩=>?_)
 cases d with
 | true=>exact ha pins s1 σ H1 D I1 q1
 | false=>exact hb pins s1 σ H1 D I1 q1
noncomputable def UH:TS:=λ_ _ _=>False
theorem gB:PS X st UH:=λ_ _ _ _ _ _ h=>h.elim
end
noncomputable abbrev TG:=V->St->Hp->(St->Hp->Prop)->Prop
noncomputable abbrev va:=List V->St->Hp->(St->Hp->Prop)->Prop
noncomputable def PG (X:Cx) (target:Expr) (t:TG):Prop:=
 ∀ (pins:List (Addr × Obj)) (s:Shared) (σ:St) (H:Hp) (v:V) (u:Value) (Q:St->Hp->Prop),zF X pins σ H s->zQ v u->t v σ H Q->
  wpAny (model X.prog X.w) X.A (assign target X.env u) (λ_ s'=>∃ σ' H',zF X pins σ' H' s'/\Q σ' H') X.xe s
noncomputable def jm (X:Cx) (ts:List Expr) (t:va):Prop:=
 ∀ (pins:List (Addr × Obj)) (s:Shared) (σ:St) (H:Hp) (vs:List V) (us:List Value) (Q:St->Hp->Prop),zF X pins σ H s->zM vs us->t vs σ H Q->
  wpAny (model X.prog X.w) X.A (assignInOrder ((assignEach ts X.env).map (·.2)) us) (λ_ s'=>∃ σ' H',zF X pins σ' H' s'/\Q σ' H') X.xe s
noncomputable abbrev uQ:=V->V->V->Hp->(Hp->Prop)->Prop
noncomputable def uR (X:Cx) (t:uQ):Prop:=
 ∀ (pins:List (Addr × Obj)) (s:Shared) (σ:St) (H:Hp) (o i v:V) (ov iv u:Value) (Q:Hp->Prop),zF X pins σ H s->zQ o ov->zQ i iv->zQ v u->t o i v H Q->
  wpAny (model X.prog X.w) X.A (setItem ov iv u) (λ_ s'=>∃ H',zF X pins σ H' s'/\Q H') X.xe s
section
variable {X:Cx} {pos:Pos}
noncomputable def v6 (i:Nat):TG:=λv σ H Q=>Q (σ.set i (some v)) H
theorem zr {i:Nat} {x:Str} (hN:X.N.Nodup) (hi:X.N[i]? = some x) (hx:q9 X.env.scope x) (hf:X.fn x=true\/X.env.scope.names.lookup x=some .local:=by first | exact .inl rfl | exact .inr rfl | assumption):PG X (.Name x pos) (v6 i):=by
 intro pins s σ H v u Q I r h
 exact wpAny_assign_Name (jf I hN hi hx r (λs' I'=>⟨_,H,I',h⟩) hf)
noncomputable def uS:va:=λvs σ H Q=>vs=[]/\Q σ H
noncomputable def jF (t:TG) (u:va):va:=λvs σ H Q=>∃ v r,vs=v :: r/\t v σ H λσ' H'=>u r σ' H' Q
theorem v7:jm X [] uS:=by
 intro pins s σ H vs us Q I r h
 obtain ⟨e,h⟩:=h
 subst e
 cases r
 exact assignInOrder_nil ⟨σ,H,I,h⟩
theorem xM {e:Expr} {es:List Expr} {t:TG} {u:va} (h1:PG X e t) (h2:jm X es u)
  (hs:(assignEach (e :: es) X.env).map (·.2)=assign e X.env :: (assignEach es X.env).map (·.2):=by rfl):jm X (e :: es) (jF t u):=by
 intro pins s σ H vs us Q I r h
 obtain ⟨v,vr,e1,h⟩:=h
 subst e1
 cases r with
 | cons r rr=>
  rw [hs]
  refine assignInOrder_cons (za (h1 pins s σ H _ _ _ I r h) λ_ s1 ⟨σ1,H1,I1,q1⟩=>?_)
  exact h2 pins s1 σ1 H1 _ _ Q I1 rr q1
noncomputable def uT (K:PySem.W.Frag) (n:Nat) (t:va):TG:=λv σ H Q=>∃ a xs,v=.ref a/\zS K H a xs/\xs.length=n/\t xs σ H Q
theorem uU {es:List Expr} {k:Nat} {t:va} {n:Nat} (hc:X.calm=true) (h:jm X es t)
  (hn:(assignEach es X.env).length=n:=by rfl) (hst:(assignEach es X.env).findIdx? (·.1)=none:=by rfl):PG X (.Tuple es k pos) (uT X.K n t):=by
 intro pins s σ H v u Q I r hw
 obtain ⟨a,xs,e1,hq,hl,hw⟩:=hw
 subst e1
 cases r
 obtain ⟨its,rv,ht,hz⟩:=I.tuple hq
 refine assign_Tuple_tuple (I.ok.hd hc) ht (by simp [hn,<- hl,rv.length]) hst λh' hx=>?_
 have I1:zF X pins σ H { s with heap:=h' }:=I.kept (t':=s.toks) λb o e=>hx b o (Nat.ne_of_lt (Heap.lt_size e)) e
 exact h pins _ σ H xs _ Q I1 (by simpa using rv) hw
noncomputable def kY (to ti:TE) (t:uQ):TG:=λv σ H Q=>to σ H λo H1=>ti σ H1 λi H2=>t o i v H2 λH3=>Q σ H3
theorem UI {o i:Expr} {to ti:TE} {t:uQ} (ho:PE X o to) (hi:PE X i ti) (hs:uR X t)
  (ha:∀ v,assign (.Subscript o i pos) X.env v=(do
   let ov <- holding [v] (eval o X.env)
   let iv <- holding [v,ov] (eval i X.env)
   standAt pos
   holding [v,ov,iv] (setItem ov iv v)
   release [v,ov,iv] []):=by intro _; rfl):PG X (.Subscript o i pos) (kY to ti t):=by
 intro pins s σ H v u Q I r h
 rw [ha]
 refine wpAny_bind (wpAny_holding (za (ho pins s σ H _ I h) λov s1 ⟨x,H1,I1,r1,q1⟩=>?_))
 refine wpAny_bind (wpAny_holding (za (hi pins s1 σ H1 _ I1 q1) λiv s2 ⟨y,H2,I2,r2,q2⟩=>?_))
 refine wpAny_bind (wpAny_standAt (wpAny_bind (wpAny_holding (za (hs pins s2 σ H2 x y v ov iv u _ I2 r1 r2 r q2) λ_ s3 ⟨H3,I3,q3⟩=>?_))))
 exact wpAny_release ⟨σ,H3,I3,q3⟩
noncomputable def uV (te:TE) (g:TG):TS:=λD σ H=>te σ H λx H1=>g x σ H1 D.nx
theorem kZ {tg e:Expr} {te:TE} {g:TG} (he:PE X e te) (hg:PG X tg g) (hs:swapsWithSole [tg] e pos.line X.env=pure false:=by rfl) (hw:swappedStores [tg] e X.env=pure none:=by rfl)
  (h1:(assignEach [tg] X.env).map (·.2)=[assign tg X.env]:=by rfl):PS X (.Assign [tg] e pos) (uV te g):=by
 intro pins s σ H D I h
 refine wpAny_Assign_stores (za (he pins s σ H _ I h) λv s1 ⟨x,H1,I1,r1,q1⟩=>?_) hs hw
 rw [h1]
 exact za (hg pins s1 σ H1 x v _ I1 r1 q1) λ_ s2 q=>q
theorem zj {i:Nat} {x:Str} {e:Expr} {te:TE} {pos':Pos} (hN:X.N.Nodup) (hi:X.N[i]? = some x) (hx:q9 X.env.scope x) (he:PE X e te) (hs:swapsWith e (some (.Name x pos')) pos.line X.env=pure false:=by rfl) (hf:X.fn x=true\/X.env.scope.names.lookup x=some .local:=by first | exact .inl rfl | exact .inr rfl | assumption) :
  PS X (.Assign [.Name x pos'] e pos) (uV te (v6 i)):=by
 intro pins s σ H D I h
 refine wpAny_Assign_Name (za (he pins s σ H _ I h) λv s1 ⟨y,H1,I1,r1,q1⟩=>?_) hs
 exact jf I1 hN hi hx r1 (λs2 I2=>⟨_,H1,I2,q1⟩) hf
noncomputable def ka (i j:Nat) (ta:TA):TS:=λD σ H=>ta σ H λvs H1=>∃ v w,vs=[v,w]/\D.nx ((σ.set i (some v)).set j (some w)) H1
theorem UJ {i j:Nat} {x y:Str} {a b:Expr} {ta:TA} {px py pt:Pos} {kt k2 pt2} (hc:X.calm=true) (hN:X.N.Nodup) (hi:X.N[i]? = some x) (hj:X.N[j]? = some y) (hij:i≠j)
  (hx:X.env.scope.names.lookup x=some .local) (hy:X.env.scope.names.lookup y=some .local) (ha:PA X [a,b] ta)
  (hw:swappedStores [.Tuple [.Name x px,.Name y py] kt pt] (.Tuple [a,b] k2 pt2) X.env=pure (some [x,y]))
  (hs:swapsWithSole [.Tuple [.Name x px,.Name y py] kt pt] (.Tuple [a,b] k2 pt2) pos.line X.env=pure false:=by rfl) :
  PS X (.Assign [.Tuple [.Name x px,.Name y py] kt pt] (.Tuple [a,b] k2 pt2) pos) (ka i j ta):=by
 intro pins s σ H D I h
 rw [exec_Assign_arm]
 refine wpAny_bind (wpAny_standAt ?_)
 rw [hs]
 refine wpAny_bind (wpAny_pure ?_)
 rw [if_neg (by decide)]
 refine wpAny_bind (Tuple_ (za (ha _ pins s σ H _ I h) λus s1 ⟨vs,H1,I1,r1,q1⟩=>?_))
 obtain ⟨v,w,e1,q1⟩:=q1
 subst e1
 obtain ⟨u1,u2,rfl,rv,rw'⟩:∃ u1 u2,us=[u1,u2]/\zQ v u1/\zQ w u2:=by
  cases r1 with
  | cons p q=>
   cases q with
   | cons p' q'=>
    cases q'
    exact ⟨_,_,rfl,p,p'⟩
 refine wpAny_newObj_type ?_ (by show 2<=sizeLine; decide)
 have I2:zF X pins σ H1 { s1 with heap:=s1.heap.push { cls:=.type "tuple",data:=.seq [u1,u2].toArray } }:=I1.kept (t':=s1.toks) λb o e=>Heap.get?_push_of_some _ e
 rw [hw]
 refine wpAny_bind (wpAny_pure ?_)
 show wpAny (model X.prog X.w) X.A (do rule "assign.swapped-stores"; let items <- unpackItems (.ref s1.heap.objs.size) 2 none; assignInOrder [λv=>bindName X.env y v,λv=>bindName X.env x v] items.reverse; pure Flow.next) _ _ _
 refine wpAny_bind (wpAny_rule (wpAny_bind (unpackItems_tuple (items:=#[u1,u2]) (I.ok.hd hc) (IsTup.new s1.heap _) λh' hx'=>?_)))
 have I3:=I2.kept (h':=h') (t':=s1.toks) λb o e=>hx' b o (Nat.ne_of_lt (Heap.lt_size e)) e
 show wpAny _ _ (assignInOrder [λv=>bindName X.env y v,λv=>bindName X.env x v] [u2,u1] >>= λ_=>pure Flow.next) _ _ _
 refine wpAny_bind (assignInOrder_cons (wpAny_bindName (jf I3 hN hj (.inl hy) rw' (λs2 I4=>?_) (.inr hy))))
 refine assignInOrder_cons (wpAny_bindName (jf I4 hN hi (.inl hx) rv (λs3 I5=>assignInOrder_nil (wpAny_pure ?_)) (.inr hx)))
 rw [List.set_comm _ _ (Ne.symm hij)] at I5
 exact ⟨_,H1,I5,q1⟩
end
section
variable {X:Cx} {pos:Pos}
noncomputable def XC (c:TT) (tb:TS):TS:=λD σ H=>∃ W:Nat->St->Hp->Prop,(∃ m,W m σ H)/\∀ m σ H,W m σ H->
 c σ H λb H1=>if b=true then ∃ N:St->Hp->Prop,(∀ σ' H',N σ' H'->∃ m',m' < m/\W m' σ' H')/\tb { D with nx:=N,ct:=N,bk:=D.nx } σ H1 else D.nx σ H1
theorem XD {c:Expr} {body:List Stmt} {tc:TT} {tb:TS} (hp:PassesOwn (model X.prog X.w) X.A X.env X.xe) (hc:PT X c tc) (hb:yb X body tb):PS X (.While c body [] pos) (XC tc tb):=by
 intro pins s σ H D I h
 obtain ⟨W,⟨m0,w0⟩,turn⟩:=h
 refine wpAny_While (codeAny_whileLoop (λn s'=>∃ σ' H',zF X pins σ' H' s'/\W n σ' H') ?_ m0 ⟨σ,H,I,w0⟩)
 rintro n s1 ⟨σ1,H1,I1,w1⟩
 refine wpAny_passesOwn hp (za (hc pins s1 σ1 H1 _ I1 (turn n σ1 H1 w1)) λb s2 ⟨H2,I2,q2⟩=>?_)
 cases b with
 | true=>
  obtain ⟨N,hN,q2⟩:=q2
  rw [if_pos rfl]
  refine wpAny_passesOwn hp (za (hb pins s2 σ1 H2 _ I2 q2) λf s3 q3=>?_)
  cases f with
  | next=>
   obtain ⟨σ3,H3,I3,n3⟩:=q3
   obtain ⟨m',hm,w3⟩:=hN σ3 H3 n3
   exact ⟨m',hm,σ3,H3,I3,w3⟩
  | cont=>
   obtain ⟨σ3,H3,I3,n3⟩:=q3
   obtain ⟨m',hm,w3⟩:=hN σ3 H3 n3
   exact ⟨m',hm,σ3,H3,I3,w3⟩
  | brk=>exact q3
  | ret v=>exact q3
 | false=>
  rw [if_neg Bool.false_ne_true]
  exact wpAny_execs_nil ⟨σ1,H2,I2,q2⟩
end
structure It where
 go:Nat->Hp->Prop
 yld:Nat->Hp->V->Hp->Prop
 stop:Nat->Hp->Prop
noncomputable def yc (X:Cx) (pins:List (Addr × Obj)) (H:Hp) (b:Addr):Prop:=
 H b=none/\b≠X.env.locals/\b∉X.fs/\(b∈X.ex\/X.s₀.heap.objs.size<=b)/\(∀ x c,X.env.cells.lookup x=some c->c≠b)/\∀ p∈X.pn++pins,p.1≠b
theorem zF.fpOk {X:Cx} {pins:List (Addr × Obj)} {σ:St} {H H':Hp} {s:Shared} {b:Addr} (I:zF X pins σ H s) (hb:s.heap.objs.size<=b) (hn:H' b=none):yc X pins H' b:=by
 refine ⟨hn,Nat.ne_of_gt (Nat.lt_of_lt_of_le I.lt hb),I.nofs hb,.inr (Nat.le_trans I.sz hb),λx c e z=>?_,λp hp z=>?_⟩
 ·obtain ⟨v,q⟩:=I.cell x c e
  exact absurd (Nat.lt_of_lt_of_le q.lt (by rw [z]; exact hb)) (Nat.lt_irrefl _)
 ·exact absurd (Nat.lt_of_lt_of_le (Heap.lt_size (I.pin p hp).1) (by rw [z]; exact hb)) (Nat.lt_irrefl _)
structure xN (P:Program) (w:World) (K:PySem.W.Frag) (tg:Expr) (J:It) (fp:List Addr) (it:Addr) (tn:Nat->Heap->Prop):Prop where
 mem:it∈fp
 obj:∀ i h,tn i h->∀ b∈fp,∃ o,h.get? b=some o/\∀ v,o.data≠.cell v
 keep:∀ i h h',tn i h->(∀ b∈fp,∀ o,h.get? b=some o->h'.get? b=some o)->tn i h'
 item:∀ (X:Cx),X.prog=P->X.w=w->X.K=K->X.calm=true->∀ (i:Nat) (pins:List (Addr × Obj)) (s:Shared) (σ:St) (H:Hp) (E:Value->Shared->Prop),zF X pins σ H s->(∀ b∈fp,yc X pins H b)->tn i s.heap->J.go i H->
  wpAny (model P w) X.A (pyNext (.ref it)) (λr s1=>∃ u,r=some u∧
   wpAny (model P w) X.A (letOwnedTupleGo tg (.ref it) u) (λ_ s2=>∃ x H',zF X pins σ H' s2/\zQ x u/\J.yld i H x H'/\tn (i + 1) s2.heap/\∀ b∈fp,H' b=none) E s1) E s
 done:∀ (X:Cx),X.prog=P->X.w=w->X.K=K->X.calm=true->∀ (i:Nat) (pins:List (Addr × Obj)) (s:Shared) (σ:St) (H:Hp) (E:Value->Shared->Prop),zF X pins σ H s->(∀ b∈fp,yc X pins H b)->tn i s.heap->J.stop i H->
  wpAny (model P w) X.A (pyNext (.ref it)) (λr s1=>r=none/\zF X pins σ H s1) E s
 self:∀ (A:Around) (i:Nat) (s:Shared) (Q:Value->Shared->Prop) (E:Value->Shared->Prop),tn i s.heap->Q (.ref it) s->wpAny (model P w) A (pyIter (.ref it)) Q E s
noncomputable abbrev TI:=St->Hp->(It->Hp->Prop)->Prop
noncomputable def XE (X:Cx) (pins:List (Addr × Obj)) (σ:St) (tg:Expr) (R:It->Hp->Prop) (itv:Value) (s2:Shared):Prop:=
 ∃ (it:Addr) (fp:List Addr) (tn:Nat->Heap->Prop) (J:It) (H':Hp),itv=.ref it/\zF X pins σ H' s2/\xN X.prog X.w X.K tg J fp it tn/\tn 0 s2.heap/\(∀ b∈fp,yc X pins H' b)/\R J H'
noncomputable def PI (X:Cx) (tg iter:Expr) (wi:TI):Prop:=
 ∀ (pins:List (Addr × Obj)) (s:Shared) (σ:St) (H:Hp) (R:It->Hp->Prop),zF X pins σ H s->wi σ H R->
  wpAny (model X.prog X.w) X.A (eval iter X.env) (λv s1=>wpAny (model X.prog X.w) X.A (pyIter v) (XE X pins σ tg R) X.xe s1) X.xe s
theorem kb {M:Model} {A:Around} {E:Value->Shared->Prop} {s:Shared} {tg:Expr} {it:Addr} {u:Value} {o:Obj} {n:String} {vs:Array Value} {Q:Unit->Shared->Prop} (ho:s.heap.get? it=some o) (hc:o.cls=.type n) (hd:o.data=.fields vs)
  (hn:["enumerate","zip","dict_itemiterator","dict_reverseitemiterator","odict_iterator","itertools.zip_longest","itertools.pairwise"].contains n=false) (hQ:Q () s):wpAny M A (letOwnedTupleGo tg (.ref it) u) Q E s:=by
 unfold letOwnedTupleGo
 cases tg <;> first
  | exact wpAny_pure hQ
  | (cases u <;> first
    | exact wpAny_pure hQ
    | (refine wpAny_bind (wpAny_load ho ?_)
       rw [hc,hd]
       show wpAny M A (if (["enumerate","zip","dict_itemiterator","dict_reverseitemiterator","odict_iterator","itertools.zip_longest","itertools.pairwise"].contains n && vs[0]? == some (rawInt _))=true then _ else _) Q E s
       rw [if_neg (by intro h; rw [hn,Bool.false_and] at h; cases h)]
       exact wpAny_pure hQ))
noncomputable def jG (K:PySem.W.Frag) (a:Addr):It:=
 ⟨λi H=>∃ xs x,zE K H a xs/\xs[i]? = some x,λi H x H'=>H'=H/\∀ xs,zE K H a xs->xs[i]? = some x,λi H=>∃ xs,zE K H a xs/\xs.length<=i⟩
noncomputable def jH (K:PySem.W.Frag) (a:Addr):It:=
 ⟨λi H=>∃ xs x,zS K H a xs/\xs[i]? = some x,λi H x H'=>H'=H/\∀ xs,zS K H a xs->xs[i]? = some x,λi H=>∃ xs,zS K H a xs/\xs.length<=i⟩
noncomputable def uW (lo:Int) (n:Nat):It:=⟨λi _=>i < n,λi H x H'=>H'=H/\x=.int (lo + i),λi _=>n<=i⟩
theorem UK {P:Program} {w:World} {K:PySem.W.Frag} {tg:Expr} (a it:Addr):xN P w K tg (jG K a) [it] it (λi h=>h.IsListIter it a i) where
 mem:=by simp
 obj:=λi h st b hb=>by
  have e:b=it:=by simpa using hb
  subst e
  obtain ⟨o,e,c,d⟩:=st
  exact ⟨o,e,λv z=>by rw [d] at z; cases z⟩
 keep:=λi h h' st k=>st.at λo e=>k it (by simp) o e
 item:=by
  intro X hP hw hK hc i pins s σ H E I hf st hg
  subst hP hw hK
  obtain ⟨xs,x,hq,hx⟩:=hg
  obtain ⟨its,rv,p,hz⟩:=I.list hq
  obtain ⟨u,hu,ru⟩:=rv.get hx
  obtain ⟨f0,f1,f2,f3,f4,f5⟩:=hf it (by simp)
  refine wpAny_pyNext_list_item st p.isList (x:=u) (by simpa using hu) λh' st' sb=>?_
  have I1:zF X pins σ H { s with heap:=h' }:=I.turned (t':=s.toks) (λb o hb e=>(sb.2 b hb).trans e) f0 f1 f3 f4 f5
  obtain ⟨o,e,c,d⟩:=id st'
  exact ⟨u,rfl,kb (s:={ s with heap:=h' }) e c d (by decide) ⟨x,H,I1,ru,⟨rfl,λys hy=>by rw [I.list_inj hy hq]; exact hx⟩,st',λb hb=>(hf b hb).1⟩⟩
 done:=by
  intro X hP hw hK hc i pins s σ H E I hf st hg
  subst hP hw hK
  obtain ⟨xs,hq,hx⟩:=hg
  obtain ⟨its,rv,p,hz⟩:=I.list hq
  obtain ⟨f0,f1,f2,f3,f4,f5⟩:=hf it (by simp)
  have hl:=rv.length
  exact wpAny_pyNext_list_end (I.ok.hd hc) st p.isList (by simp; omega) λh' eb=>⟨rfl,I.turned (t':=s.toks) (λb o hb e=>eb b o hb e) f0 f1 f3 f4 f5⟩
 self:=λ_ _ _ _ _ st h=>wpAny_pyIter_listiter st h
theorem UL {P:Program} {w:World} {K:PySem.W.Frag} {tg:Expr} (a it:Addr):xN P w K tg (jH K a) [it] it (λi h=>h.IsTupleIter it a i) where
 mem:=by simp
 obj:=λi h st b hb=>by
  have e:b=it:=by simpa using hb
  subst e
  obtain ⟨o,e,c,d⟩:=st
  exact ⟨o,e,λv z=>by rw [d] at z; cases z⟩
 keep:=λi h h' st k=>st.at λo e=>k it (by simp) o e
 item:=by
  intro X hP hw hK hc i pins s σ H E I hf st hg
  subst hP hw hK
  obtain ⟨xs,x,hq,hx⟩:=hg
  obtain ⟨its,rv,p,hz⟩:=I.tuple hq
  obtain ⟨u,hu,ru⟩:=rv.get hx
  obtain ⟨f0,f1,f2,f3,f4,f5⟩:=hf it (by simp)
  refine wpAny_pyNext_tuple_item st (show s.heap.IsTuple a its.toArray from p) (x:=u) (by simpa using hu) λh' st' sb=>?_
  have I1:zF X pins σ H { s with heap:=h' }:=I.turned (t':=s.toks) (λb o hb e=>(sb.2 b hb).trans e) f0 f1 f3 f4 f5
  obtain ⟨o,e,c,d⟩:=id st'
  exact ⟨u,rfl,kb (s:={ s with heap:=h' }) e c d (by decide) ⟨x,H,I1,ru,⟨rfl,λys hy=>by rw [I.tuple_inj hy hq]; exact hx⟩,st',λb hb=>(hf b hb).1⟩⟩
 done:=by
  intro X hP hw hK hc i pins s σ H E I hf st hg
  subst hP hw hK
  obtain ⟨xs,hq,hx⟩:=hg
  obtain ⟨its,rv,p,hz⟩:=I.tuple hq
  obtain ⟨f0,f1,f2,f3,f4,f5⟩:=hf it (by simp)
  have hl:=rv.length
  exact wpAny_pyNext_tuple_end (I.ok.hd hc) st (show s.heap.IsTuple a its.toArray from p) (by simp; omega) λh' eb=>⟨rfl,I.turned (t':=s.toks) (λb o hb e=>eb b o hb e) f0 f1 f3 f4 f5⟩
 self:=λ_ _ _ _ _ st h=>wpAny_pyIter_tupleiter st h
theorem UM {P:Program} {w:World} {K:PySem.W.Frag} {tg:Expr} (it:Addr) (lo:Int) (n:Nat):xN P w K tg (uW lo n) [it] it (λi h=>IsRangeIter h it (lo + (i:Nat) * 1) ((n:Int) - (i:Nat)) 1) where
 mem:=by simp
 obj:=λi h st b hb=>by
  have e:b=it:=by simpa using hb
  subst e
  exact ⟨_,st,λv z=>by
   have z':Data.fields _=Data.cell v:=z
   cases z'⟩
 keep:=λi h h' st k=>k it (by simp) _ st
 item:=by
  intro X hP hw hK hc i pins s σ H E I hf st hg
  subst hP hw hK
  obtain ⟨f0,f1,f2,f3,f4,f5⟩:=hf it (by simp)
  have W:=Walks.range (prog:=X.prog) (w:=X.w) (I.ok.hd hc) it lo 1 n
  refine W.item i s _ _ hg st λv h' tk hv st' kk=>?_
  obtain ⟨t,rfl⟩:=hv
  have I1:zF X pins σ H { s with heap:=h',toks:=tk }:=I.turned (λb o hb e=>kk b o (by simpa using hb) e) f0 f1 f3 f4 f5
  refine ⟨_,rfl,kb (s:={ s with heap:=h',toks:=tk }) (n:="range_iterator") st' rfl rfl (by decide) ⟨.int (lo + i),H,I1,⟨t,?_⟩,⟨rfl,rfl⟩,st',λb hb=>(hf b hb).1⟩⟩
  rw [Int.mul_one]
 done:=by
  intro X hP hw hK hc i pins s σ H E I hf st hg
  subst hP hw hK
  obtain ⟨f0,f1,f2,f3,f4,f5⟩:=hf it (by simp)
  exact wpAny_pyNext_range_end (I.ok.hd hc) st (by have:n<=i:=hg; omega) λh' eb=>⟨rfl,I.turned (t':=s.toks) (λb o hb e=>eb b o hb e) f0 f1 f3 f4 f5⟩
 self:=λ_ _ _ _ _ st h=>wpAny_pyIter_rangeiter st h
end L2
namespace L2
open PySem PySem.Spec PyProof.Rows
section
variable {X:Cx} {tg:Expr}
noncomputable def jn (K:PySem.W.Frag) (tl:TE):TI:=λσ H R=>tl σ H λx H1=>∃ a,x=.ref a/\(∃ xs,zE K H1 a xs)/\R (jG K a) H1
noncomputable def kd (K:PySem.W.Frag) (tl:TE):TI:=λσ H R=>tl σ H λx H1=>∃ a,x=.ref a/\(∃ xs,zS K H1 a xs)/\R (jH K a) H1
theorem xx {l:Expr} {tl:TE} (hl:PE X l tl):PI X tg l (jn X.K tl):=by
 intro pins s σ H R I h
 refine za (hl pins s σ H _ I h) λv s1 ⟨x,H1,I1,r1,q1⟩=>?_
 obtain ⟨a,e,⟨xs,hq⟩,q⟩:=q1
 subst e
 cases r1
 obtain ⟨its,rv,p,hz⟩:=I1.list hq
 refine wpAny_pyIter_list p.isList ?_
 refine ⟨s1.heap.objs.size,[s1.heap.objs.size],_,_,H1,rfl,I1.kept (t':=s1.toks) λb o e=>Heap.get?_push_of_some _ e,UK a _,⟨_,Heap.get?_push_size _ rfl,rfl,rfl⟩,λb hb=>?_,q⟩
 have e:b=s1.heap.objs.size:=by simpa using hb
 subst e
 exact I1.fpOk (Nat.le_refl _) (I1.hok.fresh (Nat.le_refl _))
theorem jo {l:Expr} {tl:TE} (hl:PE X l tl):PI X tg l (kd X.K tl):=by
 intro pins s σ H R I h
 refine za (hl pins s σ H _ I h) λv s1 ⟨x,H1,I1,r1,q1⟩=>?_
 obtain ⟨a,e,⟨xs,hq⟩,q⟩:=q1
 subst e
 cases r1
 obtain ⟨its,rv,p,hz⟩:=I1.tuple hq
 refine wpAny_pyIter_tuple (show s1.heap.IsTuple a its.toArray from p) ?_
 refine ⟨s1.heap.objs.size,[s1.heap.objs.size],_,_,H1,rfl,I1.kept (t':=s1.toks) λb o e=>Heap.get?_push_of_some _ e,UL a _,⟨_,Heap.get?_push_size _ rfl,rfl,rfl⟩,λb hb=>?_,q⟩
 have e:b=s1.heap.objs.size:=by simpa using hb
 subst e
 exact I1.fpOk (Nat.le_refl _) (I1.hok.fresh (Nat.le_refl _))
theorem UN {pins:List (Addr × Obj)} {σ:St} {H:Hp} {s:Shared} {R:It->Hp->Prop} {E:Value->Shared->Prop} {lo hi:Int} {t u v:Tok} {tk:Nat} (I:zF X pins σ H s) (h1 : -(2 ^ 62)<=lo) (h2:lo < 2 ^ 62) (h3 : -(2 ^ 62)<=hi) (h4:hi < 2 ^ 62)
  (q:R (uW lo (hi - lo).toNat) H):wpAny (model X.prog X.w) X.A (pyIter (.ref s.heap.objs.size)) (XE X pins σ tg R) E { s with heap:=s.heap.push { cls:=.type "range",data:=.fields #[.int lo t,.int hi u,.int 1 v] },toks:=tk }:=by
 refine wpAny_pyIter_range (IsRange.new ..) (small_one h1 h2 h3 h4) ?_
 have I1:zF X pins σ H { s with heap:=s.heap.push { cls:=.type "range",data:=.fields #[.int lo t,.int hi u,.int 1 v] },toks:=tk }:=I.kept λb o e=>Heap.get?_push_of_some _ e
 refine ⟨(s.heap.push { cls:=.type "range",data:=.fields #[.int lo t,.int hi u,.int 1 v] }).objs.size,[(s.heap.push { cls:=.type "range",data:=.fields #[.int lo t,.int hi u,.int 1 v] }).objs.size],_,_,H,rfl,
  I1.kept (t':=tk) λb o e=>Heap.get?_push_of_some _ e,UM _ lo (hi - lo).toNat,?_,λb hb=>?_,q⟩
 ·have e1:lo + ((0:Nat):Int) * 1=lo:=by simp
  have e2:(((hi - lo).toNat:Nat):Int) - ((0:Nat):Int)=Builtin.Range.rangeSize lo hi 1:=by rw [rangeSize_one]; split <;> omega
  show IsRangeIter _ _ (lo + ((0:Nat):Int) * 1) ((((hi - lo).toNat:Nat):Int) - ((0:Nat):Int)) 1
  rw [e1,e2]
  exact Heap.get?_push_size _ rfl
 ·have e:b=(s.heap.push { cls:=.type "range",data:=.fields #[.int lo t,.int hi u,.int 1 v] }).objs.size:=by simpa using hb
  subst e
  exact I1.fpOk (Nat.le_refl _) (I1.hok.fresh (Nat.le_refl _))
noncomputable def jp (ta:TA):TI:=λσ H R=>ta σ H λvs H1=>∃ j:Int,vs=[.int j]/\-(2 ^ 62)<=j/\j < 2 ^ 62/\R (uW 0 j.toNat) H1
theorem wu {a:Expr} {ta:TA} {p pos:Pos} (hg:Gl X "range") (hm:X.mg "range" = none) (ha:PA X [a] ta) (hs:starEach [a] X.env=[(false,eval a X.env)]:=by rfl):PI X tg (.Call (.Name "range" p) [a] [] pos) (jp ta):=by
 intro pins s σ H R I h
 refine Call_ (uP I hg hm boot_range (PyProof.Rows.callWith_type1 (za (ha pos pins s σ H _ I h) λus s1 ⟨vs,H1,I1,r1,q1⟩=>?_) hs rfl))
 obtain ⟨j,e,q1,q2,q⟩:=q1
 subst e
 cases r1 with
 | cons r rr=>
  cases rr
  obtain ⟨t,rfl⟩:=r
  exact call_range_1 (UN I1 (by omega) (by omega) q1 q2 (by simpa using q))
noncomputable def kg (wi:TI) (g:TG) (tb:TS):TS:=λD σ H=>wi σ H λJ H1=>∃ W:Nat->Nat->St->Hp->Prop,(∃ m,W 0 m σ H1)/\∀ i m σ H,W i m σ H->
 (J.stop i H/\D.nx σ H)\/(J.go i H/\∃ N:St->Hp->Prop,(∀ σ' H',N σ' H'->∃ m',m' < m/\W (i + 1) m' σ' H')/\∀ x H',J.yld i H x H'->g x σ H' λσ2 H2=>tb { D with nx:=N,ct:=N,bk:=D.nx } σ2 H2)
noncomputable def jq (fp:List Addr) (h:Heap):List (Addr × Obj):=fp.filterMap λb=>(h.get? b).map λo=>(b,o)
theorem gC {fp:List Addr} {h:Heap} {b:Addr} {o:Obj} (hb:b∈fp) (e:h.get? b=some o):(b,o)∈jq fp h:=List.mem_filterMap.mpr ⟨b,hb,by rw [e]; rfl⟩
theorem UO {fp:List Addr} {h:Heap} {p:Addr × Obj} (hp:p∈jq fp h):p.1∈fp/\h.get? p.1=some p.2:=by
 obtain ⟨b,hb,e⟩:=List.mem_filterMap.mp hp
 cases q:h.get? b with
 | none=>rw [q] at e; cases e
 | some o=>
  rw [q] at e
  have e':(b,o)=p:=Option.some.inj e
  subst e'
  exact ⟨hb,q⟩
theorem zF.pinned {pins:List (Addr × Obj)} {σ:St} {H:Hp} {s:Shared} {fp:List Addr} (I:zF X pins σ H s) (hf:∀ b∈fp,yc X pins H b) (ho:∀ b∈fp,∃ o,s.heap.get? b=some o/\∀ v,o.data≠.cell v):zF X (pins++jq fp s.heap) σ H s:=
 I.pins_of λp hp=>(List.mem_append.mp hp).elim (λz=>I.pin p (List.mem_append_right _ z)) λz=>by
  obtain ⟨hb,e⟩:=UO z
  obtain ⟨f0,f1,f2,_⟩:=hf p.1 hb
  obtain ⟨o,e',d⟩:=ho p.1 hb
  rw [e] at e'; cases e'
  exact ⟨e,f0,f1,f2,d⟩
theorem zF.unpinned {pins pl:List (Addr × Obj)} {σ:St} {H:Hp} {s:Shared} (I:zF X (pins++pl) σ H s):zF X pins σ H s:=I.pins_of λp hp=>I.pin p (List.mem_append_right _ (List.mem_append_left _ hp))
theorem wE {iter:Expr} {body:List Stmt} {wi:TI} {g:TG} {tb:TS} {pos:Pos} (hp:PassesOwn (model X.prog X.w) X.A X.env X.xe) (hc:X.calm=true) (hi:PI X tg iter wi) (hg:PG X tg g) (hb:yb X body tb)
  (hs:∀ x,foldedSetIterable iter X.env x=pure x:=by intro _; rfl):PS X (.For tg iter body [] pos) (kg wi g tb):=by
 intro pins s σ H D I h
 refine wpAny_For (za (hi pins s σ H _ I h) λv s1 h1=>za h1 λitv s2 h2=>?_) hs
 obtain ⟨it,fp,tn,J,H2,e,I2,T,st2,f2,W,⟨m0,w0⟩,turn⟩:=h2
 subst e
 have stat:∀ {H':Hp},(∀ b∈fp,H' b=none)->∀ b∈fp,yc X pins H' b:=λhn b hb=>⟨hn b hb,(f2 b hb).2⟩
 refine codeAny_forLoop_any (λn s'=>∃ i σ' H',zF X pins σ' H' s'/\tn i s'.heap/\(∀ b∈fp,H' b=none)/\W i n σ' H') ?_ m0 ⟨0,σ,H2,I2,st2,λb hb=>(f2 b hb).1,w0⟩
 rintro n s3 ⟨i,σ3,H3,I3,st3,fr3,w3⟩
 rcases turn i n σ3 H3 w3 with ⟨stop,qn⟩ | ⟨go,N,hN,step⟩
 ·refine wpAny_passesOwn hp (za (T.done X rfl rfl rfl hc i pins s3 σ3 H3 X.xe I3 (stat fr3) st3 stop) λr s4 ⟨hr,I4⟩=>?_)
  subst hr
  exact wpAny_execs_nil ⟨σ3,H3,I4,qn⟩
 ·refine wpAny_passesOwn hp (za (T.item X rfl rfl rfl hc i pins s3 σ3 H3 X.xe I3 (stat fr3) st3 go) λr s4 ⟨u,hr,h4⟩=>?_)
  subst hr
  refine wpAny_passesOwn hp (za h4 λ_ s5 ⟨x,H5,I5,r5,y5,st5,fr5⟩=>?_)
  have I5':=I5.pinned (stat fr5) (T.obj _ _ st5)
  refine wpAny_passesOwn hp (za (hg _ s5 σ3 H5 x u _ I5' r5 (step x H5 y5)) λ_ s6 ⟨σ6,H6,I6,q6⟩=>?_)
  refine wpAny_passesOwn hp (za (hb _ s6 σ6 H6 _ I6 q6) λf s7 q7=>?_)
  have again:∀ {σ7:St} {H7:Hp},zF X (pins++jq fp s5.heap) σ7 H7 s7->N σ7 H7->∃ m,m < n/\∃ i σ' H',zF X pins σ' H' s7/\tn i s7.heap/\(∀ b∈fp,H' b=none)/\W i m σ' H':=λ{σ7 H7} I7 n7=>by
   obtain ⟨m',hm,w7⟩:=hN σ7 H7 n7
   refine ⟨m',hm,i + 1,σ7,H7,I7.unpinned,T.keep _ _ _ st5 λb hb o e=>(I7.pin (b,o) (List.mem_append_right _ (List.mem_append_right _ (gC hb e)))).1,λb hb=>?_,w7⟩
   obtain ⟨o,e,d⟩:=T.obj _ _ st5 b hb
   exact (I7.pin (b,o) (List.mem_append_right _ (List.mem_append_right _ (gC hb e)))).2.1
  cases f with
  | next=>obtain ⟨σ7,H7,I7,n7⟩:=q7; exact again I7 n7
  | cont=>obtain ⟨σ7,H7,I7,n7⟩:=q7; exact again I7 n7
  | brk=>obtain ⟨σ7,H7,I7,q7⟩:=q7; exact ⟨σ7,H7,I7.unpinned,q7⟩
  | ret v=>obtain ⟨x7,σ7,H7,I7,r7,q7⟩:=q7; exact ⟨x7,σ7,H7,I7.unpinned,r7,q7⟩
end
theorem kh {K:PySem.W.Frag} {a:Addr} {xs:List V} {g:TG} {tb:TS} {D:yp} {σ:St} {H:Hp} (Pv:Nat->St->Hp->Prop) (h0:Pv 0 σ H) (hl:∀ i σ H,i<=xs.length->Pv i σ H->zE K H a xs)
  (hs:∀ i x σ H,xs[i]? = some x->Pv i σ H->g x σ H λσ2 H2=>tb { D with nx:=Pv (i + 1),ct:=Pv (i + 1),bk:=D.nx } σ2 H2) (hd:∀ σ H,Pv xs.length σ H->D.nx σ H) :
  ∃ W:Nat->Nat->St->Hp->Prop,(∃ m,W 0 m σ H)/\∀ i m σ H,W i m σ H->
   ((jG K a).stop i H/\D.nx σ H)\/((jG K a).go i H/\∃ N:St->Hp->Prop,(∀ σ' H',N σ' H'->∃ m',m' < m/\W (i + 1) m' σ' H')/\∀ x H',(jG K a).yld i H x H'->g x σ H' λσ2 H2=>tb { D with nx:=N,ct:=N,bk:=D.nx } σ2 H2):=by
 refine ⟨λi m σ H=>m=xs.length - i/\i<=xs.length/\Pv i σ H,⟨xs.length,by simp,Nat.zero_le _,h0⟩,?_⟩
 rintro i m σ H ⟨rfl,hi,p⟩
 have q:=hl i σ H hi p
 by_cases hlt:i < xs.length
 ·refine .inr ⟨⟨xs,xs[i],q,by simp [hlt]⟩,Pv (i + 1),λσ' H' p'=>⟨xs.length - (i + 1),by omega,rfl,hlt,p'⟩,λx H' y=>?_⟩
  obtain ⟨e,y⟩:=y
  subst e
  exact hs i x σ _ (y xs q) p
 ·have e:i=xs.length:=by omega
  subst e
  exact .inl ⟨⟨xs,q,Nat.le_refl _⟩,hd σ H p⟩
theorem UP {K:PySem.W.Frag} {a:Addr} {xs:List V} {g:TG} {tb:TS} {D:yp} {σ:St} {H:Hp} (Pv:Nat->St->Hp->Prop) (h0:Pv 0 σ H) (hl:∀ i σ H,i<=xs.length->Pv i σ H->zS K H a xs)
  (hs:∀ i x σ H,xs[i]? = some x->Pv i σ H->g x σ H λσ2 H2=>tb { D with nx:=Pv (i + 1),ct:=Pv (i + 1),bk:=D.nx } σ2 H2) (hd:∀ σ H,Pv xs.length σ H->D.nx σ H) :
  ∃ W:Nat->Nat->St->Hp->Prop,(∃ m,W 0 m σ H)/\∀ i m σ H,W i m σ H->
   ((jH K a).stop i H/\D.nx σ H)\/((jH K a).go i H/\∃ N:St->Hp->Prop,(∀ σ' H',N σ' H'->∃ m',m' < m/\W (i + 1) m' σ' H')/\∀ x H',(jH K a).yld i H x H'->g x σ H' λσ2 H2=>tb { D with nx:=N,ct:=N,bk:=D.nx } σ2 H2):=by
 refine ⟨λi m σ H=>m=xs.length - i/\i<=xs.length/\Pv i σ H,⟨xs.length,by simp,Nat.zero_le _,h0⟩,?_⟩
 rintro i m σ H ⟨rfl,hi,p⟩
 have q:=hl i σ H hi p
 by_cases hlt:i < xs.length
 ·refine .inr ⟨⟨xs,xs[i],q,by simp [hlt]⟩,Pv (i + 1),λσ' H' p'=>⟨xs.length - (i + 1),by omega,rfl,hlt,p'⟩,λx H' y=>?_⟩
  obtain ⟨e,y⟩:=y
  subst e
  exact hs i x σ _ (y xs q) p
 ·have e:i=xs.length:=by omega
  subst e
  exact .inl ⟨⟨xs,q,Nat.le_refl _⟩,hd σ H p⟩
theorem uX {lo:Int} {n:Nat} {g:TG} {tb:TS} {D:yp} {σ:St} {H:Hp} (Pv:Nat->St->Hp->Prop) (h0:Pv 0 σ H)
  (hs:∀ i σ H,i < n->Pv i σ H->g (.int (lo + i)) σ H λσ2 H2=>tb { D with nx:=Pv (i + 1),ct:=Pv (i + 1),bk:=D.nx } σ2 H2) (hd:∀ σ H,Pv n σ H->D.nx σ H) :
  ∃ W:Nat->Nat->St->Hp->Prop,(∃ m,W 0 m σ H)/\∀ i m σ H,W i m σ H->
   ((uW lo n).stop i H/\D.nx σ H)\/((uW lo n).go i H/\∃ N:St->Hp->Prop,(∀ σ' H',N σ' H'->∃ m',m' < m/\W (i + 1) m' σ' H')/\∀ x H',(uW lo n).yld i H x H'->g x σ H' λσ2 H2=>tb { D with nx:=N,ct:=N,bk:=D.nx } σ2 H2):=by
 refine ⟨λi m σ H=>m=n - i/\i<=n/\Pv i σ H,⟨n,by simp,Nat.zero_le _,h0⟩,?_⟩
 rintro i m σ H ⟨rfl,hi,p⟩
 by_cases hlt:i < n
 ·refine .inr ⟨hlt,Pv (i + 1),λσ' H' p'=>⟨n - (i + 1),by omega,rfl,hlt,p'⟩,λx H' y=>?_⟩
  obtain ⟨e,y⟩:=y
  subst e y
  exact hs i σ _ hlt p
 ·have e:i=n:=by omega
  subst e
  exact .inl ⟨Nat.le_refl _,hd σ H p⟩
theorem XF {c:TT} {tb:TS} {D:yp} {σ:St} {H:Hp} (Pv:St->Hp->Prop) (μ:St->Hp->Nat) (h0:Pv σ H)
  (hs:∀ σ H,Pv σ H->c σ H λb H1=>if b=true then tb { D with nx:=λσ' H'=>Pv σ' H'/\μ σ' H' < μ σ H,ct:=λσ' H'=>Pv σ' H'/\μ σ' H' < μ σ H,bk:=D.nx } σ H1 else D.nx σ H1)
  (mono:∀ σ H Q Q',(∀ b H1,Q b H1->Q' b H1)->c σ H Q->c σ H Q'):XC c tb D σ H:=by
 refine ⟨λm σ H=>m=μ σ H/\Pv σ H,⟨_,rfl,h0⟩,?_⟩
 rintro m σ H ⟨rfl,p⟩
 refine mono σ H _ _ (λb H1 q=>?_) (hs σ H p)
 cases b with
 | true=>exact ⟨_,λσ' H' ⟨p',l⟩=>⟨_,l,rfl,p'⟩,q⟩
 | false=>exact q
end L2
namespace L2
open PySem PySem.Spec PyProof.Rows
noncomputable abbrev R2:=V->V->Hp->VK->Prop
noncomputable def yU (X:Cx) (f:Value->Value->Sem Value) (r:R2):Prop:=
 ∀ (pins:List (Addr × Obj)) (s:Shared) (σ:St) (H:Hp) (x y:V) (v u:Value) (Q:VK),zF X pins σ H s->zQ x v->zQ y u->r x y H Q->
  wpAny (model X.prog X.w) X.A (f v u) (EP X pins σ Q) X.xe s
noncomputable def ki (X:Cx) (f:Value->Sem Value) (r:V->Hp->VK->Prop):Prop:=
 ∀ (pins:List (Addr × Obj)) (s:Shared) (σ:St) (H:Hp) (x:V) (v:Value) (Q:VK),zF X pins σ H s->zQ x v->r x H Q->
  wpAny (model X.prog X.w) X.A (f v) (EP X pins σ Q) X.xe s
noncomputable def yw (X:Cx) (f:Value) (r:List V->Hp->VK->Prop):Prop:=
 ∀ (pins:List (Addr × Obj)) (s:Shared) (σ:St) (H:Hp) (xs:List V) (us:List Value) (Q:VK),zF X pins σ H s->zM xs us->r xs H Q->
  wpAny (model X.prog X.w) X.A (call f us) (EP X pins σ Q) X.xe s
noncomputable def gD (r:R2) (ta tb:TE):TE:=λσ H Q=>ta σ H λx H1=>tb σ H1 λy H2=>r x y H2 Q
noncomputable def UQ (r:V->Hp->VK->Prop) (ta:TE):TE:=λσ H Q=>ta σ H λx H1=>r x H1 Q
noncomputable def rI (C:Int->Int->Prop) (g:Int->Int->V):R2:=λx y H Q=>∃ i j,x=.int i/\y=.int j/\C i j/\Q (g i j) H
noncomputable def vb (g:Int->Int->V):R2:=λx y H Q=>∃ i j,x=.int i/\y=.int j/\Q (g i j) H
noncomputable def rU (g:Int->V):V->Hp->VK->Prop:=λx H Q=>∃ i,x=.int i/\Q (g i) H
section
variable {X:Cx} {a b c:Expr} {ta tb tc:TE} {pos:Pos}
theorem uY (ha:PE X a ta) (hb:PE X b tb) {pins:List (Addr × Obj)} {s:Shared} {σ:St} {H:Hp} {R:V->V->Hp->Prop} (I:zF X pins σ H s)
  (h:ta σ H λx H1=>tb σ H1 λy H2=>R x y H2) {Q:Value->Shared->Prop} {f:Value->Value->Sem Value}
  (hf:∀ v u s2 x y H2,zF X pins σ H2 s2->zQ x v->zQ y u->R x y H2->wpAny (model X.prog X.w) X.A (f v u) Q X.xe s2) :
  wpAny (model X.prog X.w) X.A (eval a X.env) (λv s₁=>wpAny (model X.prog X.w) X.A (eval b X.env) (λu s₂=>wpAny (model X.prog X.w) X.A (f v u) Q X.xe s₂) X.xe s₁) X.xe s:=by
 refine za (ha pins s σ H _ I h) λv s1 ⟨x,H1,I1,r1,q1⟩=>?_
 refine za (hb pins s1 σ H1 _ I1 q1) λu s2 ⟨y,H2,I2,r2,q2⟩=>?_
 exact hf v u s2 x y H2 I2 r1 r2 q2
theorem zN {op:Operator} {r:R2} (ho:yU X (binaryOp op) r) (ha:PE X a ta) (hb:PE X b tb):PE X (.BinOp a op b pos) (gD r ta tb):=by
 intro pins s σ H Q I h
 exact wpAny_BinOp (uY ha hb I h λv u s2 x y H2 I2 rx ry q=>ho pins s2 σ H2 x y v u Q I2 rx ry q)
theorem w8 {op:UnaryOp} {r:V->Hp->VK->Prop} (ho:ki X (unaryOp op) r) (ha:PE X a ta):PE X (.UnaryOp op a pos) (UQ r ta):=by
 intro pins s σ H Q I h
 exact UnaryOp_ (za (ha pins s σ H _ I h) λv s1 ⟨x,H1,I1,r1,q1⟩=>ho pins s1 σ H1 x v Q I1 r1 q1)
theorem gE {f:Value->Value->Sem Value} {C:Int->Int->Prop} {g:Int->Int->Int}
  (rule:∀ (i j:Int) (t u:Tok) (s:Shared) (Q:Value->Shared->Prop) (E:Value->Shared->Prop),C i j->Q (.int (g i j) s.toks) { s with toks:=s.toks + 1 }->wpAny (model X.prog X.w) X.A (f (.int i t) (.int j u)) Q E s) :
  yU X f (rI C λi j=>.int (g i j)):=by
 intro pins s σ H x y v u Q I rx ry h
 obtain ⟨i,j,rfl,rfl,hc,q⟩:=h
 obtain ⟨t,rfl⟩:=rx
 obtain ⟨t',rfl⟩:=ry
 exact rule i j t t' s _ _ hc ⟨.int (g i j),H,I.tok _,⟨_,rfl⟩,q⟩
theorem jr {f:Value->Value->Sem Value} {g:Int->Int->Int}
  (rule:∀ (i j:Int) (t u:Tok) (s:Shared) (Q:Value->Shared->Prop) (E:Value->Shared->Prop),Q (.int (g i j) s.toks) { s with toks:=s.toks + 1 }->wpAny (model X.prog X.w) X.A (f (.int i t) (.int j u)) Q E s) :
  yU X f (vb λi j=>.int (g i j)):=by
 intro pins s σ H x y v u Q I rx ry h
 obtain ⟨i,j,rfl,rfl,q⟩:=h
 obtain ⟨t,rfl⟩:=rx
 obtain ⟨t',rfl⟩:=ry
 exact rule i j t t' s _ _ ⟨.int (g i j),H,I.tok _,⟨_,rfl⟩,q⟩
theorem vc {f:Value->Value->Sem Value} {g:Int->Int->Bool}
  (rule:∀ (i j:Int) (t u:Tok) (s:Shared) (Q:Value->Shared->Prop) (E:Value->Shared->Prop),Q (.bool (g i j)) s->wpAny (model X.prog X.w) X.A (f (.int i t) (.int j u)) Q E s) :
  yU X f (vb λi j=>.bl (g i j)):=by
 intro pins s σ H x y v u Q I rx ry h
 obtain ⟨i,j,rfl,rfl,q⟩:=h
 obtain ⟨t,rfl⟩:=rx
 obtain ⟨t',rfl⟩:=ry
 exact rule i j t t' s _ _ ⟨.bl (g i j),H,I,rfl,q⟩
noncomputable def kj (i j:Int):Prop:=0<=j/\j<=1000000/\i.natAbs < 2 ^ 64
noncomputable def js (i j:Int):Prop:=(-(2 ^ 64) < i/\i < 2 ^ 64)\/(-(2 ^ 64) < j/\j < 2 ^ 64)
theorem js.ok {i j:Int} (h:js i j):IntMulOk i j:=by
 rcases h with ⟨h1,h2⟩ | ⟨h1,h2⟩
 ·exact .of_left (intBits_le_64 h1 h2)
 ·exact .of_right (intBits_le_64 h1 h2)
theorem yV:yU X (binaryOp .Add) (vb λi j=>.int (i + j)):=jr λ_ _ _ _ _ _ _ q=>add_int q
theorem wP:yU X (binaryOp .Sub) (vb λi j=>.int (i - j)):=jr λ_ _ _ _ _ _ _ q=>sub_int q
theorem yj:yU X (binaryOp .Mod) (rI (λ_ j=>j≠0) λi j=>.int (i.fmod j)):=gE λ_ _ _ _ _ _ _ hc q=>mod_int' hc q
theorem jt:yU X (binaryOp .Pow) (rI kj λi j=>.int (i ^ j.toNat)):=gE λ_ _ _ _ _ _ _ hc q=>pow_int_small hc.1 hc.2.1 hc.2.2 q
theorem UR {f:Value->Sem Value} {g:Int->Int}
  (rule:∀ (i:Int) (t:Tok) (s:Shared) (Q:Value->Shared->Prop) (E:Value->Shared->Prop),Q (.int (g i) s.toks) { s with toks:=s.toks + 1 }->wpAny (model X.prog X.w) X.A (f (.int i t)) Q E s) :
  ki X f (rU λi=>.int (g i)):=by
 intro pins s σ H x v Q I rx h
 obtain ⟨i,rfl,q⟩:=h
 obtain ⟨t,rfl⟩:=rx
 exact rule i t s _ _ ⟨.int (g i),H,I.tok _,⟨_,rfl⟩,q⟩
theorem vA:ki X (unaryOp .USub) (rU λi=>.int (-i)):=UR λ_ _ _ _ _ q=>neg_int q
end
noncomputable def ju:V->V->Bool
 | .non,.non=>true | .non,.int _=>true | .int _,.non=>true | .non,.bl _=>true | .bl _,.non=>true | .non,.str _=>true | .str _,.non=>true
 | .int _,.int _=>true | .bl _,.bl _=>true | .str _,.str _=>true | .byt _,.byt _=>true
 | .int _,.str _=>true | .str _,.int _=>true | .bl _,.str _=>true | .str _,.bl _=>true
 | _,_=>false
noncomputable def UT:R2:=λx y H Q=>ju x y=true/\Q (.bl (decide (x=y))) H
noncomputable def UU:R2:=λx y H Q=>ju x y=true/\Q (.bl (!decide (x=y))) H
theorem XG {i j:Int}:decide (V.int i=V.int j)=(i == j):=by
 rw [Bool.eq_iff_iff]
 simp
theorem XH {i j:Bool}:decide (V.bl i=V.bl j)=(i == j):=by
 rw [Bool.eq_iff_iff]
 simp
theorem XI {i j:Str}:decide (V.str i=V.str j)=(i == j):=by
 rw [Bool.eq_iff_iff]
 simp
theorem XJ {i j:Array UInt8}:decide (V.byt i=V.byt j)=(i.toList == j.toList):=by
 rw [Bool.eq_iff_iff]
 cases i
 cases j
 simp
section
variable {X:Cx} {a b c:Expr} {ta tb tc:TE} {pos:Pos}
theorem yk {pins:List (Addr × Obj)} {σ:St} {H:Hp} {s:Shared} {Q:VK} {k k':Bool} (I:zF X pins σ H s) (q:Q (.bl k) H) (e:k=k'):EP X pins σ Q (.bool k') s:=by
 subst e
 exact ⟨.bl k,H,I,rfl,q⟩
theorem wQ:yU X (compareOp .Eq) UT:=by
 intro pins s σ H x y v u Q I rx ry h
 obtain ⟨hs,q⟩:=h
 cases x with
 | non=>
  cases rx
  cases y with
  | non=>cases ry; exact PySem.EqNone.eq_none_none (yk I q (by simp))
  | bl j=>cases ry; exact PySem.EqNone.eq_none_bool (yk I q (by simp))
  | int j=>obtain ⟨t',rfl⟩:=ry; exact PySem.EqNone.eq_none_int (yk I q (by simp))
  | str j=>obtain ⟨t',rfl⟩:=ry; exact PySem.EqNone.eq_none_str (yk I q (by simp))
  | _=>exact absurd (show false=true from hs) Bool.false_ne_true
 | bl i=>
  cases rx
  cases y with
  | non=>cases ry; exact PySem.EqNone.eq_bool_none (yk I q (by simp))
  | bl j=>cases ry; exact eq_bool (yk I q XH)
  | str j=>obtain ⟨t',rfl⟩:=ry; exact PySem.EqMixed.eq_bool_str (yk I q (by simp))
  | _=>exact absurd (show false=true from hs) Bool.false_ne_true
 | int i=>
  obtain ⟨t,rfl⟩:=rx
  cases y with
  | non=>cases ry; exact PySem.EqNone.eq_int_none (yk I q (by simp))
  | int j=>obtain ⟨t',rfl⟩:=ry; exact eq_int (yk I q XG)
  | str j=>obtain ⟨t',rfl⟩:=ry; exact PySem.EqMixed.eq_int_str (yk I q (by simp))
  | _=>exact absurd (show false=true from hs) Bool.false_ne_true
 | str i=>
  obtain ⟨t,rfl⟩:=rx
  cases y with
  | non=>cases ry; exact PySem.EqNone.eq_str_none (yk I q (by simp))
  | bl j=>cases ry; exact PySem.EqMixed.eq_str_bool (yk I q (by simp))
  | int j=>obtain ⟨t',rfl⟩:=ry; exact PySem.EqMixed.eq_str_int (yk I q (by simp))
  | str j=>obtain ⟨t',rfl⟩:=ry; exact eq_str (yk I q XI)
  | _=>exact absurd (show false=true from hs) Bool.false_ne_true
 | byt i=>
  obtain ⟨t,rfl⟩:=rx
  cases y with
  | byt j=>obtain ⟨t',rfl⟩:=ry; exact PySem.W.eq_bytes (yk I q XJ)
  | _=>exact absurd (show false=true from hs) Bool.false_ne_true
 | _=>cases y <;> exact absurd (show false=true from hs) Bool.false_ne_true
theorem jI:yU X (compareOp .NotEq) UU:=by
 intro pins s σ H x y v u Q I rx ry h
 obtain ⟨hs,q⟩:=h
 cases x with
 | non=>
  cases rx
  cases y with
  | non=>cases ry; exact PySem.EqNone.ne_none_none (yk I q (by simp))
  | bl j=>cases ry; exact PySem.EqNone.ne_none_bool (yk I q (by simp))
  | int j=>obtain ⟨t',rfl⟩:=ry; exact PySem.EqNone.ne_none_int (yk I q (by simp))
  | str j=>obtain ⟨t',rfl⟩:=ry; exact PySem.EqNone.ne_none_str (yk I q (by simp))
  | _=>exact absurd (show false=true from hs) Bool.false_ne_true
 | bl i=>
  cases rx
  cases y with
  | non=>cases ry; exact PySem.EqNone.ne_bool_none (yk I q (by simp))
  | bl j=>cases ry; exact ne_bool (yk I q (congrArg not XH))
  | str j=>obtain ⟨t',rfl⟩:=ry; exact PySem.EqMixed.ne_bool_str (yk I q (by simp))
  | _=>exact absurd (show false=true from hs) Bool.false_ne_true
 | int i=>
  obtain ⟨t,rfl⟩:=rx
  cases y with
  | non=>cases ry; exact PySem.EqNone.ne_int_none (yk I q (by simp))
  | int j=>obtain ⟨t',rfl⟩:=ry; exact ne_int (yk I q (congrArg not XG))
  | str j=>obtain ⟨t',rfl⟩:=ry; exact PySem.EqMixed.ne_int_str (yk I q (by simp))
  | _=>exact absurd (show false=true from hs) Bool.false_ne_true
 | str i=>
  obtain ⟨t,rfl⟩:=rx
  cases y with
  | non=>cases ry; exact PySem.EqNone.ne_str_none (yk I q (by simp))
  | bl j=>cases ry; exact PySem.EqMixed.ne_str_bool (yk I q (by simp))
  | int j=>obtain ⟨t',rfl⟩:=ry; exact PySem.EqMixed.ne_str_int (yk I q (by simp))
  | str j=>obtain ⟨t',rfl⟩:=ry; exact ne_str (yk I q (congrArg not XI))
  | _=>exact absurd (show false=true from hs) Bool.false_ne_true
 | byt i=>
  obtain ⟨t,rfl⟩:=rx
  cases y with
  | byt j=>obtain ⟨t',rfl⟩:=ry; exact PySem.W.ne_bytes (yk I q (congrArg not XJ))
  | _=>exact absurd (show false=true from hs) Bool.false_ne_true
 | _=>cases y <;> exact absurd (show false=true from hs) Bool.false_ne_true
theorem jJ:yU X (compareOp .Lt) (vb λi j=>.bl (decide (i < j))):=vc λ_ _ _ _ _ _ _ q=>lt_int q
theorem jv:yU X (compareOp .LtE) (vb λi j=>.bl (decide (i<=j))):=vc λ_ _ _ _ _ _ _ q=>le_int q
theorem gF:yU X (compareOp .Gt) (vb λi j=>.bl (decide (j < i))):=vc λ_ _ _ _ _ _ _ q=>gt_int q
theorem kn:yU X (compareOp .GtE) (vb λi j=>.bl (decide (j<=i))):=vc λ_ _ _ _ _ _ _ q=>ge_int q
theorem ko:yU X (compareOp .Is) (λx y H Q=>y=.non/\Q (.bl (decide (x=.non))) H):=by
 intro pins s σ H x y v u Q I rx ry h
 obtain ⟨rfl,q⟩:=h
 cases ry
 refine is_none_gen (yk I q ?_)
 cases x <;> first
  | (cases rx; rfl)
  | (obtain ⟨t,rfl⟩:=rx; rfl)
theorem yH (b:Expr) {op:CmpOp} (h:op≠.In:=by decide) (h2:op≠.NotIn:=by decide):behindInMarks op b=false:=by
 have e1:(op == CmpOp.In)=false:=by cases op <;> first | rfl | exact absurd rfl h
 have e2:(op == CmpOp.NotIn)=false:=by cases op <;> first | rfl | exact absurd rfl h2
 cases b <;> simp [behindInMarks,e1,e2]
theorem vB {op:CmpOp} {r:R2} (ho:yU X (compareOp op) r) (ha:PE X a ta) (hb:PE X b tb) (hm:behindInMarks op b=false):PE X (.Compare a [op] [b] pos) (gD r ta tb):=by
 intro pins s σ H Q I h
 exact wpAny_Compare1 (uY ha hb I h λv u s2 x y H2 I2 rx ry q=>ho pins s2 σ H2 x y v u Q I2 rx ry q) hm
noncomputable def XM (t:TE):TT:=λσ H Q=>t σ H λx H'=>∃ k,x=.bl k/\Q k H'
theorem yd {op:CmpOp} {r:R2} (ho:yU X (compareOp op) r) (ha:PE X a ta) (hb:PE X b tb) (hm:behindInMarks op b=false):PT X (.Compare a [op] [b] pos) (XM (gD r ta tb)):=by
 intro pins s σ H Q I h
 refine wpAny_isTrue_Compare1 (za (ha pins s σ H _ I h) λv s1 ⟨x,H1,I1,r1,q1⟩=>za (hb pins s1 σ H1 _ I1 q1) λu s2 ⟨y,H2,I2,r2,q2⟩=>
  za (ho pins s2 σ H2 x y v u _ I2 r1 r2 q2) λc s3 ⟨z,H3,I3,r3,k,e,q3⟩=>?_) hm
 subst e
 cases r3
 exact wpAny_truthy_bool ⟨H3,I3,q3⟩
noncomputable def XN (r r':R2) (ta tb tc:TE):TE:=λσ H Q=>ta σ H λx H1=>tb σ H1 λy H2=>r x y H2 λz H3=>∃ k,z=.bl k∧
 (if k=true then tc σ H3 λw' H4=>r' y w' H4 Q else Q (.bl false) H3)
theorem UV {op op':CmpOp} {r r':R2} (ho:yU X (compareOp op) r) (ho':yU X (compareOp op') r') (ha:PE X a ta) (hb:PE X b tb) (hc:PE X c tc)
  (hm:lastMarks [op,op'] [b,c]=false:=by with_unfolding_all rfl):PE X (.Compare a [op,op'] [b,c] pos) (XN r r' ta tb tc):=by
 intro pins s σ H Q I h
 refine Compare_chain (za (ha pins s σ H _ I h) λv s1 ⟨x,H1,I1,r1,q1⟩=>chain_link (za (hb pins s1 σ H1 _ I1 q1) λu s2 ⟨y,H2,I2,r2,q2⟩=>
  za (ho pins s2 σ H2 x y v u _ I2 r1 r2 q2) λd s3 ⟨z,H3,I3,r3,k,e,q3⟩=>?_)) hm
 subst e
 cases r3
 refine wpAny_truthy_bool ?_
 cases k with
 | false=>exact ite_ff ⟨.bl false,H3,I3,rfl,q3⟩
 | true=>exact ite_tt (chain_last (za (hc pins s3 σ H3 _ I3 q3) λw' s4 ⟨z',H4,I4,r4,q4⟩=>ho' pins s4 σ H4 y z' u w' Q I4 r2 r4 q4))
theorem UW {op op':CmpOp} {r r':R2} (ho:yU X (compareOp op) r) (ho':yU X (compareOp op') r') (ha:PE X a ta) (hb:PE X b tb) (hc:PE X c tc)
  (hm:lastMarks [op,op'] [b,c]=false:=by with_unfolding_all rfl):PT X (.Compare a [op,op'] [b,c] pos) (XM (XN r r' ta tb tc)):=by
 intro pins s σ H Q I h
 refine isTrue_chain (za (ha pins s σ H _ I h) λv s1 ⟨x,H1,I1,r1,q1⟩=>test_link (za (hb pins s1 σ H1 _ I1 q1) λu s2 ⟨y,H2,I2,r2,q2⟩=>
  za (ho pins s2 σ H2 x y v u _ I2 r1 r2 q2) λd s3 ⟨z,H3,I3,r3,k,e,q3⟩=>?_)) hm
 subst e
 cases r3
 refine wpAny_truthy_bool ?_
 cases k with
 | false=>
  obtain ⟨k',e',q'⟩:=q3
  cases e'
  exact ite_ff ⟨H3,I3,q'⟩
 | true=>
  refine ite_tt (test_last (za (hc pins s3 σ H3 _ I3 q3) λw' s4 ⟨z',H4,I4,r4,q4⟩=>za (ho' pins s4 σ H4 y z' u w' _ I4 r2 r4 q4) λd' s5 ⟨z2,H5,I5,r5,k2,e2,q5⟩=>?_))
  subst e2
  cases r5
  exact wpAny_truthy_bool ⟨H5,I5,q5⟩
theorem gG:(sizeLine:Nat) < 2 ^ 63:=by rw [sizeLine_eq]; decide
theorem jK {x:V} {us:List Value} (r:zM [x] us):∃ u,us=[u]/\zQ x u:=by
 cases r with
 | cons r1 r2=>cases r2; exact ⟨_,rfl,r1⟩
theorem uZ {x y:V} {us:List Value} (r:zM [x,y] us):∃ u w',us=[u,w']/\zQ x u/\zQ y w':=by
 cases r with
 | cons r1 r2=>
  cases r2 with
  | cons r3 r4=>cases r4; exact ⟨_,_,rfl,r1,r3⟩
theorem kq:yw X (.builtin "abs") (λxs H Q=>∃ i,xs=[.int i]/\Q (.int (if i < 0 then -i else i)) H):=by
 intro pins s σ H xs us Q I r h
 obtain ⟨i,rfl,q⟩:=h
 obtain ⟨u,rfl,t,rfl⟩:=jK r
 exact call_abs_int λu tk=>⟨.int (if i < 0 then -i else i),H,I.tok _,⟨_,rfl⟩,q⟩
end
end L2
namespace L2
open PySem PySem.Spec PyProof.Rows
structure wF (h:Heap) (x dx C:Addr) (mA:Str->Option Value):Prop where
 obj:h.get? x=some (PySem.W.instObj C dx)
 ns:h.Ns1 dx mA
 ne:dx≠x
theorem UX {h:Heap} {dx:Addr} {mA:Str->Option Value} (n:h.Ns1 dx mA):∃ od,h.get? dx=some od/\∀ name,PySem.W.lookIn name od=some (mA name):=by
 obtain ⟨o,es,ep,ho,hd,hk,_,hm⟩:=n
 refine ⟨o,ho,λname=>?_⟩
 have e:=hm name
 unfold nsFind findBy at e
 rw [<- Array.find?_toList] at e
 unfold PySem.W.lookIn
 rw [hd]
 dsimp only
 split
 ·rename_i y q
  rw [q] at e
  exact congrArg some e
 ·rename_i q
  rw [q] at e
  have a:es.toList.any (·.refKey)=false:=by
   rw [List.any_eq_false]
   intro y hy
   obtain ⟨z,t,hkey⟩:=hk y (Array.mem_toList_iff.mp hy)
   simp [DictEntry.refKey,hkey]
  have a':¬ es.toList.any (·.refKey)=true:=by rw [a]; exact Bool.false_ne_true
  rw [if_neg a']
  exact congrArg some e
theorem wF.look {h:Heap} {x dx C:Addr} {mA:Str->Option Value} (I:wF h x dx C mA):∃ od,PySem.W.InstAt h x (PySem.W.instObj C dx) C (some od)/\∀ name,PySem.W.lookIn name od=some (mA name):=
 let ⟨od,ho,hl⟩:=UX I.ns
 ⟨od,⟨I.obj,rfl,rfl,ho⟩,hl⟩
section
variable {prog:Program} {w:World} {A:Around} {E:Value->Shared->Prop} {s:Shared} {K:PySem.W.Frag} {x dx C f:Addr} {mA:Str->Option Value} {name:Str} {v:Value}
theorem UY {expr:Bool} {Q:Value->Shared->Prop} (X:K.In s.heap) (I:wF s.heap x dx C mA) (hg:PySem.W.plainGet K C name=true) (hh:PySem.W.hasDictIn K C=true)
  (ha:PySem.W.findIn K (.ref C) name=some none) (hv:mA name=some v) (hv':PySem.W.handedIn v=true) (h:Q v { s with toks:=s.toks + 1 }) :
  wpAny (model prog w) A (getAttr (.ref x) name expr) Q E s:=by
 obtain ⟨od,J,hl⟩:=I.look
 exact PySem.W.get_value X J (PySem.W.plainGet_of hg).1 (PySem.W.findObj_own hh ha rfl (by rw [hl,hv])) hv' h
theorem UZ {pl:Sem Bool} {Q:Value × List Value->Shared->Prop} (X:K.In s.heap) (I:wF s.heap x dx C mA) (hg:PySem.W.plainGet K C name=true)
  (hf:PySem.W.findIn K (.ref C) name=some (some (.ref f))) (ht:PySem.W.isFn K (.ref f)=true) (hv:mA name=none) (h:Q (.ref f,[.ref x]) s) :
  wpAny (model prog w) A (getMethod (.ref x) name pl) Q E s:=by
 obtain ⟨od,J,hl⟩:=I.look
 exact PySem.W.method_fn X J (PySem.W.plainGet_of hg).1 (PySem.W.plainGet_of hg).2 hf (beq_iff_eq.mp ht) (by show (PySem.W.lookIn name od).map (·.isSome)=some false; rw [hl,hv]; rfl) h
theorem Ua {ns:List Str} {Q:Unit->Shared->Prop} (X:K.In s.heap) (I:wF s.heap x dx C mA)
  (hs:PySem.W.findIn K (.ref C) "__setattr__" = some (some (.builtin "object.__setattr__"))) (hp:PySem.W.plainOver K C=true) (ht:PySem.W.takerIn K C name=some none) (hh:PySem.W.hasDictIn K C=true)
  (hw:PySem.Within mA ns) (hsz:ns.length<=sizeLine)
  (h:∀ h',wF h' x dx C (λy=>if y=name then some v else mA y)->Heap.SameBut dx s.heap h'->Q () { s with heap:=h',toks:=s.toks + 2 }) :
  wpAny (model prog w) A (setAttr (.ref x) name v) Q E s:=by
 obtain ⟨od,J,hl⟩:=I.look
 refine PySem.W.set_plain X J hs (PySem.W.osa_open (s:={ s with toks:=s.toks + 1 }) (r:=none) X J hp ht λb=>?_)
 obtain ⟨cd,hc,hd'⟩:=PySem.W.any_some hh
 have hx:s.heap.get? x=some ⟨.ref C,some dx,.plain,#[]⟩:=I.obj
 refine wpAny_bind (wpAny_pure (wpAny_bind (wpAny_bind (wpAny_loadPart hx (wpAny_bind (PySem.W.Looks.here (s:={ s with toks:=s.toks + 1 }) (PySem.W.looks_clsIn X hc) ?_))))))
 rw [hd']
 refine wpAny_pure (a:=some dx) (wpAny_bind (wpAny_pure (wpAny_bind ?_)))
 refine wpAny_nsSet1 (s:={ s with toks:=s.toks + 1 }) I.ns λh' hn2 hs2=>?_
 obtain ⟨oD,esD,epD,hoD,hdD,hcD⟩:=hn2.count (PySem.Within.cons name v hw)
 refine wpAny_bind (wpAny_lookBehind hoD (by rw [hdD]; exact pastItsLine_dict (Nat.le_trans hcD (by rw [List.length_cons]; omega))) ?_)
 exact wpAny_pure (h _ ⟨(hs2.2 _ (Ne.symm I.ne)).trans I.obj,hn2,I.ne⟩ hs2)
theorem Ub {R:Result->Shared->Prop} {vs:List Value} {kw:List (Str × Value)} (X:K.In s.heap) (hm:PySem.W.makesIn K C=true)
  (hi:PySem.W.findIn K (.ref C) "__init__" = some (some (.ref f))) (hf:PySem.W.typeIn K (.ref f)=some (.type "function"))
  (h:codeAny (model prog w) (A.under (.builtin "type.__call__" ⟨.ref C :: vs,kw⟩)) (.call (.ref f) ⟨.ref (s.heap.objs.size + 1) :: vs,kw⟩) (PySem.W.InitBack (s.heap.objs.size + 1) R)
   { s with heap:=(s.heap.push PySem.W.emptyDict).push (PySem.W.instObj C s.heap.objs.size) }) :
  codeAny (model prog w) A (.call (.ref C) ⟨vs,kw⟩) R s:=by
 obtain ⟨hh,g,d,t,os⟩:=s
 exact PySem.W.make_core (PySem.W.makes_of X hm) (PySem.W.looks_findIn X hi) (λself=>PySem.W.bind_fn X self hf) (.inl rfl) h
end
noncomputable def zH (f:Str) (v:V):List (Str × V)->List (Str × V)
 | []=>[(f,v)]
 | (g,x) :: r=>if g=f then (g,v) :: r else (g,x) :: zH f v r
theorem XO (f g:Str) (v:V):∀ fs:List (Str × V),(zH f v fs).lookup g=if g=f then some v else fs.lookup g
 | []=>by
  show List.lookup g [(f,v)]=_
  by_cases h:g=f
  ·have hb:(g == f)=true:=beq_iff_eq.mpr h
   simp only [List.lookup,hb,if_pos h]
  ·have hb:(g == f)=false:=beq_eq_false_iff_ne.mpr h
   simp only [List.lookup,hb,if_neg h]
 | (k,x) :: r=>by
  have ih:=XO f g v r
  rw [show zH f v ((k,x) :: r)=(if k=f then (k,v) :: r else (k,x) :: zH f v r) from rfl]
  by_cases hk:k=f
  ·rw [if_pos hk]
   by_cases h:g=k
   ·have hb:(g == k)=true:=beq_iff_eq.mpr h
    simp only [List.lookup,hb,if_pos (h.trans hk)]
   ·have hb:(g == k)=false:=beq_eq_false_iff_ne.mpr h
    simp only [List.lookup,hb,if_neg (λe:g=f=>h (e.trans hk.symm))]
  ·rw [if_neg hk]
   by_cases h:g=k
   ·have hb:(g == k)=true:=beq_iff_eq.mpr h
    simp only [List.lookup,hb,if_neg (λe:g=f=>hk (h.symm.trans e))]
   ·have hb:(g == k)=false:=beq_eq_false_iff_ne.mpr h
    simp only [List.lookup,hb]
    exact ih
theorem kr (f:Str) (v:V):∀ fs:List (Str × V),f∈(zH f v fs).map (·.1)/\∀ g,g∈fs.map (·.1)->g∈(zH f v fs).map (·.1)
 | []=>⟨by simp [zH],λg h=>by simp at h⟩
 | (k,x) :: r=>by
  obtain ⟨i1,i2⟩:=kr f v r
  rw [show zH f v ((k,x) :: r)=(if k=f then (k,v) :: r else (k,x) :: zH f v r) from rfl]
  by_cases hk:k=f
  ·rw [if_pos hk]
   subst hk
   exact ⟨by simp,λg h=>by simpa using h⟩
  ·rw [if_neg hk]
   refine ⟨?_,λg h=>?_⟩
   ·rw [List.map_cons]
    exact List.mem_cons_of_mem _ i1
   ·rw [List.map_cons] at h |-
    rcases List.mem_cons.mp h with e | e
    ·exact List.mem_cons.mpr (.inl e)
    ·exact List.mem_cons_of_mem _ (i2 g e)
theorem XQ (f:Str) (v:V):∀ fs:List (Str × V),(zH f v fs).length<=fs.length + 1
 | []=>by simp [zH]
 | (k,x) :: r=>by
  have ih:=XQ f v r
  rw [show zH f v ((k,x) :: r)=(if k=f then (k,v) :: r else (k,x) :: zH f v r) from rfl]
  by_cases hk:k=f
  ·rw [if_pos hk,List.length_cons,List.length_cons]; omega
  ·rw [if_neg hk,List.length_cons,List.length_cons]; omega
theorem yQ.some_of {v:V} {o:Option Value} (r:yQ (some v) o):∃ u,o=some u/\zQ v u:=by
 cases o with
 | none=>exact (show False from r).elim
 | some u=>exact ⟨u,rfl,r⟩
theorem yQ.none_of {o:Option Value} (r:yQ none o):o=none:=by
 cases o with
 | none=>rfl
 | some u=>exact (show False from r).elim
theorem XR {v:V} {u:Value} (r:zQ v u):PySem.W.handedIn u=true:=by
 cases v with
 | non=>cases (show u=Value.none from r); rfl
 | bl b=>cases (show u=Value.bool b from r); rfl
 | int i=>obtain ⟨t,e⟩:=(show ∃ t,u=Value.int i t from r); cases e; rfl
 | str x=>obtain ⟨t,e⟩:=(show ∃ t,u=Value.str x t from r); cases e; rfl
 | byt b=>obtain ⟨t,e⟩:=(show ∃ t,u=Value.bytes b t from r); cases e; rfl
 | flt b=>obtain ⟨t,e⟩:=(show ∃ t,u=Value.float b t from r); cases e; rfl
 | ref a=>cases (show u=Value.ref a from r); rfl
 | ty n=>cases (show u=Value.type n from r); rfl
section
variable {P:Program} {w:World} {H H':Hp} {h h':Heap} {a C dx:Addr} {fs fs':List (Str × V)}
theorem gH (hok:yZ P w H h) (e:H a=some (.ins C dx fs)):∃ mA,wF h a dx C mA/\(∀ f,yQ (fs.lookup f) (mA f))/\PySem.Within mA (fs.map (·.1))/\fs.length<=1000/\H dx=some (.own a):=by
 obtain ⟨d,z,ne,ob,mA,n,r,q⟩:=(show yh P w H h a (.ins C dx fs) from hok a _ e)
 exact ⟨mA,⟨ob,n,ne⟩,r,q,z,d⟩
end
structure vP (K:PySem.W.Frag) (C:Addr):Prop where
 pg:PySem.W.plainGet K C Str.empty=true
 hd:PySem.W.hasDictIn K C=true
 po:PySem.W.plainOver K C=true
 sa:PySem.W.findIn K (.ref C) "__setattr__" = some (some (.builtin "object.__setattr__"))
theorem vP.get {K:PySem.W.Frag} {C:Addr} (c:vP K C) (f:Str):PySem.W.plainGet K C f=true:=c.pg
noncomputable def wG (K:PySem.W.Frag) (C:Addr) (f:Str):Prop:=PySem.W.findIn K (.ref C) f=some none
theorem wG.taker {K:PySem.W.Frag} {C:Addr} {f:Str} (n:wG K C f):PySem.W.takerIn K C f=some none:=by
 unfold PySem.W.takerIn
 rw [show PySem.W.findIn K (.ref C) f=some none from n]
 rfl
structure vd (K:PySem.W.Frag) (C:Addr) (m:Str) (f:Addr):Prop where
 at_:PySem.W.findIn K (.ref C) m=some (some (.ref f))
 fn:PySem.W.isFn K (.ref f)=true
 kp:PySem.W.keepIn K (.ref f)=true
section
variable {X:Cx} {pins:List (Addr × Obj)} {σ:St} {H:Hp} {s:Shared} {a C dx:Addr} {fs:List (Str × V)} {f:Str} {v:V} {A:Around} {E:Value->Shared->Prop}
theorem Uc {b:Bool} {Q:Value->Shared->Prop} (I:zF X pins σ H s) (e:H a=some (.ins C dx fs)) (c:vP X.K C) (n:wG X.K C f) (l:fs.lookup f=some v)
  (h:∀ u s',zF X pins σ H s'->zQ v u->Q u s'):wpAny (model X.prog X.w) A (getAttr (.ref a) f b) Q E s:=by
 obtain ⟨mA,O,r,_,_,_⟩:=gH I.hok e
 obtain ⟨u,hu,ru⟩:=yQ.some_of (v:=v) (o:=mA f) (by rw [<- l]; exact r f)
 exact UY I.kIn O (c.get f) c.hd n hu (XR ru) (h u _ (I.tok _) ru)
theorem Ud {m:Str} {g:Addr} {pl:Sem Bool} {Q:Value × List Value->Shared->Prop} (I:zF X pins σ H s) (e:H a=some (.ins C dx fs)) (c:vP X.K C) (k:vd X.K C m g) (l:fs.lookup m=none)
  (h:Q (.ref g,[.ref a]) s):wpAny (model X.prog X.w) A (getMethod (.ref a) m pl) Q E s:=by
 obtain ⟨mA,O,r,_,_,_⟩:=gH I.hok e
 have hn:mA m=none:=yQ.none_of (by rw [<- l]; exact r m)
 exact UZ I.kIn O (c.get m) k.at_ k.fn hn h
theorem Ue {y:V} {u:Value} {Q:Unit->Shared->Prop} (I:zF X pins σ H s) (e:H a=some (.ins C dx fs)) (c:vP X.K C) (n:wG X.K C f) (hl:fs.length < 1000) (ry:zQ y u)
  (h:∀ s',zF X pins σ (upd H a (.ins C dx (zH f y fs))) s'->Q () s'):wpAny (model X.prog X.w) A (setAttr (.ref a) f u) Q E s:=by
 obtain ⟨mA,O,r,wi,_,ho⟩:=gH I.hok e
 have hz:(fs.map (·.1)).length<=sizeLine:=by rw [List.length_map,sizeLine_eq]; omega
 refine Ua I.kIn O c.sa c.po n.taker c.hd wi hz λh' O' sb=>h _ ?_
 have hd:∃ o,h'.get? dx=some o:=let ⟨o,_,_,e',_⟩:=O'.ns; ⟨o,e'⟩
 refine I.write (x:=a) (e:=dx) (by rw [e]; exact True.intro) (.inr ho) (λb q hb z=>(sb.2 b hb).trans z) hd ?_
 refine ⟨by rw [zl O.ne]; exact ho,?_,O.ne,O'.obj,_,O'.ns,λg=>?_,λg hg=>?_⟩
 ·have:=XQ f y fs; omega
 ·show yQ ((zH f y fs).lookup g) (if g=f then some u else mA g)
  rw [XO]
  by_cases q:g=f
  ·rw [if_pos q,if_pos q]; exact ry
  ·rw [if_neg q,if_neg q]; exact r g
 ·by_cases q:g=f
  ·rw [q]; exact (kr f y fs).1
  ·refine (kr f y fs).2 g (wi g λz=>hg ?_)
   show (if g=f then some u else mA g)=none
   rw [if_neg q]; exact z
theorem zF.made (I:zF X pins σ H s):zF X pins σ (upd (upd H s.heap.objs.size (.own (s.heap.objs.size + 1))) (s.heap.objs.size + 1) (.ins C s.heap.objs.size []))
  { s with heap:=(s.heap.push PySem.W.emptyDict).push (PySem.W.instObj C s.heap.objs.size) }:=by
 have e1:(s.heap.push PySem.W.emptyDict).get? s.heap.objs.size=some PySem.W.emptyDict:=Heap.get?_push_size s.heap rfl
 have e2:((s.heap.push PySem.W.emptyDict).push (PySem.W.instObj C s.heap.objs.size)).get? (s.heap.objs.size + 1)=some (PySem.W.instObj C s.heap.objs.size):=by
  have:=Heap.get?_push_size (s.heap.push PySem.W.emptyDict) (o:=PySem.W.instObj C s.heap.objs.size) rfl
  rwa [Heap.size_push] at this
 have e3:(s.heap.push PySem.W.emptyDict).Ns s.heap.objs.size (λ_=>none):=⟨PySem.W.emptyDict,#[],_,e1,rfl,(λe he=>absurd he (by simp)),λ_=>rfl⟩
 have I1:=I.laid (a:=s.heap.objs.size) (o:=.own (s.heap.objs.size + 1)) (h':=s.heap.push PySem.W.emptyDict) (t':=s.toks) (λb u q=>Heap.get?_push_of_some _ q) (Nat.le_refl _) ⟨_,e1⟩
 refine I1.laid (a:=s.heap.objs.size + 1) (o:=.ins C s.heap.objs.size []) (t':=s.toks) (λb u q=>Heap.get?_push_of_some _ q) (Nat.le_of_eq (Heap.size_push _ _)) ?_
 have ne:s.heap.objs.size≠s.heap.objs.size + 1:=Nat.ne_of_lt (Nat.lt_succ_self _)
 refine ⟨by rw [zl ne,zO],Nat.zero_le _,ne,e2,λ_=>none,(Heap.Ns1.of_empty e3).at λo q=>Heap.get?_push_of_some _ q,λ_=>True.intro,λy hy=>absurd rfl hy⟩
theorem XS {prog:Program} {w:World} {env:Env} {e:Expr} {f:Str} {pos:Pos} {s:Shared} {Q:Value->Shared->Prop} (hb:attributeBase e f env (eval e env)=eval e env)
  (h:wpAny (model prog w) A (eval e env) (λo s₁=>wpAny (model prog w) A (getAttr o f true) Q E s₁) E s):wpAny (model prog w) A (eval (.Attribute e f pos) env) Q E s:=
 Attribute_any_ h (by rw [arm_eval_Attribute,hb])
end
noncomputable def ku (K:PySem.W.Frag) (ta:TE) (f:Str):TE:=λσ H Q=>ta σ H λx H1=>∃ a C dx fs v,x=.ref a/\H1 a=some (.ins C dx fs)/\vP K C/\wG K C f/\fs.lookup f=some v/\Q v H1
noncomputable def ky (K:PySem.W.Frag) (ta tv:TE) (f:Str):TS:=λD σ H=>tv σ H λy H1=>ta σ H1 λx H2=>∃ a C dx fs,x=.ref a/\H2 a=some (.ins C dx fs)/\vP K C/\wG K C f/\fs.length < 1000∧
 D.nx σ (upd H2 a (.ins C dx (zH f y fs)))
section
variable {X:Cx} {o e value:Expr} {f:Str} {pos pos' tpos:Pos} {ta tv:TE}
theorem xj (he:PE X e ta) (hb:attributeBase e f X.env (eval e X.env)=eval e X.env):PE X (.Attribute e f pos) (ku X.K ta f):=by
 intro pins s σ H Q I h
 refine XS hb (za (he pins s σ H _ I h) λu s1 ⟨x,H1,I1,rx,a,C,dx,fs,v,ex,ea,c,n,l,q⟩=>?_)
 subst ex
 obtain rfl:u=Value.ref a:=rx
 exact Uc I1 ea c n l λu' s2 I2 ru=>⟨v,H1,I2,ru,q⟩
theorem ve (ha:PE X o ta) (hv:PE X value tv) (hs:swapsWith value (some (.Attribute o f pos')) pos.line X.env=pure false):PS X (.Assign [.Attribute o f pos'] value pos) (ky X.K ta tv f):=by
 intro pins s σ H D I h
 refine plainObj_wpAny_Assign_Attribute (za (hv pins s σ H _ I h) λu s1 ⟨y,H1,I1,ry,q⟩=>za (ha pins s1 σ H1 _ I1 q) λov s2 ⟨x,H2,I2,rx,a,C,dx,fs,ex,ea,c,n,l,q2⟩=>?_) hs
 subst ex
 obtain rfl:ov=Value.ref a:=rx
 exact Ue I2 ea c n l ry λs3 I3=>⟨σ,_,I3,q2⟩
end
section
variable {X:Cx} {pins:List (Addr × Obj)} {σ:St} {H:Hp} {s:Shared} {A:Around} {E:Value->Shared->Prop} {Q:Value->Shared->Prop} {c:Value} {b:Bool}
inductive yW (K:PySem.W.Frag) (H:Hp):V->Value->Prop where
 | non:yW K H .non (.type "NoneType")
 | bl (x:Bool):yW K H (.bl x) (.type "bool")
 | int (i:Int):yW K H (.int i) (.type "int")
 | str (x:Str):yW K H (.str x) (.type "str")
 | flt (x:UInt64):yW K H (.flt x) (.type "float")
 | lst {a:Addr} {xs:List V} (e:H a=some (.lst xs)):yW K H (.ref a) (.type "list")
 | frz {a:Addr} {o:Obj} {xs:List V} (e:H a=some (.frz o (.lst xs))):yW K H (.ref a) (.type "list")
 | tup {a:Addr} {xs:List V} (e:H a=some (.tup xs)):yW K H (.ref a) (.type "tuple")
 | dK {a:Addr} {kvs:List (yL × V)} (e:H a=some (.dK kvs)):yW K H (.ref a) (.type "dict")
 | dT {a:Addr} {kvs:List (List yL × V)} (e:H a=some (.dT kvs)):yW K H (.ref a) (.type "dict")
 | ins {a C dx:Addr} {fs:List (Str × V)} (e:H a=some (.ins C dx fs)) (cl:vP K C) (ha:PySem.W.findIn K (.ref C) "__class__" = some (some (.builtin "object.__class__")))
   (hn:PySem.W.specialIn K (.builtin "object.__class__") "__get__" = some (some (.builtin "getset_descriptor.__get__"))) (htk:PySem.W.takesIn K (.builtin "object.__class__")=some true)
   (hm:PySem.W.mroIn K C (.type "object")=some true):yW K H (.ref a) (.ref C)
theorem XT {x:V} {u t:Value} (I:zF X pins σ H s) (rx:zQ x u) (ty:yW X.K H x t) (e:PySem.W.kitOne X.K t c=some b) (h:∀ tk,Q (.bool b) { s with toks:=tk }) :
  wpAny (model X.prog X.w) A (call (.builtin "isinstance") [u,c]) Q E s:=by
 cases ty with
 | non=>cases (show u=Value.none from rx); exact PySem.W.kia_one PySem.W.kitx_none I.kIn True.intro e (λz=>nomatch z) h
 | bl y=>cases (show u=Value.bool y from rx); exact PySem.W.kia_one PySem.W.kitx_bool I.kIn True.intro e (λz=>nomatch z) h
 | int i=>obtain ⟨t,q⟩:=(show ∃ t,u=Value.int i t from rx); cases q; exact PySem.W.kia_one PySem.W.kitx_int I.kIn True.intro e (λz=>nomatch z) h
 | str y=>obtain ⟨t,q⟩:=(show ∃ t,u=Value.str y t from rx); cases q; exact PySem.W.kia_one PySem.W.kitx_str I.kIn True.intro e (λz=>nomatch z) h
 | flt y=>obtain ⟨t,q⟩:=(show ∃ t,u=Value.float y t from rx); cases q; exact PySem.W.kia_one PySem.W.kitx_float I.kIn True.intro e (λz=>nomatch z) h
 | @lst a xs ea=>
  cases (show u=Value.ref a from rx)
  obtain ⟨_,_,n,_,h1⟩:=(show yh X.prog X.w H s.heap a (.lst xs) from I.hok a _ ea)
  exact PySem.W.kia_one PySem.W.kitx_list I.kIn ⟨_,h1,rfl⟩ e (λz=>nomatch z) h
 | @frz a ob xs ea=>
  cases (show u=Value.ref a from rx)
  obtain ⟨_,_,_,n,_,h1⟩:=(show yh X.prog X.w H s.heap a (.frz ob (.lst xs)) from I.hok a _ ea)
  exact PySem.W.kia_one PySem.W.kitx_list I.kIn ⟨_,h1,rfl⟩ e (λz=>nomatch z) h
 | @tup a xs ea=>
  cases (show u=Value.ref a from rx)
  obtain ⟨_,_,_,p⟩:=(show yh X.prog X.w H s.heap a (.tup xs) from I.hok a _ ea)
  obtain ⟨o,h1,h2,_⟩:=p
  exact PySem.W.kia_one PySem.W.kitx_tuple I.kIn ⟨o,h1,h2⟩ e (λz=>nomatch z) h
 | @dK a kvs ea=>
  cases (show u=Value.ref a from rx)
  obtain ⟨_,_,vs,_,p⟩:=(show yh X.prog X.w H s.heap a (.dK kvs) from I.hok a _ ea)
  obtain ⟨o,es,ep,h1,h2,_⟩:=p
  exact PySem.W.kia_one PySem.W.kitx_dict I.kIn ⟨o,h1,h2.1⟩ e (λz=>nomatch z) h
 | @dT a kvs ea=>
  cases (show u=Value.ref a from rx)
  obtain ⟨_,_,xs,_,o,es,ep,h1,h2,_⟩:=(show yh X.prog X.w H s.heap a (.dT kvs) from I.hok a _ ea)
  exact PySem.W.kia_one PySem.W.kitx_dict I.kIn ⟨o,h1,h2.1⟩ e (λz=>nomatch z) h
 | @ins a C dx fs ea cl ha hn htk hm=>
  cases (show u=Value.ref a from rx)
  obtain ⟨mA,O,_⟩:=gH I.hok ea
  obtain ⟨od,J,_⟩:=O.look
  exact PySem.W.kia_one (PySem.W.kitx_own (cl.get _) cl.hd ha hn htk hm) I.kIn J e (λz=>nomatch z) h
end
end L2
namespace L2
open PySem PySem.Spec PyProof.Rows
structure zh (k:Nat) (A:Around):Prop where
 hd:A.handled=none
 dp:A.depth + 3 * k + 5 < recursionLimit
 un:A.units + 16 * k + 200 < cLine
theorem zh.mono {j k:Nat} {A:Around} (r:zh k A) (h:j<=k):zh j A:=⟨r.hd,by have:=r.dp; omega,by have:=r.un; omega⟩
theorem zh.deeper {k:Nat} {A:Around} (r:zh (k + 1) A) (env:Env):zh k (A.deeper env):=
 ⟨r.hd,by have:=r.dp; show A.depth + 1 + 3 * k + 5 < _; omega,by have:=r.un; show A.units + 3 + 16 * k + 200 < _; omega⟩
theorem zh.in1 {k:Nat} {A:Around} (r:zh (k + 1) A):zh k A.in1:=
 ⟨r.hd,by have:=r.dp; show A.depth + 3 * k + 5 < _; omega,by have:=r.un; show A.units + 1 + 16 * k + 200 < _; omega⟩
theorem Uf {A:Around} {C:Addr} {us:List Value} {kw:List (Str × Value)}:(A.under (.builtin "type.__call__" ⟨.ref C :: us,kw⟩)).depth=A.depth + 1:=by
 first | rfl | simp [Around.under,Code.weight,Code.isCreation,Code.isGuard,Code.isCaller,Code.frames,Code.isFrame,guardIds]
theorem Ug {A:Around} {C:Addr} {us:List Value} {kw:List (Str × Value)}:(A.under (.builtin "type.__call__" ⟨.ref C :: us,kw⟩)).units=A.units + 1:=by
 first | rfl | simp [Around.under,Code.cUnits,Code.frames,Code.isFrame]
theorem zh.make {k:Nat} {A:Around} (r:zh (k + 1) A) (C:Addr) (us:List Value) (kw:List (Str × Value)):zh k (A.under (.builtin "type.__call__" ⟨.ref C :: us,kw⟩)):=
 ⟨r.hd,by have:=r.dp; rw [Uf]; omega,by have:=r.un; rw [Ug]; omega⟩
theorem zh.depth {k:Nat} {A:Around} (r:zh k A):A.depth < recursionLimit:=by have:=r.dp; omega
theorem zh.units {k:Nat} {A:Around} (r:zh k A):A.units + 64 < cLine:=by have:=r.un; omega
noncomputable def ub:TA:=λ_ H Q=>Q [] H
noncomputable def jw (ta:TE) (tr:TA):TA:=λσ H Q=>ta σ H λx H1=>tr σ H1 λxs H2=>Q (x :: xs) H2
section
variable {X:Cx} {e:Expr} {es:List Expr} {te:TE} {t:TA} {pos:Pos}
theorem zG:PA X [] ub:=λ_ _ _ _ H Q I h=>Calls.spliced_nil ⟨[],H,I,.nil,h⟩
theorem zC (ha:PE X e te) (hr:PA X es t) (hs:starEach (e :: es) X.env=(false,eval e X.env) :: starEach es X.env:=by rfl):PA X (e :: es) (jw te t):=by
 intro pos pins s σ H Q I h
 rw [hs]
 show wpAny _ _ (spliced ((false,eval e X.env) :: backTo pos (starEach es X.env))) _ _ s
 refine Calls.spliced_cons (za (ha pins s σ H _ I h) λu s1 ⟨x,H1,I1,r1,q1⟩=>?_)
 exact za (hr pos pins s1 σ H1 _ I1 q1) λus s2 ⟨xs,H2,I2,r2,q2⟩=>⟨x :: xs,H2,I2,.cons r1 r2,q2⟩
noncomputable def kz (t:TA):TE:=λσ H Q=>t σ H λxs H1=>xs.length<=sizeLine/\∀ p,H1 p=none->Q (.ref p) (upd H1 p (.tup xs))
noncomputable def k6 (t:TA):TE:=λσ H Q=>t σ H λxs H1=>xs.length<=sizeLine/\∀ p,H1 p=none->Q (.ref p) (upd H1 p (.lst xs))
theorem wR {x1} (h:PA X es t):PE X (.Tuple es x1 pos) (kz t):=by
 intro pins s σ H Q I hq
 refine wpAny_Tuple_spliced (za (h pos pins s σ H _ I hq) λus s1 ⟨xs,H1,I1,r,z,q⟩=>⟨by rw [<- r.length]; exact z,?_⟩)
 have hf:H1 s1.heap.objs.size=none:=I1.hok.fresh (Nat.le_refl _)
 refine ⟨.ref s1.heap.objs.size,upd H1 s1.heap.objs.size (.tup xs),I1.laid (t':=s1.toks) (λb u e=>Heap.get?_push_of_some _ e) (Nat.le_refl _) ?_,rfl,q _ hf⟩
 exact ⟨z,us,r,⟨_,Heap.get?_push_size _ rfl,rfl,_,rfl⟩⟩
theorem yq (h:PA X es t):PE X (.List es pos) (k6 t):=by
 intro pins s σ H Q I hq
 refine wpAny_List_spliced (za (h pos pins s σ H _ I hq) λus s1 ⟨xs,H1,I1,r,z,q⟩=>⟨by rw [<- r.length]; exact z,?_⟩)
 have hf:H1 s1.heap.objs.size=none:=I1.hok.fresh (Nat.le_refl _)
 refine ⟨.ref s1.heap.objs.size,upd H1 s1.heap.objs.size (.lst xs),I1.laid (t':=s1.toks) (λb u e=>Heap.get?_push_of_some _ e) (Nat.le_refl _) ?_,rfl,q _ hf⟩
 exact ⟨z,us,0,r,Heap.get?_push_size _ rfl⟩
end
noncomputable abbrev Sp:=List V->Hp->VK->XK->Prop
noncomputable abbrev xk:=List Env->Hp->Shared->XK->Value->Shared->Prop
structure xO (P:Program) (w:World) (K:PySem.W.Frag) (mg:Str->Option Value) (base:Heap) (A:Around) (outer:List Env) (s:Shared) (H:Hp):Prop where
 frames:A.frames=some outer
 mod:Mod K mg base
 bs:∀ b o,base.get? b=some o->s.heap.get? b=some o/\H b=none
 bsz:base.objs.size<=s.heap.objs.size
 funs:s.heap.FunFrames base outer
 frf:∀ b∈xD outer,H b=none
 hok:yZ P w H s.heap
 bare:AllBare s.gens
noncomputable def CE (outer:List Env) (P:Program) (w:World) (H:Hp) (s:Shared) (Q:VK) (u:Value) (s':Shared):Prop:=
 ∃ v H',s'.os=s.os/\AllBare s'.gens/\Un (xD outer) [] H H' s.heap s'.heap/\yZ P w H' s'.heap/\zQ v u/\Q v H'
noncomputable def CR (CX:xk) (outer:List Env) (P:Program) (w:World) (H:Hp) (s:Shared) (Q:VK) (E:XK) (r:Result) (s':Shared):Prop:=
 match r with
 | .ok (.ret u)=>CE outer P w H s Q u s'
 | .ok _=>False
 | .error e=>CX outer H s E e s'
structure zL (P:Program) (w:World) (K:PySem.W.Frag) (mg:Str->Option Value) (base:Heap) (CX:xk) (k:Nat) (f:Addr) (fd:FuncData) (ps:List Str) (sp:Sp):Prop where
 len:∀ vs H Q E,sp vs H Q E->vs.length=ps.length
 run:∀ (A:Around) (outer:List Env) (s:Shared) (H:Hp) (args:Args) (us:List Value) (vs:List V) (Q:VK) (E:XK),zh k A->xO P w K mg base A outer s H->BindsTo s fd args (ps.zip us)->zM vs us->sp vs H Q E->
  codeAny (model P w) A (.call (.ref f) args) (CR CX outer P w H s Q E) s
theorem zL.mono {P:Program} {w:World} {K:PySem.W.Frag} {mg:Str->Option Value} {base:Heap} {CX:xk} {j k:Nat} {f:Addr} {fd:FuncData} {ps:List Str} {sp:Sp} (F:zL P w K mg base CX j f fd ps sp) (h:j<=k) :
  zL P w K mg base CX k f fd ps sp:=⟨F.len,λA outer s H args us vs Q E hr=>F.run A outer s H args us vs Q E (hr.mono h)⟩
theorem zL.imp {P:Program} {w:World} {K:PySem.W.Frag} {mg:Str->Option Value} {base:Heap} {CX:xk} {k:Nat} {f:Addr} {fd:FuncData} {ps:List Str} {sp sp':Sp} (F:zL P w K mg base CX k f fd ps sp)
  (h:∀ vs H Q E,sp' vs H Q E->sp vs H Q E):zL P w K mg base CX k f fd ps sp':=
 ⟨λvs H Q E q=>F.len vs H Q E (h _ _ _ _ q),λA outer s H args us vs Q E hr he hb hv hs=>F.run A outer s H args us vs Q E hr he hb hv (h _ _ _ _ hs)⟩
theorem xO.make {P:Program} {w:World} {K:PySem.W.Frag} {mg:Str->Option Value} {base:Heap} {A:Around} {outer:List Env} {s:Shared} {H:Hp} (e:xO P w K mg base A outer s H) (C:Addr) (us:List Value) (kw:List (Str × Value)) :
  xO P w K mg base (A.under (.builtin "type.__call__" ⟨.ref C :: us,kw⟩)) outer s H:=⟨by first | exact e.frames | (simpa [Around.under,Code.envs,Code.isFrame,pushEnvs] using e.frames),e.mod,e.bs,e.bsz,e.funs,e.frf,e.hok,e.bare⟩
theorem xO.in1 {P:Program} {w:World} {K:PySem.W.Frag} {mg:Str->Option Value} {base:Heap} {A:Around} {outer:List Env} {s:Shared} {H:Hp} (e:xO P w K mg base A outer s H) :
  xO P w K mg base A.in1 outer s H:=⟨e.frames,e.mod,e.bs,e.bsz,e.funs,e.frf,e.hok,e.bare⟩
section
variable {X:Cx} {pins:List (Addr × Obj)} {σ:St} {H:Hp} {s s':Shared}
theorem zF.env0 (I:zF X pins σ H s):xO X.prog X.w X.K X.mg X.base X.A X.stack s H:=
 ⟨I.ok.frames,I.ok.mod,I.bs,Nat.le_trans I.ok.bsz I.sz,I.stack,I.stkFree,I.hok,I.bare⟩
theorem zF.after {Q:VK} {u:Value} (I:zF X pins σ H s) (h:CE X.stack X.prog X.w H s Q u s'):EP X pins σ Q u s':=by
 obtain ⟨v,H',os,bare,un,hok,r,q⟩:=h
 obtain ⟨hh,g,d,t,os'⟩:=s'
 obtain rfl:os'=s.os:=os
 exact ⟨v,H',I.call (h':=hh) (g':=g) (d':=d) (t':=t) (ch:=[]) un hok bare (λb z=>absurd z (by simp)),r,q⟩
end
noncomputable def gI (sp:Sp) (dvs:List V) (E:XK) (t:TA):TE:=λσ H Q=>t σ H λvs H1=>sp (vs++dvs) H1 Q E
noncomputable def XU (C:Addr) (m:Str) (sp:Sp) (dvs:List V) (E:XK) (ta:TE) (t:TA):TE:=λσ H Q=>ta σ H λx H1=>∃ a dx fs,x=.ref a/\H1 a=some (.ins C dx fs)/\fs.lookup m=none∧
 t σ H1 λvs H2=>sp (x :: (vs++dvs)) H2 Q E
noncomputable def XV (C:Addr) (sp:Sp) (dvs:List V) (E:XK) (t:TA):TE:=λσ H Q=>t σ H λvs H1=>∀ x dx,H1 x=none->H1 dx=none->dx≠x->
 sp (.ref x :: (vs++dvs)) (upd (upd H1 dx (.own x)) x (.ins C dx [])) (λv H2=>v=.non/\Q (.ref x) H2) E
noncomputable def xL (K:PySem.W.Frag) (fd:FuncData) (ps:List Str) (ds:List Value):Prop:=
 ∀ (s:Shared) (us:List Value),K.In s.heap->(us++ds).length=ps.length->BindsTo s fd ⟨us,[]⟩ (ps.zip (us++ds))
theorem xL.all {K:PySem.W.Frag} {fd:FuncData} {ps:List Str} (h:∀ us:List Value,us.length=ps.length->bindArgs fd ⟨us,[]⟩=pure (ps.zip us)):xL K fd ps []:=λs us _ hl=>by
 rw [List.append_nil] at hl |-
 exact .of_eq (h us hl)
noncomputable def jL (CX:xk) (X:Cx) (E:XK):Prop:=∀ (pins:List (Addr × Obj)) (σ:St) (H:Hp) (s:Shared) (e:Value) (s':Shared),zF X pins σ H s->CX X.stack H s E e s'->X.xe e s'
section
variable {X:Cx} {CX:xk} {k:Nat} {f C:Addr} {fd:FuncData} {ps:List Str} {sp:Sp} {dvs:List V} {ds:List Value} {E:XK} {x m:Str} {p pos apos:Pos} {e o:Expr} {es:List Expr} {ta:TE} {t:TA}
theorem XW {pins:List (Addr × Obj)} {σ:St} {H:Hp} {s:Shared} {Q:VK} {us:List Value} {vs:List V} (F:zL X.prog X.w X.K X.mg X.base CX k f fd ps sp) (hr:zh k X.A) (hb:xL X.K fd ps ds) (hd:zM dvs ds) (hx:jL CX X E)
  (I:zF X pins σ H s) (r:zM vs us) (h:sp (vs++dvs) H Q E):wpAny (model X.prog X.w) X.A (call (.ref f) us) (EP X pins σ Q) X.xe s:=by
 have r2:zM (vs++dvs) (us++ds):=r.append hd
 have hl:(us++ds).length=ps.length:=by rw [<- r2.length]; exact F.len _ _ _ _ h
 refine wpAny_call (codeAny_mono (F.run X.A X.stack s H ⟨us,[]⟩ (us++ds) (vs++dvs) Q E hr I.env0 (hb s us I.kIn hl) r2 h) λr s' hq=>?_)
 cases r with
 | error e=>exact hx pins σ H s e s' I hq
 | ok fl=>
  cases fl with
  | ret u=>exact I.after hq
  | next=>exact False.elim hq
  | brk=>exact False.elim hq
  | cont=>exact False.elim hq
theorem XX (F:zL X.prog X.w X.K X.mg X.base CX k f fd ps sp) (hr:zh k X.A) (hg:Gl X x) (hm:X.mg x=some (.ref f)) (hk:PySem.W.keepIn X.K (.ref f)=true) (hb:xL X.K fd ps ds) (hd:zM dvs ds) (hx:jL CX X E)
  (ha:PA X (e :: es) t) (hdb:(x == ("__debug__" : Str))=false:=by decide) (he:starEach (e :: es) X.env=(false,eval e X.env) :: starEach es X.env:=by rfl) (hpl:(backTo pos (starEach es X.env)).any (·.1)=false:=by rfl) :
  PE X (.Call (.Name x p) (e :: es) [] pos) (gI sp dvs E t):=by
 intro pins s σ H Q I h
 refine wpAny_Call_Name_kw (uO I hg hm ?_ hdb)
 refine PySem.W.callWith_K (h₀:=X.base) I.ok.mod.kin hk (za (ha pos pins s σ H _ I h) λus s1 ⟨vs,H1,I1,r,q⟩=>⟨I1.kIn,?_⟩) he hpl
 exact XW F hr hb hd hx I1 r q
theorem Uh {pl:Sem Bool} (he:PE X o ta) (c:vP X.K C) (hm:vd X.K C m f) (F:zL X.prog X.w X.K X.mg X.base CX k f fd ps sp) (hr:zh k X.A) (hb:xL X.K fd ps ds) (hd:zM dvs ds) (hx:jL CX X E)
  (ht:eval (.Call (.Attribute o m apos) [] [] pos) X.env=(do
   let ov <- eval o X.env
   standAt apos.atName
   let (f,first) <- holding [ov] (getMethod ov m pl)
   callWith pos f first (backTo pos (starEach [] X.env)) (backToKw pos (keywordEach [] X.env))):=by rfl) :
  PE X (.Call (.Attribute o m apos) [] [] pos) (XU C m sp dvs E ta ub):=by
 intro pins s σ H Q I h
 refine PySem.W.methodCall_KW (pl:=pl) (za (he pins s σ H _ I h) λu s1 ⟨x,H1,I1,rx,a,dx,fs,ex,ea,l,q⟩=>?_) ht
 subst ex
 obtain rfl:u=Value.ref a:=rx
 refine Ud I1 ea c hm l ?_
 exact PySem.W.callWith_K0 (first:=[.ref a]) I1.kIn hm.kp (XW (us:=[.ref a]) (vs:=[.ref a]) F hr hb hd hx I1 (.cons rfl .nil) q)
structure Mk (K:PySem.W.Frag) (C f:Addr):Prop where
 makes:PySem.W.makesIn K C=true
 init:PySem.W.findIn K (.ref C) "__init__" = some (some (.ref f))
 fn:PySem.W.isFn K (.ref f)=true
 kp:PySem.W.keepIn K (.ref C)=true
theorem Ui {pins:List (Addr × Obj)} {σ:St} {H:Hp} {s:Shared} {Q:VK} {us:List Value} {vs:List V} (M:Mk X.K C f) (F:zL X.prog X.w X.K X.mg X.base CX k f fd ps sp) (hr:zh (k + 1) X.A) (hb:xL X.K fd ps ds) (hd:zM dvs ds)
  (hx:jL CX X E) (I:zF X pins σ H s) (r:zM vs us)
  (h:∀ x dx,H x=none->H dx=none->dx≠x->sp (.ref x :: (vs++dvs)) (upd (upd H dx (.own x)) x (.ins C dx [])) (λv H2=>v=.non/\Q (.ref x) H2) E) :
  wpAny (model X.prog X.w) X.A (call (.ref C) us) (EP X pins σ Q) X.xe s:=by
 have hq:=h (s.heap.objs.size + 1) s.heap.objs.size (I.hok.fresh (Nat.le_succ _)) (I.hok.fresh (Nat.le_refl _)) (Nat.ne_of_lt (Nat.lt_succ_self _))
 have I2:=zF.made (C:=C) I
 have r2:zM (V.ref (s.heap.objs.size + 1) :: (vs++dvs)) (Value.ref (s.heap.objs.size + 1) :: (us++ds)):=.cons rfl (r.append hd)
 have hl:(Value.ref (s.heap.objs.size + 1) :: us++ds).length=ps.length:=by
  have e:=r2.length
  rw [F.len _ _ _ _ hq] at e
  exact e.symm
 refine wpAny_call (Ub (f:=f) I.kIn M.makes M.init (beq_iff_eq.mp M.fn) (codeAny_mono (F.run _ X.stack _ _ ⟨Value.ref (s.heap.objs.size + 1) :: us,[]⟩ (Value.ref (s.heap.objs.size + 1) :: (us++ds)) _ _ E (hr.make C us [])
  (I2.env0.make C us []) (hb _ (Value.ref (s.heap.objs.size + 1) :: us) I2.kIn hl) r2 hq) λr s' hq'=>?_))
 cases r with
 | error e=>exact hx pins σ _ _ e s' I2 hq'
 | ok fl=>
  cases fl with
  | ret u=>
   obtain ⟨v,H',I3,rv,ev,q3⟩:=I2.after hq'
   subst ev
   exact ⟨rv,⟨V.ref (s.heap.objs.size + 1),H',I3,rfl,q3⟩⟩
  | next=>exact False.elim hq'
  | brk=>exact False.elim hq'
  | cont=>exact False.elim hq'
theorem Uj (M:Mk X.K C f) (F:zL X.prog X.w X.K X.mg X.base CX k f fd ps sp) (hr:zh (k + 1) X.A) (hg:Gl X x) (hm:X.mg x=some (.ref C)) (hb:xL X.K fd ps ds) (hd:zM dvs ds) (hx:jL CX X E)
  (ha:PA X (e :: es) t) (hdb:(x == ("__debug__" : Str))=false:=by decide) (he:starEach (e :: es) X.env=(false,eval e X.env) :: starEach es X.env:=by rfl) (hpl:(backTo pos (starEach es X.env)).any (·.1)=false:=by rfl) :
  PE X (.Call (.Name x p) (e :: es) [] pos) (XV C sp dvs E t):=by
 intro pins s σ H Q I h
 refine wpAny_Call_Name_kw (uO I hg hm ?_ hdb)
 refine PySem.W.callWith_K (h₀:=X.base) I.ok.mod.kin M.kp (za (ha pos pins s σ H _ I h) λus s1 ⟨vs,H1,I1,r,q⟩=>⟨I1.kIn,?_⟩) he hpl
 exact Ui M F hr hb hd hx I1 r q
end
section
variable {X:Cx} {CX:xk} {k:Nat} {f C:Addr} {fd:FuncData} {ps ks:List Str} {sp:Sp} {E:XK} {x m:Str} {p pos apos kpos:Pos} {e o:Expr} {es:List Expr} {kws:List Keyword} {te ta:TE} {t tk:TA} {nm:Option Str}
variable {g:List Value->List Value->List Value} {gV:List V->List V->List V}
end
structure zw (N P:List Str) (sc:Scope):Prop where
 kind:sc.kind=.function
 co:sc.isCoroutine=false
 gen:sc.isGenerator=false
 nd:N.Nodup
 pre:N.take P.length=P
 par:∀ x∈P,sc.names.lookup x=some .local\/sc.names.lookup x=some .cell
 nofree:∀ y∈sc.names,y.2≠.free
theorem zw.a {N P:List Str} {s:Scope} (a:s.kind=.function:=by rfl) (b:s.isCoroutine=false:=by rfl) (c:s.isGenerator=false:=by rfl) (d:N.Nodup:=by decide +kernel) (e:N.take P.length=P:=by rfl) (f:∀ x∈P,s.names.lookup x=some .local\/s.names.lookup x=some .cell:=by decide +kernel) (g:∀ y∈s.names,y.2≠.free:=by decide +kernel):zw N P s:=⟨a,b,c,d,e,f,g⟩
theorem XY {kindOf:Str->Option NameKind} {x:Str}:∀ {binds:List (Str × Value)} {m:Str->Option Value},(∀ v,(x,v)∉binds)->bindL kindOf binds m x=m x
 | [],_,_=>rfl
 | (n,v) :: r,m,h=>by
  unfold bindL
  rw [XY λw hw=>h w (List.mem_cons_of_mem _ hw)]
  split
  ·have:x≠n:=by rintro rfl; exact h v List.mem_cons_self
   simp [this]
  ·rfl
theorem XZ {kindOf:Str->Option NameKind} {x:Str}:∀ {binds:List (Str × Value)} {m:Str->Option Value},(∀ v,(x,v)∉binds)->bindC kindOf binds m x=m x
 | [],_,_=>rfl
 | (n,v) :: r,m,h=>by
  unfold bindC
  rw [XZ λw hw=>h w (List.mem_cons_of_mem _ hw)]
  split
  ·rfl
  ·have:x≠n:=by rintro rfl; exact h v List.mem_cons_self
   simp [this]
theorem Xa {kindOf:Str->Option NameKind} {x:Str} {v:Value}:∀ {P:List Str} {vs:List Value} {i:Nat} {m:Str->Option Value},P.Nodup->P[i]? = some x->vs[i]? = some v->kindOf x=some .local->
  bindL kindOf (P.zip vs) m x=some v
 | [],_,_,_,_,h,_,_=>by simp at h
 | _ :: _,[],_,_,_,_,h,_=>by simp at h
 | p :: P,w :: vs,0,m,nd,h1,h2,hk=>by
  simp at h1 h2; subst h1; subst h2
  show bindL kindOf ((p,w) :: P.zip vs) m p=_
  unfold bindL
  rw [XY λv hv=>(List.nodup_cons.mp nd).1 (List.of_mem_zip hv).1,if_pos hk]
  simp
 | p :: P,w :: vs,i + 1,m,nd,h1,h2,hk=>by
  show bindL kindOf ((p,w) :: P.zip vs) m x=_
  unfold bindL
  exact Xa (i:=i) (List.nodup_cons.mp nd).2 (by simpa using h1) (by simpa using h2) hk
theorem Xb {kindOf:Str->Option NameKind} {x:Str} {v:Value}:∀ {P:List Str} {vs:List Value} {i:Nat} {m:Str->Option Value},P.Nodup->P[i]? = some x->vs[i]? = some v->kindOf x≠some .local->
  bindC kindOf (P.zip vs) m x=some v
 | [],_,_,_,_,h,_,_=>by simp at h
 | _ :: _,[],_,_,_,_,h,_=>by simp at h
 | p :: P,w :: vs,0,m,nd,h1,h2,hk=>by
  simp at h1 h2; subst h1; subst h2
  show bindC kindOf ((p,w) :: P.zip vs) m p=_
  unfold bindC
  rw [XZ λv hv=>(List.nodup_cons.mp nd).1 (List.of_mem_zip hv).1,if_neg hk]
  simp
 | p :: P,w :: vs,i + 1,m,nd,h1,h2,hk=>by
  show bindC kindOf ((p,w) :: P.zip vs) m x=_
  unfold bindC
  exact Xb (i:=i) (List.nodup_cons.mp nd).2 (by simpa using h1) (by simpa using h2) hk
noncomputable def vQ (N:List Str) (vs:List V):St:=vs.map some++List.replicate (N.length - vs.length) none
noncomputable def zJ (CX:xk) (P:Program) (w:World) (K:PySem.W.Frag) (mg:Str->Option Value) (base:Heap) (N:List Str) (qual:Str) (scope:Scope) (f:Addr) (cd:Value) (A:Around) (outer:List Env) (s:Shared) (H:Hp) (E:XK):Cx where
 prog:=P
 w:=w
 K:=K
 mg:=mg
 base:=base
 A:=A.deeper (envOfC qual scope s.heap.objs.size f cd)
 N:=N
 s₀:=s
 H₀:=H
 env:=envOfC qual scope s.heap.objs.size f cd
 outer:=outer
 stack:=envOfC qual scope s.heap.objs.size f cd :: outer
 ex:=[]
 calm:=true
 fn:=λ_=>true
 pn:=[]
 xe:=λe s'=>wpAny (model P w) (A.deeper (envOfC qual scope s.heap.objs.size f cd)) (leaving (envOfC qual scope s.heap.objs.size f cd) e) (λ_ s''=>CX outer H s E e s'') (λe' s''=>CX outer H s E e' s'') s'
theorem Xc {sc:Scope} {n:Nat} {x:Str} (h:sc.names.lookup x=some .cell):∃ c,(cellsFrom n sc.names []).lookup x=some c:=by
 have q:=PySem.W.cellsFrom_some sc.names n [] (.inl h)
 exact Option.isSome_iff_exists.mp q
theorem Uk {CX:xk} {P:Program} {w:World} {K:PySem.W.Frag} {mg:Str->Option Value} {base:Heap} {N ps:List Str} {qual:Str} {scope:Scope} {f:Addr} {cd:Value} {A:Around} {outer:List Env} {s s1:Shared} {H:Hp} {E:XK} {us:List Value} {vs:List V}
  (S:zw N ps scope) (hd:A.handled=none) (e0:xO P w K mg base A outer s H) (hl:vs.length=ps.length) (r:zM vs us)
  (x:InCallC s s.heap.objs.size (bindL (envOfC qual scope s.heap.objs.size f cd).kindOf (ps.zip us) λ_=>none) (cellsFrom (s.heap.objs.size + 1) scope.names []) (bindC (envOfC qual scope s.heap.objs.size f cd).kindOf (ps.zip us) λ_=>none) s1) :
  zF (zJ CX P w K mg base N qual scope f cd A outer s H E) [] (vQ N vs) H s1:=by
 have hpl:ps.length<=N.length:=by have:=congrArg List.length S.pre; rw [List.length_take] at this; omega
 obtain ⟨h1,tk,rfl,hk⟩:=x.done
 have noA:∀ b:Addr,b∉(zJ CX P w K mg base N qual scope f cd A outer s H E).ex:=λb z=>absurd (show b∈([]:List Addr) from z) (by simp)
 refine ⟨⟨e0.mod,S.kind,rfl,rfl,Nat.le_refl _,λy z c h1 h2=>?_,λy hy=>?_,λy c _ h=>?_,λ_=>hd,Around.frames_deeper e0.frames,.inr ⟨rfl,rfl⟩,λb z=>absurd z (noA b),e0.bs,e0.bsz,λb _ _=>noA b,λb z=>absurd z (noA b),e0.funs,e0.frf⟩,
  rfl,e0.bare,Un.kept hk,⟨_,x.toInCall.ns,λi y v h1 h2 h3=>?_⟩,λy c h=>⟨_,x.cell y c h⟩,e0.hok.fresh (Nat.le_refl _),λy c h=>?_,λp hp=>absurd (show p∈([]:List (Addr × Obj)) from hp) (by simp),e0.hok.kept hk,?_⟩
 ·exact name_of_addr x.apart (PySem.mem_of_lookup h1) (PySem.mem_of_lookup h2)
 ·have hy:scope.names.lookup y=some .cell\/scope.names.lookup y=some .free:=hy
  rcases hy with hy | hy
  ·exact Xc hy
  ·exact absurd rfl (S.nofree _ (PySem.mem_of_lookup hy))
 ·exact Nat.le_of_lt (x.above y c (PySem.mem_of_lookup h))
 ·have hi:i < vs.length:=by
   unfold vQ at h2
   by_cases hi:i < vs.length
   ·exact hi
   ·rw [List.getElem?_append_right (by simpa using hi)] at h2
    rw [List.getElem?_replicate] at h2
    split at h2 <;> cases h2
  have ha:vs[i]? = some v:=by
   unfold vQ at h2
   rw [List.getElem?_append_left (by simpa using hi),List.getElem?_map] at h2
   cases e:vs[i]? with
   | none=>rw [e] at h2; cases h2
   | some a=>rw [e] at h2; cases h2; rfl
  obtain ⟨u,hu,rv⟩:=r.get ha
  have hp:ps[i]? = some y:=by
   rw [<- S.pre,List.getElem?_take_of_lt (by omega)]; exact h1
  have ndP:ps.Nodup:=by rw [<- S.pre]; exact S.nd.sublist (List.take_sublist _ _)
  refine ⟨u,rv,?_⟩
  rcases S.par y (List.mem_of_getElem? hp) with k | k
  ·exact .inl ⟨k,Xa ndP hp hu k⟩
  ·obtain ⟨c,e⟩:=Xc (n:=s.heap.objs.size + 1) k
   refine .inr ⟨.inl k,c,e,?_⟩
   have q:=x.cell y c e
   rw [Xb ndP hp hu (by show scope.names.lookup y≠_; rw [k]; decide)] at q
   exact q
 ·exact e0.hok.fresh (Nat.le_of_lt (x.above y c (PySem.mem_of_lookup h)))
 ·unfold vQ
  show _=N.length
  rw [List.length_append,List.length_map,List.length_replicate]
  omega
theorem k7 {CX:xk} {P:Program} {w:World} {K:PySem.W.Frag} {mg:Str->Option Value} {base:Heap} {k:Nat} {f:Addr} {name qual:Str} {params:Arguments} {body:List Stmt} {scope:Scope} {dV kV doc pm cdv ct oc:Value} {an od:Option Addr}
  {osl:Array (Option Value)} {N ps:List Str} {sp:Sp} (lk:K.lookup f=some ⟨oc,od,.func (PySem.W.fnOf name qual params body scope dV kV doc pm an cdv ct),osl⟩) (hcd:PySem.W.codeIn K cdv qual=true) (S:zw N ps scope)
  (len:∀ vs H Q E,sp vs H Q E->vs.length=ps.length)
  (hbody:∀ (A:Around) (outer:List Env) (s:Shared) (H:Hp) (vs:List V) (Q:VK) (E:XK),zh k (A.deeper (envOfC qual scope s.heap.objs.size f cdv))->sp vs H Q E->
   ∃ t,yb (zJ CX P w K mg base N qual scope f cdv A outer s H E) body t/\t { nx:=λ_ H'=>Q .non H',rt:=Q } (vQ N vs) H) :
  zL P w K mg base CX (k + 1) f (PySem.W.fnOf name qual params body scope dV kV doc pm an cdv ct) ps sp:=by
 refine ⟨len,λA outer s H args us vs Q E hr e0 hb r hsp=>?_⟩
 have hl:=len _ _ _ _ hsp
 have KX:K.In s.heap:=e0.mod.kin.keeps λb o e=>(e0.bs b o e).1
 have lim:s.heap.NoLimit:=e0.mod.nolimit.keeps λb o e=>(e0.bs b o e).1
 have hkind:∀ y∈ps.zip us,scope.names.lookup y.1=some .local\/(scope.names.lookup y.1=some .cell/\((cellsFrom (s.heap.objs.size + 1) scope.names []).lookup y.1).isSome=true):=λ⟨n,v⟩ hy=>by
  rcases S.par n (List.of_mem_zip hy).1 with q | q
  ·exact .inl q
  ·exact .inr ⟨q,PySem.W.cellsFrom_some _ _ _ (.inl q)⟩
 refine codeAny_call_function hr.depth (KX _ _ lk) rfl S.co S.gen rfl (PySem.W.codeRec_of KX hcd) (hb _ _ _ _ ?_)
 refine wpAny_newFunctionEnv_cells S.kind hkind λenv he s1 x=>?_
 subst he
 refine ⟨lim.keeps x.toInCall.keep,codeAny_func ?_⟩
 obtain ⟨t,ht,hq⟩:=hbody A outer s H vs Q E (hr.deeper _) hsp
 have I:zF (zJ CX P w K mg base N qual scope f cdv A outer s H E) [] (vQ N vs) H s1:=Uk S hr.hd e0 hl r x
 refine wpAny_mono (ht [] s1 (vQ N vs) H _ I hq) (λfl s' hs=>?_) λe s' hs=>hs
 have fin:∀ {σ':St} {H':Hp} {v:V} {u:Value},zF (zJ CX P w K mg base N qual scope f cdv A outer s H E) [] σ' H' s'->zQ v u->Q v H'->CE outer P w H s Q u s':=
  λ{σ' H' v u} J rv q=>⟨v,H',J.os,J.bare,J.base,J.hok,rv,q⟩
 cases fl with
 | ret u=>
  obtain ⟨v,σ',H',J,rv,q⟩:=hs
  exact fin J rv q
 | next=>
  obtain ⟨σ',H',J,q⟩:=hs
  exact fin (v:=V.non) (u:=Value.none) J rfl q
 | brk=>
  obtain ⟨_,_,_,q⟩:=hs
  exact False.elim q
 | cont=>
  obtain ⟨_,_,_,q⟩:=hs
  exact False.elim q
end L2
namespace L2
open PySem PySem.Spec PyProof.Rows
section
variable {X:Cx} {x:Str} {p pos:Pos} {e:Expr} {es:List Expr} {t:TA} {id T:String} {r:List V->Hp->VK->Prop}
noncomputable def Xd (r:List V->Hp->VK->Prop) (t:TA):TE:=λσ H Q=>t σ H λvs H1=>r vs H1 Q
theorem zn (hc:yw X (.builtin id) r) (hg:Gl X x) (hm:X.mg x=none) (hv:bootBuiltins x=some (.builtin id)) (ha:PA X (e :: es) t) (hn:x≠"__name__":=by decide) (hdb:(x == ("__debug__" : Str))=false:=by decide)
  (he:starEach (e :: es) X.env=(false,eval e X.env) :: starEach es X.env:=by rfl) (hpl:(backTo pos (starEach es X.env)).any (·.1)=false:=by rfl):PE X (.Call (.Name x p) (e :: es) [] pos) (Xd r t):=by
 intro pins s σ H Q I h
 refine wpAny_Call_Name_kw (uP I hg hm hv ?_ hn hdb)
 exact PyProof.Rows.callWith_builtin1 (za (ha pos pins s σ H _ I h) λus s1 ⟨vs,H1,I1,r1,q1⟩=>hc pins s1 σ H1 vs us Q I1 r1 q1) he hpl
theorem wc (hc:yw X (.type T) r) (hg:Gl X x) (hm:X.mg x=none) (hv:bootBuiltins x=some (.type T)) (ha:PA X (e :: es) t) (hn:x≠"__name__":=by decide) (hdb:(x == ("__debug__" : Str))=false:=by decide)
  (he:starEach (e :: es) X.env=(false,eval e X.env) :: starEach es X.env:=by rfl) (hpl:(backTo pos (starEach es X.env)).any (·.1)=false:=by rfl):PE X (.Call (.Name x p) (e :: es) [] pos) (Xd r t):=by
 intro pins s σ H Q I h
 refine wpAny_Call_Name_kw (uP I hg hm hv ?_ hn hdb)
 exact PyProof.Rows.callWith_type1 (za (ha pos pins s σ H _ I h) λus s1 ⟨vs,H1,I1,r1,q1⟩=>hc pins s1 σ H1 vs us Q I1 r1 q1) he hpl
end
end L2
namespace HT
open PySem PyProof.Rows
section
open PySem.SeqAt
open PySem.AutoSeq1 (wpAny_loadPart')
open PySem.MeetsSeq PySem.MeetsSeq2 PySem.MeetsSeq3
end
section
variable {prog:Program} {w:World} {A:Around} {E:Value->Shared->Prop} {s:Shared}
theorem cat_tup {t b:Addr} {vs ws:List Value} {Q:Value->Shared->Prop} (ht:IsTup s.heap t vs.toArray) (hb:IsTup s.heap b ws.toArray) (hv:vs≠[])
  (h1:ws=[]->Q (.ref t) s) (h2:ws≠[]->Q (.ref s.heap.objs.size) { s with heap:=s.heap.push { cls:=.type "tuple",data:=.seq (vs++ws).toArray } })
  (hsz:vs.length + ws.length<=sizeLine):wpAny (model prog w) A (binaryOp .Add (.ref t) (.ref b)) Q E s:=by
 obtain ⟨⟨cls,dd,data,sl⟩,ho,hc,n,hd⟩:=id ht
 obtain ⟨⟨cls2,dd2,data2,sl2⟩,ho2,hc2,n2,hd2⟩:=id hb
 simp only at hc hd hc2 hd2
 subst hc hd hc2 hd2
 have e:vs.toArray++ws.toArray=(vs++ws).toArray:=by simp
 by_cases hw:ws=[]
 ·exact concat_meets ⟨_,ho,rfl⟩ ⟨_,ho2,rfl⟩ noFill_tuple_add seq_tuple_add PySem.F.slot_tuple_add PySem.F.entry_tuple_add (PySem.F.args_tuple_add_2 _ _)
   (tuple_addW1 t b vs.toArray ws.toArray n n2 dd dd2 sl sl2 (by simpa using hv) (by simp [hw])) ⟨ho,ho2,h1 hw⟩
 ·refine concat_meets ⟨_,ho,rfl⟩ ⟨_,ho2,rfl⟩ noFill_tuple_add seq_tuple_add PySem.F.slot_tuple_add PySem.F.entry_tuple_add (PySem.F.args_tuple_add_2 _ _)
   (tuple_addW2 t b vs.toArray ws.toArray n n2 dd dd2 sl sl2 (by simpa using hv) (by simpa using hw) (by rw [List.size_toArray,List.size_toArray]; exact hsz)) ⟨ho,ho2,?_⟩
  rw [e]
  exact h2 hw
noncomputable def sIx (n d:Nat):Option Int->Nat
 | none=>d
 | some v=>if v < 0 then (v + (n:Int)).toNat else min v.toNat n
theorem sIx_none (n d:Nat):sIx n d none=d:=rfl
theorem sIx_nat (n d k:Nat):sIx n d (some (k:Int))=min k n:=by
 show (if (k:Int) < 0 then ((k:Int) + (n:Int)).toNat else min (k:Int).toNat n)=min k n
 rw [if_neg (by omega),Int.toNat_natCast]
theorem Ul (n d:Nat) (hd:d<=n) (o:Option Int):sIx n d o<=n:=by
 cases o with
 | none=>exact hd
 | some v=>
  show (if v < 0 then (v + (n:Int)).toNat else min v.toNat n)<=n
  by_cases hv:v < 0
  ·rw [if_pos hv]; omega
  ·rw [if_neg hv]; exact Nat.min_le_right _ _
theorem Xe (v:Int) (n d:Nat):(if v < 0 then max (v + (n:Int)) 0 else min v (n:Int))=((sIx n d (some v):Nat):Int):=by
 show (if v < 0 then max (v + (n:Int)) 0 else min v (n:Int))=(((if v < 0 then (v + (n:Int)).toNat else min v.toNat n):Nat):Int)
 by_cases hv:v < 0
 ·simp only [if_pos hv]; omega
 ·simp only [if_neg hv]; omega
theorem Um (lo hi:Option Int) (n:Nat):Builtin.Slice.sliceAdjust lo hi 1 (n:Int)=(((sIx n 0 lo:Nat):Int),((sIx n n hi:Nat):Int)):=by
 have h1:¬ ((1:Int) < 0):=by omega
 unfold Builtin.Slice.sliceAdjust
 simp only [h1,if_false]
 refine Prod.ext ?_ ?_
 ·cases lo with
  | none=>rfl
  | some v=>exact Xe v n 0
 ·cases hi with
  | none=>rfl
  | some v=>exact Xe v n n
theorem Uo (i j:Nat):Builtin.Slice.slicePlaces (i:Int) (j:Int) 1=j - i:=by
 unfold Builtin.Slice.slicePlaces
 have h1:(1:Int) > 0:=by omega
 simp only [h1,if_true,Int.ediv_one]
 split <;> omega
theorem Xf {v:Value} {o:Option Int} {Q:Option Int->Shared->Prop} (p:IsPart v o) (h:Q o s):wpAny (model prog w) A (Builtin.Slice.slicePartIndex v) Q E s:=by
 cases p with
 | none=>exact slicePart_none h
 | int i t=>exact slicePart_int h
theorem Up {sl:Addr} {vl vu:Value} {lo hi:Option Int} {n:Nat} {Q:Int × Int × Nat->Shared->Prop} (hs:s.heap.IsSliceOf sl vl vu .none) (pl:IsPart vl lo) (pu:IsPart vu hi)
  (h:Q (((sIx n 0 lo:Nat):Int),1,sIx n n hi - sIx n 0 lo) s):wpAny (model prog w) A (Builtin.Slice.sliceApplied (.ref sl) (pure (n:Int))) Q E s:=by
 obtain ⟨os,hos,hcs,hds⟩:=id hs
 unfold Builtin.Slice.sliceApplied Builtin.Slice.sliceFields
 refine wpAny_bind (wpAny_bind (wpAny_field hos hds (x:=vl) rfl (wpAny_bind (wpAny_field hos hds (x:=vu) rfl (wpAny_bind (wpAny_field hos hds (x:=.none) rfl (wpAny_pure ?_)))))))
 refine wpAny_bind (slicePart_none ?_)
 show wpAny _ _ (if ((1:Int) == 0)=true then _ else _) _ _ s
 rw [if_neg (by decide)]
 refine wpAny_bind (Xf pl (wpAny_bind (Xf pu (wpAny_bind (wpAny_pure ?_)))))
 show wpAny _ _ (match Builtin.Slice.sliceAdjust lo hi 1 (n:Int) with | (lo,hi)=>pure (lo,(1:Int),Builtin.Slice.slicePlaces lo hi 1)) _ _ s
 rw [Um lo hi n]
 show wpAny _ _ (pure (((sIx n 0 lo:Nat):Int),(1:Int),Builtin.Slice.slicePlaces ((sIx n 0 lo:Nat):Int) ((sIx n n hi:Nat):Int) 1)) _ _ s
 rw [Uo]
 exact wpAny_pure h
theorem Uq (xs:Array Value) (i k:Nat):((List.range k).filterMap λ(m:Nat)=>xs[((i:Int) + (m:Int) * 1).toNat]?).toArray=((xs.toList.drop i).take k).toArray:=by
 have e:(λ(m:Nat)=>xs[((i:Int) + (m:Int) * 1).toNat]?)=λm=>xs[i + m]?:=by
  funext m
  have:((i:Int) + (m:Int) * 1).toNat=i + m:=by omega
  rw [this]
 rw [e]
 have:=pick_run xs i k
 rw [List.filterMap_map] at this
 have e2:((λx=>xs[x]?) ∘ λx=>i + x)=λm=>xs[i + m]?:=rfl
 rw [e2] at this
 rw [this]
theorem getItem_tuple_cut {t sl:Addr} {items:Array Value} {vl vu:Value} {lo hi:Option Int} {Q:Value->Shared->Prop} (ht:IsTup s.heap t items) (hs:s.heap.IsSliceOf sl vl vu .none) (pl:IsPart vl lo) (pu:IsPart vu hi)
  (hw:¬ (sIx items.size 0 lo=0/\sIx items.size items.size hi=items.size))
  (h:Q (.ref s.heap.objs.size) { s with heap:=s.heap.push { cls:=.type "tuple",data:=.seq ((items.toList.drop (sIx items.size 0 lo)).take (sIx items.size items.size hi - sIx items.size 0 lo)).toArray } })
  (hsz:items.size<=sizeLine):wpAny (model prog w) A (getItem (.ref t) (.ref sl)) Q E s:=by
 have htake:sizeOk (.seq ((items.toList.drop (sIx items.size 0 lo)).take (sIx items.size items.size hi - sIx items.size 0 lo)).toArray):=by
  show ((items.toList.drop (sIx items.size 0 lo)).take (sIx items.size items.size hi - sIx items.size 0 lo)).toArray.size<=sizeLine
  rw [List.size_toArray,List.length_take,List.length_drop,Array.length_toList]
  omega
 have hj:sIx items.size items.size hi<=items.size:=Ul _ _ (Nat.le_refl _) hi
 obtain ⟨os,hos,hcs,hds⟩:=id hs
 have hTs:s.TypeIs (.ref sl) "slice":=⟨os,hos,hcs⟩
 unfold getItem
 try with_reducible refine wpAny_holding ?_
 first | refine wpAny_bind (wpAny_pure ?_) | skip
 refine wpAny_bind (wpAny_sequenceKey ht.typeIs (by decide) ?_)
 refine wpAny_bind (wpAny_callSpecial?_slot (name:=Str.ofString "__getitem__") ht.typeIs PyProof.Rows.slot_tuple_getitem
  (wpAny_call_entry PyProof.Rows.slot_tuple_getitem ht.typeIs entry_tuple_getitem ?_ (args_tuple_getitem _ _)))
 show wpAny _ _ (Builtin.Tuple.tupleItemsOf (.ref t) >>= _) _ _ s
 refine wpAny_bind (tupleItemsOf_ ht ?_)
 refine wpAny_bind (wpAny_typeOf hTs ?_)
 rw [if_pos (by decide)]
 refine wpAny_bind (Up hs pl pu ?_)
 have hno:¬ ((((sIx items.size 0 lo:Nat):Int) == 0 && (1:Int) == 1 && (sIx items.size items.size hi - sIx items.size 0 lo) == items.size)=true):=by
  intro q
  rw [Bool.and_eq_true,Bool.and_eq_true] at q
  have q1:((sIx items.size 0 lo:Nat):Int)=0:=eq_of_beq q.1.1
  have q2:sIx items.size items.size hi - sIx items.size 0 lo=items.size:=eq_of_beq q.2
  exact hw ⟨by omega,by omega⟩
 show wpAny _ _ (if (((sIx items.size 0 lo:Nat):Int) == 0 && (1:Int) == 1 && (sIx items.size items.size hi - sIx items.size 0 lo) == items.size)=true then _ else _) _ _ s
 rw [if_neg hno,Uq]
 first
  | exact wpAny_bind (m:=Builtin.Tuple.tupleExact _) (wpAny_newObj_type (wpAny_pure ⟨_,rfl,wpAny_pure h⟩) htake)
  | exact wpAny_bind (m:=Builtin.Tuple.tupleExact _) (wpAny_newObj_type (wpAny_bind (wpAny_pure (wpAny_pure ⟨_,rfl,wpAny_pure h⟩))) htake)
  | exact wpAny_bind (wpAny_bind (m:=Builtin.Tuple.tupleExact _) (wpAny_newObj_type (wpAny_pure (wpAny_pure ⟨_,rfl,wpAny_pure h⟩)) htake))
  | exact wpAny_bind (wpAny_bind (m:=Builtin.Tuple.tupleExact _) (wpAny_newObj_type (wpAny_pure ⟨_,rfl,wpAny_pure h⟩) htake))
end
end HT
namespace L2
open PySem PySem.Spec PyProof.Rows
noncomputable abbrev TO:=St->Hp->(Option Int->Hp->Prop)->Prop
noncomputable def PO (X:Cx) (e:Option Expr) (t:TO):Prop:=
 ∀ (pins:List (Addr × Obj)) (s:Shared) (σ:St) (H:Hp) (Q:Option Int->Hp->Prop),zF X pins σ H s->t σ H Q->
  wpAny (model X.prog X.w) X.A (evalPart e X.env) (λu s'=>∃ o H',zF X pins σ H' s'/\IsPart u o/\Q o H') X.xe s
noncomputable def Ur:TO:=λ_ H Q=>Q none H
noncomputable def jx (t:TE):TO:=λσ H Q=>t σ H λx H1=>∃ i,x=.int i/\Q (some i) H1
section
variable {X:Cx} {e:Expr} {te:TE} {lo hi:Option Expr} {tl th:TO} {pos p2:Pos}
theorem gJ:PO X none Ur:=by
 intro pins s σ H Q I h
 rw [evalPart_none]
 exact wpAny_pure ⟨none,H,I,.none,h⟩
theorem xy (h:PE X e te):PO X (some e) (jx te):=by
 intro pins s σ H Q I hw
 rw [evalPart_some]
 refine za (h pins s σ H _ I hw) λu s1 ⟨x,H1,I1,r1,q1⟩=>?_
 obtain ⟨i,rfl,q⟩:=q1
 obtain ⟨t,rfl⟩:=r1
 exact ⟨some i,H1,I1,.int i t,q⟩
noncomputable def uc (X:Cx) (r:V->Option Int->Option Int->Hp->VK->Prop):Prop:=
 ∀ (pins:List (Addr × Obj)) (s:Shared) (σ:St) (H:Hp) (x:V) (v vl vu:Value) (lo hi:Option Int) (sl:Addr) (Q:VK),zF X pins σ H s->zQ x v->s.heap.IsSliceOf sl vl vu .none->IsPart vl lo->IsPart vu hi->r x lo hi H Q->
  ∃ T id,typeLookup (.type T) "__getitem__" = pure (some (.builtin id))/\s.TypeIs v T/\wpAny (model X.prog X.w) X.A (getItem v (.ref sl)) (EP X pins σ Q) X.xe s
noncomputable def Us (r:V->Option Int->Option Int->Hp->VK->Prop) (te:TE) (tl th:TO):TE:=λσ H Q=>te σ H λx H1=>tl σ H1 λl H2=>th σ H2 λu H3=>r x l u H3 Q
theorem vR {r:V->Option Int->Option Int->Hp->VK->Prop} (hr:uc X r) (he:PE X e te) (hl:PO X lo tl) (hu:PO X hi th):PE X (.Subscript e (.Slice lo hi none p2) pos) (Us r te tl th):=by
 intro pins s σ H Q I h
 refine Subscript_ (za (he pins s σ H _ I h) λv s1 ⟨x,H1,I1,r1,q1⟩=>?_)
 refine wpAny_Slice (za (hl pins s1 σ H1 _ I1 q1) λvl s2 ⟨l,H2,I2,pl,q2⟩=>za (hu pins s2 σ H2 _ I2 q2) λvu s3 ⟨u,H3,I3,pu,q3⟩=>?_)
 rw [evalPart_none]
 refine wpAny_pure ?_
 have I4:zF X pins σ H3 { s3 with heap:=s3.heap.push { cls:=.type "slice",data:=.fields #[vl,vu,.none] } }:=I3.kept (t':=s3.toks) λb ob q=>Heap.get?_push_of_some _ q
 obtain ⟨T,id,hT,ht,hg⟩:=hr pins { s3 with heap:=s3.heap.push { cls:=.type "slice",data:=.fields #[vl,vu,.none] } } σ H3 x v vl vu l u s3.heap.objs.size Q I4 r1 (Heap.IsSliceOf.new ..) pl pu q3
 show wpAny (model X.prog X.w) X.A (subscriptTail e (.Slice lo hi none p2) v (.ref s3.heap.objs.size)) (EP X pins σ Q) X.xe { s3 with heap:=s3.heap.push { cls:=.type "slice",data:=.fields #[vl,vu,.none] } }
 exact tail_any (ops:=[.ref s3.heap.objs.size,v]) ht hT hg (by with_unfolding_all rfl)
noncomputable def zk (xs:List V) (lo hi:Option Int):List V:=(xs.drop (HT.sIx xs.length 0 lo)).take (HT.sIx xs.length xs.length hi - HT.sIx xs.length 0 lo)
theorem Xg (xs:List V) (lo hi:Option Int):(zk xs lo hi).length<=xs.length:=by
 unfold zk
 rw [List.length_take,List.length_drop]
 omega
noncomputable def k8 (K:PySem.W.Frag):V->Option Int->Option Int->Hp->VK->Prop:=λx lo hi H Q=>∃ a xs,x=.ref a/\zS K H a xs∧
 ¬ (HT.sIx xs.length 0 lo=0/\HT.sIx xs.length xs.length hi=xs.length)/\∀ p,H p=none->Q (.ref p) (upd H p (.tup (zk xs lo hi)))
theorem Ut:uc X (k8 X.K):=by
 intro pins s σ H x v vl vu lo hi sl Q I rx hs pl pu h
 obtain ⟨a,xs,rfl,hx,hw,q⟩:=h
 cases rx
 obtain ⟨its,r,ht,hz⟩:=I.tuple hx
 have hlen:its.toArray.size=xs.length:=by rw [List.size_toArray]; exact r.length.symm
 refine ⟨"tuple",_,PyProof.Rows.slot_tuple_getitem.lookup,ht.typeIs,?_⟩
 refine HT.getItem_tuple_cut ht hs pl pu (by rw [hlen]; exact hw) ?_ (by rw [hlen]; exact hz)
 rw [hlen]
 refine ⟨.ref s.heap.objs.size,_,I.laid (t':=s.toks) (o:=.tup (zk xs lo hi)) (λb ob q=>Heap.get?_push_of_some _ q) (Nat.le_refl _) ?_,rfl,q _ (I.hok.fresh (Nat.le_refl _))⟩
 exact ⟨Nat.le_trans (Xg xs lo hi) hz,_,(r.drop (HT.sIx xs.length 0 lo)).take (HT.sIx xs.length xs.length hi - HT.sIx xs.length 0 lo),IsTup.new _ _⟩
noncomputable def jy (K:PySem.W.Frag):R2:=λx y H Q=>∃ a b xs ys,x=.ref a/\y=.ref b/\zS K H a xs/\zS K H b ys/\xs≠[]/\xs.length + ys.length<=sizeLine∧
 (ys=[]->Q (.ref a) H)/\(ys≠[]->∀ p,H p=none->Q (.ref p) (upd H p (.tup (xs++ys))))
theorem zM.nil_iff {xs:List V} {us:List Value} (r:zM xs us):us=[] ↔ xs=[]:=by
 cases r with
 | nil=>simp
 | cons _ _=>simp
theorem Uu:yU X (binaryOp .Add) (jy X.K):=by
 intro pins s σ H x y v u Q I rx ry h
 obtain ⟨a,b,xs,ys,rfl,rfl,ha,hb,hx,hz,q1,q2⟩:=h
 cases rx
 cases ry
 obtain ⟨its,r1,p1,_⟩:=I.tuple ha
 obtain ⟨its2,r2,p2,_⟩:=I.tuple hb
 refine HT.cat_tup p1 p2 (λz=>hx (r1.nil_iff.mp z)) (λz=>⟨.ref a,H,I,rfl,q1 (r2.nil_iff.mp z)⟩) (λz=>?_) (by rw [<- r1.length,<- r2.length]; exact hz)
 refine ⟨.ref s.heap.objs.size,_,I.laid (t':=s.toks) (o:=.tup (xs++ys)) (λb ob q=>Heap.get?_push_of_some _ q) (Nat.le_refl _) ?_,rfl,q2 (λw=>z (r2.nil_iff.mpr w)) _ (I.hok.fresh (Nat.le_refl _))⟩
 exact ⟨by rw [List.length_append]; exact hz,_,r1.append r2,IsTup.new _ _⟩
end
end L2
namespace L2
open PySem PySem.Spec PyProof.Rows
noncomputable def wx (n:Nat) (i:Int):Option Nat:=if 0<=i then (if i < n then some i.toNat else none) else if -(n:Int)<=i then some (i + n).toNat else none
noncomputable def yA {α:Type} (xs:List α) (i:Int):Option α:=(wx xs.length i).bind λj=>xs[j]?
theorem Xh {n:Nat} {i:Int} {j:Nat} (h:wx n i=some j):seqIndex? i n=some j/\j < n/\-(n:Int)<=i/\i < n:=by
 unfold wx at h
 by_cases h0:0<=i
 ·rw [if_pos h0] at h
  by_cases h1:i < n
  ·rw [if_pos h1] at h
   have e:i.toNat=j:=Option.some.inj h
   exact ⟨by rw [seqIndex_of h0 h1,e],by omega,by omega,h1⟩
  ·rw [if_neg h1] at h; cases h
 ·rw [if_neg h0] at h
  by_cases h1 : -(n:Int)<=i
  ·rw [if_pos h1] at h
   have e:(i + n).toNat=j:=Option.some.inj h
   exact ⟨by rw [seqIndex_neg (by omega) h1,e],by omega,h1,by omega⟩
  ·rw [if_neg h1] at h; cases h
theorem Xi {α:Type} {xs:List α} {i:Int} {v:α} (h:yA xs i=some v):∃ j,seqIndex? i xs.length=some j/\xs[j]? = some v/\j < xs.length/\-(xs.length:Int)<=i/\i < xs.length:=by
 unfold yA at h
 cases e:wx xs.length i with
 | none=>rw [e] at h; cases h
 | some j=>
  rw [e] at h
  obtain ⟨h1,h2,h3,h4⟩:=Xh e
  exact ⟨j,h1,h,h2,h3,h4⟩
theorem wS {α:Type} {xs:List α} {j:Nat} {v:α} (h:xs[j]? = some v):yA xs (j:Int)=some v:=by
 have hj:j < xs.length:=(List.getElem?_eq_some_iff.mp h).1
 have e:wx xs.length (j:Int)=some j:=by
  unfold wx
  rw [if_pos (by omega),if_pos (by omega)]; simp
 unfold yA; rw [e]; exact h
theorem v8 {α:Type} (xs:List α) (v:α):yA (xs++[v]) (-1)=some v:=by
 have hl:(xs++[v]).length=xs.length + 1:=by simp
 have e:wx (xs++[v]).length (-1)=some xs.length:=by
  unfold wx
  rw [hl,if_neg (by decide),if_pos (by omega)]
  congr 1
  omega
 unfold yA
 rw [e]
 show (xs++[v])[xs.length]? = some v
 simp
noncomputable def Uv (b:Expr):Prop:=∀ o i,subscripted b false o i=operate [o,i] (getItem o i)
noncomputable def wH (X:Cx) (r:R2):Prop:=
 ∀ (value slice:Expr) (pins:List (Addr × Obj)) (s:Shared) (σ:St) (H:Hp) (x y:V) (v u:Value) (Q:VK),zF X pins σ H s->zQ x v->zQ y u->r x y H Q->
  subscripted slice false v u=operate [v,u] (getItem v u)->wpAny (model X.prog X.w) X.A (subscriptTail value slice v u) (EP X pins σ Q) X.xe s
noncomputable def k9 (X:Cx) (id:String) (r:V->List V->Hp->VK->Prop):Prop:=
 ∀ (pins:List (Addr × Obj)) (s:Shared) (σ:St) (H:Hp) (x:V) (xs:List V) (v:Value) (us:List Value) (Q:VK),zF X pins σ H s->zQ x v->zM xs us->r x xs H Q->
  wpAny (model X.prog X.w) X.A (call (.builtin id) (v :: us)) (EP X pins σ Q) X.xe s
section
variable {X:Cx} {a b:Expr} {ta tb:TE} {pos:Pos}
theorem zV {r:R2} (hr:wH X r) (ha:PE X a ta) (hb:PE X b tb) (hs:Uv b):PE X (.Subscript a b pos) (gD r ta tb):=by
 intro pins s σ H Q I h
 exact Subscript_ (uY ha hb I h λv u s2 x y H2 I2 rx ry q=>hr a b pins s2 σ H2 x y v u Q I2 rx ry q (hs _ _))
noncomputable def ZA (K:PySem.W.Frag):R2:=λx y H Q=>∃ p xs i v,x=.ref p/\y=.int i/\zE K H p xs/\yA xs i=some v/\Q v H
noncomputable def ZB (K:PySem.W.Frag):R2:=λx y H Q=>∃ p xs i v,x=.ref p/\y=.int i/\zS K H p xs/\yA xs i=some v/\Q v H
theorem Uw:wH X (ZA X.K):=by
 intro value slice pins s σ H x y v u Q I rx ry h hs
 obtain ⟨p,xs,i,z,rfl,rfl,hq,he,q⟩:=h
 cases rx
 obtain ⟨t,rfl⟩:=ry
 obtain ⟨its,r,pl,hz⟩:=I.list hq
 obtain ⟨j,h1,h2,h3,h4,h5⟩:=Xi he
 obtain ⟨w,ew,rw'⟩:=r.get h2
 have hl:=r.length
 have hn:=gG
 have fin:EP X pins σ Q w s:=⟨z,H,I,rw',q⟩
 by_cases h0:0<=i
 ·have hj:i.toNat=j:=by
   rw [seqIndex_of h0 h5] at h1
   exact Option.some.inj h1
  exact item_listR pl.isList h0 (by omega) (by rw [hj]; simpa using ew) fin hs
 ·have hj:(i + (its.toArray.size:Int)).toNat=j:=by
   rw [seqIndex_neg (by omega) h4] at h1
   rw [List.size_toArray,<- hl]
   exact Option.some.inj h1
  exact subscriptTail_builtinR (x:=w) pl.isList.typeIs slot_list_getitem.lookup
   (wpAny_getItem_list_neg (Q:=λr s'=>r=w/\EP X pins σ Q r s') pl.isList (by omega) (by rw [List.size_toArray] <;> omega) (by omega) (by rw [hj]; simpa using ew) ⟨rfl,fin⟩) hs
theorem Ux:wH X (ZB X.K):=by
 intro value slice pins s σ H x y v u Q I rx ry h hs
 obtain ⟨p,xs,i,z,rfl,rfl,hq,he,q⟩:=h
 cases rx
 obtain ⟨t,rfl⟩:=ry
 obtain ⟨its,r,pl,hz⟩:=I.tuple hq
 obtain ⟨j,h1,h2,h3,h4,h5⟩:=Xi he
 obtain ⟨w,ew,rw'⟩:=r.get h2
 have hl:=r.length
 have hn:=gG
 have fin:EP X pins σ Q w s:=⟨z,H,I,rw',q⟩
 exact subscriptTail_builtinR (x:=w) pl.typeIs slot_tuple_getitem.lookup
  (getItem_tuple (j:=j) (Q:=λr s'=>r=w/\EP X pins σ Q r s') pl (by omega) (by omega) (by rw [List.size_toArray,<- hl]; exact h1) (by simpa using ew) ⟨rfl,fin⟩) hs
theorem Uy (its:List Value) (n j:Nat) (u:Value):Obj.mapSeq (·.setIfInBounds j u) { cls:=.type "list",data:=.seq its.toArray n }={ cls:=.type "list",data:=.seq (its.set j u).toArray n }:=by
 simp [Obj.mapSeq]
theorem zF.lst {pins:List (Addr × Obj)} {σ:St} {H:Hp} {s:Shared} {p:Addr} {xs:List V} (I:zF X pins σ H s) (h:H p=some (.lst xs)) :
  ∃ (its:List Value) (n:Nat),zM xs its/\s.heap.get? p=some { cls:=.type "list",data:=.seq its.toArray n }/\xs.length<=sizeLine:=by
 obtain ⟨z,its,n,r,e⟩:=I.hok p _ h
 exact ⟨its,n,r,e,z⟩
theorem zF.lstUpd {pins:List (Addr × Obj)} {σ:St} {H:Hp} {s:Shared} {p:Addr} {xs ys:List V} {its its':List Value} {n n':Nat} {f:Obj->Obj} (I:zF X pins σ H s) (h:H p=some (.lst xs))
  (ho:s.heap.get? p=some { cls:=.type "list",data:=.seq its.toArray n }) (hf:f { cls:=.type "list",data:=.seq its.toArray n }={ cls:=.type "list",data:=.seq its'.toArray n' }) (r:zM ys its') (hz:ys.length<=sizeLine) (t:Nat) :
  zF X pins σ (upd H p (.lst ys)) { s with heap:=s.heap.update p f,toks:=t }:=by
 have e:(s.heap.update p f).get? p=some { cls:=.type "list",data:=.seq its'.toArray n' }:=by
  rw [Heap.get?_update_self f ho (by rw [hf] <;> rfl),hf]
 refine I.write (x:=p) (e:=p) (by rw [h]; trivial) (.inl rfl) (λb u hb q=>(Heap.get?_update_other _ _ (Ne.symm hb)).trans q) ⟨_,e⟩ ?_
 exact ⟨hz,its',n',r,e⟩
noncomputable def jz:V->V->V->Hp->(Hp->Prop)->Prop:=λo i v H Q=>∃ p xs k j,o=.ref p/\i=.int k/\H p=some (.lst xs)/\wx xs.length k=some j/\Q (upd H p (.lst (xs.set j v)))
theorem Uz:uR X jz:=by
 intro pins s σ H o i v ov iv u Q I ro ri rv h
 obtain ⟨p,xs,k,j,rfl,rfl,hp,hj,q⟩:=h
 cases ro
 obtain ⟨t,rfl⟩:=ri
 obtain ⟨its,n,r,ho,hz⟩:=I.lst hp
 obtain ⟨h1,h2,h3,h4⟩:=Xh hj
 have hl:=r.length
 have hn:=gG
 have I':zF X pins σ (upd H p (.lst (xs.set j v))) { s with heap:=s.heap.update p (Obj.mapSeq (·.setIfInBounds j u)) }:=
  I.lstUpd hp ho (Uy its n j u) (r.set rv j) (by rw [List.length_set]; exact hz) s.toks
 by_cases h0:0<=k
 ·have hk:k.toNat=j:=by
   rw [seqIndex_of h0 h4] at h1
   exact Option.some.inj h1
  exact PySem.W.ki_setAt ho h0 (by omega) (by rw [List.size_toArray,<- hl]; exact h4) (by rw [hk]; exact ⟨_,I',q⟩)
 ·have hk:(k + (its.toArray.size:Int)).toNat=j:=by
   rw [seqIndex_neg (by omega) h3] at h1
   rw [List.size_toArray,<- hl]
   exact Option.some.inj h1
  exact PySem.W.ki_setBack ho (by omega) (by rw [List.size_toArray,<- hl]; exact h3) (by omega) (by rw [hk]; exact ⟨_,I',q⟩)
theorem U0 (lo hi:Option Int) (n:Nat):(sliceBounds lo hi none n).1=((HT.sIx n 0 lo:Nat):Int)/\(sliceBounds lo hi none n).2.1=((HT.sIx n n hi:Nat):Int)/\(sliceBounds lo hi none n).2.2=1:=by
 refine ⟨?_,?_,rfl⟩
 ·cases lo with
  | none=>simp [sliceBounds,HT.sIx]
  | some i=>
   simp only [sliceBounds,HT.sIx,Option.getD_none,show (1:Int) > 0 by decide,if_true]
   by_cases h:i < 0
   ·simp only [h,if_true] <;> omega
   ·simp only [h,if_false] <;> omega
 ·cases hi with
  | none=>simp [sliceBounds,HT.sIx]
  | some i=>
   simp only [sliceBounds,HT.sIx,Option.getD_none,show (1:Int) > 0 by decide,if_true]
   by_cases h:i < 0
   ·simp only [h,if_true] <;> omega
   ·simp only [h,if_false] <;> omega
theorem U6 (its:List Value) (lo hi:Option Int):slicePick its.toArray lo hi none=((its.drop (HT.sIx its.length 0 lo)).take (HT.sIx its.length its.length hi - HT.sIx its.length 0 lo)).toArray:=by
 obtain ⟨h1,h2,h3⟩:=U0 lo hi its.toArray.size
 unfold slicePick
 rw [h1,h2,h3]
 simp only [sliceRange_one,pick_run,List.size_toArray] <;> rfl
noncomputable def ZC (K:PySem.W.Frag):V->Option Int->Option Int->Hp->VK->Prop:=λx lo hi H Q=>∃ a xs,x=.ref a/\zE K H a xs/\∀ p,H p=none->Q (.ref p) (upd H p (.lst (zk xs lo hi)))
theorem U7:uc X (ZC X.K):=by
 intro pins s σ H x v vl vu lo hi sl Q I rx hs pl pu h
 obtain ⟨a,xs,rfl,hx,q⟩:=h
 cases rx
 obtain ⟨its,r,ht,hz⟩:=I.list hx
 have hlen:=r.length
 refine ⟨"list",_,slot_list_getitem.lookup,ht.isList.typeIs,?_⟩
 refine wpAny_getItem_list_slice ht.isList hs pl pu .none (by simp) ?_ (by rw [List.size_toArray] <;> omega)
 rw [U6,<- hlen]
 refine ⟨.ref s.heap.objs.size,_,I.laid (t':=s.toks) (o:=.lst (zk xs lo hi)) (λb ob q=>Heap.get?_push_of_some _ q) (Nat.le_refl _) ?_,rfl,q _ (I.hok.fresh (Nat.le_refl _))⟩
 exact ⟨Nat.le_trans (Xg xs lo hi) hz,_,0,(r.drop (HT.sIx xs.length 0 lo)).take (HT.sIx xs.length xs.length hi - HT.sIx xs.length 0 lo),Heap.get?_push_size _ rfl⟩
theorem U8:yw X (.builtin "len") (λxs H Q=>∃ p ys,xs=[.ref p]/\(zE X.K H p ys\/zS X.K H p ys)/\Q (.int ys.length) H):=by
 intro pins s σ H xs us Q I r h
 obtain ⟨p,ys,rfl,hq,q⟩:=h
 obtain ⟨u,rfl,rx⟩:=jK r
 cases rx
 have hn:=gG
 rcases hq with hq | hq
 ·obtain ⟨its,r',pl,hz⟩:=I.list hq
  have hlen:=r'.length
  exact Calls.call_len_list pl.isList (by simp only [List.size_toArray] <;> omega) ⟨.int ys.length,H,I.tok _,⟨s.toks + 1,by rw [List.size_toArray,hlen]⟩,q⟩
 ·obtain ⟨its,r',pl,hz⟩:=I.tuple hq
  have hlen:=r'.length
  exact len_tuple pl (by simp only [List.size_toArray] <;> omega) ⟨.int ys.length,H,I.tok _,⟨s.toks + 1,by rw [List.size_toArray,hlen]⟩,q⟩
theorem vf:yw X (.type "list") (λxs H Q=>∃ p ys,xs=[.ref p]/\(zE X.K H p ys\/zS X.K H p ys)/\∀ l,H l=none->Q (.ref l) (upd H l (.lst ys))):=by
 intro pins s σ H xs us Q I r h
 obtain ⟨p,ys,rfl,hq,q⟩:=h
 obtain ⟨u,rfl,rx⟩:=jK r
 cases rx
 have fin:∀ (its:List Value),zM ys its->ys.length<=sizeLine->∀ (h':Heap) (c':Nat),(∀ b o',s.heap.get? b=some o'->h'.get? b=some o')->
   h'.get? s.heap.objs.size=some { cls:=.type "list",dict:=none,data:=.seq its.toArray c',slots:=#[] }->EP X pins σ Q (.ref s.heap.objs.size) { s with heap:=h' }:=λits r' hz h' c' kp e=>
  ⟨.ref s.heap.objs.size,_,I.laid (t':=s.toks) kp (Nat.le_refl _) (show yh X.prog X.w _ h' _ (.lst ys) from ⟨hz,its,c',r',e⟩),rfl,q _ (I.hok.fresh (Nat.le_refl _))⟩
 rcases hq with hq | hq
 ·obtain ⟨its,r',pl,hz⟩:=I.list hq
  have hlen:=r'.length
  obtain ⟨o,ho,hc,n,hd⟩:=pl.isList
  exact call_list_seq p (.inl rfl) ho hc hd (λh' c' kp e=>fin its r' hz h' c' kp e) (by simp only [List.size_toArray] <;> omega)
 ·obtain ⟨its,r',pl,hz⟩:=I.tuple hq
  have hlen:=r'.length
  obtain ⟨o,ho,hc,n,hd⟩:=pl
  exact call_list_seq p (.inr rfl) ho hc hd (λh' c' kp e=>fin its r' hz h' c' kp e) (by simp only [List.size_toArray] <;> omega)
theorem U9:yw X (.type "tuple") (λxs H Q=>∃ p ys,xs=[.ref p]/\((zE X.K H p ys/\∀ l,H l=none->Q (.ref l) (upd H l (.tup ys)))\/(zS X.K H p ys/\Q (.ref p) H))):=by
 intro pins s σ H xs us Q I r h
 obtain ⟨p,ys,rfl,h⟩:=h
 obtain ⟨u,rfl,rx⟩:=jK r
 cases rx
 rcases h with ⟨hq,q⟩ | ⟨hq,q⟩
 ·obtain ⟨its,r',pl,hz⟩:=I.list hq
  have hlen:=r'.length
  refine call_tuple_list pl.isList (λh' kp=>?_) (by simp only [List.size_toArray] <;> omega)
  have I1:zF X pins σ H { s with heap:=h' }:=I.kept (t':=s.toks) kp
  have I2:zF X pins σ (upd H h'.objs.size (.tup ys)) { s with heap:=h'.push { cls:=.type "tuple",data:=.seq its.toArray } }:=
   I1.laid (t':=s.toks) (λb o e=>Heap.get?_push_of_some _ e) (Nat.le_refl _) (show yh X.prog X.w _ _ _ (.tup ys) from ⟨hz,its,r',IsTup.new _ _⟩)
  exact ⟨.ref h'.objs.size,_,I2,rfl,q _ (I1.hok.fresh (Nat.le_refl _))⟩
 ·obtain ⟨its,r',pl,hz⟩:=I.tuple hq
  exact call_tuple_same pl ⟨.ref p,H,I,rfl,q⟩
noncomputable def ZD (K:PySem.W.Frag) (T:String) (x:V) (H:Hp):Prop:=match x with
 | .str _=>T = "str"
 | .int _=>T = "int"
 | .ref p=>(T = "list"/\∃ xs,zE K H p xs)\/(T = "tuple"/\∃ o,K.lookup p=some o/\o.cls=.type "tuple"/\o.dict=none)∨
   (T = "dict"/\((∃ kvs,H p=some (.dK kvs))\/∃ kvs,H p=some (.dT kvs)))\/(T = "set"/\∃ S n,H p=some (.set S n))
 | _=>False
theorem Xj {pins:List (Addr × Obj)} {σ:St} {H:Hp} {s:Shared} {T:String} {x:V} {v:Value} (I:zF X pins σ H s) (r:zQ x v) (ty:ZD X.K T x H) :
  s.TypeIs v T/\∀ a,v=.ref a->∃ ob,s.heap.get? a=some ob/\ob.dict=none:=by
 cases x with
 | str z=>
  obtain ⟨t,rfl⟩:=r
  cases (show T = "str" from ty)
  exact ⟨typeIs_str s z t,λ_ e=>nomatch e⟩
 | int i=>
  obtain ⟨t,rfl⟩:=r
  cases (show T = "int" from ty)
  exact ⟨typeIs_int s i t,λ_ e=>nomatch e⟩
 | ref p=>
  cases r
  rcases ty with ⟨rfl,xs,hq⟩ | ⟨rfl,o,hk,hc,hd⟩ | ⟨rfl,hk⟩ | ⟨rfl,S,n,hk⟩
  ·obtain ⟨its,_,pl,_⟩:=I.list hq
   refine ⟨pl.isList.typeIs,λa e=>?_⟩
   cases e
   obtain ⟨o,n,e,c,hd,_⟩:=pl
   exact ⟨o,e,hd⟩
  ·refine ⟨⟨o,I.kIn p o hk,hc⟩,λa e=>?_⟩
   cases e
   exact ⟨o,I.kIn _ o hk,hd⟩
  ·have z:∃ o,s.heap.get? p=some o/\o.ExactDict:=by
    rcases hk with ⟨kvs,hk⟩ | ⟨kvs,hk⟩
    ·obtain ⟨_,_,_,_,o,_,_,e,ex,_⟩:=I.hok p _ hk
     exact ⟨o,e,ex⟩
    ·obtain ⟨_,_,_,_,o,_,_,e,ex,_⟩:=I.hok p _ hk
     exact ⟨o,e,ex⟩
   obtain ⟨o,e,ex⟩:=z
   refine ⟨⟨o,e,ex.1⟩,λa e2=>?_⟩
   cases e2
   exact ⟨o,e,ex.2.1⟩
  ·obtain ⟨o,_,_,_,e,ex,_⟩:=I.hok p _ hk
   refine ⟨⟨o,e,ex.1⟩,λa e2=>?_⟩
   cases e2
   exact ⟨o,e,ex.2.1⟩
 | _=>exact False.elim ty
noncomputable def ZE (K:PySem.W.Frag) (T:String) (r:V->List V->Hp->VK->Prop) (to:TE):TE:=λσ H Q=>to σ H λx H1=>ZD K T x H1/\r x [] H1 Q
noncomputable def JA (K:PySem.W.Frag) (T:String) (r:V->List V->Hp->VK->Prop) (to:TE) (t:TA):TE:=λσ H Q=>to σ H λx H1=>ZD K T x H1/\t σ H1 λxs H2=>r x xs H2 Q
variable {o e:Expr} {es:List Expr} {to:TE} {t:TA} {name:Str} {apos cpos:Pos} {T id:String} {r:V->List V->Hp->VK->Prop}
theorem JB (pa:PlainAttrs T) (slot:Slot T name id) (hty:typeOf (.builtin id)=pure (.type "method_descriptor")) (hm:k9 X id r) (ho:PE X o to)
  (hbase:attributeBase o name X.env (eval o X.env)=eval o X.env:=by rfl) (hline:(apos.endLine == cpos.line)=true:=by rfl):PE X (.Call (.Attribute o name apos) [] [] cpos) (ZE X.K T r to):=by
 intro pins s σ H Q I h
 refine wpAny_Call_method0_late hbase hline (za (ho pins s σ H _ I h) λv s1 ⟨x,H1,I1,r1,ty,q1⟩=>?_)
 obtain ⟨h1,h2⟩:=Xj I1 r1 ty
 exact ⟨T,id,pa,slot,hty,h1,h2,Calls.callWith_builtin rfl (PySem.evalArgs_none (hm pins s1 σ H1 x [] v [] Q I1 r1 .nil q1))⟩
theorem vC (pa:PlainAttrs T) (slot:Slot T name id) (hty:typeOf (.builtin id)=pure (.type "method_descriptor")) (hm:k9 X id r) (ho:PE X o to) (ha:PA X (e :: es) t)
  (hbase:attributeBase o name X.env (eval o X.env)=eval o X.env:=by rfl)
  (hfew:((backTo cpos (starEach (e :: es) X.env)).all (λx=>!x.1) && (backToKw cpos (keywordEach [] X.env)).all (λx=>x.1.isSome)
   && decide ((e :: es).length + ([]:List Keyword).length + (if ([]:List Keyword).isEmpty then 0 else 1) < 30))=true:=by rfl)
  (hline:(apos.endLine == cpos.line)=true:=by rfl) (hs:starEach (e :: es) X.env=(false,eval e X.env) :: starEach es X.env:=by rfl) (hplain:(backTo cpos (starEach es X.env)).any (·.1)=false:=by rfl) :
  PE X (.Call (.Attribute o name apos) (e :: es) [] cpos) (JA X.K T r to t):=by
 intro pins s σ H Q I h
 refine wpAny_Call_method_late hbase hfew hline rfl (za (ho pins s σ H _ I h) λv s1 ⟨x,H1,I1,r1,ty,q1⟩=>?_)
 obtain ⟨h1,h2⟩:=Xj I1 r1 ty
 refine ⟨T,id,pa,slot,hty,h1,h2,?_⟩
 have hA:=ha cpos pins s1 σ H1 _ I1 q1
 rw [hs] at hA |-
 refine Calls.callWith_builtin (by show (false || (backTo cpos (starEach es X.env)).any (·.1))=false; rw [hplain] <;> rfl) (Calls.evalArgs_plain ?_)
 exact za hA λus s2 ⟨vs,H2,I2,r2,q2⟩=>hm pins s2 σ H2 x vs v us Q I2 r1 r2 q2
/- xs.append(e),list.index on a module's tuple .. are k9 facts of 06m -/
end
end L2
namespace L2
open PySem PySem.Spec PyProof.Rows
noncomputable def ZF (X:Cx) (id:String) (r:V->List V->Hp->VK->Prop):Prop:=
 ∀ (pins:List (Addr × Obj)) (s:Shared) (σ:St) (H:Hp) (x:V) (xs:List V) (v:Value) (us:List Value) (Q:VK),zF X pins σ H s->zQ x v->zM xs us->r x xs H Q->
  wpAny (model X.prog X.w) X.A (call (.builtin id) (v :: us)) (EP X pins σ Q) X.xe s
theorem zM.one:∀ {x:V} {us:List Value},zM [x] us->∃ u,us=[u]/\zQ x u
 | _,_,.cons r .nil=>⟨_,rfl,r⟩
theorem zM.zero:∀ {us:List Value},zM [] us->us=[]
 | _,.nil=>rfl
theorem zM.dropLast {xs:List V} {us:List Value} (h:zM xs us):zM xs.dropLast us.dropLast:=by
 induction h with
 | nil=>exact .nil
 | cons r t ih=>
  cases t with
  | nil=>exact .nil
  | cons q t'=>exact .cons r ih
theorem zM.reverse {xs:List V} {us:List Value} (h:zM xs us):zM xs.reverse us.reverse:=by
 induction h with
 | nil=>exact .nil
 | cons r t ih=>rw [List.reverse_cons,List.reverse_cons]; exact zM.append ih (.cons r .nil)
section
variable {X:Cx} {pins:List (Addr × Obj)} {σ:St} {H:Hp} {s:Shared} {l b:Addr} {xs ys zs:List V}
theorem zF.lset {its its':List Value} {n:Nat} {f:Array Value->Array Value} {t':Nat} (I:zF X pins σ H s) (hH:H l=some (.lst xs))
  (e:s.heap.get? l=some { cls:=.type "list",data:=.seq its.toArray n }) (hf:f its.toArray=its'.toArray) (hv:zM ys its') (hz:ys.length<=sizeLine) :
  zF X pins σ (upd H l (.lst ys)) { s with heap:=s.heap.update l (Obj.mapSeq f),toks:=t' }:=by
 have q:=PySem.IsL.update e f
 rw [hf] at q
 refine I.write (x:=l) (e:=l) (by rw [hH]; exact trivial) (.inl rfl) (λb' u hb hu=>(Heap.get?_update_other s.heap (Obj.mapSeq f) (Ne.symm hb)).trans hu) ⟨_,q⟩ ?_
 exact ⟨hz,its',_,hv,q⟩
theorem zF.lnew {its:List Value} {t':Nat} (I:zF X pins σ H s) (hv:zM ys its) (hz:ys.length<=sizeLine) :
  zF X pins σ (upd H s.heap.objs.size (.lst ys)) { s with heap:=s.heap.push { cls:=.type "list",data:=.seq its.toArray },toks:=t' }:=
 I.laid (λ_ _ q=>Heap.get?_push_of_some _ q) (Nat.le_refl _) ⟨hz,its,0,hv,Heap.get?_push_size _ rfl⟩
theorem zF.fresh (I:zF X pins σ H s):H s.heap.objs.size=none:=I.hok.fresh (Nat.le_refl _)
theorem zF.lstM (I:zF X pins σ H s) (hH:H l=some (.lst xs)):xs.length<=sizeLine/\∃ (its:List Value) (n:Nat),zM xs its/\xs.length=its.length/\s.heap.get? l=some { cls:=.type "list",data:=.seq its.toArray n }:=by
 obtain ⟨z,its,n,r,e⟩:=I.hok l _ hH
 exact ⟨z,its,n,r,r.length,e⟩
end
section
variable {X:Cx}
noncomputable def JC:V->List V->Hp->VK->Prop:=λx vs H Q=>∃ l xs y,x=.ref l/\vs=[y]/\H l=some (.lst xs)/\xs.length < sizeLine/\Q .non (upd H l (.lst (xs++[y])))
theorem JD:ZF X "list.append" JC:=by
 intro pins s σ H x vs v us Q I rx rv h
 obtain ⟨l,xs,y,rfl,rfl,hH,hz,q⟩:=h
 cases rx
 obtain ⟨u,rfl,ru⟩:=rv.one
 obtain ⟨z,its,n,r,hl,e⟩:=I.lstM hH
 refine call_meets F.slot_list_append ⟨_,e,rfl⟩ F.entry_list_append (F.args_list_append_2 _ _) (PySem.list_append l its.toArray n u (by rw [List.size_toArray]; omega)) ⟨e,?_⟩
 refine ⟨.non,_,I.lset (its':=its++[u]) hH e (by simp) (r.append (.cons ru .nil)) ?_,rfl,q⟩
 rw [List.length_append,List.length_singleton]
 omega
noncomputable def JE:V->List V->Hp->VK->Prop:=λx vs H Q=>∃ l xs,x=.ref l/\vs=[]/\H l=some (.lst xs)/\Q .non (upd H l (.lst []))
theorem JF:ZF X "list.clear" JE:=by
 intro pins s σ H x vs v us Q I rx rv h
 obtain ⟨l,xs,rfl,rfl,hH,q⟩:=h
 cases rx
 have hus:=rv.zero
 subst hus
 obtain ⟨z,its,n,r,hl,e⟩:=I.lstM hH
 refine call_meets F.slot_list_clear ⟨_,e,rfl⟩ F.entry_list_clear (F.args_list_clear_1 _) (AutoSeq1.list_clear_list_0 l its.toArray n (by rw [List.size_toArray]; omega)) ⟨e,?_⟩
 exact ⟨.non,_,I.lset (its':=[]) (ys:=[]) hH e rfl .nil (Nat.zero_le _),rfl,q⟩
noncomputable def ZG:R2:=λx y H Q=>∃ l b xs zs,x=.ref l/\y=.ref b/\H l=some (.lst xs)/\H b=some (.lst zs)/\xs.length + zs.length<=sizeLine/\∀ p,H p=none->Q (.ref p) (upd H p (.lst (xs++zs)))
theorem JG:yU X (binaryOp .Add) ZG:=by
 intro pins s σ H x y v u Q I rx ry h
 obtain ⟨l,b,xs,zs,rfl,rfl,hH,hB,hz,q⟩:=h
 cases rx
 cases ry
 obtain ⟨z,its,n,r,hl,e⟩:=I.lstM hH
 obtain ⟨z2,its2,n2,r2,hl2,e2⟩:=I.lstM hB
 refine PySem.P.add_list e e2 ?_ (by rw [List.size_toArray,List.size_toArray]; omega)
 have ea:its.toArray++its2.toArray=(its++its2).toArray:=by simp
 rw [ea]
 exact ⟨.ref _,_,I.lnew (t':=s.toks) (r.append r2) (by rw [List.length_append]; omega),rfl,q _ I.fresh⟩
end
section
variable {prog:Program} {w:World} {A:Around} {E:Value->Shared->Prop} {s:Shared}
end
section
variable {X:Cx}
end
end L2
namespace Att
open PySem PySem.W PySem.Calls PyProof.Rows
theorem JH {P:Params} {h:Heap}:∀ (ns:List Int) (vs:List Value),WellAll P h vs (ns.map WData.int)->IntsAre vs ns:=by
 intro ns
 induction ns with
 | nil=>
  intro vs w
  rw [List.map_nil] at w
  cases w
  exact .nil
 | cons n ns ih=>
  intro vs w
  rw [List.map_cons] at w
  cases w with
  | cons a b=>
   cases a
   exact .cons _ _ (ih _ b)
theorem JJ {l:OpenLaw} {n:Nat} (hn:l.most=some n) {P:Params} {h:Heap} {args:List WData} {vals:List Value}
  (hpre:l.row.toRowW.claim.pre args=true) (hwl:WellAll P h vals args) :
  ∃ a vs ns,vals=[Value.ref a]/\args=[WData.list (ns.map WData.int)]/\h.get? a=some { cls:=.type "list",data:=.seq vs.toArray }/\IntsAre vs ns/\ns.length<=n:=by
 have hsh:WShape.hasAll [] args [.list .int]=true:=(pre_splitW hpre).1
 have hc:l.pre.holds [] { args:=args }=true:=(pre_splitW hpre).2
 obtain ⟨d,r,rfl,h1,h2⟩:=hasAllW_cons hsh
 obtain rfl:=hasAllW_nil h2
 obtain ⟨xs,rfl,h3⟩:=hasW_list h1
 obtain ⟨ns,rfl⟩:=items_int h3
 have hlen:ns.length<=n:=by
  unfold OpenLaw.pre at hc
  have h4:(WTm.not (.lt (.lit (.int (n:Int))) (.len (.arg 0)))).holds [] { args:=[.list (ns.map .int)] }=true:=by
   have h4:=(holds_andW hc).1
   rw [hn] at h4
   exact h4
  have h5:=condW_of h4 (w_not (w_lt w_lit (w_len_list (w_arg rfl))))
  rw [List.length_map] at h5
  refine Nat.le_of_not_lt λq=>?_
  have q':(n:Int) < ((ns.length:Nat):Int):=by omega
  first
   | (rw [decide_eq_true q'] at h5; exact absurd h5 (by decide))
   | (simp at h5; omega)
 cases hwl with
 | cons w1 w2=>
  cases w2
  cases w1 with
  | list ho hall=>exact ⟨_,_,ns,rfl,rfl,ho,JH ns _ hall,hlen⟩
theorem JK (l:OpenLaw) (args:List WData):l.row.toRowW.claim.post args (.bool true) args=true:=
 postW_of (r:=l.row.toRowW) (X:=(true == true))
  (show WShape.has [] (.bool true) .bool=true by first | rfl | decide | simp [WShape.has,WShape.arms,WShape.armsAll])
  (show (WTm.eq .res (.lit (.bool true))).value [] { args:=args,res:=some (.bool true),after:=args }=some (.bool (true == true)) from w_eq_bool (w_res rfl) w_lit) rfl
theorem attach_call {l:OpenLaw} {n:Nat} {q:Program} {loose:List Str} {XP:(Str->Option Value)->Heap->Prop} {YP:World->Heap->Prop} {d:DefRec}
  (hn:l.most=some n) (hdf:d.params.defaults=[])
  (call:∀ (w:World) (s₀ s₁:Shared) (mg mb:Str->Option Value) (fa:Addr) (o:Obj) (pm cd doc:Value) (a:Addr) (vs:List Value) (ns:List Int),
   Ground q loose [] XP w s₀ mg mb s₁.heap->YP w s₁.heap->
   s₁.heap.get? fa=some o->o.data=.func (docDef d.name d.params d.body d.scope pm cd doc)->s₁.heap.CodeRec cd d.name->mg d.name=some (.ref fa)->
   s₁.heap.get? a=some { cls:=.type "list",data:=.seq vs.toArray }->IntsAre vs ns->ns.length<=n->s₁.gens=#[]->
   codeAny (model l.prog w) callerA (.call (.ref fa) ⟨[.ref a],[]⟩) (λr s'=>r=.ok (.ret (.bool true))/\OldK s₁.heap s'.heap/\s'.os=s₁.os/\AllBare s'.gens) s₁) :
  WalkO q loose XP YP l.row.toRowW d [] (λf vs=>PySem.call f vs):=by
 intro w s₀ s₁ mg mb G Y fa o pm cd doc dV kV ho hd hcd hD hmg hg args vals as hpre hlay hrd hwl hlo
 obtain rfl:dV=.none:=Dflts.none hD hdf
 obtain rfl:kV=.none:=Dflts.noKw hD
 obtain ⟨a,vs,ns,rfl,rfl,hobj,hints,hlen⟩:=JJ hn hpre hwl
 refine enter_call (codeAny_mono (call w s₀ s₁ mg mb fa o pm cd doc a vs ns G Y ho (fd_plain hd) hcd hmg hobj hints hlen hg) λr s' hq=>?_)
 obtain ⟨rfl,h2,h3,h4⟩:=hq
 exact ⟨.inl ⟨.bool true,.bool true,[],rfl,λ_=>rfl,.bool true,JK l _,λ_=>⟨List.Pairwise.nil,λ_ hm=>(nomatch hm)⟩⟩,h2,h3,h4⟩
section
variable {prog:Program} {w:World} {A:Around} {E:Value->Shared->Prop} {s:Shared} {K:Frag}
end
end Att
namespace L2
open PySem PySem.Spec PyProof.Rows
theorem Xk:∀ {vs:List Value} {ns:List Int},IntsAre vs ns->zM (ns.map V.int) vs
 | _,_,.nil=>.nil
 | _,_,.cons n t h=>.cons ⟨t,rfl⟩ (Xk h)
noncomputable def ud (H:Hp):Prop:=∀ b,H b=none\/∃ o xs,H b=some (.frz o (.lst xs))
theorem law_call {P:Program} {w:World} {K:PySem.W.Frag} {mg mb:Str->Option Value} {CX:xk} {k:Nat} {fa a:Addr} {fd:FuncData} {x:Str} {sp:Sp} {s₁:Shared} {vs:List Value} {ns:List Int}
  (KX:K.In s₁.heap) (hns:s₁.heap.Ns mainGlobals mg) (hb:s₁.heap.Ns builtinsNs mb) (hbb:∀ x:Str,x≠"__name__"->mb x=bootBuiltins x) (hlim:s₁.heap.NoLimit) (hg:s₁.gens=#[])
  (ha:s₁.heap.get? a=some { cls:=.type "list",data:=.seq vs.toArray }) (hi:IntsAre vs ns) (hl:ns.length<=sizeLine) (hr:zh k callerA)
  (F:∀ base:Heap,K.In base->base.Ns mainGlobals mg->zL P w K mg base CX k fa fd [x] sp) (hbind:∀ (s:Shared) (u:Value),BindsTo s fd ⟨[u],[]⟩ [(x,u)])
  (hsp:∀ H:Hp,ud H->zE K H a (ns.map V.int)->sp [.ref a] H (λv _=>v=.bl true) λ_ _ _=>False)
  (hCX:∀ H e s',CX [] H s₁ (λ_ _ _=>False) e s'->False) :
  codeAny (model P w) callerA (.call (.ref fa) ⟨[.ref a],[]⟩) (λr s'=>r=.ok (.ret (.bool true))/\OldK s₁.heap s'.heap/\s'.os=s₁.os/\AllBare s'.gens) s₁:=by
 have rv:=Xk hi
 have lenV:=hi.length
 have core:∀ H:Hp,ud H->zE K H a (ns.map V.int)->yZ P w H s₁.heap->(∀ b,H b≠none->b=a)->(H a≠none->K.lookup a=none)->
   codeAny (model P w) callerA (.call (.ref fa) ⟨[.ref a],[]⟩) (λr s'=>r=.ok (.ret (.bool true))/\OldK s₁.heap s'.heap/\s'.os=s₁.os/\AllBare s'.gens) s₁:=by
  intro H hO hS hok hA hK
  have base_of:∀ {b:Addr} {o:Obj},s₁.heap.get? b=some o->H b=none->(xV s₁.heap H).get? b=some o:=λe n=>UD e n
  have noA:∀ {b:Addr} {o:Obj} {es:Array DictEntry} {ep:Nat},s₁.heap.get? b=some o->o.data=.dict es ep->H b=none:=λ{b o es ep} e d=>by
   cases q:H b with
   | none=>rfl
   | some u=>
    have e':b=a:=hA b (by rw [q]; simp)
    subst e'
    rw [ha] at e; cases e
    have d':Data.seq vs.toArray _=Data.dict es ep:=d
    cases d'
  have nsK:∀ {b:Addr} {m:Str->Option Value},s₁.heap.Ns b m->(xV s₁.heap H).Ns b m:=λ{b m} ⟨o,es,ep,e,d,r⟩=>⟨o,es,ep,base_of e (noA e d),d,r⟩
  have hKb:K.In (xV s₁.heap H):=λb o e=>base_of (KX b o e) (by
   cases q:H b with
   | none=>rfl
   | some u=>
    have e':b=a:=hA b (by rw [q]; simp)
    subst e'
    rw [hK (by rw [q]; simp)] at e; cases e)
  have hM:Mod K mg (xV s₁.heap H):=⟨hKb,nsK hns,⟨mb,nsK hb,hbb⟩,let ⟨mc,h1,h2⟩:=hlim; ⟨mc,nsK h1,h2⟩⟩
  have e0:xO P w K mg (xV s₁.heap H) callerA [] s₁ H:=⟨rfl,hM,λb o e=>UE e,Nat.le_of_eq (UC _ _),trivial,λb hb=>absurd (show b∈([]:List Addr) from hb) (by simp),hok,.of_eq hg⟩
  refine codeAny_mono ((F _ hKb (nsK hns)).run callerA [] s₁ H ⟨[.ref a],[]⟩ [.ref a] [.ref a] _ _ hr e0 (hbind s₁ (.ref a)) (.cons rfl .nil) (hsp H hO hS)) λr s' h=>?_
  cases r with
  | error e=>exact (hCX H e s' h).elim
  | ok fl=>
   cases fl with
   | next=>exact False.elim h
   | brk=>exact False.elim h
   | cont=>exact False.elim h
   | ret u=>
    obtain ⟨v,H',os,bare,un,hok',r',q⟩:=h
    have q':v=.bl true:=q
    subst q'
    obtain rfl:u=Value.bool true:=r'
    refine ⟨rfl,OldK.of_keep λb o e=>?_,os,bare⟩
    cases q:H b with
    | none=>exact un.keep b o e q (by intro z; exact absurd (show b∈([]:List Addr) from z) (by simp)) (by simp)
    | some u=>
     rcases hO b with z | ⟨ob,xs,z⟩
     ·rw [q] at z; cases z
     ·have z2:=un.frzs b ob _ z
      obtain ⟨e1,_⟩:=hok b _ z
      obtain ⟨e2,_⟩:=hok' b _ z2
      rw [e] at e1; cases e1
      exact e2
 cases hk:K.lookup a with
 | some o=>
  have e:=KX a o hk
  rw [ha] at e
  cases e
  refine core (λ_=>none) (λ_=>.inl rfl) (.inr ⟨_,vs.toArray,_,hk,rfl,rfl,rfl,by rw [List.size_toArray,lenV]; exact hl,by simpa using rv⟩) (λb u z=>by have z':(none:Option HO)=some u:=z; cases z') (λb z=>absurd rfl z) λz=>absurd rfl z
 | none=>
  refine core (λb=>if b=a then some (.frz { cls:=.type "list",data:=.seq vs.toArray } (.lst (ns.map V.int))) else none) (λb=>?_) (.inl (.inr ⟨{ cls:=.type "list",data:=.seq vs.toArray },if_pos rfl⟩)) (λb u z=>?_) (λb z=>?_) λ_=>hk
  ·by_cases hb:b=a
   ·exact .inr ⟨_,_,if_pos hb⟩
   ·exact .inl (if_neg hb)
  ·by_cases hb:b=a
   ·have z':=(if_pos hb).symm.trans z
    cases z'
    subst hb
    exact ⟨ha,by rw [List.length_map]; exact hl,vs,_,rv,ha⟩
   ·have z':=(if_neg hb).symm.trans z
    cases z'
  ·by_cases hb:b=a
   ·exact hb
   ·exact absurd (if_neg hb) z
end L2
namespace L2
open PySem PySem.Spec PyProof.Rows
theorem JL {l:PySem.W.OpenLaw} {n k:Nat} {q:Program} {loose:List Str} {XP:(Str->Option Value)->Heap->Prop} {YP:World->Heap->Prop} {d:DefRec} {K:Params->PySem.W.Frag} {CX:World->xk} {sp:World->Sp} {x:Str}
  (hn:l.most=some n) (hn2:n<=sizeLine) (hdf:d.params.defaults=[]) (hr:zh k callerA)
  (hY:∀ (w:World) (h:Heap),YP w h->(K w.params).In h)
  (F:∀ (w:World) (mg:Str->Option Value) (fa:Addr) (h:Heap),(K w.params).In h->h.Ns mainGlobals mg->mg d.name=some (.ref fa)->
   ∃ fd:FuncData,(∀ (s:Shared) (u:Value),BindsTo s fd ⟨[u],[]⟩ [(x,u)])∧
    ∀ base:Heap,(K w.params).In base->base.Ns mainGlobals mg->zL l.prog w (K w.params) mg base (CX w) k fa fd [x] (sp w))
  (hsp:∀ (w:World) (H:Hp) (a:Addr) (ns:List Int),ns.length<=n->ud H->zE (K w.params) H a (ns.map V.int)->sp w [.ref a] H (λv _=>v=.bl true) λ_ _ _=>False)
  (hCX:∀ (w:World) (H:Hp) (s:Shared) (e:Value) (s':Shared),CX w [] H s (λ_ _ _=>False) e s'->False) :
  PySem.W.WalkO q loose XP YP l.row.toRowW d [] (λf vs=>PySem.call f vs):=by
 refine Att.attach_call hn hdf λw s₀ s₁ mg mb fa o pm cd doc a vs ns G Y ho hd hcd hmg hobj hints hlen hg=>?_
 have KX:=hY w _ Y
 obtain ⟨fd,hb,hF⟩:=F w mg fa _ KX G.T.g hmg
 exact law_call KX G.T.g G.T.b G.T.builtins G.T.nolimit hg hobj hints (Nat.le_trans hlen hn2) hr hF hb (λH hO hS=>hsp w H a ns hlen hO hS) λH e s'=>hCX w H s₁ e s'
end L2
namespace L2
open PySem PySem.Spec PyProof.Rows
noncomputable def j0 (s:Stmt) (j:Nat):Stmt:=match s with
 | .ClassDef _ _ _ body _ _ _ _ _ _ _=>body.getD j (.Pass ⟨0,0,0,0⟩)
 | _=>.Pass ⟨0,0,0,0⟩
noncomputable def xz (s:Stmt):Arguments:=match s with
 | .FunctionDef _ a _ _ _ _ _ _ _ _=>a
 | _=>{ posonlyargs:=[],args:=[],vararg:=none,kwonlyargs:=[],kw_defaults:=[],kwarg:=none,defaults:=[] }
noncomputable def yS (s:Stmt):List Stmt:=match s with
 | .FunctionDef _ _ b _ _ _ _ _ _ _=>b
 | _=>[]
noncomputable def zY (s:Stmt):Scope:=match s with
 | .FunctionDef _ _ _ _ _ _ sc _ _ _=>sc
 | _=>{ kind:=.function,names:=[],isGenerator:=false,isCoroutine:=false }
noncomputable abbrev zd:xk:=λ_ _ _ _ _ _=>False
noncomputable abbrev E0:XK:=λ_ _ _=>False
theorem gK {X:Cx}:jL zd X E0:=λ_ _ _ _ _ _ _ h=>h.elim
structure zx (K:PySem.W.Frag) (x qual:Str) (st:Stmt) (f:Addr) (fd:FuncData):Prop where
 ex:∃ (oc:Value) (od:Option Addr) (kV doc pm:Value) (an:Option Addr) (cdv ct:Value) (osl:Array (Option Value)),
  fd=PySem.W.fnOf x qual (xz st) (yS st) (zY st) .none kV doc pm an cdv ct/\K.lookup f=some ⟨oc,od,.func fd,osl⟩/\PySem.W.codeIn K cdv qual=true
 kp:PySem.W.keepIn K (.ref f)=true
section
variable {P:Program} {w:World} {K:PySem.W.Frag} {mg:Str->Option Value} {base:Heap}
theorem zx.ok {x qual:Str} {st:Stmt} {f:Addr} {fd:FuncData} {N ps:List Str} {k:Nat} {sp:Sp} (F:zx K x qual st f fd) (S:zw N ps (zY st)) (len:∀ vs H Q E,sp vs H Q E->vs.length=ps.length)
  (hbody:∀ (cdv:Value) (A:Around) (outer:List Env) (s:Shared) (H:Hp) (vs:List V) (Q:VK) (E:XK),zh k (A.deeper (envOfC qual (zY st) s.heap.objs.size f cdv))->sp vs H Q E->
   ∃ t,yb (zJ zd P w K mg base N qual (zY st) f cdv A outer s H E).nox (yS st) t/\t { nx:=λ_ H'=>Q .non H',rt:=Q } (vQ N vs) H):zL P w K mg base zd (k + 1) f fd ps sp:=by
 obtain ⟨oc,od,kV,doc,pm,an,cdv,ct,osl,rfl,lk,hcd⟩:=F.ex
 refine k7 lk hcd S len λA outer s H vs Q E hr hsp=>?_
 obtain ⟨t,h,q⟩:=hbody cdv A outer s H vs Q E hr hsp
 exact ⟨t,h.nox,q⟩
theorem zx.binds {x qual:Str} {st:Stmt} {f:Addr} {fd:FuncData} {ps:List Str} (F:zx K x qual st f fd)
  (h:∀ (kV doc pm:Value) (an:Option Addr) (cdv ct:Value) (us:List Value),us.length=ps.length->bindArgs (PySem.W.fnOf x qual (xz st) (yS st) (zY st) .none kV doc pm an cdv ct) ⟨us,[]⟩=pure (ps.zip us)):xL K fd ps []:=by
 obtain ⟨oc,od,kV,doc,pm,an,cdv,ct,osl,rfl,lk,hcd⟩:=F.ex
 exact .all (h kV doc pm an cdv ct)
theorem Xl {x qual:Str} {st:Stmt} {f:Addr} {oc:Value} {od an:Option Addr} {osl:Array (Option Value)} {kV doc pm cdv ct:Value} (l:K.lookup f=some ⟨oc,od,.func (PySem.W.fnOf x qual (xz st) (yS st) (zY st) .none kV doc pm an cdv ct),osl⟩)
  (c:PySem.W.codeIn K cdv qual=true) (k:PySem.W.keepIn K (.ref f)=true):zx K x qual st f (PySem.W.fnOf x qual (xz st) (yS st) (zY st) .none kV doc pm an cdv ct):=⟨⟨oc,od,kV,doc,pm,an,cdv,ct,osl,rfl,l,c⟩,k⟩
end
theorem yB {n:Nat} (h:n<=1000):n < sizeLine:=Nat.lt_of_le_of_lt h (by decide)
section
variable {X:Cx}
theorem pv (i:Nat) {x:Str} {pos:Pos} (hN:X.N[i]? = some x:=by rfl) (hv:jE X.env.scope x:=by first | exact Or.inl rfl | exact Or.inr (Or.inl rfl) | exact Or.inr (Or.inr rfl)) (hd:(x == ("__debug__" : Str))=false:=by decide)
  (hcd:(x == ("__classdict__" : Str))=false:=by decide):PE X (.Name x pos) (jg i):=Y9 hN hv hd hcd
end
theorem zb {A B:Prop} (h:B):if false=true then A else B:=by
 rw [if_neg Bool.false_ne_true]
 exact h
theorem yR {A B:Prop} (h:A):if true=true then A else B:=by
 rw [if_pos rfl]
 exact h
theorem yX {c A B:Prop} [Decidable c] (h1:c->A) (h2:¬ c->B):if c then A else B:=by
 by_cases h:c
 ·rw [if_pos h]
  exact h1 h
 ·rw [if_neg h]
  exact h2 h
theorem ZH {c A B:Prop} [Decidable c] (hc:c) (h:B):if (!decide c)=true then A else B:=by
 rw [decide_eq_true hc]
 exact zb h
noncomputable def zD (H H':Hp):Prop:=∀ b o,H b=some o->H' b=some o
theorem zD.refl (H:Hp):zD H H:=λ_ _ h=>h
theorem zD.trans {H H1 H2:Hp} (a:zD H H1) (b:zD H1 H2):zD H H2:=λc o h=>b c o (a c o h)
theorem zD.free {H H':Hp} (e:zD H H') {l:Addr} (h:H' l=Option.none):H l=Option.none:=by
 cases q:H l with
 | none=>rfl
 | some o=>
  rw [e l o q] at h
  cases h
theorem zD.seq {K:PySem.W.Frag} {H H':Hp} {a:Addr} {xs:List V} (e:zD H H') (h:zE K H a xs):zE K H' a xs:=by
 rcases h with (h | ⟨o,h⟩) | h
 ·exact .inl (.inl (e _ _ h))
 ·exact .inl (.inr ⟨o,e _ _ h⟩)
 ·exact .inr h
end L2
set_option maxHeartbeats 4000000
namespace Sh
noncomputable def vD (ns:List Int):Int:=ns.foldl (λc n=>(Int.gcd c n:Int)) 0
theorem JM (a b:Int):vD [a,b]=(Int.gcd a b:Int):=by
 show ((Int.gcd (Int.gcd 0 a:Int) b:Nat):Int)=_
 congr 1
 rw [Int.gcd_zero_left,Int.gcd_eq_natAbs_gcd_natAbs,Int.gcd_eq_natAbs_gcd_natAbs,Int.natAbs_natCast]
theorem Xm (ns:List Int) (n:Int):vD (ns++[n])=(Int.gcd (vD ns) n:Int):=by
 unfold vD
 rw [List.foldl_append]
 rfl
theorem JN (ns:List Int):0<=vD ns:=by
 rcases List.eq_nil_or_concat ns with rfl | ⟨l,a,rfl⟩
 ·exact Int.le_refl 0
 ·rw [List.concat_eq_append,Xm]
  exact Int.natCast_nonneg _
theorem Xn (c r:Int):Int.gcd r (c.fmod r)=Int.gcd c r:=by
 rw [Int.fmod_def,Int.gcd_sub_mul_left_right,Int.gcd_comm]
theorem JO {c r:Int} (h:r≠0):(c.fmod r).natAbs < r.natAbs:=by
 rcases Int.lt_or_gt_of_ne h with hr | hr
 ·have e:c.fmod r = -((-c).fmod (-r)):=by rw [Int.neg_fmod_neg,Int.neg_neg]
  have h1:=Int.fmod_nonneg_of_pos (-c) (b:=-r) (by omega)
  have h2:=Int.fmod_lt_of_pos (-c) (b:=-r) (by omega)
  omega
 ·have h1:=Int.fmod_nonneg_of_pos c hr
  have h2:=Int.fmod_lt_of_pos c hr
  omega
theorem JP (i:Int):(if i < 0 then -i else i)=(i.natAbs:Int):=by
 split <;> omega
theorem JQ (c i:Int):Int.gcd c (if i < 0 then -i else i)=Int.gcd c i:=by
 split
 ·rw [Int.gcd_neg]
 ·rfl
noncomputable def cm (t b:Int):Int:=if b < 0 then -(Int.gcd t b:Int) else (Int.gcd t b:Int)
noncomputable def zZ (t b:Int):Int:=t.fdiv (cm t b)
noncomputable def zR (t b:Int):Int:=b.fdiv (cm t b)
theorem ZI {t b:Int} (h:b≠0):0 < (Int.gcd t b:Int):=by
 have:0 < Int.gcd t b:=Int.gcd_pos_of_ne_zero_right _ h
 omega
theorem ZJ {t b:Int} (h:b≠0):cm t b≠0:=by
 have:=ZI (t:=t) h
 unfold cm
 split <;> omega
theorem JR (t b:Int):cm t b ∣ t:=by
 unfold cm
 split
 ·exact Int.neg_dvd.mpr (Int.gcd_dvd_left t b)
 ·exact Int.gcd_dvd_left t b
theorem JS (t b:Int):cm t b ∣ b:=by
 unfold cm
 split
 ·exact Int.neg_dvd.mpr (Int.gcd_dvd_right t b)
 ·exact Int.gcd_dvd_right t b
theorem Xo (t b:Int):zZ t b * cm t b=t:=Int.fdiv_mul_cancel (JR t b)
theorem ZK (t b:Int):zR t b * cm t b=b:=Int.fdiv_mul_cancel (JS t b)
theorem uA {t b:Int} (h:b≠0):0 < zR t b:=by
 have e:=ZK t b
 have g:=ZI (t:=t) h
 rcases Int.lt_trichotomy (zR t b) 0 with hl | hl | hl
 ·exfalso
  unfold cm at e
  split at e
  ·rename_i hb
   have:=Int.mul_pos_of_neg_of_neg hl (show -(Int.gcd t b:Int) < 0 by omega)
   omega
  ·have:=Int.mul_neg_of_neg_of_pos hl g
   omega
 ·exfalso
  rw [hl,Int.zero_mul] at e
  omega
 ·exact hl
theorem Xp {t b:Int} (h:b≠0):Int.gcd (zZ t b) (zR t b)=1:=by
 have g:=ZI (t:=t) h
 have e:Int.gcd (cm t b * zZ t b) (cm t b * zR t b)=(cm t b).natAbs * Int.gcd (zZ t b) (zR t b):=Int.gcd_mul_left _ _ _
 rw [Int.mul_comm (cm t b),Int.mul_comm (cm t b),Xo,ZK] at e
 have c:(cm t b).natAbs=Int.gcd t b:=by
  unfold cm
  split
  ·rw [Int.natAbs_neg,Int.natAbs_natCast]
  ·rw [Int.natAbs_natCast]
 rw [c] at e
 have g':0 < Int.gcd t b:=by omega
 exact Nat.eq_of_mul_eq_mul_left g' (by rw [Nat.mul_one]; exact e.symm)
theorem jM {t b:Int} (h:b≠0):zZ t b * b=t * zR t b:=by
 have e1:=Xo t b
 have e2:=ZK t b
 calc zZ t b * b=zZ t b * (zR t b * cm t b):=by rw [e2]
  _=(zZ t b * cm t b) * zR t b:=by rw [Int.mul_assoc,Int.mul_comm (zR t b)]
  _=t * zR t b:=by rw [e1]
theorem JT {t b:Int} (h:0 < b):cm t b=(Int.gcd t b:Int):=by
 unfold cm
 rw [if_neg (by omega)]
end Sh
namespace Sh
noncomputable def xf (st:Int × Int) (p:Int × Int × Int):Int × Int:=(st.1 * p.2.2 + p.1 * p.2.1 * st.2,st.2 * p.2.2)
noncomputable def xP (ws:List Int) (pts:List (Int × Int)):Int × Int:=(ws.zip pts).foldl xf (0,1)
noncomputable def xQ (l:List (Int × Int × Int)):Int:=(l.map λp=>p.2.2).foldl (· * ·) 1
theorem JU (l:List Int) (c:Int):l.foldl (· * ·) c=c * l.foldl (· * ·) 1:=by
 induction l generalizing c with
 | nil=>simp
 | cons a r ih=>
  rw [List.foldl_cons,List.foldl_cons,ih (c * a),ih (1 * a),Int.one_mul,Int.mul_assoc]
theorem ZL (p:Int × Int × Int) (l:List (Int × Int × Int)):xQ (p :: l)=p.2.2 * xQ l:=by
 unfold xQ
 rw [List.map_cons,List.foldl_cons,JU,Int.one_mul]
noncomputable def xF (R:Int) (l:List (Int × Int × Int)):Int:=(l.map λp=>p.1 * p.2.1 * (R.fdiv p.2.2)).sum
theorem JV {l:List (Int × Int × Int)} (h:∀ p∈l,0 < p.2.2):0 < xQ l:=by
 induction l with
 | nil=>decide
 | cons p r ih=>
  rw [ZL]
  exact Int.mul_pos (h p List.mem_cons_self) (ih λq hq=>h q (List.mem_cons_of_mem _ hq))
theorem JW {l:List (Int × Int × Int)} {p:Int × Int × Int} (h:p∈l):p.2.2 ∣ xQ l:=by
 induction l with
 | nil=>cases h
 | cons q r ih=>
  rw [ZL]
  rcases List.mem_cons.mp h with rfl | h
  ·exact Int.dvd_mul_right _ _
  ·exact Int.dvd_trans (ih h) (Int.dvd_mul_left _ _)
theorem Xq {b:Int} {R:Int}:∀ {l:List (Int × Int × Int)},(∀ p∈l,p.2.2 ∣ R/\p.2.2≠0)->xF (b * R) l=b * xF R l
 | [],_=>by unfold xF; simp
 | p :: r,h=>by
  have ih:=Xq (b:=b) (R:=R) (l:=r) λq hq=>h q (List.mem_cons_of_mem _ hq)
  obtain ⟨⟨c,hc⟩,nz⟩:=h p List.mem_cons_self
  have e1:R.fdiv p.2.2=c:=by rw [hc]; exact Int.mul_fdiv_cancel_left _ nz
  have e2:(b * R).fdiv p.2.2=b * c:=by
   rw [hc,show b * (p.2.2 * c)=p.2.2 * (b * c) from by rw [<- Int.mul_assoc,Int.mul_comm b,Int.mul_assoc]]
   exact Int.mul_fdiv_cancel_left _ nz
  unfold xF at ih |-
  rw [List.map_cons,List.sum_cons,List.map_cons,List.sum_cons,ih,e1,e2,Int.mul_add]
  congr 1
  rw [<- Int.mul_assoc,<- Int.mul_assoc,Int.mul_comm (p.1 * p.2.1) b,Int.mul_assoc b]
theorem Xr:∀ (l:List (Int × Int × Int)) (T B:Int),(∀ p∈l,0 < p.2.2)->l.foldl xf (T,B)=(T * xQ l + B * xF (xQ l) l,B * xQ l)
 | [],T,B,_=>by
  show (T,B)=(T * 1 + B * 0,B * 1)
  simp
 | p :: r,T,B,h=>by
  have hr:∀ q∈r,0 < q.2.2:=λq hq=>h q (List.mem_cons_of_mem _ hq)
  have hp:=h p List.mem_cons_self
  rw [List.foldl_cons,xf,Xr r _ _ hr,ZL]
  have s1:xF (p.2.2 * xQ r) (p :: r)=p.1 * p.2.1 * xQ r + p.2.2 * xF (xQ r) r:=by
   have s2:=Xq (b:=p.2.2) (R:=xQ r) (l:=r) λq hq=>⟨JW hq,Int.ne_of_gt (hr q hq)⟩
   unfold xF at s2 |-
   rw [List.map_cons,List.sum_cons,s2,Int.mul_fdiv_cancel_left _ (Int.ne_of_gt hp)]
  rw [s1]
  refine Prod.ext ?_ ?_
  ·show (T * p.2.2 + p.1 * p.2.1 * B) * xQ r + B * p.2.2 * xF (xQ r) r=T * (p.2.2 * xQ r) + B * (p.1 * p.2.1 * xQ r + p.2.2 * xF (xQ r) r)
   rw [Int.add_mul,Int.mul_add,Int.mul_assoc T,Int.mul_assoc B,Int.mul_comm (p.1 * p.2.1) B,Int.mul_assoc B]
   omega
  ·show B * p.2.2 * xQ r=B * (p.2.2 * xQ r)
   rw [Int.mul_assoc]
theorem JX (ws:List Int) (pts:List (Int × Int)) (h:∀ p∈pts,0 < p.2):xP ws pts=(xF (xQ (ws.zip pts)) (ws.zip pts),xQ (ws.zip pts)):=by
 unfold xP
 rw [Xr _ _ _ (λp hp=>h p.2 (List.of_mem_zip hp).2)]
 simp
theorem gcd_one (x:Int):Int.gcd x 1=1:=Int.gcd_one
theorem JY (x:Int):zZ x 1=x:=by
 unfold zZ cm
 rw [if_neg (by decide),gcd_one]
 exact Int.fdiv_one x
theorem JZ (x:Int):zR x 1=1:=by
 unfold zR cm
 rw [if_neg (by decide),gcd_one]
 decide
end Sh
namespace L2
open PySem
noncomputable def vE (env:Env) (cs:List (Str × Addr)) (p:Str × NameKind):List (Str × Addr):=if (p.2 == .free)=true then (p.1,(env.cells.lookup p.1).getD 0) :: cs else cs
noncomputable def ue (scope:Scope) (env:Env):List (Str × Addr):=scope.names.foldl (vE env) []
theorem Ja {env:Env}:∀ (names:List (Str × NameKind)) (cs:List (Str × Addr)),(∀ p∈names,p.2=.free->(env.cells.lookup p.1).isSome=true)->
  (forIn names cs (λ(p:Str × NameKind) (r:List (Str × Addr))=>(if (p.2 == .free)=true then do let a <- cellOf env p.1; pure (ForInStep.yield ((p.1,a) :: r)) else pure (ForInStep.yield r):Sem (ForInStep (List (Str × Addr))))))=pure (names.foldl (vE env) cs):=by
 intro names
 induction names with
 | nil=>intro cs _; rfl
 | cons p r ih=>
  intro cs h
  obtain ⟨n,k⟩:=p
  rw [List.forIn_cons]
  by_cases hk:k=.free
  ·subst hk
   obtain ⟨c,hc⟩:=Option.isSome_iff_exists.mp (h (n,.free) List.mem_cons_self rfl)
   have e:cellOf env n=pure c:=by unfold cellOf; dsimp only at hc; rw [hc]
   have z:vE env cs (n,.free)=(n,c) :: cs:=by unfold vE; dsimp only at hc |-; rw [hc]; rfl
   simp only [e,beq_self_eq_true,if_true,pure_bind,List.foldl_cons,z]
   exact ih _ λq hq=>h q (List.mem_cons_of_mem _ hq)
  ·have b:(k == NameKind.free)=false:=by simpa using hk
   have z:vE env cs (n,k)=cs:=by unfold vE; dsimp only; rw [b]; rfl
   simp only [b,Bool.false_eq_true,if_false,pure_bind,List.foldl_cons,z]
   exact ih _ λq hq=>h q (List.mem_cons_of_mem _ hq)
theorem Xs {scope:Scope} {env:Env} (h:∀ p∈scope.names,p.2=.free->(env.cells.lookup p.1).isSome=true):closureFor scope env=pure (ue scope env):=by
 unfold closureFor ue
 have:=Ja scope.names [] h
 exact (congrArg (λm=>m >>= λr=>pure r) this).trans rfl
theorem Jb {env:Env}:∀ (names:List (Str × NameKind)) (cs:List (Str × Addr)) (x:Str) (c:Addr),(x,c)∈names.foldl (vE env) cs->(x,c)∈cs\/((x,NameKind.free)∈names/\c=(env.cells.lookup x).getD 0):=by
 intro names
 induction names with
 | nil=>intro cs x c h; exact .inl h
 | cons p r ih=>
  intro cs x c h
  obtain ⟨n,k⟩:=p
  rw [List.foldl_cons] at h
  rcases ih _ x c h with h1 | ⟨h1,h2⟩
  ·unfold vE at h1
   dsimp only at h1
   by_cases hk:k=.free
   ·subst hk
    simp only [beq_self_eq_true,if_true] at h1
    rcases List.mem_cons.mp h1 with e | h1
    ·injection e with e1 e2
     subst e1; subst e2
     exact .inr ⟨List.mem_cons_self,rfl⟩
    ·exact .inl h1
   ·have b:(k == NameKind.free)=false:=by simpa using hk
    simp only [b,Bool.false_eq_true,if_false] at h1
    exact .inl h1
  ·exact .inr ⟨List.mem_cons_of_mem _ h1,h2⟩
theorem gL {α β:Type} [BEq α] [LawfulBEq α]:∀ {l:List (α × β)} {a:α} {b:β},l.lookup a=some b->(a,b)∈l
 | [],_,_,h=>by simp at h
 | (x,y) :: r,a,b,h=>by
  rw [List.lookup_cons] at h
  by_cases e:a=x
  ·subst e
   simp only [beq_self_eq_true,if_true] at h
   cases h
   exact List.mem_cons_self
  ·have:(a == x)=false:=by simpa using e
   simp only [this] at h
   exact List.mem_cons_of_mem _ (gL h)
theorem Xu {α β:Type} [BEq α] [LawfulBEq α]:∀ {l:List (α × β)} {a:α} {b:β},(a,b)∈l->∃ c,l.lookup a=some c
 | [],_,_,h=>by cases h
 | (x,y) :: r,a,b,h=>by
  rw [List.lookup_cons]
  by_cases e:a=x
  ·subst e
   exact ⟨y,by simp⟩
  ·have z:(a == x)=false:=by simpa using e
   rcases List.mem_cons.mp h with q | q
   ·injection q with q1 _; exact absurd q1 e
   ·obtain ⟨c,hc⟩:=Xu q
    exact ⟨c,by simp only [z]; exact hc⟩
theorem Jc {env:Env}:∀ (names:List (Str × NameKind)) (cs:List (Str × Addr)) (x:Str),((x,NameKind.free)∈names\/∃ c,(x,c)∈cs)->∃ c,(x,c)∈names.foldl (vE env) cs:=by
 intro names
 induction names with
 | nil=>
  intro cs x h
  rcases h with h | h
  ·cases h
  ·exact h
 | cons p r ih=>
  intro cs x h
  rw [List.foldl_cons]
  refine ih _ x ?_
  rcases h with h | ⟨c,h⟩
  ·rcases List.mem_cons.mp h with e | h
   ·subst e
    exact .inr ⟨_,by unfold vE; simp only [beq_self_eq_true,if_true]; exact List.mem_cons_self⟩
   ·exact .inl h
  ·refine .inr ⟨c,?_⟩
   unfold vE
   split
   ·exact List.mem_cons_of_mem _ h
   ·exact h
theorem uB {scope:Scope} {env:Env} (h:∀ p∈scope.names,p.2=.free->(env.cells.lookup p.1).isSome=true) {x:Str} {c:Addr} (e:(ue scope env).lookup x=some c) :
  env.cells.lookup x=some c/\(x,NameKind.free)∈scope.names:=by
 rcases Jb scope.names [] x c (gL e) with z | ⟨z,q⟩
 ·cases z
 ·obtain ⟨d,hd⟩:=Option.isSome_iff_exists.mp (h _ z rfl)
  dsimp only at hd
  rw [hd] at q
  exact ⟨by rw [hd,q]; rfl,z⟩
theorem Xv {scope:Scope} {env:Env} {x:Str} (h:(x,NameKind.free)∈scope.names):∃ c,(ue scope env).lookup x=some c:=by
 obtain ⟨c,hc⟩:=Jc (env:=env) scope.names [] x (.inl h)
 exact Xu hc
end L2
namespace L2
open PySem
section
variable {prog:Program} {w:World} {A:Around} {R:Result->Shared->Prop} {s:Shared}
theorem Jd {elt target iter:Expr} {scope:Scope} {pos:Pos} {it acc:Value} {env:Env} (Wd:Nat->Shared->Prop)
  (turn:∀ n s,Wd n s->wpAny (model prog w) A (pyNext it) (λr s1=>match r with
   | none=>R (.ok .next) s1
   | some v=>wpAny (model prog w) A (letOwnedTupleGo target it v) (λ_ s2=>wpAny (model prog w) A (assign target env v) (λ_ s3=>wpAny (model prog w) A (eval elt env) (λx s4=>
     wpAny (model prog w) A (call (.builtin "list.append") [acc,x]) (λ_ s5=>∃ m,m < n/\Wd m s5) (λ_ _=>False) s4) (λ_ _=>False) s3) (λ_ _=>False) s2) (λ_ _=>False) s1) (λ_ _=>False) s)
  (n:Nat) (h:Wd n s):codeAny (model prog w) A (.compLoop (.ListComp elt [⟨target,iter,[],0⟩] scope pos) 0 it acc env) R s:=by
 refine codeAny_loop rfl Wd (λn s hI=>?_) n h
 show wpAny _ _ (Sem.onRaise (compTurn (.ListComp elt [⟨target,iter,[],0⟩] scope pos) 0 it acc env) _) _ _ s
 refine wpAny_noted ?_
 rw [compTurn_list1]
 refine wpAny_bind (wpAny_standAt (wpAny_bind (wpAny_mono (turn n s hI) (λr s1 h1=>?_) λ_ _ z=>False.elim z)))
 cases r with
 | none=>exact wpAny_pure h1
 | some v=>
  refine wpAny_bind (wpAny_mono h1 (λ_ s2 h2=>?_) λ_ _ z=>False.elim z)
  refine wpAny_bind (wpAny_mono h2 (λ_ s3 h3=>?_) λ_ _ z=>False.elim z)
  refine wpAny_bind (wpAny_bind (wpAny_mono h3 (λx s4 h4=>?_) λ_ _ z=>False.elim z))
  exact wpAny_bind (wpAny_mono h4 (λ_ s5 h5=>wpAny_pure (wpAny_pure ⟨rfl,h5⟩)) λ_ _ z=>False.elim z)
end
end L2
namespace L2
open PySem PySem.Spec PyProof.Rows
noncomputable def Bd (n:Nat) (i:Int):Prop:=i.natAbs < 2 ^ n
theorem Bd.mono {n m:Nat} {i:Int} (h:Bd n i) (k:n<=m:=by decide):Bd m i:=Nat.lt_of_lt_of_le h (Nat.pow_le_pow_right (by decide) k)
theorem Bd.of_le {n:Nat} {i j:Int} (h:Bd n j) (k:i.natAbs<=j.natAbs):Bd n i:=Nat.lt_of_le_of_lt k h
theorem Bd.mul {n m:Nat} {i j:Int} (h:Bd n i) (k:Bd m j):Bd (n + m) (i * j):=by
 unfold Bd
 rw [Int.natAbs_mul,Nat.pow_add]
 rcases Nat.eq_zero_or_pos j.natAbs with z | z
 ·rw [z,Nat.mul_zero]
  exact Nat.mul_pos (Nat.two_pow_pos _) (Nat.two_pow_pos _)
 ·exact Nat.lt_of_lt_of_le (Nat.mul_lt_mul_of_pos_right h z) (Nat.mul_le_mul_left _ (Nat.le_of_lt k))
theorem Bd.add {n:Nat} {i j:Int} (h:Bd n i) (k:Bd n j):Bd (n + 1) (i + j):=by
 have h':i.natAbs < 2 ^ n:=h
 have k':j.natAbs < 2 ^ n:=k
 unfold Bd
 rw [Nat.pow_succ]
 have:=Int.natAbs_add_le i j
 omega
theorem Bd.neg {n:Nat} {i:Int} (h:Bd n i):Bd n (-i):=by
 unfold Bd
 rw [Int.natAbs_neg]
 exact h
theorem Bd.sub {n:Nat} {i j:Int} (h:Bd n i) (k:Bd n j):Bd (n + 1) (i - j):=by
 rw [Int.sub_eq_add_neg]
 exact h.add k.neg
theorem Bd.lit {n:Nat} {i:Int} (h:i.natAbs < 2 ^ n:=by decide):Bd n i:=h
theorem Bd.bits {n:Nat} {i:Int} (h:Bd n i):Builtin.Int.intBits i<=n:=by
 have h':i.natAbs < 2 ^ n:=h
 unfold Builtin.Int.intBits
 split
 ·exact Nat.zero_le _
 ·rename_i z
  have nz:i.natAbs≠0:=by
   intro q
   apply z
   rw [Int.natAbs_eq_zero.mp q]
   rfl
  exact (Nat.log2_lt nz).mpr h'
theorem Bd.fdiv {n:Nat} {i:Int} (h:Bd n i) (j:Int):Bd n (i.fdiv j):=
 h.of_le (Int.natAbs_fdiv_le_natAbs i j)
noncomputable def ZM (i j:Int):Prop:=Bd 60000 i/\Bd 60000 j
noncomputable def j1 (_ j:Int):Prop:=j≠0/\Bd 8000 j
section
variable {X:Cx}
theorem ZM.ok {i j:Int} (h:ZM i j):IntMulOk i j:=by
 have h1:=h.1.bits
 have h2:=h.2.bits
 have hc:Builtin.Int.intTooBig (Builtin.Int.intBits i + Builtin.Int.intBits j)=false:=by
  unfold Builtin.Int.intTooBig
  rw [bitsLine_eq]
  exact decide_eq_false (by omega)
 unfold IntMulOk
 rw [hc]
 simp
theorem yf:yU X (binaryOp .Mult) (rI ZM λi j=>.int (i * j)):=gE λ_ _ _ _ _ _ _ hc q=>mul_int q hc.ok
theorem wd:yU X (binaryOp .FloorDiv) (rI j1 λi j=>.int (i.fdiv j)):=gE λ_ _ _ _ _ _ _ hc q=>by
 refine floordiv_int hc.1 q (.inl (PyProof.noPylong_of_log2 ?_))
 have h':_ < 2 ^ 8000:=hc.2
 have nz:_≠0:=λz=>hc.1 (Int.natAbs_eq_zero.mp z)
 exact Nat.lt_trans ((Nat.log2_lt nz).mpr h') (by decide)
end
section
variable {X:Cx}
noncomputable def j2 (K:PySem.W.Frag):List V->Hp->VK->Prop:=λxs H Q=>∃ x c t b,xs=[x,.ty c]/\yW K H x t/\PySem.W.kitOne K t (.type c)=some b/\Q (.bl b) H
theorem Je:yw X (.builtin "isinstance") (j2 X.K):=by
 intro pins s σ H xs us Q I r h
 obtain ⟨x,c,t,b,rfl,ty,e,q⟩:=h
 obtain ⟨u,v,rfl,ru,rv⟩:=uZ r
 cases (show v=Value.type c from rv)
 exact XT I ru ty e λtk=>⟨.bl b,H,I.tok tk,rfl,q⟩
end
mutual
inductive Dp (K:PySem.W.Frag) (H:Hp):V->PyData->Prop where
 | non:Dp K H .non .none
 | bl (b:Bool):Dp K H (.bl b) (.bool b)
 | int (i:Int):Dp K H (.int i) (.int i)
 | str (x:Str):Dp K H (.str x) (.str x)
 | lst {a:Addr} {xs:List V} {ds:List PyData} (e:zE K H a xs) (h:wT K H xs ds):Dp K H (.ref a) (.list ds)
 | tup {a:Addr} {xs:List V} {ds:List PyData} (e:zS K H a xs) (h:wT K H xs ds):Dp K H (.ref a) (.tuple ds)
inductive wT (K:PySem.W.Frag) (H:Hp):List V->List PyData->Prop where
 | nil:wT K H [] []
 | cons {x:V} {xs:List V} {d:PyData} {ds:List PyData} (h:Dp K H x d) (t:wT K H xs ds):wT K H (x :: xs) (d :: ds)
end
section
variable {X:Cx} {pins:List (Addr × Obj)} {σ:St} {H:Hp} {s:Shared}
mutual
theorem Dp.reads (I:zF X pins σ H s):∀ {x:V} {d:PyData} {u:Value},Dp X.K H x d->zQ x u->∃ as,Reads s.heap u d as
 | _,_,_,.non,r=>by cases r; exact ⟨_,.none⟩
 | _,_,_,.bl b,r=>by cases r; exact ⟨_,.bool b⟩
 | _,_,_,.int i,r=>by obtain ⟨t,rfl⟩:=r; exact ⟨_,.int i t⟩
 | _,_,_,.str x,r=>by obtain ⟨t,rfl⟩:=r; exact ⟨_,.str x t⟩
 | _,_,_,.lst e h,r=>by
  cases r
  obtain ⟨its,rv,⟨o,n,e1,e2,_,e3⟩,_⟩:=I.list e
  obtain ⟨as,q⟩:=wT.reads I h rv
  exact ⟨_,.list e1 e2 e3 (by simpa using q)⟩
 | _,_,_,.tup e h,r=>by
  cases r
  obtain ⟨its,rv,⟨o,e1,e2,n,e3⟩,_⟩:=I.tuple e
  obtain ⟨as,q⟩:=wT.reads I h rv
  exact ⟨_,.tuple e1 e2 e3 (by simpa using q)⟩
theorem wT.reads (I:zF X pins σ H s):∀ {xs:List V} {ds:List PyData} {us:List Value},wT X.K H xs ds->zM xs us->∃ as,ReadsAll s.heap us ds as
 | _,_,_,.nil,r=>by cases r; exact ⟨_,.nil⟩
 | _,_,_,.cons h t,r=>by
  cases r with
  | cons r1 r2=>
   obtain ⟨_,q1⟩:=Dp.reads I h r1
   obtain ⟨_,q2⟩:=wT.reads I t r2
   exact ⟨_,.cons q1 q2⟩
end
end
section
variable {X:Cx}
noncomputable def Xw (K:PySem.W.Frag) (b:Bool):R2:=λx y H Q=>∃ d:PyData,Dp K H x d/\Dp K H y d/\d.canLay0=true/\d.depth<=60/\Q (.bl b) H
theorem ZO (hu:X.A.units + 64 < cLine):yU X (compareOp .Eq) (Xw X.K true):=by
 intro pins s σ H x y v u Q I rx ry h
 obtain ⟨d,hx,hy,hc,hd,q⟩:=h
 obtain ⟨_,r1⟩:=hx.reads I rx
 obtain ⟨_,r2⟩:=hy.reads I ry
 refine SeqAt.rcAt_reads r1 r2 hc hc (by rw [Nat.min_self]; omega) _ _ _ _ ⟨.bl true,H,I,?_,q⟩
 rw [SeqAt.eqv_refl d hc]
 rfl
theorem Xx (hu:X.A.units + 64 < cLine):yU X (compareOp .NotEq) (Xw X.K false):=by
 intro pins s σ H x y v u Q I rx ry h
 obtain ⟨d,hx,hy,hc,hd,q⟩:=h
 obtain ⟨_,r1⟩:=hx.reads I rx
 obtain ⟨_,r2⟩:=hy.reads I ry
 refine SeqAt.compareNe_reads r1 r2 hc hc (by rw [Nat.min_self]; omega) ⟨.bl false,H,I,?_,q⟩
 rw [SeqAt.eqv_refl d hc]
 rfl
end
section
variable {X:Cx}
theorem vg (hc:X.calm=true):yw X (.builtin "all") (λxs H Q=>∃ (p:Addr) (bs:List Bool),xs=[.ref p]/\zE X.K H p (bs.map V.bl)/\Q (.bl (bs.all id)) H):=by
 intro pins s σ H xs us Q I r h
 obtain ⟨p,bs,rfl,hq,q⟩:=h
 obtain ⟨u,rfl,ru⟩:=jK r
 cases ru
 obtain ⟨its,rv,pl,hz⟩:=I.list hq
 have hh:X.A.in1.handled=none:=I.ok.hd hc
 have hlt:p < s.heap.objs.size:=by obtain ⟨o,n,e,_⟩:=pl; exact Heap.lt_size e
 refine call_all_walk (wpAny_pyIter_list pl.isList ?_)
 have hlen:its.length=bs.length:=by rw [<- rv.length,List.length_map]
 refine ⟨s.heap.objs.size,_,_,_,_,_,λi=>bs.getD i true,rfl,Walks.list hh s.heap.objs.size p (Nat.ne_of_lt hlt) its.toArray,⟨⟨_,Heap.get?_push_size _ rfl,rfl,rfl⟩,pl.isList.push _⟩,?_,λh' tk kk=>?_⟩
 ·intro i v s' Q' E' hP hQ'
  have e1:its[i]? = some v:=by simpa using hP
  have hi:i < its.length:=(List.getElem?_eq_some_iff.mp e1).1
  have hb:(bs.map V.bl)[i]? = some (.bl (bs.getD i true)):=by
   rw [List.getElem?_map,List.getElem?_eq_getElem (by omega),List.getD_eq_getElem?_getD,List.getElem?_eq_getElem (by omega)]
   rfl
  obtain ⟨u',e2,r2⟩:=rv.get hb
  rw [e1] at e2
  cases e2
  cases r2
  exact wpAny_truthy_bool hQ'
 ·have e:(List.range its.toArray.size).all (λi=>bs.getD i true)=bs.all id:=by
   rw [List.size_toArray,hlen]
   rw [Bool.eq_iff_iff,List.all_eq_true,List.all_eq_true]
   constructor
   ·intro z b hb
    obtain ⟨i,hi,rfl⟩:=List.mem_iff_getElem.mp hb
    have:=z i (List.mem_range.mpr hi)
    rw [List.getD_eq_getElem?_getD,List.getElem?_eq_getElem hi] at this
    exact this
   ·intro z i hi
    have hi':=List.mem_range.mp hi
    rw [List.getD_eq_getElem?_getD,List.getElem?_eq_getElem hi']
    exact z _ (List.getElem_mem hi')
  refine ⟨.bl (bs.all id),H,I.kept (h':=h') (t':=tk) λb o eb=>kk b o ?_ (Heap.get?_push_of_some _ eb),?_,q⟩
  ·intro hb
   have:b=s.heap.objs.size:=by simpa using hb
   rw [this] at eb
   exact absurd (Heap.lt_size eb) (Nat.lt_irrefl _)
  ·rw [e]
   rfl
end
end L2
namespace L2
open PySem PySem.Spec PyProof.Rows
noncomputable abbrev xm (X:Cx) (scope:Scope) (N:List Str) (C:Addr) (s₀:Shared) (H₀:Hp) (ex:List Addr):Cx:=
 { X with N:=N,s₀:=s₀,H₀:=H₀,env:=compEnvC scope (ue scope X.env) C X.env,outer:=X.stack,ex:=ex,fn:=λ_=>false,pn:=[],xe:=λ_ _=>False }
noncomputable def vh (own:List Str) (caps:List (Nat × Str)) (σ:St):St:=own.map (λ_=>none)++caps.map λp=>(σ[p.1]?).getD none
noncomputable abbrev yI (own:List Str) (caps:List (Nat × Str)):List Str:=own++caps.map (·.2)
structure uf (X:Cx) (scope:Scope) (own:List Str) (caps:List (Nat × Str)):Prop where
 kind:scope.kind=.function
 ncell:∀ y∈scope.names,y.2≠.cell
 locs:∀ y∈scope.names,y.2=.local->scope.names.lookup y.1=some .local
 free:∀ y∈scope.names,y.2=.free->(X.env.cells.lookup y.1).isSome=true
 caps:∀ p∈caps,X.N[p.1]? = some p.2/\scope.names.lookup p.2=some .free/\(X.env.kindOf p.2=some .cell\/X.env.kindOf p.2=some .free)
theorem Xy {scope:Scope} {env:Env} {x:Str}:(relabel scope env).names.lookup x=(scope.names.lookup x).map λk=>if (k == .free && env.scope.kind == .function && env.kindOf x == some .cell)=true then .cell else k:=by
 unfold relabel
 generalize scope.names=l
 induction l with
 | nil=>rfl
 | cons p r ih=>
  obtain ⟨n,k⟩:=p
  rw [List.map_cons]
  by_cases e:x=n
  ·subst e
   by_cases c:(k == NameKind.free && env.scope.kind == .function && env.kindOf x == some .cell)=true
   ·simp only [c,if_true,List.lookup_cons,beq_self_eq_true,Option.map_some]
   ·simp only [c,if_false,List.lookup_cons,beq_self_eq_true,Option.map_some,Bool.false_eq_true]
  ·have z:(x == n)=false:=by simpa using e
   dsimp only
   split <;> simp only [List.lookup_cons,z] <;> exact ih
theorem Jf {scope:Scope} {env:Env} {x:Str} (nc:∀ y∈scope.names,y.2≠.cell) (h:(relabel scope env).names.lookup x=some .cell\/(relabel scope env).names.lookup x=some .free):(x,NameKind.free)∈scope.names:=by
 rw [Xy] at h
 cases e:scope.names.lookup x with
 | none=>rw [e] at h; rcases h with h | h <;> cases h
 | some k=>
  have m:=gL e
  rw [e] at h
  simp only [Option.map_some,Option.some.injEq] at h
  have kf:k=.free:=by
   rcases h with h | h
   ·split at h
    ·rename_i q
     exact eq_of_beq (Bool.and_eq_true_iff.mp (Bool.and_eq_true_iff.mp q).1).1
    ·exact absurd h (nc _ m)
   ·split at h
    ·cases h
    ·exact h
  rw [<- kf]
  exact m
noncomputable def j3 (J:It) (g:TG) (te:TE) (Q:VK) (σ0:St) (H1:Hp):Prop:=∃ W:Nat->Nat->List V->St->Hp->Prop,(∃ m,W 0 m [] σ0 H1)∧
 ∀ i m ys σ1 H,W i m ys σ1 H->(J.stop i H/\∀ p,H p=none->Q (.ref p) (upd H p (.lst ys)))∨
  (J.go i H/\ys.length < sizeLine/\∃ N:V->St->Hp->Prop,(∀ y σ' H',N y σ' H'->∃ m',m' < m/\W (i + 1) m' (ys++[y]) σ' H')/\∀ x H',J.yld i H x H'->g x σ1 H' λσ2 H2=>te σ2 H2 λy H3=>N y σ2 H3)
noncomputable def Xz (own:List Str) (caps:List (Nat × Str)) (wi:TI) (g:TG) (te:TE):TE:=λσ H Q=>wi σ H λJ H1=>j3 J g te Q (vh own caps σ) H1
section
variable {X:Cx} {scope:Scope} {own:List Str} {caps:List (Nat × Str)} {pins:List (Addr × Obj)} {σ:St} {H:Hp} {s s4:Shared} {C D:Addr} {fp:List Addr}
theorem Jg (B:uf X scope own caps) (I:zF X pins σ H s) (hf:∀ b∈fp,yc X pins H b) (hC:s.heap.objs.size<=C) (hlt:∀ b∈fp,b < s.heap.objs.size):(xm X scope (yI own caps) C s H fp).Ok where
 mod:=I.ok.mod
 kind:=B.kind
 glob:=I.ok.glob
 blt:=I.ok.blt
 above:=hC
 inj:=λx y c h1 h2=>I.ok.inj x y c (uB B.free h1).1 (uB B.free h2).1
 has:=λx h=>Xv (Jf B.ncell h)
 cab:=λx c h _=>by cases h
 hd:=I.ok.hd
 frames:=I.ok.frames
 stk:=.inl rfl
 exf:=λb hb=>⟨λe=>by have:=hlt b hb; rw [e] at this; exact absurd (Nat.lt_of_lt_of_le this hC) (Nat.lt_irrefl _),λx c e=>(hf b hb).2.2.2.2.1 x c (uB B.free e).1⟩
 bs:=I.bs
 bsz:=Nat.le_trans I.ok.bsz I.sz
 noex:=λb o e hb=>by
  rcases (hf b hb).2.2.2.1 with z | z
  ·exact I.ok.noex b o e z
  ·exact absurd (Nat.lt_of_lt_of_le (Heap.lt_size e) (Nat.le_trans I.ok.bsz z)) (Nat.lt_irrefl _)
 exfs:=λb hb z=>by
  rcases List.mem_cons.mp (I.stkSub b z) with e | z
  ·exact (hf b hb).2.1 e
  ·exact (hf b hb).2.2.1 z
 funs:=I.stack
 frf:=I.stkFree
theorem Jh {i:Nat} {x:Str} {v:V} (h1:(yI own caps)[i]? = some x) (h2:(vh own caps σ)[i]? = some (some v)):∃ j,(j,x)∈caps/\σ[j]? = some (some v):=by
 unfold vh at h2
 by_cases hi:i < own.length
 ·rw [List.getElem?_append_left (by simpa using hi),List.getElem?_map] at h2
  cases e:own[i]? with
  | none=>rw [e] at h2; cases h2
  | some a=>rw [e] at h2; cases h2
 ·rw [List.getElem?_append_right (by simpa using hi),List.length_map,List.getElem?_map] at h2
  unfold yI at h1
  rw [List.getElem?_append_right (by omega),List.getElem?_map] at h1
  cases e:caps[i - own.length]? with
  | none=>rw [e] at h1; cases h1
  | some p=>
   obtain ⟨j,n⟩:=p
   rw [e] at h1 h2
   cases h1
   refine ⟨j,List.mem_of_getElem? e,?_⟩
   simp only [Option.map_some,Option.some.injEq] at h2
   cases q:σ[j]? with
   | none=>rw [q] at h2; cases h2
   | some o=>rw [q] at h2; exact congrArg some h2
theorem Ji (B:uf X scope own caps) (I:zF X pins σ H s) (hf:∀ b∈fp,yc X pins H b) (hC:s.heap.objs.size<=C) (hlt:∀ b∈fp,b < s.heap.objs.size)
  {m:Str->Option Value} (hn:s4.heap.Ns C m) (hk:∀ b o,s.heap.get? b=some o->s4.heap.get? b=some o) (ho:s4.os=s.os) (hb:AllBare s4.gens) :
  zF (xm X scope (yI own caps) C s H fp) [] (vh own caps σ) H s4 where
 ok:=Jg B I hf hC hlt
 os:=ho
 bare:=hb
 base:=Un.kept hk
 loc:=⟨m,hn,λi x v h1 h2 h3=>by
  obtain ⟨j,hm,hs⟩:=Jh h1 h2
  obtain ⟨c1,c2,c3⟩:=B.caps _ hm
  obtain ⟨m',_,hl⟩:=I.loc
  have vis:jE X.env.scope x:=c3.elim (λz=>.inr (.inl z)) λz=>.inr (.inr z)
  obtain ⟨u,r,l⟩:=hl j x v c1 hs vis
  refine ⟨u,r,.inr ?_⟩
  have hm2:(x,NameKind.free)∈scope.names:=gL c2
  obtain ⟨c',hc'⟩:=Xv (env:=X.env) hm2
  have hc2:=(uB B.free hc').1
  refine ⟨?_,c',hc',?_⟩
  ·show (relabel scope X.env).names.lookup x=some .cell\/(relabel scope X.env).names.lookup x=some .free
   rw [Xy,c2,Option.map_some]
   split
   ·exact .inl rfl
   ·exact .inr rfl
  ·rcases l with ⟨k,_⟩ | ⟨_,c,e,z⟩
   ·rcases c3 with c3 | c3 <;> rw [c3] at k <;> cases k
   ·rw [hc2] at e
    cases e
    obtain ⟨o,e1,e2⟩:=z
    exact ⟨o,hk _ o e1,e2⟩⟩
 cell:=λx c e=>by
  obtain ⟨v,o,e1,e2⟩:=I.cell x c (uB B.free e).1
  exact ⟨v,o,hk _ o e1,e2⟩
 free:=I.hok.fresh hC
 freeC:=λx c e=>I.freeC x c (uB B.free e).1
 pin:=λp hp=>by simp at hp
 hok:=I.hok.kept hk
 len:=by
  show (vh own caps σ).length=(yI own caps).length
  unfold vh yI
  simp
noncomputable abbrev yx (its:List Value) (k:Nat):Obj:={ cls:=.type "list",data:=.seq its.toArray k }
theorem Jj {Y:Cx} {its:List Value} {k:Nat} {y:Value} {pl:List (Addr × Obj)} {Q:Value->Shared->Prop} {E:Value->Shared->Prop} (I:zF Y ((D,yx its k) :: pl) σ H s) (hn:yc Y [] H D) (hp:Y.pn=[]) (hz:its.length<=sizeLine)
  (q:∀ h' k' tk,(∀ b o,b≠D->s.heap.get? b=some o->h'.get? b=some o)->zF Y [(D,yx (its++[y]) k')] σ H { s with heap:=h',toks:=tk }->Q .none { s with heap:=h',toks:=tk }) :
  wpAny (model Y.prog Y.w) Y.A (call (.builtin "list.append") [.ref D,y]) Q E s:=by
 have pD:=I.pin (D,yx its k) (List.mem_append_right _ List.mem_cons_self)
 have e:s.heap.get? D=some (yx its k):=pD.1
 refine call_meets F.slot_list_append ⟨_,e,rfl⟩ F.entry_list_append (F.args_list_append_2 _ _) (PySem.list_append D its.toArray k y (by rw [List.size_toArray]; exact hz)) ⟨e,?_⟩
 have e2:=PySem.IsL.update e (·.push y)
 have ea:its.toArray.push y=(its++[y]).toArray:=by simp
 have keep:∀ b o,b≠D->s.heap.get? b=some o->(s.heap.update D (Obj.mapSeq (·.push y))).get? b=some o:=λb o hb eb=>(Heap.get?_update_other s.heap _ (Ne.symm hb)).trans eb
 have I0:zF Y [] σ H s:=I.pins_of λp hp'=>by cases hp'
 have I1:zF Y [] σ H { s with heap:=s.heap.update D (Obj.mapSeq (·.push y)),toks:=s.toks }:=I0.turned keep hn.1 hn.2.1 hn.2.2.2.1 hn.2.2.2.2.1 hn.2.2.2.2.2
 have e3:(s.heap.update D (Obj.mapSeq (·.push y))).get? D=some (yx (its++[y]) _):=e2.trans (by rw [ea])
 have I2:zF Y [(D,yx (its++[y]) (if ((its++[y]).toArray.size == its.toArray.size)=true then k else k + 1))] σ H { s with heap:=s.heap.update D (Obj.mapSeq (·.push y)),toks:=s.toks }:=I1.pins_of λp hp'=>by
  rw [List.mem_singleton.mp hp']
  exact ⟨e3,hn.1,hn.2.1,hn.2.2.1,λv z=>by cases z⟩
 exact q _ _ s.toks keep I2
end
section
variable {X:Cx} {scope:Scope} {own:List Str} {caps:List (Nat × Str)} {elt tg iter:Expr} {wi:TI} {g:TG} {te:TE} {pos:Pos}
theorem X0 {pins:List (Addr × Obj)} {σ:St} {H2:Hp} {s2:Shared} {it:Addr} {fp:List Addr} {tn:Nat->Heap->Prop} {J:It} {W:Nat->Nat->List V->St->Hp->Prop} {m0:Nat} {Q:VK} {E:Value->Shared->Prop} {RR:Value->Addr->Result->Shared->Prop}
  (B:uf X scope own caps) (hc:X.calm=true) (hg:∀ C s₀ H₀ ex,PG (xm X scope (yI own caps) C s₀ H₀ ex) tg g) (he:∀ C s₀ H₀ ex,PE (xm X scope (yI own caps) C s₀ H₀ ex) elt te)
  (I2:zF X pins σ H2 s2) (T:xN X.prog X.w X.K tg J fp it tn) (st2:tn 0 s2.heap) (f2:∀ b∈fp,yc X pins H2 b) (w0:W 0 m0 [] (vh own caps σ) H2)
  (turn:∀ i m ys σ1 H,W i m ys σ1 H->(J.stop i H/\∀ p,H p=none->Q (.ref p) (upd H p (.lst ys)))∨
   (J.go i H/\ys.length < sizeLine/\∃ N:V->St->Hp->Prop,(∀ y σ' H',N y σ' H'->∃ m',m' < m/\W (i + 1) m' (ys++[y]) σ' H')/\∀ x H',J.yld i H x H'->g x σ1 H' λσ2 H2=>te σ2 H2 λy H3=>N y σ2 H3))
  (hRR:∀ D C s6 H6 ys m,s6.heap.Ns C m->s2.heap.objs.size<=C->(∀ h',Heap.SameBut C s6.heap h'->zF X pins σ (upd H6 D (.lst ys)) { s6 with heap:=h' })->upd H6 D (.lst ys) C=none->Q (.ref D) (upd H6 D (.lst ys))->RR (.ref D) C (.ok .next) s6) :
  wpAny (model X.prog X.w) X.A (newList []) (λacc s3=>wpAny (model X.prog X.w) X.A (newFunctionEnv scope X.env.globals (ue scope X.env) [] X.env.qual none .none (some X.env)) (λcenv s4=>
   codeAny (model X.prog X.w) X.A (.compStart (.ListComp elt [⟨tg,iter,[],0⟩] scope pos) 0 (.ref it) acc { cenv with scope:=relabel scope X.env }) (RR acc cenv.locals) s4) E s3) E s2:=by
 have hlt:∀ b∈fp,b < s2.heap.objs.size:=λb hb=>by
  obtain ⟨o,ho,_⟩:=T.obj _ _ st2 b hb
  exact Heap.lt_size ho
 refine wpAny_newObj_type (wpAny_newFunctionEnv B.ncell (λy hy=>by simp at hy) (λh4 hns hsb=>?_) B.kind)
 dsimp only at hns hsb |-
 generalize hP:s2.heap.push { cls:=.type "list",dict:=none,data:=.seq ([]:List Value).toArray }=HD at hns hsb |-
 have hCD:HD.objs.size=s2.heap.objs.size + 1:=by rw [<- hP,Heap.size_push]
 have hDC:s2.heap.objs.size≠HD.objs.size:=by omega
 have hle:s2.heap.objs.size<=HD.objs.size:=by omega
 have old:∀ b o,s2.heap.get? b=some o->h4.get? b=some o:=λb o eb=>by
  have hb:=Heap.lt_size eb
  exact hsb.extBut b o (Nat.ne_of_lt (Nat.lt_of_lt_of_le hb hle)) (Heap.get?_push_of_some _ (by rw [<- hP]; exact Heap.get?_push_of_some _ eb))
 have hD4:h4.get? s2.heap.objs.size=some { cls:=.type "list",data:=.seq ([]:List Value).toArray 0 }:=
  hsb.extBut _ _ hDC (Heap.get?_push_of_some _ (by rw [<- hP]; exact Heap.get?_push_size _ rfl))
 have IY:zF (xm X scope (yI own caps) HD.objs.size s2 H2 fp) [] (vh own caps σ) H2 { s2 with heap:=h4,toks:=s2.toks + ([]:List (Str × Value)).length }:=
  Ji B I2 f2 (by omega) hlt hns old rfl I2.bare
 have stat:∀ {H':Hp},(∀ b∈fp,H' b=none)->∀ b∈fp,yc (xm X scope (yI own caps) HD.objs.size s2 H2 fp) [] H' b:=λ{H'} hn b hb=>by
  have hb2:=hlt b hb
  refine ⟨hn b hb,?_,λz=>?_,.inl hb,λx c ec=>(f2 b hb).2.2.2.2.1 x c (uB B.free ec).1,λp hp=>by simp at hp⟩
  ·exact Nat.ne_of_lt (Nat.lt_of_lt_of_le hb2 hle)
  ·rcases List.mem_cons.mp (I2.stkSub b z) with e | z
   ·exact (f2 b hb).2.1 e
   ·exact (f2 b hb).2.2.1 z
 have statD:∀ {H':Hp},H' s2.heap.objs.size=none->yc (xm X scope (yI own caps) HD.objs.size s2 H2 fp) [] H' s2.heap.objs.size:=λ{H'} hn=>by
  refine ⟨hn,hDC,λz=>?_,.inr (Nat.le_refl _),λx c ec z=>?_,λp hp=>by simp at hp⟩
  ·obtain ⟨_,o,ho,_⟩:=I2.stack.mem z
   exact absurd (Heap.lt_size ho) (Nat.lt_irrefl _)
  ·obtain ⟨v,o,ho,_⟩:=I2.cell x c (uB B.free ec).1
   rw [z] at ho
   exact absurd (Heap.lt_size ho) (Nat.lt_irrefl _)
 have neD:∀ b∈fp,b≠s2.heap.objs.size:=λb hb=>Nat.ne_of_lt (hlt b hb)
 have IY':zF (xm X scope (yI own caps) HD.objs.size s2 H2 fp) [(s2.heap.objs.size,yx [] 0)] (vh own caps σ) H2 { s2 with heap:=h4,toks:=s2.toks + ([]:List (Str × Value)).length }:=
  IY.pins_of λp hp=>by
   rw [List.mem_singleton.mp hp]
   have z:=statD (I2.hok.fresh (Nat.le_refl _))
   exact ⟨hD4,z.1,z.2.1,z.2.2.1,λv z=>by cases z⟩
 have loop:∀ s3:Shared,s3={ s2 with heap:=h4,toks:=s2.toks + ([]:List (Str × Value)).length }->
   codeAny (model X.prog X.w) X.A (.compLoop (.ListComp elt [⟨tg,iter,[],0⟩] scope pos) 0 (.ref it) (.ref s2.heap.objs.size) (compEnvC scope (ue scope X.env) HD.objs.size X.env))
    (RR (.ref s2.heap.objs.size) HD.objs.size) s3:=by
  rintro s3 rfl
  refine Jd (λn s'=>∃ i ys σ' H' its k,zF (xm X scope (yI own caps) HD.objs.size s2 H2 fp) [(s2.heap.objs.size,yx its k)] σ' H' s'/\tn i s'.heap/\(∀ b∈fp,H' b=none)∧
   zM ys its/\ys.length<=sizeLine/\W i n ys σ' H') ?_ m0 ⟨0,[],_,H2,[],0,IY',T.keep _ _ _ st2 λb hb o eb=>old b o eb,λb hb=>(f2 b hb).1,.nil,Nat.zero_le _,w0⟩
  rintro n s5 ⟨i,ys,σ5,H5,its,k,I5,st5,fr5,rv5,hz5,w5⟩
  have stat5:∀ {H':Hp},(∀ b∈fp,H' b=none)->∀ b∈fp,yc (xm X scope (yI own caps) HD.objs.size s2 H2 fp) [(s2.heap.objs.size,yx its k)] H' b:=λ{H'} hn b hb=>by
   obtain ⟨a1,a2,a3,a4,a5,_⟩:=stat hn b hb
   refine ⟨a1,a2,a3,a4,a5,λp hp=>?_⟩
   have hp':p∈[(s2.heap.objs.size,yx its k)]:=hp
   rw [List.mem_singleton.mp hp']
   exact Ne.symm (neD b hb)
  rcases turn i n ys σ5 H5 w5 with ⟨stop,qn⟩ | ⟨go,hlen,N,hN,step⟩
  ·refine za (T.done (xm X scope (yI own caps) HD.objs.size s2 H2 fp) rfl rfl rfl hc i _ s5 σ5 H5 _ I5 (stat5 fr5) st5 stop) λr s6 ⟨hr,I6⟩=>?_
   subst hr
   obtain ⟨pD1,pD2,_⟩:=I6.pin (s2.heap.objs.size,yx its k) (List.mem_append_right _ List.mem_cons_self)
   obtain ⟨m6,hn6,_⟩:=I6.loc
   refine hRR _ _ s6 H5 ys m6 hn6 (by omega) (λh' sb=>?_) (by rw [zl (Ne.symm hDC)]; exact I6.free) (qn _ pD2)
   have hC5:H5 HD.objs.size=none:=I6.free
   have nb:∀ b o,s2.heap.get? b=some o->b≠HD.objs.size/\b≠s2.heap.objs.size:=λb o eb=>by
    have hb:=Heap.lt_size eb
    exact ⟨Nat.ne_of_lt (Nat.lt_of_lt_of_le hb hle),Nat.ne_of_lt hb⟩
   have nt:∀ b o,H5 b=some o->b≠s2.heap.objs.size:=λb o eb z=>by rw [z] at eb; rw [show H5 s2.heap.objs.size=none from pD2] at eb; cases eb
   have un:Un (xD X.stack) fp H2 (upd H5 s2.heap.objs.size (.lst ys)) s2.heap h':=
    ⟨λb o eb n1 n2 n3=>sb.extBut b o (nb b o eb).1 (I6.base.keep b o eb n1 n2 n3),
     λb o eb n1 n2 n3=>by
      obtain ⟨sl,e1⟩:=I6.base.slot b o eb n1 n2 n3
      exact ⟨sl,sb.extBut b _ (nb b o eb).1 e1⟩,
     λb o eb n1 n3=>by
      rw [zl (nb b o eb).2]
      exact I6.base.free b o eb n1 n3,
     λb o eb n3=>by
      obtain ⟨o',e1⟩:=I6.base.there b o eb n3
      exact ⟨o',sb.extBut b _ (nb b o eb).1 e1⟩,
     λb xs eb=>by
      have e1:=I6.base.tups b xs eb
      rw [zl (nt b _ e1)]
      exact e1,
     λb o u eb=>by
      have e1:=I6.base.frzs b o u eb
      rw [zl (nt b _ e1)]
      exact e1,
     λb ps eb=>by
      obtain ⟨more,e1⟩:=I6.base.tbls b ps eb
      refine ⟨more,?_⟩
      rw [zl (nt b _ e1)]
      exact e1⟩
   have ok5:yZ X.prog X.w (upd H5 s2.heap.objs.size (.lst ys)) h':=λb u eb=>by
    by_cases hb:b=s2.heap.objs.size
    ·subst hb
     rw [zO] at eb
     cases eb
     exact ⟨hz5,its,k,rv5,sb.extBut _ _ hDC pD1⟩
    ·rw [zl hb] at eb
     refine (I6.hok b u eb).stay (λc v hcv ev=>sb.extBut c v ?_ ev) (λc ec=>by rw [zl (nt c _ ec)]; exact ec) λc xs ec=>by rw [zl (nt c _ ec)]; exact ec
     rintro rfl
     rcases hcv with z | z
     ·rw [<- z,hC5] at eb
      cases eb
     ·rw [hC5] at z
      cases z
   exact I2.call' (s':={ s6 with heap:=h' }) (ch:=fp) I6.os un ok5 I6.bare λb hb=>⟨(f2 b hb).2.2.2.1,(f2 b hb).2.1,(f2 b hb).2.2.2.2.1,(f2 b hb).2.2.2.2.2⟩
  ·refine za (T.item (xm X scope (yI own caps) HD.objs.size s2 H2 fp) rfl rfl rfl hc i _ s5 σ5 H5 _ I5 (stat5 fr5) st5 go) λr s6 ⟨u,hr,h6⟩=>?_
   subst hr
   refine za h6 λ_ s7 ⟨x,H7,I7,r7,y7,st7,fr7⟩=>?_
   have I7':=I7.pinned (stat5 fr7) (T.obj _ _ st7)
   refine za (hg HD.objs.size s2 H2 fp _ s7 σ5 H7 x u _ I7' r7 (step x H7 y7)) λ_ s8 ⟨σ8,H8,I8,q8⟩=>?_
   refine za (he HD.objs.size s2 H2 fp _ s8 σ8 H8 _ I8 q8) λyv s9 ⟨y,H9,I9,r9,n9⟩=>?_
   obtain ⟨m',hm',w9⟩:=hN y σ8 H9 n9
   have pD9:=(I9.pin (s2.heap.objs.size,yx its k) (List.mem_append_right _ (List.mem_append_left _ List.mem_cons_self))).2.1
   have hl:its.length=ys.length:=rv5.length.symm
   refine Jj (Y:=xm X scope (yI own caps) HD.objs.size s2 H2 fp) (its:=its) (k:=k) (pl:=jq fp s7.heap) I9 (statD pD9) rfl (by omega) λh' k' tk keep I'=>?_
   refine ⟨m',hm',i + 1,ys++[y],σ8,H9,its++[yv],k',I',?_,λb hb=>?_,rv5.append (.cons r9 .nil),?_,w9⟩
   ·refine T.keep _ _ _ st7 λb hb o eb=>keep b o (neD b hb) ?_
    exact (I9.pin (b,o) (List.mem_append_right _ (List.mem_append_right _ (gC hb eb)))).1
   ·obtain ⟨o,eb,_⟩:=T.obj _ _ st7 b hb
    exact (I9.pin (b,o) (List.mem_append_right _ (List.mem_append_right _ (gC hb eb)))).2.1
   ·rw [List.length_append,List.length_singleton]
    omega
 exact codeAny_compStart_list (loop _ rfl) (T.self _ 0 _ _ _ (T.keep _ _ _ st2 λb hb o eb=>old b o eb) (loop _ rfl))
theorem xX (B:uf X scope own caps) (hc:X.calm=true) (hi:PI X tg iter wi) (hg:∀ C s₀ H₀ ex,PG (xm X scope (yI own caps) C s₀ H₀ ex) tg g)
  (he:∀ C s₀ H₀ ex,PE (xm X scope (yI own caps) C s₀ H₀ ex) elt te) (hs:∀ x,foldedSetIterable iter X.env x=pure x:=by intro _; rfl) :
  PE X (.ListComp elt [⟨tg,iter,[],0⟩] scope pos) (Xz own caps wi g te):=by
 intro pins s σ H Q I h
 rw [eval_ListComp]
 refine wpAny_comprehension_free (use:=none) rfl hs (Xs B.free) B.kind B.locs ?_
 refine za (hi pins s σ H _ I h) λxv s1 h1=>za h1 λitv s2 h2=>?_
 obtain ⟨it,fp,tn,J,H2,e,I2,T,st2,f2,W,⟨m0,w0⟩,turn⟩:=h2
 subst e
 refine X0 (RR:=λacc C=>compPost (model X.prog X.w) X.A X.xe none (EP X pins σ Q) acc C) B hc hg he I2 T st2 f2 w0 turn λD C s6 H6 ys m hn hC J6 hC6 q=>?_
 exact ⟨m,hn,λh' sb=>⟨.ref D,_,J6 h' sb,rfl,q⟩⟩
theorem gM {i:Nat} {y:Str} {py spos:Pos} (hN:X.N.Nodup) (hy:X.N[i]? = some y) (hl:X.env.scope.names.lookup y=some .local) (B:uf X scope own caps) (hc:X.calm=true) (hi:PI X tg iter wi) (hg:∀ C s₀ H₀ ex,PG (xm X scope (yI own caps) C s₀ H₀ ex) tg g)
  (he:∀ C s₀ H₀ ex,PE (xm X scope (yI own caps) C s₀ H₀ ex) elt te) (hsw:swapsWith (.ListComp elt [⟨tg,iter,[],0⟩] scope pos) (some (.Name y py)) spos.line X.env=pure true) (hs:∀ x,foldedSetIterable iter X.env x=pure x:=by intro _; rfl) :
  PS X (.Assign [.Name y py] (.ListComp elt [⟨tg,iter,[],0⟩] scope pos) spos) (uV (Xz own caps wi g te) (v6 i)):=by
 intro pins s σ H D0 I h
 rw [exec_Assign_Name_used _ _ _ _ hsw]
 refine wpAny_bind (wpAny_standAt (wpAny_bind ?_))
 change wpAny _ X.A (do let _ <- comprehension (.ListComp elt [⟨tg,iter,[],0⟩] scope pos) scope X.env _ (newList []) false (eval iter X.env) (some (assign (.Name y py) X.env))) _ _ s
 refine wpAny_bind (wpAny_mono (wpAny_comprehension_free (use:=some (assign (.Name y py) X.env)) (Q:=λ_ s'=>SP X pins D0 .next s') rfl hs (Xs B.free) B.kind B.locs ?_) (λ_ s' hq=>wpAny_pure (wpAny_pure hq)) λ_ _ e=>e)
 refine za (hi pins s σ H _ I h) λxv s1 h1=>za h1 λitv s2 h2=>?_
 obtain ⟨it,fp,tn,J,H2,e,I2,T,st2,f2,W,⟨m0,w0⟩,turn⟩:=h2
 subst e
 refine X0 (Q:=λx H1=>D0.nx (σ.set i (some x)) H1) (RR:=λacc C=>compPost (model X.prog X.w) X.A X.xe (some (assign (.Name y py) X.env)) (λ_ s'=>SP X pins D0 .next s') acc C) B hc hg he I2 T st2 f2 w0 turn λD C s6 H6 ys m hn hC J6 hC6 q=>?_
 have I6:zF X pins σ (upd H6 D (.lst ys)) s6:=J6 s6.heap (.refl ..)
 have CL:C≠X.env.locals:=λz=>by rw [z] at hC; exact absurd (Nat.lt_of_lt_of_le I2.lt hC) (Nat.lt_irrefl _)
 have CC:∀ x c,X.env.cells.lookup x=some c->c≠C:=λx c ec z=>by
  obtain ⟨v,o,ho,_⟩:=I2.cell x c ec
  rw [z] at ho
  exact absurd (Nat.lt_of_lt_of_le (Heap.lt_size ho) hC) (Nat.lt_irrefl _)
 have CP:∀ p∈X.pn++pins,p.1≠C:=λp hp z=>by
  have hl:=Heap.lt_size (I2.pin p hp).1
  rw [z] at hl
  exact absurd (Nat.lt_of_lt_of_le hl hC) (Nat.lt_irrefl _)
 change wpAny _ X.A (assign (.Name y py) X.env (.ref D)) _ _ s6
 refine wpAny_assign_Name (Y8 I6 hN hy (.inl hl) (v:=.ref D) rfl (λs7 I7 ⟨a,sb,ha⟩=>?_) (.inr hl))
 have aC:C≠a:=λz=>by
  rcases ha with e | e
  ·exact CL (z.trans e)
  ·exact CC _ _ e z.symm
 refine ⟨m,hn.sameBut sb aC,λh' sb'=>⟨_,_,I7.turned (h':=h') (t':=s7.toks) (it:=C) (λb o hb eb=>sb'.extBut b o hb eb) hC6 CL (.inr (Nat.le_trans I2.sz hC)) CC CP,q⟩⟩
end
end L2
namespace L2
open PySem PySem.Spec PyProof.Rows
theorem wU {K:PySem.W.Frag} {a:Addr} {xs:List V} {g:TG} {te:TE} {σ0:St} {H:Hp} {Q:VK} (Pv:Nat->List V->St->Hp->Prop) (h0:Pv 0 [] σ0 H) (hl:∀ i ys σ H,i<=xs.length->Pv i ys σ H->zE K H a xs/\ys.length<=i) (hz:xs.length<=sizeLine)
  (hs:∀ i x ys σ H,xs[i]? = some x->Pv i ys σ H->g x σ H λσ2 H2=>te σ2 H2 λy H3=>Pv (i + 1) (ys++[y]) σ2 H3)
  (hd:∀ ys σ H,Pv xs.length ys σ H->∀ p,H p=none->Q (.ref p) (upd H p (.lst ys))) :
  j3 (jG K a) g te Q σ0 H:=by
 refine ⟨λi m ys σ H=>m=xs.length - i/\i<=xs.length/\Pv i ys σ H,⟨xs.length,by simp,Nat.zero_le _,h0⟩,?_⟩
 rintro i m ys σ H ⟨rfl,hi,p⟩
 obtain ⟨q,hy⟩:=hl i ys σ H hi p
 by_cases hlt:i < xs.length
 ·refine .inr ⟨⟨xs,xs[i],q,by simp [hlt]⟩,by omega,λy σ' H'=>Pv (i + 1) (ys++[y]) σ' H',λy σ' H' z=>⟨xs.length - (i + 1),by omega,rfl,hlt,z⟩,λx H' y=>?_⟩
  obtain ⟨e,y⟩:=y
  subst e
  exact hs i x ys σ _ (y xs q) p
 ·have e:i=xs.length:=by omega
  subst e
  exact .inl ⟨⟨xs,q,Nat.le_refl _⟩,hd ys σ H p⟩
theorem j4 {lo:Int} {n:Nat} {g:TG} {te:TE} {σ0:St} {H:Hp} {Q:VK} (Pv:Nat->List V->St->Hp->Prop) (h0:Pv 0 [] σ0 H) (hl:∀ i ys σ H,Pv i ys σ H->ys.length<=i) (hz:n<=sizeLine)
  (hs:∀ i ys σ H,i < n->Pv i ys σ H->g (.int (lo + i)) σ H λσ2 H2=>te σ2 H2 λy H3=>Pv (i + 1) (ys++[y]) σ2 H3)
  (hd:∀ ys σ H,Pv n ys σ H->∀ p,H p=none->Q (.ref p) (upd H p (.lst ys))):j3 (uW lo n) g te Q σ0 H:=by
 refine ⟨λi m ys σ H=>m=n - i/\i<=n/\Pv i ys σ H,⟨n,by simp,Nat.zero_le _,h0⟩,?_⟩
 rintro i m ys σ H ⟨rfl,hi,p⟩
 have hy:=hl i ys σ H p
 by_cases hlt:i < n
 ·refine .inr ⟨hlt,by omega,λy σ' H'=>Pv (i + 1) (ys++[y]) σ' H',λy σ' H' z=>⟨n - (i + 1),by omega,rfl,hlt,z⟩,λx H' y=>?_⟩
  obtain ⟨e,y⟩:=y
  subst e y
  exact hs i ys σ _ hlt p
 ·have e:i=n:=by omega
  subst e
  exact .inl ⟨Nat.le_refl _,hd ys σ H p⟩
structure Fn (P:Program) (w:World) (K:PySem.W.Frag) (mg:Str->Option Value) (base:Heap) (x:Str) (ps:List Str) (k:Nat) (sp:Sp):Prop where
 ex:∃ f fd,zL P w K mg base zd k f fd ps sp/\mg x=some (.ref f)/\PySem.W.keepIn K (.ref f)=true/\xL K fd ps []
theorem Fn.mono {P:Program} {w:World} {K:PySem.W.Frag} {mg:Str->Option Value} {base:Heap} {x:Str} {ps:List Str} {j k:Nat} {sp:Sp} (F:Fn P w K mg base x ps j sp) (h:j<=k:=by decide):Fn P w K mg base x ps k sp:=by
 obtain ⟨f,fd,a,b,c,d⟩:=F.ex
 exact ⟨f,fd,a.mono h,b,c,d⟩
theorem zi {X:Cx} {x:Str} {ps:List Str} {k:Nat} {sp:Sp} {e:Expr} {es:List Expr} {t:TA} {p pos:Pos} (F:Fn X.prog X.w X.K X.mg X.base x ps k sp) (hr:zh k X.A) (hg:Gl X x) (ha:PA X (e :: es) t)
  (hdb:(x == ("__debug__" : Str))=false:=by decide) (he:starEach (e :: es) X.env=(false,eval e X.env) :: starEach es X.env:=by rfl) (hpl:(backTo pos (starEach es X.env)).any (·.1)=false:=by rfl) :
  PE X (.Call (.Name x p) (e :: es) [] pos) (gI sp [] E0 t):=by
 obtain ⟨f,fd,a,b,c,d⟩:=F.ex
 exact XX a hr hg b c d .nil gK ha hdb he hpl
end L2
namespace L2
open PySem PySem.Spec PyProof.Rows
theorem yr:bootBuiltins "isinstance" = some (.builtin "isinstance"):=by decide +kernel
theorem yt:bootBuiltins "len" = some (.builtin "len"):=by decide +kernel
theorem ZP:bootBuiltins "abs" = some (.builtin "abs"):=by decide +kernel
theorem vi:bootBuiltins "all" = some (.builtin "all"):=by decide +kernel
theorem Jk:bootBuiltins "int" = some (.type "int"):=by decide +kernel
theorem Jl:bootBuiltins "bool" = some (.type "bool"):=by decide +kernel
theorem vS:bootBuiltins "tuple" = some (.type "tuple"):=by decide +kernel
theorem xY:bootBuiltins "list" = some (.type "list"):=by decide +kernel
section
variable (K:PySem.W.Frag)
theorem Jm:PySem.W.kitOne K (.type "int") (.type "int")=some true:=by first | rfl | decide +kernel | (unfold PySem.W.kitOne; rw [if_pos (by decide +kernel)])
theorem Jn:PySem.W.kitOne K (.type "int") (.type "bool")=some false:=by first | rfl | decide +kernel | (unfold PySem.W.kitOne; rw [if_neg (by decide +kernel)]; rfl)
theorem j5:PySem.W.kitOne K (.type "tuple") (.type "tuple")=some true:=by first | rfl | decide +kernel | (unfold PySem.W.kitOne; rw [if_pos (by decide +kernel)])
end
theorem uC {X:Cx} {scope:Scope} {own:List Str} (k:scope.kind=.function) (n:scope.names.all (λy=>y.2 != .cell && y.2 != .free && (y.2 != .local || scope.names.lookup y.1 == some .local))=true:=by first | rfl | decide +kernel):uf X scope own []:=by
 have z:∀ y∈scope.names,(y.2 != .cell && y.2 != .free && (y.2 != .local || scope.names.lookup y.1 == some .local))=true:=List.all_eq_true.mp n
 refine ⟨k,λy hy e=>?_,λy hy e=>?_,λy hy e=>?_,λp hp=>by cases hp⟩
 ·have:=z y hy
  rw [e] at this
  simp at this
 ·have:=z y hy
  rw [e] at this
  simpa using this
 ·have:=z y hy
  rw [e] at this
  simp at this
structure yy (K:PySem.W.Frag) (x qual:Str) (st:Stmt) (f:Addr) (fd:FuncData) (d:Value):Prop where
 ex:∃ (oc:Value) (od:Option Addr) (kV doc pm:Value) (an:Option Addr) (cdv ct:Value) (osl:Array (Option Value)) (T:Addr) (oT:Obj) (n:Nat),
  fd=PySem.W.fnOf x qual (xz st) (yS st) (zY st) (.ref T) kV doc pm an cdv ct/\K.lookup f=some ⟨oc,od,.func fd,osl⟩/\PySem.W.codeIn K cdv qual=true/\K.lookup T=some oT/\oT.data=.seq #[d] n
 kp:PySem.W.keepIn K (.ref f)=true
theorem yy.ok {P:Program} {w:World} {K:PySem.W.Frag} {mg:Str->Option Value} {base:Heap} {x qual:Str} {st:Stmt} {f:Addr} {fd:FuncData} {d:Value} {N ps:List Str} {k:Nat} {sp:Sp} (F:yy K x qual st f fd d) (S:zw N ps (zY st))
  (len:∀ vs H Q E,sp vs H Q E->vs.length=ps.length)
  (hbody:∀ (cdv:Value) (A:Around) (outer:List Env) (s:Shared) (H:Hp) (vs:List V) (Q:VK) (E:XK),zh k (A.deeper (envOfC qual (zY st) s.heap.objs.size f cdv))->sp vs H Q E->
   ∃ t,yb (zJ zd P w K mg base N qual (zY st) f cdv A outer s H E).nox (yS st) t/\t { nx:=λ_ H'=>Q .non H',rt:=Q } (vQ N vs) H):zL P w K mg base zd (k + 1) f fd ps sp:=by
 obtain ⟨oc,od,kV,doc,pm,an,cdv,ct,osl,T,oT,n,rfl,lk,hcd,_⟩:=F.ex
 refine k7 lk hcd S len λA outer s H vs Q E hr hsp=>?_
 obtain ⟨t,h,q⟩:=hbody cdv A outer s H vs Q E hr hsp
 exact ⟨t,h.nox,q⟩
end L2
namespace L2
open PySem PySem.Spec PyProof.Rows
theorem Jo {K:PySem.W.Frag} {x qual:Str} {st:Stmt} {f T:Addr} {oc kV doc pm cdv ct d:Value} {od an:Option Addr} {osl:Array (Option Value)} {oT:Obj} {n:Nat} (l:K.lookup f=some ⟨oc,od,.func (PySem.W.fnOf x qual (xz st) (yS st) (zY st) (.ref T) kV doc pm an cdv ct),osl⟩)
  (c:PySem.W.codeIn K cdv qual=true) (k:PySem.W.keepIn K (.ref f)=true) (t:K.lookup T=some oT) (e:oT.data=.seq #[d] n):yy K x qual st f (PySem.W.fnOf x qual (xz st) (yS st) (zY st) (.ref T) kV doc pm an cdv ct) d:=
 ⟨⟨oc,od,kV,doc,pm,an,cdv,ct,osl,T,oT,n,rfl,l,c,t,e⟩,k⟩
theorem yy.binds {K:PySem.W.Frag} {x qual:Str} {st:Stmt} {f:Addr} {fd:FuncData} {d:Value} {ps:List Str} (F:yy K x qual st f fd d)
  (h:∀ (T:Addr) (kV doc pm:Value) (an:Option Addr) (cdv ct:Value) (us:List Value),us.length=ps.length->∃ k:Option (Array Value)->Sem (List (Str × Value)),
   bindArgs (PySem.W.fnOf x qual (xz st) (yS st) (zY st) (.ref T) kV doc pm an cdv ct) ⟨us,[]⟩=seqItems? (.ref T) >>= k/\k (some #[d])=pure (ps.zip us)):xL K fd ps []:=by
 obtain ⟨oc,od,kV,doc,pm,an,cdv,ct,osl,T,oT,n,rfl,lk,hcd,t,e⟩:=F.ex
 intro s us X hl
 rw [List.append_nil] at hl |-
 obtain ⟨k,h1,h2⟩:=h T kV doc pm an cdv ct us hl
 exact .of_defaults (T:=T) rfl (X T oT t) e h1 h2
end L2
namespace L2
open PySem PySem.Spec PyProof.Rows
theorem wI {X:Cx} {scope S:Scope} {own N:List Str} {caps:List (Nat × Str)} (k:scope.kind=.function) (n:scope.names.all (λy=>y.2 != .cell && (y.2 != .local || scope.names.lookup y.1 == some .local))=true)
  (hS:X.env.scope=S) (hc:∃ n,X.env.cells=cellsFrom n S.names []) (hN:X.N=N) (fr:scope.names.all (λy=>y.2 != .free || S.names.lookup y.1 == some .cell)=true)
  (cp:caps.all (λp=>N[p.1]? == some p.2 && scope.names.lookup p.2 == some .free && S.names.lookup p.2 == some .cell)=true):uf X scope own caps:=by
 have z:∀ y∈scope.names,(y.2 != .cell && (y.2 != .local || scope.names.lookup y.1 == some .local))=true:=List.all_eq_true.mp n
 obtain ⟨nn,hc⟩:=hc
 refine ⟨k,λy hy e=>?_,λy hy e=>?_,λy hy e=>?_,λp hp=>?_⟩
 ·have:=z y hy
  rw [e] at this
  simp at this
 ·have:=z y hy
  rw [e] at this
  simpa using this
 ·have q:=List.all_eq_true.mp fr y hy
  rw [e] at q
  have q2:S.names.lookup y.1=some .cell:=by simpa using q
  rw [hc]
  exact PySem.W.cellsFrom_some S.names nn [] (.inl q2)
 ·have q:=List.all_eq_true.mp cp p hp
  simp only [Bool.and_eq_true,beq_iff_eq] at q
  refine ⟨by rw [hN]; exact q.1.1,q.1.2,.inl ?_⟩
  show X.env.scope.names.lookup p.2=some .cell
  rw [hS]
  exact q.2
structure we (P:Program) (w:World) (K:PySem.W.Frag) (mg:Str->Option Value) (base:Heap) (x:Str) (ps:List Str) (k:Nat) (sp:Sp) (dv:V):Prop where
 ex:∃ f fd d,zL P w K mg base zd k f fd ps sp/\mg x=some (.ref f)/\PySem.W.keepIn K (.ref f)=true/\xL K fd ps []/\xL K fd ps [d]/\zQ dv d
theorem we.mono {P:Program} {w:World} {K:PySem.W.Frag} {mg:Str->Option Value} {base:Heap} {x:Str} {ps:List Str} {j k:Nat} {sp:Sp} {dv:V} (F:we P w K mg base x ps j sp dv) (h:j<=k:=by decide):we P w K mg base x ps k sp dv:=by
 obtain ⟨f,fd,d,a,b,c,e⟩:=F.ex
 exact ⟨f,fd,d,a.mono h,b,c,e⟩
theorem we.fn {P:Program} {w:World} {K:PySem.W.Frag} {mg:Str->Option Value} {base:Heap} {x:Str} {ps:List Str} {k:Nat} {sp:Sp} {dv:V} (F:we P w K mg base x ps k sp dv):Fn P w K mg base x ps k sp:=by
 obtain ⟨f,fd,d,a,b,c,e,_⟩:=F.ex
 exact ⟨f,fd,a,b,c,e⟩
theorem ug {X:Cx} {x:Str} {ps:List Str} {k:Nat} {sp:Sp} {e:Expr} {es:List Expr} {t:TA} {p pos:Pos} {dv:V} (F:we X.prog X.w X.K X.mg X.base x ps k sp dv) (hr:zh k X.A) (hg:Gl X x) (ha:PA X (e :: es) t)
  (hdb:(x == ("__debug__" : Str))=false:=by decide) (he:starEach (e :: es) X.env=(false,eval e X.env) :: starEach es X.env:=by rfl) (hpl:(backTo pos (starEach es X.env)).any (·.1)=false:=by rfl) :
  PE X (.Call (.Name x p) (e :: es) [] pos) (gI sp [dv] E0 t):=by
 obtain ⟨f,fd,d,a,b,c,_,h2,r⟩:=F.ex
 exact XX a hr hg b c h2 (.cons r .nil) gK ha hdb he hpl
theorem yy.binds1 {K:PySem.W.Frag} {x qual:Str} {st:Stmt} {f:Addr} {fd:FuncData} {d:Value} {ps:List Str} (F:yy K x qual st f fd d)
  (h:∀ (T:Addr) (kV doc pm:Value) (an:Option Addr) (cdv ct:Value) (us:List Value),us.length + 1=ps.length->∃ k:Option (Array Value)->Sem (List (Str × Value)),
   bindArgs (PySem.W.fnOf x qual (xz st) (yS st) (zY st) (.ref T) kV doc pm an cdv ct) ⟨us,[]⟩=seqItems? (.ref T) >>= k/\k (some #[d])=pure (ps.zip (us++[d]))):xL K fd ps [d]:=by
 obtain ⟨oc,od,kV,doc,pm,an,cdv,ct,osl,T,oT,n,rfl,lk,hcd,t,e⟩:=F.ex
 intro s us X hl
 rw [List.length_append,List.length_singleton] at hl
 obtain ⟨k,h1,h2⟩:=h T kV doc pm an cdv ct us hl
 exact .of_defaults (T:=T) rfl (X T oT t) e h1 h2
theorem X1 (xs:List V) (v:V):zk (xs++[v]) none (some (-1))=xs:=by
 unfold zk
 have e1:HT.sIx (xs++[v]).length 0 none=0:=rfl
 have e2:HT.sIx (xs++[v]).length (xs++[v]).length (some (-1))=xs.length:=by
  show (if (-1:Int) < 0 then ((-1:Int) + ((xs++[v]).length:Int)).toNat else min (-1:Int).toNat (xs++[v]).length)=xs.length
  rw [if_pos (by decide),List.length_append,List.length_singleton]
  omega
 rw [e1,e2]
 simp
theorem X2 (xs:List V) (v:V):¬ (HT.sIx (xs++[v]).length 0 none=0/\HT.sIx (xs++[v]).length (xs++[v]).length (some (-1))=(xs++[v]).length):=by
 rintro ⟨_,e⟩
 have e2:HT.sIx (xs++[v]).length (xs++[v]).length (some (-1))=xs.length:=by
  show (if (-1:Int) < 0 then ((-1:Int) + ((xs++[v]).length:Int)).toNat else min (-1:Int).toNat (xs++[v]).length)=xs.length
  rw [if_pos (by decide),List.length_append,List.length_singleton]
  omega
 rw [e2,List.length_append,List.length_singleton] at e
 omega
end L2
namespace L2
theorem yz {b:Bool} {A B:Prop} (e:b=true) (h:A):if b=true then A else B:=by
 rw [if_pos e]
 exact h
theorem yl {b:Bool} {A B:Prop} (e:b=false) (h:B):if b=true then A else B:=by
 rw [if_neg (by rw [e]; exact Bool.false_ne_true)]
 exact h
theorem vj {i j:Int} (h:i=j):decide (V.int i=V.int j)=true:=decide_eq_true (by rw [h])
theorem wf {i j:Int} (h:i≠j):decide (V.int i=V.int j)=false:=decide_eq_false λe=>h (by injection e)
theorem gN {i j:Int} (h:i≠j):(!decide (V.int i=V.int j))=true:=by rw [wf h]; rfl
end L2
set_option maxRecDepth 100000
namespace L2
open PySem
section
variable {prog:Program} {w:World} {A:Around} {E:Value->Shared->Prop} {s:Shared}
theorem uD (hh:A.handled=none) (it t:Addr) (hne:t≠it) (items:Array Value) :
  Draws prog w A it [it,t] items.size (λi v=>items[i]? = some v) (λi h=>h.IsTupleIter it t i/\h.IsTuple t items) where
 live:=λ_ _ st=>let ⟨o,ho,_⟩:=st.1; ⟨o,ho⟩
 frame:=λ_ _ _ st hk=>⟨let ⟨o,e,r⟩:=st.1; ⟨o,hk it (by simp) o e,r⟩,let ⟨o,e,r⟩:=st.2; ⟨o,hk t (by simp) o e,r⟩⟩
 item:=λi s Q E hi st hQ=>by
  obtain ⟨hit,ht⟩:=st
  obtain ⟨o,ho,hc,hd⟩:=id hit
  obtain ⟨ol,hol,_,nl,hdl⟩:=id ht
  have hx:items[i]? = some items[i]:=by simp [hi]
  unfold Builtin.SmallTypes.nextOf
  refine wpAny_bind (wpAny_callSpecial?_slot (name:=Str.ofString "__next__") hit.typeIs F.slot_tuple_iterator_next (wpAny_call_entry F.slot_tuple_iterator_next hit.typeIs F.entry_tuple_iterator_next ?_ (F.args_tuple_iterator_next_1 _)))
  change wpAny _ _ (field (.ref it) 0 >>= _) _ _ s
  refine wpAny_bind (wpAny_field ho hd (x:=.ref t) rfl ?_)
  change wpAny _ _ (if (Value.ref t == Value.none)=true then _ else _) _ _ s
  rw [if_neg (show (Value.ref t == Value.none)≠true from Bool.false_ne_true)]
  change wpAny _ _ (field (.ref it) 1 >>= _) _ _ s
  refine wpAny_bind (wpAny_field ho hd (x:=.int i 0) rfl ?_)
  change wpAny _ _ (seqItems? (.ref t) >>= _) _ _ s
  refine wpAny_bind (wpAny_seqItems hol hdl ?_)
  simp only [Int.toNat_natCast,hx]
  refine wpAny_bind (wpAny_setField ho hd (by simp) (wpAny_pure ⟨items[i],rfl,wpAny_pure (hQ _ _ s.toks hx ⟨?_,?_⟩ (Heap.SameBut.update ..))⟩))
  ·exact ⟨_,Heap.get?_update_self _ ho (Obj.isFreed_of_fields (Obj.data_mapFields hd _)),(Obj.cls_mapFields ..).trans hc,by rw [Obj.data_mapFields hd]; simp [rawInt]⟩
  ·exact ht.extBut (Heap.SameBut.update ..).extBut hne
 done:=λs Q E st hE=>by
  obtain ⟨hit,ht⟩:=st
  obtain ⟨o,ho,hc,hd⟩:=id hit
  obtain ⟨ol,hol,_,nl,hdl⟩:=id ht
  have hx:items[items.size]? = none:=by simp
  unfold Builtin.SmallTypes.nextOf
  refine wpAny_bind (wpAny_callSpecial?_slot (name:=Str.ofString "__next__") hit.typeIs F.slot_tuple_iterator_next (wpAny_call_entry F.slot_tuple_iterator_next hit.typeIs F.entry_tuple_iterator_next ?_ (F.args_tuple_iterator_next_1 _)))
  change wpAny _ _ (field (.ref it) 0 >>= _) _ _ s
  refine wpAny_bind (wpAny_field ho hd (x:=.ref t) rfl ?_)
  change wpAny _ _ (if (Value.ref t == Value.none)=true then _ else _) _ _ s
  rw [if_neg (show (Value.ref t == Value.none)≠true from Bool.false_ne_true)]
  change wpAny _ _ (field (.ref it) 1 >>= _) _ _ s
  refine wpAny_bind (wpAny_field ho hd (x:=.int items.size 0) rfl ?_)
  change wpAny _ _ (seqItems? (.ref t) >>= _) _ _ s
  refine wpAny_bind (wpAny_seqItems hol hdl ?_)
  simp only [Int.toNat_natCast,hx]
  refine wpAny_bind (wpAny_rule (wpAny_bind (wpAny_setField ho hd (by simp) ?_)))
  change wpAny _ _ (newExc (.type "StopIteration") [] >>= _) _ _ _
  refine wpAny_bind ?_
  simp only [newExc,newTuple]
  refine wpAny_bind (wpAny_newObj_type ?_ (by size_fits))
  refine wpAny_bind (m:=firstArgMember _ _) (wpAny_of_eq (a:=Value.none) (by first | rfl | (simp only [firstArgMember]; rfl)) ?_)
  refine wpAny_newObj_type ?_ (by size_fits)
  simp only [raiseNew]
  refine wpAny_bind (wpAny_handled ?_)
  first | rw [show A.in1.handled=none from hh] | rw [hh]
  refine wpAny_bind (wpAny_pure (wpAny_throw ?_))
  exact hE _ _ (((Heap.SameBut.update ..).extBut.push _).push _) ⟨_,Heap.get?_push_size _ rfl,rfl⟩
structure Zp (z TI TO i1 i2:Addr) (f1 f2:List Addr):Prop where
 a1:TI≠z
 a2:TO≠z
 a3:i1≠z
 a4:i2≠z
 a5:TI≠TO
 a6:TI≠i1
 a7:TI≠i2
 a8:TO≠i1
 a9:TO≠i2
 b1:z∉f1
 b2:z∉f2
 b3:TO∉f1
 b4:TO∉f2
 b5:i1∉f2
 b6:i2∉f1
theorem Jp {z TI TO i1 i2:Addr} {f1 f2:List Addr} {n1 n2 k:Nat} {P1 P2:Nat->Value->Prop} {S1 S2:Nat->Heap->Prop} {a b:Value} {Q:Value->Shared->Prop}
  (D1:Draws prog w A i1 f1 n1 P1 S1) (D2:Draws prog w A i2 f2 n2 P2 S2) (Z:Zp z TI TO i1 i2 f1 f2) (hz:IsZip s.heap z TI TO .none) (hI:IsPair s.heap TI (.ref i1) (.ref i2)) (hO:IsPair s.heap TO a b)
  (s1:S1 k s.heap) (s2:S2 k s.heap) (k1:k < n1) (k2:k < n2)
  (hQ:∀ x y h' tk,P1 k x->P2 k y->IsZip h' z TI TO (rawInt s.heap.objs.size)->IsPair h' TI (.ref i1) (.ref i2)->IsPair h' TO x y->S1 (k + 1) h'->S2 (k + 1) h'->IsPair h' s.heap.objs.size x y->
   (∀ c o,c≠z->c≠TO->c≠i1->c≠i2->s.heap.get? c=some o->h'.get? c=some o)->Q (.ref s.heap.objs.size) { s with heap:=h',toks:=tk }) :
  wpAny (model prog w) A (Builtin.«zip.__next__» ⟨[.ref z],[]⟩) (λfin s'=>∃ v,fin=.done (.ret v)/\Q v s') E s:=by
 change wpAny _ _ (field (.ref z) 2 >>= _) _ _ _
 refine wpAny_bind (wpAny_field hz rfl (x:=.bool false) rfl ?_)
 change wpAny _ _ (field (.ref z) 3 >>= _) _ _ _
 refine wpAny_bind (wpAny_field hz rfl (x:=.ref TI) rfl ?_)
 refine wpAny_bind (wpAny_seqItems hI rfl ?_)
 change wpAny _ _ (Builtin.SmallTypes.ownedTupleIsFree (.ref z) >>= _) _ _ _
 refine wpAny_bind ?_
 unfold Builtin.SmallTypes.ownedTupleIsFree
 refine wpAny_bind (wpAny_field hz rfl (x:=.none) rfl (wpAny_pure ?_))
 simp only [if_true]
 refine wpAny_bind (wpAny_rule ?_)
 refine wpAny_bind (wpAny_field hz rfl (x:=.ref TO) rfl ?_)
 refine wpAny_bind (wpAny_setField_rec hz (by simp) λg1 z1 m1=>?_)
 replace z1:IsZip g1 z TI TO .ellipsis:=z1
 refine wpAny_bind ?_
 simp only [List.zipIdx_cons,List.zipIdx_nil,List.forIn_cons,List.forIn_nil]
 refine wpAny_bind (wpAny_bind (wpAny_onRaise ?_))
 change wpAny _ _ (Builtin.SmallTypes.nextOf (.ref i1) >>= _) _ _ _
 refine wpAny_bind (D1.item k _ _ _ k1 (D1.frame _ _ _ s1 λc hc o e=>m1.extBut c o (λq=>Z.b1 (q ▸ hc)) e) λx g2 t2 px s12 m2=>wpAny_pure ?_)
 have o2:IsPair g2 TO a b:=m2.extBut _ _ Z.a8 (m1.extBut _ _ Z.a2 hO)
 refine wpAny_bind (wpAny_seqItems o2 rfl ?_)
 refine wpAny_bind (wpAny_updateSeq_pair o2 λg3 o3 m3=>?_)
 replace o3:IsPair g3 TO x b:=o3
 refine wpAny_bind (wpAny_letGo (wpAny_pure ?_))
 refine wpAny_bind (wpAny_bind (wpAny_onRaise ?_))
 change wpAny _ _ (Builtin.SmallTypes.nextOf (.ref i2) >>= _) _ _ _
 refine wpAny_bind (D2.item k _ _ _ k2 (D2.frame _ _ _ s2 λc hc o e=>m3.extBut c o (λq=>Z.b4 (q ▸ hc)) (m2.extBut c o (λq=>Z.b5 (q ▸ hc)) (m1.extBut c o (λq=>Z.b2 (q ▸ hc)) e))) λy g4 t4 py s24 m4=>wpAny_pure ?_)
 have o4:IsPair g4 TO x b:=m4.extBut _ _ Z.a9 o3
 refine wpAny_bind (wpAny_seqItems o4 rfl ?_)
 refine wpAny_bind (wpAny_updateSeq_pair o4 λg5 o5 m5=>?_)
 replace o5:IsPair g5 TO x y:=o5
 refine wpAny_bind (wpAny_letGo (wpAny_pure (wpAny_pure ?_)))
 refine wpAny_bind (wpAny_seqItems o5 rfl ?_)
 refine wpAny_bind (wpAny_newTuple ?_)
 have sz:g5.objs.size=s.heap.objs.size:=by
  have q5:g5.objs.size=g4.objs.size:=m5.1
  have q4:g4.objs.size=g3.objs.size:=m4.1
  have q3:g3.objs.size=g2.objs.size:=m3.1
  have q2:g2.objs.size=g1.objs.size:=m2.1
  have q1:g1.objs.size=s.heap.objs.size:=m1.1
  omega
 have all5:∀ c o,c≠z->c≠TO->c≠i1->c≠i2->s.heap.get? c=some o->g5.get? c=some o:=λc o c1 c2 c3 c4 e=>m5.extBut _ _ c2 (m4.extBut _ _ c4 (m3.extBut _ _ c2 (m2.extBut _ _ c3 (m1.extBut _ _ c1 e))))
 have z5:IsZip g5 z TI TO .ellipsis:=m5.extBut _ _ Z.a2.symm (m4.extBut _ _ Z.a4.symm (m3.extBut _ _ Z.a2.symm (m2.extBut _ _ Z.a3.symm z1)))
 have I5:IsPair g5 TI (.ref i1) (.ref i2):=all5 _ _ Z.a1 Z.a5 Z.a6 Z.a7 hI
 have u1:S1 (k + 1) g5:=D1.frame _ _ _ s12 λc hc o e=>m5.extBut c o (λq=>Z.b3 (q ▸ hc)) (m4.extBut c o (λq=>Z.b6 (q ▸ hc)) (m3.extBut c o (λq=>Z.b3 (q ▸ hc)) e))
 have u2:S2 (k + 1) g5:=D2.frame _ _ _ s24 λc hc o e=>m5.extBut c o (λq=>Z.b4 (q ▸ hc)) e
 have lt:z < g5.objs.size:=Heap.lt_size z5
 change wpAny _ _ (Builtin.SmallTypes.ownedTupleHandOut (.ref z) (.ref g5.objs.size) >>= _) _ _ _
 refine wpAny_bind ?_
 unfold Builtin.SmallTypes.ownedTupleHandOut
 have z6:IsZip (g5.push { cls:=.type "tuple",data:=.seq #[x,y] }) z TI TO .ellipsis:=Heap.get?_push_of_some _ z5
 refine wpAny_bind (wpAny_setField_rec z6 (by simp) λg7 z7 m7=>?_)
 replace z7:IsZip g7 z TI TO (rawInt g5.objs.size):=z7
 refine wpAny_setField_rec z7 (by simp) λg8 z8 m8=>?_
 replace z8:IsZip g8 z TI TO (rawInt g5.objs.size):=z8
 have up:∀ c o,c≠z->g5.get? c=some o->g8.get? c=some o:=λc o c1 e=>m8.extBut _ _ c1 (m7.extBut _ _ c1 (Heap.get?_push_of_some _ e))
 have T8:IsPair g8 g5.objs.size x y:=m8.extBut _ _ (Nat.ne_of_gt lt) (m7.extBut _ _ (Nat.ne_of_gt lt) (Heap.get?_push_size _ rfl))
 rw [sz] at z8 T8
 refine wpAny_pure ⟨_,rfl,?_⟩
 change Q (.ref g5.objs.size) _
 rw [sz]
 exact hQ x y g8 _ px py z8 (up _ _ Z.a1 I5) (up _ _ Z.a2 o5) (D1.frame _ _ _ u1 λc hc o e=>up c o (λq=>Z.b1 (q ▸ hc)) e) (D2.frame _ _ _ u2 λc hc o e=>up c o (λq=>Z.b2 (q ▸ hc)) e) T8
  λc o c1 c2 c3 c4 e=>up c o c1 (all5 c o c1 c2 c3 c4 e)
theorem Jq {z TI TO i1 i2:Addr} {f1 f2:List Addr} {n1 n2 k:Nat} {P1 P2:Nat->Value->Prop} {S1 S2:Nat->Heap->Prop} {a b:Value} {Q:Fin->Shared->Prop}
  (D1:Draws prog w A i1 f1 n1 P1 S1) (D2:Draws prog w A i2 f2 n2 P2 S2) (Z:Zp z TI TO i1 i2 f1 f2) (hz:IsZip s.heap z TI TO .none) (hI:IsPair s.heap TI (.ref i1) (.ref i2)) (hO:IsPair s.heap TO a b)
  (s1:S1 k s.heap) (s2:S2 k s.heap) (k1:k<=n1) (k2:k<=n2) (ke:k=n1\/k=n2)
  (hE:∀ h' e tk,(∀ c o,c≠z->c≠TO->c≠i1->c≠i2->s.heap.get? c=some o->h'.get? c=some o)->(∃ o,h'.get? e=some o/\o.cls=.type "StopIteration")->E (.ref e) { s with heap:=h',toks:=tk }) :
  wpAny (model prog w) A (Builtin.«zip.__next__» ⟨[.ref z],[]⟩) Q E s:=by
 change wpAny _ _ (field (.ref z) 2 >>= _) _ _ _
 refine wpAny_bind (wpAny_field hz rfl (x:=.bool false) rfl ?_)
 change wpAny _ _ (field (.ref z) 3 >>= _) _ _ _
 refine wpAny_bind (wpAny_field hz rfl (x:=.ref TI) rfl ?_)
 refine wpAny_bind (wpAny_seqItems hI rfl ?_)
 change wpAny _ _ (Builtin.SmallTypes.ownedTupleIsFree (.ref z) >>= _) _ _ _
 refine wpAny_bind ?_
 unfold Builtin.SmallTypes.ownedTupleIsFree
 refine wpAny_bind (wpAny_field hz rfl (x:=.none) rfl (wpAny_pure ?_))
 simp only [if_true]
 refine wpAny_bind (wpAny_rule ?_)
 refine wpAny_bind (wpAny_field hz rfl (x:=.ref TO) rfl ?_)
 refine wpAny_bind (wpAny_setField_rec hz (by simp) λg1 z1 m1=>?_)
 replace z1:IsZip g1 z TI TO .ellipsis:=z1
 refine wpAny_bind ?_
 simp only [List.zipIdx_cons,List.zipIdx_nil,List.forIn_cons,List.forIn_nil]
 refine wpAny_bind (wpAny_bind (wpAny_onRaise ?_))
 change wpAny _ _ (Builtin.SmallTypes.nextOf (.ref i1) >>= _) _ _ _
 have s1':S1 k g1:=D1.frame _ _ _ s1 λc hc o e=>m1.extBut c o (λq=>Z.b1 (q ▸ hc)) e
 by_cases c1:k=n1
 ·subst c1
  refine wpAny_bind (D1.done _ _ _ s1' λg2 e m2 he=>?_)
  obtain ⟨oe,he1,he2⟩:=he
  have z2:IsZip g2 z TI TO .ellipsis:=m2 _ _ Z.a3.symm z1
  have nez:e≠z:=λq=>by subst q; rw [z2] at he1; cases he1; simp at he2
  exact wpAny_setField_rec z2 (by simp) λg3 _ m3=>hE g3 e _ (λc o c1 c2 c3 c4 q=>m3.extBut _ _ c1 (m2 _ _ c3 (m1.extBut _ _ c1 q))) ⟨oe,m3.extBut _ _ nez he1,he2⟩
 ·have c2:k=n2:=ke.resolve_left c1
  subst c2
  refine wpAny_bind (D1.item k _ _ _ (by omega) s1' λx g2 t2 px s12 m2=>wpAny_pure ?_)
  have o2:IsPair g2 TO a b:=m2.extBut _ _ Z.a8 (m1.extBut _ _ Z.a2 hO)
  refine wpAny_bind (wpAny_seqItems o2 rfl ?_)
  refine wpAny_bind (wpAny_updateSeq_pair o2 λg3 o3 m3=>?_)
  refine wpAny_bind (wpAny_letGo (wpAny_pure ?_))
  refine wpAny_bind (wpAny_bind (wpAny_onRaise ?_))
  change wpAny _ _ (Builtin.SmallTypes.nextOf (.ref i2) >>= _) _ _ _
  refine wpAny_bind (D2.done _ _ _ (D2.frame _ _ _ s2 λc hc o e=>m3.extBut c o (λq=>Z.b4 (q ▸ hc)) (m2.extBut c o (λq=>Z.b5 (q ▸ hc)) (m1.extBut c o (λq=>Z.b2 (q ▸ hc)) e))) λg4 e m4 he=>?_)
  obtain ⟨oe,he1,he2⟩:=he
  have z4:IsZip g4 z TI TO .ellipsis:=m4 _ _ Z.a4.symm (m3.extBut _ _ Z.a2.symm (m2.extBut _ _ Z.a3.symm z1))
  have nez:e≠z:=λq=>by subst q; rw [z4] at he1; cases he1; simp at he2
  exact wpAny_setField_rec z4 (by simp) λg5 _ m5=>hE g5 e _ (λc o c1 c2 c3 c4 q=>m5.extBut _ _ c1 (m4 _ _ c4 (m3.extBut _ _ c2 (m2.extBut _ _ c3 (m1.extBut _ _ c1 q))))) ⟨oe,m5.extBut _ _ nez he1,he2⟩
end
noncomputable abbrev gO (h:Heap) (t:Addr):Heap:=h.push { cls:=.type "tuple_iterator",data:=.fields #[.ref t,.int 0 0] }
noncomputable abbrev gP (h:Heap) (t l:Addr):Heap:=(gO h t).push { cls:=.type "list_iterator",data:=.fields #[.ref l,.int 0 0] }
noncomputable abbrev gQ (h:Heap) (t l:Addr):Heap:=(gP h t l).push { cls:=.type "tuple",data:=.seq #[.ref h.objs.size,.ref (gO h t).objs.size] }
noncomputable abbrev gR (h:Heap) (t l:Addr):Heap:=(gQ h t l).push { cls:=.type "tuple",data:=.seq #[.none,.none] }
noncomputable abbrev jN (h:Heap) (t l:Addr):Heap:=(gR h t l).push { cls:=.type "zip",data:=.fields #[.none,.bool false,.bool false,.ref (gP h t l).objs.size,.ref (gQ h t l).objs.size] }
theorem Jr (t l:Addr) (xs ys:Array Value) :
  Meets (Builtin.«zip.__new__» ⟨[.type "zip",.ref t,.ref l],[]⟩) (λ_ R s=>s.heap.IsTuple t xs/\s.heap.IsList l ys/\R (.ok (.ret (.ref (gR s.heap t l).objs.size))) { s with heap:=jN s.heap t l }):=
 .of_wp λprog w A R s h=>by
  obtain ⟨hp,g,d,tk,os⟩:=s; obtain ⟨h1,h2,h⟩:=h
  have hsub:=sub_zip
  have e1:Heap.IsTuple (Shared.heap ⟨hp,g,d,tk,os⟩) t xs:=h1
  have e2:Heap.IsList (Shared.heap ⟨hp.push { cls:=.type "tuple_iterator",data:=.fields #[.ref t,.int 0 0] },g,d,tk,os⟩) l ys:=Heap.IsList.push h2 _
  wp_walk using wpAny_pyIter_tuple e1,wpAny_pyIter_list e2
  exact ⟨_,rfl,h⟩
theorem Js {prog:Program} {w:World} {A:Around} {E:Value->Shared->Prop} {s:Shared} {t l:Addr} {xs ys:Array Value} {Q:Value->Shared->Prop} (h1:s.heap.IsTuple t xs) (h2:s.heap.IsList l ys)
  (h:∀ h',IsZip h' (s.heap.objs.size + 4) (s.heap.objs.size + 2) (s.heap.objs.size + 3) .none->IsPair h' (s.heap.objs.size + 2) (.ref s.heap.objs.size) (.ref (s.heap.objs.size + 1))->IsPair h' (s.heap.objs.size + 3) .none .none->
   h'.IsTupleIter s.heap.objs.size t 0->h'.IsListIter (s.heap.objs.size + 1) l 0->(∀ c o,s.heap.get? c=some o->h'.get? c=some o)->Q (.ref (s.heap.objs.size + 4)) { s with heap:=h' }) :
  wpAny (model prog w) A (call (.type "zip") [.ref t,.ref l]) Q E s:=by
 refine callType_new F.called_zip (by decide) (F.typeCall_zip_2 _ _) (F.newCall_zip_2 _ _) (λobj=>F.args_object_init_3 obj _ _) F.entry_zip_new (Jr t l xs ys) ⟨h1,h2,?_⟩
 have n1:(gO s.heap t).objs.size=s.heap.objs.size + 1:=Heap.size_push ..
 have n2:(gP s.heap t l).objs.size=s.heap.objs.size + 2:=by rw [Heap.size_push,n1]
 have n3:(gQ s.heap t l).objs.size=s.heap.objs.size + 3:=by rw [Heap.size_push,n2]
 have n4:(gR s.heap t l).objs.size=s.heap.objs.size + 4:=by rw [Heap.size_push,n3]
 have p5:(jN s.heap t l).get? (gR s.heap t l).objs.size=some _:=Heap.get?_push_size _ rfl
 have p4:(jN s.heap t l).get? (gQ s.heap t l).objs.size=some _:=Heap.get?_push_of_some _ (Heap.get?_push_size _ rfl)
 have p3:(jN s.heap t l).get? (gP s.heap t l).objs.size=some _:=Heap.get?_push_of_some _ (Heap.get?_push_of_some _ (Heap.get?_push_size _ rfl))
 have p2:(jN s.heap t l).get? (gO s.heap t).objs.size=some _:=Heap.get?_push_of_some _ (Heap.get?_push_of_some _ (Heap.get?_push_of_some _ (Heap.get?_push_size _ rfl)))
 have p1:(jN s.heap t l).get? s.heap.objs.size=some _:=Heap.get?_push_of_some _ (Heap.get?_push_of_some _ (Heap.get?_push_of_some _ (Heap.get?_push_of_some _ (Heap.get?_push_size _ rfl))))
 change _/\_
 rw [n2,n3,n4] at p5
 rw [n1,n2] at p3
 rw [n3] at p4
 rw [n1] at p2
 rw [n4]
 exact ⟨⟨_,p5,rfl⟩,h _ p5 p3 p4 ⟨_,p1,rfl,rfl⟩ ⟨_,p2,rfl,rfl⟩ λc o x=>Heap.get?_push_of_some _ (Heap.get?_push_of_some _ (Heap.get?_push_of_some _ (Heap.get?_push_of_some _ (Heap.get?_push_of_some _ x))))⟩
section
variable {prog:Program} {w:World} {A:Around} {E:Value->Shared->Prop} {s:Shared}
theorem gS {z TI TO i1 i2:Addr} {f1 f2:List Addr} {n1 n2 k:Nat} {P1 P2:Nat->Value->Prop} {S1 S2:Nat->Heap->Prop} {a b:Value} {Q:Option Value->Shared->Prop}
  (D1:Draws prog w A.in1 i1 f1 n1 P1 S1) (D2:Draws prog w A.in1 i2 f2 n2 P2 S2) (Z:Zp z TI TO i1 i2 f1 f2) (hz:IsZip s.heap z TI TO .none) (hI:IsPair s.heap TI (.ref i1) (.ref i2)) (hO:IsPair s.heap TO a b)
  (s1:S1 k s.heap) (s2:S2 k s.heap) (k1:k < n1) (k2:k < n2)
  (hQ:∀ x y h' tk,P1 k x->P2 k y->IsZip h' z TI TO (rawInt s.heap.objs.size)->IsPair h' TI (.ref i1) (.ref i2)->IsPair h' TO x y->S1 (k + 1) h'->S2 (k + 1) h'->IsPair h' s.heap.objs.size x y->
   (∀ c o,c≠z->c≠TO->c≠i1->c≠i2->s.heap.get? c=some o->h'.get? c=some o)->Q (some (.ref s.heap.objs.size)) { s with heap:=h',toks:=tk }) :
  wpAny (model prog w) A (pyNext (.ref z)) Q E s:=by
 have ty:s.TypeIs (.ref z) "zip":=⟨_,hz,rfl⟩
 unfold pyNext
 refine wpAny_bind (wpAny_attempt (wpAny_callSpecial?_slot (name:=Str.ofString "__next__") ty F.slot_zip_next (wpAny_call_entry F.slot_zip_next ty F.entry_zip_next ?_ (F.args_zip_next_1 _))))
 exact Jp D1 D2 Z hz hI hO s1 s2 k1 k2 λx y h' tk c1 c2 c3 c4 c5 c6 c7 c8 c9=>wpAny_pure (hQ x y h' tk c1 c2 c3 c4 c5 c6 c7 c8 c9)
theorem gT {z TI TO i1 i2:Addr} {f1 f2:List Addr} {n1 n2 k:Nat} {P1 P2:Nat->Value->Prop} {S1 S2:Nat->Heap->Prop} {a b:Value} {Q:Option Value->Shared->Prop}
  (D1:Draws prog w A.in1 i1 f1 n1 P1 S1) (D2:Draws prog w A.in1 i2 f2 n2 P2 S2) (Z:Zp z TI TO i1 i2 f1 f2) (hz:IsZip s.heap z TI TO .none) (hI:IsPair s.heap TI (.ref i1) (.ref i2)) (hO:IsPair s.heap TO a b)
  (s1:S1 k s.heap) (s2:S2 k s.heap) (k1:k<=n1) (k2:k<=n2) (ke:k=n1\/k=n2)
  (hQ:∀ h' tk,(∀ c o,c≠z->c≠TO->c≠i1->c≠i2->s.heap.get? c=some o->h'.get? c=some o)->Q none { s with heap:=h',toks:=tk }) :
  wpAny (model prog w) A (pyNext (.ref z)) Q E s:=by
 have ty:s.TypeIs (.ref z) "zip":=⟨_,hz,rfl⟩
 unfold pyNext
 refine wpAny_bind (wpAny_attempt (wpAny_callSpecial?_slot (name:=Str.ofString "__next__") ty F.slot_zip_next (wpAny_call_entry F.slot_zip_next ty F.entry_zip_next
  (Jq D1 D2 Z hz hI hO s1 s2 k1 k2 ke λh' e tk keep he=>?_) (F.args_zip_next_1 _))))
 obtain ⟨o,ho,hc⟩:=he
 refine wpAny_bind (wpAny_isInstance (T:="StopIteration") (b:=true) ⟨o,ho,hc⟩ isSubtype_stop ?_)
 exact wpAny_pure (hQ _ _ keep)
end
end L2
namespace L2
open PySem PySem.Spec PyProof.Rows
noncomputable def j6 (K:PySem.W.Frag) (a b:Addr):It:=
 ⟨λi H=>∃ xs ys x y,zS K H a xs/\zE K H b ys/\xs[i]? = some x/\ys[i]? = some y,
  λi H v H'=>∃ T x y,v=.ref T/\H T=none/\H'=upd H T (.tup [x,y])/\(∀ xs,zS K H a xs->xs[i]? = some x)/\∀ ys,zE K H b ys->ys[i]? = some y,
  λi H=>∃ xs ys,zS K H a xs/\zE K H b ys/\i<=xs.length/\i<=ys.length/\(i=xs.length\/i=ys.length)⟩
theorem wV {vs:Array Value} (v:Option Value):Data.fields vs≠Data.cell v:=λz=>by cases z
theorem uE {vs:Array Value} {n:Nat} (v:Option Value):Data.seq vs n≠Data.cell v:=λz=>by cases z
theorem zF.turnT {X:Cx} {pins:List (Addr × Obj)} {σ:St} {H:Hp} {s:Shared} {h':Heap} {tk:Nat} {ch:List Addr} {T:Addr} {x y:V} {u v:Value} (I:zF X pins σ H s) (hf:∀ b∈ch,yc X pins H b) (keep:∀ b o,b∉ch->s.heap.get? b=some o->h'.get? b=some o)
  (hT:s.heap.objs.size<=T) (p:IsPair h' T u v) (rx:zQ x u) (ry:zQ y v):zF X pins σ (upd H T (.tup [x,y])) { s with heap:=h',toks:=tk }:=by
 have fr:H T=none:=I.hok.fresh hT
 have nT:∀ b o,s.heap.get? b=some o->b≠T:=λb o e z=>by rw [z] at e; exact absurd (Nat.lt_of_lt_of_le (Heap.lt_size e) hT) (Nat.lt_irrefl _)
 have vO:∀ b o,H b=some o->b∉ch:=λb o e z=>by rw [(hf b z).1] at e; cases e
 refine I.step (ch:=ch) (λb hb=>⟨(hf b hb).2.2.2.1,(hf b hb).2.1,(hf b hb).2.2.2.2.1,(hf b hb).2.2.2.2.2⟩) (λb o _ _ hc e _=>keep b o hc e) (λb o _ _ hc e _=>⟨o.slots,keep b o hc e⟩)
  (λb o _ e n=>by rw [zl (nT b o e)]; exact n) (λb o hc e=>⟨o,keep b o hc e⟩) (λb xs e=>by rw [zl (wN e fr)]; exact e) (λb o w e=>by rw [zl (wN e fr)]; exact e)
  (λb ps e=>⟨#[],by rw [zl (wN e fr),e]; simp⟩) (λm hm=>?_) (λb w e=>?_) I.bare
 ·obtain ⟨o,es,ep,ho,r⟩:=hm
  exact ⟨o,es,ep,keep _ o (λz=>(hf _ z).2.1 rfl) ho,r⟩
 ·by_cases hb:b=T
  ·subst hb
   rw [zO] at e
   cases e
   exact ⟨by show 2<=sizeLine; decide,[u,v],.cons rx (.cons ry .nil),⟨_,p,rfl,_,rfl⟩⟩
  ·rw [zl hb] at e
   refine (I.hok b w e).stay (λc q hc ec=>keep c q ?_ ec) (λc ec=>by rw [zl (wN ec fr)]; exact ec) λc xs ec=>by rw [zl (wN ec fr)]; exact ec
   rcases hc with z | z
   ·rw [z]
    exact vO b w e
   ·exact vO c _ z
theorem zF.turnN {X:Cx} {pins:List (Addr × Obj)} {σ:St} {H:Hp} {s:Shared} {h':Heap} {tk:Nat} {ch:List Addr} (I:zF X pins σ H s) (hf:∀ b∈ch,yc X pins H b) (keep:∀ b o,b∉ch->s.heap.get? b=some o->h'.get? b=some o) :
  zF X pins σ H { s with heap:=h',toks:=tk }:=by
 have vO:∀ b o,H b=some o->b∉ch:=λb o e z=>by rw [(hf b z).1] at e; cases e
 refine I.step (ch:=ch) (λb hb=>⟨(hf b hb).2.2.2.1,(hf b hb).2.1,(hf b hb).2.2.2.2.1,(hf b hb).2.2.2.2.2⟩) (λb o _ _ hc e _=>keep b o hc e) (λb o _ _ hc e _=>⟨o.slots,keep b o hc e⟩)
  (λb o _ e n=>n) (λb o hc e=>⟨o,keep b o hc e⟩) (λb xs e=>e) (λb o w e=>e) (λb ps e=>⟨#[],by rw [e]; simp⟩) (λm hm=>?_) (λb w e=>?_) I.bare
 ·obtain ⟨o,es,ep,ho,r⟩:=hm
  exact ⟨o,es,ep,keep _ o (λz=>(hf _ z).2.1 rfl) ho,r⟩
 ·refine (I.hok b w e).stay (λc q hc ec=>keep c q ?_ ec) (λc ec=>ec) λc xs ec=>ec
  rcases hc with z | z
  ·rw [z]
   exact vO b w e
  ·exact vO c _ z
theorem Jt {P:Program} {w:World} {K:PySem.W.Frag} {es:List Expr} {kk:Nat} {tp:Pos} {a b z TI TO i1 i2:Addr} (Z:Zp z TI TO i1 i2 [i1,a] [i2,b]) (na:a≠i1) (nb:b≠i2) :
  xN P w K (.Tuple es kk tp) (j6 K a b) [z,TI,TO,i1,i2] z (λi h=>IsZip h z TI TO .none/\IsPair h TI (.ref i1) (.ref i2)/\(∃ x y,IsPair h TO x y)/\h.IsTupleIter i1 a i/\h.IsListIter i2 b i) where
 mem:=by simp
 obj:=λi h ⟨t1,t2,⟨x,y,t3⟩,t4,t5⟩ c hc=>by
  simp only [List.mem_cons,List.not_mem_nil,or_false] at hc
  rcases hc with rfl | rfl | rfl | rfl | rfl
  ·exact ⟨_,t1,wV⟩
  ·exact ⟨_,t2,uE⟩
  ·exact ⟨_,t3,uE⟩
  ·obtain ⟨o,e,_,d⟩:=t4
   exact ⟨o,e,by rw [d]; exact wV⟩
  ·obtain ⟨o,e,_,d⟩:=t5
   exact ⟨o,e,by rw [d]; exact wV⟩
 keep:=λi h h' ⟨t1,t2,⟨x,y,t3⟩,t4,t5⟩ k=>⟨k z (by simp) _ t1,k TI (by simp) _ t2,⟨x,y,k TO (by simp) _ t3⟩,(by obtain ⟨o,e,r⟩:=t4; exact ⟨o,k i1 (by simp) o e,r⟩),(by obtain ⟨o,e,r⟩:=t5; exact ⟨o,k i2 (by simp) o e,r⟩)⟩
 item:=by
  intro X hP hw hK hc i pins s σ H E I hf ⟨t1,t2,⟨x0,y0,t3⟩,t4,t5⟩ hg
  subst hP hw hK
  obtain ⟨xs,ys,x,y,hq1,hq2,hx,hy⟩:=hg
  obtain ⟨its1,rv1,p1,_⟩:=I.tuple hq1
  obtain ⟨its2,rv2,p2,_⟩:=I.list hq2
  obtain ⟨u,hu,ru⟩:=rv1.get hx
  obtain ⟨v,hv,rv⟩:=rv2.get hy
  have hh:X.A.in1.handled=none:=I.ok.hd hc
  have l1:i < its1.toArray.size:=by rw [List.size_toArray]; exact (List.getElem?_eq_some_iff.mp hu).1
  have l2:i < its2.toArray.size:=by rw [List.size_toArray]; exact (List.getElem?_eq_some_iff.mp hv).1
  refine gS (uD hh i1 a na its1.toArray) (Draws.list hh i2 b nb its2.toArray) Z t1 t2 t3 ⟨t4,p1⟩ ⟨t5,p2.isList⟩ l1 l2 ?_
  intro x' y' h1 tk px py z1 z2 z3 z4 z5 z6 keep
  have ex:x'=u:=by
   have q:its1.toArray[i]? = some x':=px
   simp only [List.getElem?_toArray] at q
   rw [hu] at q
   exact (Option.some.inj q).symm
  have ey:y'=v:=by
   have q:its2.toArray[i]? = some y':=py
   simp only [List.getElem?_toArray] at q
   rw [hv] at q
   exact (Option.some.inj q).symm
  subst ex ey
  refine ⟨_,rfl,wpAny_letOwnedTupleGo_zip (s:={ s with heap:=h1,toks:=tk }) z1 λh2 z7 sb=>?_⟩
  have zlt:z < s.heap.objs.size:=Heap.lt_size t1
  have keep2:∀ c o,c∉[z,TI,TO,i1,i2]->s.heap.get? c=some o->h2.get? c=some o:=λc o hc e=>by
   simp only [List.mem_cons,List.not_mem_nil,or_false,not_or] at hc
   exact sb.extBut c o hc.1 (keep c o hc.1 hc.2.2.1 hc.2.2.2.1 hc.2.2.2.2 e)
  have pT:IsPair h2 s.heap.objs.size x' y':=sb.extBut _ _ (Nat.ne_of_gt zlt) z6
  have I':=I.turnT (h':=h2) (tk:=tk) (ch:=[z,TI,TO,i1,i2]) (x:=x) (y:=y) hf keep2 (Nat.le_refl _) pT ru rv
  refine ⟨.ref s.heap.objs.size,_,I',rfl,⟨s.heap.objs.size,x,y,rfl,I.hok.fresh (Nat.le_refl _),rfl,λxs' q=>by rw [I.tuple_inj q hq1]; exact hx,λys' q=>by rw [I.list_inj q hq2]; exact hy⟩,
   ⟨z7,sb.extBut _ _ Z.a1 z2,⟨_,_,sb.extBut _ _ Z.a2 z3⟩,z4.1.extBut sb.extBut Z.a3,z5.1.extBut sb.extBut Z.a4⟩,λc hc=>?_⟩
  have:=(hf c hc).1
  rw [zl]
  ·exact this
  ·intro q
   obtain ⟨o,e,_⟩:∃ o,s.heap.get? c=some o/\True:=by
    simp only [List.mem_cons,List.not_mem_nil,or_false] at hc
    rcases hc with rfl | rfl | rfl | rfl | rfl
    ·exact ⟨_,t1,trivial⟩
    ·exact ⟨_,t2,trivial⟩
    ·exact ⟨_,t3,trivial⟩
    ·obtain ⟨o,e,_⟩:=t4; exact ⟨o,e,trivial⟩
    ·obtain ⟨o,e,_⟩:=t5; exact ⟨o,e,trivial⟩
   rw [q] at e
   exact absurd (Heap.lt_size e) (Nat.lt_irrefl _)
 done:=by
  intro X hP hw hK hc i pins s σ H E I hf ⟨t1,t2,⟨x0,y0,t3⟩,t4,t5⟩ hg
  subst hP hw hK
  obtain ⟨xs,ys,hq1,hq2,e1,e2,e3⟩:=hg
  obtain ⟨its1,rv1,p1,_⟩:=I.tuple hq1
  obtain ⟨its2,rv2,p2,_⟩:=I.list hq2
  have hh:X.A.in1.handled=none:=I.ok.hd hc
  have n1:its1.toArray.size=xs.length:=by rw [List.size_toArray]; exact rv1.length.symm
  have n2:its2.toArray.size=ys.length:=by rw [List.size_toArray]; exact rv2.length.symm
  refine gT (uD hh i1 a na its1.toArray) (Draws.list hh i2 b nb its2.toArray) Z t1 t2 t3 ⟨t4,p1⟩ ⟨t5,p2.isList⟩ (by omega) (by omega) (by omega) ?_
  intro h1 tk keep
  refine ⟨rfl,I.turnN (h':=h1) (tk:=tk) (ch:=[z,TI,TO,i1,i2]) hf λc o hc e=>?_⟩
  simp only [List.mem_cons,List.not_mem_nil,or_false,not_or] at hc
  exact keep c o hc.1 hc.2.2.1 hc.2.2.2.1 hc.2.2.2.2 e
 self:=λ_ _ _ _ _ st h=>wpAny_pyIter_zip st.1 h
theorem wg {x y z:Nat} (h1:x≠y) (h2:x≠z):x∉[y,z]:=by simp [h1,h2]
theorem j7 (n a b:Nat) (la:a < n) (lb:b < n):Zp (n + 4) (n + 2) (n + 3) n (n + 1) [n,a] [n + 1,b]:=by
 have e:∀ x y:Nat,x≠y->(x:Addr)≠y:=λ_ _ h=>h
 exact ⟨e _ _ (by omega),e _ _ (by omega),e _ _ (by omega),e _ _ (by omega),e _ _ (by omega),e _ _ (by omega),e _ _ (by omega),e _ _ (by omega),e _ _ (by omega),
  wg (by omega) (by omega),wg (by omega) (by omega),wg (by omega) (by omega),wg (by omega) (by omega),wg (by omega) (by omega),wg (by omega) (by omega)⟩
section
variable {X:Cx} {es:List Expr} {kk:Nat} {tp:Pos}
end
theorem Ju {K:PySem.W.Frag} {a b:Addr} {xs ys:List V} {g:TG} {tb:TS} {D:yp} {σ:St} {H:Hp} (Pv:Nat->St->Hp->Prop) (h0:Pv 0 σ H) (hl:∀ i σ H,i<=xs.length->Pv i σ H->zS K H a xs/\zE K H b ys) (hlen:xs.length<=ys.length)
  (hs:∀ i x y T σ H,xs[i]? = some x->ys[i]? = some y->H T=none->Pv i σ H->g (.ref T) σ (upd H T (.tup [x,y])) λσ2 H2=>tb { D with nx:=Pv (i + 1),ct:=Pv (i + 1),bk:=D.nx } σ2 H2) (hd:∀ σ H,Pv xs.length σ H->D.nx σ H) :
  ∃ W:Nat->Nat->St->Hp->Prop,(∃ m,W 0 m σ H)/\∀ i m σ H,W i m σ H->
   ((j6 K a b).stop i H/\D.nx σ H)\/((j6 K a b).go i H/\∃ N:St->Hp->Prop,(∀ σ' H',N σ' H'->∃ m',m' < m/\W (i + 1) m' σ' H')/\∀ x H',(j6 K a b).yld i H x H'->g x σ H' λσ2 H2=>tb { D with nx:=N,ct:=N,bk:=D.nx } σ2 H2):=by
 refine ⟨λi m σ H=>m=xs.length - i/\i<=xs.length/\Pv i σ H,⟨xs.length,by simp,Nat.zero_le _,h0⟩,?_⟩
 rintro i m σ H ⟨rfl,hi,p⟩
 obtain ⟨q1,q2⟩:=hl i σ H hi p
 by_cases hlt:i < xs.length
 ·have hlt2:i < ys.length:=by omega
  refine .inr ⟨⟨xs,ys,xs[i],ys[i],q1,q2,by simp [hlt],by simp [hlt2]⟩,Pv (i + 1),λσ' H' p'=>⟨xs.length - (i + 1),by omega,rfl,hlt,p'⟩,λv H' y=>?_⟩
  obtain ⟨T,x,y,rfl,hT,rfl,c1,c2⟩:=y
  exact hs i x y T σ H (c1 xs q1) (c2 ys q2) hT p
 ·have e:i=xs.length:=by omega
  subst e
  exact .inl ⟨⟨xs,ys,q1,q2,Nat.le_refl _,hlen,.inl rfl⟩,hd σ H p⟩
end L2
namespace L2
open PySem PySem.Spec PyProof.Rows
section
variable {κ:Type} [DecidableEq κ]
noncomputable def y3 (kvs:List (κ × V)) (k:κ):Option V:=(kvs.find? λkv=>decide (kv.1=k)).map (·.2)
noncomputable def xn (kvs:List (κ × V)) (k:κ) (v:V):List (κ × V):=
 if (kvs.any λkv=>decide (kv.1=k))=true then kvs.map (λkv=>if kv.1=k then (kv.1,v) else kv) else kvs++[(k,v)]
noncomputable def X3 (kvs:List (κ × V)) (k:κ):List (κ × V):=kvs.filter λkv=>decide (kv.1≠k)
theorem ZQ {p:κ × V} {r:List (κ × V)} {k:κ} (e:p.1=k):y3 (p :: r) k=some p.2:=by simp [y3,List.find?_cons,e]
theorem ZR {p:κ × V} {r:List (κ × V)} {k:κ} (e:¬ p.1=k):y3 (p :: r) k=y3 r k:=by simp [y3,List.find?_cons,e]
theorem X4 (k:κ):∀ kvs:List (κ × V),(kvs.any λkv=>decide (kv.1=k))=(y3 kvs k).isSome
 | []=>rfl
 | p :: r=>by
  rw [List.any_cons]
  by_cases e:p.1=k
  ·simp only [ZQ e,decide_eq_true e,Bool.true_or,Option.isSome_some]
  ·rw [ZR e,decide_eq_false e,Bool.false_or]; exact X4 k r
theorem yQ.isSome_eq {o:Option V} {u:Option Value} (r:yQ o u):o.isSome=u.isSome:=by
 cases o with
 | none=>cases u with
  | none=>rfl
  | some _=>exact (show False from r).elim
 | some _=>cases u with
  | none=>exact (show False from r).elim
  | some _=>rfl
theorem yQ.getD {o:Option V} {u:Option Value} {d:V} {d':Value} (r:yQ o u) (rd:zQ d d'):zQ (o.getD d) (u.getD d'):=by
 cases o with
 | none=>cases u with
  | none=>exact rd
  | some _=>exact (show False from r).elim
 | some _=>cases u with
  | none=>exact (show False from r).elim
  | some _=>exact r
theorem KV.val {kvs:List (κ × V)} {vs:List (κ × Value)} (r:KV kvs vs) (k:κ):yQ (y3 kvs k) (valueAt vs k):=by
 unfold KV at r
 induction r with
 | nil=>exact True.intro
 | @cons p q ps qs h t ih=>
  obtain ⟨h1,h2⟩:=h
  by_cases e:p.1=k
  ·have e':q.1=k:=h1.symm.trans e
   have b:valueAt (q :: qs) k=some q.2:=by simp [valueAt,List.find?_cons,e']
   rw [ZQ e,b]; exact h2
  ·have e':¬ q.1=k:=λz=>e (h1.trans z)
   have b:valueAt (q :: qs) k=valueAt qs k:=by simp [valueAt,List.find?_cons,e']
   rw [ZR e,b]; exact ih
theorem KV.any {kvs:List (κ × V)} {vs:List (κ × Value)} (r:KV kvs vs) (k:κ):(kvs.any λkv=>decide (kv.1=k))=vs.any λkv=>decide (kv.1=k):=by
 unfold KV at r
 induction r with
 | nil=>rfl
 | cons h t ih=>rw [List.any_cons,List.any_cons,ih,h.1]
theorem KV.repl {kvs:List (κ × V)} {vs:List (κ × Value)} (r:KV kvs vs) (k:κ) {y:V} {u:Value} (ry:zQ y u) :
  KV (kvs.map λkv=>if kv.1=k then (kv.1,y) else kv) (vs.map λkv=>if kv.1=k then (kv.1,u) else kv):=by
 unfold KV at r |-
 induction r with
 | nil=>exact .nil
 | @cons p q ps qs h t ih=>
  rw [List.map_cons,List.map_cons]
  refine .cons ?_ ih
  obtain ⟨h1,h2⟩:=h
  by_cases e:p.1=k
  ·rw [if_pos e,if_pos (h1.symm.trans e)]; exact ⟨h1,ry⟩
  ·rw [if_neg e,if_neg (λz=>e (h1.trans z))]; exact ⟨h1,h2⟩
theorem KV.put {kvs:List (κ × V)} {vs:List (κ × Value)} (r:KV kvs vs) (k:κ) {y:V} {u:Value} (ry:zQ y u):KV (xn kvs k y) (stored vs k u):=by
 unfold xn stored
 rw [r.any k]
 by_cases e:(vs.any λkv=>decide (kv.1=k))=true
 ·rw [if_pos e,if_pos e]; exact r.repl k ry
 ·rw [if_neg e,if_neg e]; exact Paired.snoc r ⟨rfl,ry⟩
theorem KV.drop {kvs:List (κ × V)} {vs:List (κ × Value)} (r:KV kvs vs) (k:κ):KV (X3 kvs k) (without vs k):=by
 unfold KV at r |-
 unfold X3 without
 induction r with
 | nil=>exact .nil
 | @cons p q ps qs h t ih=>
  obtain ⟨h1,h2⟩:=h
  rw [List.filter_cons,List.filter_cons]
  by_cases e:p.1=k
  ·have a:¬ decide (p.1≠k)=true:=by simp [e]
   have b:¬ decide (q.1≠k)=true:=by simp [h1.symm.trans e]
   rw [if_neg a,if_neg b]; exact ih
  ·have e':¬ q.1=k:=λz=>e (h1.trans z)
   have a:decide (p.1≠k)=true:=by simp [e]
   have b:decide (q.1≠k)=true:=by simp [e']
   rw [if_pos a,if_pos b]; exact .cons ⟨h1,h2⟩ ih
theorem KV.length {kvs:List (κ × V)} {vs:List (κ × Value)} (r:KV kvs vs):kvs.length=vs.length:=Paired.length r
end
noncomputable abbrev KT (H:Hp):List (List yL × V)->List (List yL × Addr × Value)->Prop:=Paired λp q=>p.1=q.1/\H q.2.1=some (.tup (p.1.map kV))/\zQ p.2 q.2.2
theorem KT.val {H:Hp} {kvs:List (List yL × V)} {xs:List (List yL × Addr × Value)} (r:KT H kvs xs) (k:List yL):yQ (y3 kvs k) ((atKey xs k).map (·.2)):=by
 induction r with
 | nil=>exact True.intro
 | @cons p q ps qs h t ih=>
  obtain ⟨h1,_,h2⟩:=h
  by_cases e:p.1=k
  ·have e':q.1=k:=h1.symm.trans e
   have b:atKey (q :: qs) k=some q.2:=by simp [atKey,List.find?_cons,e']
   rw [ZQ e,b]; exact h2
  ·have e':¬ q.1=k:=λz=>e (h1.trans z)
   have b:atKey (q :: qs) k=atKey qs k:=by simp [atKey,List.find?_cons,e']
   rw [ZR e,b]; exact ih
theorem KT.repl {H:Hp} {kvs:List (List yL × V)} {xs:List (List yL × Addr × Value)} (r:KT H kvs xs) (k:List yL) {y:V} {u:Value} (ry:zQ y u) :
  KT H (kvs.map λkv=>if kv.1=k then (kv.1,y) else kv) (xs.map (putAt k u)):=by
 induction r with
 | nil=>exact .nil
 | @cons p q ps qs h t ih=>
  rw [List.map_cons,List.map_cons]
  refine .cons ?_ ih
  obtain ⟨h1,h2,h3⟩:=h
  unfold putAt
  by_cases e:p.1=k
  ·rw [if_pos e,if_pos (h1.symm.trans e)]; exact ⟨h1,h2,ry⟩
  ·rw [if_neg e,if_neg (λz=>e (h1.trans z))]; exact ⟨h1,h2,h3⟩
theorem KT.put {H:Hp} {kvs:List (List yL × V)} {xs:List (List yL × Addr × Value)} (r:KT H kvs xs) (k:List yL) {b:Addr} {y:V} {u:Value} (hb:H b=some (.tup (k.map kV))) (ry:zQ y u) :
  KT H (xn kvs k y) (storedH xs k b u):=by
 have e:(kvs.any λkv=>decide (kv.1=k))=(atKey xs k).isSome:=by
  rw [X4,(r.val k).isSome_eq,Option.isSome_map]
 unfold xn storedH
 rw [e]
 by_cases q:(atKey xs k).isSome=true
 ·rw [if_pos q,if_pos q]; exact r.repl k ry
 ·rw [if_neg q,if_neg q]; exact Paired.snoc r ⟨rfl,hb,ry⟩
theorem KT.keeps {H H':Hp} {kvs:List (List yL × V)} {xs:List (List yL × Addr × Value)} (r:KT H kvs xs) (ht:∀ b ys,H b=some (.tup ys)->H' b=some (.tup ys)):KT H' kvs xs:=
 Paired.mapP r λ_ _ z=>⟨z.1,ht _ _ z.2.1,z.2.2⟩
section
variable {P:Program} {w:World} {H:Hp} {h:Heap} {a:Addr}
end
noncomputable def vk (H:Hp) (a:Addr) (y:V) (r:Option V):Prop:=
 (∃ kvs k,Rd H a (.dK kvs)/\y=kV k/\r=y3 kvs k)\/∃ kvs k b,Rd H a (.dT kvs)/\y=.ref b/\H b=some (.tup (k.map kV))/\r=y3 kvs k
noncomputable def vm (H:Hp) (a:Addr) (y v:V) (H':Hp):Prop:=
 (∃ kvs k,H a=some (.dK kvs)/\y=kV k/\kvs.length < sizeLine/\H'=upd H a (.dK (xn kvs k v)))∨
 ∃ kvs k b,H a=some (.dT kvs)/\y=.ref b/\H b=some (.tup (k.map kV))/\kvs.length < sizeLine/\H'=upd H a (.dT (xn kvs k v))
theorem vk.k {H:Hp} {a:Addr} {kvs:List (yL × V)} {k:yL} (e:H a=some (.dK kvs)):vk H a (kV k) (y3 kvs k):=.inl ⟨kvs,k,.inl e,rfl,rfl⟩
theorem vk.t {H:Hp} {a b:Addr} {kvs:List (List yL × V)} {k:List yL} (e:H a=some (.dT kvs)) (eb:H b=some (.tup (k.map kV))):vk H a (.ref b) (y3 kvs k):=.inr ⟨kvs,k,b,.inl e,rfl,eb,rfl⟩
theorem vm.k {H:Hp} {a:Addr} {kvs:List (yL × V)} {k:yL} {v:V} (e:H a=some (.dK kvs)) (hl:kvs.length < sizeLine):vm H a (kV k) v (upd H a (.dK (xn kvs k v))):=.inl ⟨kvs,k,e,rfl,hl,rfl⟩
theorem vm.t {H:Hp} {a b:Addr} {kvs:List (List yL × V)} {k:List yL} {v:V} (e:H a=some (.dT kvs)) (eb:H b=some (.tup (k.map kV))) (hl:kvs.length < sizeLine) :
  vm H a (.ref b) v (upd H a (.dT (xn kvs k v))):=.inr ⟨kvs,k,b,e,rfl,eb,hl,rfl⟩
section
variable {X:Cx} {pins:List (Addr × Obj)} {σ:St} {H:Hp} {s:Shared} {a:Addr} {y v:V} {u r:Value} {o:Option V} {A:Around} {E:Value->Shared->Prop}
theorem zF.big (I:zF X pins σ H s):sysModules < s.heap.objs.size:=by
 have h:mainGlobals < s.heap.objs.size:=(I.mod.glob.keeps I.bk).lt
 exact Nat.lt_trans (by decide) h
end
section
variable {X:Cx} {pins:List (Addr × Obj)} {σ:St} {H:Hp} {s:Shared} {a:Addr} {kvs:List (yL × V)} {k:yL} {u:Value} {A:Around} {E:Value->Shared->Prop}
end
section
variable {X:Cx} {o i e value:Expr} {pos pos' tpos:Pos} {td ty tv:TE}
end
section
variable {X:Cx} {pos:Pos}
end
end L2
namespace L2
open PySem
section
variable {prog:Program} {w:World} {A:Around} {R:Result->Shared->Prop} {s:Shared}
end
end L2
namespace L2
open PySem PySem.Spec PyProof.Rows
section
variable {X:Cx} {scope:Scope} {own:List Str} {caps:List (Nat × Str)} {elt tg iter cond:Expr} {wi:TI} {g:TG} {tc:TT} {te:TE} {pos:Pos}
end
end L2
namespace L2
open PySem PySem.Spec PyProof.Rows
section
variable {prog:Program} {w:World} {A:Around} {E:Value->Shared->Prop} {s:Shared}
end
end L2
namespace L2
open PySem PySem.Spec PyProof.Rows
theorem ZS {K:PySem.W.Frag} {a:Addr} {xs:List V} {g:TG} {te:TE} {σ0:St} {H:Hp} {Q:VK} (Pv:Nat->List V->St->Hp->Prop) (h0:Pv 0 [] σ0 H) (hl:∀ i ys σ H,i<=xs.length->Pv i ys σ H->zS K H a xs/\ys.length<=i) (hz:xs.length<=sizeLine)
  (hs:∀ i x ys σ H,xs[i]? = some x->Pv i ys σ H->g x σ H λσ2 H2=>te σ2 H2 λy H3=>Pv (i + 1) (ys++[y]) σ2 H3)
  (hd:∀ ys σ H,Pv xs.length ys σ H->∀ p,H p=none->Q (.ref p) (upd H p (.lst ys))) :
  j3 (jH K a) g te Q σ0 H:=by
 refine ⟨λi m ys σ H=>m=xs.length - i/\i<=xs.length/\Pv i ys σ H,⟨xs.length,by simp,Nat.zero_le _,h0⟩,?_⟩
 rintro i m ys σ H ⟨rfl,hi,p⟩
 obtain ⟨q,hy⟩:=hl i ys σ H hi p
 by_cases hlt:i < xs.length
 ·refine .inr ⟨⟨xs,xs[i],q,by simp [hlt]⟩,by omega,λy σ' H'=>Pv (i + 1) (ys++[y]) σ' H',λy σ' H' z=>⟨xs.length - (i + 1),by omega,rfl,hlt,z⟩,λx H' y=>?_⟩
  obtain ⟨e,y⟩:=y
  subst e
  exact hs i x ys σ _ (y xs q) p
 ·have e:i=xs.length:=by omega
  subst e
  exact .inl ⟨⟨xs,q,Nat.le_refl _⟩,hd ys σ H p⟩
section
variable {X:Cx}
theorem Jv (hu:X.A.units + 64 < cLine):yU X (compareOp .NotEq) (λx y H Q=>∃ d e:PyData,Dp X.K H x d/\Dp X.K H y e/\d.canLay0=true/\e.canLay0=true/\d.depth<=60/\e.depth<=60/\Q (.bl (!PyData.eqv d e)) H):=by
 intro pins s σ H x y v u Q I rx ry h
 obtain ⟨d,e,hx,hy,hc,hc',hd,hd',q⟩:=h
 obtain ⟨_,r1⟩:=hx.reads I rx
 obtain ⟨_,r2⟩:=hy.reads I ry
 exact SeqAt.compareNe_reads r1 r2 hc hc' (by omega) ⟨.bl _,H,I,rfl,q⟩
end
end L2
namespace L2
open PySem PySem.Spec PyProof.Rows
section
variable {X:Cx}
end
end L2
namespace L2
open PySem
end L2
namespace L2
open PySem PySem.Spec PyProof.Rows
section
variable {X:Cx}
end
end L2
namespace L2
open PySem PySem.Spec PyProof.Rows
section
variable {X:Cx} {scope:Scope} {own:List Str} {caps:List (Nat × Str)} {pins:List (Addr × Obj)} {σ:St} {H:Hp} {s s4:Shared} {C D:Addr} {fp:List Addr}
end
section
variable {X:Cx} {scope:Scope} {own:List Str} {caps:List (Nat × Str)} {elt tg iter cond:Expr} {wi:TI} {g:TG} {tc:TT} {te:TE} {pos:Pos}
end
end L2
namespace Sh
open PySem L2
noncomputable def x8 (ns:List Int) (k:Int):Int:=(ns[k.toNat]?).getD 0
inductive ZT (K:PySem.W.Frag) (vs:List V) (H:Hp) (Q:VK) (E:XK):Prop
 | mk (a:Addr) (ns:List Int) (k:Int) (_:vs=[.ref a,.int k]) (_:zE K H a (ns.map V.int)) (_:0<=k) (_:Q (.int (x8 ns k)) H):ZT K vs H Q E
theorem zU {H:Hp} {p:Addr} (h:H p=none) (o:HO):zD H (upd H p o):=λb u q=>by rw [zl (wN q h)]; exact q
theorem wj {x y:V}:yA [x,y] 0=some x:=rfl
theorem xg {x y:V}:yA [x,y] 1=some y:=rfl
noncomputable def Tp (H:Hp) (v:V) (xs:List V):Prop:=∃ a,v=.ref a/\H a=some (.tup xs)
theorem Tp.same {H H':Hp} {v:V} {xs:List V} (s:zD H H') (h:Tp H v xs):Tp H' v xs:=let ⟨r,e,q⟩:=h; ⟨r,e,s _ _ q⟩
theorem Tp.upd {H:Hp} {v:V} {xs:List V} {l:Addr} {o o':HO} (hl:H l=some o) (n:∀ ys,o≠.tup ys) (h:Tp H v xs):Tp (upd H l o') v xs:=by
 obtain ⟨r,e,q⟩:=h
 exact ⟨r,e,by rw [zl (Y7 q hl λz=>n _ z.symm)]; exact q⟩
theorem ym {α β:Type} {R:α->β->Prop}:∀ {xs:List α} {ys:List β} {i:Nat} {x:α},Paired R xs ys->xs[i]? = some x->∃ y,ys[i]? = some y/\R x y
 | _,_,_,_,.nil,e=>by simp at e
 | _,_,0,_,.cons r _,e=>by simp at e; subst e; exact ⟨_,rfl,r⟩
 | _,_,i + 1,x,.cons _ t,e=>by
  obtain ⟨y,h1,h2⟩:=ym (i:=i) (x:=x) t (by simpa using e)
  exact ⟨y,by simpa using h1,h2⟩
theorem xR {α β:Type} {R:α->β->Prop} {x:α} {y:β} (r:R x y):∀ {xs:List α} {ys:List β},Paired R xs ys->Paired R (xs++[x]) (ys++[y])
 | _,_,.nil=>.cons r .nil
 | _,_,.cons q t=>.cons q (xR r t)
theorem gU {α β:Type} {R:α->β->Prop}:∀ {xs zs:List α} {ys us:List β},Paired R xs ys->Paired R zs us->Paired R (xs++zs) (ys++us)
 | _,_,_,_,.nil,h=>h
 | _,_,_,_,.cons q t,h=>.cons q (gU t h)
theorem x9 {α:Type} {l:List α} {i:Nat} {x:α} (h:l[i]? = some x):l.take (i + 1)=l.take i++[x]:=by
 obtain ⟨hi,e⟩:=List.getElem?_eq_some_iff.mp h
 rw [List.take_succ_eq_append_getElem hi,e]
noncomputable abbrev yY (H:Hp) (vs:List V) (ks:List (List Int)):Prop:=Paired (λv (k:List Int)=>Tp H v (k.map V.int)) vs ks
theorem yY.same {H H':Hp} {vs:List V} {ks:List (List Int)} (s:zD H H') (h:yY H vs ks):yY H' vs ks:=Paired.mapP h λ_ _ z=>Tp.same s z
theorem yY.upd {H:Hp} {vs:List V} {ks:List (List Int)} {l:Addr} {o o':HO} (hl:H l=some o) (n:∀ ys,o≠.tup ys) (h:yY H vs ks):yY (upd H l o') vs ks:=Paired.mapP h λ_ _ z=>Tp.upd hl n z
theorem Jw {n j:Nat} (h:j < n):wx n (j:Int)=some j:=by
 unfold wx
 rw [if_pos (by omega),if_pos (by omega)]
 rfl
theorem vF (K:PySem.W.Frag):PySem.W.kitOne K (.type "list") (.type "list")=some true:=by first | rfl | decide +kernel | (unfold PySem.W.kitOne; rw [if_pos (by decide +kernel)])
inductive j8 (K:PySem.W.Frag) (vs:List V) (H:Hp) (Q:VK) (E:XK):Prop
 | mk (a:Addr) (ns:List Int) (_:vs=[.ref a]) (_:zE K H a (ns.map V.int)) (_:ns.length<=63) (_:∀ H',Q (.bl true) H'):j8 K vs H Q E
inductive jO (vs:List V) (H:Hp) (Q:VK) (E:XK):Prop
 | mk (c m:Int) (_:vs=[.int c,.int m]) (_:0<=m) (_:m<=100) (_:∀ (r:Addr) (H':Hp) (xs:List Int),zD H H'->H r=none->H' r=some (.lst (xs.map V.int))->xs.length=m.toNat->(∀ x∈xs,0<=x/\x < 10 ^ 45)->Q (.ref r) H'):jO vs H Q E
theorem wJ {xs:List Int} {j:Nat} (h:j < xs.length):yA (xs.map V.int) (j:Int)=some (.int (xs[j]'h)):=wS (by rw [List.getElem?_map,List.getElem?_eq_getElem h]; rfl)
theorem vT {xs:List Int} {i:Nat} {x:V} (h:(xs.map V.int)[i]? = some x):∃ z,xs[i]? = some z/\x=V.int z:=by
 rw [List.getElem?_map] at h
 cases e:xs[i]? with
 | none=>rw [e] at h; cases h
 | some z=>rw [e] at h; exact ⟨z,rfl,(Option.some.inj h).symm⟩
end Sh
namespace L2
open PySem PySem.Spec PyProof.Rows
noncomputable def wK (K:PySem.W.Frag) (a b:Addr):It:=
 ⟨λi H=>∃ xs ys x y,zE K H a xs/\zE K H b ys/\xs[i]? = some x/\ys[i]? = some y,
  λi H v H'=>∃ T x y,v=.ref T/\H T=none/\H'=upd H T (.tup [x,y])/\(∀ xs,zE K H a xs->xs[i]? = some x)/\∀ ys,zE K H b ys->ys[i]? = some y,
  λi H=>∃ xs ys,zE K H a xs/\zE K H b ys/\i<=xs.length/\i<=ys.length/\(i=xs.length\/i=ys.length)⟩
theorem X5 {P:Program} {w:World} {K:PySem.W.Frag} {es:List Expr} {kk:Nat} {tp:Pos} {a b z TI TO i1 i2:Addr} (Z:Zp z TI TO i1 i2 [i1,a] [i2,b]) (na:a≠i1) (nb:b≠i2) :
  xN P w K (.Tuple es kk tp) (wK K a b) [z,TI,TO,i1,i2] z (λi h=>IsZip h z TI TO .none/\IsPair h TI (.ref i1) (.ref i2)/\(∃ x y,IsPair h TO x y)/\h.IsListIter i1 a i/\h.IsListIter i2 b i) where
 mem:=by simp
 obj:=λi h ⟨t1,t2,⟨x,y,t3⟩,t4,t5⟩ c hc=>by
  simp only [List.mem_cons,List.not_mem_nil,or_false] at hc
  rcases hc with rfl | rfl | rfl | rfl | rfl
  ·exact ⟨_,t1,wV⟩
  ·exact ⟨_,t2,uE⟩
  ·exact ⟨_,t3,uE⟩
  ·obtain ⟨o,e,_,d⟩:=t4
   exact ⟨o,e,by rw [d]; exact wV⟩
  ·obtain ⟨o,e,_,d⟩:=t5
   exact ⟨o,e,by rw [d]; exact wV⟩
 keep:=λi h h' ⟨t1,t2,⟨x,y,t3⟩,t4,t5⟩ k=>⟨k z (by simp) _ t1,k TI (by simp) _ t2,⟨x,y,k TO (by simp) _ t3⟩,(by obtain ⟨o,e,r⟩:=t4; exact ⟨o,k i1 (by simp) o e,r⟩),(by obtain ⟨o,e,r⟩:=t5; exact ⟨o,k i2 (by simp) o e,r⟩)⟩
 item:=by
  intro X hP hw hK hc i pins s σ H E I hf ⟨t1,t2,⟨x0,y0,t3⟩,t4,t5⟩ hg
  subst hP hw hK
  obtain ⟨xs,ys,x,y,hq1,hq2,hx,hy⟩:=hg
  obtain ⟨its1,rv1,p1,_⟩:=I.list hq1
  obtain ⟨its2,rv2,p2,_⟩:=I.list hq2
  obtain ⟨u,hu,ru⟩:=rv1.get hx
  obtain ⟨v,hv,rv⟩:=rv2.get hy
  have hh:X.A.in1.handled=none:=I.ok.hd hc
  have l1:i < its1.toArray.size:=by rw [List.size_toArray]; exact (List.getElem?_eq_some_iff.mp hu).1
  have l2:i < its2.toArray.size:=by rw [List.size_toArray]; exact (List.getElem?_eq_some_iff.mp hv).1
  refine gS (Draws.list hh i1 a na its1.toArray) (Draws.list hh i2 b nb its2.toArray) Z t1 t2 t3 ⟨t4,p1.isList⟩ ⟨t5,p2.isList⟩ l1 l2 ?_
  intro x' y' h1 tk px py z1 z2 z3 z4 z5 z6 keep
  have ex:x'=u:=by
   have q:its1.toArray[i]? = some x':=px
   simp only [List.getElem?_toArray] at q
   rw [hu] at q
   exact (Option.some.inj q).symm
  have ey:y'=v:=by
   have q:its2.toArray[i]? = some y':=py
   simp only [List.getElem?_toArray] at q
   rw [hv] at q
   exact (Option.some.inj q).symm
  subst ex ey
  refine ⟨_,rfl,wpAny_letOwnedTupleGo_zip (s:={ s with heap:=h1,toks:=tk }) z1 λh2 z7 sb=>?_⟩
  have zlt:z < s.heap.objs.size:=Heap.lt_size t1
  have keep2:∀ c o,c∉[z,TI,TO,i1,i2]->s.heap.get? c=some o->h2.get? c=some o:=λc o hc e=>by
   simp only [List.mem_cons,List.not_mem_nil,or_false,not_or] at hc
   exact sb.extBut c o hc.1 (keep c o hc.1 hc.2.2.1 hc.2.2.2.1 hc.2.2.2.2 e)
  have pT:IsPair h2 s.heap.objs.size x' y':=sb.extBut _ _ (Nat.ne_of_gt zlt) z6
  have I':=I.turnT (h':=h2) (tk:=tk) (ch:=[z,TI,TO,i1,i2]) (x:=x) (y:=y) hf keep2 (Nat.le_refl _) pT ru rv
  refine ⟨.ref s.heap.objs.size,_,I',rfl,⟨s.heap.objs.size,x,y,rfl,I.hok.fresh (Nat.le_refl _),rfl,λxs' q=>by rw [I.list_inj q hq1]; exact hx,λys' q=>by rw [I.list_inj q hq2]; exact hy⟩,
   ⟨z7,sb.extBut _ _ Z.a1 z2,⟨_,_,sb.extBut _ _ Z.a2 z3⟩,z4.1.extBut sb.extBut Z.a3,z5.1.extBut sb.extBut Z.a4⟩,λc hc=>?_⟩
  have:=(hf c hc).1
  rw [zl]
  ·exact this
  ·intro q
   obtain ⟨o,e,_⟩:∃ o,s.heap.get? c=some o/\True:=by
    simp only [List.mem_cons,List.not_mem_nil,or_false] at hc
    rcases hc with rfl | rfl | rfl | rfl | rfl
    ·exact ⟨_,t1,trivial⟩
    ·exact ⟨_,t2,trivial⟩
    ·exact ⟨_,t3,trivial⟩
    ·obtain ⟨o,e,_⟩:=t4; exact ⟨o,e,trivial⟩
    ·obtain ⟨o,e,_⟩:=t5; exact ⟨o,e,trivial⟩
   rw [q] at e
   exact absurd (Heap.lt_size e) (Nat.lt_irrefl _)
 done:=by
  intro X hP hw hK hc i pins s σ H E I hf ⟨t1,t2,⟨x0,y0,t3⟩,t4,t5⟩ hg
  subst hP hw hK
  obtain ⟨xs,ys,hq1,hq2,e1,e2,e3⟩:=hg
  obtain ⟨its1,rv1,p1,_⟩:=I.list hq1
  obtain ⟨its2,rv2,p2,_⟩:=I.list hq2
  have hh:X.A.in1.handled=none:=I.ok.hd hc
  have n1:its1.toArray.size=xs.length:=by rw [List.size_toArray]; exact rv1.length.symm
  have n2:its2.toArray.size=ys.length:=by rw [List.size_toArray]; exact rv2.length.symm
  refine gT (Draws.list hh i1 a na its1.toArray) (Draws.list hh i2 b nb its2.toArray) Z t1 t2 t3 ⟨t4,p1.isList⟩ ⟨t5,p2.isList⟩ (by omega) (by omega) (by omega) ?_
  intro h1 tk keep
  refine ⟨rfl,I.turnN (h':=h1) (tk:=tk) (ch:=[z,TI,TO,i1,i2]) hf λc o hc e=>?_⟩
  simp only [List.mem_cons,List.not_mem_nil,or_false,not_or] at hc
  exact keep c o hc.1 hc.2.2.1 hc.2.2.2.1 hc.2.2.2.2 e
 self:=λ_ _ _ _ _ st h=>wpAny_pyIter_zip st.1 h
section
variable {X:Cx} {es:List Expr} {kk:Nat} {tp:Pos}
noncomputable def j9 (K:PySem.W.Frag) (ta:TA):TI:=λσ H R=>ta σ H λvs H1=>∃ a b,vs=[.ref a,.ref b]/\(∃ xs,zE K H1 a xs)/\(∃ ys,zE K H1 b ys)/\R (wK K a b) H1
theorem X6 {e1 e2:Expr} {ta:TA} {p pos:Pos} (hg:Gl X "zip") (hm:X.mg "zip" = none) (ha:PA X [e1,e2] ta) (hs:starEach [e1,e2] X.env=[(false,eval e1 X.env),(false,eval e2 X.env)]:=by rfl) (hs2:starEach [e2] X.env=[(false,eval e2 X.env)]:=by rfl) :
  PI X (.Tuple es kk tp) (.Call (.Name "zip" p) [e1,e2] [] pos) (j9 X.K ta):=by
 intro pins s σ H R I h
 refine Call_ (uP I hg hm (show bootBuiltins "zip" = some (.type "zip") by decide +kernel) (PyProof.Rows.callWith_type1 (za (ha pos pins s σ H _ I h) λus s1 ⟨vs,H1,I1,r1,q1⟩=>?_) (by rw [hs,hs2]) (by rw [hs2]; rfl)))
 obtain ⟨a,b,e,⟨xs,hx⟩,⟨ys,hy⟩,q⟩:=q1
 subst e
 obtain ⟨u,v,rfl,ru,rv⟩:=uZ r1
 cases ru
 cases rv
 obtain ⟨its1,rv1,p1,_⟩:=I1.list hx
 obtain ⟨its2,rv2,p2,_⟩:=I1.list hy
 have la:a < s1.heap.objs.size:=by obtain ⟨o,n,e,_⟩:=p1; exact Heap.lt_size e
 have lb:b < s1.heap.objs.size:=by obtain ⟨o,n,e,_⟩:=p2; exact Heap.lt_size e
 refine call_zip_2 p1.isList p2.isList λh' z1 z2 z3 z4 z5 _ keep=>wpAny_pyIter_zip z1 ?_
 have I2:zF X pins σ H1 { s1 with heap:=h' }:=I1.kept (t':=s1.toks) keep
 refine ⟨s1.heap.objs.size + 4,[s1.heap.objs.size + 4,s1.heap.objs.size + 2,s1.heap.objs.size + 3,s1.heap.objs.size,s1.heap.objs.size + 1],_,_,H1,rfl,I2,
  X5 (a:=a) (b:=b) (j7 _ _ _ la lb) (Nat.ne_of_lt la) (Nat.ne_of_lt (Nat.lt_succ_of_lt lb)),⟨z1,z2,⟨_,_,z3⟩,z4,z5⟩,λc hc=>?_,q⟩
 ·have ge:s1.heap.objs.size<=c:=by
   simp only [List.mem_cons,List.not_mem_nil,or_false] at hc
   rcases hc with rfl | rfl | rfl | rfl | rfl
   ·exact Nat.le_add_right _ 4
   ·exact Nat.le_add_right _ 2
   ·exact Nat.le_add_right _ 3
   ·exact Nat.le_refl _
   ·exact Nat.le_add_right _ 1
  exact I1.fpOk ge (I1.hok.fresh ge)
end
theorem X7 {K:PySem.W.Frag} {a b:Addr} {xs ys:List V} {g:TG} {tb:TS} {D:yp} {σ:St} {H:Hp} (Pv:Nat->St->Hp->Prop) (h0:Pv 0 σ H) (hl:∀ i σ H,i<=xs.length->Pv i σ H->zE K H a xs/\zE K H b ys) (hlen:xs.length<=ys.length)
  (hs:∀ i x y T σ H,xs[i]? = some x->ys[i]? = some y->H T=none->Pv i σ H->g (.ref T) σ (upd H T (.tup [x,y])) λσ2 H2=>tb { D with nx:=Pv (i + 1),ct:=Pv (i + 1),bk:=D.nx } σ2 H2) (hd:∀ σ H,Pv xs.length σ H->D.nx σ H) :
  ∃ W:Nat->Nat->St->Hp->Prop,(∃ m,W 0 m σ H)/\∀ i m σ H,W i m σ H->
   ((wK K a b).stop i H/\D.nx σ H)\/((wK K a b).go i H/\∃ N:St->Hp->Prop,(∀ σ' H',N σ' H'->∃ m',m' < m/\W (i + 1) m' σ' H')/\∀ x H',(wK K a b).yld i H x H'->g x σ H' λσ2 H2=>tb { D with nx:=N,ct:=N,bk:=D.nx } σ2 H2):=by
 refine ⟨λi m σ H=>m=xs.length - i/\i<=xs.length/\Pv i σ H,⟨xs.length,by simp,Nat.zero_le _,h0⟩,?_⟩
 rintro i m σ H ⟨rfl,hi,p⟩
 obtain ⟨q1,q2⟩:=hl i σ H hi p
 by_cases hlt:i < xs.length
 ·have hlt2:i < ys.length:=by omega
  refine .inr ⟨⟨xs,ys,xs[i],ys[i],q1,q2,by simp [hlt],by simp [hlt2]⟩,Pv (i + 1),λσ' H' p'=>⟨xs.length - (i + 1),by omega,rfl,hlt,p'⟩,λv H' y=>?_⟩
  obtain ⟨T,x,y,rfl,hT,rfl,c1,c2⟩:=y
  exact hs i x y T σ H (c1 xs q1) (c2 ys q2) hT p
 ·have e:i=xs.length:=by omega
  subst e
  exact .inl ⟨⟨xs,ys,q1,q2,Nat.le_refl _,hlen,.inl rfl⟩,hd σ H p⟩
theorem Jx {K:PySem.W.Frag} {a b:Addr} {xs ys:List V} {g:TG} {te:TE} {σ0:St} {H:Hp} {Q:VK} (Pv:Nat->List V->St->Hp->Prop) (h0:Pv 0 [] σ0 H) (hl:∀ i zs σ H,i<=xs.length->Pv i zs σ H->zE K H a xs/\zE K H b ys/\zs.length<=i) (hlen:xs.length<=ys.length) (hz:xs.length<=sizeLine)
  (hs:∀ i x y T zs σ H,xs[i]? = some x->ys[i]? = some y->H T=none->Pv i zs σ H->g (.ref T) σ (upd H T (.tup [x,y])) λσ2 H2=>te σ2 H2 λz H3=>Pv (i + 1) (zs++[z]) σ2 H3)
  (hd:∀ zs σ H,Pv xs.length zs σ H->∀ p,H p=none->Q (.ref p) (upd H p (.lst zs))):j3 (wK K a b) g te Q σ0 H:=by
 refine ⟨λi m zs σ H=>m=xs.length - i/\i<=xs.length/\Pv i zs σ H,⟨xs.length,by simp,Nat.zero_le _,h0⟩,?_⟩
 rintro i m zs σ H ⟨rfl,hi,p⟩
 obtain ⟨q1,q2,hy⟩:=hl i zs σ H hi p
 by_cases hlt:i < xs.length
 ·have hlt2:i < ys.length:=by omega
  refine .inr ⟨⟨xs,ys,xs[i],ys[i],q1,q2,by simp [hlt],by simp [hlt2]⟩,by omega,λz σ' H'=>Pv (i + 1) (zs++[z]) σ' H',λz σ' H' p'=>⟨xs.length - (i + 1),by omega,rfl,hlt,p'⟩,λv H' y=>?_⟩
  obtain ⟨T,x,y,rfl,hT,rfl,c1,c2⟩:=y
  exact hs i x y T zs σ H (c1 xs q1) (c2 ys q2) hT p
 ·have e:i=xs.length:=by omega
  subst e
  exact .inl ⟨⟨xs,ys,q1,q2,Nat.le_refl _,hlen,.inl rfl⟩,hd zs σ H p⟩
end L2
namespace L2
open PySem PySem.Spec PyProof.Rows
section
variable {X:Cx}
end
end L2
namespace Sh
open PySem L2
noncomputable def wA (H:Hp) (v:V) (p:Int × Int):Prop:=∃ r,v=.ref r/\H r=some (.tup [.int p.1,.int p.2])
noncomputable abbrev zX (H:Hp) (vs:List V) (pts:List (Int × Int)):Prop:=Paired (wA H) vs pts
noncomputable def xo (ws:List Int) (b:Int):List V:=ws.map V.int++[.int b]
theorem wA.same {H H':Hp} {v:V} {p:Int × Int} (s:zD H H') (h:wA H v p):wA H' v p:=let ⟨r,e,q⟩:=h; ⟨r,e,s _ _ q⟩
theorem zX.same {H H':Hp} {vs:List V} {pts:List (Int × Int)} (s:zD H H') (h:zX H vs pts):zX H' vs pts:=Paired.mapP h λ_ _ z=>z.same s
theorem wA.upd {H:Hp} {v:V} {p:Int × Int} {l:Addr} {xs:List V} {o:HO} (hl:H l=some (.lst xs)) (h:wA H v p):wA (upd H l o) v p:=by
 obtain ⟨r,e,q⟩:=h
 exact ⟨r,e,by rw [zl (Y7 q hl (by intro z; cases z))]; exact q⟩
theorem zX.upd {H:Hp} {vs:List V} {pts:List (Int × Int)} {l:Addr} {xs:List V} {o:HO} (hl:H l=some (.lst xs)) (h:zX H vs pts):zX (upd H l o) vs pts:=Paired.mapP h λ_ _ z=>z.upd hl
structure uh (ws:List Int) (n:Nat):Prop where
 len:ws.length=n
 bd:∀ w∈ws,Bd 1000 w
noncomputable def ZU (ws:List Int) (b:Int) (pts:List (Int × Int)):Bool:=decide ((xP ws pts).1<=b * (xP ws pts).2)
structure uF (r:List Int) (n:Nat):Prop where
 len:r.length=n + 1
 bd:∀ x∈r,Bd 1000 x
theorem Jy {r:List Int} {n:Nat} (h:r.length=n + 1):r.take n++[r.getD n 0]=r:=by
 have e:r[n]? = some (r.getD n 0):=by
  rw [List.getD_eq_getElem?_getD,List.getElem?_eq_getElem (by omega)]
  rfl
 have z:=x9 e
 rw [<- z,List.take_of_length_le (by omega)]
theorem X8 {r:List Int} {n:Nat} (h:r.length=n + 1):xo (r.take n) (r.getD n 0)=r.map V.int:=by
 have e:xo (r.take n) (r.getD n 0)=(r.take n++[r.getD n 0]).map V.int:=by
  rw [List.map_append]
  rfl
 rw [e,Jy h]
theorem uF.rw {r:List Int} {n:Nat} (h:uF r n):uh (r.take n) n:=⟨by rw [List.length_take,h.len]; omega,λw hw=>h.bd w (List.mem_of_mem_take hw)⟩
theorem uF.at {r:List Int} {n j:Nat} (h:uF r n) (hj:j<=n):r[j]? = some (r.getD j 0)/\Bd 1000 (r.getD j 0):=by
 have e:r[j]? = some (r.getD j 0):=by
  rw [List.getD_eq_getElem?_getD,List.getElem?_eq_getElem (by have:=h.len; omega)]
  rfl
 exact ⟨e,h.bd _ (List.mem_of_getElem? e)⟩
noncomputable def wB (pts:List (Int × Int)) (r:List Int):Bool:=ZU (r.take pts.length) (r.getD pts.length 0) pts
end Sh
namespace L2
open PySem PySem.Spec PyProof.Rows
noncomputable def qA (K:PySem.W.Frag) (a:Addr):It:=
 ⟨λi H=>∃ xs x,zE K H a xs/\xs[i]? = some x,
  λi H v H'=>∃ T x,v=.ref T/\H T=none/\H'=upd H T (.tup [.int (i:Int),x])/\∀ xs,zE K H a xs->xs[i]? = some x,
  λi H=>∃ xs,zE K H a xs/\i=xs.length⟩
theorem X9 {c x y:Addr} (h:c∉[x,y]):c≠x/\c≠y:=by
 simp only [List.mem_cons,List.not_mem_nil,or_false,not_or] at h
 exact h
theorem Jz {P:Program} {w:World} {K:PySem.W.Frag} {es:List Expr} {kk:Nat} {tp:Pos} {a e it:Addr} (ne:e≠it) :
  xN P w K (.Tuple es kk tp) (qA K a) [e,it] e (λi h=>(∃ old,IsEnum h e it i old)/\h.IsListIter it a i) where
 mem:=by simp
 obj:=λi h ⟨⟨old,t1⟩,t2⟩ c hc=>by
  simp only [List.mem_cons,List.not_mem_nil,or_false] at hc
  rcases hc with rfl | rfl
  ·exact ⟨_,t1,wV⟩
  ·obtain ⟨o,e,_,d⟩:=t2
   exact ⟨o,e,by rw [d]; exact wV⟩
 keep:=λi h h' ⟨⟨old,t1⟩,t2⟩ k=>⟨⟨old,k e (by simp) _ t1⟩,(by obtain ⟨o,q,r⟩:=t2; exact ⟨o,k it (by simp) o q,r⟩)⟩
 item:=by
  intro X hP hw hK hc i pins s σ H E I hf ⟨⟨old,t1⟩,t2⟩ hg
  subst hP hw hK
  obtain ⟨xs,x,hq,hx⟩:=hg
  obtain ⟨its,rv,p,_⟩:=I.list hq
  obtain ⟨u,hu,ru⟩:=rv.get hx
  refine wpAny_pyNext_enum_item t1 t2 p.isList (x:=u) (by simpa using hu) ne ?_
  intro h1 z1 z2 z3 z4 keep
  refine ⟨_,rfl,wpAny_letOwnedTupleGo_enum (s:={ s with heap:=h1,toks:=s.toks + 1 }) z1 λh2 z5 sb=>?_⟩
  have elt:e < s.heap.objs.size:=Heap.lt_size t1
  have keep2:∀ c o,c∉[e,it]->s.heap.get? c=some o->h2.get? c=some o:=λc o hc q=>by
   obtain ⟨c1,c2⟩:=X9 hc
   exact sb.extBut c o c1 (keep c o c1 c2 q)
  have pT:IsPair h2 s.heap.objs.size (.int i s.toks) u:=sb.extBut _ _ (Nat.ne_of_gt elt) z3
  have I':=I.turnT (h':=h2) (tk:=s.toks + 1) (ch:=[e,it]) (x:=.int (i:Int)) (y:=x) hf keep2 (Nat.le_refl _) pT ⟨_,rfl⟩ ru
  refine ⟨.ref s.heap.objs.size,_,I',rfl,⟨s.heap.objs.size,x,rfl,I.hok.fresh (Nat.le_refl _),rfl,λxs' q=>by rw [I.list_inj q hq]; exact hx⟩,
   ⟨⟨u,by simpa using z5⟩,z2.extBut sb.extBut (Ne.symm ne)⟩,λc hc=>?_⟩
  have:=(hf c hc).1
  rw [zl]
  ·exact this
  ·intro q
   obtain ⟨o,e1⟩:∃ o,s.heap.get? c=some o:=by
    simp only [List.mem_cons,List.not_mem_nil,or_false] at hc
    rcases hc with rfl | rfl
    ·exact ⟨_,t1⟩
    ·obtain ⟨o,e1,_⟩:=t2; exact ⟨o,e1⟩
   rw [q] at e1
   exact absurd (Heap.lt_size e1) (Nat.lt_irrefl _)
 done:=by
  intro X hP hw hK hc i pins s σ H E I hf ⟨⟨old,t1⟩,t2⟩ hg
  subst hP hw hK
  obtain ⟨xs,hq,e1⟩:=hg
  obtain ⟨its,rv,p,_⟩:=I.list hq
  have n1:its.length=xs.length:=rv.length.symm
  refine wpAny_pyNext_enum_end (I.ok.hd hc) t1 t2 p.isList (by simp; omega) ?_
  intro h1 ext
  refine ⟨rfl,I.turnN (h':=h1) (tk:=s.toks) (ch:=[e,it]) hf λc o hc q=>?_⟩
  exact ext c o (X9 hc).2 q
 self:=λ_ _ _ _ _ ⟨⟨_,st⟩,_⟩ h=>wpAny_pyIter_enum st h
section
variable {X:Cx} {es:List Expr} {kk:Nat} {tp:Pos}
noncomputable def qB (K:PySem.W.Frag) (ta:TA):TI:=λσ H R=>ta σ H λvs H1=>∃ a,vs=[.ref a]/\(∃ xs,zE K H1 a xs)/\R (qA K a) H1
theorem QA {e1:Expr} {ta:TA} {p pos:Pos} (hg:Gl X "enumerate") (hm:X.mg "enumerate" = none) (ha:PA X [e1] ta) (hs:starEach [e1] X.env=[(false,eval e1 X.env)]:=by rfl) (hs2:starEach [] X.env=[]:=by rfl) :
  PI X (.Tuple es kk tp) (.Call (.Name "enumerate" p) [e1] [] pos) (qB X.K ta):=by
 intro pins s σ H R I h
 refine Call_ (uP I hg hm (show bootBuiltins "enumerate" = some (.type "enumerate") by decide +kernel) (PyProof.Rows.callWith_type1 (za (ha pos pins s σ H _ I h) λus s1 ⟨vs,H1,I1,r1,q1⟩=>?_) (by rw [hs,hs2]) (by rw [hs2]; rfl)))
 obtain ⟨a,e,⟨xs,hx⟩,q⟩:=q1
 subst e
 obtain ⟨u,rfl,ru⟩:=jK r1
 cases ru
 obtain ⟨its,rv,p1,_⟩:=I1.list hx
 have la:a < s1.heap.objs.size:=by obtain ⟨o,n,e,_⟩:=p1; exact Heap.lt_size e
 refine call_enumerate_list p1.isList λh' z1 z2 _ keep=>wpAny_pyIter_enum z1 ?_
 have I2:zF X pins σ H1 { s1 with heap:=h' }:=I1.kept (t':=s1.toks) keep
 refine ⟨s1.heap.objs.size + 1,[s1.heap.objs.size + 1,s1.heap.objs.size],_,_,H1,rfl,I2,Jz (a:=a) (Nat.succ_ne_self _),⟨⟨_,z1⟩,z2⟩,λc hc=>?_,q⟩
 have ge:s1.heap.objs.size<=c:=by
  simp only [List.mem_cons,List.not_mem_nil,or_false] at hc
  rcases hc with rfl | rfl
  ·exact Nat.le_add_right _ 1
  ·exact Nat.le_refl _
 exact I1.fpOk ge (I1.hok.fresh ge)
end
theorem QB {K:PySem.W.Frag} {a:Addr} {xs:List V} {g:TG} {tb:TS} {D:yp} {σ:St} {H:Hp} (Pv:Nat->St->Hp->Prop) (h0:Pv 0 σ H) (hl:∀ i σ H,i<=xs.length->Pv i σ H->zE K H a xs)
  (hs:∀ i x T σ H,xs[i]? = some x->H T=none->Pv i σ H->g (.ref T) σ (upd H T (.tup [.int (i:Int),x])) λσ2 H2=>tb { D with nx:=Pv (i + 1),ct:=Pv (i + 1),bk:=D.nx } σ2 H2) (hd:∀ σ H,Pv xs.length σ H->D.nx σ H) :
  ∃ W:Nat->Nat->St->Hp->Prop,(∃ m,W 0 m σ H)/\∀ i m σ H,W i m σ H->
   ((qA K a).stop i H/\D.nx σ H)\/((qA K a).go i H/\∃ N:St->Hp->Prop,(∀ σ' H',N σ' H'->∃ m',m' < m/\W (i + 1) m' σ' H')/\∀ x H',(qA K a).yld i H x H'->g x σ H' λσ2 H2=>tb { D with nx:=N,ct:=N,bk:=D.nx } σ2 H2):=by
 refine ⟨λi m σ H=>m=xs.length - i/\i<=xs.length/\Pv i σ H,⟨xs.length,by simp,Nat.zero_le _,h0⟩,?_⟩
 rintro i m σ H ⟨rfl,hi,p⟩
 have q1:=hl i σ H hi p
 by_cases hlt:i < xs.length
 ·refine .inr ⟨⟨xs,xs[i],q1,by simp [hlt]⟩,Pv (i + 1),λσ' H' p'=>⟨xs.length - (i + 1),by omega,rfl,hlt,p'⟩,λv H' y=>?_⟩
  obtain ⟨T,x,rfl,hT,rfl,c1⟩:=y
  exact hs i x T σ H (c1 xs q1) hT p
 ·have e:i=xs.length:=by omega
  subst e
  exact .inl ⟨⟨xs,q1,rfl⟩,hd σ H p⟩
end L2
namespace Sh
open PySem L2
inductive Kd where
 | int | bool | non | str | lst | tup | dic
 deriving DecidableEq
noncomputable def Kd.nm:Kd->String
 | .int=>"int" | .bool=>"bool" | .non=>"NoneType" | .str=>"str" | .lst=>"list" | .tup=>"tuple" | .dic=>"dict"
noncomputable def Kd.whole:Kd->Bool
 | .int=>true
 | _=>false
noncomputable def Kd.isInt:Kd->Bool
 | .int=>true
 | .bool=>true
 | _=>false
noncomputable def Kd.isTup:Kd->Bool
 | .tup=>true
 | _=>false
inductive wy (H:Hp):V->Kd->Prop where
 | non:wy H .non .non
 | bl (b:Bool):wy H (.bl b) .bool
 | int (i:Int):wy H (.int i) .int
 | str (x:Str):wy H (.str x) .str
 | lst {a:Addr} {xs:List V} (e:H a=some (.lst xs)):wy H (.ref a) .lst
 | tup {a:Addr} {xs:List V} (e:H a=some (.tup xs)):wy H (.ref a) .tup
 | dic {a:Addr} {kvs:List (yL × V)} (e:H a=some (.dK kvs)):wy H (.ref a) .dic
theorem wy.ty {K:PySem.W.Frag} {H:Hp} {x:V} {k:Kd} (h:wy H x k):yW K H x (.type k.nm):=by
 cases h with
 | non=>exact .non
 | bl b=>exact .bl b
 | int i=>exact .int i
 | str x=>exact .str x
 | lst e=>exact .lst e
 | tup e=>exact .tup e
 | dic e=>exact .dK e
theorem wy.same {H H':Hp} {x:V} {k:Kd} (s:zD H H') (h:wy H x k):wy H' x k:=by
 cases h with
 | non=>exact .non
 | bl b=>exact .bl b
 | int i=>exact .int i
 | str x=>exact .str x
 | lst e=>exact .lst (s _ _ e)
 | tup e=>exact .tup (s _ _ e)
 | dic e=>exact .dic (s _ _ e)
noncomputable def Kd.isLst:Kd->Bool
 | .lst=>true
 | _=>false
section
variable (K:PySem.W.Frag)
theorem ZV (k:Kd):PySem.W.kitOne K (.type k.nm) (.type "tuple")=some k.isTup:=by
 cases k <;> first | rfl | decide +kernel | (unfold PySem.W.kitOne; rw [if_pos (by decide +kernel)]; rfl) | (unfold PySem.W.kitOne; rw [if_neg (by decide +kernel)]; rfl)
theorem qC (k:Kd):PySem.W.kitOne K (.type k.nm) (.type "list")=some k.isLst:=by
 cases k <;> first | rfl | decide +kernel | (unfold PySem.W.kitOne; rw [if_pos (by decide +kernel)]; rfl) | (unfold PySem.W.kitOne; rw [if_neg (by decide +kernel)]; rfl)
end
end Sh
namespace L2
open PySem PySem.Spec PyProof.Rows
section
variable {X:Cx}
end
end L2
namespace L2
open PySem PySem.Spec PyProof.Rows
structure zK (K:PySem.W.Frag) (mg:Str->Option Value) (x:Str) (C:Addr):Prop where
 cl:vP K C
 mgC:mg x=some (.ref C)
 ha:PySem.W.findIn K (.ref C) "__class__" = some (some (.builtin "object.__class__"))
 hn:PySem.W.specialIn K (.builtin "object.__class__") "__get__" = some (some (.builtin "getset_descriptor.__get__"))
 htk:PySem.W.takesIn K (.builtin "object.__class__")=some true
 hm:PySem.W.mroIn K C (.type "object")=some true
theorem zK.ty {K:PySem.W.Frag} {mg:Str->Option Value} {x:Str} {C a dx:Addr} {H:Hp} {fs:List (Str × V)} (T:zK K mg x C) (e:H a=some (.ins C dx fs)):yW K H (.ref a) (.ref C):=.ins e T.cl T.ha T.hn T.htk T.hm
structure ui (P:Program) (w:World) (K:PySem.W.Frag) (mg:Str->Option Value) (base:Heap) (C:Addr) (m:Str) (ps:List Str) (k:Nat) (sp:Sp):Prop where
 ex:∃ f fd,zL P w K mg base zd k f fd ps sp/\vd K C m f/\xL K fd ps []
structure uG (P:Program) (w:World) (K:PySem.W.Frag) (mg:Str->Option Value) (base:Heap) (C:Addr) (ps:List Str) (k:Nat) (sp:Sp):Prop where
 ex:∃ f fd,zL P w K mg base zd k f fd ps sp/\Mk K C f/\xL K fd ps []
structure vG (P:Program) (w:World) (K:PySem.W.Frag) (mg:Str->Option Value) (base:Heap) (C:Addr) (ps:List Str) (k:Nat) (sp:Sp) (dv:V):Prop where
 ex:∃ f fd d,zL P w K mg base zd k f fd ps sp/\Mk K C f/\xL K fd ps []/\xL K fd ps [d]/\zQ dv d
theorem ui.mono {P:Program} {w:World} {K:PySem.W.Frag} {mg:Str->Option Value} {base:Heap} {C:Addr} {m:Str} {ps:List Str} {j k:Nat} {sp:Sp} (F:ui P w K mg base C m ps j sp) (h:j<=k:=by decide):ui P w K mg base C m ps k sp:=by
 obtain ⟨f,fd,a,b,c⟩:=F.ex
 exact ⟨f,fd,a.mono h,b,c⟩
theorem uG.mono {P:Program} {w:World} {K:PySem.W.Frag} {mg:Str->Option Value} {base:Heap} {C:Addr} {ps:List Str} {j k:Nat} {sp:Sp} (F:uG P w K mg base C ps j sp) (h:j<=k:=by decide):uG P w K mg base C ps k sp:=by
 obtain ⟨f,fd,a,b,c⟩:=F.ex
 exact ⟨f,fd,a.mono h,b,c⟩
theorem vG.mono {P:Program} {w:World} {K:PySem.W.Frag} {mg:Str->Option Value} {base:Heap} {C:Addr} {ps:List Str} {j k:Nat} {sp:Sp} {dv:V} (F:vG P w K mg base C ps j sp dv) (h:j<=k:=by decide):vG P w K mg base C ps k sp dv:=by
 obtain ⟨f,fd,d,a,b,c⟩:=F.ex
 exact ⟨f,fd,d,a.mono h,b,c⟩
theorem vG.fn {P:Program} {w:World} {K:PySem.W.Frag} {mg:Str->Option Value} {base:Heap} {C:Addr} {ps:List Str} {k:Nat} {sp:Sp} {dv:V} (F:vG P w K mg base C ps k sp dv):uG P w K mg base C ps k sp:=by
 obtain ⟨f,fd,d,a,b,c,_⟩:=F.ex
 exact ⟨f,fd,a,b,c⟩
section
variable {X:Cx} {C:Addr} {m x:Str} {ps:List Str} {k:Nat} {sp:Sp} {o e:Expr} {es:List Expr} {ta:TE} {t:TA} {p pos apos:Pos} {dv:V}
theorem WA {pl:Sem Bool} (F:ui X.prog X.w X.K X.mg X.base C m ps k sp) (T:zK X.K X.mg x C) (hr:zh k X.A) (he:PE X o ta)
  (ht:eval (.Call (.Attribute o m apos) [] [] pos) X.env=(do
   let ov <- eval o X.env
   standAt apos.atName
   let (f,first) <- holding [ov] (getMethod ov m pl)
   callWith pos f first (backTo pos (starEach [] X.env)) (backToKw pos (keywordEach [] X.env))):=by rfl) :
  PE X (.Call (.Attribute o m apos) [] [] pos) (XU C m sp [] E0 ta ub):=by
 obtain ⟨f,fd,a,b,c⟩:=F.ex
 exact Uh he T.cl b a hr c .nil gK ht
theorem WB (F:uG X.prog X.w X.K X.mg X.base C ps k sp) (T:zK X.K X.mg x C) (hr:zh (k + 1) X.A) (hg:Gl X x) (ha:PA X (e :: es) t)
  (hdb:(x == ("__debug__" : Str))=false:=by decide) (he:starEach (e :: es) X.env=(false,eval e X.env) :: starEach es X.env:=by rfl) (hpl:(backTo pos (starEach es X.env)).any (·.1)=false:=by rfl) :
  PE X (.Call (.Name x p) (e :: es) [] pos) (XV C sp [] E0 t):=by
 obtain ⟨f,fd,a,b,c⟩:=F.ex
 exact Uj b a hr hg T.mgC c .nil gK ha hdb he hpl
theorem QC (T:zK X.K X.mg x C) (hg:Gl X x) (hd:(x == ("__debug__" : Str))=false:=by decide):PE X (.Name x pos) (tC (.ref C)):=v5 hg T.mgC rfl hd
noncomputable def WC (K:PySem.W.Frag):List V->Hp->VK->Prop:=λxs H Q=>∃ x C t b,xs=[x,.ref C]/\yW K H x t/\PySem.W.kitOne K t (.ref C)=some b/\Q (.bl b) H
theorem QD:yw X (.builtin "isinstance") (WC X.K):=by
 intro pins s σ H xs us Q I r h
 obtain ⟨x,C,t,b,rfl,ty,e,q⟩:=h
 obtain ⟨u,v,rfl,ru,rv⟩:=uZ r
 cases (show v=Value.ref C from rv)
 exact XT I ru ty e λtk=>⟨.bl b,H,I.tok tk,rfl,q⟩
end
end L2
namespace L2
open PySem PySem.Spec PyProof.Rows
section
variable {X:Cx} {pos:Pos}
theorem ZW {x:Str} {n:Int} (hg:Gl X x) (h:∃ t,X.mg x=some (.int n t)) (hd:(x == ("__debug__" : Str))=false:=by decide):PE X (.Name x pos) (tC (.int n)):=
 let ⟨t,e⟩:=h
 v5 hg e ⟨t,rfl⟩ hd
end
noncomputable def WD:Sp:=λ_ _ _ _=>False
theorem zL.none {P:Program} {w:World} {K:PySem.W.Frag} {mg:Str->Option Value} {base:Heap} {CX:xk} {k:Nat} {f:Addr} {fd:FuncData} {ps:List Str}:zL P w K mg base CX k f fd ps WD:=
 ⟨λ_ _ _ _ h=>h.elim,λ_ _ _ _ _ _ _ _ _ _ _ _ _ h=>h.elim⟩
end L2
namespace L2
open PySem PySem.Spec PyProof.Rows PySem.SeqAt
section
variable {X:Cx}
end
end L2
namespace L2
open PySem PySem.Spec PyProof.Rows
open PySem
noncomputable abbrev gW (h:Heap) (t:Addr):Heap:=h.push { cls:=.type "tuple_iterator",data:=.fields #[.ref t,.int 0 0] }
noncomputable abbrev gX (h:Heap) (t l:Addr):Heap:=(gW h t).push { cls:=.type "tuple_iterator",data:=.fields #[.ref l,.int 0 0] }
noncomputable abbrev gY (h:Heap) (t l:Addr):Heap:=(gX h t l).push { cls:=.type "tuple",data:=.seq #[.ref h.objs.size,.ref (gW h t).objs.size] }
noncomputable abbrev gZ (h:Heap) (t l:Addr):Heap:=(gY h t l).push { cls:=.type "tuple",data:=.seq #[.none,.none] }
noncomputable abbrev jP (h:Heap) (t l:Addr):Heap:=(gZ h t l).push { cls:=.type "zip",data:=.fields #[.none,.bool false,.bool false,.ref (gX h t l).objs.size,.ref (gY h t l).objs.size] }
theorem QE (t l:Addr) (xs ys:Array Value) :
  Meets (Builtin.«zip.__new__» ⟨[.type "zip",.ref t,.ref l],[]⟩) (λ_ R s=>s.heap.IsTuple t xs/\s.heap.IsTuple l ys/\R (.ok (.ret (.ref (gZ s.heap t l).objs.size))) { s with heap:=jP s.heap t l }):=
 .of_wp λprog w A R s h=>by
  obtain ⟨hp,g,d,tk,os⟩:=s; obtain ⟨h1,h2,h⟩:=h
  have hsub:=sub_zip
  have e1:Heap.IsTuple (Shared.heap ⟨hp,g,d,tk,os⟩) t xs:=h1
  have e2:Heap.IsTuple (Shared.heap ⟨hp.push { cls:=.type "tuple_iterator",data:=.fields #[.ref t,.int 0 0] },g,d,tk,os⟩) l ys:=(let ⟨o,e,r⟩:=h2; ⟨o,Heap.get?_push_of_some _ e,r⟩)
  wp_walk using wpAny_pyIter_tuple e1,wpAny_pyIter_tuple e2
  exact ⟨_,rfl,h⟩
theorem QF {prog:Program} {w:World} {A:Around} {E:Value->Shared->Prop} {s:Shared} {t l:Addr} {xs ys:Array Value} {Q:Value->Shared->Prop} (h1:s.heap.IsTuple t xs) (h2:s.heap.IsTuple l ys)
  (h:∀ h',IsZip h' (s.heap.objs.size + 4) (s.heap.objs.size + 2) (s.heap.objs.size + 3) .none->IsPair h' (s.heap.objs.size + 2) (.ref s.heap.objs.size) (.ref (s.heap.objs.size + 1))->IsPair h' (s.heap.objs.size + 3) .none .none->
   h'.IsTupleIter s.heap.objs.size t 0->h'.IsTupleIter (s.heap.objs.size + 1) l 0->(∀ c o,s.heap.get? c=some o->h'.get? c=some o)->Q (.ref (s.heap.objs.size + 4)) { s with heap:=h' }) :
  wpAny (model prog w) A (call (.type "zip") [.ref t,.ref l]) Q E s:=by
 refine callType_new F.called_zip (by decide) (F.typeCall_zip_2 _ _) (F.newCall_zip_2 _ _) (λobj=>F.args_object_init_3 obj _ _) F.entry_zip_new (QE t l xs ys) ⟨h1,h2,?_⟩
 have n1:(gW s.heap t).objs.size=s.heap.objs.size + 1:=Heap.size_push ..
 have n2:(gX s.heap t l).objs.size=s.heap.objs.size + 2:=by rw [Heap.size_push,n1]
 have n3:(gY s.heap t l).objs.size=s.heap.objs.size + 3:=by rw [Heap.size_push,n2]
 have n4:(gZ s.heap t l).objs.size=s.heap.objs.size + 4:=by rw [Heap.size_push,n3]
 have p5:(jP s.heap t l).get? (gZ s.heap t l).objs.size=some _:=Heap.get?_push_size _ rfl
 have p4:(jP s.heap t l).get? (gY s.heap t l).objs.size=some _:=Heap.get?_push_of_some _ (Heap.get?_push_size _ rfl)
 have p3:(jP s.heap t l).get? (gX s.heap t l).objs.size=some _:=Heap.get?_push_of_some _ (Heap.get?_push_of_some _ (Heap.get?_push_size _ rfl))
 have p2:(jP s.heap t l).get? (gW s.heap t).objs.size=some _:=Heap.get?_push_of_some _ (Heap.get?_push_of_some _ (Heap.get?_push_of_some _ (Heap.get?_push_size _ rfl)))
 have p1:(jP s.heap t l).get? s.heap.objs.size=some _:=Heap.get?_push_of_some _ (Heap.get?_push_of_some _ (Heap.get?_push_of_some _ (Heap.get?_push_of_some _ (Heap.get?_push_size _ rfl))))
 change _/\_
 rw [n2,n3,n4] at p5
 rw [n1,n2] at p3
 rw [n3] at p4
 rw [n1] at p2
 rw [n4]
 exact ⟨⟨_,p5,rfl⟩,h _ p5 p3 p4 ⟨_,p1,rfl,rfl⟩ ⟨_,p2,rfl,rfl⟩ λc o x=>Heap.get?_push_of_some _ (Heap.get?_push_of_some _ (Heap.get?_push_of_some _ (Heap.get?_push_of_some _ (Heap.get?_push_of_some _ x))))⟩
noncomputable abbrev gb (h:Heap) (t:Addr):Heap:=h.push { cls:=.type "list_iterator",data:=.fields #[.ref t,.int 0 0] }
noncomputable abbrev gc (h:Heap) (t l:Addr):Heap:=(gb h t).push { cls:=.type "tuple_iterator",data:=.fields #[.ref l,.int 0 0] }
noncomputable abbrev gd (h:Heap) (t l:Addr):Heap:=(gc h t l).push { cls:=.type "tuple",data:=.seq #[.ref h.objs.size,.ref (gb h t).objs.size] }
noncomputable abbrev gf (h:Heap) (t l:Addr):Heap:=(gd h t l).push { cls:=.type "tuple",data:=.seq #[.none,.none] }
noncomputable abbrev jQ (h:Heap) (t l:Addr):Heap:=(gf h t l).push { cls:=.type "zip",data:=.fields #[.none,.bool false,.bool false,.ref (gc h t l).objs.size,.ref (gd h t l).objs.size] }
theorem QG (t l:Addr) (xs ys:Array Value) :
  Meets (Builtin.«zip.__new__» ⟨[.type "zip",.ref t,.ref l],[]⟩) (λ_ R s=>s.heap.IsList t xs/\s.heap.IsTuple l ys/\R (.ok (.ret (.ref (gf s.heap t l).objs.size))) { s with heap:=jQ s.heap t l }):=
 .of_wp λprog w A R s h=>by
  obtain ⟨hp,g,d,tk,os⟩:=s; obtain ⟨h1,h2,h⟩:=h
  have hsub:=sub_zip
  have e1:Heap.IsList (Shared.heap ⟨hp,g,d,tk,os⟩) t xs:=h1
  have e2:Heap.IsTuple (Shared.heap ⟨hp.push { cls:=.type "list_iterator",data:=.fields #[.ref t,.int 0 0] },g,d,tk,os⟩) l ys:=(let ⟨o,e,r⟩:=h2; ⟨o,Heap.get?_push_of_some _ e,r⟩)
  wp_walk using wpAny_pyIter_list e1,wpAny_pyIter_tuple e2
  exact ⟨_,rfl,h⟩
theorem QH {prog:Program} {w:World} {A:Around} {E:Value->Shared->Prop} {s:Shared} {t l:Addr} {xs ys:Array Value} {Q:Value->Shared->Prop} (h1:s.heap.IsList t xs) (h2:s.heap.IsTuple l ys)
  (h:∀ h',IsZip h' (s.heap.objs.size + 4) (s.heap.objs.size + 2) (s.heap.objs.size + 3) .none->IsPair h' (s.heap.objs.size + 2) (.ref s.heap.objs.size) (.ref (s.heap.objs.size + 1))->IsPair h' (s.heap.objs.size + 3) .none .none->
   h'.IsListIter s.heap.objs.size t 0->h'.IsTupleIter (s.heap.objs.size + 1) l 0->(∀ c o,s.heap.get? c=some o->h'.get? c=some o)->Q (.ref (s.heap.objs.size + 4)) { s with heap:=h' }) :
  wpAny (model prog w) A (call (.type "zip") [.ref t,.ref l]) Q E s:=by
 refine callType_new F.called_zip (by decide) (F.typeCall_zip_2 _ _) (F.newCall_zip_2 _ _) (λobj=>F.args_object_init_3 obj _ _) F.entry_zip_new (QG t l xs ys) ⟨h1,h2,?_⟩
 have n1:(gb s.heap t).objs.size=s.heap.objs.size + 1:=Heap.size_push ..
 have n2:(gc s.heap t l).objs.size=s.heap.objs.size + 2:=by rw [Heap.size_push,n1]
 have n3:(gd s.heap t l).objs.size=s.heap.objs.size + 3:=by rw [Heap.size_push,n2]
 have n4:(gf s.heap t l).objs.size=s.heap.objs.size + 4:=by rw [Heap.size_push,n3]
 have p5:(jQ s.heap t l).get? (gf s.heap t l).objs.size=some _:=Heap.get?_push_size _ rfl
 have p4:(jQ s.heap t l).get? (gd s.heap t l).objs.size=some _:=Heap.get?_push_of_some _ (Heap.get?_push_size _ rfl)
 have p3:(jQ s.heap t l).get? (gc s.heap t l).objs.size=some _:=Heap.get?_push_of_some _ (Heap.get?_push_of_some _ (Heap.get?_push_size _ rfl))
 have p2:(jQ s.heap t l).get? (gb s.heap t).objs.size=some _:=Heap.get?_push_of_some _ (Heap.get?_push_of_some _ (Heap.get?_push_of_some _ (Heap.get?_push_size _ rfl)))
 have p1:(jQ s.heap t l).get? s.heap.objs.size=some _:=Heap.get?_push_of_some _ (Heap.get?_push_of_some _ (Heap.get?_push_of_some _ (Heap.get?_push_of_some _ (Heap.get?_push_size _ rfl))))
 change _/\_
 rw [n2,n3,n4] at p5
 rw [n1,n2] at p3
 rw [n3] at p4
 rw [n1] at p2
 rw [n4]
 exact ⟨⟨_,p5,rfl⟩,h _ p5 p3 p4 ⟨_,p1,rfl,rfl⟩ ⟨_,p2,rfl,rfl⟩ λc o x=>Heap.get?_push_of_some _ (Heap.get?_push_of_some _ (Heap.get?_push_of_some _ (Heap.get?_push_of_some _ (Heap.get?_push_of_some _ x))))⟩
noncomputable def WE (K:PySem.W.Frag) (a b:Addr):It:=
 ⟨λi H=>∃ xs ys x y,zS K H a xs/\zS K H b ys/\xs[i]? = some x/\ys[i]? = some y,
  λi H v H'=>∃ T x y,v=.ref T/\H T=none/\H'=upd H T (.tup [x,y])/\(∀ xs,zS K H a xs->xs[i]? = some x)/\∀ ys,zS K H b ys->ys[i]? = some y,
  λi H=>∃ xs ys,zS K H a xs/\zS K H b ys/\i<=xs.length/\i<=ys.length/\(i=xs.length\/i=ys.length)⟩
theorem QI {P:Program} {w:World} {K:PySem.W.Frag} {es:List Expr} {kk:Nat} {tp:Pos} {a b z TI TO i1 i2:Addr} (Z:Zp z TI TO i1 i2 [i1,a] [i2,b]) (na:a≠i1) (nb:b≠i2) :
  xN P w K (.Tuple es kk tp) (WE K a b) [z,TI,TO,i1,i2] z (λi h=>IsZip h z TI TO .none/\IsPair h TI (.ref i1) (.ref i2)/\(∃ x y,IsPair h TO x y)/\h.IsTupleIter i1 a i/\h.IsTupleIter i2 b i) where
 mem:=by simp
 obj:=λi h ⟨t1,t2,⟨x,y,t3⟩,t4,t5⟩ c hc=>by
  simp only [List.mem_cons,List.not_mem_nil,or_false] at hc
  rcases hc with rfl | rfl | rfl | rfl | rfl
  ·exact ⟨_,t1,wV⟩
  ·exact ⟨_,t2,uE⟩
  ·exact ⟨_,t3,uE⟩
  ·obtain ⟨o,e,_,d⟩:=t4
   exact ⟨o,e,by rw [d]; exact wV⟩
  ·obtain ⟨o,e,_,d⟩:=t5
   exact ⟨o,e,by rw [d]; exact wV⟩
 keep:=λi h h' ⟨t1,t2,⟨x,y,t3⟩,t4,t5⟩ k=>⟨k z (by simp) _ t1,k TI (by simp) _ t2,⟨x,y,k TO (by simp) _ t3⟩,(by obtain ⟨o,e,r⟩:=t4; exact ⟨o,k i1 (by simp) o e,r⟩),(by obtain ⟨o,e,r⟩:=t5; exact ⟨o,k i2 (by simp) o e,r⟩)⟩
 item:=by
  intro X hP hw hK hc i pins s σ H E I hf ⟨t1,t2,⟨x0,y0,t3⟩,t4,t5⟩ hg
  subst hP hw hK
  obtain ⟨xs,ys,x,y,hq1,hq2,hx,hy⟩:=hg
  obtain ⟨its1,rv1,p1,_⟩:=I.tuple hq1
  obtain ⟨its2,rv2,p2,_⟩:=I.tuple hq2
  obtain ⟨u,hu,ru⟩:=rv1.get hx
  obtain ⟨v,hv,rv⟩:=rv2.get hy
  have hh:X.A.in1.handled=none:=I.ok.hd hc
  have l1:i < its1.toArray.size:=by rw [List.size_toArray]; exact (List.getElem?_eq_some_iff.mp hu).1
  have l2:i < its2.toArray.size:=by rw [List.size_toArray]; exact (List.getElem?_eq_some_iff.mp hv).1
  refine gS (uD hh i1 a na its1.toArray) (uD hh i2 b nb its2.toArray) Z t1 t2 t3 ⟨t4,p1⟩ ⟨t5,p2⟩ l1 l2 ?_
  intro x' y' h1 tk px py z1 z2 z3 z4 z5 z6 keep
  have ex:x'=u:=by
   have q:its1.toArray[i]? = some x':=px
   simp only [List.getElem?_toArray] at q
   rw [hu] at q
   exact (Option.some.inj q).symm
  have ey:y'=v:=by
   have q:its2.toArray[i]? = some y':=py
   simp only [List.getElem?_toArray] at q
   rw [hv] at q
   exact (Option.some.inj q).symm
  subst ex ey
  refine ⟨_,rfl,wpAny_letOwnedTupleGo_zip (s:={ s with heap:=h1,toks:=tk }) z1 λh2 z7 sb=>?_⟩
  have zlt:z < s.heap.objs.size:=Heap.lt_size t1
  have keep2:∀ c o,c∉[z,TI,TO,i1,i2]->s.heap.get? c=some o->h2.get? c=some o:=λc o hc e=>by
   simp only [List.mem_cons,List.not_mem_nil,or_false,not_or] at hc
   exact sb.extBut c o hc.1 (keep c o hc.1 hc.2.2.1 hc.2.2.2.1 hc.2.2.2.2 e)
  have pT:IsPair h2 s.heap.objs.size x' y':=sb.extBut _ _ (Nat.ne_of_gt zlt) z6
  have I':=I.turnT (h':=h2) (tk:=tk) (ch:=[z,TI,TO,i1,i2]) (x:=x) (y:=y) hf keep2 (Nat.le_refl _) pT ru rv
  refine ⟨.ref s.heap.objs.size,_,I',rfl,⟨s.heap.objs.size,x,y,rfl,I.hok.fresh (Nat.le_refl _),rfl,λxs' q=>by rw [I.tuple_inj q hq1]; exact hx,λys' q=>by rw [I.tuple_inj q hq2]; exact hy⟩,
   ⟨z7,sb.extBut _ _ Z.a1 z2,⟨_,_,sb.extBut _ _ Z.a2 z3⟩,z4.1.extBut sb.extBut Z.a3,z5.1.extBut sb.extBut Z.a4⟩,λc hc=>?_⟩
  have:=(hf c hc).1
  rw [zl]
  ·exact this
  ·intro q
   obtain ⟨o,e,_⟩:∃ o,s.heap.get? c=some o/\True:=by
    simp only [List.mem_cons,List.not_mem_nil,or_false] at hc
    rcases hc with rfl | rfl | rfl | rfl | rfl
    ·exact ⟨_,t1,trivial⟩
    ·exact ⟨_,t2,trivial⟩
    ·exact ⟨_,t3,trivial⟩
    ·obtain ⟨o,e,_⟩:=t4; exact ⟨o,e,trivial⟩
    ·obtain ⟨o,e,_⟩:=t5; exact ⟨o,e,trivial⟩
   rw [q] at e
   exact absurd (Heap.lt_size e) (Nat.lt_irrefl _)
 done:=by
  intro X hP hw hK hc i pins s σ H E I hf ⟨t1,t2,⟨x0,y0,t3⟩,t4,t5⟩ hg
  subst hP hw hK
  obtain ⟨xs,ys,hq1,hq2,e1,e2,e3⟩:=hg
  obtain ⟨its1,rv1,p1,_⟩:=I.tuple hq1
  obtain ⟨its2,rv2,p2,_⟩:=I.tuple hq2
  have hh:X.A.in1.handled=none:=I.ok.hd hc
  have n1:its1.toArray.size=xs.length:=by rw [List.size_toArray]; exact rv1.length.symm
  have n2:its2.toArray.size=ys.length:=by rw [List.size_toArray]; exact rv2.length.symm
  refine gT (uD hh i1 a na its1.toArray) (uD hh i2 b nb its2.toArray) Z t1 t2 t3 ⟨t4,p1⟩ ⟨t5,p2⟩ (by omega) (by omega) (by omega) ?_
  intro h1 tk keep
  refine ⟨rfl,I.turnN (h':=h1) (tk:=tk) (ch:=[z,TI,TO,i1,i2]) hf λc o hc e=>?_⟩
  simp only [List.mem_cons,List.not_mem_nil,or_false,not_or] at hc
  exact keep c o hc.1 hc.2.2.1 hc.2.2.2.1 hc.2.2.2.2 e
 self:=λ_ _ _ _ _ st h=>wpAny_pyIter_zip st.1 h
noncomputable def WF (K:PySem.W.Frag) (a b:Addr):It:=
 ⟨λi H=>∃ xs ys x y,zE K H a xs/\zS K H b ys/\xs[i]? = some x/\ys[i]? = some y,
  λi H v H'=>∃ T x y,v=.ref T/\H T=none/\H'=upd H T (.tup [x,y])/\(∀ xs,zE K H a xs->xs[i]? = some x)/\∀ ys,zS K H b ys->ys[i]? = some y,
  λi H=>∃ xs ys,zE K H a xs/\zS K H b ys/\i<=xs.length/\i<=ys.length/\(i=xs.length\/i=ys.length)⟩
theorem QJ {P:Program} {w:World} {K:PySem.W.Frag} {es:List Expr} {kk:Nat} {tp:Pos} {a b z TI TO i1 i2:Addr} (Z:Zp z TI TO i1 i2 [i1,a] [i2,b]) (na:a≠i1) (nb:b≠i2) :
  xN P w K (.Tuple es kk tp) (WF K a b) [z,TI,TO,i1,i2] z (λi h=>IsZip h z TI TO .none/\IsPair h TI (.ref i1) (.ref i2)/\(∃ x y,IsPair h TO x y)/\h.IsListIter i1 a i/\h.IsTupleIter i2 b i) where
 mem:=by simp
 obj:=λi h ⟨t1,t2,⟨x,y,t3⟩,t4,t5⟩ c hc=>by
  simp only [List.mem_cons,List.not_mem_nil,or_false] at hc
  rcases hc with rfl | rfl | rfl | rfl | rfl
  ·exact ⟨_,t1,wV⟩
  ·exact ⟨_,t2,uE⟩
  ·exact ⟨_,t3,uE⟩
  ·obtain ⟨o,e,_,d⟩:=t4
   exact ⟨o,e,by rw [d]; exact wV⟩
  ·obtain ⟨o,e,_,d⟩:=t5
   exact ⟨o,e,by rw [d]; exact wV⟩
 keep:=λi h h' ⟨t1,t2,⟨x,y,t3⟩,t4,t5⟩ k=>⟨k z (by simp) _ t1,k TI (by simp) _ t2,⟨x,y,k TO (by simp) _ t3⟩,(by obtain ⟨o,e,r⟩:=t4; exact ⟨o,k i1 (by simp) o e,r⟩),(by obtain ⟨o,e,r⟩:=t5; exact ⟨o,k i2 (by simp) o e,r⟩)⟩
 item:=by
  intro X hP hw hK hc i pins s σ H E I hf ⟨t1,t2,⟨x0,y0,t3⟩,t4,t5⟩ hg
  subst hP hw hK
  obtain ⟨xs,ys,x,y,hq1,hq2,hx,hy⟩:=hg
  obtain ⟨its1,rv1,p1,_⟩:=I.list hq1
  obtain ⟨its2,rv2,p2,_⟩:=I.tuple hq2
  obtain ⟨u,hu,ru⟩:=rv1.get hx
  obtain ⟨v,hv,rv⟩:=rv2.get hy
  have hh:X.A.in1.handled=none:=I.ok.hd hc
  have l1:i < its1.toArray.size:=by rw [List.size_toArray]; exact (List.getElem?_eq_some_iff.mp hu).1
  have l2:i < its2.toArray.size:=by rw [List.size_toArray]; exact (List.getElem?_eq_some_iff.mp hv).1
  refine gS (Draws.list hh i1 a na its1.toArray) (uD hh i2 b nb its2.toArray) Z t1 t2 t3 ⟨t4,p1.isList⟩ ⟨t5,p2⟩ l1 l2 ?_
  intro x' y' h1 tk px py z1 z2 z3 z4 z5 z6 keep
  have ex:x'=u:=by
   have q:its1.toArray[i]? = some x':=px
   simp only [List.getElem?_toArray] at q
   rw [hu] at q
   exact (Option.some.inj q).symm
  have ey:y'=v:=by
   have q:its2.toArray[i]? = some y':=py
   simp only [List.getElem?_toArray] at q
   rw [hv] at q
   exact (Option.some.inj q).symm
  subst ex ey
  refine ⟨_,rfl,wpAny_letOwnedTupleGo_zip (s:={ s with heap:=h1,toks:=tk }) z1 λh2 z7 sb=>?_⟩
  have zlt:z < s.heap.objs.size:=Heap.lt_size t1
  have keep2:∀ c o,c∉[z,TI,TO,i1,i2]->s.heap.get? c=some o->h2.get? c=some o:=λc o hc e=>by
   simp only [List.mem_cons,List.not_mem_nil,or_false,not_or] at hc
   exact sb.extBut c o hc.1 (keep c o hc.1 hc.2.2.1 hc.2.2.2.1 hc.2.2.2.2 e)
  have pT:IsPair h2 s.heap.objs.size x' y':=sb.extBut _ _ (Nat.ne_of_gt zlt) z6
  have I':=I.turnT (h':=h2) (tk:=tk) (ch:=[z,TI,TO,i1,i2]) (x:=x) (y:=y) hf keep2 (Nat.le_refl _) pT ru rv
  refine ⟨.ref s.heap.objs.size,_,I',rfl,⟨s.heap.objs.size,x,y,rfl,I.hok.fresh (Nat.le_refl _),rfl,λxs' q=>by rw [I.list_inj q hq1]; exact hx,λys' q=>by rw [I.tuple_inj q hq2]; exact hy⟩,
   ⟨z7,sb.extBut _ _ Z.a1 z2,⟨_,_,sb.extBut _ _ Z.a2 z3⟩,z4.1.extBut sb.extBut Z.a3,z5.1.extBut sb.extBut Z.a4⟩,λc hc=>?_⟩
  have:=(hf c hc).1
  rw [zl]
  ·exact this
  ·intro q
   obtain ⟨o,e,_⟩:∃ o,s.heap.get? c=some o/\True:=by
    simp only [List.mem_cons,List.not_mem_nil,or_false] at hc
    rcases hc with rfl | rfl | rfl | rfl | rfl
    ·exact ⟨_,t1,trivial⟩
    ·exact ⟨_,t2,trivial⟩
    ·exact ⟨_,t3,trivial⟩
    ·obtain ⟨o,e,_⟩:=t4; exact ⟨o,e,trivial⟩
    ·obtain ⟨o,e,_⟩:=t5; exact ⟨o,e,trivial⟩
   rw [q] at e
   exact absurd (Heap.lt_size e) (Nat.lt_irrefl _)
 done:=by
  intro X hP hw hK hc i pins s σ H E I hf ⟨t1,t2,⟨x0,y0,t3⟩,t4,t5⟩ hg
  subst hP hw hK
  obtain ⟨xs,ys,hq1,hq2,e1,e2,e3⟩:=hg
  obtain ⟨its1,rv1,p1,_⟩:=I.list hq1
  obtain ⟨its2,rv2,p2,_⟩:=I.tuple hq2
  have hh:X.A.in1.handled=none:=I.ok.hd hc
  have n1:its1.toArray.size=xs.length:=by rw [List.size_toArray]; exact rv1.length.symm
  have n2:its2.toArray.size=ys.length:=by rw [List.size_toArray]; exact rv2.length.symm
  refine gT (Draws.list hh i1 a na its1.toArray) (uD hh i2 b nb its2.toArray) Z t1 t2 t3 ⟨t4,p1.isList⟩ ⟨t5,p2⟩ (by omega) (by omega) (by omega) ?_
  intro h1 tk keep
  refine ⟨rfl,I.turnN (h':=h1) (tk:=tk) (ch:=[z,TI,TO,i1,i2]) hf λc o hc e=>?_⟩
  simp only [List.mem_cons,List.not_mem_nil,or_false,not_or] at hc
  exact keep c o hc.1 hc.2.2.1 hc.2.2.2.1 hc.2.2.2.2 e
 self:=λ_ _ _ _ _ st h=>wpAny_pyIter_zip st.1 h
theorem zD.seqT {K:PySem.W.Frag} {H H':Hp} {a:Addr} {xs:List V} (e:zD H H') (h:zS K H a xs):zS K H' a xs:=by
 rcases h with (h | ⟨o,h⟩) | h
 ·exact .inl (.inl (e _ _ h))
 ·exact .inl (.inr ⟨o,e _ _ h⟩)
 ·exact .inr h
noncomputable def uj (K:PySem.W.Frag) (H:Hp) (a:Addr) (xs:List V):Prop:=zS K H a xs\/zE K H a xs
theorem uj.same {K:PySem.W.Frag} {H H':Hp} {a:Addr} {xs:List V} (s:zD H H') (h:uj K H a xs):uj K H' a xs:=h.imp (λz=>s.seqT z) (λz=>s.seq z)
section
variable {X:Cx} {es:List Expr} {kk:Nat} {tp:Pos}
theorem vn {pins:List (Addr × Obj)} {σ:St} {H:Hp} {s:Shared} (I:zF X pins σ H s) {c:Addr} (hc:c∈[s.heap.objs.size + 4,s.heap.objs.size + 2,s.heap.objs.size + 3,s.heap.objs.size,s.heap.objs.size + 1]):yc X pins H c:=by
 have ge:s.heap.objs.size<=c:=by
  simp only [List.mem_cons,List.not_mem_nil,or_false] at hc
  rcases hc with rfl | rfl | rfl | rfl | rfl
  ·exact Nat.le_add_right _ 4
  ·exact Nat.le_add_right _ 2
  ·exact Nat.le_add_right _ 3
  ·exact Nat.le_refl _
  ·exact Nat.le_add_right _ 1
 exact I.fpOk ge (I.hok.fresh ge)
noncomputable def WG (K:PySem.W.Frag) (H:Hp) (a b:Addr) (R:It->Hp->Prop):Prop:=
 ((∃ xs,zS K H a xs)/\(∃ ys,zE K H b ys)/\R (j6 K a b) H)\/((∃ xs,zE K H a xs)/\(∃ ys,zE K H b ys)/\R (wK K a b) H)\/((∃ xs,zS K H a xs)/\(∃ ys,zS K H b ys)/\R (WE K a b) H)\/((∃ xs,zE K H a xs)/\(∃ ys,zS K H b ys)/\R (WF K a b) H)
noncomputable def qD (K:PySem.W.Frag) (ta:TA):TI:=λσ H R=>ta σ H λvs H1=>∃ a b,vs=[.ref a,.ref b]/\WG K H1 a b R
theorem WH {e1 e2:Expr} {ta:TA} {p pos:Pos} (hg:Gl X "zip") (hm:X.mg "zip" = none) (ha:PA X [e1,e2] ta) (hs:starEach [e1,e2] X.env=[(false,eval e1 X.env),(false,eval e2 X.env)]:=by rfl) (hs2:starEach [e2] X.env=[(false,eval e2 X.env)]:=by rfl) :
  PI X (.Tuple es kk tp) (.Call (.Name "zip" p) [e1,e2] [] pos) (qD X.K ta):=by
 intro pins s σ H R I h
 refine Call_ (uP I hg hm (show bootBuiltins "zip" = some (.type "zip") by decide +kernel) (PyProof.Rows.callWith_type1 (za (ha pos pins s σ H _ I h) λus s1 ⟨vs,H1,I1,r1,q1⟩=>?_) (by rw [hs,hs2]) (by rw [hs2]; rfl)))
 obtain ⟨a,b,e,q1⟩:=q1
 subst e
 obtain ⟨u,v,rfl,ru,rv⟩:=uZ r1
 cases ru
 cases rv
 rcases q1 with ⟨⟨xs,hx⟩,⟨ys,hy⟩,q⟩ | ⟨⟨xs,hx⟩,⟨ys,hy⟩,q⟩ | ⟨⟨xs,hx⟩,⟨ys,hy⟩,q⟩ | ⟨⟨xs,hx⟩,⟨ys,hy⟩,q⟩
 ·obtain ⟨its1,rv1,p1,_⟩:=I1.tuple hx
  obtain ⟨its2,rv2,p2,_⟩:=I1.list hy
  have la:a < s1.heap.objs.size:=by obtain ⟨o,e,_⟩:=p1; exact Heap.lt_size e
  have lb:b < s1.heap.objs.size:=by obtain ⟨o,n,e,_⟩:=p2; exact Heap.lt_size e
  refine Js p1 p2.isList λh' z1 z2 z3 z4 z5 keep=>wpAny_pyIter_zip z1 ?_
  have I2:zF X pins σ H1 { s1 with heap:=h' }:=I1.kept (t':=s1.toks) keep
  exact ⟨s1.heap.objs.size + 4,[s1.heap.objs.size + 4,s1.heap.objs.size + 2,s1.heap.objs.size + 3,s1.heap.objs.size,s1.heap.objs.size + 1],_,_,H1,rfl,I2,
   Jt (a:=a) (b:=b) (j7 _ _ _ la lb) (Nat.ne_of_lt la) (Nat.ne_of_lt (Nat.lt_succ_of_lt lb)),⟨z1,z2,⟨_,_,z3⟩,z4,z5⟩,λc hc=>vn I1 hc,q⟩
 ·obtain ⟨its1,rv1,p1,_⟩:=I1.list hx
  obtain ⟨its2,rv2,p2,_⟩:=I1.list hy
  have la:a < s1.heap.objs.size:=by obtain ⟨o,n,e,_⟩:=p1; exact Heap.lt_size e
  have lb:b < s1.heap.objs.size:=by obtain ⟨o,n,e,_⟩:=p2; exact Heap.lt_size e
  refine call_zip_2 p1.isList p2.isList λh' z1 z2 z3 z4 z5 _ keep=>wpAny_pyIter_zip z1 ?_
  have I2:zF X pins σ H1 { s1 with heap:=h' }:=I1.kept (t':=s1.toks) keep
  exact ⟨s1.heap.objs.size + 4,[s1.heap.objs.size + 4,s1.heap.objs.size + 2,s1.heap.objs.size + 3,s1.heap.objs.size,s1.heap.objs.size + 1],_,_,H1,rfl,I2,
   X5 (a:=a) (b:=b) (j7 _ _ _ la lb) (Nat.ne_of_lt la) (Nat.ne_of_lt (Nat.lt_succ_of_lt lb)),⟨z1,z2,⟨_,_,z3⟩,z4,z5⟩,λc hc=>vn I1 hc,q⟩
 ·obtain ⟨its1,rv1,p1,_⟩:=I1.tuple hx
  obtain ⟨its2,rv2,p2,_⟩:=I1.tuple hy
  have la:a < s1.heap.objs.size:=by obtain ⟨o,e,_⟩:=p1; exact Heap.lt_size e
  have lb:b < s1.heap.objs.size:=by obtain ⟨o,e,_⟩:=p2; exact Heap.lt_size e
  refine QF p1 p2 λh' z1 z2 z3 z4 z5 keep=>wpAny_pyIter_zip z1 ?_
  have I2:zF X pins σ H1 { s1 with heap:=h' }:=I1.kept (t':=s1.toks) keep
  exact ⟨s1.heap.objs.size + 4,[s1.heap.objs.size + 4,s1.heap.objs.size + 2,s1.heap.objs.size + 3,s1.heap.objs.size,s1.heap.objs.size + 1],_,_,H1,rfl,I2,
   QI (a:=a) (b:=b) (j7 _ _ _ la lb) (Nat.ne_of_lt la) (Nat.ne_of_lt (Nat.lt_succ_of_lt lb)),⟨z1,z2,⟨_,_,z3⟩,z4,z5⟩,λc hc=>vn I1 hc,q⟩
 ·obtain ⟨its1,rv1,p1,_⟩:=I1.list hx
  obtain ⟨its2,rv2,p2,_⟩:=I1.tuple hy
  have la:a < s1.heap.objs.size:=by obtain ⟨o,n,e,_⟩:=p1; exact Heap.lt_size e
  have lb:b < s1.heap.objs.size:=by obtain ⟨o,e,_⟩:=p2; exact Heap.lt_size e
  refine QH p1.isList p2 λh' z1 z2 z3 z4 z5 keep=>wpAny_pyIter_zip z1 ?_
  have I2:zF X pins σ H1 { s1 with heap:=h' }:=I1.kept (t':=s1.toks) keep
  exact ⟨s1.heap.objs.size + 4,[s1.heap.objs.size + 4,s1.heap.objs.size + 2,s1.heap.objs.size + 3,s1.heap.objs.size,s1.heap.objs.size + 1],_,_,H1,rfl,I2,
   QJ (a:=a) (b:=b) (j7 _ _ _ la lb) (Nat.ne_of_lt la) (Nat.ne_of_lt (Nat.lt_succ_of_lt lb)),⟨z1,z2,⟨_,_,z3⟩,z4,z5⟩,λc hc=>vn I1 hc,q⟩
end
section
variable {prog:Program} {w:World} {A:Around} {E:Value->Shared->Prop}
theorem WI {it l:Addr} {xs:Array Value} (ne:l≠it):∀ (m j:Nat) (s:Shared) (R:List Value->Shared->Prop),s.heap.IsListIter it l j->s.heap.IsList l xs->j + m<=xs.size->
  (∀ g,g.IsListIter it l (j + m)->Heap.SameBut it s.heap g->R ((xs.toList.drop j).take m) { s with heap:=g })->wpAny (model prog w) A (draw (.ref it) m) R E s
 | 0,j,s,R,hi,_,_,k=>wpAny_pure (by simpa using k s.heap hi (Heap.SameBut.refl ..))
 | m + 1,j,s,R,hi,hl,le,k=>by
  have lt:j < xs.size:=by omega
  have step:=λg (z:Heap.SameBut it s.heap g)=>(hl.extBut z.extBut ne:g.IsList l xs)
  show wpAny _ _ (pyNext (.ref it) >>= _) R E s
  refine wpAny_bind (wpAny_pyNext_list_item hi hl (x:=xs[j]) (by simp [lt]) λg1 i1 b1=>?_)
  refine wpAny_bind (wpAny_holding (WI ne m (j + 1) _ _ i1 (step g1 b1) (by omega) λg2 i2 b2=>wpAny_pure ?_))
  have z:=k g2 (by rw [show j + (m + 1)=j + 1 + m by omega]; exact i2) (b1.trans b2)
  rw [show xs.toList.drop j=xs[j] :: xs.toList.drop (j + 1) by simp [List.drop_eq_getElem_cons,lt],List.take_succ_cons] at z
  exact z
theorem QK {s:Shared} {l:Addr} {xs:Array Value} {R:List Value->Shared->Prop} (hd:A.handled=none) (hl:s.heap.IsList l xs)
  (k:∀ g,Heap.ExtBut s.heap.objs.size s.heap g->R xs.toList { s with heap:=g }):wpAny (model prog w) A (unpackItems (.ref l) xs.size none) R E s:=by
 have ne:l≠s.heap.objs.size:=by
  obtain ⟨o,eo,_⟩:=hl
  exact Nat.ne_of_lt (Heap.lt_size eo)
 unfold unpackItems
 refine wpAny_bind ?_
 unfold notIterableAtAll
 refine wpAny_bind (wpAny_specialOf hl.typeIs slot_list_iter.lookup ?_)
 refine wpAny_pure ?_
 simp only [Bool.false_eq_true,if_false]
 refine wpAny_bind (wpAny_holding (wpAny_pyIter_list hl ?_))
 refine wpAny_bind (wpAny_holding (WI ne xs.size 0 _ _ ⟨_,Heap.get?_push_size _ rfl,rfl,rfl⟩ (hl.push _) (by omega) λg1 i1 b1=>?_))
 rw [show List.take xs.size (List.drop 0 xs.toList)=xs.toList by rw [List.drop_zero]; exact List.take_of_length_le (by simp),if_neg (by simp)]
 refine wpAny_bind (wpAny_holding (wpAny_pyNext_list_end hd i1 ((hl.push _).extBut b1.extBut ne) (by simp) λg2 x2=>?_))
 simp only [Option.isSome_none,Bool.false_eq_true,if_false]
 exact wpAny_pure (k g2 λc o n e=>x2 c o n (b1.extBut c o n (Heap.get?_push_of_some _ e)))
end
section
variable {X:Cx} {pos:Pos}
noncomputable def ZX (K:PySem.W.Frag) (n:Nat) (t:va):TG:=λv σ H Q=>∃ a xs,v=.ref a/\zE K H a xs/\xs.length=n/\t xs σ H Q
theorem QL {es:List Expr} {k:Nat} {t:va} {n:Nat} (hc:X.calm=true) (h:jm X es t)
  (hn:(assignEach es X.env).length=n:=by rfl) (hst:(assignEach es X.env).findIdx? (·.1)=none:=by rfl):PG X (.Tuple es k pos) (ZX X.K n t):=by
 intro pins s σ H v u Q I r hw
 obtain ⟨a,xs,e1,hq,hl,hw⟩:=hw
 subst e1
 cases r
 obtain ⟨its,rv,ht,hz⟩:=I.list hq
 rw [assign_Tuple]
 refine wpAny_bind (wpAny_standAt ?_)
 unfold unpack
 rw [show (assignEach es X.env).length=its.toArray.size by simp [hn,<- hl,rv.length],hst]
 refine wpAny_bind (wpAny_holding (QK (I.ok.hd hc) ht.isList λg hx=>?_))
 have I1:zF X pins σ H { s with heap:=g }:=I.kept (t':=s.toks) λb o e=>hx b o (Nat.ne_of_lt (Heap.lt_size e)) e
 exact h pins _ σ H xs _ Q I1 (by simpa using rv) hw
end
end L2
namespace L2
open PySem PySem.Spec PyProof.Rows
inductive qF (i:Nat) (σ:St) (H:Hp) (Q:VK):Prop
 | mk (v:V) (_:σ[i]? = some (some v)) (_:Q v H):qF i σ H Q
inductive JI (C:Int->Int->Prop) (g:Int->Int->V) (x y:V) (H:Hp) (Q:VK):Prop
 | mk (i j:Int) (_:x=.int i) (_:y=.int j) (_:C i j) (_:Q (g i j) H):JI C g x y H Q
inductive WJ (g:Int->Int->V) (x y:V) (H:Hp) (Q:VK):Prop
 | mk (i j:Int) (_:x=.int i) (_:y=.int j) (_:Q (g i j) H):WJ g x y H Q
inductive wl (S:Hp->Addr->List V->Prop) (x y:V) (H:Hp) (Q:VK):Prop
 | mk (p:Addr) (xs:List V) (i:Int) (v:V) (_:x=.ref p) (_:y=.int i) (_:S H p xs) (_:yA xs i=some v) (_:Q v H):wl S x y H Q
inductive qG (x y:V) (H:Hp) (Q:VK):Prop
 | mk (l b:Addr) (xs zs:List V) (_:x=.ref l) (_:y=.ref b) (_:H l=some (.lst xs)) (_:H b=some (.lst zs)) (_:xs.length + zs.length<=sizeLine) (_:∀ p,H p=none->Q (.ref p) (upd H p (.lst (xs++zs)))):qG x y H Q
inductive uk (K:PySem.W.Frag) (xs:List V) (H:Hp) (Q:VK):Prop
 | mk (p:Addr) (ys:List V) (_:xs=[.ref p]) (_:zE K H p ys\/zS K H p ys) (_:Q (.int ys.length) H):uk K xs H Q
inductive qH (x:V) (vs:List V) (H:Hp) (Q:VK):Prop
 | mk (l:Addr) (xs:List V) (y:V) (_:x=.ref l) (_:vs=[y]) (_:H l=some (.lst xs)) (_:xs.length < sizeLine) (_:Q .non (upd H l (.lst (xs++[y])))):qH x vs H Q
inductive ZY (K:PySem.W.Frag) (xs:List V) (H:Hp) (Q:VK):Prop
 | mk (x:V) (c:String) (t:Value) (b:Bool) (_:xs=[x,.ty c]) (_:yW K H x t) (_:PySem.W.kitOne K t (.type c)=some b) (_:Q (.bl b) H):ZY K xs H Q
inductive qI (o i v:V) (H:Hp) (Q:Hp->Prop):Prop
 | mk (p:Addr) (xs:List V) (k:Int) (j:Nat) (_:o=.ref p) (_:i=.int k) (_:H p=some (.lst xs)) (_:wx xs.length k=some j) (_:Q (upd H p (.lst (xs.set j v)))):qI o i v H Q
inductive qJ (K:PySem.W.Frag) (x:V) (lo hi:Option Int) (H:Hp) (Q:VK):Prop
 | mk (a:Addr) (xs:List V) (_:x=.ref a) (_:zS K H a xs) (_:¬ (HT.sIx xs.length 0 lo=0/\HT.sIx xs.length xs.length hi=xs.length)) (_:∀ p,H p=none->Q (.ref p) (upd H p (.tup (zk xs lo hi)))):qJ K x lo hi H Q
inductive vp (K:PySem.W.Frag) (x:V) (lo hi:Option Int) (H:Hp) (Q:VK):Prop
 | mk (a:Addr) (xs:List V) (_:x=.ref a) (_:zE K H a xs) (_:∀ p,H p=none->Q (.ref p) (upd H p (.lst (zk xs lo hi)))):vp K x lo hi H Q
inductive qK (K:PySem.W.Frag) (xs:List V) (H:Hp) (Q:VK):Prop
 | mk (p:Addr) (ys:List V) (_:xs=[.ref p]) (_:(zE K H p ys/\∀ l,H l=none->Q (.ref l) (upd H l (.tup ys)))\/(zS K H p ys/\Q (.ref p) H)):qK K xs H Q
section
variable {X:Cx}
theorem xG:ZF X "list.append" qH:=λpins s σ H x xs v us Q I rx rv ⟨l,ys,y,h1,h2,h3,h4,q⟩=>JD pins s σ H x xs v us Q I rx rv ⟨l,ys,y,h1,h2,h3,h4,q⟩
theorem xh:yw X (.builtin "isinstance") (ZY X.K):=λpins s σ H xs us Q I r ⟨x,c,t,b,h1,h2,h3,q⟩=>Je pins s σ H xs us Q I r ⟨x,c,t,b,h1,h2,h3,q⟩
theorem Za:uR X qI:=λpins s σ H o i v ov iv u Q I h1 h2 h3 ⟨p,xs,k,j,a,b,c,d,q⟩=>Uz pins s σ H o i v ov iv u Q I h1 h2 h3 ⟨p,xs,k,j,a,b,c,d,q⟩
theorem WL:uc X (qJ X.K):=λpins s σ H x v vl vu lo hi sl Q I h1 h2 h3 h4 ⟨a,xs,b,c,d,q⟩=>Ut pins s σ H x v vl vu lo hi sl Q I h1 h2 h3 h4 ⟨a,xs,b,c,d,q⟩
theorem uH:uc X (vp X.K):=λpins s σ H x v vl vu lo hi sl Q I h1 h2 h3 h4 ⟨a,xs,b,c,q⟩=>U7 pins s σ H x v vl vu lo hi sl Q I h1 h2 h3 h4 ⟨a,xs,b,c,q⟩
theorem vq:yw X (.type "tuple") (qK X.K):=λpins s σ H xs us Q I r ⟨p,ys,e,q⟩=>U9 pins s σ H xs us Q I r ⟨p,ys,e,q⟩
theorem zB (i:Nat) {x:Str} {pos:Pos} (hN:X.N[i]? = some x:=by rfl) (hv:jE X.env.scope x:=by first | exact Or.inl rfl | exact Or.inr (Or.inl rfl) | exact Or.inr (Or.inr rfl)) (hd:(x == ("__debug__" : Str))=false:=by decide)
  (hcd:(x == ("__classdict__" : Str))=false:=by decide):PE X (.Name x pos) (qF i):=λpins s σ H Q I ⟨v,e,h⟩=>Y9 hN hv hd hcd pins s σ H Q I ⟨v,e,h⟩
theorem ji {f:Value->Value->Sem Value} {C:Int->Int->Prop} {g:Int->Int->V} (h:yU X f (rI C g)):yU X f (JI C g):=λpins s σ H x y v u Q I rx ry ⟨i,j,hx,hy,c,q⟩=>h pins s σ H x y v u Q I rx ry ⟨i,j,hx,hy,c,q⟩
theorem zp {f:Value->Value->Sem Value} {g:Int->Int->V} (h:yU X f (vb g)):yU X f (WJ g):=λpins s σ H x y v u Q I rx ry ⟨i,j,hx,hy,q⟩=>h pins s σ H x y v u Q I rx ry ⟨i,j,hx,hy,q⟩
theorem zo:wH X (wl (zE X.K)):=λa b pins s σ H x y v u Q I rx ry ⟨p,xs,i,w,hx,hy,hs,ha,q⟩=>Uw a b pins s σ H x y v u Q I rx ry ⟨p,xs,i,w,hx,hy,hs,ha,q⟩
theorem yC:wH X (wl (zS X.K)):=λa b pins s σ H x y v u Q I rx ry ⟨p,xs,i,w,hx,hy,hs,ha,q⟩=>Ux a b pins s σ H x y v u Q I rx ry ⟨p,xs,i,w,hx,hy,hs,ha,q⟩
theorem xH:yU X (binaryOp .Add) qG:=λpins s σ H x y v u Q I rx ry ⟨l,b,xs,zs,hx,hy,h1,h2,h3,q⟩=>JG pins s σ H x y v u Q I rx ry ⟨l,b,xs,zs,hx,hy,h1,h2,h3,q⟩
theorem zu:yw X (.builtin "len") (uk X.K):=λpins s σ H xs us Q I r ⟨p,ys,e,h,q⟩=>U8 pins s σ H xs us Q I r ⟨p,ys,e,h,q⟩
end
end L2
namespace Sh
open PySem L2
noncomputable def wm (H:Hp) (v:V) (r:List Int):Prop:=∃ a,v=.ref a/\H a=some (.lst (r.map V.int))
noncomputable abbrev zf (H:Hp) (vs:List V) (tab:List (List Int)):Prop:=Paired (wm H) vs tab
theorem wm.same {H H':Hp} {v:V} {r:List Int} (s:zD H H') (h:wm H v r):wm H' v r:=let ⟨a,e,q⟩:=h; ⟨a,e,s _ _ q⟩
theorem zf.same {H H':Hp} {vs:List V} {tab:List (List Int)} (s:zD H H') (h:zf H vs tab):zf H' vs tab:=Paired.mapP h λ_ _ z=>z.same s
noncomputable def yP (p:Addr) (H H':Hp):Prop:=∀ b o,H b=some o->b≠p->H' b=some o
theorem zD.but {p:Addr} {H H':Hp} (s:zD H H'):yP p H H':=λb o e _=>s b o e
theorem yP.trans {p:Addr} {H H1 H2:Hp} (a:yP p H H1) (b:yP p H1 H2):yP p H H2:=λc o e n=>b c o (a c o e n) n
theorem wW (p:Addr) (H:Hp) (o:HO):yP p H (upd H p o):=λb u e n=>by rw [zl n]; exact e
noncomputable def xI (H0 H:Hp) (v:V) (r:List Int):Prop:=∃ a,v=.ref a/\H0 a=none/\H a=some (.lst (r.map V.int))
inductive ul (vs:List V) (H:Hp) (Q:VK) (E:XK):Prop
 | mk (i d:Int) (_:vs=[.int i,.int d]) (_:Q (.int i) H):ul vs H Q E
noncomputable def um:Sp:=λvs H Q _=>(∃ i d:Int,vs=[.int i,.int d]/\Q (.int i) H)∨
 (∃ (a:Addr) (ns:List Int) (d:Int),vs=[.ref a,.int d]/\1<=d/\H a=some (.lst (ns.map V.int))/\ns.length<=900/\∀ l H',zD H H'->H l=none->H' l=some (.lst (ns.map V.int))->Q (.ref l) H')∨
 (∃ (a:Addr) (ns:List Int) (d:Int),vs=[.ref a,.int d]/\1<=d/\H a=some (.tup (ns.map V.int))/\ns.length<=900/\∀ t H',zD H H'->H t=none->H' t=some (.tup (ns.map V.int))->Q (.ref t) H')
noncomputable def qL:Sp:=λvs H Q E=>um vs H Q E∨
 (∃ (a:Addr) (rv:List V) (rows:List (List Int)) (d:Int),vs=[.ref a,.int d]/\2<=d/\H a=some (.lst rv)/\yY H rv rows/\rows.length<=900/\(∀ r∈rows,r.length<=900)/\∀ l lv H',zD H H'->H l=none->H' l=some (.lst lv)->yY H' lv rows->Q (.ref l) H')∨
 (∃ (a:Addr) (tv:List V) (tab:List (List Int)) (d:Int),vs=[.ref a,.int d]/\2<=d/\H a=some (.lst tv)/\zf H tv tab/\tab.length<=900/\(∀ r∈tab,r.length<=900)/\∀ l lv H',zD H H'->H l=none->H' l=some (.lst lv)->Paired (xI H H') lv tab->Q (.ref l) H')
inductive uI (vs:List V) (H:Hp) (Q:VK) (E:XK):Prop
 | mk (i:Int) (_:vs=[.int i]) (_:Q (.bl true) H):uI vs H Q E
inductive gg (vs:List V) (H:Hp) (Q:VK) (E:XK):Prop
 | mk (a:Addr) (ns:List Int) (_:vs=[.ref a,.int (ns.length:Int)]) (_:H a=some (.lst (ns.map V.int))) (_:ns.length<=900) (_:∀ H',zD H H'->Q (.bl true) H'):gg vs H Q E
inductive Zb (vs:List V) (H:Hp) (Q:VK) (E:XK):Prop
 | mk (a:Addr) (tv:List V) (tab:List (List Int)) (w:Nat) (_:vs=[.ref a,.int (tab.length:Int),.int (w:Int)]) (_:H a=some (.lst tv)) (_:zf H tv tab) (_:tab.length<=900) (_:(∀ r∈tab,r.length=w)) (_:w<=900) (_:∀ H',zD H H'->Q (.bl true) H'):Zb vs H Q E
inductive Zc (vs:List V) (H:Hp) (Q:VK) (E:XK):Prop
 | mk (a:Addr) (ns:List Int) (n:Nat) (_:vs=[.ref a,.int (n:Int)]) (_:H a=some (.tup (ns.map V.int))) (_:ns.length=n + 1) (_:n<=800) (_:∀ H',zD H H'->Q (.bl true) H'):Zc vs H Q E
inductive Zd (vs:List V) (H:Hp) (Q:VK) (E:XK):Prop
 | mk (a:Addr) (rv:List V) (rows:List (List Int)) (n:Nat) (_:vs=[.ref a,.int (n:Int)]) (_:H a=some (.lst rv)) (_:yY H rv rows) (_:rows.length<=900) (_:(∀ r∈rows,r.length=n + 1)) (_:n<=800) (_:∀ H',zD H H'->Q (.bl true) H'):Zd vs H Q E
inductive Ze (vs:List V) (H:Hp) (Q:VK) (E:XK):Prop
 | mk (a:Addr) (lo hi:Int) (_:vs=[.ref a]) (_:H a=some (.tup [.int lo,.int hi])) (_:lo<=hi) (_:Q (.bl true) H):Ze vs H Q E
structure MD where
 rows:List (List Int)
 nexts:List (List Int)
 steer:List Int
 push:List (List Int)
 add:List Int
 div:Int
structure yo (m:MD) (n p:Nat):Prop where
 rows:∀ r∈m.rows,r.length=n + 1
 few:m.rows.length<=900
 nexts:m.nexts.length=n/\∀ r∈m.nexts,r.length=n
 steer:m.steer.length=n
 push:m.push.length=n/\∀ r∈m.push,r.length=p
 add:m.add.length=n
 div:1<=m.div
 n3:n<=3
 p6:p<=12
noncomputable def Zf (r n s p a:V) (d:Int):List (Str × V):=[("rows",r),("nexts",n),("steer",s),("push",p),("add",a),("divisor",.int d)]
structure qM (C:Addr) (H:Hp) (o:Addr) (m:MD) where
 dx:Addr
 r:Addr
 rv:List V
 n:Addr
 nv:List V
 s:Addr
 p:Addr
 pv:List V
 a:Addr
structure qM.Ok {C:Addr} {H:Hp} {o:Addr} {m:MD} (M:qM C H o m):Prop where
 ins:H o=some (.ins C M.dx (Zf (.ref M.r) (.ref M.n) (.ref M.s) (.ref M.p) (.ref M.a) m.div))
 hr:H M.r=some (.lst M.rv)
 hrv:yY H M.rv m.rows
 hn:H M.n=some (.lst M.nv)
 hnv:zf H M.nv m.nexts
 hs:H M.s=some (.lst (m.steer.map V.int))
 hp:H M.p=some (.lst M.pv)
 hpv:zf H M.pv m.push
 ha:H M.a=some (.lst (m.add.map V.int))
noncomputable def xp (C:Addr) (H:Hp) (v:V) (m:MD):Prop:=∃ (o:Addr) (M:qM C H o m),v=.ref o/\M.Ok
theorem xp.same {C:Addr} {H H':Hp} {v:V} {m:MD} (s:zD H H') (h:xp C H v m):xp C H' v m:=
 let ⟨o,M,e,k⟩:=h
 ⟨o,⟨M.dx,M.r,M.rv,M.n,M.nv,M.s,M.p,M.pv,M.a⟩,e,⟨s _ _ k.ins,s _ _ k.hr,yY.same s k.hrv,s _ _ k.hn,zf.same s k.hnv,s _ _ k.hs,s _ _ k.hp,zf.same s k.hpv,s _ _ k.ha⟩⟩
inductive Zg (C:Addr) (vs:List V) (H:Hp) (Q:VK) (E:XK):Prop
 | mk (o dx ra na sa pa aa:Addr) (rv nv pv:List V) (m:MD) (n p:Nat) (_:vs=[.ref o,.ref ra,.ref na,.ref sa,.ref pa,.ref aa,.int m.div]) (_:H o=some (.ins C dx [])) (_:yo m n p) (_:H ra=some (.lst rv)) (_:yY H rv m.rows) (_:H na=some (.lst nv)) (_:zf H nv m.nexts) (_:H sa=some (.lst (m.steer.map V.int))) (_:H pa=some (.lst pv)) (_:zf H pv m.push) (_:H aa=some (.lst (m.add.map V.int))) (_:∀ (M:qM C H o m) (H':Hp),yP o H H'->(qM.mk (C:=C) (H:=H') (o:=o) (m:=m) M.dx M.r M.rv M.n M.nv M.s M.p M.pv M.a).Ok->H M.r=none->H M.n=none->H M.s=none->H M.p=none->H M.a=none->Paired (xI H H') M.nv m.nexts->Paired (xI H H') M.pv m.push->Q .non H'):Zg C vs H Q E
inductive Zh (C:Addr) (vs:List V) (H:Hp) (Q:VK) (E:XK):Prop
 | mk (v:V) (m:MD) (n p:Nat) (_:vs=[v,.int (n:Int),.int (p:Int)]) (_:xp C H v m) (_:yo m n p) (_:∀ H',zD H H'->Q (.bl true) H'):Zh C vs H Q E
noncomputable def wX (H:Hp) (v:V) (b:Int × Int):Prop:=∃ a,v=.ref a/\H a=some (.tup [.int b.1,.int b.2])
theorem wX.same {H H':Hp} {v:V} {b:Int × Int} (s:zD H H') (h:wX H v b):wX H' v b:=let ⟨a,e,q⟩:=h; ⟨a,e,s _ _ q⟩
structure uo (n:Nat) (bs:List (Int × Int)) (ms:List MD):Prop where
 n1:1<=n
 n3:n<=3
 bok:∀ b∈bs,b.1<=b.2
 b6:bs.length<=6
 m1:1<=ms.length
 m40:ms.length<=40
 mok:∀ m∈ms,yo m n bs.length
inductive Zi (C:Addr) (vs:List V) (H:Hp) (Q:VK) (E:XK):Prop
 | mk (pa ma:Addr) (pv mv:List V) (n:Nat) (bs:List (Int × Int)) (ms:List MD) (_:vs=[.int (n:Int),.ref pa,.ref ma]) (_:H pa=some (.lst pv)) (_:Paired (wX H) pv bs) (_:H ma=some (.lst mv)) (_:Paired (xp C H) mv ms) (_:uo n bs ms) (_:∀ H',zD H H'->Q (.bl true) H'):Zi C vs H Q E
noncomputable def WM (n:Int) (p m:V):List (Str × V):=[("many",.int n),("kept_pushes",p),("kept_modes",m)]
structure xq (C CM:Addr) (H:Hp) (o:Addr) (n:Nat) (bs:List (Int × Int)) (ms:List MD) (pv mv:List V) (kp km:Addr):Prop where
 ins:∃ dx,H o=some (.ins C dx (WM (n:Int) (.ref kp) (.ref km)))
 hp:H kp=some (.lst pv)
 hpv:Paired (wX H) pv bs
 hm:H km=some (.lst mv)
 hmv:Paired (xp CM H) mv ms
theorem xq.same {C CM:Addr} {H H':Hp} {o:Addr} {n:Nat} {bs:List (Int × Int)} {ms:List MD} {pv mv:List V} {kp km:Addr} (s:zD H H') (h:xq C CM H o n bs ms pv mv kp km):xq C CM H' o n bs ms pv mv kp km:=
 ⟨let ⟨dx,e⟩:=h.ins; ⟨dx,s _ _ e⟩,s _ _ h.hp,Paired.mapP h.hpv λ_ _ z=>z.same s,s _ _ h.hm,Paired.mapP h.hmv λ_ _ z=>z.same s⟩
inductive Zj (C CM:Addr) (vs:List V) (H:Hp) (Q:VK) (E:XK):Prop
 | mk (o dx pa ma:Addr) (pv mv:List V) (n:Nat) (bs:List (Int × Int)) (ms:List MD) (_:vs=[.ref o,.int (n:Int),.ref pa,.ref ma]) (_:H o=some (.ins C dx [])) (_:H pa=some (.lst pv)) (_:Paired (wX H) pv bs) (_:H ma=some (.lst mv)) (_:Paired (xp CM H) mv ms) (_:uo n bs ms) (_:∀ (kp km:Addr) (H':Hp),yP o H H'->H kp=none->H km=none->kp≠km->H' o=some (.ins C dx (WM (n:Int) (.ref kp) (.ref km)))->H' kp=some (.lst pv)->H' km=some (.lst mv)->Q .non H'):Zj C CM vs H Q E
inductive Zk (C CM:Addr) (vs:List V) (H:Hp) (Q:VK) (E:XK):Prop
 | mk (o kp km:Addr) (n:Nat) (bs:List (Int × Int)) (ms:List MD) (pv mv:List V) (_:vs=[.ref o]) (_:xq C CM H o n bs ms pv mv kp km) (_:∀ l H',zD H H'->H l=none->H' l=some (.lst pv)->Q (.ref l) H'):Zk C CM vs H Q E
inductive Zl (C CM:Addr) (vs:List V) (H:Hp) (Q:VK) (E:XK):Prop
 | mk (o kp km:Addr) (n:Nat) (bs:List (Int × Int)) (ms:List MD) (pv mv:List V) (_:vs=[.ref o]) (_:xq C CM H o n bs ms pv mv kp km) (_:∀ l H',zD H H'->H l=none->H' l=some (.lst mv)->Q (.ref l) H'):Zl C CM vs H Q E
theorem QM {K:PySem.W.Frag} {C:Addr}:PySem.W.kitOne K (.ref C) (.ref C)=some true:=by
 unfold PySem.W.kitOne
 rw [if_pos (by simp)]
theorem uJ:∀ n:Nat,(List.replicate n true).all id=true
 | 0=>rfl
 | n + 1=>by rw [List.replicate_succ,List.all_cons,uJ n]; rfl
theorem keepB {o:Addr} {H H':Hp} {C dx:Addr} {fs:List (Str × V)} (ho:H o=some (.ins C dx fs)) (s:yP o H H') {a:Addr} {u:HO} (h:H a=some u) (hu:u≠.ins C dx fs):H' a=some u:=
 s _ _ h λe=>hu (by rw [e,ho] at h; exact (Option.some.inj h).symm)
theorem uq {o:Addr} {H H':Hp} (s:yP o H H') {x:HO} (ho:H' o=some x) {l:Addr} (h:H' l=none):H l=none:=by
 cases e:H l with
 | none=>rfl
 | some u=>
  have n:l≠o:=λz=>by rw [z,ho] at h; cases h
  rw [s _ _ e n] at h
  cases h
theorem yY.keepB {o:Addr} {H H':Hp} {C dx:Addr} {fs:List (Str × V)} (ho:H o=some (.ins C dx fs)) (s:yP o H H') {vs:List V} {rows:List (List Int)} (h:yY H vs rows):yY H' vs rows:=
 Paired.mapP h λ_ _ ⟨a,e,q⟩=>⟨a,e,Sh.keepB ho s q λz=>by cases z⟩
theorem zf.keepB {o:Addr} {H H':Hp} {C dx:Addr} {fs:List (Str × V)} (ho:H o=some (.ins C dx fs)) (s:yP o H H') {vs:List V} {tab:List (List Int)} (h:zf H vs tab):zf H' vs tab:=
 Paired.mapP h λ_ _ ⟨a,e,q⟩=>⟨a,e,Sh.keepB ho s q λz=>by cases z⟩
theorem xI.tab {H0 H:Hp} {vs:List V} {tab:List (List Int)} (h:Paired (xI H0 H) vs tab):zf H vs tab:=Paired.mapP h λ_ _ ⟨a,e,_,q⟩=>⟨a,e,q⟩
theorem QN (r n s p a:V) (d:Int):zH "divisor" (.int d) (zH "add" a (zH "push" p (zH "steer" s (zH "nexts" n (zH "rows" r [])))))=Zf r n s p a d:=rfl
end Sh
namespace Sh
open PySem L2
noncomputable def xA (B:List Addr) (H H':Hp):Prop:=∀ b o,H b=some o->b∉B->H' b=some o
theorem xA.refl (B:List Addr) (H:Hp):xA B H H:=λ_ _ e _=>e
theorem xA.put {B:List Addr} {H H':Hp} {x:Addr} (o:HO) (h:xA B H H') (hx:x∈B):xA B H (upd H' x o):=λb u e nb=>by
 rw [zl (λe'=>by rw [e'] at nb; exact nb hx)]
 exact h b u e nb
theorem xA.new {B:List Addr} {H H':Hp} {x:Addr} (o:HO) (h:xA B H H') (hx:H' x=none):xA B H (upd H' x o):=λb u e nb=>by
 have z:=h b u e nb
 rw [zl (λe'=>by rw [e',hx] at z; cases z)]
 exact z
theorem xA.trans {B:List Addr} {H H1 H2:Hp} (a:xA B H H1) (b:xA B H1 H2):xA B H H2:=λc o e n=>b c o (a c o e n) n
theorem xA.same {B:List Addr} {H H1 H2:Hp} (a:xA B H H1) (b:zD H1 H2):xA B H H2:=λc o e n=>b c o (a c o e n)
theorem xA.of {B:List Addr} {H H1:Hp} (s:zD H H1):xA B H H1:=λc o e _=>s c o e
theorem xA.cut {A B:List Addr} {H H1:Hp} (h1:xA A H H1) (h:∀ x∈A,x∉B->H x=none):xA B H H1:=λb o e n=>h1 _ _ e λz=>by
 rw [h b z n] at e
 cases e
theorem xA.free {B:List Addr} {H H':Hp} (s:xA B H H') {l:Addr} (h:H' l=none) (n:l∉B):H l=none:=by
 cases e:H l with
 | none=>rfl
 | some u=>rw [s _ _ e n] at h; cases h
noncomputable def hide (B:List Addr) (H:Hp):Hp:=λb=>if b∈B then none else H b
theorem yD {B:List Addr} {H:Hp}:zD (hide B H) H:=λb o h=>by
 unfold hide at h
 by_cases e:b∈B
 ·rw [if_pos e] at h; cases h
 ·rw [if_neg e] at h; exact h
theorem xZ {B:List Addr} {H:Hp} {b:Addr} (e:b∉B):hide B H b=H b:=by unfold hide; rw [if_neg e]
theorem QO {B:List Addr} {H:Hp} {b:Addr} (e:b∈B):hide B H b=none:=by unfold hide; rw [if_pos e]
theorem WN {B:List Addr} {H:Hp} {b:Addr} {o:HO} (h:hide B H b=some o):b∉B:=λe=>by rw [QO e] at h; cases h
theorem Zm {B:List Addr} {H H':Hp} (s:xA B H H'):zD (hide B H) (hide B H'):=λb o h=>by
 have e:=WN h
 rw [xZ e] at h |-
 exact s _ _ h e
theorem xr {B:List Addr} {H H':Hp} (s:zD H H'):zD (hide B H) (hide B H'):=Zm λb o h _=>s _ _ h
theorem ur {B:List Addr} {H H':Hp} (f:∀ x∈B,H x=none) (s:zD H H'):zD H (hide B H'):=λb o h=>by
 rw [xZ (λe=>by rw [f b e] at h; cases h)]
 exact s _ _ h
theorem WP {H H1 H2:Hp} {x:Addr} (s:zD H H1) (b:yP x H1 H2) (n:H x=none):zD H H2:=λc o e=>b _ _ (s _ _ e) (wN e n)
theorem WQ {H:Hp} {x dx:Addr} (hx:H x=none) (hdx:H dx=none) (ne:dx≠x) (u o:HO):zD H (upd (upd H dx u) x o):=
 (zU hdx _).trans (zU ((zl (Ne.symm ne)).trans hx) _)
end Sh
namespace L2
open PySem PySem.Spec PyProof.Rows
section
variable {X:Cx} {e:Expr}
end
theorem zL.no {P:Program} {w:World} {K:PySem.W.Frag} {mg:Str->Option Value} {base:Heap} {CX:xk} {k:Nat} {f:Addr} {fd:FuncData} {ps:List Str} {sp:Sp} (hn:∀ vs H Q E,¬ sp vs H Q E):zL P w K mg base CX k f fd ps sp:=
 ⟨λ_ _ _ _ h=>(hn _ _ _ _ h).elim,λ_ _ _ _ _ _ _ _ _ _ _ _ _ h=>(hn _ _ _ _ h).elim⟩
theorem WR {K:PySem.W.Frag} {a b:Addr} {xs ys:List V} {g:TG} {tb:TS} {D:yp} {σ:St} {H:Hp} (ha:uj K H a xs) (hb:zE K H b ys) (Pv:Nat->St->Hp->Prop) (h0:Pv 0 σ H) (hl:∀ i σ H',i<=xs.length->Pv i σ H'->zD H H') (hlen:xs.length<=ys.length)
  (hs:∀ i x y T σ H,xs[i]? = some x->ys[i]? = some y->H T=none->Pv i σ H->g (.ref T) σ (upd H T (.tup [x,y])) λσ2 H2=>tb { D with nx:=Pv (i + 1),ct:=Pv (i + 1),bk:=D.nx } σ2 H2) (hd:∀ σ H,Pv xs.length σ H->D.nx σ H) :
  WG K H a b λJ H'=>∃ W:Nat->Nat->St->Hp->Prop,(∃ m,W 0 m σ H')/\∀ i m σ H,W i m σ H->
   (J.stop i H/\D.nx σ H)\/(J.go i H/\∃ N:St->Hp->Prop,(∀ σ' H',N σ' H'->∃ m',m' < m/\W (i + 1) m' σ' H')/\∀ x H',J.yld i H x H'->g x σ H' λσ2 H2=>tb { D with nx:=N,ct:=N,bk:=D.nx } σ2 H2):=by
 rcases ha with ha | ha
 ·exact .inl ⟨⟨_,ha⟩,⟨_,hb⟩,Ju Pv h0 (λi σ H' hi p=>⟨(hl i σ H' hi p).seqT ha,(hl i σ H' hi p).seq hb⟩) hlen hs hd⟩
 ·exact .inr (.inl ⟨⟨_,ha⟩,⟨_,hb⟩,X7 Pv h0 (λi σ H' hi p=>⟨(hl i σ H' hi p).seq ha,(hl i σ H' hi p).seq hb⟩) hlen hs hd⟩)
end L2
namespace Sh
theorem WS {a b c:Int} (g:Int.gcd a b=1) (h:a ∣ b * c):a ∣ c:=by
 rw [<- Int.natAbs_dvd_natAbs] at h |-
 rw [Int.natAbs_mul] at h
 exact Nat.Coprime.dvd_of_dvd_mul_left (by rw [Int.gcd_eq_natAbs_gcd_natAbs] at g; exact g) h
theorem WT {t b t' b':Int} (h:0 < b) (h':0 < b') (e:t * b'=t' * b):zZ t b=zZ t' b'/\zR t b=zR t' b':=by
 have hb:b≠0:=by omega
 have hb':b'≠0:=by omega
 have c1:=jM (t:=t) hb
 have c2:=jM (t:=t') hb'
 have p1:=uA (t:=t) hb
 have p2:=uA (t:=t') hb'
 have g1:=Xp (t:=t) hb
 have g2:=Xp (t:=t') hb'
 generalize zZ t b=x at *
 generalize zR t b=y at *
 generalize zZ t' b'=x' at *
 generalize zR t' b'=y' at *
 have k:x * y'=x' * y:=by
  have z:(x * y') * (b * b')=(x' * y) * (b * b'):=by
   calc (x * y') * (b * b')=(x * b) * (y' * b'):=by grind
    _=(t * y) * (y' * b'):=by rw [c1]
    _=(t * b') * (y * y'):=by grind
    _=(t' * b) * (y * y'):=by rw [e]
    _=(t' * y') * (b * y):=by grind
    _=(x' * b') * (b * y):=by rw [c2]
    _=(x' * y) * (b * b'):=by grind
  have ne:b * b'≠0:=Int.mul_ne_zero hb hb'
  exact Int.eq_of_mul_eq_mul_right ne z
 have d1:y ∣ y':=by
  have:y ∣ x * y':=by rw [k]; exact ⟨x',Int.mul_comm _ _⟩
  have g:Int.gcd y x=1:=by rw [Int.gcd_comm]; exact g1
  exact WS g this
 have d2:y' ∣ y:=by
  have:y' ∣ x' * y:=by rw [<- k]; exact ⟨x,Int.mul_comm _ _⟩
  have g:Int.gcd y' x'=1:=by rw [Int.gcd_comm]; exact g2
  exact WS g this
 have ey:y=y':=by
  have a1:=Int.le_of_dvd p2 d1
  have a2:=Int.le_of_dvd p1 d2
  omega
 subst ey
 exact ⟨Int.eq_of_mul_eq_mul_right (by omega) k,rfl⟩
inductive RT where
 | str (ns:List Int) (a d:Int)
 | stp (t:RT) (lo hi:Int)
 | prt (row:List Int) (x y:RT)
noncomputable def RT.rows:RT->List (List Int)
 | .str _ _ _=>[]
 | .stp t _ _=>t.rows
 | .prt r x y=>[r]++x.rows++y.rows
end Sh
namespace Sh
open PySem L2
theorem WU {n:Nat} {t b:Int} (h:Bd n b) (hb:b≠0):Bd n (Int.gcd t b:Int):=by
 refine h.of_le ?_
 rw [Int.natAbs_natCast]
 exact Int.gcd_le_natAbs_right t hb
theorem Zn {n:Nat} {t b:Int} (h:Bd n b) (hb:b≠0):Bd n (cm t b):=by
 unfold cm
 split
 ·exact (WU h hb).neg
 ·exact WU h hb
theorem WV {n:Nat} {t b:Int} (h:Bd n b):Bd n (zR t b):=h.fdiv _
inductive Zo (K:PySem.W.Frag) (vs:List V) (H:Hp) (Q:VK) (E:XK):Prop
 | mk (a:Addr) (ns:List Int) (_:vs=[.ref a]) (_:zS K H a (ns.map V.int)) (_:Q (.int (vD ns)) H):Zo K vs H Q E
inductive gh (vs:List V) (H:Hp) (Q:VK) (E:XK):Prop
 | mk (t b:Int) (_:vs=[.int t,.int b]) (_:b≠0) (_:Bd 8000 b) (_:∀ r H',zD H H'->H' r=some (.tup [.int (zZ t b),.int (zR t b)])->Q (.ref r) H'):gh vs H Q E
structure QP (H:Hp) (p q:Addr) (a b c d:Int):Prop where
 p:H p=some (.tup [.int a,.int b])
 q:H q=some (.tup [.int c,.int d])
 b0:0 < b
 d0:0 < d
 ab:Bd 9000 a
 bb:Bd 9000 b
 cb:Bd 9000 c
 db:Bd 9000 d
inductive Zq (vs:List V) (H:Hp) (Q:VK) (E:XK):Prop
 | mk (p q:Addr) (a b c d:Int) (_:vs=[.ref p,.ref q]) (_:QP H p q a b c d) (_:Q (.bl (decide (a * d < c * b))) H):Zq vs H Q E
inductive Zr (vs:List V) (H:Hp) (Q:VK) (E:XK):Prop
 | mk (a b:Int) (_:vs=[.int a,.int b]) (_:Q (.int (Int.gcd a b)) H):Zr vs H Q E
inductive ut (vs:List V) (H:Hp) (Q:VK) (E:XK):Prop
 | mk (t b:Int) (_:vs=[.int t,.int b]) (_:0 < b) (_:Bd 8000 b) (_:∀ r H',zD H H'->H' r=some (.tup [.int (zZ t b),.int (zR t b)])->Q (.ref r) H'):ut vs H Q E
noncomputable def xb (n:Nat):RT->Prop
 | .str ns a d=>ns.length=n/\(∀ x∈ns,Bd 300 x)/\Bd 300 a/\0 < d/\Bd 300 d
 | .stp t lo hi=>xb n t/\Bd 300 lo/\Bd 300 hi
 | .prt r x y=>(r.length=n + 1/\∀ z∈r,Bd 300 z)/\xb n x/\xb n y
noncomputable def Zs (l:V) (a d:Int):List (Str × V):=[("numbers",l),("add",.int a),("divisor",.int d)]
noncomputable def Zt (u:V) (lo hi:Int):List (Str × V):=[("rule",u),("low",.int lo),("high",.int hi)]
noncomputable def Zu (r u w:V):List (Str × V):=[("row",r),("rule",u),("other",w)]
noncomputable def vt (C1 C2 C3:Addr) (H:Hp):V->RT->Prop
 | v,.str ns a d=>∃ o dx la,v=.ref o/\H o=some (.ins C1 dx (Zs (.ref la) a d))/\H la=some (.lst (ns.map V.int))
 | v,.stp t lo hi=>∃ o dx u,v=.ref o/\H o=some (.ins C2 dx (Zt u lo hi))/\vt C1 C2 C3 H u t
 | v,.prt r x y=>∃ o dx ra u w,v=.ref o/\H o=some (.ins C3 dx (Zu (.ref ra) u w))/\H ra=some (.tup (r.map V.int))/\vt C1 C2 C3 H u x/\vt C1 C2 C3 H w y
theorem vt.same {C1 C2 C3:Addr} {H H':Hp} (s:zD H H'):∀ {t:RT} {v:V},vt C1 C2 C3 H v t->vt C1 C2 C3 H' v t
 | .str ..,_,⟨o,dx,la,e,h1,h2⟩=>⟨o,dx,la,e,s _ _ h1,s _ _ h2⟩
 | .stp ..,_,⟨o,dx,u,e,h1,h2⟩=>⟨o,dx,u,e,s _ _ h1,vt.same s h2⟩
 | .prt ..,_,⟨o,dx,ra,u,w,e,h1,h2,h3,h4⟩=>⟨o,dx,ra,u,w,e,s _ _ h1,s _ _ h2,vt.same s h3,vt.same s h4⟩
noncomputable def vv (H:Hp):V->RT->Prop
 | v,.str ns a d=>∃ o la,v=.ref o/\H o=some (.tup [.str "straight",.ref la,.int a,.int d])/\H la=some (.lst (ns.map V.int))
 | v,.stp t lo hi=>∃ o u,v=.ref o/\H o=some (.tup [.str "stopped",u,.int lo,.int hi])/\vv H u t
 | v,.prt r x y=>∃ o ra u w,v=.ref o/\H o=some (.tup [.str "parted",.ref ra,u,w])/\H ra=some (.tup (r.map V.int))/\vv H u x/\vv H w y
theorem vv.same {H H':Hp} (s:zD H H'):∀ {t:RT} {v:V},vv H v t->vv H' v t
 | .str ..,_,⟨o,la,e,h1,h2⟩=>⟨o,la,e,s _ _ h1,s _ _ h2⟩
 | .stp ..,_,⟨o,u,e,h1,h2⟩=>⟨o,u,e,s _ _ h1,vv.same s h2⟩
 | .prt ..,_,⟨o,ra,u,w,e,h1,h2,h3,h4⟩=>⟨o,ra,u,w,e,s _ _ h1,s _ _ h2,vv.same s h3,vv.same s h4⟩
noncomputable def isStr:RT->Bool | .str ..=>true | _=>false
theorem xb.row {n:Nat} {r:List Int} (h:r.length=n + 1/\∀ z∈r,Bd 300 z):uF r n:=⟨h.1,λx hx=>(h.2 x hx).mono⟩
theorem xb.rows {n:Nat}:∀ {t:RT},xb n t->∀ r∈t.rows,r.length=n + 1/\∀ z∈r,Bd 300 z
 | .str ..,_=>λr hr=>by cases hr
 | .stp ..,h=>λr hr=>xb.rows h.1 r hr
 | .prt q x y,h=>λr hr=>by
  rcases List.mem_append.mp hr with hr | hr
  ·rcases List.mem_append.mp hr with hr | hr
   ·rw [List.mem_singleton.mp hr]; exact h.1
   ·exact xb.rows h.2.1 r hr
  ·exact xb.rows h.2.2 r hr
noncomputable def Zv (H:Hp) (a:Addr):Prop:=∃ ns:List Int,H a=some (.lst (ns.map V.int))/\1<=ns.length
end Sh
namespace Sh
open PySem L2
theorem WW {H:Hp} {f:Addr} {x:Int} (h:H f=some (.tup [.int (zZ x 1),.int (zR x 1)])):H f=some (.tup [.int x,.int 1]):=by
 rw [JY,JZ] at h
 exact h
theorem QQ (xs:List Int) (a b:Nat):∃ zs:List Int,zk (xs.map V.int) (some (a:Int)) (some (b:Int))=zs.map V.int/\zs.length<=b - a:=by
 have e1:HT.sIx (xs.map V.int).length 0 (some (a:Int))=min a (xs.map V.int).length:=HT.sIx_nat _ 0 a
 have e2:HT.sIx (xs.map V.int).length (xs.map V.int).length (some (b:Int))=min b (xs.map V.int).length:=HT.sIx_nat _ _ b
 unfold zk
 rw [e1,e2,<- List.map_drop,<- List.map_take]
 refine ⟨_,rfl,?_⟩
 rw [List.length_take,List.length_drop,List.length_map]
 omega
theorem vx {x:Int} (h:0<=x/\x < 10 ^ 45):Bd 150 x:=by
 have:(10:Int) ^ 45 < 2 ^ 150:=by decide
 show x.natAbs < 2 ^ 150
 omega
theorem QR (xs:List V):zk xs (some 1) none=xs.drop 1:=by
 have e1:HT.sIx xs.length 0 (some ((1:Nat):Int))=min 1 xs.length:=HT.sIx_nat _ 0 1
 have e1':HT.sIx xs.length 0 (some 1)=min 1 xs.length:=e1
 unfold zk
 rw [e1',HT.sIx_none]
 cases xs with
 | nil=>rfl
 | cons x t=>
  have:min 1 (x :: t).length=1:=by
   show min 1 (t.length + 1)=1
   omega
  rw [this,List.take_of_length_le (by rw [List.length_drop]; exact Nat.le_refl _)]
noncomputable def yu (b:Int × Int):PyData:=.tuple [.int b.1,.int b.2]
theorem vH {K:PySem.W.Frag} {H:Hp}:∀ {pv:List V} {bs:List (Int × Int)},zX H pv bs->wT K H pv (bs.map yu)
 | _,_,.nil=>.nil
 | _,_,.cons ⟨a,e,h⟩ t=>by
  subst e
  exact .cons (.tup (zS.of h) (.cons (.int _) (.cons (.int _) .nil))) (vH t)
theorem qN:∀ bs:List (Int × Int),PyData.canLayAll0 (bs.map yu)=true
 | []=>rfl
 | p :: t=>by
  show (true && PyData.canLayAll0 (t.map yu))=true
  rw [qN t]
  rfl
theorem qO:∀ bs:List (Int × Int),PyData.depthAll (bs.map yu)<=1
 | []=>Nat.zero_le _
 | p :: t=>by
  show max (max 0 (max 0 0) + 1) (PyData.depthAll (t.map yu))<=1
  have:=qO t
  omega
theorem QS (bs:List (Int × Int)):PyData.depth (.list (bs.map yu))<=60:=by
 show PyData.depthAll (bs.map yu) + 1<=60
 have:=qO bs
 omega
theorem Zv.put {H:Hp} {b:Addr} {ns:List Int} (hn:1<=ns.length) {a:Addr} (h:Zv H a):Zv (upd H b (.lst (ns.map V.int))) a:=by
 by_cases e:a=b
 ·rw [e]; exact ⟨ns,zO,hn⟩
 ·obtain ⟨ms,h1,h2⟩:=h
  exact ⟨ms,(zl e).trans h1,h2⟩
end Sh
namespace L2
open PySem PySem.Spec PyProof.Rows Sh
theorem wC {α:Sort _} {p:α->Prop} {a:α} (h:p a):∃ b,b=a/\p b:=⟨a,rfl,h⟩
section
variable {X:Cx}
end
end L2
namespace Sh
section
variable {pts:List (Int × Int)} (hp:∀ p∈pts,0 < p.2)
include hp
end
end Sh
namespace L2
open PySem PySem.Spec PyProof.Rows
noncomputable abbrev jR:=Array Value->Option Addr->Prop
noncomputable def zv (base:Heap) (l:List Env) (e:Addr) (cls:Value) (P:jR) (fl:Value) (h:Heap):Prop:=
 base.StaysIn h/\base.get? e=none/\h.FunFrames base l/\∃ (oe:Obj) (vs:Array Value) (T:Addr) (oT:Obj) (ts:Array Value),h.get? e=some oe/\oe.cls=cls/\oe.data=.fields vs/\P vs oe.dict/\vs[1]? = some (.ref T)/\base.get? T=none/\T≠e/\h.get? T=some oT/\oT.data=.fields ts/\ts[3]? = some fl
noncomputable def jS (P:jR):Prop:=∀ (vs:Array Value) (d:Option Addr) (v:Value),P vs d->P (vs.setIfInBounds 1 v) d
section
variable {M:Model} {A:Around} {E:Value->Shared->Prop} {s:Shared} {base:Heap} {env:Env} {outer:List Env} {L e:Addr} {cls:Value} {P:jR} {Q:Unit->Shared->Prop} {oe:Obj} {vs:Array Value}
theorem jT {h:Heap} {T:Addr} {oT:Obj} {ts:Array Value} (hT:h.get? T=some oT) (hd:oT.data=.fields ts) {b:Addr} {o:Obj} (hb:h.get? b=some o) (n:∀ ws,o.data≠.fields ws):b≠T:=by
 rintro rfl
 rw [hT] at hb
 cases hb
 exact n ts hd
theorem WX {head:Value} {hn:Bool} (st:jS P) (hfr:A.frames=some (env :: outer)) (hl:s.heap.FunFrames base (env :: outer)) (hf:env.frame=some L) (he:s.heap.get? e=some oe) (hkb:base.StaysIn s.heap) (hen:base.get? e=none) (hd:oe.data=.fields vs) (hsz:1 < vs.size) (hP:P vs oe.dict)
  (h:∀ h',zv base (env :: outer) e oe.cls P (rawInt L) h'->s.heap.UpToSlots h'->Q () { s with heap:=h' }) :
  wpAny M A (do let a <- frameOf env; let pl <- entryPlaceOf L hn; let b <- EntryCells.newEntry head a .none (rawInt L) .none pl; setField (.ref e) 1 b) Q E s:=by
 have nf:e∉(env :: outer).filterMap (·.frame):=λz=>by
  obtain ⟨_,o,ho,n⟩:=hl.mem z
  rw [he] at ho
  cases ho
  exact n vs hd
 refine wpAny_bind (wpAny_frameOf_fun hfr hl hf λg sg=>wpAny_bind (wpAny_entryPlaceOf λpl hpl=>?_))
 unfold EntryCells.newEntry newFields
 refine wpAny_bind (wpAny_newObj_type ?_ (hpl.sizeOk5 _ _ _ _ _))
 have e1:g.get? e=some oe:=(sg.2.1 e nf).trans he
 have k1:base.StaysIn g:=λb o q=>(sg.2.1 b λz=>by rw [(hl.mem z).1] at q; cases q).trans (hkb b o q)
 generalize hO:({ cls:=.type "traceback",dict:=none,data:=.fields ([head,.ref L,.none,rawInt L,.none]++(if pl.isEmpty then List.replicate 6 Value.none else pl)).toArray }:Obj)=O
 have dO:∃ ws,O.data=.fields ws/\ws[3]? = some (rawInt L):=by
  rw [<- hO]
  refine ⟨_,rfl,?_⟩
  first | (simp; done) | (rcases hpl with rfl | ⟨_,_,_,_,_,_,_,rfl⟩ <;> simp)
 have fO:O.isFreed=false:=by rw [<- hO]; rfl
 obtain ⟨ws,dw,w3⟩:=dO
 have e2:=Heap.get?_push_of_some (h:=g) O e1
 refine wpAny_setField e2 hd hsz (h _ ?_ ?_)
 ·have ne:g.objs.size≠e:=Nat.ne_of_gt (Heap.lt_size e1)
  have d3:=Obj.data_mapFields hd (·.setIfInBounds 1 (Value.ref g.objs.size))
  refine ⟨λb o q=>?_,hen,hl.of_keeps λb o q n=>?_,_,_,g.objs.size,O,ws,Heap.get?_update_self (Obj.mapFields (·.setIfInBounds 1 (Value.ref g.objs.size))) e2 (Obj.isFreed_of_fields d3),Obj.cls_mapFields _ _,d3,?_,by simp [hsz],k1.fresh,ne,?_,dw,w3⟩
  ·have nb:b≠e:=λz=>by rw [z,hen] at q; cases q
   rw [Heap.get?_update_other _ _ (Ne.symm nb)]
   exact Heap.get?_push_of_some _ (k1 b o q)
  ·obtain ⟨sl,q1⟩:=sg.2.2 b o q
   refine ⟨{ o with slots:=sl },?_,rfl⟩
   rw [Heap.get?_update_other _ _ (Ne.symm (jT he hd q n))]
   exact Heap.get?_push_of_some _ q1
  ·have z:=st vs oe.dict (Value.ref g.objs.size) hP
   first | exact z | (rw [show (oe.mapFields (·.setIfInBounds 1 (Value.ref g.objs.size))).dict=oe.dict by unfold Obj.mapFields; split <;> rfl]; exact z)
  ·rw [Heap.get?_update_other _ _ (Ne.symm ne)]
   exact Heap.get?_push_size g fO
 ·intro b o q n
  obtain ⟨sl,q1⟩:=sg.2.2 b o q
  refine ⟨sl,?_⟩
  rw [Heap.get?_update_other _ _ (Ne.symm (jT he hd q n))]
  exact Heap.get?_push_of_some _ q1
theorem qP (st:jS P) (hfr:A.frames=some (env :: outer)) (hf:env.frame=some L) (x:zv base (env :: outer) e cls P .none s.heap)
  (h:∀ h',zv base (env :: outer) e cls P (rawInt L) h'->s.heap.UpToSlots h'->Q () { s with heap:=h' }):wpAny M A (noteFrame (.ref e) env) Q E s:=by
 obtain ⟨k,en,fr,oe,vs,T,oT,ts,he,rfl,hd,hP,h1,nT,ne,hT,dT,h3⟩:=x
 unfold noteFrame
 simp only [hf]
 refine wpAny_bind (wpAny_field he hd h1 ?_)
 rw [if_pos (show (Value.ref T != Value.none)=true by simp)]
 refine wpAny_bind (wpAny_field hT dT h3 ?_)
 rw [if_neg (show ¬ ((Value.none == rawInt L)=true) by simp [rawInt])]
 refine wpAny_bind (wpAny_setField hT dT (Array.getElem?_eq_some_iff.mp h3).1 ?_)
 have oth:∀ b,b≠T->(s.heap.update T (Obj.mapFields (·.setIfInBounds 3 Value.none))).get? b=s.heap.get? b:=λb nb=>Heap.get?_update_other _ _ (Ne.symm nb)
 refine WX st hfr (fr.of_keeps λb o q n=>⟨o,(oth b (jT hT dT q n)).trans q,rfl⟩) hf ((oth e (Ne.symm ne)).trans he) (λb o q=>(oth b λz=>by rw [z,nT] at q; cases q).trans (k b o q)) en hd (Array.getElem?_eq_some_iff.mp h1).1 hP λh' f u=>h h' f λb o q n=>u b o ((oth b (jT hT dT q n)).trans q) n
theorem QT (st:jS P) (hfr:A.frames=some (env :: outer)) (hf:env.frame=some L) (hl:s.heap.FunFrames base (env :: outer)) (he:s.heap.get? e=some oe) (hkb:base.StaysIn s.heap) (hen:base.get? e=none) (hd:oe.data=.fields vs) (h1:vs[1]? = some .none) (hP:P vs oe.dict)
  (h:∀ h',zv base (env :: outer) e oe.cls P (rawInt L) h'->s.heap.UpToSlots h'->Q () { s with heap:=h' }):wpAny M A (noteFrame (.ref e) env) Q E s:=by
 unfold noteFrame
 simp only [hf]
 refine wpAny_bind (wpAny_field he hd h1 ?_)
 rw [if_neg (by decide)]
 exact WX st hfr hl hf he hkb hen hd (Array.getElem?_eq_some_iff.mp h1).1 hP h
theorem Zw {l:List Env} {fl:Value} (x:zv base l e cls P fl s.heap) (h:∀ h',zv base l e cls P .none h'->s.heap.UpToSlots h'->Q () { s with heap:=h' }):wpAny M A (setFlight (.ref e) none) Q E s:=by
 obtain ⟨k,en,fr,oe,vs,T,oT,ts,he,hc,hd,hP,h1,nT,ne,hT,dT,h3⟩:=x
 have sz:3 < ts.size:=(Array.getElem?_eq_some_iff.mp h3).1
 have oth:∀ b,b≠T->(s.heap.update T (Obj.mapFields (·.setIfInBounds 3 ((none:Option Addr).elim Value.none λf=>rawInt f)))).get? b=s.heap.get? b:=λb nb=>Heap.get?_update_other _ _ (Ne.symm nb)
 unfold setFlight
 refine wpAny_bind (wpAny_field he hd h1 ?_)
 rw [if_pos (show (Value.ref T != Value.none)=true by simp)]
 refine wpAny_setField hT dT sz (h _ ⟨λb o q=>(oth b λz=>by rw [z,nT] at q; cases q).trans (k b o q),en,fr.of_keeps λb o q n=>⟨o,(oth b (jT hT dT q n)).trans q,rfl⟩,oe,vs,T,_,_,(oth e (Ne.symm ne)).trans he,hc,hd,hP,h1,nT,ne,Heap.get?_update_self _ hT (Obj.isFreed_of_fields (Obj.data_mapFields dT _)),Obj.data_mapFields dT _,by simp [sz]⟩ λb o q n=>⟨o.slots,(oth b (jT hT dT q n)).trans q⟩)
theorem zv.out {fl:Value} {h:Heap} (x:zv base (env :: outer) e cls P fl h):zv base outer e cls P fl h:=by
 obtain ⟨k,en,⟨_,_,fr⟩,r⟩:=x
 exact ⟨k,en,fr,r⟩
theorem QU (st:jS P) (hfr:A.frames=some (env :: outer)) (hf:env.frame=some L) (hl:s.heap.FunFrames base (env :: outer)) (he:s.heap.get? e=some oe) (hkb:base.StaysIn s.heap) (hen:base.get? e=none) (hd:oe.data=.fields vs) (h1:vs[1]? = some .none) (hP:P vs oe.dict)
  (h:∀ h',zv base outer e oe.cls P .none h'->s.heap.UpToSlots h'->Q () { s with heap:=h' }):wpAny M A (leaving env (.ref e)) Q E s:=by
 unfold leaving
 exact wpAny_bind (QT st hfr hf hl he hkb hen hd h1 hP λh1 f1 u1=>Zw f1 λh2 f2 u2=>h h2 f2.out (u1.trans u2))
end
noncomputable def P0:jR:=λvs _=>vs[2]? = some .none
theorem WY:jS P0:=λvs _ _ h=>by
 unfold P0 at h |-
 rw [Array.getElem?_setIfInBounds_ne (by decide)]
 exact h
theorem zv.first {base h:Heap} {l:List Env} {e:Addr} {cls fl:Value} (x:zv base l e cls P0 fl h):∃ oe vs,h.get? e=some oe/\oe.cls=cls/\oe.data=.fields vs/\vs[2]? = some .none:=by
 obtain ⟨_,_,_,oe,vs,_,_,_,he,hc,hd,hP,_⟩:=x
 exact ⟨oe,vs,he,hc,hd,hP⟩
end L2
namespace L2
open PySem PySem.Spec PyProof.Rows
section
variable {P:Program} {w:World} {H:Hp} {h:Heap} {a:Addr}
theorem yh.there {o:HO} (x:yh P w H h a o):∃ ob,h.get? a=some ob:=by
 cases o with
 | lst xs=>obtain ⟨_,_,_,_,e⟩:=x; exact ⟨_,e⟩
 | tup xs=>obtain ⟨_,_,_,p⟩:=x; obtain ⟨ob,e,_⟩:=p; exact ⟨ob,e⟩
 | dK kvs=>obtain ⟨_,_,_,_,ob,_,_,e,_⟩:=x; exact ⟨ob,e⟩
 | dT kvs=>obtain ⟨_,_,_,_,ob,_,_,e,_⟩:=x; exact ⟨ob,e⟩
 | set S n=>obtain ⟨ob,_,_,_,e,_⟩:=x; exact ⟨ob,e⟩
 | ins C dx fs=>obtain ⟨_,_,_,e,_⟩:=x; exact ⟨_,e⟩
 | own y=>exact x
 | xd fs=>obtain ⟨_,⟨ob,_,_,e,_⟩,_⟩:=x; exact ⟨ob,e⟩
 | rng lo hi=>obtain ⟨_,_,_,e⟩:=x; exact ⟨_,e⟩
 | frz ob u=>obtain ⟨e,_⟩:=x; exact ⟨_,e⟩
 | tbl ps=>exact ⟨_,show h.get? a=some _ from x⟩
 | met f y=>exact ⟨_,show h.get? a=some _ from x⟩
 | ext φ=>obtain ⟨_,e,_⟩:=x; exact e
theorem yZ.none_of (x:yZ P w H h) (e:h.get? a=none):H a=none:=by
 cases q:H a with
 | none=>rfl
 | some o=>
  obtain ⟨ob,z⟩:=(x a o q).there
  rw [e] at z
  cases z
theorem yZ.hide {as:List Addr} (x:yZ P w H h) (f:∀ b∈as,H b=none):yZ P w H (PySem.W.hideAll h as):=λa o e=>
 (x a o e).stay (λb u hb q=>PySem.W.hideAll_get _ q λz=>by
  have n:=f b z
  rcases hb with rfl | hb
  ·rw [n] at e; cases e
  ·rw [n] at hb; cases hb) (λ_ q=>q) λ_ _ q=>q
end
structure XL (P:Program) (w:World) (outer:List Env) (H H':Hp) (s s':Shared) (B:Heap) (e:Addr) (cls a0:Value):Prop where
 os:s'.os=s.os
 bare:AllBare s'.gens
 keep:∀ b o,s.heap.get? b=some o->H b=none->b∉xD outer->B.get? b=some o
 slot:∀ b o,s.heap.get? b=some o->H b=none->b∈xD outer->∃ sl,s'.heap.get? b=some { o with slots:=sl }
 free:∀ b o,s.heap.get? b=some o->H b=none->H' b=none
 there:∀ b o,s.heap.get? b=some o->b∉xD outer->∃ o',B.get? b=some o'
 tups:∀ b xs,H b=some (.tup xs)->H' b=some (.tup xs)
 frzs:∀ b o u,H b=some (.frz o u)->H' b=some (.frz o u)
 tbls:∀ b ps,H b=some (.tbl ps)->∃ more,H' b=some (.tbl (ps++more))
 hok:yZ P w H' B
 fly:zv B outer e cls P0 .none s'.heap
noncomputable def Zx (P:Program) (w:World):xk:=λouter H s E ev s'=>∃ (e:Addr) (cls a0:Value) (B:Heap) (H':Hp),ev=.ref e/\XL P w outer H H' s s' B e cls a0/\E cls none H'
section
variable {P:Program} {w:World} {outer:List Env} {H H':Hp} {s s':Shared} {B:Heap} {e:Addr} {cls a0:Value}
theorem XL.un (x:XL P w outer H H' s s' B e cls a0):Un (xD outer) [] H H' s.heap s'.heap where
 keep:=λb o q n hb _=>x.fly.1 b o (x.keep b o q n hb)
 slot:=λb o q n hb _=>x.slot b o q n hb
 free:=λb o q n _=>x.free b o q n
 there:=λb o q _=>by
  by_cases hb:b∈xD outer
  ·obtain ⟨_,o',ho,_⟩:=x.fly.2.2.1.mem hb
   exact ⟨o',ho⟩
  ·obtain ⟨o',ho⟩:=x.there b o q hb
   exact ⟨o',x.fly.1 _ _ ho⟩
 tups:=x.tups
 frzs:=x.frzs
 tbls:=x.tbls
theorem XL.held (x:XL P w outer H H' s s' B e cls a0):yZ P w H' s'.heap:=x.hok.kept x.fly.1
theorem XL.move {h':Heap} {tk:Nat} (x:XL P w outer H H' s s' B e cls a0) (f:zv B outer e cls P0 .none h') (u:s'.heap.UpToSlots h'):XL P w outer H H' s { s' with heap:=h',toks:=tk } B e cls a0 where
 os:=x.os
 bare:=x.bare
 keep:=x.keep
 slot:=λb o q n hb=>by
  obtain ⟨sl,e1⟩:=x.slot b o q n hb
  obtain ⟨_,o',ho,nf⟩:=x.fly.2.2.1.mem hb
  rw [e1] at ho
  cases ho
  obtain ⟨sl',e2⟩:=u b _ e1 nf
  exact ⟨sl',e2⟩
 free:=x.free
 there:=x.there
 tups:=x.tups
 frzs:=x.frzs
 tbls:=x.tbls
 hok:=x.hok
 fly:=f
theorem XL.new (x:XL P w outer H H' s s' B e cls a0):s.heap.get? e=none/\H' e=none/\e∉xD outer:=by
 have nf:e∉xD outer:=λz=>by
  obtain ⟨_,o,ho,nd⟩:=x.fly.2.2.1.mem z
  obtain ⟨oe,vs,he,_,hd,_⟩:=zv.first x.fly
  rw [he] at ho
  cases ho
  exact nd _ hd
 refine ⟨?_,x.hok.none_of x.fly.2.1,nf⟩
 cases q:s.heap.get? e with
 | none=>rfl
 | some o=>
  obtain ⟨o',z⟩:=x.there e o q nf
  rw [x.fly.2.1] at z
  cases z
end
section
variable {P:Program} {w:World} {K:PySem.W.Frag} {mg:Str->Option Value} {base:Heap} {N:List Str} {qual:Str} {scope:Scope} {f:Addr} {cd:Value} {A:Around} {outer:List Env} {s:Shared} {H:Hp} {E:XK}
theorem QV {X:Cx} {pins:List (Addr × Obj)} {σ:St} {H1:Hp} {s1:Shared} {b:Addr} {o:Obj} (I:zF X pins σ H1 s1) (q:X.s₀.heap.get? b=some o) (hb:b∉X.fs):b∉xD X.stack:=λz=>by
 rcases List.mem_cons.mp (I.stkSub b z) with e | z
 ·exact absurd (Nat.lt_of_lt_of_le (Heap.lt_size q) I.ok.above) (by rw [e]; exact Nat.lt_irrefl _)
 ·exact hb z
end
noncomputable abbrev uu:List Value:=[.type "ValueError",.type "Exception",.type "BaseException",.type "object"]
section
variable {P:Program} {w:World} {K:PySem.W.Frag} {mg:Str->Option Value} {base:Heap}
structure Zy (P:Program) (w:World) (K:PySem.W.Frag) (mg:Str->Option Value) (base:Heap) (x:Str) (ps:List Str) (k:Nat) (sp:Sp):Prop where
 ex:∃ f fd,zL P w K mg base (Zx P w) k f fd ps sp/\mg x=some (.ref f)/\PySem.W.keepIn K (.ref f)=true/\xL K fd ps []
theorem Zy.mono {x:Str} {ps:List Str} {j k:Nat} {sp:Sp} (F:Zy P w K mg base x ps j sp) (h:j<=k:=by decide):Zy P w K mg base x ps k sp:=by
 obtain ⟨f,fd,a,b,c,d⟩:=F.ex
 exact ⟨f,fd,a.mono h,b,c,d⟩
end
theorem QW {K:PySem.W.Frag} {prog:Program} {w:World} {A:Around} {E:Value->Shared->Prop} {s:Shared} {Q:Value->Shared->Prop} {e C:Addr} {c:Value} {oe:Obj} (X:K.In s.heap) (he:s.heap.get? e=some oe) (hc:oe.cls=.ref C)
  (kx:PySem.W.kitOne K (.ref C) c=some true) (h:∀ tk,Q (.bool true) { s with toks:=tk }):wpAny (model prog w) A (call (.builtin "isinstance") [.ref e,c]) Q E s:=by
 refine call_isinstance (S:=λ_ R s=>(K.In s.heap/\∃ oe,s.heap.get? e=some oe/\oe.cls=.ref C)/\∀ tk,R (.ok (.ret (.bool true))) { s with toks:=tk }) (λprog w A R s hs=>isinstance_outer ?_ (λz=>nomatch z)) ⟨⟨X,oe,he,hc⟩,h⟩
 obtain ⟨h0,g,d,tt,os⟩:=s
 obtain ⟨⟨X,oe,he,hc⟩,hq⟩:=hs
 have LT:PySem.W.Looks (model prog w) h0 (typeOf (.ref e)) (.ref C):=by
  intro A' Q' E' s' k q
  unfold typeOf
  dsimp only
  exact wpAny_bind (wpAny_loadPart (k _ _ he) (wpAny_pure (by rw [hc]; exact q)))
 unfold PySem.W.kitOne at kx
 unfold Builtin.«isinstance.nested»
 refine wpAny_bind (LT.at ?_)
 by_cases same:(Value.ref C == c)=true
 ·rw [if_pos same]
  first
   | ((repeat lk); exact hq tt)
   | exact wpAny_bind (wpAny_rule (hq tt))
   | exact wpAny_bind (wpAny_rule (wpAny_pure (hq tt)))
 ·rw [if_neg same] at kx
  rw [if_neg same]
  obtain ⟨l1,l2,l3⟩:=PySem.W.kit_cls (M:=model prog w) X kx
  have LI:PySem.W.Looks (model prog w) h0 (isInstance (.ref e) c) true:=LT.andThen l3
  refine wpAny_bind (l1.at ?_)
  rw [if_pos (by decide)]
  k_delta "plainIsInstance"
  refine wpAny_bind (wpAny_bind (l2.at ?_))
  simp only [Bool.not_true,Bool.false_eq_true,if_false]
  refine wpAny_bind (LI.at ?_)
  first
   | exact wpAny_pure (wpAny_pure (hq tt))
   | (simp only [if_true]; first | exact wpAny_pure (wpAny_pure (hq tt)) | exact wpAny_pure (hq tt) | exact wpAny_bind (wpAny_pure (wpAny_pure (hq tt))))
section
variable {X:Cx}
end
noncomputable abbrev Cx.mark (X:Cx) (e:Addr):Cx:={ X with A:=X.A.mark (some (.ref e)),calm:=false,xe:=λ_ _=>False }
section
variable {X:Cx} {pins:List (Addr × Obj)} {σ:St} {H:Hp} {s:Shared} {e:Addr}
theorem zF.mark (I:zF X pins σ H s) (e:Addr):zF (X.mark e) pins σ H s:=
 ⟨⟨I.ok.mod,I.ok.kind,I.ok.glob,I.ok.blt,I.ok.above,I.ok.inj,I.ok.has,I.ok.cab,λz=>(nomatch z),I.ok.frames,I.ok.stk,I.ok.exf,I.ok.bs,I.ok.bsz,I.ok.noex,I.ok.exfs,I.ok.funs,I.ok.frf⟩,I.os,I.bare,I.base,I.loc,I.cell,I.free,I.freeC,I.pin,I.hok,I.len⟩
theorem zF.unmark (hh:X.calm=true->X.A.handled=none) (I:zF (X.mark e) pins σ H s):zF X pins σ H s:=
 ⟨⟨I.ok.mod,I.ok.kind,I.ok.glob,I.ok.blt,I.ok.above,I.ok.inj,I.ok.has,I.ok.cab,hh,I.ok.frames,I.ok.stk,I.ok.exf,I.ok.bs,I.ok.bsz,I.ok.noex,I.ok.exfs,I.ok.funs,I.ok.frf⟩,I.os,I.bare,I.base,I.loc,I.cell,I.free,I.freeC,I.pin,I.hok,I.len⟩
theorem zF.track {o:HO} (I:zF X pins σ H s) (hn:H e=none) (h0:e∈X.ex\/X.s₀.heap.get? e=none) (hL:e≠X.env.locals) (hc:∀ x c,X.env.cells.lookup x=some c->c≠e) (hp:∀ p∈X.pn++pins,p.1≠e)
  (new:yh X.prog X.w (upd H e o) s.heap e o):zF X pins σ (upd H e o) s:=by
 have ne:∀ b u,H b=some u->b≠e:=λb u q=>wN q hn
 refine ⟨I.ok,I.os,I.bare,⟨I.base.keep,I.base.slot,λb ob q n hx=>?_,I.base.there,λb xs q=>?_,λb ob u q=>?_,λb ps q=>?_⟩,I.loc,I.cell,?_,λx c q=>?_,λp hq=>?_,λb u q=>?_,I.len⟩
 ·rw [zl λz=>?_]
  ·exact I.base.free b ob q n hx
  ·subst z
   rcases h0 with z | z
   ·exact hx z
   ·rw [q] at z; cases z
 ·have z:=I.base.tups b xs q
  rw [zl (ne _ _ z)]
  exact z
 ·have z:=I.base.frzs b ob u q
  rw [zl (ne _ _ z)]
  exact z
 ·obtain ⟨m,z⟩:=I.base.tbls b ps q
  exact ⟨m,by rw [zl (ne _ _ z)]; exact z⟩
 ·rw [zl (Ne.symm hL)]
  exact I.free
 ·rw [zl (hc x c q)]
  exact I.freeC x c q
 ·obtain ⟨a1,a2,a3,a4,a5⟩:=I.pin p hq
  exact ⟨a1,by rw [zl (hp p hq)]; exact a2,a3,a4,a5⟩
 ·by_cases z:b=e
  ·subst z
   rw [zO] at q
   cases q
   exact new
  ·rw [zl z] at q
   exact (I.hok b u q).stay (λ_ _ _ r=>r) (λc r=>by rw [zl (ne _ _ r)]; exact r) λc xs r=>by rw [zl (ne _ _ r)]; exact r
end
end L2
namespace L2
open PySem PySem.Spec PyProof.Rows
noncomputable def XP (X:Cx) (pins:List (Addr × Obj)) (ES:St->XK) (ev:Value) (s':Shared):Prop:=
 ∃ (σ1:St) (s1:Shared) (H1 H2:Hp) (e:Addr) (cls a0:Value) (B:Heap),zF X pins σ1 H1 s1/\ev=.ref e/\XL X.prog X.w X.stack H1 H2 s1 s' B e cls a0/\ES σ1 cls none H2
section
variable {X:Cx} {call:Expr} {tb:XK->TE} {pos pos':Pos}
end
theorem zF.gone {X:Cx} {pins:List (Addr × Obj)} {σ8:St} {H8:Hp} {s8:Shared} {h9:Heap} {i:Nat} {n:Str} {m8:Str->Option Value} {v9:Option Value} {tk:Nat} (I8':zF X pins σ8 H8 s8) (hN:X.N.Nodup) (hi:X.N[i]? = some n)
  (hl8:∀ (i:Nat) (x:Str) (v:V),X.N[i]? = some x->σ8[i]? = some (some v)->jE X.env.scope x->∃ u,zQ v u/\je X.env s8.heap m8 x u)
  (hn9:h9.Ns X.env.locals (λy=>if y=n then v9 else m8 y)) (keep9:∀ b o,b≠X.env.locals->s8.heap.get? b=some o->h9.get? b=some o):zF X pins (σ8.set i none) H8 { s8 with heap:=h9,toks:=tk }:=by
 have iσ:i < σ8.length:=by rw [I8'.len]; exact (List.getElem?_eq_some_iff.mp hi).1
 refine ⟨I8'.ok,I8'.os,I8'.bare,⟨λb o q n hb hx=>?_,λb o q n hb hx=>?_,I8'.base.free,λb o q hx=>?_,I8'.base.tups,I8'.base.frzs,I8'.base.tbls⟩,⟨_,hn9,λj y v e1 e2 e3=>?_⟩,λy c q=>?_,I8'.free,I8'.freeC,λp hp=>?_,λb u q=>?_,by rw [List.length_set]; exact I8'.len⟩
 ·exact keep9 b o (Nat.ne_of_lt (Nat.lt_of_lt_of_le (Heap.lt_size q) I8'.ok.above)) (I8'.base.keep b o q n hb hx)
 ·obtain ⟨sl,e1⟩:=I8'.base.slot b o q n hb hx
  exact ⟨sl,keep9 b _ (Nat.ne_of_lt (Nat.lt_of_lt_of_le (Heap.lt_size q) I8'.ok.above)) e1⟩
 ·obtain ⟨o',e1⟩:=I8'.base.there b o q hx
  exact ⟨o',keep9 b _ (Nat.ne_of_lt (Nat.lt_of_lt_of_le (Heap.lt_size q) I8'.ok.above)) e1⟩
 ·by_cases hj:j=i
  ·subst hj
   rw [List.getElem?_set_self iσ] at e2
   cases e2
  ·rw [List.getElem?_set_ne (Ne.symm hj)] at e2
   obtain ⟨u,r,l⟩:=hl8 j y v e1 e2 e3
   refine ⟨u,r,?_⟩
   have yn:y≠n:=λz=>hj (kL hN e1 (z ▸ hi))
   rcases l with ⟨k,l⟩ | ⟨k,c,l1,o,l2,l3⟩
   ·exact .inl ⟨k,(if_neg yn).trans l⟩
   ·exact .inr ⟨k,c,l1,o,keep9 _ _ (I8'.cne y c l1) l2,l3⟩
 ·obtain ⟨v,o,l2,l3⟩:=I8'.cell y c q
  exact ⟨v,o,keep9 _ _ (I8'.cne y c q) l2,l3⟩
 ·obtain ⟨a1,a2,a3,a4,a5⟩:=I8'.pin p hp
  exact ⟨keep9 _ _ a3 a1,a2,a3,a4,a5⟩
 ·refine (I8'.hok b u q).stay (λc v hc r=>keep9 c v (λz=>?_) r) (λ_ r=>r) λ_ _ r=>r
  rcases hc with z1 | z1
  ·rw [<- z1,z,I8'.free] at q
   cases q
  ·rw [z,I8'.free] at z1
   cases z1
end L2
namespace L2
open PySem PySem.Spec PyProof.Rows
structure uw (P:Program) (w:World) (K:PySem.W.Frag) (mg:Str->Option Value) (base:Heap) (C:Addr) (m:Str) (ps:List Str) (k:Nat) (sp:Sp):Prop where
 ex:∃ f fd,zL P w K mg base (Zx P w) k f fd ps sp/\vd K C m f/\xL K fd ps []
structure ux (P:Program) (w:World) (K:PySem.W.Frag) (mg:Str->Option Value) (base:Heap) (C:Addr) (ps:List Str) (k:Nat) (sp:Sp):Prop where
 ex:∃ f fd,zL P w K mg base (Zx P w) k f fd ps sp/\Mk K C f/\xL K fd ps []
theorem uw.mono {P:Program} {w:World} {K:PySem.W.Frag} {mg:Str->Option Value} {base:Heap} {C:Addr} {m:Str} {ps:List Str} {j k:Nat} {sp:Sp} (F:uw P w K mg base C m ps j sp) (h:j<=k):uw P w K mg base C m ps k sp:=by
 obtain ⟨f,fd,a,b,c⟩:=F.ex
 exact ⟨f,fd,a.mono h,b,c⟩
theorem ux.mono {P:Program} {w:World} {K:PySem.W.Frag} {mg:Str->Option Value} {base:Heap} {C:Addr} {ps:List Str} {j k:Nat} {sp:Sp} (F:ux P w K mg base C ps j sp) (h:j<=k:=by decide):ux P w K mg base C ps k sp:=by
 obtain ⟨f,fd,a,b,c⟩:=F.ex
 exact ⟨f,fd,a.mono h,b,c⟩
section
variable {X:Cx} {C:Addr} {m x:Str} {ps:List Str} {k:Nat} {sp:Sp} {o e:Expr} {es:List Expr} {ta:TE} {t:TA} {p pos apos:Pos}
end
section
variable {P:Program} {w:World} {K:PySem.W.Frag} {mg:Str->Option Value} {base:Heap} {N:List Str} {qual:Str} {scope:Scope} {f:Addr} {cd:Value} {A:Around} {outer:List Env} {s:Shared} {H:Hp} {E:XK}
variable {C:Addr} {m x:Str} {ps:List Str} {k:Nat} {sp:Sp} {o e:Expr} {es:List Expr} {ta:TE} {t:TA} {p pos apos:Pos}
end
end L2
namespace L2
open PySem PySem.Spec PyProof.Rows
section
variable {P:Program} {w:World} {K:PySem.W.Frag} {mg:Str->Option Value} {base:Heap} {k:Nat} {f C:Addr} {fd:FuncData} {x m:Str} {ps:List Str} {sp:Sp}
end
end L2
namespace L2
open PySem PySem.Spec PyProof.Rows PySem.Builtin PySem.Builtin.ObjectAttr PySem.Builtin.Getset_descriptor
structure xJ (K:PySem.W.Frag) (C:Addr):Prop where
 ga:PySem.W.findIn K (.ref C) "__getattribute__" = some (some (.builtin "BaseException.__getattribute__"))
 gt:PySem.W.findIn K (.ref C) "__getattr__" = some none
 ha:PySem.W.findIn K (.ref C) "__class__" = some (some (.builtin "object.__class__"))
 hn:PySem.W.specialIn K (.builtin "object.__class__") "__get__" = some (some (.builtin "getset_descriptor.__get__"))
 tk:PySem.W.takesIn K (.builtin "object.__class__")=some true
 mb:PySem.W.mroIn K C (.type "BaseException")=some true
 mo:PySem.W.mroIn K C (.type "object")=some true
section
variable {prog:Program} {w:World} {A:Around} {E:Value->Shared->Prop} {K:PySem.W.Frag} {s:Shared} {e C:Addr} {oe:Obj}
theorem QX {tp:Value} {R:Result->Shared->Prop} (X:K.In s.heap) (he:s.heap.get? e=some oe) (hc:oe.cls=.ref C) (Z:xJ K C)
  (h:R (.ok (.ret (.ref C))) s):codeAny (model prog w) A (.call (.builtin "getset_descriptor.__get__") ⟨[.builtin "object.__class__",.ref e,tp],[]⟩) R s:=by
 obtain ⟨hh,g,dr,t,os⟩:=s
 have L0:PySem.W.Looks (model prog w) hh (typeOf (.ref e)) (.ref C):=hc ▸ (PySem.W.Looks.ld he).andThen .now
 have L1:=PySem.W.looks_mroIn (M:=model prog w) X Z.mo
 refine codeAny_call_builtin PySem.W.KF.slot_gs.plain PySem.W.KF.entry_gs (PySem.W.KF.slot_gs.check _ _ _ _ _ _ _ _ PySem.W.KF.type_class (PySem.W.KF.args_gs _ _ _) ?_)
 unfold Builtin.«getset_descriptor.__get__» descrGet
 rw [PySem.W.dga_obj]
 refine wpAny_bind (wpAny_pure ?_)
 unfold descrGetter descrCheckInstance descrNameAndClass isInstance
 simp only [PySem.W.KF.owner_class]
 repeat lk
 refine ⟨Code.quiet_builtin _ (by decide +kernel),codeAny_builtin PySem.W.KF.entry_class ?_⟩
 unfold Builtin.«object.__class__» shownTypeOf
 repeat lk
 exact h
theorem QY (X:K.In s.heap) (Z:xJ K C):PySem.W.Looks (model prog w) s.heap (find (.ref e) (.ref C) "__class__") (.bind (.builtin "getset_descriptor.__get__") (.builtin "object.__class__")):=by
 have L1:=PySem.W.looks_findIn (M:=model prog w) X Z.ha
 have L2:PySem.W.Looks (model prog w) s.heap (getOf (some (.builtin "object.__class__"))) (some (.builtin "getset_descriptor.__get__")):=PySem.W.looks_specialIn X Z.hn
 have L3:=PySem.W.looks_takesIn (M:=model prog w) X Z.tk
 exact L1.andThen (L2.andThen ((show PySem.W.Looks (model prog w) s.heap (dataDescriptor? (some (.builtin "object.__class__")) (some (.builtin "getset_descriptor.__get__"))) (some (.builtin "getset_descriptor.__get__",.builtin "object.__class__")) from L3.andThen .now).andThen (PySem.W.Looks.tag .now)))
theorem QZ {tk:Tok} {Q:Fin->Shared->Prop} (X:K.In s.heap) (he:s.heap.get? e=some oe) (hc:oe.cls=.ref C) (Z:xJ K C) (hq:Q (.done (.ret (.ref C))) s) :
  wpAny (model prog w) A (Builtin.«object.__getattribute__» ⟨[.ref e,.str "__class__" tk],[]⟩) Q E s:=by
 obtain ⟨hh,g,dr,t,os⟩:=s
 have L0:PySem.W.Looks (model prog w) hh (typeOf (.ref e)) (.ref C):=hc ▸ (PySem.W.Looks.ld he).andThen .now
 have L1:=QY (prog:=prog) (w:=w) (s:=⟨hh,g,dr,t,os⟩) (e:=e) X Z
 unfold Builtin.«object.__getattribute__»
 refine wpAny_bind (wpAny_pure ?_)
 refine wpAny_bind (wpAny_pure ?_)
 refine wpAny_bind (L0.at (wpAny_bind (L1.at ?_)))
 show wpAny _ _ (holding [Value.builtin "object.__class__"] (call (.builtin "getset_descriptor.__get__") [.builtin "object.__class__",.ref e,.ref C]) >>= ret) _ _ _
 exact wpAny_bind (wpAny_holding (wpAny_call (QX (s:=⟨hh,g,dr,t,os⟩) X he hc Z (wpAny_pure hq))))
theorem WZ {M:Model} {nameV:Value} {Q:Unit->Shared->Prop} (X:K.In s.heap) (he:s.heap.get? e=some oe) (hc:oe.cls=.ref C) (Z:xJ K C) (hq:Q () s):wpAny M A (checkBuiltinCall "BaseException.__getattribute__" ⟨[.ref e,nameV],[]⟩) Q E s:=by
 obtain ⟨hh,g,dr,t,os⟩:=s
 have L0:PySem.W.Looks M hh (typeOf (.ref e)) (.ref C):=hc ▸ (PySem.W.Looks.ld he).andThen .now
 have L1:=PySem.W.looks_mroIn (M:=M) X Z.mb
 have hk:builtinKind "BaseException.__getattribute__" = some .slot:=by decide +kernel
 have hsplit:splitId "BaseException.__getattribute__" = some ("BaseException","__getattribute__"):=by decide +kernel
 have ha:=F.args_bexc_ga (.ref e) nameV
 simp only [checkBuiltinCall,hk,hsplit]
 unfold isInstance
 repeat lk
 exact hq
theorem Qa {tk:Tok} {R:Result->Shared->Prop} (X:K.In s.heap) (he:s.heap.get? e=some oe) (hc:oe.cls=.ref C) (Z:xJ K C) (hq:R (.ok (.ret (.ref C))) s) :
  codeAny (model prog w) A (.call (.builtin "BaseException.__getattribute__") ⟨[.ref e,.str "__class__" tk],[]⟩) R s:=
 codeAny_call_builtin (by decide +kernel) F.entry_bexc_ga (WZ X he hc Z (QZ X he hc Z hq))
theorem Qb {Q:Option Value->Shared->Prop} (X:K.In s.heap) (he:s.heap.get? e=some oe) (hc:oe.cls=.ref C) (Z:xJ K C) (hq:Q (some (.ref C)) { s with toks:=s.toks + 1 }) :
  wpAny (model prog w) A (getAttr? (.ref e) "__class__") Q E s:=by
 obtain ⟨hh,g,dr,t,os⟩:=s
 have L0:PySem.W.Looks (model prog w) hh (typeOf (.ref e)) (.ref C):=hc ▸ (PySem.W.Looks.ld he).andThen .now
 have L1:=PySem.W.looks_findIn (M:=model prog w) X Z.ga
 have L2:=PySem.W.looks_findIn (M:=model prog w) X Z.gt
 have hx2:(Value.builtin "BaseException.__getattribute__" == Value.builtin "object.__getattribute__")=false:=by decide +kernel
 have f3:bindSpecial (.builtin "BaseException.__getattribute__") (.ref e)=pure (.builtin "BaseException.__getattribute__",[.ref e]):=by
  have hop:withoutEnding? "BaseException.__getattribute__" "#opaque" = none:=by decide +kernel
  have hdat:withoutEnding? "BaseException.__getattribute__" "#data" = none:=by decide +kernel
  have hk:builtinKind "BaseException.__getattribute__" = some .slot:=by decide +kernel
  simp only [bindSpecial,typeOf,builtinType,hop,hdat,hk]
  rfl
 unfold getAttr? getAttrBy? getAttrBy
 refine wpAny_bind (wpAny_mkText (wpAny_bind (wpAny_attempt (wpAny_holding (wpAny_bind (L0.at (wpAny_bind (L1.at ?_))))))))
 dsimp only
 rw [hx2,Bool.and_false,if_neg Bool.false_ne_true]
 unfold getAttrByItsOwn hookBefore
 refine wpAny_bind ?_
 rw [if_pos (show onTheHeap (Value.ref C)=true from rfl)]
 refine L2.at ?_
 unfold callGetattribute
 rw [Bool.false_and,if_neg Bool.false_ne_true]
 unfold boundAndCalled
 rw [f3]
 refine wpAny_bind (wpAny_attempt (wpAny_holding (wpAny_bind (wpAny_pure ?_))))
 exact wpAny_call (Qa (s:=⟨hh,g,dr,t + 1,os⟩) X he hc Z (wpAny_pure (wpAny_pure hq)))
theorem Qc (Z:xJ K C):PySem.W.KitX K (.ref e) (.ref C) (λh=>∃ oe,h.get? e=some oe/\oe.cls=.ref C) where
 ty:=λ_ _ _ ⟨_,he,hc⟩=>hc ▸ (PySem.W.Looks.ld he).andThen .now
 it:=λ_ _ X _=>by
  obtain ⟨cd,hcD,_⟩:=Option.bind_eq_some_iff.mp Z.mo
  unfold PySem.W.clsIn at hcD
  split at hcD
  ·rename_i c' d' cd' sl' ho
   intro A' Q' E' s' k q
   unfold isType loadHead
   exact wpAny_bind (wpAny_loadPart (k _ _ (X _ _ ho)) (wpAny_pure q))
  ·cases hcD
 ne:=λh tp dd its n sl X htp=>by
  obtain ⟨cd,hcD,_⟩:=Option.bind_eq_some_iff.mp Z.mo
  refine Bool.eq_false_iff.mpr λq=>?_
  have e:C=tp:=Value.ref.inj (beq_iff_eq.mp q)
  subst e
  unfold PySem.W.clsIn at hcD
  split at hcD
  ·rename_i c' d' cd' sl' ho
   have z:=(X _ _ ho).symm.trans htp
   cases z
  ·cases hcD
 ca:=λX ⟨_,he,hc⟩ k=>Qb X he hc Z k
end
section
variable {X:Cx}
theorem Wa:∀ {bs:List Bool} {its:List Value},zM (bs.map V.bl) its->its=bs.map Value.bool
 | [],_,.nil=>rfl
 | _ :: _,_,.cons r t=>by rw [List.map_cons,Wa t,show _=Value.bool _ from r]
end
end L2
namespace L2
open PySem PySem.Spec PyProof.Rows PySem.Builtin PySem.Builtin.ObjectAttr
noncomputable def vy (K:PySem.W.Frag) (C f:Addr):Bool:=match K.lookup C with
 | some ⟨.type "type",_,.cls cd,sl⟩=>(match cd.mro,sl.toList with
  | .ref D :: bm,[_,_,_,_,some (.builtin n),_]=>D == C && (n == "ValueError.__new__" && (!cd.hasDel && (PySem.W.tailIn K uu bm && (PySem.W.nsOkIn K cd.ns && (PySem.W.nsIn K cd.ns "__init__" == some (some (.ref f)) && cd.hasDict)))))
  | _,_=>false)
 | _=>false
theorem Qd {K:PySem.W.Frag} {h:Heap} {N:Addr} {m:Str->Option Value} {n:Str} {v:Value} (X:K.In h) (G:h.Ns N m) (e:PySem.W.nsIn K N n=some (some v)):m n=some v:=by
 obtain ⟨o,es,ep,ho,hd,_,hf⟩:=G
 unfold PySem.W.nsIn at e
 split at e
 case h_1 c dd es' n' sl q=>
  have z:=X _ _ q
  rw [ho] at z
  cases z
  cases hd
  split at e
  case h_1 en he=>
   cases e
   rw [<- hf]
   unfold nsFind findBy
   rw [<- Array.find?_toList,he]
   rfl
  case h_2=>split at e <;> cases e
 case h_2=>cases e
theorem Wb {K:PySem.W.Frag} {h:Heap} {C f:Addr} (X:K.In h) (q:vy K C f=true) :
  ∃ bm N nm qn bs sn sub ab col dd k0 k1 k2 k3 k5 mN,h.get? C=some (excClassObj nm qn C N bs bm true sn sub ab col dd k0 k1 k2 k3 k5 "ValueError.__new__")/\h.Ns N mN/\mN "__init__" = some (.ref f)/\OwnTail h uu bm:=by
 unfold vy at q
 split at q
 case h_1 dd cd sl look=>
  split at q
  case h_1 C1 tl k0 k1 k2 k3 made k5 eqm eqs=>
   simp only [Bool.and_eq_true,beq_iff_eq,Bool.not_eq_true'] at q
   obtain ⟨e1,e2,e3,e4,e5,e6,e7⟩:=q
   subst e1 e2
   obtain ⟨nm,bs,mro,ns,qn,hd,sn,sub,ab,col,del⟩:=cd
   obtain ⟨sll⟩:=sl
   dsimp only at eqm e3 e5 e6 eqs e7
   subst eqm e3 eqs e7
   exact ⟨tl,ns,nm,qn,bs,sn,sub,ab,col,dd,k0,k1,k2,k3,k5,h.nsMap ns,X _ _ look,.of_isNs (PySem.W.isNs_of_in X e5),Qd X (.of_isNs (PySem.W.isNs_of_in X e5)) e6,PySem.W.tail_of_in X e4⟩
  all_goals cases q
 all_goals cases q
section
variable {prog:Program} {w:World} {A:Around} {E:Value->Shared->Prop} {h:Heap} {g:Array GenState} {d:Drawn} {t:Nat} {os:OsState}
variable {nm qn:Str} {C N:Addr} {bs bm:List Value} {hdct:Bool} {sn:List Str} {sub:List Value} {ab:Bool} {col:Option Bool} {dd:Option Addr} {k0 k1 k2 k3 k5:Option Value}
theorem Qe (T:OwnTail h uu bm) {mN:Str->Option Value} {zq:List Value} {fI:Addr} {oI:Obj} {Q:Fin->Shared->Prop}
  (hC:h.get? C=some (excClassObj nm qn C N bs bm hdct sn sub ab col dd k0 k1 k2 k3 k5 "ValueError.__new__")) (hn:h.Ns N mN) (hi:mN "__init__" = some (.ref fI))
  (hfI:h.get? fI=some oI) (hfc:oI.cls=.type "function")
  (hq:∀ h' e,Heap.MadeExcOf h h' e (.ref C) zq->
   wpAny (model prog w) A (call (.ref fI) (.ref e :: zq)) (λr s'=>r=.none/\Q (.done (.ret (.ref e))) s') E ⟨h',g,d,t,os⟩) (hrest:zq.length<=sizeLine) :
  wpAny (model prog w) A (Builtin.«type.__call__» ⟨.ref C :: zq,[]⟩) Q E ⟨h,g,d,t,os⟩:=by
 have F:=PySem.F.excBase_ValueError
 repeat (first | with_reducible refine wpAny_loadPart_at hC ?_ | with_reducible refine wpAny_madeBy_exc hC ?_ | wp_step)
 refine codeAny_call_builtin_code (Code.quiet_builtin _ F.quiet) (wpAny_check_new_subT F T hC ?_)
 refine codeAny_exc_new_subT F T hC ?_ hrest
 show wpAny _ _ _ _ _ _
 generalize eT:({ cls:=.type "tuple",data:=.seq zq.toArray }:Obj)=oT
 generalize eE:({ cls:=.ref C,data:=.fields #[.ref h.objs.size,.none,.none,.none,.bool false,.none] }:Obj)=oE
 have keep:∀ b o,h.get? b=some o->((h.push oT).push oE).get? b=some o:=λb o z=>Heap.get?_push_of_some _ (Heap.get?_push_of_some _ z)
 have hT:((h.push oT).push oE).get? h.objs.size=some oT:=Heap.get?_push_of_some _ (Heap.get?_push_at rfl (by rw [<- eT]; rfl))
 have hE:((h.push oT).push oE).get? (h.objs.size + 1)=some oE:=Heap.get?_push_at (by rw [Heap.size_push]) (by rw [<- eE]; rfl)
 have hC1:=keep _ _ hC
 have hf1:=keep _ _ hfI
 have hn1:=hn.keeps keep
 have T1:=T.keeps keep
 have hcl:oE.cls=.ref C:=by rw [<- eE]
 have hcC:(Value.ref C :: bm).contains (.ref C)=true:=by simp
 unfold isInstance
 repeat (first | (with_reducible refine wpAny_loadPart_at hE ?_; rw [hcl]) | (with_reducible refine wpAny_isSubtype_exc hC1 ?_; rw [hcC]) | wp_step)
 show wpAny _ _ (typeLookup (.ref C) _) _ _ _
 refine wpAny_typeLookup_tail hC1 hn1 T1 F.mroIs F.init.lookup ?_
 rw [hi]
 refine wpAny_holding (wpAny_bind ?_)
 unfold bindSpecial
 refine wpAny_bind (wpAny_typeOf (T:="function") ⟨_,hf1,hfc⟩ ?_)
 rw [if_pos (by decide)]
 refine wpAny_pure (wpAny_bind (wpAny_mono (hq _ (h.objs.size + 1) ⟨keep,Heap.get?_none_of_le (Nat.le_succ _),h.objs.size,by rw [eE]; exact hE,Heap.get?_none_of_le (Nat.le_refl _),by rw [eT]; exact hT⟩) (λr s' hr=>?_) λ_ _ x=>x))
 obtain ⟨rfl,hQ⟩:=hr
 wp_walk
 exact hQ
theorem Qf (T:OwnTail h uu bm) {mN:Str->Option Value} {zq:List Value} {fI:Addr} {oI:Obj} {Q:Value->Shared->Prop}
  (hC:h.get? C=some (excClassObj nm qn C N bs bm hdct sn sub ab col dd k0 k1 k2 k3 k5 "ValueError.__new__")) (hn:h.Ns N mN) (hi:mN "__init__" = some (.ref fI))
  (hfI:h.get? fI=some oI) (hfc:oI.cls=.type "function")
  (hq:∀ h' e,Heap.MadeExcOf h h' e (.ref C) zq->
   wpAny (model prog w) (A.under (.builtin "type.__call__" ⟨.ref C :: zq,[]⟩)) (call (.ref fI) (.ref e :: zq)) (λr s'=>r=.none/\Q (.ref e) s') E ⟨h',g,d,t,os⟩) (hrest:zq.length<=sizeLine) :
  wpAny (model prog w) A (call (.ref C) zq) Q E ⟨h,g,d,t,os⟩:=by
 have f1:=tc_lookup
 have f2:=tc_bind (.ref C)
 have hT:(⟨h,g,d,t,os⟩:Shared).TypeIs (.ref C) "type":=⟨_,hC,rfl⟩
 refine wpAny_call (codeAny_of_tree ?_)
 show wpAny _ _ (callAny (.ref C) _) _ _ _
 repeat (any_goals (first | assumption | with_reducible refine wpAny_loadPart_at hC ?_ | wp_step))
 refine ⟨rfl,?_⟩
 refine codeAny_call_builtin_at (Code.quiet_builtin _ (by decide +kernel)) entry_typeCall (wpAny_check_type_call_sub hC (Qe T hC hn hi hfI hfc (λh' e hm=>?_) hrest))
 exact hq h' e hm
end
end L2
namespace L2
open PySem PySem.Spec PyProof.Rows PySem.Builtin PySem.Builtin.ObjectAttr PySem.Builtin.Getset_descriptor
noncomputable def uy (K:PySem.W.Frag) (C:Addr):Bool:=(PySem.W.clsIn K C).any λcd=>(match cd.mro with | .ref _ :: .ref _ :: r=>r == uu | _=>false) && cd.hasDict
section
variable {prog:Program} {w:World} {A:Around} {R:Result->Shared->Prop} {E:Value->Shared->Prop} {s:Shared} {K:PySem.W.Frag} {x C:Addr} {vs:Array Value} {sl:Array (Option Value)} {name:Str} {tk:Tok} {v:Value}
theorem Qg (X:K.In s.heap) (hx:s.heap.get? x=some { cls:=.ref C,dict:=none,data:=.fields vs,slots:=sl }) (hp:uy K C=true) (ht:PySem.W.findIn K (.ref C) name=some none)
  (h:∀ (h':Heap) (tk':Nat) (D:Addr),h'.get? x=some { cls:=.ref C,dict:=some D,data:=.fields vs,slots:=sl }->h'.Ns1 D (λy=>if y=name then some v else none)->s.heap.objs.size<=D->D≠x->(∀ b o,b≠x->s.heap.get? b=some o->h'.get? b=some o)->R (.ok (.ret .none)) { s with heap:=h',toks:=tk' }) :
  codeAny (model prog w) A (.call (.builtin "object.__setattr__") ⟨[.ref x,.str name tk,v],[]⟩) R s:=by
 have SF:=PySem.F.store_object
 have I:PySem.W.InstAt s.heap x { cls:=.ref C,dict:=none,data:=.fields vs,slots:=sl } C none:=⟨hx,rfl,rfl,trivial⟩
 obtain ⟨cd,hc,ho⟩:=PySem.W.any_some hp
 obtain ⟨ho,hd⟩:=(Bool.and_eq_true _ _).mp ho
 obtain ⟨c1,c2,hm0⟩:∃ c1 c2,cd.mro=.ref c1 :: .ref c2 :: uu:=by
  split at ho
  case h_1 c1 c2 r em=>exact ⟨c1,c2,by rw [em,beq_iff_eq.mp ho]⟩
  case h_2=>cases ho
 have hm:PySem.W.Looks (model prog w) s.heap (mroOf (.ref C)) cd.mro:=(PySem.W.looks_clsIn X hc).andThen .now
 have sub:PySem.W.Looks (model prog w) s.heap (isInstance (.ref x) (.type "object")) true:=I.type.andThen (PySem.W.looks_mroIn X (by unfold PySem.W.mroIn; rw [hc,Option.bind_some,hm0]; rfl))
 refine codeAny_call_builtin SF.slot.plain SF.entry (@PySem.W.check_slot (model prog w) _ _ s "object.__setattr__" "object" "__setattr__" (.ref x) [.str name tk,v] [] _ SF.kind SF.split sub (SF.args (.ref x) (.str name tk) v) ?_)
 have L3:PySem.W.Looks (model prog w) s.heap (storeTaker? none) none:=.now
 rw [PySem.W.osa_eq,refuse_eq]
 refine wpAny_bind (wpAny_bind (I.type.here (wpAny_bind (hm.here ?_))))
 rw [hm0,refuseLoop_ref,refuseLoop_ref,PySem.F.store_ValueError.passes]
 refine wpAny_pure (wpAny_bind (I.type.here (wpAny_bind ((PySem.W.looks_findIn X ht).here (wpAny_bind (L3.here ?_))))))
 refine wpAny_bind (wpAny_pure (wpAny_bind (wpAny_bind (wpAny_loadPart hx (wpAny_bind ((PySem.W.looks_clsIn X hc).here ?_))))))
 rw [hd]
 obtain ⟨hh,g,dr,t,os⟩:=s
 have hx1:(hh.push { cls:=.type "dict",data:=.dict #[] }).get? x=some { cls:=.ref C,dict:=none,data:=.fields vs,slots:=sl }:=Heap.get?_push_of_some _ hx
 have hxs:x≠hh.objs.size:=Nat.ne_of_lt (Heap.lt_size hx)
 refine wpAny_bind (wpAny_alloc' ?_)
 refine wpAny_bind (wpAny_update' hx1 ?_)
 refine wpAny_pure ?_
 generalize hU:((hh.push { cls:=.type "dict",data:=.dict #[] }).update x λo=>{ cls:=o.cls,dict:=some hh.objs.size,data:=o.data,slots:=o.slots })=U
 have hgd:U.get? hh.objs.size=some { cls:=.type "dict",data:=.dict #[] }:=by
  rw [<- hU]
  exact (Heap.get?_update_ne _ _ _ _ hxs.symm).trans (Heap.get?_push_at rfl rfl)
 have hnd:U.Ns hh.objs.size (λ_=>none):=⟨_,#[],_,hgd,rfl,λe he=>absurd he (by simp),λ_=>rfl⟩
 have hUx:U.get? x=some { cls:=.ref C,dict:=some hh.objs.size,data:=.fields vs,slots:=sl }:=by
  rw [<- hU]
  exact Heap.get?_update_self _ hx1 rfl
 have hUo:∀ b o,b≠x->hh.get? b=some o->U.get? b=some o:=λb o nb q=>by
  rw [<- hU]
  exact (Heap.get?_update_ne _ _ _ _ nb).trans (Heap.get?_push_of_some _ q)
 show wpAny _ _ (storeInDict hh.objs.size (.str name tk) name v) _ _ _
 unfold storeInDict newKeyGuard
 refine wpAny_bind (wpAny_pure (wpAny_bind (wpAny_nsSet1 (Heap.Ns1.of_empty hnd) λh' hn' hs=>?_)))
 obtain ⟨oD,esD,epD,hoD,hdD,hcD⟩:=hn'.count (Within.cons name v Within.nil)
 refine wpAny_bind (wpAny_lookBehind hoD (by rw [hdD]; exact pastItsLine_dict (Nat.le_trans hcD (by rw [List.length_cons,List.length_nil,sizeLine_eq]; omega))) ?_)
 wp_walk
 exact h h' _ hh.objs.size ((hs.2 x hxs).trans hUx) hn' (Nat.le_refl _) hxs.symm λb o nb q=>(hs.2 b (Nat.ne_of_lt (Heap.lt_size q))).trans (hUo b o nb q)
theorem Qh {Q:Unit->Shared->Prop} (X:K.In s.heap) (hx:s.heap.get? x=some { cls:=.ref C,dict:=none,data:=.fields vs,slots:=sl }) (hp:uy K C=true) (ht:PySem.W.findIn K (.ref C) name=some none)
  (hs:PySem.W.findIn K (.ref C) "__setattr__" = some (some (.builtin "object.__setattr__")))
  (h:∀ (h':Heap) (tk':Nat) (D:Addr),h'.get? x=some { cls:=.ref C,dict:=some D,data:=.fields vs,slots:=sl }->h'.Ns1 D (λy=>if y=name then some v else none)->s.heap.objs.size<=D->D≠x->(∀ b o,b≠x->s.heap.get? b=some o->h'.get? b=some o)->Q () { s with heap:=h',toks:=tk' }) :
  wpAny (model prog w) A (setAttr (.ref x) name v) Q E s:=by
 have I:PySem.W.InstAt s.heap x { cls:=.ref C,dict:=none,data:=.fields vs,slots:=sl } C none:=⟨hx,rfl,rfl,trivial⟩
 refine PySem.W.set_plain X I hs ?_
 exact Qg (s:={ s with toks:=s.toks + 1 }) X hx hp ht λh' tk' D a b c dx f=>h h' tk' D a b c dx f
end
theorem Qi {prog:Program} {w:World} {A:Around} {E:Value->Shared->Prop} {h:Heap} {g:Array GenState} {d:Drawn} {t:Nat} {os:OsState} {nm qn:Str} {C N:Addr} {bs bm:List Value} {hdct:Bool} {sn:List Str} {sub:List Value} {ab:Bool} {col:Option Bool} {dd:Option Addr} {k0 k1 k2 k3 k5:Option Value} {e:Addr} {t0:Addr} {zq:List Value} {Q:Value->Shared->Prop} (T:OwnTail h uu bm)
  (hC:h.get? C=some (excClassObj nm qn C N bs bm hdct sn sub ab col dd k0 k1 k2 k3 k5 "ValueError.__new__")) (he:h.get? e=some { cls:=.ref C,data:=.fields #[.ref t0,.none,.none,.none,.bool false,.none] })
  (hq:∀ h' t1,h'.get? e=some { cls:=.ref C,data:=.fields #[.ref t1,.none,.none,.none,.bool false,.none] }->(∀ b o,b≠e->h.get? b=some o->h'.get? b=some o)->Q .none ⟨h',g,d,t,os⟩) (hrest:zq.length<=sizeLine) :
  wpAny (model prog w) A (call (.builtin "ValueError.__init__") (.ref e :: zq)) Q E ⟨h,g,d,t,os⟩:=by
 have F:=PySem.F.excBase_ValueError
 refine wpAny_call (codeAny_call_builtin F.init.plain F.initEntry (wpAny_check_init_subT F T hC he rfl ?_))
 have hp:=Heap.get?_push_of_some (h:=h) { cls:=.type "tuple",data:=.seq zq.toArray } he
 have ne:e≠h.objs.size:=Nat.ne_of_lt (Heap.lt_size he)
 unfold Builtin.«BaseException.__init__»
 dsimp only
 rw [if_neg (by simp)]
 unfold newTuple Builtin.BaseException.bexcPut
 refine wpAny_bind (wpAny_newObj_type (wpAny_bind (wpAny_bind (wpAny_field hp rfl rfl (wpAny_bind (wpAny_setField hp rfl (by simp) ?_))))) (by show zq.toArray.size<=sizeLine; rw [List.size_toArray]; exact hrest))
 refine wpAny_letGo (wpAny_pure (hq _ h.objs.size ?_ (λb o nb q=>?_)))
 ·rw [Heap.get?_update_self _ hp rfl]
  rfl
 ·rw [Heap.get?_update_other _ _ (Ne.symm nb)]
  exact Heap.get?_push_of_some _ q
end L2
namespace L2
open PySem PySem.Spec PyProof.Rows PySem.Builtin PySem.Builtin.ObjectAttr PySem.Builtin.Getset_descriptor
noncomputable def vI (e C:Addr):HO:=.ext λh=>∃ t,h.get? e=some { cls:=.ref C,data:=.fields #[.ref t,.none,.none,.none,.bool false,.none] }
noncomputable def uK (e C d:Addr):HO:=.ext λh=>∃ t,h.get? e=some { cls:=.ref C,dict:=some d,data:=.fields #[.ref t,.none,.none,.none,.bool false,.none] }
noncomputable def vJ (e C d:Addr):HO:=.ext λh=>∃ oe vs,h.get? e=some oe/\oe.cls=.ref C/\oe.data=.fields vs/\vs[2]? = some .none/\oe.dict=some d
structure wo (K:PySem.W.Frag) (mg:Str->Option Value) (C CS f:Addr):Prop where
 ci:vy K C f=true
 ov:uy K C=true
 st:PySem.W.findIn K (.ref C) "step" = some none
 sa:PySem.W.findIn K (.ref C) "__setattr__" = some (some (.builtin "object.__setattr__"))
 fn:PySem.W.isFn K (.ref f)=true
 mgC:mg "NoRun" = some (.ref C)
 mgS:mg "SteadyError" = some (.ref CS)
 rd:PySem.W.readsIn K CS (.type "type")=true
 fc:PySem.W.findCls K (.ref CS) (.type "type") "__init__" = some (.val (.builtin "ValueError.__init__"))
 hg:PySem.W.specialIn K (.ref CS) "__getattribute__" = some (some (.builtin "type.__getattribute__"))
noncomputable def Qj (te:TE):TE:=λσ H Q=>te σ H λx H1=>∃ i:Int,x=.int i/\0<=i/\i<=9/\∀ tx,Q (.str tx) H1
theorem Qk:(Str.empty++("step " : Str)).length<=sizeLine:=by decide +kernel
theorem Ql {i:Int} (i0:0<=i) (i9:i<=9):((Str.empty++("step " : Str))++(toString i:Str)).length<=sizeLine/\(((Str.empty++("step " : Str))++(toString i:Str))++(" cannot be made" : Str)).length<=sizeLine:=by
 rcases (show i=0\/i=1\/i=2\/i=3\/i=4\/i=5\/i=6\/i=7\/i=8\/i=9 by omega) with rfl | rfl | rfl | rfl | rfl | rfl | rfl | rfl | rfl | rfl
 all_goals exact ⟨by decide +kernel,by decide +kernel⟩
section
variable {X:Cx}
theorem Qm {e:Expr} {te:TE} {k1 k2:Nat} {p1 p2 p3 pos:Pos} (he:PE X e te) :
  PE X (.JoinedStr [.Constant (.str "step ") k1 p1,.FormattedValue e (-1) none p2,.Constant (.str " cannot be made") k2 p3] pos) (Qj te):=by
 intro pins s σ H Q I h
 refine wpAny_JoinedStr (Joins_cons (Calls.Constant_str ⟨_,_,rfl,Qk,Joins_cons (FormattedValue_plain ?_)⟩))
 refine wpAny_mono (he pins { s with toks:=s.toks + 1 } σ H (λx H1=>∃ i:Int,x=.int i/\0<=i/\i<=9/\∀ tx,Q (.str tx) H1) (I.tok _) h) (λu s1 hu=>?_) λ_ _ z=>z
 obtain ⟨x,H1,I1,r1,i,ex,i0,i9,q⟩:=hu
 subst ex
 obtain ⟨t,rfl⟩:=(show ∃ t,u=Value.int i t from r1)
 have hd:i.natAbs.log2 < 1920:=by
  have:i.natAbs.log2<=i.natAbs:=Nat.log2_le_self _
  omega
 have hz:=Ql i0 i9
 refine formatField_int_small hd ⟨_,_,rfl,hz.1,Joins_cons (Calls.Constant_str ⟨_,_,rfl,hz.2,Joins_nil ⟨hz.2,?_⟩⟩)⟩
 exact ⟨.str _,H1,I1.tok _,⟨_,rfl⟩,q _⟩
noncomputable def Qn (C:Addr) (ta:TA):TE:=λσ H Q=>ta σ H λvs H1=>∃ e tx,vs=[.ref e,.str tx]/\H1 e=some (vI e C)/\Q .non H1
theorem Qo {C CS f:Addr} {np apos pos:Pos} {a0:Expr} {as:List Expr} {ta:TA} {pl:Sem Bool} (Z:wo X.K X.mg C CS f) (hg:Gl X "SteadyError") (ha:PA X (a0 :: as) ta)
  (hs:starEach (a0 :: as) X.env=(false,eval a0 X.env) :: starEach as X.env:=by rfl) (hpl:(backTo pos (starEach as X.env)).any (·.1)=false:=by rfl)
  (ht:eval (.Call (.Attribute (.Name "SteadyError" np) "__init__" apos) (a0 :: as) [] pos) X.env=(do
   let ov <- eval (.Name "SteadyError" np) X.env
   standAt apos.atName
   let (f,first) <- holding [ov] (getMethod ov "__init__" pl)
   callWith pos f first (backTo pos (starEach (a0 :: as) X.env)) (backToKw pos (keywordEach [] X.env))):=by rfl) :
  PE X (.Call (.Attribute (.Name "SteadyError" np) "__init__" apos) (a0 :: as) [] pos) (Qn C ta):=by
 intro pins s σ H Q I h
 refine PySem.W.methodCall_KW (pl:=pl) (uO I hg Z.mgS ?_ (by decide)) ht
 refine PySem.W.method_cls I.kIn Z.hg (PySem.W.cls_value I.kIn Z.rd Z.fc (by decide +kernel) ?_)
 have hA:=ha pos pins _ σ H _ (I.tok (s.toks + 1)) h
 rw [hs] at hA |-
 refine Calls.callWith_builtin (by show (false || (backTo pos (starEach as X.env)).any (·.1))=false; rw [hpl] <;> rfl) (Calls.evalArgs_plain ?_)
 refine za hA λus s2 ⟨vs,H2,I2,r2,e,tx,ev,he,q⟩=>?_
 subst ev
 obtain ⟨u1,u2,rfl,ru,t,rt⟩:=uZ r2
 cases (show u1=Value.ref e from ru)
 obtain ⟨⟨t0,hx⟩,_⟩:=(show yh X.prog X.w H2 s2.heap e (vI e C) from I2.hok e _ he)
 obtain ⟨bm,N,nm,qn,bs,sn,sub,ab,col,dd,k0,k1,k2,k3,k5,mN,oC,oN,oi,oT⟩:=Wb I2.kIn Z.ci
 refine Qi oT oC hx (λh' t1 hx' keep=>?_) (by rw [sizeLine_eq]; show 1<=16777216; decide)
 have hu:upd H2 e (vI e C)=H2:=by
  funext b
  by_cases z:b=e
  ·rw [z,zO,he]
  ·rw [zl z]
 have J:=I2.write (x:=e) (e:=e) (o:=vI e C) (h':=h') (t':=s2.toks) (by rw [he]; trivial) (.inl rfl) keep ⟨_,hx'⟩ ⟨⟨t1,hx'⟩,⟨_,hx'⟩,λg1 g2 ⟨t2,p⟩ k=>⟨t2,k _ p⟩⟩
 rw [hu] at J
 exact ⟨.non,H2,J,rfl,q⟩
noncomputable def Qp (C:Addr) (ta tv:TE):TS:=λD σ H=>tv σ H λy H1=>ta σ H1 λx H2=>∃ e,x=.ref e/\H2 e=some (vI e C)/\∀ d,H2 d=none->d≠e->D.nx σ (upd (upd H2 e (uK e C d)) d (.xd [("step",y)]))
theorem Qq {C CS f:Addr} {o value:Expr} {ta tv:TE} {pos pos':Pos} (Z:wo X.K X.mg C CS f) (ha:PE X o ta) (hv:PE X value tv) (hs:swapsWith value (some (.Attribute o "step" pos')) pos.line X.env=pure false) :
  PS X (.Assign [.Attribute o "step" pos'] value pos) (Qp C ta tv):=by
 intro pins s σ H D I h
 refine plainObj_wpAny_Assign_Attribute (za (hv pins s σ H _ I h) λu s1 ⟨y,H1,I1,ry,q⟩=>za (ha pins s1 σ H1 _ I1 q) λov s2 ⟨x,H2,I2,rx,e,ex,he,q2⟩=>?_) hs
 subst ex
 obtain rfl:ov=Value.ref e:=rx
 obtain ⟨⟨t0,hx⟩,_⟩:=(show yh X.prog X.w H2 s2.heap e (vI e C) from I2.hok e _ he)
 refine Qh I2.kIn hx Z.ov Z.st Z.sa λh' tk' d hx' hn hf ne keep=>?_
 have J:=I2.write (x:=e) (e:=e) (o:=uK e C d) (h':=h') (t':=tk') (by rw [he]; trivial) (.inl rfl) keep ⟨_,hx'⟩ ⟨⟨t0,hx'⟩,⟨_,hx'⟩,λg1 g2 ⟨t2,p⟩ k=>⟨t2,k _ p⟩⟩
 have hd:H2 d=none:=I2.hok.fresh hf
 refine ⟨σ,_,J.track (e:=d) (o:=.xd [("step",y)]) (by rw [zl ne]; exact hd) (.inr (Heap.get?_none_of_le (Nat.le_trans I2.sz hf))) (λz=>?_) (λx c lk z=>?_) (λp hp z=>?_) ⟨_,hn,λf=>?_⟩,q2 d hd ne⟩
 ·have:=I2.lt
  rw [<- z] at this
  exact absurd (Nat.lt_of_lt_of_le this hf) (Nat.lt_irrefl _)
 ·obtain ⟨v,o,ho,_⟩:=I2.cell x c lk
  have:=Heap.lt_size ho
  rw [z] at this
  exact absurd (Nat.lt_of_lt_of_le this hf) (Nat.lt_irrefl _)
 ·have:=Heap.lt_size (I2.pin p hp).1
  rw [z] at this
  exact absurd (Nat.lt_of_lt_of_le this hf) (Nat.lt_irrefl _)
 ·show yQ (List.lookup f [("step",y)]) (if f = "step" then some u else none)
  by_cases z:f = "step"
  ·rw [if_pos z,z]
   exact ry
  ·rw [if_neg z]
   have hb:(f == ("step" : Str))=false:=beq_eq_false_iff_ne.mpr z
   simp only [List.lookup,hb]
   trivial
end
end L2
namespace L2
open PySem PySem.Spec PyProof.Rows PySem.Builtin PySem.Builtin.ObjectAttr PySem.Builtin.Getset_descriptor Sh
noncomputable def PD (d:Addr):jR:=λvs di=>vs[2]? = some .none/\di=some d
theorem Wc {d:Addr}:jS (PD d):=λvs di v h=>⟨by rw [Array.getElem?_setIfInBounds_ne (by decide)]; exact h.1,h.2⟩
theorem zv.imp {base h:Heap} {l:List Env} {e:Addr} {cls fl:Value} {P P':jR} (i:∀ vs d,P vs d->P' vs d) (x:zv base l e cls P fl h):zv base l e cls P' fl h:=by
 obtain ⟨a,b,c,oe,vs,T,oT,ts,he,hc,hd,hP,r⟩:=x
 exact ⟨a,b,c,oe,vs,T,oT,ts,he,hc,hd,i _ _ hP,r⟩
theorem zv.p0 {base h:Heap} {l:List Env} {e d:Addr} {cls fl:Value} (x:zv base l e cls (PD d) fl h):zv base l e cls P0 fl h:=x.imp λ_ _ z=>z.1
noncomputable def xU (P:Program) (w:World):xk:=λouter H s E ev s'=>∃ (e:Addr) (cls a0:Value) (B:Heap) (H':Hp) (d:Addr),ev=.ref e/\XL P w outer H H' s s' B e cls a0/\zv B outer e cls (PD d) .none s'.heap/\E cls (some d) H'
section
variable {P:Program} {w:World} {K:PySem.W.Frag} {mg:Str->Option Value} {base:Heap} {N:List Str} {qual:Str} {scope:Scope} {f:Addr} {cd:Value} {A:Around} {outer:List Env} {s:Shared} {H:Hp} {E:XK}
theorem Qr {pins:List (Addr × Obj)} {σ:St} {H1:Hp} {s1:Shared} {e C d:Addr} (I:zF (zJ (xU P w) P w K mg base N qual scope f cd A outer s H E) pins σ H1 s1) (he:H1 e=some (uK e C d)) (hn:s.heap.get? e=none) (q:E (.ref C) (some d) (hide [e] H1)) :
  (zJ (xU P w) P w K mg base N qual scope f cd A outer s H E).xe (.ref e) s1:=by
 obtain ⟨⟨t,hx⟩,_⟩:=(show yh P w H1 s1.heap e (uK e C d) from I.hok e _ he)
 have ext:∀ {b:Addr} {o:HO},H1 b=some o->(∀ φ,o≠.ext φ)->b≠e:=λ{b o} hb ho z=>by
  rw [z,he] at hb
  exact ho _ (Option.some.inj hb).symm
 have hid:∀ {b:Addr} {o:HO},H1 b=some o->(∀ φ,o≠.ext φ)->hide [e] H1 b=some o:=λ{b o} hb ho=>(xZ λz=>ext hb ho (List.mem_singleton.mp z)).trans hb
 obtain ⟨as,has⟩:∃ as,as=e :: xD (zJ (xU P w) P w K mg base N qual scope f cd A outer s H E).stack:=⟨_,rfl⟩
 have fr:=PySem.W.funFrames_hide (as:=as) I.stack λenv hv b hb=>by
  rw [has]
  exact List.mem_cons_of_mem _ (List.mem_filterMap.mpr ⟨env,hv,hb⟩)
 have nas:∀ b,b∈as->b=e\/H1 b=none:=λb hb=>by
  rw [has] at hb
  rcases List.mem_cons.mp hb with z | z
  ·exact .inl z
  ·exact .inr (I.stkFree b z)
 have out:∀ b o,s.heap.get? b=some o->b∉xD outer->b∉as:=λb o eb hb z=>by
  rw [has] at z
  rcases List.mem_cons.mp z with z | z
  ·rw [z,hn] at eb
   cases eb
  ·exact QV I eb hb z
 have hok:yZ P w (hide [e] H1) (PySem.W.hideAll s1.heap as):=λa o ea=>by
  have na:=WN ea
  have ea':=yD _ _ ea
  refine (I.hok a o ea').stay (λb u hb r=>PySem.W.hideAll_get _ r λz=>?_) (λb r=>hid r (λ_ z=>nomatch z)) λb xs r=>hid r (λ_ z=>nomatch z)
  rcases nas b z with z | z
  ·rcases hb with hb | hb
   ·exact na (List.mem_singleton.mpr (hb ▸ z))
   ·exact ext hb (λ_ z=>nomatch z) z
  ·rcases hb with hb | hb
   ·rw [hb,ea'] at z
    cases z
   ·rw [hb] at z
    cases z
 refine QU (s:=s1) (base:=PySem.W.hideAll s1.heap as) (P:=PD d) Wc I.ok.frames rfl fr hx (λb o r=>PySem.W.of_hideAll _ r) (PySem.W.hideAll_none _ (by rw [has]; exact List.mem_cons_self)) rfl rfl ⟨rfl,rfl⟩ λh' x1 x4=>?_
 refine ⟨e,.ref C,.none,_,hide [e] H1,d,rfl,⟨I.os,I.bare,λb o eb n hb=>PySem.W.hideAll_get _ (I.base.keep b o eb n hb (by simp [zJ])) (out b o eb hb),λb o eb n hb=>?_,λb o eb n=>?_,λb o eb hb=>?_,λb xs r=>hid (I.base.tups b xs r) (λ_ z=>nomatch z),λb o u r=>hid (I.base.frzs b o u r) (λ_ z=>nomatch z),λb ps r=>?_,hok,x1.p0⟩,x1,q⟩
 ·obtain ⟨sl,e1⟩:=I.base.slot b o eb n hb (by simp [zJ])
  obtain ⟨_,o',ho,nf⟩:=I.funs.mem hb
  rw [e1] at ho
  cases ho
  obtain ⟨sl',e2⟩:=x4 b _ e1 nf
  exact ⟨sl',e2⟩
 ·have z:=I.base.free b o eb n (by simp [zJ])
  unfold hide
  split
  ·rfl
  ·exact z
 ·obtain ⟨o',e1⟩:=I.base.there b o eb (by simp [zJ])
  exact ⟨o',PySem.W.hideAll_get _ e1 (out b o eb hb)⟩
 ·obtain ⟨m,r1⟩:=I.base.tbls b ps r
  exact ⟨m,hid r1 (λ_ z=>nomatch z)⟩
theorem zx.okD {x qual:Str} {st:Stmt} {f:Addr} {fd:FuncData} {N ps:List Str} {k:Nat} {sp:Sp} (F:zx K x qual st f fd) (S:zw N ps (zY st)) (len:∀ vs H Q E,sp vs H Q E->vs.length=ps.length)
  (hbody:∀ (cdv:Value) (A:Around) (outer:List Env) (s:Shared) (H:Hp) (vs:List V) (Q:VK) (E:XK),zh k (A.deeper (envOfC qual (zY st) s.heap.objs.size f cdv))->sp vs H Q E->
   ∃ t,yb (zJ (xU P w) P w K mg base N qual (zY st) f cdv A outer s H E) (yS st) t/\t { nx:=λ_ H'=>Q .non H',rt:=Q } (vQ N vs) H):zL P w K mg base (xU P w) (k + 1) f fd ps sp:=by
 obtain ⟨oc,od,kV,doc,pm,an,cdv,ct,osl,rfl,lk,hcd⟩:=F.ex
 exact k7 lk hcd S len λA outer s H vs Q E hr hsp=>hbody cdv A outer s H vs Q E hr hsp
end
structure xu (P:Program) (w:World) (K:PySem.W.Frag) (mg:Str->Option Value) (base:Heap) (x:Str) (ps:List Str) (k:Nat) (sp:Sp):Prop where
 ex:∃ f fd,zL P w K mg base (xU P w) k f fd ps sp/\mg x=some (.ref f)/\PySem.W.keepIn K (.ref f)=true/\xL K fd ps []
structure jU (P:Program) (w:World) (K:PySem.W.Frag) (mg:Str->Option Value) (base:Heap) (C CS:Addr) (ps:List Str) (k:Nat) (sp:Sp):Prop where
 ex:∃ f fd,zL P w K mg base zd k f fd ps sp/\wo K mg C CS f/\xL K fd ps []
section
variable {P:Program} {w:World} {K:PySem.W.Frag} {mg:Str->Option Value} {base:Heap} {x:Str} {ps:List Str} {j k:Nat} {sp:Sp} {C CS:Addr}
theorem xu.mono (F:xu P w K mg base x ps j sp) (h:j<=k:=by decide):xu P w K mg base x ps k sp:=by
 obtain ⟨f,fd,a,b,c,d⟩:=F.ex
 exact ⟨f,fd,a.mono h,b,c,d⟩
theorem jU.mono (F:jU P w K mg base C CS ps j sp) (h:j<=k:=by decide):jU P w K mg base C CS ps k sp:=by
 obtain ⟨f,fd,a,b,c⟩:=F.ex
 exact ⟨f,fd,a.mono h,b,c⟩
end
section
variable {M:Model} {A:Around} {E:Value->Shared->Prop} {env:Env} {nm qn:Str} {C N:Addr} {bs bm:List Value} {hdct:Bool} {sn:List Str} {sub:List Value} {ab:Bool} {col:Option Bool} {dd:Option Addr} {k0 k1 k2 k3 k5:Option Value} {newId:String}
theorem Qs {s:Shared} {x:Sem Value} {Q:Flow->Shared->Prop} (hb:bm.contains (.type "BaseException")=true) (hh:A.handled=none)
  (h:wpAny M A x (λv s₁=>∃ e t d,v=.ref e/\s₁.heap.get? C=some (excClassObj nm qn C N bs bm hdct sn sub ab col dd k0 k1 k2 k3 k5 newId)/\s₁.heap.get? e=some { cls:=.ref C,dict:=some d,data:=.fields #[.ref t,.none,.none,.none,.bool false,.none] }/\E (.ref e) s₁) E s) :
  wpAny M A (raiseStmt env (some x) none) Q E s:=by
 have hcB:(Value.ref C :: bm).contains (.type "BaseException")=true:=by rw [List.contains_cons,hb,Bool.or_true]
 unfold raiseStmt
 refine wpAny_bind (wpAny_mono h (λv s₁ h₁=>?_) λ_ _ x=>x)
 obtain ⟨e,t,d,rfl,hC,he,hE⟩:=h₁
 obtain ⟨hp,g,dr,tk,os⟩:=s₁
 repeat (first | with_reducible refine wpAny_loadPart_at he ?_ | with_reducible refine wpAny_loadPart_at hC ?_ | (with_reducible refine wpAny_isSubtype_exc hC ?_; rw [hcB]) | wp_step)
 exact wpAny_raiseNew_none hh hE
end
noncomputable def Qt (C:Addr) (sp:Sp) (E:XK) (ta:TA):TS:=λ_ σ H=>ta σ H λvs H1=>vs.length<=10/\∀ e,H1 e=none->
 sp (.ref e :: vs) (upd H1 e (vI e C)) (λv H2=>v=.non/\∃ d,H2 e=some (uK e C d)/\E (.ref C) (some d) (hide [e] H2)) E0
section
variable {P:Program} {w:World} {K:PySem.W.Frag} {mg:Str->Option Value} {base:Heap} {N:List Str} {qual:Str} {scope:Scope} {f:Addr} {cd:Value} {A:Around} {outer:List Env} {s0:Shared} {H0:Hp} {E:XK}
theorem Qu {C CS:Addr} {ps:List Str} {k:Nat} {sp:Sp} {x:Str} {np cpos pos:Pos} {e0:Expr} {es:List Expr} {ta:TA} (F:jU P w K mg base C CS ps k sp) (hm:mg x=some (.ref C)) (hr:zh (k + 1) (zJ (xU P w) P w K mg base N qual scope f cd A outer s0 H0 E).A) (hg:Gl (zJ (xU P w) P w K mg base N qual scope f cd A outer s0 H0 E) x) (ha:PA (zJ (xU P w) P w K mg base N qual scope f cd A outer s0 H0 E) (e0 :: es) ta)
  (hdb:(x == ("__debug__" : Str))=false:=by decide) (he:starEach (e0 :: es) (zJ (xU P w) P w K mg base N qual scope f cd A outer s0 H0 E).env=(false,eval e0 (zJ (xU P w) P w K mg base N qual scope f cd A outer s0 H0 E).env) :: starEach es (zJ (xU P w) P w K mg base N qual scope f cd A outer s0 H0 E).env:=by rfl) (hpl:(backTo cpos (starEach es (zJ (xU P w) P w K mg base N qual scope f cd A outer s0 H0 E).env)).any (·.1)=false:=by rfl) :
  PS (zJ (xU P w) P w K mg base N qual scope f cd A outer s0 H0 E) (.Raise (some (.Call (.Name x np) (e0 :: es) [] cpos)) none pos) (Qt C sp E ta):=by
 intro pins s σ H D I h
 obtain ⟨fI,fd,Fk,Z,hb⟩:=F.ex
 obtain ⟨bm,N',nm,qn,bs,sn,sub,ab,col,dd,k0,k1,k2,k3,k5,mN,oC,oN,oi,oT⟩:=Wb I.ok.mod.kin Z.ci
 have hp:(backTo cpos (starEach (e0 :: es) (zJ (xU P w) P w K mg base N qual scope f cd A outer s0 H0 E).env)).any (·.1)=false:=by
  rw [he]
  show (false || (backTo cpos (starEach es (zJ (xU P w) P w K mg base N qual scope f cd A outer s0 H0 E).env)).any (·.1))=false
  rw [hpl]
  rfl
 rw [arm_exec_Raise]
 refine wpAny_bind (wpAny_standAt (Qs (C:=C) (nm:=nm) (qn:=qn) (N:=N') (bs:=bs) (bm:=bm) (hdct:=true) (sn:=sn) (sub:=sub) (ab:=ab) (col:=col) (dd:=dd) (k0:=k0) (k1:=k1) (k2:=k2) (k3:=k3) (k5:=k5) (newId:="ValueError.__new__") (oT.hasType PySem.F.excBase_ValueError.hasBase) (I.ok.hd rfl)
  (wpAny_bind (wpAny_mono (wpAny_Call_ofName (uO I hg hm ?_ hdb)) (λv s₃ h₃=>wpAny_bind (wpAny_standAt (wpAny_pure h₃))) λ_ _ x=>x))))
 have ha':=ha cpos pins s σ H _ I h
 unfold callWith
 refine wpAny_bind (wpAny_holding (wpAny_mono (Q:=λa s₂=>a.kw=[]/\∃ vs H1,zF (zJ (xU P w) P w K mg base N qual scope f cd A outer s0 H0 E) pins σ H1 s₂/\zM vs a.pos/\vs.length<=10/\∀ e,H1 e=none->
  sp (.ref e :: vs) (upd H1 e (vI e C)) (λv H2=>v=.non/\∃ d,H2 e=some (uK e C d)/\E (.ref C) (some d) (hide [e] H2)) E0) ?_ (λa s₂ h₂=>wpAny_bind (wpAny_standAt ?_)) λ_ _ x=>x))
 ·rw [he] at ha' |-
  exact Calls.evalArgs_plain (za ha' λus s2 ⟨vs,H1,I2,r,hl,qE⟩=>⟨rfl,vs,H1,I2,r,hl,qE⟩)
 obtain ⟨apos,akw⟩:=a
 obtain ⟨hkw,vs,H1,I2,r,hl,qE⟩:=h₂
 obtain rfl:akw=[]:=hkw
 obtain ⟨hq,g,d,tk,os⟩:=s₂
 simp only [hp]
 have oC2:=I2.bk _ _ oC
 refine wpAny_bind (wpAny_keeperOf_exc oC2 ?_)
 obtain ⟨oI,hoI,hoc⟩:∃ oI,hq.get? fI=some oI/\oI.cls=.type "function":=by
  have z:=beq_iff_eq.mp Z.fn
  unfold PySem.W.typeIn at z
  obtain ⟨o,q,z⟩:=Option.map_eq_some_iff.mp (show Option.map (λx=>x.cls) (List.lookup fI K)=_ from z)
  exact ⟨o,I2.kIn _ _ q,z⟩
 refine wpAny_bind (Qf (oT.keeps I2.bk) oC2 (oN.keeps I2.bk) oi hoI hoc (λh' e hm'=>?_) (by have:=r.length; rw [List.nil_append,sizeLine_eq]; show apos.length<=_; have z:vs.length=apos.length:=this; omega))
 have fresh:∀ {b:Addr} {o:Obj},hq.get? b=some o->b≠e:=λ{b o} q z=>by
  rw [z,hm'.new] at q
  cases q
 have hn:s0.heap.get? e=none:=by
  cases q:s0.heap.get? e with
  | none=>rfl
  | some o=>
   obtain ⟨o',z⟩:=I2.base.there e o q (by simp [zJ])
   exact absurd rfl (fresh z)
 obtain ⟨t,ht,_,_⟩:=hm'.there
 have hH:H1 e=none:=I2.hok.none_of hm'.new
 have I3:zF (zJ (xU P w) P w K mg base N qual scope f cd A outer s0 H0 E) pins σ (upd H1 e (vI e C)) ⟨h',g,d,tk,os⟩:=(I2.kept (t':=tk) hm'.keeps).track hH (.inr hn) (λz=>by
   obtain ⟨_,⟨o,_,_,ho,_⟩,_⟩:=I2.loc
   exact fresh ho z.symm) (λy c q z=>by
   obtain ⟨v,o,ho,_⟩:=I2.cell y c q
   exact fresh ho z) (λp hp=>fresh (I2.pin p hp).1) ⟨⟨t,ht⟩,⟨_,ht⟩,λg1 g2 ⟨t2,p⟩ k=>⟨t2,k _ p⟩⟩
 have r2:zM (V.ref e :: vs) (Value.ref e :: apos):=.cons rfl r
 have hl2:(Value.ref e :: apos++[]).length=ps.length:=by
  rw [List.append_nil,<- r2.length]
  exact Fk.len _ _ _ _ (qE e hH)
 have bb:=hb ⟨h',g,d,tk,os⟩ (Value.ref e :: apos) I3.kIn hl2
 rw [List.append_nil] at bb
 refine wpAny_call (codeAny_mono (Fk.run _ _ _ _ ⟨Value.ref e :: apos,[]⟩ _ _ _ E0 (hr.make C apos []) (I3.env0.make C apos []) bb r2 (qE e hH)) λr s' hq'=>?_)
 cases r with
 | error ev=>exact hq'.elim
 | ok fl=>
  cases fl with
  | next=>exact hq'.elim
  | brk=>exact hq'.elim
  | cont=>exact hq'.elim
  | ret u=>
   obtain ⟨v,H4,I4,rv,ev,d',he',q⟩:=I3.after hq'
   subst ev
   refine ⟨rv,wpAny_bind (wpAny_holding (wpAny_point (wpAny_pure ?_)))⟩
   obtain ⟨⟨t4,hx4⟩,_⟩:=(show yh P w H4 s'.heap e (uK e C d') from I4.hok e _ he')
   exact ⟨e,t4,d',rfl,I4.bk _ _ oC,hx4,Qr I4 he' hn q⟩
end
end L2
namespace L2
open PySem PySem.Spec PyProof.Rows PySem.Builtin PySem.Builtin.ObjectAttr PySem.Builtin.Getset_descriptor Sh
theorem Qv {h:Heap} {d:Addr} {m:Str->Option Value} {n:Str} {v:Value} (G:h.Ns1 d m) (e:m n=some v):∃ o,h.get? d=some o/\PySem.W.lookIn n o=some (some v):=by
 obtain ⟨o,es,ep,ho,hd,_,_,hf⟩:=G
 refine ⟨o,ho,?_⟩
 have z:=hf n
 rw [e] at z
 unfold nsFind findBy at z
 rw [<- Array.find?_toList] at z
 unfold PySem.W.lookIn
 rw [hd]
 dsimp only
 cases q:es.toList.find? (·.key.isStr n) with
 | none=>rw [q] at z; cases z
 | some en=>rw [q] at z; cases z; rfl
section
variable {prog:Program} {w:World} {A:Around} {E:Value->Shared->Prop} {K:PySem.W.Frag} {s:Shared} {e C d:Addr} {oe:Obj} {vs:Array Value} {m:Str->Option Value} {v:Value}
theorem Qw {b:Bool} {Q:Value->Shared->Prop} (X:K.In s.heap) (he:s.heap.get? e=some oe) (hc:oe.cls=.ref C) (hd:oe.data=.fields vs) (hdi:oe.dict=some d) (G:s.heap.Ns1 d m) (ev:m "step" = some v) (hh:PySem.W.handedIn v=true)
  (Z:xJ K C) (hs:PySem.W.findIn K (.ref C) "step" = some none) (hov:uy K C=true) (h:Q v { s with toks:=s.toks + 1 }):wpAny (model prog w) A (getAttr (.ref e) "step" b) Q E s:=by
 obtain ⟨hp,g,dr,t,os⟩:=s
 obtain ⟨od,hod,hlk⟩:=Qv G ev
 obtain ⟨cd,hcd,ho⟩:=PySem.W.any_some hov
 obtain ⟨_,hdict⟩:=(Bool.and_eq_true _ _).mp ho
 have I:PySem.W.InstAt hp e oe C (some od):=⟨he,hc,by unfold PySem.W.notCls; rw [hd],by rw [hdi]; exact hod⟩
 have hf:PySem.W.findObj K C (some od) "step" = some (.value v):=by
  unfold PySem.W.findObj PySem.W.ownOf
  rw [hcd,hs]
  simp only [Option.bind_some,hdict,if_true,hlk]
 have L0:=I.type (M:=model prog w)
 have L1:=PySem.W.looks_findIn (M:=model prog w) X Z.ga
 have L2:=PySem.W.looks_findIn (M:=model prog w) X Z.gt
 have L3:=PySem.W.looks_find (M:=model prog w) X I hf
 have hx2:(Value.builtin "BaseException.__getattribute__" == Value.builtin "object.__getattribute__")=false:=by decide +kernel
 have f3:bindSpecial (.builtin "BaseException.__getattribute__") (.ref e)=pure (.builtin "BaseException.__getattribute__",[.ref e]):=by
  have hop:withoutEnding? "BaseException.__getattribute__" "#opaque" = none:=by decide +kernel
  have hdat:withoutEnding? "BaseException.__getattribute__" "#data" = none:=by decide +kernel
  have hk:builtinKind "BaseException.__getattribute__" = some .slot:=by decide +kernel
  simp only [bindSpecial,typeOf,builtinType,hop,hdat,hk]
  rfl
 unfold getAttr getAttrBy
 refine wpAny_bind (wpAny_mkText (wpAny_holding (wpAny_bind (L0.at (wpAny_bind (L1.at ?_))))))
 dsimp only
 rw [hx2,Bool.and_false,if_neg Bool.false_ne_true]
 unfold getAttrByItsOwn hookBefore
 refine wpAny_bind ?_
 rw [if_pos (show onTheHeap (Value.ref C)=true from rfl)]
 refine L2.at ?_
 unfold callGetattribute
 rw [show (b && onTheHeap (Value.builtin "BaseException.__getattribute__"))=false from Bool.and_false _,if_neg Bool.false_ne_true]
 unfold boundAndCalled
 rw [f3]
 refine wpAny_bind (wpAny_attempt (wpAny_holding (wpAny_bind (wpAny_pure ?_))))
 refine wpAny_call (codeAny_call_builtin (by decide +kernel) F.entry_bexc_ga (WZ (s:=⟨hp,g,dr,t + 1,os⟩) X he hc Z ?_))
 unfold Builtin.«object.__getattribute__»
 refine wpAny_bind (wpAny_pure ?_)
 refine wpAny_bind (wpAny_pure ?_)
 refine wpAny_bind (L0.at (wpAny_bind (L3.at ?_)))
 refine wpAny_pure ?_
 show wpAny _ _ (handedOut v) _ _ _
 rw [PySem.W.handedOut_of hh]
 exact wpAny_pure h
end
noncomputable def Qx (C:Addr) (ta:TE):TE:=λσ H Q=>ta σ H λx H1=>∃ e d y,x=.ref e/\H1 e=some (vJ e C d)/\H1 d=some (.xd [("step",y)])/\Q y H1
section
variable {X:Cx}
theorem Qy {C:Addr} {e:Expr} {ta:TE} {pos:Pos} (Z:xJ X.K C) (hs:PySem.W.findIn X.K (.ref C) "step" = some none) (hov:uy X.K C=true) (he:PE X e ta) (hb:attributeBase e "step" X.env (eval e X.env)=eval e X.env) :
  PE X (.Attribute e "step" pos) (Qx C ta):=by
 intro pins s σ H Q I h
 refine XS hb (za (he pins s σ H _ I h) λu s1 ⟨x,H1,I1,rx,a,d,y,ex,ea,ed,q⟩=>?_)
 subst ex
 obtain rfl:u=Value.ref a:=rx
 obtain ⟨⟨oe,vs,h1,h2,h3,_,h5⟩,_⟩:=(show yh X.prog X.w H1 s1.heap a (vJ a C d) from I1.hok a _ ea)
 obtain ⟨mA,G,r⟩:=(show yh X.prog X.w H1 s1.heap d (.xd [("step",y)]) from I1.hok d _ ed)
 obtain ⟨v,hv,rv⟩:=yQ.some_of (v:=y) (o:=mA "step") (r "step")
 exact Qw I1.kIn h1 h2 h3 h5 G hv (XR rv) Z hs hov ⟨y,H1,I1.tok _,rv,q⟩
noncomputable def uz (K:PySem.W.Frag):List V->Hp->VK->Prop:=λxs H Q=>∃ e C d c b,xs=[.ref e,.ref c]/\H e=some (vJ e C d)/\xJ K C/\PySem.W.kitOne K (.ref C) (.ref c)=some b/\Q (.bl b) H
theorem jV:yw X (.builtin "isinstance") (uz X.K):=by
 intro pins s σ H xs us Q I r h
 obtain ⟨e,C,d,c,b,rfl,he,Z,kx,q⟩:=h
 obtain ⟨u,v,rfl,ru,rv⟩:=uZ r
 cases (show v=Value.ref c from rv)
 cases (show u=Value.ref e from ru)
 obtain ⟨⟨oe,vs,h1,h2,_⟩,_⟩:=(show yh X.prog X.w H s.heap e (vJ e C d) from I.hok e _ he)
 exact PySem.W.kia_one (Qc Z) I.kIn ⟨oe,h1,h2⟩ kx (λz=>nomatch z) λtk=>⟨.bl b,H,I.tok tk,rfl,q⟩
noncomputable def We (K:PySem.W.Frag):List V->Hp->VK->Prop:=λxs H Q=>∃ e C d c,xs=[.ref e,.ty c]/\H e=some (vJ e C d)/\PySem.W.kitOne K (.ref C) (.type c)=some true/\Q (.bl true) H
theorem Qz:yw X (.builtin "isinstance") (We X.K):=by
 intro pins s σ H xs us Q I r h
 obtain ⟨e,C,d,c,rfl,he,kx,q⟩:=h
 obtain ⟨u,v,rfl,ru,rv⟩:=uZ r
 cases (show v=Value.type c from rv)
 cases (show u=Value.ref e from ru)
 obtain ⟨⟨oe,vs,h1,h2,_⟩,_⟩:=(show yh X.prog X.w H s.heap e (vJ e C d) from I.hok e _ he)
 exact QW I.kIn h1 h2 kx λtk=>⟨.bl true,H,I.tok tk,rfl,q⟩
noncomputable def qQ (K:PySem.W.Frag):R2:=λx y H Q=>∃ (b:Bool) (l:Addr) (bs:List Bool),x=.bl b/\y=.ref l/\zE K H l (bs.map V.bl)/\Q (.bl (bs.any (· == b))) H
theorem Q0:yU X (compareOp .In) (qQ X.K):=by
 intro pins s σ H x y v u Q I rx ry h
 obtain ⟨b,l,bs,rfl,rfl,hq,q⟩:=h
 cases (show v=Value.bool b from rx)
 cases (show u=Value.ref l from ry)
 obtain ⟨its,rv,pl,hz⟩:=I.list hq
 obtain rfl:=Wa rv
 refine SeqAt.in_listAt (λv=>match v with | .bool a=>a == b | _=>false) pl.isList (λy hy=>?_) ?_
 ·obtain ⟨a,_,rfl⟩:=List.mem_map.mp (show y∈bs.map Value.bool by simpa using hy)
  exact SeqAt.EqAt.bool_bool a b
 ·refine ⟨.bl _,H,I,?_,q⟩
  show Value.bool _=Value.bool _
  rw [<- Array.any_toList,List.any_map]
  rfl
end
noncomputable def qR (X:Cx) (ex:Expr) (t:XK->TE):Prop:=
 ∀ (pins:List (Addr × Obj)) (s:Shared) (σ:St) (H:Hp) (Q:VK) (E:XK),zF X pins σ H s->t E σ H Q->
  wpAny (model X.prog X.w) X.A (eval ex X.env) (EP X pins σ Q) (λev s'=>∃ (s1:Shared) (H1 H2:Hp) (e:Addr) (cls a0:Value) (B:Heap) (d:Addr),zF X pins σ H1 s1/\ev=.ref e/\XL X.prog X.w X.stack H1 H2 s1 s' B e cls a0/\zv B X.stack e cls (PD d) .none s'.heap/\E cls (some d) H2) s
theorem Q3 {X:Cx} {x:Str} {ps:List Str} {k:Nat} {sp:Sp} {e:Expr} {es:List Expr} {t:TA} {p pos:Pos} (F:xu X.prog X.w X.K X.mg X.base x ps k sp) (hr:zh k X.A) (hg:Gl X x) (ha:PA X.nox (e :: es) t)
  (hdb:(x == ("__debug__" : Str))=false:=by decide) (he:starEach (e :: es) X.env=(false,eval e X.env) :: starEach es X.env:=by rfl) (hpl:(backTo pos (starEach es X.env)).any (·.1)=false:=by rfl) :
  qR X (.Call (.Name x p) (e :: es) [] pos) (λE=>gI sp [] E t):=by
 intro pins s σ H Q E I h
 obtain ⟨f,fd,Fk,hm,hk,hb⟩:=F.ex
 refine wpAny_Call_Name_kw (uO I hg hm ?_ hdb)
 refine PySem.W.callWith_K (h₀:=X.base) I.ok.mod.kin hk (wpAny_mono (ha pos pins s σ H _ (I.wish _) h) (λus s1 ⟨vs,H1,I1,r,q⟩=>⟨I1.unwish.kIn,?_⟩) λ_ _ z=>False.elim z) he hpl
 have I1':=I1.unwish
 have r2:zM (vs++[]) (us++[]):=r.append .nil
 have hl:(us++[]).length=ps.length:=by rw [<- r2.length]; exact Fk.len _ _ _ _ q
 refine wpAny_call (codeAny_mono (Fk.run X.A X.stack s1 H1 ⟨us,[]⟩ (us++[]) (vs++[]) Q E hr I1'.env0 (hb s1 us I1'.kIn hl) r2 q) λr s' hq=>?_)
 cases r with
 | error ev=>
  obtain ⟨ee,cls,a0,B,H2,d,rfl,x,fl,qE⟩:=hq
  exact ⟨s1,H1,H2,ee,cls,a0,B,d,I1',rfl,x,fl,qE⟩
 | ok fl=>
  cases fl with
  | ret u=>exact I1'.after hq
  | next=>exact False.elim hq
  | brk=>exact False.elim hq
  | cont=>exact False.elim hq
noncomputable def qS (K:PySem.W.Frag) (Cb:Addr) (i:Nat) (tb:XK->TE) (th:TS):TS:=λD σ H=>
 tb (λcls od H2=>∃ C d,cls=.ref C/\od=some d/\PySem.W.exmOne K (.ref C) (.ref Cb)=some true/\∀ e,H2 e=none->
  th { nx:=λσ' H'=>D.nx (σ'.set i none) H',rt:=D.rt,bk:=λσ' H'=>D.bk (σ'.set i none) H',ct:=λσ' H'=>D.ct (σ'.set i none) H' } (σ.set i (some (.ref e))) (upd H2 e (vJ e C d))) σ H λ_ H1=>D.nx σ H1
theorem Q4 {X:Cx} {Cb:Addr} {x n:Str} {i:Nat} {call:Expr} {tb:XK->TE} {th:TS} {b₀:Stmt} {suite:List Stmt} {np hpos epos pos:Pos} (hg:Gl X x) (hm:X.mg x=some (.ref Cb)) (hc:X.calm=true)
  (hf:X.env.frame=some X.env.locals) (hst:X.stack=X.env :: X.outer) (hN:X.N.Nodup) (hi:X.N[i]? = some n) (hn:X.env.scope.names.lookup n=some .local) (hb:qR X call tb) (hh:∀ e,yb (X.mark e) (b₀ :: suite) th)
  (hdb:(x == ("__debug__" : Str))=false:=by decide) (hs:swapsWith call none epos.line X.env=pure false:=by rfl) :
  PS X (.Try [.Expr call epos] [.ExceptHandler (some (.Name x np)) (some n) (b₀ :: suite) hpos] [] [] pos) (qS X.K Cb i tb th):=by
 intro pins s σ H D I h
 refine wpAny_Try_except (wpAny_execs_cons (wpAny_mono (wpAny_Expr_any (Q:=λfl s'=>fl=.next/\∃ H',zF X pins σ H' s'/\D.nx σ H') (wpAny_mono (hb pins s σ H _ _ I h) (λv s1 ⟨y,H1,I1,r1,q1⟩=>⟨rfl,H1,I1,q1⟩) λ_ _ z=>z) I.quiet hs) (λfl s1 ⟨e1,H1,I1,q1⟩=>?_) λev s1 hx=>?_))
 ·subst e1
  exact wpAny_execs_nil (wpAny_execs_nil ⟨σ,H1,I1,q1⟩)
 obtain ⟨s0,H1,H2,e,cls,a0,B,d0,I0,rfl,xl,fl,C,d,rfl,ed,hx,q⟩:=hx
 cases ed
 have hfr:X.A.frames=some (X.env :: X.outer):=by rw [<- hst]; exact I.ok.frames
 have xl':XL X.prog X.w (X.env :: X.outer) H1 H2 s0 s1 B e (.ref C) a0:=by rw [<- hst]; exact xl
 have fl':zv B (X.env :: X.outer) e (.ref C) (PD d0) .none s1.heap:=by rw [<- hst]; exact fl
 have behind:∀ {h':Heap} {tk:Nat},XL X.prog X.w (X.env :: X.outer) H1 H2 s0 { s1 with heap:=h',toks:=tk } B e (.ref C) a0->zF X pins σ H2 { s1 with heap:=h',toks:=tk }:=λ{h' tk} z=>by
  have z':XL X.prog X.w X.stack H1 H2 s0 { s1 with heap:=h',toks:=tk } B e (.ref C) a0:=by rw [hst]; exact z
  exact I0.call' (ch:=[]) z'.os z'.un z'.held z'.bare λb hb=>absurd hb (by simp)
 refine qP Wc hfr hf fl' λh4 held4 up4=>?_
 refine Zw held4 λh5 fly5 up5=>?_
 have x5:=xl'.move (tk:=s1.toks) fly5.p0 (up4.trans up5)
 have I5:=behind x5
 refine wpAny_handleBy_cons (codeAny_handlers_test (uO (I5.mark e) hg hm ?_ hdb)) (by intro q; cases q)
 obtain ⟨oe,ws,he,hcl,hd,_⟩:=zv.first fly5.p0
 have LT:PySem.W.Looks (model X.prog X.w) h5 (typeOf (.ref e)) (.ref C):=hcl ▸ (PySem.W.Looks.ld he).andThen .now
 refine (PySem.W.exm_one (K:=X.K) I5.kIn LT hx).here (codeAny_handlers_suite_as ?_)
 refine Zw (s:={ s1 with heap:=h5 }) fly5 λh6 fly6 up6=>?_
 have x6:=xl'.move (tk:=s1.toks) fly6.p0 ((up4.trans up5).trans up6)
 have I6:=behind x6
 obtain ⟨_,_,_,oe6,ws6,_,_,_,he6,hcl6,hd6,⟨h26,hd26⟩,_⟩:=fly6
 obtain ⟨new,hH,nfr⟩:=xl.new
 have eL:e≠X.env.locals:=λz=>nfr (by
  rw [hst]
  unfold xD
  rw [List.filterMap_cons,hf,z]
  exact List.mem_cons_self)
 have J6:zF X pins σ (upd H2 e (vJ e C d0)) { s1 with heap:=h6,toks:=s1.toks }:=by
  refine I6.track hH ?_ eL (λy c q z=>?_) (λp hp z=>?_) ⟨⟨oe6,ws6,he6,hcl6,hd6,h26,hd26⟩,⟨oe6,he6⟩,λg1 g2 ⟨o,v,p1,p2,p3⟩ k=>⟨o,v,k _ p1,p2,p3⟩⟩
  ·by_cases hx:e∈X.ex
   ·exact .inl hx
   ·refine .inr ?_
    cases q:X.s₀.heap.get? e with
    | none=>rfl
    | some o=>
     obtain ⟨o',z⟩:=I0.base.there e o q hx
     rw [new] at z
     cases z
  ·obtain ⟨v,o,ho,_⟩:=I0.cell y c q
   rw [z,new] at ho
   cases ho
  ·have z1:=(I0.pin p hp).1
   rw [z,new] at z1
   cases z1
 refine jf (X:=X.mark e) (J6.mark e) hN hi (.inl hn) (v:=.ref e) rfl (λs7 I7=>?_) (.inr hn)
 refine wpAny_mono (hh e pins s7 _ _ _ I7 (q e hH)) (λfl s8 h8=>?_) λ_ _ z=>False.elim z
 have hcls:(X.env.scope.kind == .class || (X.env.scope.kind == .module && X.env.locals != X.env.globals))=false:=by rw [I.ok.kind]; rfl
 have goes:∀ {σ8:St} {H8:Hp} {R:Shared->Prop},zF (X.mark e) pins σ8 H8 s8->(∀ s9,zF X pins (σ8.set i none) H8 s9->R s9)->wpAny (model X.prog X.w) X.A (do bindName X.env n .none; unbindBehindTheSuite X.env n hpos) (λ_ s9=>R s9) X.xe s8:=λ{σ8 H8 R} I8 q=>by
  have I8':zF X pins σ8 H8 s8:=I8.unmark λz=>I.ok.hd z
  obtain ⟨m8,hn8,hl8⟩:=id I8'.loc
  refine wpAny_nameGoes_keeps hn hn8 hcls λh9 v9 hn9 sb9=>?_
  exact q _ (I8'.gone hN hi hl8 hn9 λb o nb q=>(sb9.2 b nb).trans q)
 cases fl with
 | ret u=>obtain ⟨v,σ8,H8,I8,r8,q8⟩:=h8; exact goes I8 λs9 I9=>⟨v,_,H8,I9,r8,q8⟩
 | brk=>obtain ⟨σ8,H8,I8,q8⟩:=h8; exact goes I8 λs9 I9=>⟨_,H8,I9,q8⟩
 | cont=>obtain ⟨σ8,H8,I8,q8⟩:=h8; exact goes I8 λs9 I9=>⟨_,H8,I9,q8⟩
 | next=>obtain ⟨σ8,H8,I8,q8⟩:=h8; exact goes I8 λs9 I9=>⟨_,H8,I9,q8⟩
noncomputable abbrev Wf (sp:Sp):Sp:=λvs H Q _=>sp vs H Q (λ_ _ _=>False)
theorem xu.calm {P:Program} {w:World} {K:PySem.W.Frag} {mg:Str->Option Value} {base:Heap} {x:Str} {ps:List Str} {k:Nat} {sp:Sp} (F:xu P w K mg base x ps k sp):Fn P w K mg base x ps k (Wf sp):=by
 obtain ⟨f,fd,a,b,c,d⟩:=F.ex
 refine ⟨f,fd,⟨λvs H Q E h=>a.len _ _ _ _ h,λA outer s H args us vs Q E hr he hb hv hs=>?_⟩,b,c,d⟩
 refine codeAny_mono (a.run A outer s H args us vs Q (λ_ _ _=>False) hr he hb hv hs) λr s' h=>?_
 cases r with
 | ok o=>cases o <;> exact h
 | error ev=>
  obtain ⟨e,cls,a0,B,H',_,_,_,_,z⟩:=h
  exact z.elim
end L2
set_option linter.all false
namespace Sh
noncomputable def bt:List (Int × Int)->Int
 | []=>1
 | p :: ps=>p.2 * bt ps
noncomputable def tp:List Int->List (Int × Int)->Int
 | w :: ws,p :: ps=>w * p.1 * bt ps + p.2 * tp ws ps
 | _,_=>0
theorem Wg:∀ (ws:List Int) (ps:List (Int × Int)) (t b:Int),ws.length=ps.length->
  (ws.zip ps).foldl xf (t,b)=(t * bt ps + b * tp ws ps,b * bt ps)
 | [],[],t,b,_=>by simp [bt,tp]
 | w :: ws,p :: ps,t,b,h=>by
  simp only [List.zip_cons_cons,List.foldl_cons,xf]
  rw [Wg ws ps _ _ (by simpa using h)]
  simp only [bt,tp,Prod.mk.injEq]
  constructor <;> grind
theorem gi {ws:List Int} {ps:List (Int × Int)} (h:ws.length=ps.length):xP ws ps=(tp ws ps,bt ps):=by
 unfold xP
 rw [Wg ws ps 0 1 h]
 simp
theorem u4:∀ {ps:List (Int × Int)},(∀ p∈ps,0 < p.2)->0 < bt ps
 | [],_=>by simp [bt]
 | p :: ps,h=>Int.mul_pos (h p (by simp)) (u4 λq m=>h q (by simp [m]))
noncomputable def vz:List Int->List (List Int)->List Int->List (Int × Int)->Int
 | r :: rs,c :: cs,a :: as,ps=>r * (tp c ps + a * bt ps) + vz rs cs as ps
 | _,_,_,_=>0
inductive u5 (d:Int) (ps:List (Int × Int)):List (List Int)->List Int->List (Int × Int)->Prop
 | nil:u5 d ps [] [] []
 | cons {c cs a as q qs}:0 < q.2->q.1 * (bt ps * d)=(tp c ps + a * bt ps) * q.2->u5 d ps cs as qs->u5 d ps (c :: cs) (a :: as) (q :: qs)
theorem u5.pos {d:Int} {ps:List (Int × Int)} {cs as qs} (h:u5 d ps cs as qs):∀ p∈qs,0 < p.2:=by
 induction h with
 | nil=>simp
 | cons h1 _ _ ih=>
  intro p m
  rcases List.mem_cons.mp m with rfl | m
  ·exact h1
  ·exact ih p m
theorem u5.tp {d:Int} {ps:List (Int × Int)} {cs as qs} (h:u5 d ps cs as qs):∀ {rs:List Int},rs.length=qs.length->tp rs qs * (bt ps * d)=vz rs cs as ps * bt qs:=by
 induction h with
 | nil=>intro rs h; cases rs with
  | nil=>simp [Sh.tp,vz]
  | cons=>simp at h
 | @cons c cs a as q qs h1 h2 h3 ih=>
  intro rs h
  cases rs with
  | nil=>simp at h
  | cons r rs=>
   have:=ih (rs:=rs) (by simpa using h)
   simp only [Sh.tp,vz,bt]
   grind
theorem v0:∀ (ps us:List (Int × Int)),bt (ps++us)=bt ps * bt us
 | [],us=>by simp [bt]
 | p :: ps,us=>by simp only [List.cons_append,bt,v0 ps us]; grind
theorem u6:∀ (ws:List Int) (ps:List (Int × Int)) (vs:List Int) (us:List (Int × Int)),ws.length=ps.length->tp (ws++vs) (ps++us)=tp ws ps * bt us + bt ps * tp vs us
 | [],[],vs,us,_=>by simp [tp,bt]
 | w :: ws,p :: ps,vs,us,h=>by
  have:=u6 ws ps vs us (by simpa using h)
  simp only [List.cons_append,tp,bt,this,v0]
  grind
end Sh
set_option linter.all false
namespace Sh
noncomputable def xK (nx pu:List Int) (st ad dv:Int) (p us:List (Int × Int)) (s:Int × Int):Int × Int:=
 (zZ (tp (nx++pu++[st]) (p++us++[s]) + ad * bt (p++us++[s])) (bt (p++us++[s]) * dv),zR (tp (nx++pu++[st]) (p++us++[s]) + ad * bt (p++us++[s])) (bt (p++us++[s]) * dv))
theorem Wi {nx pu:List Int} {st:Int} {p us:List (Int × Int)} {s:Int × Int} (h1:nx.length=p.length) (h2:pu.length=us.length):tp (nx++pu++[st]) (p++us++[s])=(tp nx p * bt us + bt p * tp pu us) * s.2 + bt p * bt us * (st * s.1):=by
 rw [u6 _ _ _ _ (by rw [List.length_append,List.length_append,h1,h2]),u6 _ _ _ _ h1,v0]
 simp only [tp,bt]
 grind
theorem gj (p us:List (Int × Int)) (s:Int × Int):bt (p++us++[s])=bt p * bt us * s.2:=by
 rw [v0,v0]
 simp only [bt]
 grind
theorem Q5 {nx pu:List Int} {ad dv:Int} {p us:List (Int × Int)} {s:Int × Int} (h1:nx.length=p.length) (h2:pu.length=us.length) (hp:∀ q∈p,0 < q.2) (hu:∀ q∈us,0 < q.2) (hs:0 < s.2) (hd:0 < dv) :
  zZ (tp (nx++pu) (p++us) + ad * bt (p++us)) (bt (p++us) * dv)=(xK nx pu 0 ad dv p us s).1/\zR (tp (nx++pu) (p++us) + ad * bt (p++us)) (bt (p++us) * dv)=(xK nx pu 0 ad dv p us s).2:=by
 have P:=u4 hp
 have U:=u4 hu
 have PU:=Int.mul_pos P U
 unfold xK
 rw [Wi h1 h2,gj,u6 _ _ _ _ h1,v0]
 refine WT (Int.mul_pos PU hd) (Int.mul_pos (Int.mul_pos PU hs) hd) ?_
 generalize tp nx p=a
 generalize tp pu us=b
 generalize bt p=c
 generalize bt us=d
 grind
theorem qT {D:Nat}:∀ (ps:List (Int × Int)),(∀ q∈ps,q.2.natAbs<=D)->(bt ps).natAbs<=D ^ ps.length
 | [],_=>by simp [bt]
 | p :: ps,h=>by
  have i:=qT ps λq m=>h q (List.mem_cons_of_mem _ m)
  have j:=h p List.mem_cons_self
  simp only [bt,Int.natAbs_mul,List.length_cons,Nat.pow_succ]
  rw [Nat.mul_comm]
  exact Nat.mul_le_mul i j
theorem Wj {A V:Nat}:∀ (ws:List Int) (ps:List (Int × Int)),(∀ w∈ws,w.natAbs<=A)->(∀ q∈ps,q.1.natAbs<=V * q.2.natAbs)->(tp ws ps).natAbs<=ps.length * (A * V) * (bt ps).natAbs
 | [],_,_,_=>by simp [tp]
 | _ :: _,[],_,_=>by simp [tp]
 | w :: ws,p :: ps,hw,hp=>by
  have i:=Wj ws ps (λq m=>hw q (List.mem_cons_of_mem _ m)) (λq m=>hp q (List.mem_cons_of_mem _ m))
  have j:=Nat.mul_le_mul (hw w List.mem_cons_self) (hp p List.mem_cons_self)
  simp only [tp,bt,List.length_cons]
  refine Nat.le_trans (Int.natAbs_add_le _ _) ?_
  simp only [Int.natAbs_mul]
  have a:=Nat.mul_le_mul_right (bt ps).natAbs j
  have b:=Nat.mul_le_mul_left p.2.natAbs i
  have e:(ps.length + 1) * (A * V) * (p.2.natAbs * (bt ps).natAbs)=A * (V * p.2.natAbs) * (bt ps).natAbs + p.2.natAbs * (ps.length * (A * V) * (bt ps).natAbs):=by grind
  rw [e]
  exact Nat.add_le_add a b
theorem Zz {t b:Int} {V:Nat} (hb:0 < b) (h:t.natAbs<=V * b.natAbs):0 < zR t b/\(zR t b).natAbs<=b.natAbs/\(zZ t b).natAbs<=V * (zR t b).natAbs:=by
 have nb:b≠0:=by omega
 refine ⟨uA nb,Int.natAbs_fdiv_le_natAbs _ _,?_⟩
 have c:=congrArg Int.natAbs (jM (t:=t) nb)
 rw [Int.natAbs_mul,Int.natAbs_mul] at c
 refine Nat.le_of_mul_le_mul_right (c:=b.natAbs) ?_ (Int.natAbs_pos.mpr nb)
 rw [c]
 have:=Nat.mul_le_mul_right (zR t b).natAbs h
 refine Nat.le_trans this (Nat.le_of_eq ?_)
 grind
end Sh
set_option linter.all false
namespace Sh
theorem Q6 {nx pu:List Int} {st ad dv:Int} {p us:List (Int × Int)} {s:Int × Int} {V D:Nat} (h1:nx.length=p.length) (h2:pu.length=us.length) (l3:p.length<=3) (l2:us.length<=3) (D1:1<=D) (V1:2 ^ 67<=V)
  (hp:∀ q∈p,0 < q.2/\q.2.natAbs<=D/\q.1.natAbs<=V * q.2.natAbs) (hu:∀ q∈us,0 < q.2/\q.2.natAbs<=12/\q.1.natAbs<=2 ^ 67 * q.2.natAbs) (hs:0 < s.2/\s.2.natAbs<=9/\s.1.natAbs<=2 ^ 67 * s.2.natAbs)
  (wn:∀ w∈nx,w.natAbs<=2 ^ 66) (wp:∀ w∈pu,w.natAbs<=2 ^ 66) (ws:st.natAbs<=2 ^ 66) (wa:ad.natAbs<=2 ^ 66) (d1:1<=dv) (d2:dv<=9) :
  0 < (xK nx pu st ad dv p us s).2/\(xK nx pu st ad dv p us s).2.natAbs<=D ^ 3 * 139968/\(xK nx pu st ad dv p us s).1.natAbs<=2 ^ 69 * V * (xK nx pu st ad dv p us s).2.natAbs:=by
 have all:∀ q∈p++us++[s],0 < q.2/\q.1.natAbs<=V * q.2.natAbs:=λq hq=>by
  rcases List.mem_append.mp hq with hq | hq
  ·rcases List.mem_append.mp hq with hq | hq
   ·exact ⟨(hp q hq).1,(hp q hq).2.2⟩
   ·exact ⟨(hu q hq).1,Nat.le_trans (hu q hq).2.2 (Nat.mul_le_mul_right _ V1)⟩
  ·rw [List.mem_singleton.mp hq]
   exact ⟨hs.1,Nat.le_trans hs.2.2 (Nat.mul_le_mul_right _ V1)⟩
 have B0:=u4 λq m=>(all q m).1
 have t0:=Wj (A:=2 ^ 66) (V:=V) (nx++pu++[st]) (p++us++[s]) (λw hw=>by
  rcases List.mem_append.mp hw with hw | hw
  ·rcases List.mem_append.mp hw with hw | hw
   ·exact wn w hw
   ·exact wp w hw
  ·rw [List.mem_singleton.mp hw]
   exact ws) λq m=>(all q m).2
 have l7:(p++us++[s]).length<=7:=by
  rw [List.length_append,List.length_append]
  show _ + 1<=7
  omega
 have t1:=Nat.le_trans t0 (Nat.mul_le_mul_right _ (Nat.mul_le_mul_right _ l7))
 have eb:=gj p us s
 have bp:(bt p).natAbs<=D ^ 3:=Nat.le_trans (qT p λq m=>(hp q m).2.1) (Nat.pow_le_pow_right D1 l3)
 have bu:(bt us).natAbs<=1728:=Nat.le_trans (qT us λq m=>(hu q m).2.1) (Nat.le_trans (Nat.pow_le_pow_right (by decide) l2) (by decide))
 have bb:(bt (p++us++[s])).natAbs<=D ^ 3 * 1728 * 9:=by
  rw [eb,Int.natAbs_mul,Int.natAbs_mul]
  exact Nat.mul_le_mul (Nat.mul_le_mul bp bu) hs.2.1
 unfold xK
 generalize bt (p++us++[s])=B at *
 generalize tp (nx++pu++[st]) (p++us++[s])=T at *
 have hden:0 < B * dv:=Int.mul_pos B0 (by omega)
 have hb:(B * dv).natAbs=B.natAbs * dv.natAbs:=Int.natAbs_mul _ _
 have main:(T + ad * B).natAbs<=2 ^ 69 * V * (B * dv).natAbs:=by
  refine Nat.le_trans (Int.natAbs_add_le _ _) ?_
  rw [Int.natAbs_mul,hb]
  have a3:=Nat.mul_le_mul_right B.natAbs wa
  have a4:B.natAbs<=B.natAbs * dv.natAbs:=Nat.le_mul_of_pos_right _ (by omega)
  have a5:7 * (2 ^ 66 * V) + 2 ^ 66<=2 ^ 69 * V:=by omega
  refine Nat.le_trans (Nat.add_le_add t1 a3) ?_
  rw [<- Nat.add_mul]
  exact Nat.mul_le_mul a5 a4
 obtain ⟨r1,r2,r3⟩:=Zz hden main
 refine ⟨r1,Nat.le_trans r2 ?_,r3⟩
 rw [hb,show (139968:Nat)=1728 * 9 * 9 from rfl,<- Nat.mul_assoc,<- Nat.mul_assoc]
 exact Nat.mul_le_mul bb (by omega)
noncomputable def v1:Nat->Nat
 | 0=>9
 | n + 1=>v1 n ^ 3 * 139968
noncomputable def uL (n:Nat):Nat:=2 ^ (67 + 69 * n)
theorem Z0:∀ n,1<=v1 n
 | 0=>by decide
 | n + 1=>by
  have:=Z0 n
  show 1<=v1 n ^ 3 * 139968
  have:0 < v1 n ^ 3:=Nat.pow_pos this
  omega
theorem Q7 (n:Nat):uL (n + 1)=2 ^ 69 * uL n:=by
 unfold uL
 rw [<- Nat.pow_add]
 congr 1
 omega
theorem Q8 (n:Nat):2 ^ 67<=uL n:=Nat.pow_le_pow_right (by decide) (by omega)
theorem Wl:∀ n,n<=4->v1 n < 2 ^ 950
 | 0,_=>by decide +kernel
 | 1,_=>by decide +kernel
 | 2,_=>by decide +kernel
 | 3,_=>by decide +kernel
 | 4,_=>by decide +kernel
 | n + 5,h=>by omega
theorem qU (n:Nat) (h:n<=4):uL n<=2 ^ 343:=Nat.pow_le_pow_right (by decide) (by omega)
theorem Wm {nx pu:List Int} {st ad:Int} {p us:List (Int × Int)} {s:Int × Int} (h1:nx.length=p.length) (h2:pu.length=us.length) :
  tp (nx++[st]++pu++[ad]) (p++[s]++us++[(1,1)])=tp (nx++pu++[st]) (p++us++[s]) + ad * bt (p++us++[s])/\bt (p++[s]++us++[(1,1)])=bt (p++us++[s]):=by
 constructor
 ·rw [Wi h1 h2,gj,u6 _ _ _ _ (by rw [List.length_append,List.length_append,List.length_append,List.length_append,h1,h2]; rfl),u6 _ _ _ _ (by rw [List.length_append,List.length_append,h1]; rfl),u6 _ _ _ _ h1]
  simp only [v0,tp,bt]
  generalize tp nx p=a
  generalize tp pu us=b
  generalize bt p=c
  generalize bt us=d
  grind
 ·simp only [v0,bt]
  generalize bt p=c
  generalize bt us=d
  grind
theorem Q9 {T B d:Int} (hB:0 < B) (hd:0 < d):zZ (zZ T B) (zR T B * d)=zZ T (B * d)/\zR (zZ T B) (zR T B * d)=zR T (B * d):=by
 have hb:B≠0:=by omega
 have p:=uA (t:=T) hb
 refine WT (Int.mul_pos p hd) (Int.mul_pos hB hd) ?_
 have c:=jM (t:=T) hb
 calc zZ T B * (B * d)=zZ T B * B * d:=by grind
  _=T * zR T B * d:=by rw [c]
  _=_:=by grind
theorem Wn {T B b:Int} (hB:0 < B):zZ T B<=b * zR T B ↔ T<=b * B:=by
 have nb:B≠0:=by omega
 have p:=uA (t:=T) nb
 have c:=jM (t:=T) nb
 constructor
 ·intro h
  have z:=Int.mul_le_mul_of_nonneg_right h (show 0<=B by omega)
  rw [c,show b * zR T B * B=b * B * zR T B by grind] at z
  exact Int.le_of_mul_le_mul_right z p
 ·intro h
  have z:=Int.mul_le_mul_of_nonneg_right h (show 0<=zR T B by omega)
  rw [<- c,show b * B * zR T B=b * zR T B * B by grind] at z
  exact Int.le_of_mul_le_mul_right z hB
end Sh
namespace K31
open PySem L2 Sh
noncomputable def yN (i:Nat):Stmt:=PySem.Challenge.pw_steadyhand_k31_runs_walked.main.body.getD i (.Pass ⟨0,0,0,0⟩)
structure Bl (mg:Str->Option Value):Prop where
 ValueError_:mg "ValueError" = none
 isinstance_:mg "isinstance" = none
 int_:mg "int" = none
 bool_:mg "bool" = none
 tuple_:mg "tuple" = none
 len_:mg "len" = none
 abs_:mg "abs" = none
 all_:mg "all" = none
 list_:mg "list" = none
 range_:mg "range" = none
 zip_:mg "zip" = none
 enumerate_:mg "enumerate" = none
 MOST_NUMBERS_:∃ t,mg "MOST_NUMBERS" = some (.int 3 t)
 MOST_PUSHES_:∃ t,mg "MOST_PUSHES" = some (.int 6 t)
 MOST_MODES_:∃ t,mg "MOST_MODES" = some (.int 40 t)
structure yE (K:PySem.W.Frag) (C:Addr):Prop where
 n_rows:wG K C "rows"
 n_nexts:wG K C "nexts"
 n_steer:wG K C "steer"
 n_push:wG K C "push"
 n_add:wG K C "add"
 n_divisor:wG K C "divisor"
structure yF (K:PySem.W.Frag) (C:Addr):Prop where
 n_many:wG K C "many"
 n_kept_pushes:wG K C "kept_pushes"
 n_kept_modes:wG K C "kept_modes"
structure GO (ws:List Int) (vs:List (Int × Int)):Prop where
 len:ws.length=vs.length
 n7:vs.length<=8
 bw:∀ w∈ws,Bd 1000 w
 ok:∀ p∈vs,0 < p.2/\Bd 5500 p.1/\Bd 5500 p.2
theorem gk:∀ (n:Nat) (l:List (Int × Int × Int)),l.length=n->(∀ p∈l,Bd 1000 p.1/\Bd 5500 p.2.1/\Bd 5500 p.2.2)->Bd (1002 + 5501 * n) (l.foldl xf (0,1)).1/\Bd (5500 * n + 1) (l.foldl xf (0,1)).2
 | 0,l,e,_=>by
  have:l=[]:=List.length_eq_zero_iff.mp e
  subst this
  exact ⟨(Bd.lit (n:=1)).mono,Bd.lit⟩
 | n + 1,l,e,h=>by
  rcases List.eq_nil_or_concat l with rfl | ⟨r,p,rfl⟩
  ·cases e
  rw [List.concat_eq_append] at *
  rw [List.length_append,List.length_singleton] at e
  obtain ⟨i1,i2⟩:=gk n r (by omega) λq hq=>h q (List.mem_append_left _ hq)
  obtain ⟨h1,h2,h3⟩:=h p (List.mem_append_right _ (List.mem_singleton.mpr rfl))
  rw [List.foldl_append]
  generalize r.foldl xf (0,1)=st at i1 i2
  constructor
  ·show Bd (1002 + 5501 * (n + 1)) (st.1 * p.2.2 + p.1 * p.2.1 * st.2)
   exact (((i1.mul h3).mono (show 1002 + 5501 * n + 5500<=6502 + 5501 * n by omega)).add (((h1.mul h2).mul i2).mono (show 1000 + 5500 + (5500 * n + 1)<=6502 + 5501 * n by omega))).mono (by omega)
  ·show Bd (5500 * (n + 1) + 1) (st.2 * p.2.2)
   exact (i2.mul h3).mono (by omega)
theorem jW {ws:List Int} {pts:List (Int × Int)} (G:GO ws pts):∀ p∈ws.zip pts,0 < p.2.2/\Bd 1000 p.1/\Bd 5500 p.2.1/\Bd 5500 p.2.2:=λp hp=>by
 obtain ⟨a,b⟩:=List.of_mem_zip hp
 obtain ⟨c1,c2,c3⟩:=G.ok _ b
 exact ⟨c1,G.bw _ a,c2,c3⟩
theorem qV {ws:List Int} {pts:List (Int × Int)} (G:GO ws pts):(ws.zip pts).length=pts.length:=by
 rw [List.length_zip,G.len,Nat.min_self]
theorem KA {ws:List Int} {pts:List (Int × Int)} (G:GO ws pts):0 < (xP ws pts).2:=by
 rw [JX ws pts λp hp=>(G.ok p hp).1]
 exact JV λp hp=>(jW G p hp).1
inductive gm (K:PySem.W.Frag) (vs:List V) (H:Hp) (Q:VK) (E:XK):Prop
 | mk (na pa:Addr) (ws:List Int) (pv:List V) (pts:List (Int × Int)) (_:vs=[.ref na,.ref pa]) (_:uj K H na (ws.map V.int)) (_:zE K H pa pv) (_:zX H pv pts) (_:GO ws pts) (_:∀ r H',zD H H'->H' r=some (.tup [.int (xP ws pts).1,.int (xP ws pts).2])->Q (.ref r) H'):gm K vs H Q E
inductive Z1 (K:PySem.W.Frag) (vs:List V) (H:Hp) (Q:VK) (E:XK):Prop
 | mk (na pa:Addr) (ws:List Int) (pv:List V) (pts:List (Int × Int)) (a d:Int) (_:vs=[.ref na,.ref pa,.int a,.int d]) (_:uj K H na (ws.map V.int)) (_:zE K H pa pv) (_:zX H pv pts) (_:GO ws pts) (_:Bd 7000 (xP ws pts).2) (_:Bd 1000 a) (_:0 < d) (_:Bd 1000 d) (_:∀ r H',zD H H'->H' r=some (.tup [.int (zZ ((xP ws pts).1 + a * (xP ws pts).2) ((xP ws pts).2 * d)),.int (zR ((xP ws pts).1 + a * (xP ws pts).2) ((xP ws pts).2 * d))])->Q (.ref r) H'):Z1 K vs H Q E
theorem KB {ws:List Int} {pts:List (Int × Int)} (G:GO ws pts):Bd 45100 (xP ws pts).1/\Bd 44001 (xP ws pts).2:=by
 have z:=gk pts.length (ws.zip pts) (qV G) λp hp=>(jW G p hp).2
 have:=G.n7
 rw [<- xP] at z
 exact ⟨z.1.mono (by omega),z.2.mono (by omega)⟩
structure v2 (pts:List (Int × Int)):Prop where
 n3:pts.length<=3
 ok:∀ p∈pts,0 < p.2/\Bd 5500 p.1/\Bd 5500 p.2
theorem GO.of {ws:List Int} {pts:List (Int × Int)} (P:v2 pts) (W:uh ws pts.length):GO ws pts:=⟨W.len,by have:=P.n3; omega,W.bd,P.ok⟩
inductive Z2 (K:PySem.W.Frag) (vs:List V) (H:Hp) (Q:VK) (E:XK):Prop
 | mk (ra pa:Addr) (ws:List Int) (b:Int) (pv:List V) (pts:List (Int × Int)) (_:vs=[.ref ra,.ref pa]) (_:H ra=some (.tup (xo ws b))) (_:zE K H pa pv) (_:zX H pv pts) (_:v2 pts) (_:uh ws pts.length) (_:Bd 1000 b) (_:∀ H',zD H H'->Q (.bl (ZU ws b pts)) H'):Z2 K vs H Q E
inductive Z3 (K:PySem.W.Frag) (vs:List V) (H:Hp) (Q:VK) (E:XK):Prop
 | mk (rm pa:Addr) (rv:List V) (rows:List (List Int)) (pv:List V) (pts:List (Int × Int)) (_:vs=[.ref rm,.ref pa]) (_:zE K H rm rv) (_:yY H rv rows) (_:(∀ r∈rows,uF r pts.length)) (_:rows.length<=900) (_:zE K H pa pv) (_:zX H pv pts) (_:v2 pts) (_:∀ H',zD H H'->Q (.bl (rows.all (wB pts))) H'):Z3 K vs H Q E
section
variable {P:Program} {w:World} {K:PySem.W.Frag} {mg:Str->Option Value} {base:Heap}
noncomputable abbrev Z4:Stmt:=yN 11
theorem KC:zw ["thing"] ["thing"] (zY Z4):=.a
theorem KD {k:Nat} {f:Addr} {fd:FuncData} {ac ae:Addr} (af:zK K mg "Mode" ac) (ag:yE K ac) (ah:zK K mg "Thing" ae) (ai:yF K ae) (F:zx K "is_whole" "is_whole" Z4 f fd) (B:Bl mg):zL P w K mg base zd (k + 1) f fd ["thing"] uI:=by
 refine F.ok KC (λvs H Q E h=>?_) (λcdv A outer s H vs Q E hr h=>?_)
 ·obtain ⟨_,rfl,_⟩:=h
  rfl
 obtain ⟨i,rfl,q⟩:=h
 refine ⟨_,(zW (zg (wD (zn xh rfl B.isinstance_ yr (zC (zB 0) (zC (xW (v:=.ty "int") (u:=.type "int") rfl B.int_ Jk rfl) zG))) (w6 (kS (zn xh rfl B.isinstance_ yr (zC (zB 0) (zC (xW (v:=.ty "bool") (u:=.type "bool") rfl B.bool_ Jl rfl) zG)))))))),?_⟩
 try dsimp only [zJ,Cx.nox,Cx.wish]
 refine ⟨_,rfl,_,_,_,_,rfl,.int _,Jm _,_,rfl,yR ?_⟩
 exact ⟨_,rfl,_,_,_,_,rfl,.int _,Jn _,_,rfl,q⟩
noncomputable abbrev Z5:Stmt:=yN 12
theorem u7:zw ["numbers","common","number","rest","left"] ["numbers"] (zY Z5):=.a
theorem KE {k:Nat} {f:Addr} {fd:FuncData} {ac ae:Addr} (af:zK K mg "Mode" ac) (ag:yE K ac) (ah:zK K mg "Thing" ae) (ai:yF K ae) (F:zx K "common_divisor" "common_divisor" Z5 f fd) (B:Bl mg):zL P w K mg base zd (k + 1) f fd ["numbers"] (Zo K):=by
 refine F.ok u7 (λvs H Q E h=>?_) (λcdv A outer s H vs Q E hr h=>?_)
 ·obtain ⟨_,_,rfl,_⟩:=h
  rfl
 obtain ⟨a,ns,rfl,hS,q⟩:=h
 refine ⟨_,(zP (zj (i:=1) u7.nd rfl (Or.inl rfl) zI)
  (zP (wE PassesOwn.never rfl (jo (zB 0)) (zr (i:=2) u7.nd rfl (Or.inl rfl)) (zP (zj (i:=3) u7.nd rfl (Or.inl rfl) (zn kq rfl B.abs_ ZP (zC (zB 2) zG)))
   (zW (XD PassesOwn.never (yd jI (zB 3) zI (yH _)) (zP (zj (i:=4) u7.nd rfl (Or.inl rfl) (zN (ji yj) (zB 1) (zB 3)))
    (zP (zj (i:=1) u7.nd rfl (Or.inl rfl) (zB 3))
    (zW (zj (i:=3) u7.nd rfl (Or.inl rfl) (zB 4)))))))))
  (zW (zg (zB 1))))),?_⟩
 try dsimp only [zJ,Cx.nox,Cx.wish]
 refine ⟨_,rfl,a,rfl,⟨_,hS⟩,UP (K:=K) (a:=a) (xs:=ns.map V.int) (λi σ H2=>∃ n r l,σ=[some (.ref a),some (.int (vD (ns.take i))),n,r,l]/\H2=H)
  ⟨none,none,none,rfl,rfl⟩ (λi σ H2 _ ⟨_,_,_,_,e⟩=>e ▸ hS) ?_ ?_⟩
 ·rintro i x σ H2 hi ⟨n,r,l,rfl,rfl⟩
  obtain ⟨z,hz,rfl⟩:∃ z,ns[i]? = some z/\x=V.int z:=by
   rw [List.getElem?_map] at hi
   cases e:ns[i]? with
   | none=>rw [e] at hi; cases hi
   | some z=>rw [e] at hi; exact ⟨z,rfl,(Option.some.inj hi).symm⟩
  have hlt:i < ns.length:=(List.getElem?_eq_some_iff.mp hz).1
  have ez:ns[i]=z:=(List.getElem?_eq_some_iff.mp hz).2
  have tk:vD (ns.take (i + 1))=(Int.gcd (vD (ns.take i)) z:Int):=by rw [List.take_succ_eq_append_getElem hlt,Xm,ez]
  refine ⟨_,rfl,z,rfl,?_⟩
  refine XF (λσ H'=>∃ (c r:Int) (l:Option V),σ=[some (.ref a),some (.int c),some (.int z),some (.int r),l]/\H'=H2/\0<=c/\0<=r/\Int.gcd c r=Int.gcd (vD (ns.take i)) z)
   (λσ _=>match σ with | [_,_,_,some (.int r),_]=>r.toNat | _=>0) ⟨_,_,l,rfl,rfl,JN _,(by split <;> omega),JQ _ _⟩ ?_ ?_
  ·rintro σ H' ⟨c,r,l,rfl,rfl,hc,hr0,hg⟩
   refine ⟨_,rfl,rfl,_,rfl,?_⟩
   by_cases z0:r=0
   ·subst z0
    refine ZH rfl ?_
    rw [Int.gcd_zero_right] at hg
    have ec:c=vD (ns.take (i + 1)):=by rw [tk]; omega
    exact ⟨_,_,_,by rw [ec],rfl⟩
   ·have ne:¬ (V.int r=V.int 0):=λe=>z0 (by injection e)
    refine yz (gN z0) ?_
    refine ⟨_,rfl,_,rfl,_,_,rfl,rfl,z0,_,rfl,_,rfl,?_⟩
    have h1:=Int.fmod_nonneg_of_pos c (show 0 < r by omega)
    have h2:=Int.fmod_lt_of_pos c (show 0 < r by omega)
    refine ⟨⟨r,c.fmod r,_,rfl,rfl,hr0,h1,by rw [Xn]; exact hg⟩,?_⟩
    show (c.fmod r).toNat < r.toNat
    omega
  ·rintro σ H' Q1 Q2 h ⟨v,e,sc,k,ek,q1⟩
   exact ⟨v,e,sc,k,ek,h _ _ q1⟩
 ·rintro σ H2 ⟨n,r,l,rfl,rfl⟩
  refine ⟨_,rfl,?_⟩
  rw [List.length_map,List.take_length]
  exact q
noncomputable abbrev Z6:Stmt:=yN 13
theorem Z7:zw ["top","bottom","common"] ["top","bottom"] (zY Z6):=.a
theorem KG {k:Nat} {f:Addr} {fd:FuncData} {dv:Value} {ac ae:Addr} (af:zK K mg "Mode" ac) (ag:yE K ac) (ah:zK K mg "Thing" ae) (ai:yF K ae) (F:yy K "fraction" "fraction" Z6 f fd dv) (B:Bl mg) (ao:Fn P w K mg base "is_whole" ["thing"] k uI) (aH:Fn P w K mg base "common_divisor" ["numbers"] k (Zo K)):zL P w K mg base zd (k + 1) f fd ["top","bottom"] gh:=by
 refine F.ok Z7 (λvs H Q E h=>?_) (λcdv A outer s H vs Q E hr h=>?_)
 ·obtain ⟨_,_,rfl,_⟩:=h
  rfl
 obtain ⟨t,b,rfl,b0,bb,q⟩:=h
 refine ⟨_,(zP (yG (PW.pt (xc (xE (yi (zi ao hr rfl (zC (zB 0) zG)))) (wO (xE (yi (zi ao hr rfl (zC (zB 1) zG))))))) (zW gB) yM)
  (zP (yG (yd wQ (zB 1) zI (yH _)) (zW gB) yM)
  (zP (zj (i:=2) Z7.nd rfl (Or.inl rfl) (zi aH hr rfl (zC (wR (zC (zB 0) (zC (zB 1) zG))) zG)))
  (zP (yG (yd (zp jJ) (zB 1) zI (yH _)) (zW (zj (i:=2) Z7.nd rfl (Or.inl rfl) (w8 vA (zB 2)))) yM)
  (zW (zg (wR (zC (zN (ji wd) (zB 0) (zB 2)) (zC (zN (ji wd) (zB 1) (zB 2)) zG))))))))),?_⟩
 try dsimp only [zJ,Cx.nox,Cx.wish]
 refine ⟨_,rfl,t,rfl,_,rfl,zb ?_⟩
 refine ⟨_,rfl,b,rfl,_,rfl,zb ?_⟩
 refine ⟨_,rfl,rfl,_,rfl,?_⟩
 refine yl (wf b0) ?_
 refine ⟨_,rfl,_,rfl,(by show 2<=sizeLine; decide),λp hp=>?_⟩
 refine ⟨p,[t,b],rfl,zS.of zO,?_⟩
 rw [JM]
 have sm:=zU hp (HO.tup [.int t,.int b])
 have fin:∀ c:Int,c=cm t b->∀ D':Hp,D'=upd H p (.tup [.int t,.int b])->(t.fdiv c)=zZ t b/\b.fdiv c=zR t b/\c≠0/\Bd 8000 c:=λc e _ _=>by
  subst e
  exact ⟨rfl,rfl,ZJ b0,Zn bb b0⟩
 refine ⟨_,rfl,_,_,rfl,rfl,_,rfl,?_⟩
 refine yX (λhb=>?_) (λhb=>?_)
 ·have hb':b < 0:=of_decide_eq_true hb
  refine ⟨_,rfl,_,rfl,?_⟩
  have ec : -(Int.gcd t b:Int)=cm t b:=by unfold cm; rw [if_pos hb']
  obtain ⟨e1,e2,e3,e4⟩:=fin _ ec _ rfl
  refine ⟨_,rfl,_,rfl,_,_,rfl,rfl,⟨e3,e4⟩,_,rfl,_,rfl,_,_,rfl,rfl,⟨e3,e4⟩,(by show 2<=sizeLine; decide),λr hr'=>?_⟩
  exact q r _ (sm.trans (zU hr' _)) (zO.trans (by show some (HO.tup [V.int (t.fdiv _),V.int (b.fdiv _)])=_; rw [e1,e2]))
 ·have hb':¬ b < 0:=λz=>hb (decide_eq_true z)
  have ec:(Int.gcd t b:Int)=cm t b:=by unfold cm; rw [if_neg hb']
  obtain ⟨e1,e2,e3,e4⟩:=fin _ ec _ rfl
  refine ⟨_,rfl,_,rfl,_,_,rfl,rfl,⟨e3,e4⟩,_,rfl,_,rfl,_,_,rfl,rfl,⟨e3,e4⟩,(by show 2<=sizeLine; decide),λr hr'=>?_⟩
  exact q r _ (sm.trans (zU hr' _)) (zO.trans (by show some (HO.tup [V.int (t.fdiv _),V.int (b.fdiv _)])=_; rw [e1,e2]))
noncomputable abbrev Z8:Stmt:=yN 14
theorem KH:zw ["one","other"] ["one","other"] (zY Z8):=.a
theorem KI {k:Nat} {f:Addr} {fd:FuncData} {ac ae:Addr} (af:zK K mg "Mode" ac) (ag:yE K ac) (ah:zK K mg "Thing" ae) (ai:yF K ae) (F:zx K "under" "under" Z8 f fd) (B:Bl mg):zL P w K mg base zd (k + 1) f fd ["one","other"] Zq:=by
 refine F.ok KH (λvs H Q E h=>?_) (λcdv A outer s H vs Q E hr h=>?_)
 ·obtain ⟨_,_,_,_,_,_,rfl,_⟩:=h
  rfl
 obtain ⟨p,q,a,b,c,d,rfl,T,qq⟩:=h
 refine ⟨_,(zW (zg (vB (zp jJ) (zN (ji yf) (zV yC (zB 0) zI (λ_ _=>rfl)) (zV yC (zB 1) zI (λ_ _=>rfl))) (zN (ji yf) (zV yC (zB 1) zI (λ_ _=>rfl)) (zV yC (zB 0) zI (λ_ _=>rfl))) (yH _)))),?_⟩
 try dsimp only [zJ,Cx.nox,Cx.wish]
 refine ⟨_,rfl,p,_,0,_,rfl,rfl,zS.of T.p,wj,_,rfl,q,_,1,_,rfl,rfl,zS.of T.q,xg,_,_,rfl,rfl,⟨(T.ab).mono,(T.db).mono⟩,?_⟩
 refine ⟨_,rfl,q,_,0,_,rfl,rfl,zS.of T.q,wj,_,rfl,p,_,1,_,rfl,rfl,zS.of T.p,xg,_,_,rfl,rfl,⟨(T.cb).mono,(T.bb).mono⟩,_,_,rfl,rfl,?_⟩
 exact qq
noncomputable abbrev vK:Stmt:=yN 18
theorem Z9:zw ["value","depth"] ["value","depth"] (zY vK):=.a
theorem KJ {k:Nat} {f:Addr} {fd:FuncData} {dv:Value} {ac ae:Addr} (af:zK K mg "Mode" ac) (ag:yE K ac) (ah:zK K mg "Thing" ae) (ai:yF K ae) (F:yy K "copied" "copied" vK f fd dv) (B:Bl mg) (aj:we P w K mg base "copied" ["value","depth"] k WD (.int 5)):zL P w K mg base zd (k + 1) f fd ["value","depth"] ul:=by
 refine F.ok Z9 (λvs H Q E h=>?_) (λcdv A outer s H vs Q E hr h=>?_)
 ·obtain ⟨_,_,rfl,_⟩:=h
  rfl
 refine ⟨_,(zP (yG (yd wQ (zB 1) zI (yH _)) (zW (zg (zB 0))) yM)
  (zP (yG (yi (zn xh rfl B.isinstance_ yr (zC (zB 0) (zC (xW (v:=.ty "list") (u:=.type "list") rfl B.list_ xY rfl) zG)))) (zW (zg (xX (own:=["part"]) (caps:=[(1,"depth")]) (wI (S:=zY vK) (N:=["value","depth"]) rfl (by decide +kernel) rfl ⟨_,rfl⟩ rfl (by decide +kernel) (by decide +kernel)) rfl (xx (zB 0)) (λ_ _ _ _=>zr (i:=0) (show (["part","depth"]:List Str).Nodup by decide +kernel) rfl (Or.inl rfl)) (λ_ _ _ _=>(zi aj.fn hr rfl (zC (zB 0) (zC (zN (zp wP) (zB 1) zI) zG))))))) yM)
  (zP (yG (yi (zn xh rfl B.isinstance_ yr (zC (zB 0) (zC (xW (v:=.ty "tuple") (u:=.type "tuple") rfl B.tuple_ vS rfl) zG)))) (zW (zg (wc vq rfl B.tuple_ vS (zC (xX (own:=["part"]) (caps:=[(1,"depth")]) (wI (S:=zY vK) (N:=["value","depth"]) rfl (by decide +kernel) rfl ⟨_,rfl⟩ rfl (by decide +kernel) (by decide +kernel)) rfl (jo (zB 0)) (λ_ _ _ _=>zr (i:=0) (show (["part","depth"]:List Str).Nodup by decide +kernel) rfl (Or.inl rfl)) (λ_ _ _ _=>(zi aj.fn hr rfl (zC (zB 0) (zC (zN (zp wP) (zB 1) zI) zG))))) zG)))) yM)
  (zW (zg (zB 0)))))),?_⟩
 try dsimp only [zJ,Cx.nox,Cx.wish]
 obtain ⟨i,d,rfl,q⟩:=h
 refine ⟨_,rfl,rfl,_,rfl,?_⟩
 by_cases d0:d=0
 ·exact yz (vj d0) ⟨_,rfl,q⟩
 refine yl (wf d0) ?_
 refine ⟨_,rfl,_,_,_,_,rfl,.int i,qC K .int,_,rfl,zb ?_⟩
 refine ⟨_,rfl,_,_,_,_,rfl,.int i,ZV K .int,_,rfl,zb ?_⟩
 exact ⟨_,rfl,q⟩
theorem KL {k:Nat} {f:Addr} {fd:FuncData} {dv:Value} {ac ae:Addr} (af:zK K mg "Mode" ac) (ag:yE K ac) (ah:zK K mg "Thing" ae) (ai:yF K ae) (F:yy K "copied" "copied" vK f fd dv) (B:Bl mg) (aj:we P w K mg base "copied" ["value","depth"] k ul (.int 5)):zL P w K mg base zd (k + 1) f fd ["value","depth"] um:=by
 refine F.ok Z9 (λvs H Q E h=>?_) (λcdv A outer s H vs Q E hr h=>?_)
 ·obtain ⟨i,d,rfl,_⟩ | ⟨a,ns,d,rfl,_⟩ | ⟨a,ns,d,rfl,_⟩:=h
  all_goals rfl
 refine ⟨_,(zP (yG (yd wQ (zB 1) zI (yH _)) (zW (zg (zB 0))) yM)
  (zP (yG (yi (zn xh rfl B.isinstance_ yr (zC (zB 0) (zC (xW (v:=.ty "list") (u:=.type "list") rfl B.list_ xY rfl) zG)))) (zW (zg (xX (own:=["part"]) (caps:=[(1,"depth")]) (wI (S:=zY vK) (N:=["value","depth"]) rfl (by decide +kernel) rfl ⟨_,rfl⟩ rfl (by decide +kernel) (by decide +kernel)) rfl (xx (zB 0)) (λ_ _ _ _=>zr (i:=0) (show (["part","depth"]:List Str).Nodup by decide +kernel) rfl (Or.inl rfl)) (λ_ _ _ _=>(zi aj.fn hr rfl (zC (zB 0) (zC (zN (zp wP) (zB 1) zI) zG))))))) yM)
  (zP (yG (yi (zn xh rfl B.isinstance_ yr (zC (zB 0) (zC (xW (v:=.ty "tuple") (u:=.type "tuple") rfl B.tuple_ vS rfl) zG)))) (zW (zg (wc vq rfl B.tuple_ vS (zC (xX (own:=["part"]) (caps:=[(1,"depth")]) (wI (S:=zY vK) (N:=["value","depth"]) rfl (by decide +kernel) rfl ⟨_,rfl⟩ rfl (by decide +kernel) (by decide +kernel)) rfl (jo (zB 0)) (λ_ _ _ _=>zr (i:=0) (show (["part","depth"]:List Str).Nodup by decide +kernel) rfl (Or.inl rfl)) (λ_ _ _ _=>(zi aj.fn hr rfl (zC (zB 0) (zC (zN (zp wP) (zB 1) zI) zG))))) zG)))) yM)
  (zW (zg (zB 0)))))),?_⟩
 try dsimp only [zJ,Cx.nox,Cx.wish]
 rcases h with h | h | h
 ·obtain ⟨i,d,rfl,q⟩:=h
  refine ⟨_,rfl,rfl,_,rfl,?_⟩
  by_cases d0:d=0
  ·exact yz (vj d0) ⟨_,rfl,q⟩
  refine yl (wf d0) ?_
  refine ⟨_,rfl,_,_,_,_,rfl,.int i,qC K .int,_,rfl,zb ?_⟩
  refine ⟨_,rfl,_,_,_,_,rfl,.int i,ZV K .int,_,rfl,zb ?_⟩
  exact ⟨_,rfl,q⟩
 ·obtain ⟨a,ns,d,rfl,d1,ha,few,q⟩:=h
  refine ⟨_,rfl,rfl,_,rfl,yl (wf (by omega)) ?_⟩
  refine ⟨_,rfl,_,_,_,_,rfl,.lst ha,vF K,_,rfl,yR ?_⟩
  refine ⟨_,rfl,a,rfl,⟨_,zE.of ha⟩,wU (K:=K) (a:=a) (xs:=ns.map V.int) (λi ys σ H'=>ys=(ns.take i).map V.int/\(∃ o,σ=[o,some (.int d)])/\H'=H)
   ⟨rfl,⟨none,rfl⟩,rfl⟩ (λi ys σ H' hi ⟨e1,_,e3⟩=>⟨by rw [e3]; exact zE.of ha,by rw [e1,List.length_map,List.length_take]; exact Nat.min_le_left _ _⟩) (by rw [List.length_map]; exact Nat.le_of_lt (yB (by omega))) ?_ ?_⟩
  ·rintro i x ys σ H' hi ⟨rfl,⟨o,rfl⟩,rfl⟩
   obtain ⟨z,hz,rfl⟩:=vT hi
   refine ⟨_,rfl,_,rfl,_,_,rfl,rfl,⟨z,d - 1,rfl,?_,⟨_,rfl⟩,rfl⟩⟩
   rw [x9 hz,List.map_append]
   rfl
  rintro ys σ H' ⟨rfl,⟨o,rfl⟩,rfl⟩ l hl
  refine q l _ (zU hl _) hl (zO.trans ?_)
  rw [List.length_map,List.take_length]
 ·obtain ⟨a,ns,d,rfl,d1,ha,few,q⟩:=h
  refine ⟨_,rfl,rfl,_,rfl,yl (wf (by omega)) ?_⟩
  refine ⟨_,rfl,_,_,_,_,rfl,.tup ha,qC K .tup,_,rfl,zb ?_⟩
  refine ⟨_,rfl,_,_,_,_,rfl,.tup ha,j5 K,_,rfl,yR ?_⟩
  refine ⟨_,rfl,a,rfl,⟨_,zS.of ha⟩,ZS (K:=K) (a:=a) (xs:=ns.map V.int) (λi ys σ H'=>ys=(ns.take i).map V.int/\(∃ o,σ=[o,some (.int d)])/\H'=H)
   ⟨rfl,⟨none,rfl⟩,rfl⟩ (λi ys σ H' hi ⟨e1,_,e3⟩=>⟨by rw [e3]; exact zS.of ha,by rw [e1,List.length_map,List.length_take]; exact Nat.min_le_left _ _⟩) (by rw [List.length_map]; exact Nat.le_of_lt (yB (by omega))) ?_ ?_⟩
  ·rintro i x ys σ H' hi ⟨rfl,⟨o,rfl⟩,rfl⟩
   obtain ⟨z,hz,rfl⟩:=vT hi
   refine ⟨_,rfl,_,rfl,_,_,rfl,rfl,⟨z,d - 1,rfl,?_,⟨_,rfl⟩,rfl⟩⟩
   rw [x9 hz,List.map_append]
   rfl
  rintro ys σ H' ⟨rfl,⟨o,rfl⟩,rfl⟩ l hl
  refine ⟨l,_,rfl,.inl ⟨zE.of zO,λt ht=>?_⟩⟩
  refine q t _ ((zU hl _).trans (zU ht _)) ((zU hl _).free ht) (zO.trans ?_)
  rw [List.length_map,List.take_length]
theorem KM {k:Nat} {f:Addr} {fd:FuncData} {dv:Value} {ac ae:Addr} (af:zK K mg "Mode" ac) (ag:yE K ac) (ah:zK K mg "Thing" ae) (ai:yF K ae) (F:yy K "copied" "copied" vK f fd dv) (B:Bl mg) (aj:we P w K mg base "copied" ["value","depth"] k um (.int 5)):zL P w K mg base zd (k + 1) f fd ["value","depth"] qL:=by
 refine F.ok Z9 (λvs H Q E h=>?_) (λcdv A outer s H vs Q E hr h=>?_)
 ·obtain (⟨i,d,rfl,_⟩ | ⟨a,ns,d,rfl,_⟩ | ⟨a,ns,d,rfl,_⟩) | ⟨a,rv,rows,d,rfl,_⟩ | ⟨a,tv,tab,d,rfl,_⟩:=h
  all_goals rfl
 refine ⟨_,(zP (yG (yd wQ (zB 1) zI (yH _)) (zW (zg (zB 0))) yM)
  (zP (yG (yi (zn xh rfl B.isinstance_ yr (zC (zB 0) (zC (xW (v:=.ty "list") (u:=.type "list") rfl B.list_ xY rfl) zG)))) (zW (zg (xX (own:=["part"]) (caps:=[(1,"depth")]) (wI (S:=zY vK) (N:=["value","depth"]) rfl (by decide +kernel) rfl ⟨_,rfl⟩ rfl (by decide +kernel) (by decide +kernel)) rfl (xx (zB 0)) (λ_ _ _ _=>zr (i:=0) (show (["part","depth"]:List Str).Nodup by decide +kernel) rfl (Or.inl rfl)) (λ_ _ _ _=>(zi aj.fn hr rfl (zC (zB 0) (zC (zN (zp wP) (zB 1) zI) zG))))))) yM)
  (zP (yG (yi (zn xh rfl B.isinstance_ yr (zC (zB 0) (zC (xW (v:=.ty "tuple") (u:=.type "tuple") rfl B.tuple_ vS rfl) zG)))) (zW (zg (wc vq rfl B.tuple_ vS (zC (xX (own:=["part"]) (caps:=[(1,"depth")]) (wI (S:=zY vK) (N:=["value","depth"]) rfl (by decide +kernel) rfl ⟨_,rfl⟩ rfl (by decide +kernel) (by decide +kernel)) rfl (jo (zB 0)) (λ_ _ _ _=>zr (i:=0) (show (["part","depth"]:List Str).Nodup by decide +kernel) rfl (Or.inl rfl)) (λ_ _ _ _=>(zi aj.fn hr rfl (zC (zB 0) (zC (zN (zp wP) (zB 1) zI) zG))))) zG)))) yM)
  (zW (zg (zB 0)))))),?_⟩
 try dsimp only [zJ,Cx.nox,Cx.wish]
 rcases h with (h | h | h) | h | h
 ·obtain ⟨i,d,rfl,q⟩:=h
  refine ⟨_,rfl,rfl,_,rfl,?_⟩
  by_cases d0:d=0
  ·exact yz (vj d0) ⟨_,rfl,q⟩
  refine yl (wf d0) ?_
  refine ⟨_,rfl,_,_,_,_,rfl,.int i,qC K .int,_,rfl,zb ?_⟩
  refine ⟨_,rfl,_,_,_,_,rfl,.int i,ZV K .int,_,rfl,zb ?_⟩
  exact ⟨_,rfl,q⟩
 ·obtain ⟨a,ns,d,rfl,d1,ha,few,q⟩:=h
  refine ⟨_,rfl,rfl,_,rfl,yl (wf (by omega)) ?_⟩
  refine ⟨_,rfl,_,_,_,_,rfl,.lst ha,vF K,_,rfl,yR ?_⟩
  refine ⟨_,rfl,a,rfl,⟨_,zE.of ha⟩,wU (K:=K) (a:=a) (xs:=ns.map V.int) (λi ys σ H'=>ys=(ns.take i).map V.int/\(∃ o,σ=[o,some (.int d)])/\H'=H)
   ⟨rfl,⟨none,rfl⟩,rfl⟩ (λi ys σ H' hi ⟨e1,_,e3⟩=>⟨by rw [e3]; exact zE.of ha,by rw [e1,List.length_map,List.length_take]; exact Nat.min_le_left _ _⟩) (by rw [List.length_map]; exact Nat.le_of_lt (yB (by omega))) ?_ ?_⟩
  ·rintro i x ys σ H' hi ⟨rfl,⟨o,rfl⟩,rfl⟩
   obtain ⟨z,hz,rfl⟩:=vT hi
   refine ⟨_,rfl,_,rfl,_,_,rfl,rfl,.inl ⟨z,d - 1,rfl,?_,⟨_,rfl⟩,rfl⟩⟩
   rw [x9 hz,List.map_append]
   rfl
  rintro ys σ H' ⟨rfl,⟨o,rfl⟩,rfl⟩ l hl
  refine q l _ (zU hl _) hl (zO.trans ?_)
  rw [List.length_map,List.take_length]
 ·obtain ⟨a,ns,d,rfl,d1,ha,few,q⟩:=h
  refine ⟨_,rfl,rfl,_,rfl,yl (wf (by omega)) ?_⟩
  refine ⟨_,rfl,_,_,_,_,rfl,.tup ha,qC K .tup,_,rfl,zb ?_⟩
  refine ⟨_,rfl,_,_,_,_,rfl,.tup ha,j5 K,_,rfl,yR ?_⟩
  refine ⟨_,rfl,a,rfl,⟨_,zS.of ha⟩,ZS (K:=K) (a:=a) (xs:=ns.map V.int) (λi ys σ H'=>ys=(ns.take i).map V.int/\(∃ o,σ=[o,some (.int d)])/\H'=H)
   ⟨rfl,⟨none,rfl⟩,rfl⟩ (λi ys σ H' hi ⟨e1,_,e3⟩=>⟨by rw [e3]; exact zS.of ha,by rw [e1,List.length_map,List.length_take]; exact Nat.min_le_left _ _⟩) (by rw [List.length_map]; exact Nat.le_of_lt (yB (by omega))) ?_ ?_⟩
  ·rintro i x ys σ H' hi ⟨rfl,⟨o,rfl⟩,rfl⟩
   obtain ⟨z,hz,rfl⟩:=vT hi
   refine ⟨_,rfl,_,rfl,_,_,rfl,rfl,.inl ⟨z,d - 1,rfl,?_,⟨_,rfl⟩,rfl⟩⟩
   rw [x9 hz,List.map_append]
   rfl
  rintro ys σ H' ⟨rfl,⟨o,rfl⟩,rfl⟩ l hl
  refine ⟨l,_,rfl,.inl ⟨zE.of zO,λt ht=>?_⟩⟩
  refine q t _ ((zU hl _).trans (zU ht _)) ((zU hl _).free ht) (zO.trans ?_)
  rw [List.length_map,List.take_length]
 ·obtain ⟨a,rv,rows,d,rfl,d1,ha,hrv,few,rl,q⟩:=h
  have lr:rv.length=rows.length:=Paired.length hrv
  refine ⟨_,rfl,rfl,_,rfl,yl (wf (by omega)) ?_⟩
  refine ⟨_,rfl,_,_,_,_,rfl,.lst ha,vF K,_,rfl,yR ?_⟩
  refine ⟨_,rfl,a,rfl,⟨_,zE.of ha⟩,wU (K:=K) (a:=a) (xs:=rv) (λi ys σ H'=>yY H' ys (rows.take i)/\(∃ o,σ=[o,some (.int d)])/\zD H H')
   ⟨.nil,⟨none,rfl⟩,zD.refl _⟩ (λi ys σ H' hi ⟨e1,_,sm⟩=>⟨zE.of (sm _ _ ha),by have:=Paired.length e1; rw [List.length_take] at this; omega⟩) (Nat.le_of_lt (yB (by omega))) ?_ ?_⟩
  ·rintro i x ys σ H' hi ⟨hys,⟨o,rfl⟩,sm⟩
   obtain ⟨r,hr',b,rfl,eb⟩:=ym hrv hi
   refine ⟨_,rfl,_,rfl,_,_,rfl,rfl,.inr (.inr ⟨b,r,d - 1,rfl,(by omega),sm _ _ eb,rl r (List.mem_of_getElem? hr'),λt H2 s2 _ et=>?_⟩)⟩
   refine ⟨?_,⟨_,rfl⟩,sm.trans s2⟩
   rw [x9 hr']
   exact xR (R:=λv (k:List Int)=>Tp H2 v (k.map V.int)) ⟨t,rfl,et⟩ (yY.same s2 hys)
  rintro ys σ H' ⟨hys,⟨o,rfl⟩,sm⟩ l hl
  rw [lr,List.take_length] at hys
  exact q l ys _ (sm.trans (zU hl _)) (sm.free hl) zO (yY.same (zU hl _) hys)
 ·obtain ⟨a,tv,tab,d,rfl,d1,ha,htv,few,rl,q⟩:=h
  have lr:tv.length=tab.length:=Paired.length htv
  refine ⟨_,rfl,rfl,_,rfl,yl (wf (by omega)) ?_⟩
  refine ⟨_,rfl,_,_,_,_,rfl,.lst ha,vF K,_,rfl,yR ?_⟩
  refine ⟨_,rfl,a,rfl,⟨_,zE.of ha⟩,wU (K:=K) (a:=a) (xs:=tv) (λi ys σ H'=>Paired (xI H H') ys (tab.take i)/\(∃ o,σ=[o,some (.int d)])/\zD H H')
   ⟨.nil,⟨none,rfl⟩,zD.refl _⟩ (λi ys σ H' hi ⟨e1,_,sm⟩=>⟨zE.of (sm _ _ ha),by have:=Paired.length e1; rw [List.length_take] at this; omega⟩) (Nat.le_of_lt (yB (by omega))) ?_ ?_⟩
  ·rintro i x ys σ H' hi ⟨hys,⟨o,rfl⟩,sm⟩
   obtain ⟨r,hr',b,rfl,eb⟩:=ym htv hi
   refine ⟨_,rfl,_,rfl,_,_,rfl,rfl,.inr (.inl ⟨b,r,d - 1,rfl,(by omega),sm _ _ eb,rl r (List.mem_of_getElem? hr'),λt H2 s2 tn et=>?_⟩)⟩
   refine ⟨?_,⟨_,rfl⟩,sm.trans s2⟩
   rw [x9 hr']
   exact xR (R:=xI H H2) ⟨t,rfl,sm.free tn,et⟩ (Paired.mapP hys λ_ _ ⟨c,e,n,k⟩=>⟨c,e,n,s2 _ _ k⟩)
  rintro ys σ H' ⟨hys,⟨o,rfl⟩,sm⟩ l hl
  rw [lr,List.take_length] at hys
  have z:=zU hl (HO.lst ys)
  exact q l ys _ (sm.trans z) (sm.free hl) zO (Paired.mapP hys λ_ _ ⟨c,e,n,k⟩=>⟨c,e,n,z _ _ k⟩)
noncomputable abbrev YA:Stmt:=yN 16
theorem KN:zw ["value","count"] ["value","count"] (zY YA):=.a
theorem KO {k:Nat} {f:Addr} {fd:FuncData} {ac ae:Addr} (af:zK K mg "Mode" ac) (ag:yE K ac) (ah:zK K mg "Thing" ae) (ai:yF K ae) (F:zx K "is_numbers" "is_numbers" YA f fd) (B:Bl mg) (ao:Fn P w K mg base "is_whole" ["thing"] k uI):zL P w K mg base zd (k + 1) f fd ["value","count"] gg:=by
 refine F.ok KN (λvs H Q E h=>?_) (λcdv A outer s H vs Q E hr h=>?_)
 ·obtain ⟨_,_,rfl,_⟩:=h
  rfl
 obtain ⟨a,ns,rfl,ha,few,q⟩:=h
 refine ⟨_,(zW (zg (wD (zn xh rfl B.isinstance_ yr (zC (zB 0) (zC (xW (v:=.ty "list") (u:=.type "list") rfl B.list_ xY rfl) zG))) (wD (vB wQ (zn zu rfl B.len_ yt (zC (zB 0) zG)) (zB 1) (yH _)) (w6 (zn (vg rfl) rfl B.all_ vi (zC (xX (own:=["number"]) (caps:=[]) (uC rfl) rfl (xx (zB 0)) (λ_ _ _ _=>zr (i:=0) (show (["number"]:List Str).Nodup by decide +kernel) rfl (Or.inl rfl)) (λ_ _ _ _=>(zi ao hr rfl (zC (zB 0) zG)))) zG))))))),?_⟩
 try dsimp only [zJ,Cx.nox,Cx.wish]
 refine ⟨_,rfl,_,_,_,_,rfl,.lst ha,vF K,_,rfl,yR ?_⟩
 refine ⟨_,rfl,a,_,rfl,.inl (zE.of ha),_,rfl,rfl,_,rfl,yz (vj (by rw [List.length_map])) ?_⟩
 refine ⟨_,rfl,a,rfl,⟨_,zE.of ha⟩,wU (K:=K) (a:=a) (xs:=ns.map V.int) (λi ys σ H'=>ys=(List.replicate i true).map V.bl/\(∃ o,σ=[o])/\H'=H)
  ⟨rfl,⟨none,rfl⟩,rfl⟩ (λi ys σ H' hi ⟨e1,_,e3⟩=>⟨by rw [e3]; exact zE.of ha,by rw [e1,List.length_map,List.length_replicate]; exact Nat.le_refl _⟩) (by rw [List.length_map]; exact Nat.le_of_lt (yB (by omega))) ?_ ?_⟩
 ·rintro i x ys σ H' hi ⟨rfl,⟨o,rfl⟩,rfl⟩
  obtain ⟨z,hz,rfl⟩:=vT hi
  refine ⟨_,rfl,z,rfl,?_,⟨_,rfl⟩,rfl⟩
  rw [List.replicate_succ',List.map_append]
  rfl
 rintro ys σ H' ⟨rfl,⟨o,rfl⟩,rfl⟩ l hl
 refine ⟨l,List.replicate _ true,rfl,zE.of zO,?_⟩
 rw [uJ]
 exact q _ (zU hl _)
noncomputable abbrev gp:Stmt:=yN 17
theorem KP:zw ["value","tall","wide"] ["value","tall","wide"] (zY gp):=.a
theorem KQ {k:Nat} {f:Addr} {fd:FuncData} {ac ae:Addr} (af:zK K mg "Mode" ac) (ag:yE K ac) (ah:zK K mg "Thing" ae) (ai:yF K ae) (F:zx K "is_table" "is_table" gp f fd) (B:Bl mg) (au:Fn P w K mg base "is_numbers" ["value","count"] k gg):zL P w K mg base zd (k + 1) f fd ["value","tall","wide"] Zb:=by
 refine F.ok KP (λvs H Q E h=>?_) (λcdv A outer s H vs Q E hr h=>?_)
 ·obtain ⟨_,_,_,_,rfl,_⟩:=h
  rfl
 obtain ⟨a,tv,tab,w0,rfl,ha,htv,few,tw,w9,q⟩:=h
 refine ⟨_,(zW (zg (wD (zn xh rfl B.isinstance_ yr (zC (zB 0) (zC (xW (v:=.ty "list") (u:=.type "list") rfl B.list_ xY rfl) zG))) (wD (vB wQ (zn zu rfl B.len_ yt (zC (zB 0) zG)) (zB 1) (yH _)) (w6 (zn (vg rfl) rfl B.all_ vi (zC (xX (own:=["part"]) (caps:=[(2,"wide")]) (wI (S:=zY gp) (N:=["value","tall","wide"]) rfl (by decide +kernel) rfl ⟨_,rfl⟩ rfl (by decide +kernel) (by decide +kernel)) rfl (xx (zB 0)) (λ_ _ _ _=>zr (i:=0) (show (["part","wide"]:List Str).Nodup by decide +kernel) rfl (Or.inl rfl)) (λ_ _ _ _=>(zi au hr rfl (zC (zB 0) (zC (zB 1) zG))))) zG))))))),?_⟩
 try dsimp only [zJ,Cx.nox,Cx.wish]
 have lt:tv.length=tab.length:=Paired.length htv
 refine ⟨_,rfl,_,_,_,_,rfl,.lst ha,vF K,_,rfl,yR ?_⟩
 refine ⟨_,rfl,a,_,rfl,.inl (zE.of ha),_,rfl,rfl,_,rfl,yz (vj (by omega)) ?_⟩
 refine ⟨_,rfl,a,rfl,⟨_,zE.of ha⟩,wU (K:=K) (a:=a) (xs:=tv) (λi ys σ H'=>ys=(List.replicate i true).map V.bl/\(∃ o,σ=[o,some (.int (w0:Int))])/\zD H H')
  ⟨rfl,⟨none,rfl⟩,zD.refl _⟩ (λi ys σ H' hi ⟨e1,_,sm⟩=>⟨zE.of (sm _ _ ha),by rw [e1,List.length_map,List.length_replicate]; exact Nat.le_refl _⟩) (Nat.le_of_lt (yB (by omega))) ?_ ?_⟩
 ·rintro i x ys σ H' hi ⟨rfl,⟨o,rfl⟩,sm⟩
  obtain ⟨r,hr',b,rfl,eb⟩:=ym htv hi
  have lw:=tw r (List.mem_of_getElem? hr')
  refine ⟨_,rfl,_,rfl,b,r,(by rw [lw]; rfl),sm _ _ eb,(by omega),λH2 s2=>⟨?_,⟨_,rfl⟩,sm.trans s2⟩⟩
  rw [List.replicate_succ',List.map_append]
  rfl
 rintro ys σ H' ⟨rfl,⟨o,rfl⟩,sm⟩ l hl
 refine ⟨l,List.replicate _ true,rfl,zE.of zO,?_⟩
 rw [uJ]
 exact q _ (sm.trans (zU hl _))
noncomputable abbrev YB:Stmt:=yN 20
theorem KR:zw ["value","many"] ["value","many"] (zY YB):=.a
theorem KS {k:Nat} {f:Addr} {fd:FuncData} {ac ae:Addr} (af:zK K mg "Mode" ac) (ag:yE K ac) (ah:zK K mg "Thing" ae) (ai:yF K ae) (F:zx K "is_row" "is_row" YB f fd) (B:Bl mg) (ao:Fn P w K mg base "is_whole" ["thing"] k uI):zL P w K mg base zd (k + 1) f fd ["value","many"] Zc:=by
 refine F.ok KR (λvs H Q E h=>?_) (λcdv A outer s H vs Q E hr h=>?_)
 ·obtain ⟨_,_,_,rfl,_⟩:=h
  rfl
 obtain ⟨a,ns,n,rfl,ha,ln,few,q⟩:=h
 refine ⟨_,(zW (zg (wD (zn xh rfl B.isinstance_ yr (zC (zB 0) (zC (xW (v:=.ty "tuple") (u:=.type "tuple") rfl B.tuple_ vS rfl) zG))) (wD (vB wQ (zn zu rfl B.len_ yt (zC (zB 0) zG)) (zN (zp yV) (zB 1) zI) (yH _)) (w6 (zn (vg rfl) rfl B.all_ vi (zC (xX (own:=["number"]) (caps:=[]) (uC rfl) rfl (jo (zB 0)) (λ_ _ _ _=>zr (i:=0) (show (["number"]:List Str).Nodup by decide +kernel) rfl (Or.inl rfl)) (λ_ _ _ _=>(zi ao hr rfl (zC (zB 0) zG)))) zG))))))),?_⟩
 try dsimp only [zJ,Cx.nox,Cx.wish]
 refine ⟨_,rfl,_,_,_,_,rfl,.tup ha,j5 K,_,rfl,yR ?_⟩
 refine ⟨_,rfl,a,_,rfl,.inr (zS.of ha),_,rfl,_,_,rfl,rfl,rfl,_,rfl,yz (vj (by rw [List.length_map,ln]; omega)) ?_⟩
 refine ⟨_,rfl,a,rfl,⟨_,zS.of ha⟩,ZS (K:=K) (a:=a) (xs:=ns.map V.int) (λi ys σ H'=>ys=(List.replicate i true).map V.bl/\(∃ o,σ=[o])/\H'=H)
  ⟨rfl,⟨none,rfl⟩,rfl⟩ (λi ys σ H' hi ⟨e1,_,e3⟩=>⟨by rw [e3]; exact zS.of ha,by rw [e1,List.length_map,List.length_replicate]; exact Nat.le_refl _⟩) (by rw [List.length_map]; exact Nat.le_of_lt (yB (by omega))) ?_ ?_⟩
 ·rintro i x ys σ H' hi ⟨rfl,⟨o,rfl⟩,rfl⟩
  obtain ⟨z,hz,rfl⟩:=vT hi
  refine ⟨_,rfl,z,rfl,?_,⟨_,rfl⟩,rfl⟩
  rw [List.replicate_succ',List.map_append]
  rfl
 rintro ys σ H' ⟨rfl,⟨o,rfl⟩,rfl⟩ l hl
 refine ⟨l,List.replicate _ true,rfl,zE.of zO,?_⟩
 rw [uJ]
 exact q _ (zU hl _)
noncomputable abbrev gr:Stmt:=yN 21
theorem KU:zw ["value","many"] ["value","many"] (zY gr):=.a
theorem KW {k:Nat} {f:Addr} {fd:FuncData} {ac ae:Addr} (af:zK K mg "Mode" ac) (ag:yE K ac) (ah:zK K mg "Thing" ae) (ai:yF K ae) (F:zx K "is_room" "is_room" gr f fd) (B:Bl mg) (aJ:Fn P w K mg base "is_row" ["value","many"] k Zc):zL P w K mg base zd (k + 1) f fd ["value","many"] Zd:=by
 refine F.ok KU (λvs H Q E h=>?_) (λcdv A outer s H vs Q E hr h=>?_)
 ·obtain ⟨_,_,_,_,rfl,_⟩:=h
  rfl
 obtain ⟨a,rv,rows,n,rfl,ha,hrv,few,rl,n8,q⟩:=h
 refine ⟨_,(zW (zg (wD (zn xh rfl B.isinstance_ yr (zC (zB 0) (zC (xW (v:=.ty "list") (u:=.type "list") rfl B.list_ xY rfl) zG))) (w6 (zn (vg rfl) rfl B.all_ vi (zC (xX (own:=["row"]) (caps:=[(1,"many")]) (wI (S:=zY gr) (N:=["value","many"]) rfl (by decide +kernel) rfl ⟨_,rfl⟩ rfl (by decide +kernel) (by decide +kernel)) rfl (xx (zB 0)) (λ_ _ _ _=>zr (i:=0) (show (["row","many"]:List Str).Nodup by decide +kernel) rfl (Or.inl rfl)) (λ_ _ _ _=>(zi aJ hr rfl (zC (zB 0) (zC (zB 1) zG))))) zG)))))),?_⟩
 try dsimp only [zJ,Cx.nox,Cx.wish]
 have lr:rv.length=rows.length:=Paired.length hrv
 refine ⟨_,rfl,_,_,_,_,rfl,.lst ha,vF K,_,rfl,yR ?_⟩
 refine ⟨_,rfl,a,rfl,⟨_,zE.of ha⟩,wU (K:=K) (a:=a) (xs:=rv) (λi ys σ H'=>ys=(List.replicate i true).map V.bl/\(∃ o,σ=[o,some (.int (n:Int))])/\zD H H')
  ⟨rfl,⟨none,rfl⟩,zD.refl _⟩ (λi ys σ H' hi ⟨e1,_,sm⟩=>⟨zE.of (sm _ _ ha),by rw [e1,List.length_map,List.length_replicate]; exact Nat.le_refl _⟩) (Nat.le_of_lt (yB (by omega))) ?_ ?_⟩
 ·rintro i x ys σ H' hi ⟨rfl,⟨o,rfl⟩,sm⟩
  obtain ⟨r,hr',b,rfl,eb⟩:=ym hrv hi
  refine ⟨_,rfl,_,rfl,b,r,n,rfl,sm _ _ eb,rl r (List.mem_of_getElem? hr'),(by omega),λH2 s2=>⟨?_,⟨_,rfl⟩,sm.trans s2⟩⟩
  rw [List.replicate_succ',List.map_append]
  rfl
 rintro ys σ H' ⟨rfl,⟨o,rfl⟩,sm⟩ l hl
 refine ⟨l,List.replicate _ true,rfl,zE.of zO,?_⟩
 rw [uJ]
 exact q _ (sm.trans (zU hl _))
noncomputable abbrev YC:Stmt:=yN 39
theorem KY:zw ["value"] ["value"] (zY YC):=.a
theorem KZ {k:Nat} {f:Addr} {fd:FuncData} {ac ae:Addr} (af:zK K mg "Mode" ac) (ag:yE K ac) (ah:zK K mg "Thing" ae) (ai:yF K ae) (F:zx K "is_push" "is_push" YC f fd) (B:Bl mg) (ao:Fn P w K mg base "is_whole" ["thing"] k uI):zL P w K mg base zd (k + 1) f fd ["value"] Ze:=by
 refine F.ok KY (λvs H Q E h=>?_) (λcdv A outer s H vs Q E hr h=>?_)
 ·obtain ⟨_,_,_,rfl,_⟩:=h
  rfl
 obtain ⟨a,lo,hi,rfl,ha,lh,q⟩:=h
 refine ⟨_,(zP (yG (PW.pt (xc (xE (yi (zn xh rfl B.isinstance_ yr (zC (zB 0) (zC (xW (v:=.ty "tuple") (u:=.type "tuple") rfl B.tuple_ vS rfl) zG))))) (wO (yd jI (zn zu rfl B.len_ yt (zC (zB 0) zG)) zI (yH _))))) (zW (zg xi)) yM)
  (zW (zg (wD (zi ao hr rfl (zC (zV yC (zB 0) zI (λ_ _=>rfl)) zG)) (wD (zi ao hr rfl (zC (zV yC (zB 0) zI (λ_ _=>rfl)) zG)) (w6 (vB (zp jv) (zV yC (zB 0) zI (λ_ _=>rfl)) (zV yC (zB 0) zI (λ_ _=>rfl)) (yH _)))))))),?_⟩
 try dsimp only [zJ,Cx.nox,Cx.wish]
 refine ⟨_,rfl,_,_,_,_,rfl,.tup ha,j5 K,_,rfl,zb ?_⟩
 refine ⟨_,rfl,a,_,rfl,.inr (zS.of ha),rfl,_,rfl,ZH rfl ?_⟩
 refine ⟨_,rfl,a,_,0,_,rfl,rfl,zS.of ha,wj,lo,rfl,_,rfl,yR ?_⟩
 refine ⟨_,rfl,a,_,1,_,rfl,rfl,zS.of ha,xg,hi,rfl,_,rfl,yR ?_⟩
 refine ⟨_,rfl,a,_,0,_,rfl,rfl,zS.of ha,wj,_,rfl,a,_,1,_,rfl,rfl,zS.of ha,xg,_,_,rfl,rfl,?_⟩
 have z:decide (lo<=hi)=true:=decide_eq_true lh
 show Q (.bl (decide (lo<=hi))) H
 rw [z]
 exact q
noncomputable abbrev YD:Stmt:=j0 (yN 36) 0
theorem Ka:zw ["self","rows","nexts","steer","push","add","divisor"] ["self","rows","nexts","steer","push","add","divisor"] (zY YD):=.a
theorem Kb {k:Nat} {f:Addr} {fd:FuncData} {ac ae:Addr} (af:zK K mg "Mode" ac) (ag:yE K ac) (ah:zK K mg "Thing" ae) (ai:yF K ae) (F:zx K "__init__" "Mode.__init__" YD f fd) (B:Bl mg) (aj:we P w K mg base "copied" ["value","depth"] k qL (.int 5)):zL P w K mg base zd (k + 1) f fd ["self","rows","nexts","steer","push","add","divisor"] (Zg ac):=by
 refine F.ok Ka (λvs H Q E h=>?_) (λcdv A outer s H vs Q E hr h=>?_)
 ·obtain ⟨_,_,_,_,_,_,_,_,_,_,_,_,_,rfl,_⟩:=h
  rfl
 obtain ⟨o,dx,ra,na,sa,pa,aa,rv,nv,pv,m,n0,p0,rfl,ho,MO,hra,hrv,hna,hnv,hsa,hpa,hpv,haa,q⟩:=h
 refine ⟨_,(zP (ve (zB 0) (ug aj hr rfl (zC (zB 1) zG)) rfl)
  (zP (ve (zB 0) (ug aj hr rfl (zC (zB 2) zG)) rfl)
  (zP (ve (zB 0) (ug aj hr rfl (zC (zB 3) zG)) rfl)
  (zP (ve (zB 0) (ug aj hr rfl (zC (zB 4) zG)) rfl)
  (zP (ve (zB 0) (ug aj hr rfl (zC (zB 5) zG)) rfl)
  (zW (ve (zB 0) (zB 6) rfl))))))),?_⟩
 try dsimp only [zJ,Cx.nox,Cx.wish]
 have n3:=MO.n3
 have p6:=MO.p6
 have G0:yP o H H:=λ_ _ e _=>e
 refine ⟨_,rfl,.inr (.inl ⟨ra,rv,m.rows,5,rfl,(by decide),hra,hrv,MO.few,(λx hx=>by have:=MO.rows x hx; omega),λr lr H1 s1 fr er hr=>?_⟩)⟩
 refine ⟨_,rfl,o,ac,dx,_,rfl,(s1 _ _ ho),af.cl,ag.n_rows,(by show 0 < 1000; decide),?_⟩
 have o1:=zO (H:=H1) (a:=o) (o:=HO.ins ac dx (zH "rows" (.ref r) []))
 have G1:yP o H (upd H1 o (HO.ins ac dx (zH "rows" (.ref r) []))):=G0.trans ((zD.but s1).trans (wW o H1 _))
 have T1:yP o H1 (upd H1 o (HO.ins ac dx (zH "rows" (.ref r) []))):=wW o H1 _
 have b1:=s1 _ _ ho
 obtain ⟨J1,hJ1⟩:∃ J,J=upd H1 o (HO.ins ac dx (zH "rows" (.ref r) [])):=⟨_,rfl⟩
 rw [<- hJ1] at o1 G1 T1 |-
 refine ⟨_,rfl,.inr (.inr ⟨na,nv,m.nexts,5,rfl,(by decide),(keepB ho G1 hna (λz=>by cases z)),(zf.keepB ho G1 hnv),(by have:=MO.nexts.1; omega),(λx hx=>by have:=MO.nexts.2 x hx; omega),λn ln H2 s2 fn en hn=>?_⟩)⟩
 refine ⟨_,rfl,o,ac,dx,_,rfl,(s2 _ _ o1),af.cl,ag.n_nexts,(by show 1 < 1000; decide),?_⟩
 have o2:=zO (H:=H2) (a:=o) (o:=HO.ins ac dx (zH "nexts" (.ref n) (zH "rows" (.ref r) [])))
 have G2:yP o H (upd H2 o (HO.ins ac dx (zH "nexts" (.ref n) (zH "rows" (.ref r) [])))):=G1.trans ((zD.but s2).trans (wW o H2 _))
 have T2:yP o H2 (upd H2 o (HO.ins ac dx (zH "nexts" (.ref n) (zH "rows" (.ref r) [])))):=wW o H2 _
 have b2:=s2 _ _ o1
 obtain ⟨J2,hJ2⟩:∃ J,J=upd H2 o (HO.ins ac dx (zH "nexts" (.ref n) (zH "rows" (.ref r) []))):=⟨_,rfl⟩
 rw [<- hJ2] at o2 G2 T2 |-
 refine ⟨_,rfl,.inl (.inr (.inl ⟨sa,m.steer,5,rfl,(by decide),(keepB ho G2 hsa (λz=>by cases z)),(by have:=MO.steer; omega),λs H3 s3 fs es=>?_⟩))⟩
 refine ⟨_,rfl,o,ac,dx,_,rfl,(s3 _ _ o2),af.cl,ag.n_steer,(by show 2 < 1000; decide),?_⟩
 have o3:=zO (H:=H3) (a:=o) (o:=HO.ins ac dx (zH "steer" (.ref s) (zH "nexts" (.ref n) (zH "rows" (.ref r) []))))
 have G3:yP o H (upd H3 o (HO.ins ac dx (zH "steer" (.ref s) (zH "nexts" (.ref n) (zH "rows" (.ref r) []))))):=G2.trans ((zD.but s3).trans (wW o H3 _))
 have T3:yP o H3 (upd H3 o (HO.ins ac dx (zH "steer" (.ref s) (zH "nexts" (.ref n) (zH "rows" (.ref r) []))))):=wW o H3 _
 have b3:=s3 _ _ o2
 obtain ⟨J3,hJ3⟩:∃ J,J=upd H3 o (HO.ins ac dx (zH "steer" (.ref s) (zH "nexts" (.ref n) (zH "rows" (.ref r) [])))):=⟨_,rfl⟩
 rw [<- hJ3] at o3 G3 T3 |-
 refine ⟨_,rfl,.inr (.inr ⟨pa,pv,m.push,5,rfl,(by decide),(keepB ho G3 hpa (λz=>by cases z)),(zf.keepB ho G3 hpv),(by have:=MO.push.1; omega),(λx hx=>by have:=MO.push.2 x hx; omega),λp lp H4 s4 fp ep hp=>?_⟩)⟩
 refine ⟨_,rfl,o,ac,dx,_,rfl,(s4 _ _ o3),af.cl,ag.n_push,(by show 3 < 1000; decide),?_⟩
 have o4:=zO (H:=H4) (a:=o) (o:=HO.ins ac dx (zH "push" (.ref p) (zH "steer" (.ref s) (zH "nexts" (.ref n) (zH "rows" (.ref r) [])))))
 have G4:yP o H (upd H4 o (HO.ins ac dx (zH "push" (.ref p) (zH "steer" (.ref s) (zH "nexts" (.ref n) (zH "rows" (.ref r) [])))))):=G3.trans ((zD.but s4).trans (wW o H4 _))
 have T4:yP o H4 (upd H4 o (HO.ins ac dx (zH "push" (.ref p) (zH "steer" (.ref s) (zH "nexts" (.ref n) (zH "rows" (.ref r) [])))))):=wW o H4 _
 have b4:=s4 _ _ o3
 obtain ⟨J4,hJ4⟩:∃ J,J=upd H4 o (HO.ins ac dx (zH "push" (.ref p) (zH "steer" (.ref s) (zH "nexts" (.ref n) (zH "rows" (.ref r) []))))):=⟨_,rfl⟩
 rw [<- hJ4] at o4 G4 T4 |-
 refine ⟨_,rfl,.inl (.inr (.inl ⟨aa,m.add,5,rfl,(by decide),(keepB ho G4 haa (λz=>by cases z)),(by have:=MO.add; omega),λa H5 s5 fa ea=>?_⟩))⟩
 refine ⟨_,rfl,o,ac,dx,_,rfl,(s5 _ _ o4),af.cl,ag.n_add,(by show 4 < 1000; decide),?_⟩
 have o5:=zO (H:=H5) (a:=o) (o:=HO.ins ac dx (zH "add" (.ref a) (zH "push" (.ref p) (zH "steer" (.ref s) (zH "nexts" (.ref n) (zH "rows" (.ref r) []))))))
 have G5:yP o H (upd H5 o (HO.ins ac dx (zH "add" (.ref a) (zH "push" (.ref p) (zH "steer" (.ref s) (zH "nexts" (.ref n) (zH "rows" (.ref r) []))))))):=G4.trans ((zD.but s5).trans (wW o H5 _))
 have T5:yP o H5 (upd H5 o (HO.ins ac dx (zH "add" (.ref a) (zH "push" (.ref p) (zH "steer" (.ref s) (zH "nexts" (.ref n) (zH "rows" (.ref r) []))))))):=wW o H5 _
 have b5:=s5 _ _ o4
 obtain ⟨J5,hJ5⟩:∃ J,J=upd H5 o (HO.ins ac dx (zH "add" (.ref a) (zH "push" (.ref p) (zH "steer" (.ref s) (zH "nexts" (.ref n) (zH "rows" (.ref r) [])))))):=⟨_,rfl⟩
 rw [<- hJ5] at o5 G5 T5 |-
 refine ⟨_,rfl,_,rfl,o,ac,dx,_,rfl,o5,af.cl,ag.n_divisor,(by show 5 < 1000; decide),?_⟩
 have e6:upd J5 o (HO.ins ac dx (zH "divisor" (.int m.div) (zH "add" (.ref a) (zH "push" (.ref p) (zH "steer" (.ref s) (zH "nexts" (.ref n) (zH "rows" (.ref r) []))))))) o=some (.ins ac dx (Zf (.ref r) (.ref n) (.ref s) (.ref p) (.ref a) m.div)):=zO.trans (by rw [QN])
 have T6:yP o J5 (upd J5 o (HO.ins ac dx (zH "divisor" (.int m.div) (zH "add" (.ref a) (zH "push" (.ref p) (zH "steer" (.ref s) (zH "nexts" (.ref n) (zH "rows" (.ref r) [])))))))):=wW o J5 _
 obtain ⟨J6,hJ6⟩:∃ J,J=upd J5 o (HO.ins ac dx (zH "divisor" (.int m.div) (zH "add" (.ref a) (zH "push" (.ref p) (zH "steer" (.ref s) (zH "nexts" (.ref n) (zH "rows" (.ref r) []))))))):=⟨_,rfl⟩
 rw [<- hJ6] at e6 T6 |-
 have U5:yP o H5 J6:=T5.trans T6
 have U4:yP o H4 J6:=T4.trans ((zD.but s5).trans U5)
 have U3:yP o H3 J6:=T3.trans ((zD.but s4).trans U4)
 have U2:yP o H2 J6:=T2.trans ((zD.but s3).trans U3)
 have U1:yP o H1 J6:=T1.trans ((zD.but s2).trans U2)
 have G6:yP o H J6:=G5.trans T6
 have nH:∀ {k:Nat} {Hk:Hp} {x:HO},yP o H Hk->Hk o=some x->∀ {vs:List V} {tab:List (List Int)} {Hj:Hp},Paired (xI Hk Hj) vs tab->yP o Hj J6->(∃ y,Hj o=some y/\∀ l,HO.lst l≠y)->Paired (xI H J6) vs tab:=λG e _ _ _ z U ⟨y,ey,ny⟩=>
  Paired.mapP z λ_ _ ⟨c,e1,e2,e3⟩=>⟨c,e1,uq G e e2,U _ _ e3 λw=>by rw [w,ey] at e3; exact ny _ (Option.some.inj e3).symm⟩
 have NI:∀ (fs:List (Str × V)) (l:List V),HO.lst l≠.ins ac dx fs:=λ_ _ z=>by cases z
 refine q ⟨dx,r,lr,n,ln,s,p,lp,a⟩ J6 G6 ⟨e6,keepB b1 U1 er (NI _ _),yY.keepB b1 U1 hr,keepB b2 U2 en (NI _ _),zf.keepB b2 U2 (xI.tab hn),keepB b3 U3 es (NI _ _),keepB b4 U4 ep (NI _ _),zf.keepB b4 U4 (xI.tab hp),keepB b5 U5 ea (NI _ _)⟩ fr (uq G1 o1 fn) (uq G2 o2 fs) (uq G3 o3 fp) (uq G4 o4 fa) (nH (k:=0) G1 o1 hn U2 ⟨_,b2,NI _⟩) (nH (k:=0) G3 o3 hp U4 ⟨_,b4,NI _⟩)
noncomputable abbrev YE:Stmt:=yN 40
theorem Kc:zw ["value","many","wide"] ["value","many","wide"] (zY YE):=.a
theorem Ke {k:Nat} {f:Addr} {fd:FuncData} {ac ae:Addr} (af:zK K mg "Mode" ac) (ag:yE K ac) (ah:zK K mg "Thing" ae) (ai:yF K ae) (F:zx K "is_mode" "is_mode" YE f fd) (B:Bl mg) (aK:Fn P w K mg base "is_room" ["value","many"] k Zd) (aE:Fn P w K mg base "is_table" ["value","tall","wide"] k Zb) (au:Fn P w K mg base "is_numbers" ["value","count"] k gg) (ao:Fn P w K mg base "is_whole" ["thing"] k uI):zL P w K mg base zd (k + 1) f fd ["value","many","wide"] (Zh ac):=by
 refine F.ok Kc (λvs H Q E h=>?_) (λcdv A outer s H vs Q E hr h=>?_)
 ·obtain ⟨_,_,_,_,rfl,_⟩:=h
  rfl
 obtain ⟨v,m,n,p,rfl,⟨o,M,rfl,k0⟩,MO,q⟩:=h
 refine ⟨_,(zP (yG (PW.pt (xc (xE (yi (zn (show yw _ _ (WC K) from QD) rfl B.isinstance_ yr (zC (zB 0) (zC (QC af rfl) zG))))) (wO (xE (yi (zi aK hr rfl (zC (xj (zB 0) rfl) (zC (zB 1) zG)))))))) (zW (zg xi)) yM)
  (zP (yG (PW.pt (xc (xE (yi (zi aE hr rfl (zC (xj (zB 0) rfl) (zC (zB 1) (zC (zB 1) zG)))))) (wO (xE (yi (zi aE hr rfl (zC (xj (zB 0) rfl) (zC (zB 1) (zC (zB 2) zG))))))))) (zW (zg xi)) yM)
  (zP (yG (PW.pt (xc (xE (yi (zi au hr rfl (zC (xj (zB 0) rfl) (zC (zB 1) zG))))) (wO (xE (yi (zi au hr rfl (zC (xj (zB 0) rfl) (zC (zB 1) zG)))))))) (zW (zg xi)) yM)
  (zW (zg (wD (zi ao hr rfl (zC (xj (zB 0) rfl) zG)) (w6 (vB (zp kn) (xj (zB 0) rfl) zI (yH _))))))))),?_⟩
 try dsimp only [zJ,Cx.nox,Cx.wish]
 have n3:=MO.n3
 have p6:=MO.p6
 refine ⟨_,rfl,_,_,_,_,rfl,(af.ty k0.ins),QM,_,rfl,zb ?_⟩
 refine ⟨_,rfl,o,ac,M.dx,_,_,rfl,k0.ins,af.cl,ag.n_rows,rfl,_,rfl,M.r,M.rv,m.rows,n,rfl,k0.hr,k0.hrv,MO.few,MO.rows,(by omega),λH1 s1=>?_⟩
 refine ⟨_,rfl,zb ?_⟩
 refine ⟨_,rfl,o,ac,M.dx,_,_,rfl,(s1 _ _ k0.ins),af.cl,ag.n_nexts,rfl,_,rfl,_,rfl,M.n,M.nv,m.nexts,n,(by rw [MO.nexts.1]; rfl),s1 _ _ k0.hn,k0.hnv.same s1,(by have:=MO.nexts.1; omega),MO.nexts.2,(by omega),λH2 s2=>?_⟩
 have s12:=s1.trans s2
 refine ⟨_,rfl,zb ?_⟩
 refine ⟨_,rfl,o,ac,M.dx,_,_,rfl,(s12 _ _ k0.ins),af.cl,ag.n_push,rfl,_,rfl,_,rfl,M.p,M.pv,m.push,p,(by rw [MO.push.1]; rfl),s12 _ _ k0.hp,k0.hpv.same s12,(by have:=MO.push.1; omega),MO.push.2,(by omega),λH3 s3=>?_⟩
 have s13:=s12.trans s3
 refine ⟨_,rfl,zb ?_⟩
 refine ⟨_,rfl,o,ac,M.dx,_,_,rfl,(s13 _ _ k0.ins),af.cl,ag.n_steer,rfl,_,rfl,M.s,m.steer,(by rw [MO.steer]; rfl),s13 _ _ k0.hs,(by have:=MO.steer; omega),λH4 s4=>?_⟩
 have s14:=s13.trans s4
 refine ⟨_,rfl,zb ?_⟩
 refine ⟨_,rfl,o,ac,M.dx,_,_,rfl,(s14 _ _ k0.ins),af.cl,ag.n_add,rfl,_,rfl,M.a,m.add,(by rw [MO.add]; rfl),s14 _ _ k0.ha,(by have:=MO.add; omega),λH5 s5=>?_⟩
 have s15:=s14.trans s5
 refine ⟨_,rfl,zb ?_⟩
 refine ⟨_,rfl,o,ac,M.dx,_,_,rfl,(s15 _ _ k0.ins),af.cl,ag.n_divisor,rfl,m.div,rfl,_,rfl,yR ?_⟩
 refine ⟨_,rfl,o,ac,M.dx,_,_,rfl,(s15 _ _ k0.ins),af.cl,ag.n_divisor,rfl,_,_,rfl,rfl,?_⟩
 have z:decide (m.div ≥ 1)=true:=decide_eq_true MO.div
 show Q (.bl (decide (m.div ≥ 1))) H5
 rw [z]
 exact q _ s15
noncomputable abbrev gu:Stmt:=yN 38
theorem Kf:zw ["many","pushes","modes"] ["many","pushes","modes"] (zY gu):=.a
theorem Kg {k:Nat} {f:Addr} {fd:FuncData} {ac ae:Addr} (af:zK K mg "Mode" ac) (ag:yE K ac) (ah:zK K mg "Thing" ae) (ai:yF K ae) (F:zx K "is_sound" "is_sound" gu f fd) (B:Bl mg) (ao:Fn P w K mg base "is_whole" ["thing"] k uI) (aL:Fn P w K mg base "is_push" ["value"] k Ze) (aO:Fn P w K mg base "is_mode" ["value","many","wide"] k (Zh ac)):zL P w K mg base zd (k + 1) f fd ["many","pushes","modes"] (Zi ac):=by
 refine F.ok Kf (λvs H Q E h=>?_) (λcdv A outer s H vs Q E hr h=>?_)
 ·obtain ⟨_,_,_,_,_,_,_,rfl,_⟩:=h
  rfl
 obtain ⟨pa,ma,pv,mv,n,bs,ms,rfl,hpa,hpv,hma,hmv,TO,q⟩:=h
 refine ⟨_,(zP (yG (PW.pt (xc (xE (yi (zi ao hr rfl (zC (zB 0) zG)))) (xc (yd (zp jJ) (zB 0) zI (yH _)) (wO (yd (zp gF) (zB 0) (ZW rfl B.MOST_NUMBERS_) (yH _)))))) (zW (zg xi)) yM)
  (zP (yG (PW.pt (xc (xE (yi (zn xh rfl B.isinstance_ yr (zC (zB 1) (zC (xW (v:=.ty "list") (u:=.type "list") rfl B.list_ xY rfl) zG))))) (wO (xE (yi (zn (vg rfl) rfl B.all_ vi (zC (xX (own:=["push"]) (caps:=[]) (uC rfl) rfl (xx (zB 1)) (λ_ _ _ _=>zr (i:=0) (show (["push"]:List Str).Nodup by decide +kernel) rfl (Or.inl rfl)) (λ_ _ _ _=>(zi aL hr rfl (zC (zB 0) zG)))) zG))))))) (zW (zg xi)) yM)
  (zP (yG (PW.pt (xc (xE (yi (zn xh rfl B.isinstance_ yr (zC (zB 2) (zC (xW (v:=.ty "list") (u:=.type "list") rfl B.list_ xY rfl) zG))))) (wO (yd wQ (zn zu rfl B.len_ yt (zC (zB 2) zG)) zI (yH _))))) (zW (zg xi)) yM)
  (zW (zg (zn (vg rfl) rfl B.all_ vi (zC (xX (own:=["mode"]) (caps:=[(0,"many"),(1,"pushes")]) (wI (S:=zY gu) (N:=["many","pushes","modes"]) rfl (by decide +kernel) rfl ⟨_,rfl⟩ rfl (by decide +kernel) (by decide +kernel)) rfl (xx (zB 2)) (λ_ _ _ _=>zr (i:=0) (show (["mode","many","pushes"]:List Str).Nodup by decide +kernel) rfl (Or.inl rfl)) (λ_ _ _ _=>(zi aO hr rfl (zC (zB 0) (zC (zB 1) (zC (zn (show yw _ _ (uk K) from zu) rfl B.len_ yt (zC (zB 2) zG)) zG)))))) zG))))))),?_⟩
 try dsimp only [zJ,Cx.nox,Cx.wish]
 have n1:=TO.n1
 have n3:=TO.n3
 have b6:=TO.b6
 have m1:=TO.m1
 have m40:=TO.m40
 have lp:pv.length=bs.length:=Paired.length hpv
 have lm:mv.length=ms.length:=Paired.length hmv
 refine ⟨_,rfl,(n:Int),rfl,_,rfl,zb ?_⟩
 refine ⟨_,rfl,_,_,rfl,rfl,_,rfl,yl (decide_eq_false (show ¬ ((n:Int) < 1) by omega)) ?_⟩
 refine ⟨_,rfl,_,_,rfl,rfl,_,rfl,yl (decide_eq_false (show ¬ ((n:Int) > 3) by omega)) ?_⟩
 refine ⟨_,rfl,_,_,_,_,rfl,.lst hpa,vF K,_,rfl,zb ?_⟩
 refine ⟨_,rfl,pa,rfl,⟨_,zE.of hpa⟩,wU (K:=K) (a:=pa) (xs:=pv) (λi ys σ H'=>ys=(List.replicate i true).map V.bl/\(∃ o,σ=[o])/\H'=H)
  ⟨rfl,⟨none,rfl⟩,rfl⟩ (λi ys σ H' hi ⟨e1,_,e3⟩=>⟨by rw [e3]; exact zE.of hpa,by rw [e1,List.length_map,List.length_replicate]; exact Nat.le_refl _⟩) (Nat.le_of_lt (yB (by omega))) ?_ ?_⟩
 ·rintro i x ys σ H' hi ⟨rfl,⟨o,rfl⟩,rfl⟩
  obtain ⟨b,hb,c,rfl,ec⟩:=ym hpv hi
  refine ⟨_,rfl,c,b.1,b.2,rfl,ec,TO.bok b (List.mem_of_getElem? hb),?_,⟨_,rfl⟩,rfl⟩
  rw [List.replicate_succ',List.map_append]
  rfl
 rintro ys σ H1 ⟨rfl,⟨o,rfl⟩,rfl⟩ l1 hl1
 refine ⟨l1,List.replicate _ true,rfl,zE.of zO,?_⟩
 rw [uJ]
 refine ⟨_,rfl,zb ?_⟩
 have s1:=zU hl1 (HO.lst ((List.replicate pv.length true).map V.bl))
 obtain ⟨H2,hH2⟩:∃ H2,H2=upd H1 l1 (HO.lst ((List.replicate pv.length true).map V.bl)):=⟨_,rfl⟩
 rw [<- hH2] at s1 |-
 have hma2:=s1 _ _ hma
 refine ⟨_,rfl,_,_,_,_,rfl,.lst hma2,vF K,_,rfl,zb ?_⟩
 refine ⟨_,rfl,ma,_,rfl,.inl (zE.of hma2),rfl,_,rfl,yl (wf (by omega)) ?_⟩
 refine ⟨_,rfl,ma,rfl,⟨_,zE.of hma2⟩,wU (K:=K) (a:=ma) (xs:=mv) (λi ys σ H'=>ys=(List.replicate i true).map V.bl/\(∃ o,σ=[o,some (.int (n:Int)),some (.ref pa)])/\zD H2 H')
  ⟨rfl,⟨none,rfl⟩,zD.refl _⟩ (λi ys σ H' hi ⟨e1,_,sm⟩=>⟨zE.of (sm _ _ hma2),by rw [e1,List.length_map,List.length_replicate]; exact Nat.le_refl _⟩) (Nat.le_of_lt (yB (by omega))) ?_ ?_⟩
 ·rintro i x ys σ H' hi ⟨rfl,⟨o,rfl⟩,sm⟩
  obtain ⟨md,hmd,hx⟩:=ym hmv hi
  have s2:=s1.trans sm
  refine ⟨_,rfl,_,rfl,_,rfl,pa,_,rfl,.inl (zE.of (s2 _ _ hpa)),x,md,n,bs.length,(by rw [lp]; rfl),hx.same s2,TO.mok md (List.mem_of_getElem? hmd),λH3 s3=>⟨?_,⟨_,rfl⟩,sm.trans s3⟩⟩
  rw [List.replicate_succ',List.map_append]
  rfl
 rintro ys σ H3 ⟨rfl,⟨o,rfl⟩,sm⟩ l hl
 refine ⟨l,List.replicate _ true,rfl,zE.of zO,?_⟩
 rw [uJ]
 exact q _ (s1.trans (sm.trans (zU hl _)))
noncomputable abbrev YF:Stmt:=j0 (yN 37) 0
theorem Kh:zw ["self","many","pushes","modes"] ["self","many","pushes","modes"] (zY YF):=.a
theorem Ki {k:Nat} {f:Addr} {fd:FuncData} {ac ae:Addr} (af:zK K mg "Mode" ac) (ag:yE K ac) (ah:zK K mg "Thing" ae) (ai:yF K ae) (F:zx K "__init__" "Thing.__init__" YF f fd) (B:Bl mg) (aQ:Fn P w K mg base "is_sound" ["many","pushes","modes"] k (Zi ac)):zL P w K mg base zd (k + 1) f fd ["self","many","pushes","modes"] (Zj ae ac):=by
 refine F.ok Kh (λvs H Q E h=>?_) (λcdv A outer s H vs Q E hr h=>?_)
 ·obtain ⟨_,_,_,_,_,_,_,_,_,rfl,_⟩:=h
  rfl
 obtain ⟨o,dx,pa,ma,pv,mv,n,bs,ms,rfl,ho,hpa,hpv,hma,hmv,TO,q⟩:=h
 refine ⟨_,(zP (yG (xE (yi (zi aQ hr rfl (zC (zB 1) (zC (zB 2) (zC (zB 3) zG)))))) (zW gB) yM)
  (zP (yG (PW.pt (xc (yd (zp gF) (zn zu rfl B.len_ yt (zC (zB 2) zG)) (ZW rfl B.MOST_PUSHES_) (yH _)) (wO (yd (zp gF) (zn zu rfl B.len_ yt (zC (zB 3) zG)) (ZW rfl B.MOST_MODES_) (yH _))))) (zW gB) yM)
  (zP (ve (zB 0) (zB 1) rfl)
  (zP (ve (zB 0) (wc vf rfl B.list_ xY (zC (zB 2) zG)) rfl)
  (zW (ve (zB 0) (wc vf rfl B.list_ xY (zC (zB 3) zG)) rfl)))))),?_⟩
 try dsimp only [zJ,Cx.nox,Cx.wish]
 have b6:=TO.b6
 have m40:=TO.m40
 have lp:pv.length=bs.length:=Paired.length hpv
 have lm:mv.length=ms.length:=Paired.length hmv
 refine ⟨_,rfl,_,rfl,_,rfl,pa,ma,pv,mv,n,bs,ms,rfl,hpa,hpv,hma,hmv,TO,λH1 s1=>?_⟩
 refine ⟨_,rfl,zb ?_⟩
 refine ⟨_,rfl,pa,_,rfl,.inl (zE.of (s1 _ _ hpa)),_,_,rfl,rfl,_,rfl,yl (decide_eq_false (show ¬ ((pv.length:Int) > 6) by omega)) ?_⟩
 refine ⟨_,rfl,ma,_,rfl,.inl (zE.of (s1 _ _ hma)),_,_,rfl,rfl,_,rfl,yl (decide_eq_false (show ¬ ((mv.length:Int) > 40) by omega)) ?_⟩
 have ho1:=s1 _ _ ho
 refine ⟨_,rfl,_,rfl,o,ae,dx,_,rfl,ho1,ah.cl,ai.n_many,(by show 0 < 1000; decide),?_⟩
 have NI:∀ (fs:List (Str × V)) (l:List V),HO.lst l≠.ins ae dx fs:=λ_ _ z=>by cases z
 have e2:=zO (H:=H1) (a:=o) (o:=HO.ins ae dx (zH "many" (.int (n:Int)) []))
 have T2:yP o H1 (upd H1 o (HO.ins ae dx (zH "many" (.int (n:Int)) []))):=wW o H1 _
 obtain ⟨H2,hH2⟩:∃ H2,H2=upd H1 o (HO.ins ae dx (zH "many" (.int (n:Int)) [])):=⟨_,rfl⟩
 rw [<- hH2] at e2 T2 |-
 have hpa2:=keepB ho1 T2 (s1 _ _ hpa) (NI _ _)
 have hma2:=keepB ho1 T2 (s1 _ _ hma) (NI _ _)
 refine ⟨_,rfl,pa,pv,rfl,.inl (zE.of hpa2),λkp hkp=>?_⟩
 have z3:=zU hkp (HO.lst pv)
 have ekp:=zO (H:=H2) (a:=kp) (o:=HO.lst pv)
 have G2:yP o H H2:=(zD.but s1).trans T2
 have nkp:=uq G2 e2 hkp
 obtain ⟨H3,hH3⟩:∃ H3,H3=upd H2 kp (HO.lst pv):=⟨_,rfl⟩
 rw [<- hH3] at z3 ekp |-
 refine ⟨_,rfl,o,ae,dx,_,rfl,(z3 _ _ e2),ah.cl,ai.n_kept_pushes,(by show 1 < 1000; decide),?_⟩
 have e4:=zO (H:=H3) (a:=o) (o:=HO.ins ae dx (zH "kept_pushes" (.ref kp) (zH "many" (.int (n:Int)) [])))
 have T4:yP o H3 (upd H3 o (HO.ins ae dx (zH "kept_pushes" (.ref kp) (zH "many" (.int (n:Int)) [])))):=wW o H3 _
 obtain ⟨H4,hH4⟩:∃ H4,H4=upd H3 o (HO.ins ae dx (zH "kept_pushes" (.ref kp) (zH "many" (.int (n:Int)) []))):=⟨_,rfl⟩
 rw [<- hH4] at e4 T4 |-
 have e23:=z3 _ _ e2
 have hma4:=keepB e23 T4 (z3 _ _ hma2) (NI _ _)
 have hkp4:=keepB e23 T4 ekp (NI _ _)
 refine ⟨_,rfl,ma,mv,rfl,.inl (zE.of hma4),λkm hkm=>?_⟩
 have z5:=zU hkm (HO.lst mv)
 have ekm:=zO (H:=H4) (a:=km) (o:=HO.lst mv)
 have G4:yP o H H4:=G2.trans ((zD.but z3).trans T4)
 have nkm:=uq G4 e4 hkm
 have nkk:kp≠km:=wN hkp4 hkm
 obtain ⟨H5,hH5⟩:∃ H5,H5=upd H4 km (HO.lst mv):=⟨_,rfl⟩
 rw [<- hH5] at z5 ekm |-
 have e45:=z5 _ _ e4
 refine ⟨_,rfl,o,ae,dx,_,rfl,(z5 _ _ e4),ah.cl,ai.n_kept_modes,(by show 2 < 1000; decide),?_⟩
 have T6:yP o H5 (upd H5 o (HO.ins ae dx (zH "kept_modes" (.ref km) (zH "kept_pushes" (.ref kp) (zH "many" (.int (n:Int)) []))))):=wW o H5 _
 exact q kp km _ (G4.trans ((zD.but z5).trans T6)) nkp nkm nkk zO (keepB e45 T6 (z5 _ _ hkp4) (NI _ _)) (keepB e45 T6 ekm (NI _ _))
noncomputable abbrev YG:Stmt:=j0 (yN 37) 1
theorem Kj:zw ["self"] ["self"] (zY YG):=.a
theorem Kk {k:Nat} {f:Addr} {fd:FuncData} {ac ae:Addr} (af:zK K mg "Mode" ac) (ag:yE K ac) (ah:zK K mg "Thing" ae) (ai:yF K ae) (F:zx K "pushes" "Thing.pushes" YG f fd) (B:Bl mg):zL P w K mg base zd (k + 1) f fd ["self"] (Zk ae ac):=by
 refine F.ok Kj (λvs H Q E h=>?_) (λcdv A outer s H vs Q E hr h=>?_)
 ·obtain ⟨_,_,_,_,_,_,_,_,rfl,_⟩:=h
  rfl
 obtain ⟨o,kp,km,n,bs,ms,pv,mv,rfl,TA,q⟩:=h
 refine ⟨_,(zW (zg (wc vf rfl B.list_ xY (zC (xj (zB 0) rfl) zG)))),?_⟩
 try dsimp only [zJ,Cx.nox,Cx.wish]
 obtain ⟨dx,ins⟩:=TA.ins
 refine ⟨_,rfl,o,ae,dx,_,_,rfl,ins,ah.cl,ai.n_kept_pushes,rfl,kp,pv,rfl,.inl (zE.of TA.hp),λl hl=>?_⟩
 exact q l _ (zU hl _) hl zO
noncomputable abbrev YH:Stmt:=j0 (yN 37) 2
theorem Kl:zw ["self"] ["self"] (zY YH):=.a
theorem Km {k:Nat} {f:Addr} {fd:FuncData} {ac ae:Addr} (af:zK K mg "Mode" ac) (ag:yE K ac) (ah:zK K mg "Thing" ae) (ai:yF K ae) (F:zx K "modes" "Thing.modes" YH f fd) (B:Bl mg):zL P w K mg base zd (k + 1) f fd ["self"] (Zl ae ac):=by
 refine F.ok Kl (λvs H Q E h=>?_) (λcdv A outer s H vs Q E hr h=>?_)
 ·obtain ⟨_,_,_,_,_,_,_,_,rfl,_⟩:=h
  rfl
 obtain ⟨o,kp,km,n,bs,ms,pv,mv,rfl,TA,q⟩:=h
 refine ⟨_,(zW (zg (wc vf rfl B.list_ xY (zC (xj (zB 0) rfl) zG)))),?_⟩
 try dsimp only [zJ,Cx.nox,Cx.wish]
 obtain ⟨dx,ins⟩:=TA.ins
 refine ⟨_,rfl,o,ae,dx,_,_,rfl,ins,ah.cl,ai.n_kept_modes,rfl,km,mv,rfl,.inl (zE.of TA.hm),λl hl=>?_⟩
 exact q l _ (zU hl _) hl zO
noncomputable abbrev YI:Stmt:=yN 22
theorem u8:zw ["numbers","point","top","bottom","number","part"] ["numbers","point"] (zY YI):=.a
theorem Kn {k:Nat} {f:Addr} {fd:FuncData} {ac ae:Addr} (af:zK K mg "Mode" ac) (ag:yE K ac) (ah:zK K mg "Thing" ae) (ai:yF K ae) (F:zx K "raw_sum" "raw_sum" YI f fd) (B:Bl mg):zL P w K mg base zd (k + 1) f fd ["numbers","point"] (gm K):=by
 refine F.ok u8 (λvs H Q E h=>?_) (λcdv A outer s H vs Q E hr h=>?_)
 ·obtain ⟨_,_,_,_,_,rfl,_⟩:=h
  rfl
 obtain ⟨na,pa,ws,pv,pts,rfl,hna,hpa,hpt,GW,q⟩:=h
 refine ⟨_,(zP (zj (i:=2) u8.nd rfl (Or.inl rfl) zI)
  (zP (zj (i:=3) u8.nd rfl (Or.inl rfl) zI)
  (zP (wE PassesOwn.never rfl (WH rfl B.zip_ (zC (zB 0) (zC (zB 1) zG))) (uU rfl (xM (zr (i:=4) u8.nd rfl (Or.inl rfl)) (xM (zr (i:=5) u8.nd rfl (Or.inl rfl)) v7))) (zP (zj (i:=2) u8.nd rfl (Or.inl rfl) (zN (zp yV) (zN (ji yf) (zB 2) (zV yC (zB 5) zI (λ_ _=>rfl))) (zN (ji yf) (zN (ji yf) (zB 4) (zV yC (zB 5) zI (λ_ _=>rfl))) (zB 3))))
   (zW (zj (i:=3) u8.nd rfl (Or.inl rfl) (zN (ji yf) (zB 3) (zV yC (zB 5) zI (λ_ _=>rfl)))))))
  (zW (zg (wR (zC (zB 2) (zC (zB 3) zG)))))))),?_⟩
 try dsimp only [zJ,Cx.nox,Cx.wish]
 have lp:pv.length=pts.length:=Paired.length hpt
 have hlen:(ws.map V.int).length<=pv.length:=by rw [List.length_map,GW.len,lp]; exact Nat.le_refl _
 refine ⟨_,rfl,_,rfl,na,pa,rfl,WR (xs:=ws.map V.int) (ys:=pv) hna hpa
  (λi σ H2=>∃ n1 p1,σ=[some (.ref na),some (.ref pa),some (.int (((ws.zip pts).take i).foldl xf (0,1)).1),some (.int (((ws.zip pts).take i).foldl xf (0,1)).2),n1,p1]/\zD H H2)
  ⟨none,none,rfl,zD.refl _⟩ (λi σ H2 _ ⟨_,_,_,sm⟩=>sm) hlen ?_ ?_⟩
 ·rintro i x y T σ H2 hx hy hT ⟨n1,p1,rfl,sm⟩
  obtain ⟨wv,hw,rfl⟩:=vT hx
  obtain ⟨pr,hpr,r,rfl,er⟩:=ym hpt hy
  have hz:(ws.zip pts)[i]? = some (wv,pr):=by rw [List.getElem?_zip_eq_some]; exact ⟨hw,hpr⟩
  have hzm:=List.mem_of_getElem? hz
  obtain ⟨z1,z2,z3,z4⟩:=jW GW _ hzm
  have hil:i < pts.length:=(List.getElem?_eq_some_iff.mp hpr).1
  obtain ⟨b1,b2⟩:=gk i ((ws.zip pts).take i) (by rw [List.length_take,qV GW]; omega) λq hq=>(jW GW q (List.mem_of_mem_take hq)).2
  have n7:=GW.n7
  have s2:=sm.trans (zU hT (HO.tup [V.int wv,V.ref r]))
  have er2:=s2 _ _ er
  have tk:((ws.zip pts).take (i + 1)).foldl xf (0,1)=xf (((ws.zip pts).take i).foldl xf (0,1)) (wv,pr):=by rw [x9 hz,List.foldl_append]; rfl
  refine ⟨T,_,rfl,zS.of zO,rfl,_,_,rfl,_,_,rfl,rfl,?_⟩
  refine ⟨_,rfl,_,rfl,r,_,1,_,rfl,rfl,zS.of er2,xg,_,_,rfl,rfl,⟨b1.mono (by omega),z4.mono⟩,?_⟩
  refine ⟨_,rfl,_,rfl,r,_,0,_,rfl,rfl,zS.of er2,wj,_,_,rfl,rfl,⟨z2.mono,z3.mono⟩,_,rfl,_,_,rfl,rfl,⟨(z2.mul z3).mono,b2.mono (by omega)⟩,_,_,rfl,rfl,?_⟩
  refine ⟨_,rfl,_,rfl,r,_,1,_,rfl,rfl,zS.of er2,xg,_,_,rfl,rfl,⟨b2.mono (by omega),z4.mono⟩,?_⟩
  refine ⟨some (.int wv),some (.ref r),?_,s2⟩
  rw [tk]
  rfl
 ·rintro σ H2 ⟨n1,p1,rfl,sm⟩
  have tk:(ws.zip pts).take (ws.map V.int).length=ws.zip pts:=List.take_of_length_le (by rw [qV GW,List.length_map,GW.len]; exact Nat.le_refl _)
  rw [tk]
  refine ⟨_,rfl,_,rfl,(by show 2<=sizeLine; decide),λr hr'=>?_⟩
  exact q r _ (sm.trans (zU hr' _)) zO
noncomputable abbrev YJ:Stmt:=yN 23
theorem Wo:zw ["numbers","point","add","divisor","total"] ["numbers","point","add","divisor"] (zY YJ):=.a
theorem Ko {k:Nat} {f:Addr} {fd:FuncData} {ac ae:Addr} (af:zK K mg "Mode" ac) (ag:yE K ac) (ah:zK K mg "Thing" ae) (ai:yF K ae) (F:zx K "divided_sum" "divided_sum" YJ f fd) (B:Bl mg) (aw:Fn P w K mg base "raw_sum" ["numbers","point"] k (gm K)) (av:we P w K mg base "fraction" ["top","bottom"] k gh (.int 1)):zL P w K mg base zd (k + 1) f fd ["numbers","point","add","divisor"] (Z1 K):=by
 refine F.ok Wo (λvs H Q E h=>?_) (λcdv A outer s H vs Q E hr h=>?_)
 ·obtain ⟨_,_,_,_,_,_,_,rfl,_⟩:=h
  rfl
 obtain ⟨na,pa,ws,pv,pts,a,d,rfl,hna,hpa,hpt,GW,b2,ba,d0,bd,q⟩:=h
 refine ⟨_,(zP (zj (i:=4) Wo.nd rfl (Or.inl rfl) (zi aw hr rfl (zC (zB 0) (zC (zB 1) zG))))
  (zW (zg (zi av.fn hr rfl (zC (zN (zp yV) (zV yC (zB 4) zI (λ_ _=>rfl)) (zN (ji yf) (zB 2) (zV yC (zB 4) zI (λ_ _=>rfl)))) (zC (zN (ji yf) (zV yC (zB 4) zI (λ_ _=>rfl)) (zB 3)) zG)))))),?_⟩
 try dsimp only [zJ,Cx.nox,Cx.wish]
 have p0:=KA GW
 have pq:=Int.mul_pos p0 d0
 refine ⟨_,rfl,_,rfl,na,pa,ws,pv,pts,rfl,hna,hpa,hpt,GW,λr1 H1 s1 e1=>?_⟩
 refine ⟨_,rfl,r1,_,0,_,rfl,rfl,zS.of e1,wj,_,rfl,_,rfl,r1,_,1,_,rfl,rfl,zS.of e1,xg,_,_,rfl,rfl,⟨ba.mono,b2.mono⟩,_,_,rfl,rfl,_,rfl,r1,_,1,_,rfl,rfl,zS.of e1,xg,_,rfl,_,_,rfl,rfl,⟨b2.mono,bd.mono⟩,_,_,rfl,(by omega),(b2.mul bd).mono,λr H2 s2 e2=>?_⟩
 exact q r H2 (s1.trans s2) e2
noncomputable abbrev YK:Stmt:=yN 24
theorem Wp:zw ["row","point","total"] ["row","point"] (zY YK):=.a
theorem Kp {k:Nat} {f:Addr} {fd:FuncData} {ac ae:Addr} (af:zK K mg "Mode" ac) (ag:yE K ac) (ah:zK K mg "Thing" ae) (ai:yF K ae) (F:zx K "holds" "holds" YK f fd) (B:Bl mg) (aw:Fn P w K mg base "raw_sum" ["numbers","point"] k (gm K)):zL P w K mg base zd (k + 1) f fd ["row","point"] (Z2 K):=by
 refine F.ok Wp (λvs H Q E h=>?_) (λcdv A outer s H vs Q E hr h=>?_)
 ·obtain ⟨_,_,_,_,_,_,rfl,_⟩:=h
  rfl
 obtain ⟨ra,pa,ws,b,pv,pts,rfl,hra,hpa,hpt,PO,WO,bb,q⟩:=h
 refine ⟨_,(zP (zj (i:=2) Wp.nd rfl (Or.inl rfl) (zi aw hr rfl (zC (vR WL (zB 0) gJ (xy (w8 vA zI))) (zC (zB 1) zG))))
  (zW (zg (vB (zp jv) (zV yC (zB 2) zI (λ_ _=>rfl)) (zN (ji yf) (zV yC (zB 0) (w8 vA zI) (λ_ _=>rfl)) (zV yC (zB 2) zI (λ_ _=>rfl))) (yH _))))),?_⟩
 try dsimp only [zJ,Cx.nox,Cx.wish]
 refine ⟨_,rfl,_,rfl,_,rfl,ra,_,rfl,zS.of hra,X2 _ _,λp hp=>?_⟩
 have ec:zk (xo ws b) none (some (-1))=ws.map V.int:=X1 _ _
 have s1:=zU hp (HO.tup (zk (xo ws b) none (some (-1))))
 refine ⟨_,rfl,p,pa,ws,pv,pts,rfl,.inl (zS.of (zO.trans (by rw [ec]))),s1.seq hpa,hpt.same s1,GO.of PO WO,λr1 H1 s2 e1=>?_⟩
 have b2:=(KB (GO.of PO WO)).2
 refine ⟨_,rfl,r1,_,0,_,rfl,rfl,zS.of e1,wj,_,rfl,_,rfl,ra,_,_,_,rfl,rfl,zS.of (s2 _ _ (s1 _ _ hra)),v8 _ _,_,rfl,r1,_,1,_,rfl,rfl,zS.of e1,xg,_,_,rfl,rfl,⟨bb.mono,b2.mono⟩,_,_,rfl,rfl,?_⟩
 exact q H1 (s1.trans s2)
noncomputable abbrev gv:Stmt:=yN 25
theorem Kq:zw ["room","point"] ["room","point"] (zY gv):=.a
theorem Kr {k:Nat} {f:Addr} {fd:FuncData} {ac ae:Addr} (af:zK K mg "Mode" ac) (ag:yE K ac) (ah:zK K mg "Thing" ae) (ai:yF K ae) (F:zx K "lies_in" "lies_in" gv f fd) (B:Bl mg) (aT:Fn P w K mg base "holds" ["row","point"] k (Z2 K)):zL P w K mg base zd (k + 1) f fd ["room","point"] (Z3 K):=by
 refine F.ok Kq (λvs H Q E h=>?_) (λcdv A outer s H vs Q E hr h=>?_)
 ·obtain ⟨_,_,_,_,_,_,rfl,_⟩:=h
  rfl
 obtain ⟨rm,pa,rv,rows,pv,pts,rfl,hrm,hrv,RO,r1000,hpa,hpt,PO,q⟩:=h
 refine ⟨_,(zW (zg (zn (vg rfl) rfl B.all_ vi (zC (xX (own:=["row"]) (caps:=[(1,"point")]) (wI (S:=zY gv) (N:=["room","point"]) rfl (by decide +kernel) rfl ⟨_,rfl⟩ rfl (by decide +kernel) (by decide +kernel)) rfl (xx (zB 0)) (λ_ _ _ _=>zr (i:=0) (show (["row","point"]:List Str).Nodup by decide +kernel) rfl (Or.inl rfl)) (λ_ _ _ _=>(zi aT hr rfl (zC (zB 0) (zC (zB 1) zG))))) zG)))),?_⟩
 try dsimp only [zJ,Cx.nox,Cx.wish]
 have lr:rv.length=rows.length:=Paired.length hrv
 refine ⟨_,rfl,rm,rfl,⟨_,hrm⟩,wU (K:=K) (a:=rm) (xs:=rv)
  (λi ys σ H'=>ys=((rows.take i).map (wB pts)).map V.bl/\(∃ o,σ=[o,some (.ref pa)])/\zD H H')
  ⟨rfl,⟨none,rfl⟩,zD.refl _⟩ (λi ys σ H' hi ⟨e1,_,sm⟩=>⟨sm.seq hrm,by rw [e1,List.length_map,List.length_map,List.length_take]; omega⟩) (by rw [lr]; exact Nat.le_of_lt (yB (by omega))) ?_ ?_⟩
 ·rintro i x ys σ H' hi ⟨rfl,⟨o,rfl⟩,sm⟩
  obtain ⟨row,hrow,a,rfl,ea⟩:=ym hrv hi
  have W:=RO _ (List.mem_of_getElem? hrow)
  refine ⟨_,rfl,_,rfl,a,pa,row.take pts.length,row.getD pts.length 0,pv,pts,rfl,(sm _ _ ea).trans (by rw [X8 W.len]),sm.seq hpa,hpt.same sm,PO,W.rw,(W.at (Nat.le_refl _)).2,λH2 s2=>⟨?_,⟨_,rfl⟩,sm.trans s2⟩⟩
  rw [x9 hrow,List.map_append,List.map_append]
  rfl
 rintro ys σ H' ⟨rfl,⟨o,rfl⟩,sm⟩ l hl
 refine ⟨l,(rows.take rv.length).map (wB pts),rfl,zE.of zO,?_⟩
 rw [lr,List.take_length]
 have e:(rows.map (wB pts)).all id=rows.all (wB pts):=by rw [List.all_map]; rfl
 rw [e]
 exact q _ (sm.trans (zU hl _))
end
structure yJ where
 k:Int
 s:Int × Int
 us:List (Int × Int)
noncomputable def xv (H:Hp) (v:V) (z:yJ):Prop:=∃ (t sa ua:Addr) (uv:List V),v=.ref t/\H t=some (.tup [.int z.k,.ref sa,.ref ua])/\H sa=some (.tup [.int z.s.1,.int z.s.2])/\H ua=some (.lst uv)/\zX H uv z.us
theorem xv.same {H H':Hp} {v:V} {z:yJ} (s:zD H H') (h:xv H v z):xv H' v z:=
 let ⟨t,sa,ua,uv,e,h1,h2,h3,h4⟩:=h
 ⟨t,sa,ua,uv,e,s _ _ h1,s _ _ h2,s _ _ h3,zX.same s h4⟩
theorem xC {H H':Hp} {vs:List V} {zs:List yJ} (s:zD H H') (h:Paired (xv H) vs zs):Paired (xv H') vs zs:=Paired.mapP h λ_ _ z=>z.same s
noncomputable def vU (H:Hp) (v:V) (p:List (Int × Int)):Prop:=∃ (a:Addr) (pv:List V),v=.ref a/\H a=some (.lst pv)/\zX H pv p
theorem vU.same {H H':Hp} {v:V} {p:List (Int × Int)} (s:zD H H') (h:vU H v p):vU H' v p:=
 let ⟨a,pv,e,h1,h2⟩:=h
 ⟨a,pv,e,s _ _ h1,zX.same s h2⟩
noncomputable def vL (H0 H:Hp) (v:V) (p:List (Int × Int)):Prop:=∃ (a:Addr) (pv:List V),v=.ref a/\H0 a=none/\H a=some (.lst pv)/\zX H pv p
theorem vL.same {H0 H H':Hp} {v:V} {p:List (Int × Int)} (s:zD H H') (h:vL H0 H v p):vL H0 H' v p:=
 let ⟨a,pv,e,f,h1,h2⟩:=h
 ⟨a,pv,e,f,s _ _ h1,zX.same s h2⟩
theorem gw {H0 H H':Hp} {vs:List V} {ps:List (List (Int × Int))} (s:zD H H') (h:Paired (vL H0 H) vs ps):Paired (vL H0 H') vs ps:=Paired.mapP h λ_ _ z=>z.same s
theorem Ks {H:Hp} {l:Addr} {xs:List V} (hl:H l=some (.lst xs)) {pv:List V} {p:List (Int × Int)} (h:zX H pv p):zX (hide [l] H) pv p:=Paired.mapP h λ_ _ ⟨r,e,q⟩=>⟨r,e,(xZ λz=>by rw [List.mem_singleton.mp z,hl] at q; cases q).trans q⟩
theorem YL {α β:Type} {R:α->β->Prop}:∀ {xs:List α} {ys:List β} {y:β},Paired R xs (ys++[y])->∃ xs' x,xs=xs'++[x]/\R x y
 | _,[],_,.cons h .nil=>⟨[],_,rfl,h⟩
 | _,_ :: ys,_,.cons h t=>by
  obtain ⟨xs',x,e,r⟩:=YL t
  exact ⟨_ :: xs',x,by rw [e]; rfl,r⟩
noncomputable def wq (m:MD) (i:Nat) (p us:List (Int × Int)) (s:Int × Int):Int × Int:=xK (m.nexts.getD i []) (m.push.getD i []) (m.steer.getD i 0) (m.add.getD i 0) m.div p us s
noncomputable def xS (m:MD) (p us:List (Int × Int)) (s:Int × Int):List (Int × Int):=(List.range m.nexts.length).map λi=>wq m i p us s
structure v3 (p us:List (Int × Int)) (s:Int × Int):Prop where
 ok:∀ q∈p++us++[s],0 < q.2/\Bd 5500 q.1/\Bd 5500 q.2
 l3:p.length<=3
 l2:us.length<=3
 big:Bd 7000 (bt (p++us++[s]))
theorem v3.s0 {p us:List (Int × Int)} {s:Int × Int} (h:v3 p us s):0 < s.2:=(h.ok s (List.mem_append_right _ (List.mem_singleton.mpr rfl))).1
theorem v3.big2 {p us:List (Int × Int)} {s:Int × Int} (h:v3 p us s):Bd 7000 (bt (p++us)):=by
 have b:=h.big
 have s0:=h.s0
 have e:bt (p++us++[s])=bt (p++us) * s.2:=by
  rw [v0 (p++us) [s]]
  simp [bt]
 rw [e] at b
 refine b.of_le ?_
 rw [Int.natAbs_mul]
 exact Nat.le_mul_of_pos_right _ (by omega)
structure MZ (m:MD):Prop where
 rows:∀ r∈m.rows,∀ x∈r,Bd 1000 x
 nexts:∀ r∈m.nexts,∀ x∈r,Bd 1000 x
 steer:∀ x∈m.steer,Bd 1000 x
 push:∀ r∈m.push,∀ x∈r,Bd 1000 x
 add:∀ x∈m.add,Bd 1000 x
 div:Bd 1000 m.div
theorem gx {H:Hp} {vs:List V} {tab:List (List Int)} (h:zf H vs tab) {i:Nat} (hi:i < tab.length):∃ a,vs[i]? = some (.ref a)/\H a=some (.lst ((tab.getD i []).map V.int))/\tab.getD i []∈tab:=by
 have l:=Paired.length h
 have e:vs[i]? = some (vs[i]'(by omega)):=List.getElem?_eq_getElem _
 obtain ⟨r,hr,a,ea,q⟩:=ym h e
 have g:tab.getD i []=r:=by rw [List.getD_eq_getElem?_getD,hr]; rfl
 rw [g]
 exact ⟨a,e.trans (by rw [ea]),q,List.mem_of_getElem? hr⟩
theorem gy {r:List Int} {j:Nat} (h:j < r.length):yA (r.map V.int) (j:Int)=some (.int (r.getD j 0))/\r.getD j 0∈r:=by
 have e:r[j]? = some (r.getD j 0):=by rw [List.getD_eq_getElem?_getD,List.getElem?_eq_getElem h]; rfl
 exact ⟨wS (by rw [List.getElem?_map,e]; rfl),List.mem_of_getElem? e⟩
inductive YM (CM:Addr) (vs:List V) (H:Hp) (Q:VK) (E:XK):Prop
 | mk (v:V) (m:MD) (i n ww:Nat) (pa sa ua:Addr) (pv uv:List V) (p us:List (Int × Int)) (sv:Int × Int) (_:vs=[v,.int (i:Int),.ref pa,.ref sa,.ref ua]) (_:xp CM H v m) (_:yo m n ww) (_:MZ m) (_:i < n) (_:H pa=some (.lst pv)) (_:zX H pv p) (_:p.length=n) (_:H sa=some (.tup [.int sv.1,.int sv.2])) (_:H ua=some (.lst uv)) (_:zX H uv us) (_:us.length=ww) (_:v3 p us sv) (_:∀ r H',zD H H'->H' r=some (.tup [.int (wq m i p us sv).1,.int (wq m i p us sv).2])->Q (.ref r) H'):YM CM vs H Q E
inductive YN (CM:Addr) (vs:List V) (H:Hp) (Q:VK) (E:XK):Prop
 | mk (v:V) (m:MD) (n ww:Nat) (pa sa ua:Addr) (pv uv:List V) (p us:List (Int × Int)) (sv:Int × Int) (_:vs=[v,.ref pa,.ref sa,.ref ua]) (_:xp CM H v m) (_:yo m n ww) (_:MZ m) (_:H pa=some (.lst pv)) (_:zX H pv p) (_:p.length=n) (_:H sa=some (.tup [.int sv.1,.int sv.2])) (_:H ua=some (.lst uv)) (_:zX H uv us) (_:us.length=ww) (_:v3 p us sv) (_:∀ l lv H',zD H H'->H l=none->H' l=some (.lst lv)->zX H' lv (xS m p us sv)->Q (.ref l) H'):YN CM vs H Q E
structure qW (n:Nat) (bs:List (Int × Int)) (ms:List MD):Prop where
 n3:n<=3
 mok:∀ m∈ms,yo m n bs.length
 mz:∀ m∈ms,MZ m
 m40:ms.length<=40
 bb:∀ b∈bs,Bd 1000 b.1/\Bd 1000 b.2
theorem wL {x:Addr} {H:Hp} (o:HO):zD (hide [x] H) (hide [x] (upd H x o)):=Zm ((xA.refl _ _).put o (by simp))
theorem wY {H H':Hp} {pv:List V} {bs:List (Int × Int)} (s:zD H H') (h:Paired (wX H) pv bs):Paired (wX H') pv bs:=Paired.mapP h λ_ _ z=>z.same s
theorem jX {C:Addr} {H H':Hp} {mv:List V} {ms:List MD} (s:zD H H') (h:Paired (xp C H) mv ms):Paired (xp C H') mv ms:=Paired.mapP h λ_ _ z=>z.same s
noncomputable def xw (u b:Int × Int):Bool:=decide (b.1 * u.2<=u.1) && decide (u.1<=b.2 * u.2)
theorem Kt {u b:Int × Int} (c:(!decide (u.1 * 1 < b.1 * u.2))=true):(!decide (b.2 * u.2 < u.1 * 1))=xw u b:=by
 have c1:¬ u.1 * 1 < b.1 * u.2:=by simpa using c
 unfold xw
 rw [decide_eq_true (show b.1 * u.2<=u.1 by omega),Bool.true_and]
 by_cases z:b.2 * u.2 < u.1 * 1
 ·rw [decide_eq_true z,decide_eq_false (by omega)]; rfl
 ·rw [decide_eq_false z,decide_eq_true (by omega)]; rfl
theorem Ku {u b:Int × Int} (c:¬ (!decide (u.1 * 1 < b.1 * u.2))=true):xw u b=false:=by
 have c1:u.1 * 1 < b.1 * u.2:=by simpa using c
 unfold xw
 rw [decide_eq_false (show ¬ b.1 * u.2<=u.1 by omega)]
 rfl
noncomputable def xB (us bs:List (Int × Int)):Bool:=decide (us.length=bs.length) && (us.zip bs).all λq=>xw q.1 q.2
noncomputable abbrev YO:MD:=⟨[],[],[],[],[],0⟩
noncomputable def uM (ms:List MD) (k:Int):List (List Int):=(ms.getD k.toNat YO).rows
noncomputable def zy (ms:List MD) (bs p:List (Int × Int)) (z:yJ):Bool:=(decide (0<=z.k) && decide (z.k < (ms.length:Int)) && xB z.us bs) && (uM ms z.k).all (wB p)
theorem Wq {ms:List MD} {bs p:List (Int × Int)} {z:yJ} (h:z.k < 0):zy ms bs p z=false:=by
 unfold zy
 rw [decide_eq_false (show ¬ 0<=z.k by omega)]
 rfl
theorem Wr {ms:List MD} {bs p:List (Int × Int)} {z:yJ} (h:(ms.length:Int)<=z.k):zy ms bs p z=false:=by
 unfold zy
 rw [decide_eq_false (show ¬ z.k < (ms.length:Int) by omega),Bool.and_false]
 rfl
theorem Ws {ms:List MD} {bs p:List (Int × Int)} {z:yJ} (h:(uM ms z.k).all (wB p)=false):zy ms bs p z=false:=by
 unfold zy
 rw [h,Bool.and_false]
theorem Kv {ms:List MD} {bs p:List (Int × Int)} {z:yJ} (h:z.us.length≠bs.length):zy ms bs p z=false:=by
 unfold zy xB
 rw [decide_eq_false h,Bool.false_and,Bool.and_false,Bool.false_and]
theorem Kw {ms:List MD} {bs p:List (Int × Int)} {z:yJ} (h0:0<=z.k) (h1:z.k < (ms.length:Int)) (h2:(uM ms z.k).all (wB p)=true) (h3:z.us.length=bs.length):zy ms bs p z=(z.us.zip bs).all λq=>xw q.1 q.2:=by
 unfold zy xB
 rw [decide_eq_true h0,decide_eq_true h1,decide_eq_true h3,h2,Bool.and_true,Bool.true_and,Bool.true_and,Bool.true_and]
theorem gz {ms:List MD} {bs p:List (Int × Int)} {z:yJ} (h:zy ms bs p z=true):0<=z.k/\z.k < (ms.length:Int)/\z.us.length=bs.length:=by
 unfold zy xB at h
 simp only [Bool.and_eq_true,decide_eq_true_eq] at h
 exact ⟨h.1.1.1,h.1.1.2,h.1.2.1⟩
structure Wt (z:yJ):Prop where
 us:∀ u∈z.us,0 < u.2/\Bd 1000 u.1/\Bd 1000 u.2
 l4:z.us.length<=4
inductive YQ (vs:List V) (H:Hp) (Q:VK) (E:XK):Prop
 | mk (a b:Addr) (u bd:Int × Int) (_:vs=[.ref a,.ref b]) (_:H a=some (.tup [.int u.1,.int u.2])) (_:H b=some (.tup [.int bd.1,.int bd.2])) (_:0 < u.2) (_:Bd 1000 u.1) (_:Bd 1000 u.2) (_:Bd 1000 bd.1) (_:Bd 1000 bd.2) (_:∀ H',zD H H'->Q (.bl (xw u bd)) H'):YQ vs H Q E
inductive YR (CM:Addr) (vs:List V) (H:Hp) (Q:VK) (E:XK):Prop
 | mk (ma ba pa:Addr) (v:V) (mv bv pv:List V) (n:Nat) (ms:List MD) (bs p:List (Int × Int)) (z:yJ) (_:vs=[.ref ma,.ref ba,.ref pa,v]) (_:H ma=some (.lst mv)) (_:Paired (xp CM H) mv ms) (_:H ba=some (.lst bv)) (_:Paired (wX H) bv bs) (_:H pa=some (.lst pv)) (_:zX H pv p) (_:xv H v z) (_:Wt z) (_:qW n bs ms) (_:p.length=n) (_:v2 p) (_:bs.length<=3) (_:∀ H',zD H H'->Q (.bl (zy ms bs p z)) H'):YR CM vs H Q E
noncomputable def qX (ms:List MD) (p:List (Int × Int)) (z:yJ):List (Int × Int):=xS (ms.getD z.k.toNat ⟨[],[],[],[],[],0⟩) p z.us z.s
noncomputable def yO (ms:List MD) (p:List (Int × Int)) (run:List yJ):List (Int × Int):=run.foldl (qX ms) p
theorem YS (ms:List MD) (p:List (Int × Int)) (run:List yJ) (z:yJ):yO ms p (run++[z])=qX ms (yO ms p run) z:=by
 unfold yO
 rw [List.foldl_append]
 rfl
noncomputable def yK (ms:List MD) (p:List (Int × Int)) (run:List yJ) (n:Nat):List (List (Int × Int)):=(List.range n).map λj=>yO ms p (run.take j)
theorem jY (ms:List MD) (p:List (Int × Int)) (run:List yJ) (n:Nat):yK ms p run (n + 1)=yK ms p run n++[yO ms p (run.take n)]:=by
 unfold yK
 rw [List.range_succ,List.map_append]
 rfl
theorem YT (ms:List MD) (p:List (Int × Int)) (run:List yJ) (n:Nat):(yK ms p run n).length=n:=by
 unfold yK
 rw [List.length_map,List.length_range]
theorem Wu {C:Addr} {H:Hp} {mv:List V} {ms:List MD} (h:Paired (xp C H) mv ms) {k:Nat} (hk:k < ms.length):∃ v m,mv[k]? = some v/\ms[k]? = some m/\xp C H v m/\ms.getD k ⟨[],[],[],[],[],0⟩=m:=by
 have l:=Paired.length h
 have e:mv[k]? = some (mv[k]'(by omega)):=List.getElem?_eq_getElem _
 obtain ⟨m,hm,q⟩:=ym h e
 exact ⟨_,m,e,hm,q,by rw [List.getD_eq_getElem?_getD,hm]; rfl⟩
theorem Kx {n w:Nat} {m:MD} (h:yo m n w) (p us:List (Int × Int)) (s:Int × Int):(xS m p us s).length=n:=by
 unfold xS
 rw [List.length_map,List.length_range]
 exact h.nexts.1
structure Wk (n:Nat) (ms:List MD) (bs p:List (Int × Int)) (run:List yJ) (g:Nat):Prop where
 le:g<=run.length
 st:∀ z∈run,Wt z
 ok:∀ j z,j < g->run[j]? = some z->zy ms bs (yO ms p (run.take j)) z=true
 ln:∀ j,j<=g->(yO ms p (run.take j)).length=n
 pt:∀ j,j<=g->j < run.length->v2 (yO ms p (run.take j))
 vo:∀ j z,j < g->run[j]? = some z->v3 (yO ms p (run.take j)) z.us z.s
inductive YU (C:Addr) (vs:List V) (H:Hp) (Q:VK) (E:XK):Prop
 | mk (e:Addr) (i:Int) (_:vs=[.ref e,.int i]) (_:0<=i) (_:i<=9) (_:H e=some (vI e C)) (_:∀ d,H d=none->d≠e->Q .non (upd (upd H e (uK e C d)) d (.xd [("step",.int i)]))):YU C vs H Q E
inductive g9 (C CM cN:Addr) (vs:List V) (H:Hp) (Q:VK) (E:XK):Prop
 | mk (o kp km pa ra:Addr) (n:Nat) (bs:List (Int × Int)) (ms:List MD) (bv mv pv rv:List V) (p:List (Int × Int)) (run:List yJ) (g:Nat) (_:vs=[.ref o,.ref pa,.ref ra]) (_:xq C CM H o n bs ms bv mv kp km) (_:qW n bs ms) (_:bs.length<=3) (_:H pa=some (.lst pv)) (_:zX H pv p) (_:p.length=n) (_:H ra=some (.lst rv)) (_:Paired (xv H) rv run) (_:run.length<=9) (_:Wk n ms bs p run g) (_:(g=run.length->∀ l lv H',zD H H'->H l=none->H' l=some (.lst lv)->Paired (vL H H') lv (yK ms p run (run.length + 1))->Q (.ref l) H')) (_:(∀ z,run[g]? = some z->zy ms bs (yO ms p (run.take g)) z=false/\∀ d H',zD H H'->H' d=some (.xd [("step",.int (g:Int))])->E (.ref cN) (some d) H')):g9 C CM cN vs H Q E
section
variable {P:Program} {w:World} {K:PySem.W.Frag} {mg:Str->Option Value} {base:Heap}
noncomputable abbrev YV:Stmt:=yN 28
theorem qY:zw ["mode","place","point","steering","pushes","numbers","values"] ["mode","place","point","steering","pushes"] (zY YV):=.a
theorem Ky {k:Nat} {f:Addr} {fd:FuncData} {ac ae:Addr} (af:zK K mg "Mode" ac) (ag:yE K ac) (ah:zK K mg "Thing" ae) (ai:yF K ae) (F:zx K "number_behind" "number_behind" YV f fd) (B:Bl mg) (aU:Fn P w K mg base "divided_sum" ["numbers","point","add","divisor"] k (Z1 K)):zL P w K mg base zd (k + 1) f fd ["mode","place","point","steering","pushes"] (YM ac):=by
 refine F.ok qY (λvs H Q E h=>?_) (λcdv A outer s H vs Q E hr h=>?_)
 ·obtain ⟨_,_,_,_,_,_,_,_,_,_,_,_,_,rfl,_⟩:=h
  rfl
 obtain ⟨v,m,i,n,ww,pa,sa,ua,pv,uv,p,us,sv,rfl,hM,MO,mz,hi,hpa,hpt,lp,hsa,hua,hut,lu,vo,q⟩:=h
 refine ⟨_,(zP (zj (i:=5) qY.nd rfl (Or.inl rfl) (zN xH (zV zo (xj (zB 0) rfl) (zB 1) (λ_ _=>rfl)) (zV zo (xj (zB 0) rfl) (zB 1) (λ_ _=>rfl))))
  (zP (zj (i:=6) qY.nd rfl (Or.inl rfl) (zN xH (zB 2) (zB 4)))
  (zP (yG (yd jI (zV zo (xj (zB 0) rfl) (zB 1) (λ_ _=>rfl)) zI (yH _)) (zP (zj (i:=5) qY.nd rfl (Or.inl rfl) (zN xH (zB 5) (yq (zC (zV zo (xj (zB 0) rfl) (zB 1) (λ_ _=>rfl)) zG))))
   (zW (zj (i:=6) qY.nd rfl (Or.inl rfl) (zN xH (zB 6) (yq (zC (zB 3) zG)))))) yM)
  (zW (zg (zi aU hr rfl (zC (zB 5) (zC (zB 6) (zC (zV zo (xj (zB 0) rfl) (zB 1) (λ_ _=>rfl)) (zC (xj (zB 0) rfl) zG)))))))))),?_⟩
 try dsimp only [zJ,Cx.nox,Cx.wish]
 obtain ⟨o,M,rfl,k0⟩:=hM
 have l1:=MO.nexts.1
 have l2:=MO.push.1
 have l3:=MO.steer
 have l4:=MO.add
 obtain ⟨na,en,gn,mn⟩:=gx k0.hnv (i:=i) (by omega)
 obtain ⟨qa,eq',gq,mq⟩:=gx k0.hpv (i:=i) (by omega)
 obtain ⟨es,ms⟩:=gy (r:=m.steer) (j:=i) (by omega)
 obtain ⟨ea,ma⟩:=gy (r:=m.add) (j:=i) (by omega)
 have ln:=MO.nexts.2 _ mn
 have lq:=MO.push.2 _ mq
 have n3:=vo.l3
 have w3:=vo.l2
 have lpv:pv.length=p.length:=Paired.length hpt
 have luv:uv.length=us.length:=Paired.length hut
 have dp:0 < m.div:=by have:=MO.div; omega
 have hpos:∀ q∈p,0 < q.2:=λq hq=>(vo.ok q (List.mem_append_left _ (List.mem_append_left _ hq))).1
 have upos:∀ q∈us,0 < q.2:=λq hq=>(vo.ok q (List.mem_append_left _ (List.mem_append_right _ hq))).1
 refine ⟨_,rfl,o,ac,M.dx,_,_,rfl,k0.ins,af.cl,ag.n_nexts,rfl,_,rfl,M.n,_,_,_,rfl,rfl,zE.of k0.hn,(wS en),_,rfl,o,ac,M.dx,_,_,rfl,k0.ins,af.cl,ag.n_push,rfl,_,rfl,M.p,_,_,_,rfl,rfl,zE.of k0.hp,(wS eq'),na,qa,_,_,rfl,rfl,gn,gq,Nat.le_of_lt (yB (by rw [List.length_map,List.length_map]; omega)),λc1 hc1=>?_⟩
 have yG1:=zU hc1 (HO.lst ((m.nexts.getD i []).map V.int++(m.push.getD i []).map V.int))
 have ec1:=zO (H:=H) (a:=c1) (o:=HO.lst ((m.nexts.getD i []).map V.int++(m.push.getD i []).map V.int))
 generalize hhG1:upd H c1 (HO.lst ((m.nexts.getD i []).map V.int++(m.push.getD i []).map V.int))=G1 at yG1 ec1 |-
 have SG1:=yG1
 refine ⟨_,rfl,_,rfl,pa,ua,_,_,rfl,rfl,(SG1 _ _ hpa),(SG1 _ _ hua),Nat.le_of_lt (yB (by omega)),λc2 hc2=>?_⟩
 have yG2:=zU hc2 (HO.lst (pv++uv))
 have ec2:=zO (H:=G1) (a:=c2) (o:=HO.lst (pv++uv))
 generalize hhG2:upd G1 c2 (HO.lst (pv++uv))=G2 at yG2 ec2 |-
 have SG2:=SG1.trans yG2
 replace ec1:=(yG2 _ _ ec1)
 refine ⟨_,rfl,o,ac,M.dx,_,_,rfl,(SG2 _ _ k0.ins),af.cl,ag.n_steer,rfl,_,rfl,M.s,_,_,_,rfl,rfl,zE.of (SG2 _ _ k0.hs),es,rfl,_,rfl,?_⟩
 have GW:GO ((m.nexts.getD i [])++(m.push.getD i [])) (p++us):=⟨by rw [List.length_append,List.length_append]; omega,by rw [List.length_append]; omega,λx hx=>(List.mem_append.mp hx).elim (mz.nexts _ mn x) (mz.push _ mq x),λq hq=>vo.ok q (List.mem_append_left _ hq)⟩
 have lnp:(m.nexts.getD i []).length=p.length:=by omega
 have lqu:(m.push.getD i []).length=us.length:=by omega
 refine yX (λc=>?_) (λc=>?_)
 ·refine ⟨_,rfl,_,rfl,o,ac,M.dx,_,_,rfl,(SG2 _ _ k0.ins),af.cl,ag.n_steer,rfl,_,rfl,M.s,_,_,_,rfl,rfl,zE.of (SG2 _ _ k0.hs),es,(by show 1<=sizeLine; decide),λd1 hd1=>?_⟩
  have yE1:=zU hd1 (HO.lst [V.int (m.steer.getD i 0)])
  have ed1:=zO (H:=G2) (a:=d1) (o:=HO.lst [V.int (m.steer.getD i 0)])
  generalize hhE1:upd G2 d1 (HO.lst [V.int (m.steer.getD i 0)])=E1 at yE1 ed1 |-
  have SE1:=SG2.trans yE1
  replace ec1:=(yE1 _ _ ec1)
  replace ec2:=(yE1 _ _ ec2)
  refine ⟨c1,d1,_,_,rfl,rfl,ec1,ed1,Nat.le_of_lt (yB (by rw [List.length_append,List.length_map,List.length_map]; show _ + 1<=1000; omega)),λc3 hc3=>?_⟩
  have yE2:=zU hc3 (HO.lst ((m.nexts.getD i []).map V.int++(m.push.getD i []).map V.int++[V.int (m.steer.getD i 0)]))
  have ec3:=zO (H:=E1) (a:=c3) (o:=HO.lst ((m.nexts.getD i []).map V.int++(m.push.getD i []).map V.int++[V.int (m.steer.getD i 0)]))
  generalize hhE2:upd E1 c3 (HO.lst ((m.nexts.getD i []).map V.int++(m.push.getD i []).map V.int++[V.int (m.steer.getD i 0)]))=E2 at yE2 ec3 |-
  have SE2:=SE1.trans yE2
  replace ec1:=(yE2 _ _ ec1)
  replace ec2:=(yE2 _ _ ec2)
  replace ed1:=(yE2 _ _ ed1)
  refine ⟨_,rfl,_,rfl,(by show 1<=sizeLine; decide),λd2 hd2=>?_⟩
  have yE3:=zU hd2 (HO.lst [V.ref sa])
  have ed2:=zO (H:=E2) (a:=d2) (o:=HO.lst [V.ref sa])
  generalize hhE3:upd E2 d2 (HO.lst [V.ref sa])=E3 at yE3 ed2 |-
  have SE3:=SE2.trans yE3
  replace ec1:=(yE3 _ _ ec1)
  replace ec2:=(yE3 _ _ ec2)
  replace ed1:=(yE3 _ _ ed1)
  replace ec3:=(yE3 _ _ ec3)
  refine ⟨c2,d2,_,_,rfl,rfl,ec2,ed2,Nat.le_of_lt (yB (by rw [List.length_append]; show _ + 1<=1000; omega)),λc4 hc4=>?_⟩
  have yE4:=zU hc4 (HO.lst (pv++uv++[V.ref sa]))
  have ec4:=zO (H:=E3) (a:=c4) (o:=HO.lst (pv++uv++[V.ref sa]))
  generalize hhE4:upd E3 c4 (HO.lst (pv++uv++[V.ref sa]))=E4 at yE4 ec4 |-
  have SE4:=SE3.trans yE4
  replace ec1:=(yE4 _ _ ec1)
  replace ec2:=(yE4 _ _ ec2)
  replace ed1:=(yE4 _ _ ed1)
  replace ec3:=(yE4 _ _ ec3)
  replace ed2:=(yE4 _ _ ed2)
  have e3:E4 c3=some (.lst (((m.nexts.getD i [])++(m.push.getD i [])++[(m.steer.getD i 0)]).map V.int)):=ec3.trans (by rw [List.map_append,List.map_append]; rfl)
  have ht:zX E4 (pv++uv++[V.ref sa]) (p++us++[sv]):=xR ⟨sa,rfl,(SE4 _ _ hsa)⟩ (gU (hpt.same SE4) (hut.same SE4))
  have G2:GO ((m.nexts.getD i [])++(m.push.getD i [])++[(m.steer.getD i 0)]) (p++us++[sv]):=⟨by rw [List.length_append,List.length_append,List.length_append,List.length_append]; show _ + 1=_ + 1; omega,by rw [List.length_append,List.length_append]; show _ + 1<=8; omega,λx hx=>(List.mem_append.mp hx).elim (GW.bw x) λz=>by rw [List.mem_singleton.mp z]; exact mz.steer _ ms,vo.ok⟩
  have al:=gi G2.len
  refine ⟨_,rfl,_,rfl,_,rfl,o,ac,M.dx,_,_,rfl,(SE4 _ _ k0.ins),af.cl,ag.n_add,rfl,_,rfl,M.a,_,_,_,rfl,rfl,zE.of (SE4 _ _ k0.ha),ea,_,rfl,o,ac,M.dx,_,_,rfl,(SE4 _ _ k0.ins),af.cl,ag.n_divisor,rfl,c3,c4,_,_,_,_,m.div,rfl,.inr (zE.of e3),zE.of ec4,ht,G2,(by rw [al]; exact vo.big),mz.add _ ma,dp,mz.div,λr H9 s9 e9=>?_⟩
  refine q r H9 (SE4.trans s9) (e9.trans ?_)
  rw [al]
  rfl
 have WY:(m.steer.getD i 0)=0:=by
  by_cases z:(m.steer.getD i 0)=0
  ·exact z
  ·exact absurd (by rw [wf z]; rfl) c
 have e3:G2 c1=some (.lst (((m.nexts.getD i [])++(m.push.getD i [])).map V.int)):=ec1.trans (by rw [List.map_append])
 have ht:zX G2 (pv++uv) (p++us):=gU (hpt.same SG2) (hut.same SG2)
 have al:=gi GW.len
 refine ⟨_,rfl,_,rfl,_,rfl,o,ac,M.dx,_,_,rfl,(SG2 _ _ k0.ins),af.cl,ag.n_add,rfl,_,rfl,M.a,_,_,_,rfl,rfl,zE.of (SG2 _ _ k0.ha),ea,_,rfl,o,ac,M.dx,_,_,rfl,(SG2 _ _ k0.ins),af.cl,ag.n_divisor,rfl,c1,c2,_,_,_,_,m.div,rfl,.inr (zE.of e3),zE.of ec2,ht,GW,(by rw [al]; exact vo.big2),mz.add _ ma,dp,mz.div,λr H9 s9 e9=>?_⟩
 refine q r H9 (SG2.trans s9) (e9.trans ?_)
 obtain ⟨z1,z2⟩:=Q5 (ad:=(m.add.getD i 0)) (dv:=m.div) (s:=sv) lnp lqu hpos upos vo.s0 dp
 rw [al,z1,z2]
 unfold wq
 rw [WY]
noncomputable abbrev kA:Stmt:=yN 27
theorem Kz:zw ["mode","point","steering","pushes"] ["mode","point","steering","pushes"] (zY kA):=.a
theorem K0 {k:Nat} {f:Addr} {fd:FuncData} {ac ae:Addr} (af:zK K mg "Mode" ac) (ag:yE K ac) (ah:zK K mg "Thing" ae) (ai:yF K ae) (F:zx K "point_behind" "point_behind" kA f fd) (B:Bl mg) (aV:Fn P w K mg base "number_behind" ["mode","place","point","steering","pushes"] k (YM ac)):zL P w K mg base zd (k + 1) f fd ["mode","point","steering","pushes"] (YN ac):=by
 refine F.ok Kz (λvs H Q E h=>?_) (λcdv A outer s H vs Q E hr h=>?_)
 ·obtain ⟨_,_,_,_,_,_,_,_,_,_,_,_,rfl,_⟩:=h
  rfl
 obtain ⟨v,m,n,ww,pa,sa,ua,pv,uv,p,us,sv,rfl,hM,MO,mz,hpa,hpt,lp,hsa,hua,hut,lu,vo,q⟩:=h
 refine ⟨_,(zW (zg (xX (own:=["place"]) (caps:=[(0,"mode"),(1,"point"),(2,"steering"),(3,"pushes")]) (wI (S:=zY kA) (N:=["mode","point","steering","pushes"]) rfl (by decide +kernel) rfl ⟨_,rfl⟩ rfl (by decide +kernel) (by decide +kernel)) rfl (wu rfl B.range_ (zC (zn zu rfl B.len_ yt (zC (xj (zB 0) rfl) zG)) zG)) (λ_ _ _ _=>zr (i:=0) (show (["place","mode","point","steering","pushes"]:List Str).Nodup by decide +kernel) rfl (Or.inl rfl)) (λ_ _ _ _=>(zi aV hr rfl (zC (zB 1) (zC (zB 0) (zC (zB 2) (zC (zB 3) (zC (zB 4) zG)))))))))),?_⟩
 try dsimp only [zJ,Cx.nox,Cx.wish]
 have hM2:=hM
 obtain ⟨o,M,rfl,k0⟩:=hM
 have l1:=MO.nexts.1
 have n3:=MO.n3
 have lnv:M.nv.length=m.nexts.length:=Paired.length k0.hnv
 refine ⟨_,rfl,o,ac,M.dx,_,_,rfl,k0.ins,af.cl,ag.n_nexts,rfl,M.n,_,rfl,.inl (zE.of k0.hn),_,rfl,(by omega),(by omega),j4 (lo:=0) (n:=((M.nv.length:Nat):Int).toNat)
  (λi ys σ H'=>zX H' ys ((List.range i).map λj=>wq m j p us sv)/\(∃ o1,σ=[o1,some (.ref o),some (.ref pa),some (.ref sa),some (.ref ua)])/\zD H H')
  ⟨.nil,⟨none,rfl⟩,zD.refl _⟩ (λi ys σ H' ⟨e1,_⟩=>by have:=Paired.length e1; rw [List.length_map,List.length_range] at this; omega) (Nat.le_of_lt (yB (by omega))) ?_ ?_⟩
 ·rintro i ys σ H' hi ⟨hys,⟨o1,rfl⟩,sm⟩
  refine ⟨_,rfl,_,rfl,_,rfl,_,rfl,_,rfl,.ref o,m,i,n,ww,pa,sa,ua,pv,uv,p,us,sv,(by rw [Int.zero_add]; rfl),xp.same sm hM2,MO,mz,(by omega),sm _ _ hpa,hpt.same sm,lp,sm _ _ hsa,sm _ _ hua,hut.same sm,lu,vo,λr H2 s2 e2=>⟨?_,⟨_,rfl⟩,sm.trans s2⟩⟩
  rw [List.range_succ,List.map_append]
  exact xR (R:=wA _) ⟨r,rfl,e2⟩ (zX.same s2 hys)
 rintro ys σ H' ⟨hys,⟨o1,rfl⟩,sm⟩ l hl
 have z:=zU hl (HO.lst ys)
 refine q l ys _ (sm.trans z) (sm.free hl) zO (zX.same z ?_)
 unfold xS
 rw [Int.toNat_natCast,lnv] at hys
 exact hys
noncomputable abbrev YW:Stmt:=yN 31
theorem K6:zw ["push","bound"] ["push","bound"] (zY YW):=.a
theorem K7 {k:Nat} {f:Addr} {fd:FuncData} {ac ae:Addr} (af:zK K mg "Mode" ac) (ag:yE K ac) (ah:zK K mg "Thing" ae) (ai:yF K ae) (F:zx K "lies_between" "lies_between" YW f fd) (B:Bl mg) (aF:Fn P w K mg base "under" ["one","other"] k Zq) (av:we P w K mg base "fraction" ["top","bottom"] k gh (.int 1)):zL P w K mg base zd (k + 1) f fd ["push","bound"] YQ:=by
 refine F.ok K6 (λvs H Q E h=>?_) (λcdv A outer s H vs Q E hr h=>?_)
 ·obtain ⟨_,_,_,_,rfl,_⟩:=h
  rfl
 obtain ⟨a,b,u,bd,rfl,ha,hb,u0,b1,b2,b3,b4,q⟩:=h
 refine ⟨_,(zW (zg (wD (kS (zi aF hr rfl (zC (zB 0) (zC (ug av hr rfl (zC (zV yC (zB 1) zI (λ_ _=>rfl)) zG)) zG)))) (w6 (kS (zi aF hr rfl (zC (ug av hr rfl (zC (zV yC (zB 1) zI (λ_ _=>rfl)) zG)) (zC (zB 0) zG)))))))),?_⟩
 try dsimp only [zJ,Cx.nox,Cx.wish]
 have b8:Bd 8000 (1:Int):=(Bd.lit (n:=1)).mono
 have b9:Bd 9000 (1:Int):=(Bd.lit (n:=1)).mono
 refine ⟨_,rfl,_,rfl,b,_,0,_,rfl,rfl,zS.of hb,wj,bd.1,1,rfl,(by decide),b8,λf1 H1 s1 e1=>?_⟩
 have e1:=WW e1
 refine ⟨a,f1,_,_,_,_,rfl,⟨s1 _ _ ha,e1,u0,by decide,b1.mono,b2.mono,b3.mono,b9⟩,_,rfl,_,rfl,?_⟩
 refine yX (λc=>?_) (λc=>?_)
 ·refine ⟨_,rfl,b,_,1,_,rfl,rfl,zS.of (s1 _ _ hb),xg,bd.2,1,rfl,(by decide),b8,λf2 H2 s2 e2=>?_⟩
  have e2:=WW e2
  have s12:=s1.trans s2
  refine ⟨_,rfl,f2,a,_,_,_,_,rfl,⟨e2,s12 _ _ ha,by decide,u0,b4.mono,b9,b1.mono,b2.mono⟩,_,rfl,?_⟩
  rw [Kt c]
  exact q H2 s12
 ·have y:=q H1 s1
  rw [Ku c] at y
  exact y
noncomputable abbrev YX:Stmt:=yN 30
theorem K8:zw ["modes","bounds","point","step"] ["modes","bounds","point","step"] (zY YX):=.a
theorem K9 {k:Nat} {f:Addr} {fd:FuncData} {ac ae:Addr} (af:zK K mg "Mode" ac) (ag:yE K ac) (ah:zK K mg "Thing" ae) (ai:yF K ae) (F:zx K "can_be_made" "can_be_made" YX f fd) (B:Bl mg) (aW:Fn P w K mg base "lies_in" ["room","point"] k (Z3 K)) (aX:Fn P w K mg base "lies_between" ["push","bound"] k YQ):zL P w K mg base zd (k + 1) f fd ["modes","bounds","point","step"] (YR ac):=by
 refine F.ok K8 (λvs H Q E h=>?_) (λcdv A outer s H vs Q E hr h=>?_)
 ·obtain ⟨_,_,_,_,_,_,_,_,_,_,_,_,rfl,_⟩:=h
  rfl
 obtain ⟨ma,ba,pa,v,mv,bv,pv,n,ms,bs,p,z,rfl,hma,hmv,hba,hbv,hpa,hpt,hZ,SG,TW,lp,PTG,lb3,q⟩:=h
 refine ⟨_,(zP (yG (PW.pt (xc (yd (zp jJ) (zV yC (zB 3) zI (λ_ _=>rfl)) zI (yH _)) (wO (yd (zp kn) (zV yC (zB 3) zI (λ_ _=>rfl)) (zn zu rfl B.len_ yt (zC (zB 0) zG)) (yH _))))) (zW (zg xi)) yM)
  (zP (yG (PW.pt (xc (xE (yi (zi aW hr rfl (zC (xj (zV zo (zB 0) (zV yC (zB 3) zI (λ_ _=>rfl)) (λ_ _=>rfl)) rfl) (zC (zB 2) zG))))) (wO (yd jI (zn zu rfl B.len_ yt (zC (zV yC (zB 3) zI (λ_ _=>rfl)) zG)) (zn zu rfl B.len_ yt (zC (zB 1) zG)) (yH _))))) (zW (zg xi)) yM)
  (zW (zg (zn (vg rfl) rfl B.all_ vi (zC (xX (own:=["push","bound"]) (caps:=[]) (uC rfl) rfl (X6 rfl B.zip_ (zC (zV yC (zB 3) zI (λ_ _=>rfl)) (zC (zB 1) zG))) (λ_ _ _ _=>show PG _ _ (uT K 2 (jF (v6 0) (jF (v6 1) uS))) from uU (n:=2) rfl (xM (zr (i:=0) (show (["push","bound"]:List Str).Nodup by decide +kernel) rfl (Or.inl rfl)) (xM (zr (i:=1) (show (["push","bound"]:List Str).Nodup by decide +kernel) rfl (Or.inl rfl)) v7))) (λ_ _ _ _=>(zi aX hr rfl (zC (zB 0) (zC (zB 1) zG))))) zG)))))),?_⟩
 try dsimp only [zJ,Cx.nox,Cx.wish]
 obtain ⟨t,sa,ua,uv,rfl,eT,eS,eU,hU⟩:=hZ
 have lmv:mv.length=ms.length:=Paired.length hmv
 have lbv:bv.length=bs.length:=Paired.length hbv
 have luv:uv.length=z.us.length:=Paired.length hU
 have lu4:=SG.l4
 refine ⟨_,rfl,t,_,0,_,rfl,rfl,zS.of eT,rfl,_,_,rfl,rfl,_,rfl,?_⟩
 refine yX (λc=>?_) (λc=>?_)
 ·have c1:z.k < 0:=of_decide_eq_true c
  have:=q H (zD.refl _)
  rw [Wq c1] at this
  exact this
 have c0:¬ z.k < 0:=λy=>c (decide_eq_true y)
 refine ⟨_,rfl,t,_,0,_,rfl,rfl,zS.of eT,rfl,_,rfl,ma,_,rfl,.inl (zE.of hma),_,_,rfl,rfl,_,rfl,?_⟩
 refine yX (λc=>?_) (λc=>?_)
 ·have c1:(mv.length:Int)<=z.k:=of_decide_eq_true c
  have:=q H (zD.refl _)
  rw [Wr (by omega)] at this
  exact this
 have c1:¬ (mv.length:Int)<=z.k:=λy=>c (decide_eq_true y)
 have ek:z.k=((z.k.toNat:Nat):Int):=by omega
 obtain ⟨w0,md,ew,em,hmd,eg⟩:=Wu hmv (k:=z.k.toNat) (by omega)
 obtain ⟨o,M,rfl,k0⟩:=hmd
 have mm:=List.mem_of_getElem? em
 have MO:=TW.mok md mm
 have mz:=TW.mz md mm
 have er:uM ms z.k=md.rows:=by unfold uM; rw [eg]
 have ea:yA mv z.k=some (.ref o):=by rw [ek]; exact wS ew
 refine ⟨_,rfl,_,rfl,t,_,0,_,rfl,rfl,zS.of eT,rfl,ma,_,_,_,rfl,rfl,zE.of hma,ea,o,ac,M.dx,_,_,rfl,k0.ins,af.cl,ag.n_rows,rfl,_,rfl,M.r,pa,M.rv,md.rows,pv,p,rfl,zE.of k0.hr,k0.hrv,(λr hr=>⟨by rw [lp]; exact MO.rows r hr,mz.rows r hr⟩),MO.few,zE.of hpa,hpt,PTG,λH1 s1=>⟨_,rfl,?_⟩⟩
 cases hall:md.rows.all (wB p) with
 | false=>
  refine yz rfl ?_
  have:=q H1 s1
  rw [Ws (by rw [er]; exact hall)] at this
  exact this
 | true=>
 refine yl rfl ?_
 have eT1:=s1 _ _ eT
 have eU1:=s1 _ _ eU
 have hba1:=s1 _ _ hba
 refine ⟨_,rfl,t,_,2,_,rfl,rfl,zS.of eT1,rfl,ua,_,rfl,.inl (zE.of eU1),_,rfl,ba,_,rfl,.inl (zE.of hba1),rfl,_,rfl,?_⟩
 by_cases cl:z.us.length=bs.length
 case neg=>
  refine yz (gN (by omega)) ?_
  have:=q H1 s1
  rw [Kv cl] at this
  exact this
 refine yl (by rw [vj (show (uv.length:Int)=(bv.length:Int) by omega)]; rfl) ?_
 refine ⟨_,rfl,t,_,2,_,rfl,rfl,zS.of eT1,rfl,_,rfl,ua,ba,rfl,⟨_,zE.of eU1⟩,⟨_,zE.of hba1⟩,Jx (K:=K) (a:=ua) (b:=ba) (xs:=uv) (ys:=bv)
  (λi ys σ H'=>ys=(((z.us.zip bs).take i).map λq=>xw q.1 q.2).map V.bl/\(∃ o1 o2,σ=[o1,o2])/\zD H1 H')
  ⟨rfl,⟨none,none,rfl⟩,zD.refl _⟩ (λi zs σ H' hi ⟨e1,_,sm⟩=>⟨zE.of (sm _ _ eU1),zE.of (sm _ _ hba1),by rw [e1,List.length_map,List.length_map,List.length_take]; exact Nat.min_le_left _ _⟩) (by omega) (Nat.le_of_lt (yB (by omega))) ?_ ?_⟩
 ·rintro i x y T zs σ H' hx hy hT ⟨rfl,⟨o1,o2,rfl⟩,sm⟩
  obtain ⟨u,hu,a,rfl,ea⟩:=ym hU hx
  obtain ⟨b,hb,c,rfl,ec⟩:=ym hbv hy
  have s2:=s1.trans (sm.trans (zU hT (HO.tup [V.ref a,V.ref c])))
  obtain ⟨b1,b2⟩:=TW.bb b (List.mem_of_getElem? hb)
  obtain ⟨u1,u2,u3⟩:=SG.us u (List.mem_of_getElem? hu)
  have hz:(z.us.zip bs)[i]? = some (u,b):=List.getElem?_zip_eq_some.mpr ⟨hu,hb⟩
  refine ⟨T,_,rfl,zS.of zO,rfl,_,_,rfl,_,_,rfl,rfl,?_⟩
  refine ⟨_,rfl,_,rfl,a,c,u,b,rfl,s2 _ _ ea,s2 _ _ ec,u1,u2,u3,b1,b2,λH2 s3=>⟨?_,⟨_,_,rfl⟩,sm.trans ((zU hT _).trans s3)⟩⟩
  rw [x9 hz,List.map_append,List.map_append]
  rfl
 rintro ys σ H' ⟨rfl,⟨o1,o2,rfl⟩,sm⟩ l hl
 refine ⟨l,((z.us.zip bs).take uv.length).map λq=>xw q.1 q.2,rfl,zE.of zO,?_⟩
 have lz:(z.us.zip bs).length=uv.length:=by rw [List.length_zip]; omega
 have:=q _ (s1.trans (sm.trans (zU hl (HO.lst ((((z.us.zip bs).take uv.length).map λq=>xw q.1 q.2).map V.bl)))))
 rw [Kw (by omega) (by omega) (by rw [er]; exact hall) cl] at this
 rw [<- lz,List.take_length] at this |-
 rw [List.all_map]
 exact this
end
section
variable {P:Program} {w:World} {K:PySem.W.Frag} {mg:Str->Option Value} {base:Heap}
noncomputable abbrev YY:Stmt:=j0 (yN 7) 0
theorem zDH:zw ["self","step"] ["self","step"] (zY YY):=.a
theorem zDR {k:Nat} {f:Addr} {fd:FuncData} {cN cS fI:Addr} (F:zx K "__init__" "NoRun.__init__" YY f fd) (B:Bl mg) (Z:wo K mg cN cS fI):zL P w K mg base zd (k + 1) f fd ["self","step"] (YU cN):=by
 refine F.ok zDH (λvs H Q E h=>?_) (λcdv A outer s H vs Q E hr h=>?_)
 ·obtain ⟨_,_,rfl,_⟩:=h
  rfl
 obtain ⟨e,i,rfl,i0,i9,he,q⟩:=h
 refine ⟨_,(zP (wb (Qo Z rfl (zC (zB 0) (zC (Qm (zB 1)) zG))))
  (zW (Qq Z (zB 0) (zB 1) rfl))),?_⟩
 try dsimp only [zJ,Cx.nox,Cx.wish]
 exact ⟨_,rfl,_,rfl,i,rfl,i0,i9,λtx=>⟨e,tx,rfl,he,_,rfl,_,rfl,e,rfl,he,q⟩⟩
noncomputable abbrev YZ:Stmt:=yN 29
theorem jZ:zw ["thing","point","run","modes","bounds","points","number","step"] ["thing","point","run"] (zY YZ):=.a
theorem zHK {k:Nat} {f:Addr} {fd:FuncData} {cN cS:Addr} {ac ae:Addr} (af:zK K mg "Mode" ac) (ag:yE K ac) (ah:zK K mg "Thing" ae) (ai:yF K ae) (F:zx K "walked" "walked" YZ f fd) (B:Bl mg) (x_N:jU P w K mg base cN cS ["self","step"] k (YU cN)) (aY:ui P w K mg base ae "modes" ["self"] (k + 1) (Zl ae ac)) (aZ:ui P w K mg base ae "pushes" ["self"] (k + 1) (Zk ae ac)) (bc:Fn P w K mg base "can_be_made" ["modes","bounds","point","step"] (k + 1) (YR ac)) (be:Fn P w K mg base "point_behind" ["mode","point","steering","pushes"] (k + 1) (YN ac)):zL P w K mg base (xU P w) (k + 1 + 1) f fd ["thing","point","run"] (g9 ae ac cN):=by
 refine F.okD jZ (λvs H Q E h=>?_) (λcdv A outer s H vs Q E hr h=>?_)
 ·obtain ⟨_,_,_,_,_,_,_,_,_,_,_,_,_,_,_,rfl,_⟩:=h
  rfl
 obtain ⟨o,kp,km,pa,ra,n,bs,ms,bv,mv,pv,rv,p,run,g,rfl,TA,TW,b3,hpa,hpt,lp,hra,hrun,r9,WK,q,qx⟩:=h
 have ZN:mg "NoRun" = some (.ref cN):=by
  obtain ⟨_,_,_,z,_⟩:=x_N.ex
  exact z.mgC
 have hrm:=hr
 refine ⟨_,(zP (zj (i:=3) jZ.nd rfl (Or.inl rfl) (WA aY ah hrm (zB 0)))
  (zP (zj (i:=4) jZ.nd rfl (Or.inl rfl) (WA aZ ah hrm (zB 0)))
  (zP (zj (i:=5) jZ.nd rfl (Or.inl rfl) (yq (zC (wc vf rfl B.list_ xY (zC (zB 1) zG)) zG)))
  (zP (wE PassesOwn.leaving rfl (QA rfl B.enumerate_ (zC (zB 2) zG)) (uU rfl (xM (zr (i:=6) jZ.nd rfl (Or.inl rfl)) (xM (zr (i:=7) jZ.nd rfl (Or.inl rfl)) v7))) (zP (yG (xE (yi (zi bc hr rfl (zC (zB 3) (zC (zB 4) (zC (zV zo (zB 5) (w8 vA zI) (λ_ _=>rfl)) (zC (zB 7) zG))))))) (zW (Qu (E:=E) x_N ZN hr rfl (zC (zB 6) zG))) yM)
   (zW (wb (vC PySem.F.plainAttrs_list PySem.F.slot_list_append PySem.F.type_list_append xG (zB 5) (zC (zi be hr rfl (zC (zV zo (zB 3) (zV yC (zB 7) zI (λ_ _=>rfl)) (λ_ _=>rfl)) (zC (zV zo (zB 5) (w8 vA zI) (λ_ _=>rfl)) (zC (zV yC (zB 7) zI (λ_ _=>rfl)) (zC (zV yC (zB 7) zI (λ_ _=>rfl)) zG))))) zG))))))
  (zW (zg (zB 5))))))),?_⟩
 try dsimp only [zJ,Cx.nox,Cx.wish]
 obtain ⟨dx,ins⟩:=TA.ins
 have lrv:rv.length=run.length:=Paired.length hrun
 have gle:=WK.le
 refine ⟨_,rfl,o,dx,_,rfl,ins,rfl,o,kp,km,n,bs,ms,bv,mv,rfl,TA,λl1 J1 y1 _ el1=>?_⟩
 have SG1:=y1
 refine ⟨_,rfl,o,dx,_,rfl,(SG1 _ _ ins),rfl,o,kp,km,n,bs,ms,bv,mv,rfl,(xq.same SG1 TA),λl2 J2 y2 _ el2=>?_⟩
 have SG2:=SG1.trans y2
 replace el1:=(y2 _ _ el1)
 refine ⟨_,rfl,pa,_,rfl,.inl (zE.of (SG2 _ _ hpa)),λl3 hl3=>?_⟩
 have yG3:=zU hl3 (HO.lst pv)
 have el3:=zO (H:=J2) (a:=l3) (o:=HO.lst pv)
 generalize hhG3:upd J2 l3 (HO.lst pv)=G3 at yG3 el3 |-
 have SG3:=SG2.trans yG3
 replace el1:=(yG3 _ _ el1)
 replace el2:=(yG3 _ _ el2)
 refine ⟨(by show 1<=sizeLine; decide),λpl hpl=>?_⟩
 have hplH:H pl=none:=SG3.free hpl
 have y4:=zU hpl (HO.lst [V.ref l3])
 have epl:=zO (H:=G3) (a:=pl) (o:=HO.lst [V.ref l3])
 generalize hhJ4:upd G3 pl (HO.lst [V.ref l3])=J4 at y4 epl |-
 have s4:=ur (B:=[pl]) (λx hx=>by rw [List.mem_singleton.mp hx]; exact hpl) y4
 have TA3:=(xq.same SG3 TA)
 have hrun3:=xC SG3 hrun
 have hra3:=(SG3 _ _ hra)
 have P0:vL H G3 (.ref l3) p:=⟨l3,pv,rfl,SG2.free hl3,el3,hpt.same SG3⟩
 refine ⟨_,rfl,ra,rfl,⟨_,zE.of (y4 _ _ hra3)⟩,QB (K:=K) (a:=ra) (xs:=rv)
  (λi σ H'=>i<=g/\∃ (xs:List V) (o6 o7:Option V),σ=[some (.ref o),some (.ref pa),some (.ref ra),some (.ref l1),some (.ref l2),some (.ref pl),o6,o7]/\zD G3 (hide [pl] H')/\H' pl=some (.lst xs)/\Paired (vL H (hide [pl] H')) xs (yK ms p run (i + 1)))
  ⟨Nat.zero_le _,[.ref l3],none,none,rfl,s4,epl,.cons (P0.same s4) .nil⟩ (λi σ H' _ ⟨_,_,_,_,_,sm,_⟩=>zE.of (yD _ _ (sm _ _ hra3))) ?_ ?_⟩
 ·rintro i x T σ H' hix hT ⟨ig,xs,o6,o7,rfl,sm,ep,hxs⟩
  obtain ⟨z,hz,hZ⟩:=ym hrun3 hix
  have il:=(List.getElem?_eq_some_iff.mp hz).1
  have SG:=WK.st z (List.mem_of_getElem? hz)
  have sj:=sm.trans yD
  have zT:=zU hT (HO.tup [V.int (i:Int),x])
  have sJ:=sj.trans zT
  have lx:=Paired.length hxs
  rw [YT] at lx
  rw [jY] at hxs
  obtain ⟨xs',v9,rfl,hv9⟩:=YL hxs
  rw [<- jY] at hxs
  have hv:=hv9
  obtain ⟨qa,qv,rfl,_,eq',hq⟩:=(vL.same (yD.trans zT) hv9)
  have epT:=zT _ _ ep
  refine ⟨T,_,rfl,zS.of zO,rfl,_,_,rfl,_,_,rfl,rfl,?_⟩
  generalize hhK1:upd H' T (HO.tup [V.int (i:Int),x])=K1 at zT sJ epT eq' hq |-
  have lpt:=WK.ln i ig
  refine ⟨_,rfl,_,rfl,_,rfl,_,rfl,pl,_,_,_,rfl,rfl,zE.of epT,v8 _ _,_,rfl,l1,l2,qa,x,mv,bv,qv,n,ms,bs,_,z,rfl,sJ _ _ el1,jX sJ TA3.hmv,sJ _ _ el2,wY sJ TA3.hpv,eq',hq,hZ.same sJ,SG,TW,lpt,WK.pt i ig il,b3,λK2 z2=>⟨_,rfl,?_⟩⟩
  have s2:=sJ.trans z2
  by_cases ci:i < g
  case neg=>
   have eg:i=g:=by omega
   subst eg
   obtain ⟨cf,qx⟩:=qx z hz
   rw [cf]
   refine yR ?_
   refine ⟨_,rfl,(by show 1<=10; decide),λe he=>⟨e,(i:Int),rfl,(by omega),(by omega),zO,λd hd ne=>⟨rfl,d,(zl (Ne.symm ne)).trans zO,?_⟩⟩⟩
   rw [zl ne] at hd
   have ye:=zU he (vI e cN)
   refine qx d _ ?_ ((xZ λy=>ne (List.mem_singleton.mp y)).trans zO)
   have hHe:H e=none:=(SG3.trans s2).free he
   have hHd:H d=none:=(SG3.trans s2).free hd
   intro b o hb
   have b1:b≠e:=λy=>by rw [y,hHe] at hb; cases hb
   have b2:b≠d:=λy=>by rw [y,hHd] at hb; cases hb
   rw [xZ λy=>b1 (List.mem_singleton.mp y),zl b2,zl b1,zl b1]
   exact (SG3.trans s2) _ _ hb
  have ct:=WK.ok i z ci hz
  rw [ct]
  refine zb ?_
  obtain ⟨k0,k1,kl⟩:=gz ct
  obtain ⟨t,sa,ua,uv,rfl,eT,eS,eU,hU⟩:=hZ.same s2
  obtain ⟨w0,md,ew,em,hmd,eg⟩:=Wu (jX s2 TA3.hmv) (k:=z.k.toNat) (by omega)
  have ea:yA mv z.k=some w0:=by rw [show z.k=((z.k.toNat:Nat):Int) by omega]; exact wS ew
  have mm:=List.mem_of_getElem? em
  have ep2:=z2 _ _ epT
  refine ⟨_,rfl,.inl ⟨rfl,_,zE.of ep2⟩,_,rfl,_,rfl,t,_,0,_,rfl,rfl,zS.of eT,rfl,l1,_,_,_,rfl,rfl,zE.of (s2 _ _ el1),ea,_,rfl,_,rfl,pl,_,_,_,rfl,rfl,zE.of ep2,v8 _ _,_,rfl,t,_,1,_,rfl,rfl,zS.of eT,rfl,_,rfl,t,_,2,_,rfl,rfl,zS.of eT,rfl,w0,md,n,bs.length,qa,sa,ua,qv,uv,_,z.us,z.s,rfl,hmd,TW.mok md mm,TW.mz md mm,z2 _ _ eq',hq.same z2,lpt,eS,eU,hU,kl,WK.vo i z ci hz,λl lv K3 z3 nl el hlv=>?_⟩
  have zz:=zT.trans (z2.trans z3)
  have nel:l∉[pl]:=λy=>by rw [List.mem_singleton.mp y,ep2] at nl; cases nl
  have ep3:=z3 _ _ ep2
  refine ⟨pl,_,.ref l,rfl,rfl,ep3,yB (by omega),?_⟩
  have h3:=xr (B:=[pl]) zz
  have h4:=h3.trans (wL (x:=pl) (HO.lst (xs'++[V.ref qa]++[V.ref l])))
  refine ⟨ci,_,_,_,rfl,sm.trans h4,zO,?_⟩
  rw [jY (n:=i + 1),x9 hz,YS]
  refine xR (R:=vL H _) ⟨l,lv,rfl,(SG3.trans s2).free nl,wL (x:=pl) _ _ _ ((xZ nel).trans el),zX.same (wL (x:=pl) _) ?_⟩ (gw h4 hxs)
  unfold qX
  rw [eg]
  exact Ks ep3 hlv
 rintro σ H' ⟨ig,xs,o6,o7,rfl,sm,ep,hxs⟩
 rw [lrv] at hxs ig
 exact ⟨_,rfl,q (by omega) pl xs H' (SG3.trans (sm.trans yD)) hplH ep (gw yD hxs)⟩
end
theorem qZ (xs:List Int) {a b:Nat} (h:a<=b) (hb:b<=xs.length):zk (xs.map V.int) (some (a:Int)) (some (b:Int))=((xs.drop a).take (b - a)).map V.int:=by
 have e1:HT.sIx (xs.map V.int).length 0 (some (a:Int))=min a (xs.map V.int).length:=HT.sIx_nat _ 0 a
 have e2:HT.sIx (xs.map V.int).length (xs.map V.int).length (some (b:Int))=min b (xs.map V.int).length:=HT.sIx_nat _ _ b
 unfold zk
 rw [e1,e2,List.length_map,Nat.min_eq_left hb,Nat.min_eq_left (show a<=xs.length by omega),<- List.map_drop,<- List.map_take]
theorem qc {xs:List Int} {a b:Nat} (h:a<=b) (hb:b<=xs.length):((xs.drop a).take (b - a)).length=b - a:=by
 rw [List.length_take,List.length_drop]
 omega
structure kD (H:Hp) (r n s p a:Addr) (rv nv pv:List V) (m:MD):Prop where
 hr:H r=some (.lst rv)
 hrv:yY H rv m.rows
 hn:H n=some (.lst nv)
 hnv:zf H nv m.nexts
 hs:H s=some (.lst (m.steer.map V.int))
 hp:H p=some (.lst pv)
 hpv:zf H pv m.push
 ha:H a=some (.lst (m.add.map V.int))
theorem kD.same {H H':Hp} {r n s p a:Addr} {rv nv pv:List V} {m:MD} (z:zD H H') (h:kD H r n s p a rv nv pv m):kD H' r n s p a rv nv pv m:=
 ⟨z _ _ h.hr,yY.same z h.hrv,z _ _ h.hn,zf.same z h.hnv,z _ _ h.hs,z _ _ h.hp,zf.same z h.hpv,z _ _ h.ha⟩
noncomputable def vV (H:Hp) (v:V) (m:MD):Prop:=∃ pl r n s p a rv nv pv,v=.ref pl/\H pl=some (.lst [.ref r,.ref n,.ref s,.ref p,.ref a,.int m.div])/\kD H r n s p a rv nv pv m
theorem vV.same {H H':Hp} {v:V} {m:MD} (z:zD H H') (h:vV H v m):vV H' v m:=
 let ⟨pl,r,n,s,p,a,rv,nv,pv,e,hl,b⟩:=h
 ⟨pl,r,n,s,p,a,rv,nv,pv,e,z _ _ hl,b.same z⟩
theorem wZ {H H':Hp} {vs:List V} {ms:List MD} (s:zD H H') (h:Paired (vV H) vs ms):Paired (vV H') vs ms:=Paired.mapP h λ_ _ z=>z.same s
theorem qd {x y z u:V} {g:Int} (g0:0<=g) (g1:g < 4):∃ k,yA [x,y,z,u] g=some k/\(k=x\/k=y\/k=z\/k=u):=by
 rcases (show g=0\/g=1\/g=2\/g=3 by omega) with e | e | e | e
 ·rw [e]; exact ⟨x,rfl,.inl rfl⟩
 ·rw [e]; exact ⟨y,rfl,.inr (.inl rfl)⟩
 ·rw [e]; exact ⟨z,rfl,.inr (.inr (.inl rfl))⟩
 ·rw [e]; exact ⟨u,rfl,.inr (.inr (.inr rfl))⟩
theorem Wv {x y z:V} {g:Int} (g0:0<=g) (g1:g < 3):∃ k,yA [x,y,z] g=some k/\(k=x\/k=y\/k=z):=by
 rcases (show g=0\/g=1\/g=2 by omega) with e | e | e
 ·rw [e]; exact ⟨x,rfl,.inl rfl⟩
 ·rw [e]; exact ⟨y,rfl,.inr (.inl rfl)⟩
 ·rw [e]; exact ⟨z,rfl,.inr (.inr rfl)⟩
noncomputable def wM (x:Int):Prop:=x.natAbs<=2 ^ 66
theorem wM.bd {x:Int} (h:wM x) {n:Nat} (k:67<=n):Bd n x:=by
 have h':x.natAbs<=2 ^ 66:=h
 have:Bd 67 x:=by
  show x.natAbs < 2 ^ 67
  omega
 exact this.mono k
theorem kE {xs:List Int} {a b:Nat} (h:∀ x∈xs,wM x):∀ x∈(xs.drop a).take (b - a),wM x:=λx hx=>h x (List.mem_of_mem_drop (List.mem_of_mem_take hx))
inductive qe (vs:List V) (H:Hp) (Q:VK) (E:XK):Prop
 | mk (x:Int) (_:vs=[.int x]) (_:Bd 200 x) (_:∀ y:Int,y.natAbs<=5 * 10 ^ 19->Q (.int y) H):qe vs H Q E
structure ML (m:MD):Prop where
 rows:∀ r∈m.rows,∀ x∈r,wM x
 nexts:∀ r∈m.nexts,∀ x∈r,wM x
 steer:∀ x∈m.steer,wM x
 push:∀ r∈m.push,∀ x∈r,wM x
 add:∀ x∈m.add,wM x
 div:m.div<=9
 few:m.rows.length<=2
theorem ML.mz {m:MD} {n w:Nat} (h:ML m) (o:yo m n w):MZ m:=by
 have d1:=o.div
 have d2:=h.div
 have db:Bd 5 m.div:=by
  show m.div.natAbs < 2 ^ 5
  omega
 exact ⟨λr hr x hx=>(h.rows r hr x hx).bd (by decide),λr hr x hx=>(h.nexts r hr x hx).bd (by decide),λx hx=>(h.steer x hx).bd (by decide),λr hr x hx=>(h.push r hr x hx).bd (by decide),λx hx=>(h.add x hx).bd (by decide),db.mono⟩
inductive Yb (vs:List V) (H:Hp) (Q:VK) (E:XK):Prop
 | mk (c mm ww:Int) (_:vs=[.int c,.int mm,.int ww]) (_:1<=mm) (_:mm<=3) (_:0<=ww) (_:ww<=3) (_:∀ (v:V) (m:MD) (H':Hp),zD H H'->vV H' v m->yo m mm.toNat ww.toNat->ML m->Q v H'):Yb vs H Q E
inductive kF (K:PySem.W.Frag) (vs:List V) (H:Hp) (Q:VK) (E:XK):Prop
 | mk (na pa:Addr) (ws:List Int) (pv:List V) (pts:List (Int × Int)) (_:vs=[.ref na,.ref pa]) (_:uj K H na (ws.map V.int)) (_:zE K H pa pv) (_:zX H pv pts) (_:GO ws pts) (_:Bd 7000 (bt pts)) (_:∀ r H',zD H H'->H' r=some (.tup [.int (zZ (tp ws pts) (bt pts)),.int (zR (tp ws pts) (bt pts))])->Q (.ref r) H'):kF K vs H Q E
inductive kG (K:PySem.W.Frag) (vs:List V) (H:Hp) (Q:VK) (E:XK):Prop
 | mk (rl pa:Addr) (rv:List V) (rows:List (List Int)) (pv:List V) (pts:List (Int × Int)) (_:vs=[.ref rl,.ref pa]) (_:H rl=some (.lst rv)) (_:yY H rv rows) (_:(∀ r∈rows,uF r pts.length)) (_:rows.length<=900) (_:zE K H pa pv) (_:zX H pv pts) (_:v2 pts) (_:Bd 7000 (bt pts)) (_:∀ H',zD H H'->Q (.bl (rows.all (wB pts))) H'):kG K vs H Q E
theorem zJT {pts:List (Int × Int)} {r:List Int} (P:v2 pts) (W:uF r pts.length):wB pts r=decide (zZ (tp (r.take pts.length) pts) (bt pts)<=r.getD pts.length 0 * zR (tp (r.take pts.length) pts) (bt pts)):=by
 have b0:0 < bt pts:=u4 λq hq=>(P.ok q hq).1
 unfold wB ZU
 rw [gi W.rw.len]
 exact decide_eq_decide.mpr (Wn b0).symm
inductive Yc (vs:List V) (H:Hp) (Q:VK) (E:XK):Prop
 | mk (ua ba:Addr) (uv bv:List V) (us bs:List (Int × Int)) (_:vs=[.ref ua,.ref ba]) (_:H ua=some (.lst uv)) (_:zX H uv us) (_:H ba=some (.lst bv)) (_:Paired (wX H) bv bs) (_:us.length<=4) (_:(∀ u∈us,Bd 1000 u.1/\Bd 1000 u.2)) (_:(∀ b∈bs,Bd 1000 b.1/\Bd 1000 b.2)) (_:∀ H',zD H H'->Q (.bl (xB us bs)) H'):Yc vs H Q E
inductive Yd (vs:List V) (H:Hp) (Q:VK) (E:XK):Prop
 | mk (v:V) (m:MD) (n ww:Nat) (pa sa ua:Addr) (pv uv:List V) (p us:List (Int × Int)) (sv:Int × Int) (_:vs=[v,.ref pa,.ref sa,.ref ua]) (_:vV H v m) (_:yo m n ww) (_:ML m) (_:H pa=some (.lst pv)) (_:zX H pv p) (_:p.length=n) (_:H sa=some (.tup [.int sv.1,.int sv.2])) (_:H ua=some (.lst uv)) (_:zX H uv us) (_:us.length=ww) (_:v3 p us sv) (_:∀ l lv H',zD H H'->H l=none->H' l=some (.lst lv)->zX H' lv (xS m p us sv)->Q (.ref l) H'):Yd vs H Q E
theorem zKm {nx pu:List Int} {st ad dv:Int} {p us:List (Int × Int)} {s:Int × Int} (h1:nx.length=p.length) (h2:pu.length=us.length) (hb:0 < bt (p++us++[s])) (hd:0 < dv) :
  zZ (zZ (tp (nx++[st]++pu++[ad]) (p++[s]++us++[(1,1)])) (bt (p++[s]++us++[(1,1)]))) (zR (tp (nx++[st]++pu++[ad]) (p++[s]++us++[(1,1)])) (bt (p++[s]++us++[(1,1)])) * dv)=(xK nx pu st ad dv p us s).1∧
  zR (zZ (tp (nx++[st]++pu++[ad]) (p++[s]++us++[(1,1)])) (bt (p++[s]++us++[(1,1)]))) (zR (tp (nx++[st]++pu++[ad]) (p++[s]++us++[(1,1)])) (bt (p++[s]++us++[(1,1)])) * dv)=(xK nx pu st ad dv p us s).2:=by
 obtain ⟨e1,e2⟩:=Wm (st:=st) (ad:=ad) (s:=s) h1 h2
 rw [e1,e2]
 exact Q9 hb hd
section
variable {P:Program} {w:World} {K:PySem.W.Frag} {mg:Str->Option Value} {base:Heap}
noncomputable abbrev Ye:Stmt:=yN 42
theorem zFG:zw ["_law_script","_law_k"] ["_law_script","_law_k"] (zY Ye):=.a
theorem zFO {k:Nat} {f:Addr} {fd:FuncData} {ac ae:Addr} (af:zK K mg "Mode" ac) (ag:yE K ac) (ah:zK K mg "Thing" ae) (ai:yF K ae) (F:zx K "_law_cell_at" "_law_cell_at" Ye f fd) (B:Bl mg):zL P w K mg base zd (k + 1) f fd ["_law_script","_law_k"] (ZT K):=by
 refine F.ok zFG (λvs H Q E h=>?_) (λcdv A outer s H vs Q E hr h=>?_)
 ·obtain ⟨_,_,_,rfl,_⟩:=h
  rfl
 obtain ⟨a,ns,k,rfl,hS,h0,q⟩:=h
 refine ⟨_,(zP (yG (yd (zp jJ) (zB 1) (zn zu rfl B.len_ yt (zC (zB 0) zG)) (yH _)) (zW (zg (zV zo (zB 0) (zB 1) (λ_ _=>rfl)))) yM)
  (zW (zg zI))),?_⟩
 try dsimp only [zJ,Cx.nox,Cx.wish]
 refine ⟨_,rfl,_,rfl,a,_,rfl,.inl hS,_,_,rfl,rfl,_,rfl,?_⟩
 refine yX (λc=>?_) (λc=>?_)
 ·have c':k < ((ns.map V.int).length:Int):=of_decide_eq_true c
  rw [List.length_map] at c'
  have hk:k.toNat < ns.length:=by omega
  have ek:k=((k.toNat:Nat):Int):=by omega
  have q0:yA (ns.map V.int) ((k.toNat:Nat):Int)=some (.int ns[k.toNat]):=wS (by rw [List.getElem?_map,List.getElem?_eq_getElem hk]; rfl)
  rw [<- ek] at q0
  refine ⟨_,rfl,_,rfl,a,_,k,.int (ns[k.toNat]),rfl,rfl,hS,q0,?_⟩
  ·have e:ns[k.toNat]=x8 ns k:=by unfold x8; rw [List.getElem?_eq_getElem hk]; rfl
   rw [e]
   exact q
 ·have c':¬ k < ((ns.map V.int).length:Int):=λz=>c (decide_eq_true z)
  rw [List.length_map] at c'
  have e:(0:Int)=x8 ns k:=by unfold x8; rw [List.getElem?_eq_none (by omega)]; rfl
  show Q (.int 0) H
  rw [e]
  exact q
noncomputable abbrev Yg:Stmt:=yN 43
theorem uN:zw ["_law_cell","_law_many","_law_found","_law_rest","_law_k","_law_number_here"] ["_law_cell","_law_many"] (zY Yg):=.a
theorem zF7 {k:Nat} {f:Addr} {fd:FuncData} {ac ae:Addr} (af:zK K mg "Mode" ac) (ag:yE K ac) (ah:zK K mg "Thing" ae) (ai:yF K ae) (F:zx K "_law_stream" "_law_stream" Yg f fd) (B:Bl mg):zL P w K mg base zd (k + 1) f fd ["_law_cell","_law_many"] jO:=by
 refine F.ok uN (λvs H Q E h=>?_) (λcdv A outer s H vs Q E hr h=>?_)
 ·obtain ⟨_,_,rfl,_⟩:=h
  rfl
 obtain ⟨c,mm,rfl,m0,m10,q⟩:=h
 refine ⟨_,(zP (zj (i:=2) uN.nd rfl (Or.inl rfl) (yq zG))
  (zP (yG (yd (zp kn) (zB 0) (zN (ji jt) zI zI) (yH _)) (zP (zj (i:=3) uN.nd rfl (Or.inl rfl) (zN (zp wP) (zB 0) (zN (ji jt) zI zI)))
   (zP (wE PassesOwn.never rfl (wu rfl B.range_ (zC (zB 1) zG)) (zr (i:=4) uN.nd rfl (Or.inl rfl)) (zP (wb (vC PySem.F.plainAttrs_list PySem.F.slot_list_append PySem.F.type_list_append xG (zB 2) (zC (zN (ji yj) (zB 3) zI) zG)))
    (zW (zj (i:=3) uN.nd rfl (Or.inl rfl) (zN (ji wd) (zB 3) zI)))))
   (zW (zg (zB 2))))) yM)
  (zP (zj (i:=5) uN.nd rfl (Or.inl rfl) (zN (zp yV) (zN (ji yj) (zB 0) zI) zI))
  (zP (wE PassesOwn.never rfl (wu rfl B.range_ (zC (zN (zp yV) (zB 1) zI) zG)) (zr (i:=4) uN.nd rfl (Or.inl rfl)) (zP (zj (i:=5) uN.nd rfl (Or.inl rfl) (zN (ji yj) (zN (zp yV) (zN (zp yV) (zN (ji yf) (zB 5) (zB 5)) (zN (ji yf) zI (zB 5))) (zB 4)) zI))
   (zW (wb (vC PySem.F.plainAttrs_list PySem.F.slot_list_append PySem.F.type_list_append xG (zB 2) (zC (zB 5) zG))))))
  (zW (zg (vR uH (zB 2) (xy zI) gJ))))))),?_⟩
 try dsimp only [zJ,Cx.nox,Cx.wish]
 have p0:(0:Int) < 2147483647:=by decide
 have b0:Bd 31 (2147483647:Int):=Bd.lit
 have big:(2147483647:Int) < 10 ^ 45:=by decide
 have bmod:∀ z:Int,Bd 31 (z.fmod 2147483647):=λz=>by
  have h1:=Int.fmod_nonneg_of_pos z p0
  have h2:=Int.fmod_lt_of_pos z p0
  have h3:(2147483647:Int).natAbs < 2 ^ 31:=b0
  show (z.fmod 2147483647).natAbs < 2 ^ 31
  omega
 refine ⟨(by show 0<=sizeLine; decide),λl hl=>?_⟩
 refine ⟨_,rfl,_,_,rfl,rfl,⟨by decide,by decide,by decide⟩,_,_,rfl,rfl,_,rfl,?_⟩
 refine yX (λcc=>?_) (λcc=>?_)
 ·refine ⟨_,rfl,_,_,rfl,rfl,⟨by decide,by decide,by decide⟩,_,_,rfl,rfl,?_⟩
  refine ⟨_,rfl,mm,rfl,(by omega),(by omega),uX (lo:=0) (n:=mm.toNat)
   (λi σ H2=>∃ (xs:List Int) (rs:Int) (kk:Option V),σ=[some (.int c),some (.int mm),some (.ref l),some (.int rs),kk,none]/\H2=upd H l (.lst (xs.map V.int))/\xs.length=i/\∀ x∈xs,0<=x/\x < 10 ^ 45)
   ⟨[],_,none,rfl,rfl,rfl,λx hx=>by cases hx⟩ ?_ ?_⟩
  ·rintro i σ H2 hi ⟨xs,rs,kk,rfl,rfl,hlen,hxs⟩
   refine ⟨_,rfl,.inl ⟨rfl,_,zE.of zO⟩,_,rfl,_,_,rfl,rfl,(show (2147483647:Int)≠0 by decide),l,_,_,rfl,rfl,zO,?_,?_⟩
   ·rw [List.length_map]
    exact yB (by omega)
   refine ⟨_,rfl,_,_,rfl,rfl,⟨(show (2147483647:Int)≠0 by decide),b0.mono⟩,?_⟩
   refine ⟨xs++[rs.fmod 2147483647],_,_,rfl,?_,?_,λx hx=>?_⟩
   ·rw [Y6,List.map_append]
    rfl
   ·rw [List.length_append,hlen]
    rfl
   ·rcases List.mem_append.mp hx with hx | hx
    ·exact hxs x hx
    ·rw [List.mem_singleton.mp hx]
     have h2:=Int.fmod_lt_of_pos rs p0
     exact ⟨Int.fmod_nonneg_of_pos _ p0,by omega⟩
  ·rintro σ H2 ⟨xs,rs,kk,rfl,rfl,hlen,hxs⟩
   exact ⟨_,rfl,q l _ xs (zU hl _) hl zO hlen hxs⟩
 ·refine ⟨_,rfl,_,_,rfl,rfl,(show (2147483647:Int)≠0 by decide),_,_,rfl,rfl,?_⟩
  have bk:Bd 31 (48271:Int):=Bd.lit
  have hb0:Bd 62 (c.fmod 2147483647 + 48271):=((bmod c).add bk).mono
  refine ⟨_,rfl,_,_,rfl,rfl,mm + 2,rfl,(by omega),(by omega),uX (lo:=0) (n:=(mm + 2).toNat)
   (λi σ H2=>∃ (xs:List Int) (nh:Int) (kk:Option V),σ=[some (.int c),some (.int mm),some (.ref l),none,kk,some (.int nh)]/\H2=upd H l (.lst (xs.map V.int))/\xs.length=i/\Bd 62 nh/\∀ x∈xs,0<=x/\x < 10 ^ 45)
   ⟨[],_,none,rfl,rfl,rfl,hb0,λx hx=>by cases hx⟩ ?_ ?_⟩
  ·rintro i σ H2 hi ⟨xs,nh,kk,rfl,rfl,hlen,hnh,hxs⟩
   refine ⟨_,rfl,_,rfl,_,_,rfl,rfl,⟨hnh.mono,hnh.mono⟩,_,rfl,_,_,rfl,rfl,⟨bk.mono,hnh.mono⟩,_,_,rfl,rfl,_,rfl,_,_,rfl,rfl,_,_,rfl,rfl,(show (2147483647:Int)≠0 by decide),?_⟩
   refine ⟨_,rfl,.inl ⟨rfl,_,zE.of zO⟩,_,rfl,l,_,_,rfl,rfl,zO,?_,?_⟩
   ·rw [List.length_map]
    exact yB (by omega)
   refine ⟨xs++[(nh * nh + 48271 * nh + (0 + (i:Int))).fmod 2147483647],_,_,rfl,?_,?_,(bmod _).mono,λx hx=>?_⟩
   ·rw [Y6,List.map_append]
    rfl
   ·rw [List.length_append,hlen]
    rfl
   ·rcases List.mem_append.mp hx with hx | hx
    ·exact hxs x hx
    ·rw [List.mem_singleton.mp hx]
     have h2:=Int.fmod_lt_of_pos (nh * nh + 48271 * nh + (0 + (i:Int))) p0
     exact ⟨Int.fmod_nonneg_of_pos _ p0,by omega⟩
  ·rintro σ H2 ⟨xs,nh,kk,rfl,rfl,hlen,hnh,hxs⟩
   refine ⟨_,rfl,_,rfl,l,_,rfl,zE.of zO,λp hp=>?_⟩
   have ec:zk (xs.map V.int) (some 2) none=(xs.drop 2).map V.int:=by
    have e1:HT.sIx (xs.map V.int).length 0 (some 2)=min 2 (xs.map V.int).length:=HT.sIx_nat _ 0 2
    unfold zk
    rw [e1,HT.sIx_none,List.length_map,hlen,show min 2 (mm + 2).toNat=2 by omega,<- List.map_drop,List.take_of_length_le (by rw [List.length_map,List.length_drop]; omega)]
   refine q p _ (xs.drop 2) ((zU hl _).trans (zU hp _)) ((zU hl _).free hp) (zO.trans (by rw [ec])) (by rw [List.length_drop]; omega) λx hx=>hxs x (List.mem_of_mem_drop hx)
noncomputable abbrev Yh:Stmt:=yN 44
theorem zFx:zw ["_law_number_here"] ["_law_number_here"] (zY Yh):=.a
theorem zF9 {k:Nat} {f:Addr} {fd:FuncData} {ac ae:Addr} (af:zK K mg "Mode" ac) (ag:yE K ac) (ah:zK K mg "Thing" ae) (ai:yF K ae) (F:zx K "_law_number" "_law_number" Yh f fd) (B:Bl mg):zL P w K mg base zd (k + 1) f fd ["_law_number_here"] qe:=by
 refine F.ok zFx (λvs H Q E h=>?_) (λcdv A outer s H vs Q E hr h=>?_)
 ·obtain ⟨_,rfl,_⟩:=h
  rfl
 obtain ⟨x,rfl,bx,q⟩:=h
 refine ⟨_,(zP (yG (yd wQ (zN (ji yj) (zB 0) zI) zI (yH _)) (zW (zg (zN (zp wP) (zN (ji yj) (zN (ji yf) (zN (ji wd) (zB 0) zI) (zN (ji jt) zI zI)) (zN (ji jt) zI zI)) (zN (ji yf) zI (zN (ji jt) zI zI))))) yM)
  (zW (zg (zN (zp wP) (zN (ji yj) (zN (ji wd) (zB 0) zI) zI) zI)))),?_⟩
 try dsimp only [zJ,Cx.nox,Cx.wish]
 have b9:Bd 4 (9:Int):=Bd.lit
 have b5:Bd 4 (5:Int):=Bd.lit
 have p20:(0:Int) < 10 ^ (20:Int).toNat:=by decide
 have b12:Bd 104 ((10:Int) ^ (12:Int).toNat):=Bd.lit
 have b19:Bd 130 ((10:Int) ^ (19:Int).toNat):=Bd.lit
 refine ⟨_,rfl,_,_,rfl,rfl,(show (9:Int)≠0 by decide),rfl,_,rfl,?_⟩
 refine yX (λc1=>?_) (λc1=>?_)
 ·refine ⟨_,rfl,_,_,rfl,rfl,⟨by decide,b9.mono⟩,_,_,rfl,rfl,⟨by decide,by decide,by decide⟩,_,_,rfl,rfl,⟨(bx.fdiv _).mono,b12.mono⟩,_,_,rfl,rfl,⟨by decide,by decide,by decide⟩,_,_,rfl,rfl,(show (10:Int) ^ (20:Int).toNat≠0 by decide),_,_,rfl,rfl,⟨by decide,by decide,by decide⟩,_,_,rfl,rfl,⟨b5.mono,b19.mono⟩,_,_,rfl,rfl,?_⟩
  refine q _ ?_
  have h1:=Int.fmod_nonneg_of_pos (x.fdiv 9 * 10 ^ (12:Int).toNat) p20
  have h2:=Int.fmod_lt_of_pos (x.fdiv 9 * 10 ^ (12:Int).toNat) p20
  have h3:(10:Int) ^ (20:Int).toNat=100000000000000000000:=by decide
  have h4:(5:Int) * 10 ^ (19:Int).toNat=50000000000000000000:=by decide
  show ((x.fdiv 9 * 10 ^ (12:Int).toNat).fmod (10 ^ (20:Int).toNat) - 5 * 10 ^ (19:Int).toNat).natAbs<=5 * 10 ^ 19
  omega
 ·refine ⟨_,rfl,_,_,rfl,rfl,⟨by decide,b9.mono⟩,_,_,rfl,rfl,(show (19:Int)≠0 by decide),_,_,rfl,rfl,?_⟩
  refine q _ ?_
  have h1:=Int.fmod_nonneg_of_pos (x.fdiv 9) (show (0:Int) < 19 by decide)
  have h2:=Int.fmod_lt_of_pos (x.fdiv 9) (show (0:Int) < 19 by decide)
  show ((x.fdiv 9).fmod 19 - 9).natAbs<=5 * 10 ^ 19
  omega
noncomputable abbrev qf:Stmt:=yN 45
theorem u9:zw ["_law_cell","_law_many","_law_wide","_law_xs","_law_numbers","_law_rows","_law_k","_law_nexts","_law_push"] ["_law_cell","_law_many","_law_wide"] (zY qf):=.a
theorem zHN {k:Nat} {f:Addr} {fd:FuncData} {ac ae:Addr} (af:zK K mg "Mode" ac) (ag:yE K ac) (ah:zK K mg "Thing" ae) (ai:yF K ae) (F:zx K "_law_parts" "_law_parts" qf f fd) (B:Bl mg) (aq:Fn P w K mg base "_law_stream" ["_law_cell","_law_many"] k jO) (ar:Fn P w K mg base "_law_number" ["_law_number_here"] k qe):zL P w K mg base zd (k + 1) f fd ["_law_cell","_law_many","_law_wide"] Yb:=by
 refine F.ok u9 (λvs H Q E h=>?_) (λcdv A outer s H vs Q E hr h=>?_)
 ·obtain ⟨_,_,_,rfl,_⟩:=h
  rfl
 obtain ⟨c,mm,ww,rfl,m1,m3,w0,w3,q⟩:=h
 refine ⟨_,(zP (zj (i:=3) u9.nd rfl (Or.inl rfl) (zi aq hr rfl (zC (zB 0) (zC zI zG))))
  (zP (zj (i:=4) u9.nd rfl (Or.inr rfl) (xX (own:=["_law_number_here"]) (caps:=[]) (uC rfl) rfl (xx (zB 3)) (λ_ _ _ _=>zr (i:=0) (show (["_law_number_here"]:List Str).Nodup by decide +kernel) rfl (Or.inl rfl)) (λ_ _ _ _=>(zi ar hr rfl (zC (zB 0) zG)))))
  (zP (zj (i:=5) u9.nd rfl (Or.inl rfl) (yq zG))
  (zP (wE PassesOwn.never rfl (wu rfl B.range_ (zC (zV zo (yq (zC zI (zC zI (zC zI (zC zI zG))))) (zN (ji yj) (zV zo (zB 3) zI (λ_ _=>rfl)) zI) (λ_ _=>rfl)) zG)) (zr (i:=6) u9.nd rfl (Or.inl rfl)) (zW (wb (vC PySem.F.plainAttrs_list PySem.F.slot_list_append PySem.F.type_list_append xG (zB 5) (zC (zN Uu (wc vq rfl B.tuple_ vS (zC (vR uH (zB 4) (xy (zN (ji yf) zI (zB 6))) (xy (zN (zp yV) (zN (ji yf) zI (zB 6)) (zB 1)))) zG)) (wR (zC (zn kq rfl B.abs_ ZP (zC (zV zo (zB 4) (zN (zp yV) (zN (ji yf) zI (zB 6)) zI) (λ_ _=>rfl)) zG)) zG))) zG)))))
  (zP (gM (i:=7) u9.nd rfl rfl (own:=["_law_i"]) (caps:=[(1,"_law_many"),(4,"_law_numbers")]) (wI (S:=zY qf) (N:=["_law_cell","_law_many","_law_wide","_law_xs","_law_numbers","_law_rows","_law_k","_law_nexts","_law_push"]) rfl (by decide +kernel) rfl ⟨_,rfl⟩ rfl (by decide +kernel) (by decide +kernel)) rfl (wu rfl B.range_ (zC (zB 1) zG)) (λ_ _ _ _=>zr (i:=0) (show (["_law_i","_law_many","_law_numbers"]:List Str).Nodup by decide +kernel) rfl (Or.inl rfl)) (λ_ _ _ _=>(vR (show uc _ (vp K) from uH) (zB 2) (xy (zN (zp yV) zI (zN (ji yf) zI (zB 0)))) (xy (zN (zp yV) (zN (zp yV) zI (zN (ji yf) zI (zB 0))) (zB 1))))) rfl)
  (zP (gM (i:=8) u9.nd rfl rfl (own:=["_law_i"]) (caps:=[(2,"_law_wide"),(4,"_law_numbers")]) (wI (S:=zY qf) (N:=["_law_cell","_law_many","_law_wide","_law_xs","_law_numbers","_law_rows","_law_k","_law_nexts","_law_push"]) rfl (by decide +kernel) rfl ⟨_,rfl⟩ rfl (by decide +kernel) (by decide +kernel)) rfl (wu rfl B.range_ (zC (zB 1) zG)) (λ_ _ _ _=>zr (i:=0) (show (["_law_i","_law_wide","_law_numbers"]:List Str).Nodup by decide +kernel) rfl (Or.inl rfl)) (λ_ _ _ _=>(vR (show uc _ (vp K) from uH) (zB 2) (xy (zN (zp yV) zI (zN (ji yf) zI (zB 0)))) (xy (zN (zp yV) (zN (zp yV) zI (zN (ji yf) zI (zB 0))) (zB 1))))) rfl)
  (zW (zg (yq (zC (zB 5) (zC (zB 7) (zC (vR uH (zB 4) (xy zI) (xy (zN (zp yV) zI (zB 1)))) (zC (zB 8) (zC (vR uH (zB 4) (xy zI) (xy (zN (zp yV) zI (zB 1)))) (zC (zN (zp yV) zI (zN (ji yj) (zV zo (zB 3) zI (λ_ _=>rfl)) zI)) zG))))))))))))))),?_⟩
 try dsimp only [zJ,Cx.nox,Cx.wish]
 have b4:Bd 4 (4:Int):=Bd.lit
 refine ⟨_,rfl,_,40,rfl,(by decide),(by decide),λxa J1 xs y1 _ ex lx bx0=>?_⟩
 have lx40:xs.length=40:=lx
 have bx:∀ x∈xs,Bd 200 x:=λx hx=>(vx (bx0 x hx)).mono
 have SG1:=y1
 refine ⟨_,rfl,xa,rfl,⟨_,zE.of ex⟩,wU (K:=K) (a:=xa) (xs:=xs.map V.int) (λi ys σ H'=>∃ ws:List Int,ys=ws.map V.int/\ws.length=i/\(∀ x∈ws,wM x)/\(∃ o,σ=[o])/\H'=J1)
  ⟨[],rfl,rfl,(λx hx=>by cases hx),⟨none,rfl⟩,rfl⟩ (λi ys σ H' hi ⟨ws,e1,l1,_,_,e3⟩=>⟨by rw [e3]; exact zE.of ex,by rw [e1,List.length_map]; omega⟩) (by rw [List.length_map,lx40]; exact Nat.le_of_lt (yB (by decide))) ?_ ?_⟩
 ·rintro i x ys σ H' hi ⟨ws,rfl,lw,bw,⟨o,rfl⟩,rfl⟩
  obtain ⟨z,hz,rfl⟩:=vT hi
  refine ⟨_,rfl,z,rfl,bx z (List.mem_of_getElem? hz),λy by'=>⟨ws++[y],(by rw [List.map_append]; rfl),(by rw [List.length_append,lw]; rfl),λu hu=>?_,⟨_,rfl⟩,rfl⟩⟩
  rcases List.mem_append.mp hu with hu | hu
  ·exact bw u hu
  ·rw [List.mem_singleton.mp hu]; exact Nat.le_trans by' (by decide)
 rintro ys σ H' ⟨ns,rfl,ln0,bns,⟨o,rfl⟩,hZ⟩ nu hnu
 rw [hZ] at hnu |-
 clear hZ
 have ln:ns.length=40:=by rw [ln0,List.length_map,lx40]
 have yG2:=zU hnu (HO.lst (ns.map V.int))
 have enu:=zO (H:=J1) (a:=nu) (o:=HO.lst (ns.map V.int))
 generalize hhG2:upd J1 nu (HO.lst (ns.map V.int))=G2 at yG2 enu |-
 have SG2:=SG1.trans yG2
 replace ex:=(yG2 _ _ ex)
 refine ⟨(by show 0<=sizeLine; decide),λrl hrl=>?_⟩
 have y4:=zU hrl (HO.lst [])
 have erl:=zO (H:=G2) (a:=rl) (o:=HO.lst [])
 generalize hhJ4:upd G2 rl (HO.lst [])=J4 at y4 erl |-
 have s4:=ur (B:=[rl]) (λx hx=>by rw [List.mem_singleton.mp hx]; exact hrl) y4
 have a39:yA (xs.map V.int) (39:Int)=some (.int (xs[39]'(by omega))):=wJ (j:=39) _
 have k0:=Int.fmod_nonneg_of_pos (xs[39]'(by omega)) (show (0:Int) < 4 by decide)
 have k4:=Int.fmod_lt_of_pos (xs[39]'(by omega)) (show (0:Int) < 4 by decide)
 obtain ⟨N,eN,N0,N2⟩:∃ N:Int,yA [V.int 0,V.int 0,V.int 1,V.int 2] ((xs[39]'(by omega)).fmod 4)=some (.int N)/\0<=N/\N<=2:=by
  obtain ⟨k,ek,h⟩:=qd (x:=V.int 0) (y:=V.int 0) (z:=V.int 1) (u:=V.int 2) k0 k4
  rcases h with rfl | rfl | rfl | rfl
  ·exact ⟨0,ek,by decide,by decide⟩
  ·exact ⟨0,ek,by decide,by decide⟩
  ·exact ⟨1,ek,by decide,by decide⟩
  ·exact ⟨2,ek,by decide,by decide⟩
 refine ⟨(by show 4<=sizeLine; decide),λl4 hl4=>?_⟩
 have y5:=zU hl4 (HO.lst [V.int 0,V.int 0,V.int 1,V.int 2])
 have el4:=zO (H:=J4) (a:=l4) (o:=HO.lst [V.int 0,V.int 0,V.int 1,V.int 2])
 generalize hhJ5:upd J4 l4 (HO.lst [V.int 0,V.int 0,V.int 1,V.int 2])=J5 at y5 el4 |-
 have s5:=s4.trans (xr (B:=[rl]) y5)
 refine ⟨_,rfl,xa,_,_,_,rfl,rfl,zE.of (y5 _ _ (y4 _ _ ex)),a39,_,_,rfl,rfl,(show (4:Int)≠0 by decide),l4,_,_,_,rfl,rfl,zE.of el4,eN,_,rfl,(by omega),(by omega),uX (lo:=0) (n:=N.toNat)
  (λi σ H'=>∃ (rv:List V) (rows:List (List Int)) (o6:Option V),σ=[some (.int c),some (.int mm),some (.int ww),some (.ref xa),some (.ref nu),some (.ref rl),o6,none,none]/\zD G2 (hide [rl] H')/\H' rl=some (.lst rv)/\yY (hide [rl] H') rv rows/\rows.length=i/\(∀ r∈rows,r.length=mm.toNat + 1/\∀ x∈r,wM x))
  ⟨[],[],none,rfl,s5,y5 _ _ erl,.nil,rfl,λr hr'=>by cases hr'⟩ ?_ ?_⟩
 ·rintro i σ H' hi ⟨rv,rows,o6,rfl,sm,er,hrv,lr,RO⟩
  have sj:=sm.trans yD
  have bi:Bd 10 ((0:Int) + (i:Int)):=by
   show ((0:Int) + (i:Int)).natAbs < 2 ^ 10
   omega
  have ec:zk (ns.map V.int) (some (4 * ((0:Int) + (i:Int)))) (some (4 * ((0:Int) + (i:Int)) + mm))=((ns.drop (4 * i)).take (4 * i + mm.toNat - 4 * i)).map V.int:=by
   rw [show (4:Int) * ((0:Int) + (i:Int))=((4 * i:Nat):Int) by omega,show ((4 * i:Nat):Int) + mm=((4 * i + mm.toNat:Nat):Int) by omega]
   exact qZ ns (by omega) (by omega)
  refine ⟨_,rfl,.inl ⟨rfl,_,zE.of er⟩,_,rfl,_,rfl,_,_,rfl,rfl,⟨b4.mono,bi.mono⟩,_,rfl,_,rfl,_,_,rfl,rfl,⟨b4.mono,bi.mono⟩,_,rfl,_,_,rfl,rfl,_,rfl,nu,_,rfl,zE.of (sj _ _ enu),λp hp=>?_⟩
  have y7:=zU hp (HO.lst (zk (ns.map V.int) (some (4 * ((0:Int) + (i:Int)))) (some (4 * ((0:Int) + (i:Int)) + mm))))
  have ep:upd H' p (HO.lst (zk (ns.map V.int) (some (4 * ((0:Int) + (i:Int)))) (some (4 * ((0:Int) + (i:Int)) + mm)))) p=some (.lst (((ns.drop (4 * i)).take (4 * i + mm.toNat - 4 * i)).map V.int)):=zO.trans (by rw [ec])
  generalize hhK2:upd H' p (HO.lst (zk (ns.map V.int) (some (4 * ((0:Int) + (i:Int)))) (some (4 * ((0:Int) + (i:Int)) + mm))))=K2 at y7 ep |-
  refine ⟨p,_,rfl,.inl ⟨zE.of ep,λt1 ht1=>?_⟩⟩
  have y8:=zU ht1 (HO.tup (((ns.drop (4 * i)).take (4 * i + mm.toNat - 4 * i)).map V.int))
  have et1:=zO (H:=K2) (a:=t1) (o:=HO.tup (((ns.drop (4 * i)).take (4 * i + mm.toNat - 4 * i)).map V.int))
  generalize hhK3:upd K2 t1 (HO.tup (((ns.drop (4 * i)).take (4 * i + mm.toNat - 4 * i)).map V.int))=K3 at y8 et1 |-
  have s8:=sj.trans (y7.trans y8)
  have a3:yA (ns.map V.int) (4 * ((0:Int) + (i:Int)) + 3)=some (.int (ns[4 * i + 3]'(by omega))):=by
   rw [show (4:Int) * ((0:Int) + (i:Int)) + 3=((4 * i + 3:Nat):Int) by omega]
   exact wJ _
  have b3:=bns _ (List.getElem_mem (show 4 * i + 3 < ns.length by omega))
  generalize ns[4 * i + 3]'(by omega)=n3 at a3 b3
  have bab:wM (if n3 < 0 then -n3 else n3):=by
   have h':n3.natAbs<=2 ^ 66:=b3
   show (if n3 < 0 then -n3 else n3).natAbs<=2 ^ 66
   split <;> omega
  refine ⟨_,rfl,_,rfl,_,_,rfl,rfl,⟨b4.mono,bi.mono⟩,_,_,rfl,rfl,nu,_,_,_,rfl,rfl,zE.of (s8 _ _ enu),a3,_,rfl,(by show 1<=sizeLine; decide),λt2 ht2=>?_⟩
  have y9:=zU ht2 (HO.tup [V.int (if n3 < 0 then -n3 else n3)])
  have et2:=zO (H:=K3) (a:=t2) (o:=HO.tup [V.int (if n3 < 0 then -n3 else n3)])
  generalize hhK4:upd K3 t2 (HO.tup [V.int (if n3 < 0 then -n3 else n3)])=K4 at y9 et2 |-
  have lm:((ns.drop (4 * i)).take (4 * i + mm.toNat - 4 * i)).length=mm.toNat:=by rw [qc (by omega) (by omega)]; omega
  refine ⟨t1,t2,_,_,rfl,rfl,zS.of (y9 _ _ et1),zS.of et2,?_,(by rw [List.length_map,lm]; exact Nat.le_of_lt (yB (by show mm.toNat + 1<=1000; omega))),(λz=>by cases z),λ_ t3 ht3=>?_⟩
  ·intro z
   have:=congrArg List.length z
   rw [List.length_map,lm] at this
   simp at this
   omega
  have ya:=zU ht3 (HO.tup (((ns.drop (4 * i)).take (4 * i + mm.toNat - 4 * i)).map V.int++[V.int (if n3 < 0 then -n3 else n3)]))
  have zz:=y7.trans (y8.trans (y9.trans ya))
  refine ⟨rl,rv,.ref t3,rfl,rfl,zz _ _ er,yB (by have:=Paired.length hrv; omega),?_⟩
  have h4:=(xr (B:=[rl]) zz).trans (wL (x:=rl) (HO.lst (rv++[V.ref t3])))
  have nt3:t3∉[rl]:=λy=>by
   have:=(y7.trans (y8.trans y9)) _ _ er
   rw [<- List.mem_singleton.mp y,ht3] at this
   cases this
  refine ⟨rv++[V.ref t3],rows++[(ns.drop (4 * i)).take (4 * i + mm.toNat - 4 * i)++[(if n3 < 0 then -n3 else n3)]],_,rfl,sm.trans h4,zO,?_,(by rw [List.length_append,lr]; rfl),λr hr'=>?_⟩
  ·refine xR (R:=λv (k:List Int)=>Tp _ v (k.map V.int)) ⟨t3,rfl,wL (x:=rl) _ _ _ ((xZ nt3).trans (zO.trans ?_))⟩ (yY.same h4 hrv)
   rw [List.map_append]
   rfl
  ·rcases List.mem_append.mp hr' with hr' | hr'
   ·exact RO r hr'
   ·rw [List.mem_singleton.mp hr']
    refine ⟨by rw [List.length_append,lm]; rfl,λx hx=>?_⟩
    rcases List.mem_append.mp hx with hx | hx
    ·exact bns x (List.mem_of_mem_drop (List.mem_of_mem_take hx))
    ·rw [List.mem_singleton.mp hx]
     exact bab
 rintro σ J6 ⟨rv,rows,o6,rfl,sm,erl,hrv,lr,RO⟩
 have y6:=sm.trans yD
 have hrv:=yY.same yD hrv
 have SG3:=SG2.trans y6
 replace ex:=(y6 _ _ ex)
 replace enu:=(y6 _ _ enu)
 refine ⟨_,rfl,mm,rfl,(by omega),(by omega),j4 (lo:=0) (n:=mm.toNat)
  (λi ys σ H'=>∃ tab:List (List Int),zf H' ys tab/\tab.length=i/\(∀ r∈tab,r.length=mm.toNat/\∀ x∈r,wM x)/\(∃ o,σ=[o,some (.int mm),some (.ref nu)])/\zD J6 H')
  ⟨[],.nil,rfl,(λr hr'=>by cases hr'),⟨none,rfl⟩,zD.refl _⟩ (λi ys σ H' ⟨tab,ht,hl,_⟩=>by have:=Paired.length ht; omega) (Nat.le_of_lt (yB (by omega))) ?_ ?_⟩
 ·rintro i ys σ H' hi ⟨tab,ht,hl,htl,⟨o,rfl⟩,sm⟩
  have bi:Bd 10 ((0:Int) + (i:Int)):=by
   show ((0:Int) + (i:Int)).natAbs < 2 ^ 10
   omega
  have bg:Bd 10 (3:Int):=Bd.lit
  have ec:zk (ns.map V.int) (some (8 + 3 * ((0:Int) + (i:Int)))) (some (8 + 3 * ((0:Int) + (i:Int)) + mm))=((ns.drop (8 + 3 * i)).take (8 + 3 * i + mm.toNat - (8 + 3 * i))).map V.int:=by
   rw [show (8:Int) + 3 * ((0:Int) + (i:Int))=((8 + 3 * i:Nat):Int) by omega,show ((8 + 3 * i:Nat):Int) + mm=((8 + 3 * i + mm.toNat:Nat):Int) by omega]
   exact qZ ns (by omega) (by omega)
  refine ⟨_,rfl,_,rfl,_,_,rfl,rfl,⟨bg.mono,bi.mono⟩,_,_,rfl,rfl,_,rfl,_,rfl,_,_,rfl,rfl,⟨bg.mono,bi.mono⟩,_,_,rfl,rfl,_,rfl,_,_,rfl,rfl,_,rfl,nu,_,rfl,zE.of (sm _ _ enu),λp hp=>?_⟩
  have z:=zU hp (HO.lst (zk (ns.map V.int) (some (8 + 3 * ((0:Int) + (i:Int)))) (some (8 + 3 * ((0:Int) + (i:Int)) + mm))))
  refine ⟨tab++[(ns.drop (8 + 3 * i)).take (8 + 3 * i + mm.toNat - (8 + 3 * i))],xR (R:=wm _) ⟨p,rfl,zO.trans (by rw [ec])⟩ (ht.same z),(by rw [List.length_append,hl]; rfl),λr hr'=>?_,⟨_,rfl⟩,sm.trans z⟩
  rcases List.mem_append.mp hr' with hr' | hr'
  ·exact htl r hr'
  ·rw [List.mem_singleton.mp hr',qc (by omega) (by omega)]
   exact ⟨by omega,kE bns⟩
 rintro tn σ J7 ⟨tN,htn,ltN,otN,⟨o1,rfl⟩,y7⟩ na hna
 have SG4:=SG3.trans y7
 replace ex:=(y7 _ _ ex)
 replace enu:=(y7 _ _ enu)
 replace erl:=(y7 _ _ erl)
 replace hrv:=(yY.same y7 hrv)
 have yG5:=zU hna (HO.lst tn)
 have ena:=zO (H:=J7) (a:=na) (o:=HO.lst tn)
 generalize hhG5:upd J7 na (HO.lst tn)=G5 at yG5 ena |-
 have SG5:=SG4.trans yG5
 replace ex:=(yG5 _ _ ex)
 replace enu:=(yG5 _ _ enu)
 replace erl:=(yG5 _ _ erl)
 replace hrv:=(yY.same yG5 hrv)
 replace htn:=(zf.same yG5 htn)
 refine ⟨_,rfl,mm,rfl,(by omega),(by omega),j4 (lo:=0) (n:=mm.toNat)
  (λi ys σ H'=>∃ tab:List (List Int),zf H' ys tab/\tab.length=i/\(∀ r∈tab,r.length=ww.toNat/\∀ x∈r,wM x)/\(∃ o,σ=[o,some (.int ww),some (.ref nu)])/\zD G5 H')
  ⟨[],.nil,rfl,(λr hr'=>by cases hr'),⟨none,rfl⟩,zD.refl _⟩ (λi ys σ H' ⟨tab,ht,hl,_⟩=>by have:=Paired.length ht; omega) (Nat.le_of_lt (yB (by omega))) ?_ ?_⟩
 ·rintro i ys σ H' hi ⟨tab,ht,hl,htl,⟨o,rfl⟩,sm⟩
  have bi:Bd 10 ((0:Int) + (i:Int)):=by
   show ((0:Int) + (i:Int)).natAbs < 2 ^ 10
   omega
  have bg:Bd 10 (3:Int):=Bd.lit
  have ec:zk (ns.map V.int) (some (20 + 3 * ((0:Int) + (i:Int)))) (some (20 + 3 * ((0:Int) + (i:Int)) + ww))=((ns.drop (20 + 3 * i)).take (20 + 3 * i + ww.toNat - (20 + 3 * i))).map V.int:=by
   rw [show (20:Int) + 3 * ((0:Int) + (i:Int))=((20 + 3 * i:Nat):Int) by omega,show ((20 + 3 * i:Nat):Int) + ww=((20 + 3 * i + ww.toNat:Nat):Int) by omega]
   exact qZ ns (by omega) (by omega)
  refine ⟨_,rfl,_,rfl,_,_,rfl,rfl,⟨bg.mono,bi.mono⟩,_,_,rfl,rfl,_,rfl,_,rfl,_,_,rfl,rfl,⟨bg.mono,bi.mono⟩,_,_,rfl,rfl,_,rfl,_,_,rfl,rfl,_,rfl,nu,_,rfl,zE.of (sm _ _ enu),λp hp=>?_⟩
  have z:=zU hp (HO.lst (zk (ns.map V.int) (some (20 + 3 * ((0:Int) + (i:Int)))) (some (20 + 3 * ((0:Int) + (i:Int)) + ww))))
  refine ⟨tab++[(ns.drop (20 + 3 * i)).take (20 + 3 * i + ww.toNat - (20 + 3 * i))],xR (R:=wm _) ⟨p,rfl,zO.trans (by rw [ec])⟩ (ht.same z),(by rw [List.length_append,hl]; rfl),λr hr'=>?_,⟨_,rfl⟩,sm.trans z⟩
  rcases List.mem_append.mp hr' with hr' | hr'
  ·exact htl r hr'
  ·rw [List.mem_singleton.mp hr',qc (by omega) (by omega)]
   exact ⟨by omega,kE bns⟩
 rintro tp σ J8 ⟨tP,htp,ltP,otP,⟨o1,rfl⟩,y8⟩ pa hpa
 have SG6:=SG5.trans y8
 replace ex:=(y8 _ _ ex)
 replace enu:=(y8 _ _ enu)
 replace erl:=(y8 _ _ erl)
 replace hrv:=(yY.same y8 hrv)
 replace htn:=(zf.same y8 htn)
 replace ena:=(y8 _ _ ena)
 have yG7:=zU hpa (HO.lst tp)
 have epa:=zO (H:=J8) (a:=pa) (o:=HO.lst tp)
 generalize hhG7:upd J8 pa (HO.lst tp)=G7 at yG7 epa |-
 have SG7:=SG6.trans yG7
 replace ex:=(yG7 _ _ ex)
 replace enu:=(yG7 _ _ enu)
 replace erl:=(yG7 _ _ erl)
 replace hrv:=(yY.same yG7 hrv)
 replace htn:=(zf.same yG7 htn)
 replace ena:=(yG7 _ _ ena)
 replace htp:=(zf.same yG7 htp)
 have ecS:zk (ns.map V.int) (some 17) (some (17 + mm))=((ns.drop 17).take (17 + mm.toNat - 17)).map V.int:=by
  rw [show (17:Int)=((17:Nat):Int) from rfl,show ((17:Nat):Int) + mm=((17 + mm.toNat:Nat):Int) by omega]
  exact qZ ns (by omega) (by omega)
 have ecA:zk (ns.map V.int) (some 30) (some (30 + mm))=((ns.drop 30).take (30 + mm.toNat - 30)).map V.int:=by
  rw [show (30:Int)=((30:Nat):Int) from rfl,show ((30:Nat):Int) + mm=((30 + mm.toNat:Nat):Int) by omega]
  exact qZ ns (by omega) (by omega)
 refine ⟨_,rfl,_,rfl,_,rfl,_,rfl,_,rfl,_,_,rfl,rfl,_,rfl,nu,_,rfl,zE.of enu,λsa hsa=>?_⟩
 rw [ecS]
 have yG8:=zU hsa (HO.lst (((ns.drop 17).take (17 + mm.toNat - 17)).map V.int))
 have esa:=zO (H:=G7) (a:=sa) (o:=HO.lst (((ns.drop 17).take (17 + mm.toNat - 17)).map V.int))
 generalize hhG8:upd G7 sa (HO.lst (((ns.drop 17).take (17 + mm.toNat - 17)).map V.int))=G8 at yG8 esa |-
 have SG8:=SG7.trans yG8
 replace ex:=(yG8 _ _ ex)
 replace enu:=(yG8 _ _ enu)
 replace erl:=(yG8 _ _ erl)
 replace hrv:=(yY.same yG8 hrv)
 replace htn:=(zf.same yG8 htn)
 replace ena:=(yG8 _ _ ena)
 replace htp:=(zf.same yG8 htp)
 replace epa:=(yG8 _ _ epa)
 refine ⟨_,rfl,_,rfl,_,rfl,_,rfl,_,_,rfl,rfl,_,rfl,nu,_,rfl,zE.of enu,λaa haa=>?_⟩
 rw [ecA]
 have yG9:=zU haa (HO.lst (((ns.drop 30).take (30 + mm.toNat - 30)).map V.int))
 have eaa:=zO (H:=G8) (a:=aa) (o:=HO.lst (((ns.drop 30).take (30 + mm.toNat - 30)).map V.int))
 generalize hhG9:upd G8 aa (HO.lst (((ns.drop 30).take (30 + mm.toNat - 30)).map V.int))=G9 at yG9 eaa |-
 have SG9:=SG8.trans yG9
 replace ex:=(yG9 _ _ ex)
 replace enu:=(yG9 _ _ enu)
 replace erl:=(yG9 _ _ erl)
 replace hrv:=(yY.same yG9 hrv)
 replace htn:=(zf.same yG9 htn)
 replace ena:=(yG9 _ _ ena)
 replace htp:=(zf.same yG9 htp)
 replace epa:=(yG9 _ _ epa)
 replace esa:=(yG9 _ _ esa)
 have a38:yA (xs.map V.int) (38:Int)=some (.int (xs[38]'(by omega))):=wJ (j:=38) _
 have d0:=Int.fmod_nonneg_of_pos (xs[38]'(by omega)) (show (0:Int) < 9 by decide)
 have d9:=Int.fmod_lt_of_pos (xs[38]'(by omega)) (show (0:Int) < 9 by decide)
 refine ⟨_,rfl,xa,_,_,_,rfl,rfl,zE.of ex,a38,_,_,rfl,rfl,(show (9:Int)≠0 by decide),_,_,rfl,rfl,(by show 6<=sizeLine; decide),λpl hpl=>?_⟩
 generalize (xs[38]'(by omega)).fmod 9=dv at d0 d9 |-
 have yG10:=zU hpl (HO.lst [V.ref rl,V.ref na,V.ref sa,V.ref pa,V.ref aa,V.int (1 + dv)])
 have epl:=zO (H:=G9) (a:=pl) (o:=HO.lst [V.ref rl,V.ref na,V.ref sa,V.ref pa,V.ref aa,V.int (1 + dv)])
 generalize hhG10:upd G9 pl (HO.lst [V.ref rl,V.ref na,V.ref sa,V.ref pa,V.ref aa,V.int (1 + dv)])=G10 at yG10 epl |-
 have SG10:=SG9.trans yG10
 replace ex:=(yG10 _ _ ex)
 replace enu:=(yG10 _ _ enu)
 replace erl:=(yG10 _ _ erl)
 replace hrv:=(yY.same yG10 hrv)
 replace htn:=(zf.same yG10 htn)
 replace ena:=(yG10 _ _ ena)
 replace htp:=(zf.same yG10 htp)
 replace epa:=(yG10 _ _ epa)
 replace esa:=(yG10 _ _ esa)
 replace eaa:=(yG10 _ _ eaa)
 have l1:((ns.drop 17).take (17 + mm.toNat - 17)).length=mm.toNat:=by rw [qc (by omega) (by omega)]; omega
 have l2:((ns.drop 30).take (30 + mm.toNat - 30)).length=mm.toNat:=by rw [qc (by omega) (by omega)]; omega
 refine q (.ref pl) ⟨rows,tN,(ns.drop 17).take (17 + mm.toNat - 17),tP,(ns.drop 30).take (30 + mm.toNat - 30),1 + dv⟩ _ SG10 ⟨pl,rl,na,sa,pa,aa,rv,tn,tp,rfl,epl,⟨erl,hrv,ena,htn,esa,epa,htp,eaa⟩⟩
  ⟨λr hr=>(RO r hr).1,(by show rows.length<=900; omega),⟨ltN,λr hr=>(otN r hr).1⟩,l1,⟨ltP,λr hr=>(otP r hr).1⟩,l2,(by show 1<=1 + dv; omega),(by omega),(by omega)⟩
  ⟨λr hr=>(RO r hr).2,λr hr=>(otN r hr).2,kE bns,λr hr=>(otP r hr).2,kE bns,(by show 1 + dv<=9; omega),(by show rows.length<=2; omega)⟩
end
section
variable {P:Program} {w:World} {K:PySem.W.Frag} {mg:Str->Option Value} {base:Heap}
noncomputable abbrev Yi:Stmt:=yN 46
theorem Ww:zw ["_law_one","_law_other"] ["_law_one","_law_other"] (zY Yi):=.a
theorem zFN {k:Nat} {f:Addr} {fd:FuncData} {ac ae:Addr} (af:zK K mg "Mode" ac) (ag:yE K ac) (ah:zK K mg "Thing" ae) (ai:yF K ae) (F:zx K "_law_divisor" "_law_divisor" Yi f fd) (B:Bl mg):zL P w K mg base zd (k + 1) f fd ["_law_one","_law_other"] Zr:=by
 refine F.ok Ww (λvs H Q E h=>?_) (λcdv A outer s H vs Q E hr h=>?_)
 ·obtain ⟨_,_,rfl,_⟩:=h
  rfl
 obtain ⟨a,b,rfl,q⟩:=h
 refine ⟨_,(zP (XD PassesOwn.never (yd jI (zB 1) zI (yH _)) (zW (UJ (i:=0) (j:=1) rfl Ww.nd rfl rfl (by decide) rfl rfl (zC (zB 1) (zC (zN (ji yj) (zB 0) (zB 1)) zG)) rfl)))
  (zW (zg (zn kq rfl B.abs_ ZP (zC (zB 0) zG))))),?_⟩
 try dsimp only [zJ,Cx.nox,Cx.wish]
 refine XF (λσ H'=>∃ c r:Int,σ=[some (.int c),some (.int r)]/\H'=H/\Int.gcd c r=Int.gcd a b) (λσ _=>match σ with | [_,some (.int r)]=>r.natAbs | _=>0) ⟨a,b,rfl,rfl,rfl⟩ ?_ ?_
 ·rintro σ H' ⟨c,r,rfl,rfl,hg⟩
  refine ⟨_,rfl,rfl,_,rfl,?_⟩
  by_cases z0:r=0
  ·subst z0
   refine ZH rfl ?_
   refine ⟨_,rfl,c,rfl,?_⟩
   rw [JP]
   rw [Int.gcd_zero_right] at hg
   rw [hg]
   exact q
  ·have ne:¬ (V.int r=V.int 0):=λe=>z0 (by injection e)
   refine yz (gN z0) ?_
   refine ⟨_,rfl,_,rfl,_,rfl,_,_,rfl,rfl,z0,_,_,rfl,?_⟩
   exact ⟨⟨r,c.fmod r,rfl,rfl,by rw [Xn]; exact hg⟩,JO z0⟩
 ·rintro σ H' Q1 Q2 h ⟨v,e,sc,k,ek,q1⟩
  exact ⟨v,e,sc,k,ek,h _ _ q1⟩
noncomputable abbrev Yj:Stmt:=yN 47
theorem Wx:zw ["_law_top","_law_bottom","_law_share"] ["_law_top","_law_bottom"] (zY Yj):=.a
theorem zEv {k:Nat} {f:Addr} {fd:FuncData} {ac ae:Addr} (af:zK K mg "Mode" ac) (ag:yE K ac) (ah:zK K mg "Thing" ae) (ai:yF K ae) (F:zx K "_law_fraction" "_law_fraction" Yj f fd) (B:Bl mg) (bf:Fn P w K mg base "_law_divisor" ["_law_one","_law_other"] k Zr):zL P w K mg base zd (k + 1) f fd ["_law_top","_law_bottom"] ut:=by
 refine F.ok Wx (λvs H Q E h=>?_) (λcdv A outer s H vs Q E hr h=>?_)
 ·obtain ⟨_,_,rfl,_⟩:=h
  rfl
 obtain ⟨t,b,rfl,b0,bb,q⟩:=h
 refine ⟨_,(zP (zj (i:=2) Wx.nd rfl (Or.inl rfl) (zi bf hr rfl (zC (zB 0) (zC (zB 1) zG))))
  (zW (zg (wR (zC (zN (ji wd) (zB 0) (zB 2)) (zC (zN (ji wd) (zB 1) (zB 2)) zG)))))),?_⟩
 try dsimp only [zJ,Cx.nox,Cx.wish]
 refine ⟨_,rfl,_,rfl,_,_,rfl,?_⟩
 have nb:b≠0:=by omega
 have ec:(Int.gcd t b:Int)=cm t b:=(JT b0).symm
 rw [ec]
 refine ⟨_,rfl,_,rfl,_,_,rfl,rfl,⟨ZJ nb,Zn bb nb⟩,_,rfl,_,rfl,_,_,rfl,rfl,⟨ZJ nb,Zn bb nb⟩,(by show 2<=sizeLine; decide),λr hr'=>?_⟩
 exact q r _ (zU hr' _) zO
noncomputable abbrev Yk:Stmt:=yN 48
theorem jA:zw ["_law_numbers","_law_point","_law_top","_law_bottom","_law_number_here","_law_value"] ["_law_numbers","_law_point"] (zY Yk):=.a
theorem zJI {k:Nat} {f:Addr} {fd:FuncData} {ac ae:Addr} (af:zK K mg "Mode" ac) (ag:yE K ac) (ah:zK K mg "Thing" ae) (ai:yF K ae) (F:zx K "_law_sum" "_law_sum" Yk f fd) (B:Bl mg) (ap:Fn P w K mg base "_law_fraction" ["_law_top","_law_bottom"] k ut):zL P w K mg base zd (k + 1) f fd ["_law_numbers","_law_point"] (kF K):=by
 refine F.ok jA (λvs H Q E h=>?_) (λcdv A outer s H vs Q E hr h=>?_)
 ·obtain ⟨_,_,_,_,_,rfl,_⟩:=h
  rfl
 obtain ⟨na,pa,ws,pv,pts,rfl,hna,hpa,hpt,GW,bb,q⟩:=h
 refine ⟨_,(zP (zj (i:=2) jA.nd rfl (Or.inl rfl) zI)
  (zP (zj (i:=3) jA.nd rfl (Or.inl rfl) zI)
  (zP (wE PassesOwn.never rfl (WH rfl B.zip_ (zC (zB 0) (zC (zB 1) zG))) (uU rfl (xM (zr (i:=4) jA.nd rfl (Or.inl rfl)) (xM (zr (i:=5) jA.nd rfl (Or.inl rfl)) v7))) (zP (zj (i:=2) jA.nd rfl (Or.inl rfl) (zN (zp yV) (zN (ji yf) (zB 2) (zV yC (zB 5) zI (λ_ _=>rfl))) (zN (ji yf) (zN (ji yf) (zB 4) (zV yC (zB 5) zI (λ_ _=>rfl))) (zB 3))))
   (zW (zj (i:=3) jA.nd rfl (Or.inl rfl) (zN (ji yf) (zB 3) (zV yC (zB 5) zI (λ_ _=>rfl)))))))
  (zW (zg (zi ap hr rfl (zC (zB 2) (zC (zB 3) zG)))))))),?_⟩
 try dsimp only [zJ,Cx.nox,Cx.wish]
 have lp:pv.length=pts.length:=Paired.length hpt
 have hlen:(ws.map V.int).length<=pv.length:=by rw [List.length_map,GW.len,lp]; exact Nat.le_refl _
 refine ⟨_,rfl,_,rfl,na,pa,rfl,WR (xs:=ws.map V.int) (ys:=pv) hna hpa
  (λi σ H2=>∃ n1 p1,σ=[some (.ref na),some (.ref pa),some (.int (((ws.zip pts).take i).foldl xf (0,1)).1),some (.int (((ws.zip pts).take i).foldl xf (0,1)).2),n1,p1]/\zD H H2)
  ⟨none,none,rfl,zD.refl _⟩ (λi σ H2 _ ⟨_,_,_,sm⟩=>sm) hlen ?_ ?_⟩
 ·rintro i x y T σ H2 hx hy hT ⟨n1,p1,rfl,sm⟩
  obtain ⟨wv,hw,rfl⟩:=vT hx
  obtain ⟨pr,hpr,r,rfl,er⟩:=ym hpt hy
  have hz:(ws.zip pts)[i]? = some (wv,pr):=by rw [List.getElem?_zip_eq_some]; exact ⟨hw,hpr⟩
  have hzm:=List.mem_of_getElem? hz
  obtain ⟨z1,z2,z3,z4⟩:=jW GW _ hzm
  have hil:i < pts.length:=(List.getElem?_eq_some_iff.mp hpr).1
  obtain ⟨b1,b2⟩:=gk i ((ws.zip pts).take i) (by rw [List.length_take,qV GW]; omega) λq hq=>(jW GW q (List.mem_of_mem_take hq)).2
  have n7:=GW.n7
  have s2:=sm.trans (zU hT (HO.tup [V.int wv,V.ref r]))
  have er2:=s2 _ _ er
  have tk:((ws.zip pts).take (i + 1)).foldl xf (0,1)=xf (((ws.zip pts).take i).foldl xf (0,1)) (wv,pr):=by rw [x9 hz,List.foldl_append]; rfl
  refine ⟨T,_,rfl,zS.of zO,rfl,_,_,rfl,_,_,rfl,rfl,?_⟩
  refine ⟨_,rfl,_,rfl,r,_,1,_,rfl,rfl,zS.of er2,xg,_,_,rfl,rfl,⟨b1.mono (by omega),z4.mono⟩,?_⟩
  refine ⟨_,rfl,_,rfl,r,_,0,_,rfl,rfl,zS.of er2,wj,_,_,rfl,rfl,⟨z2.mono,z3.mono⟩,_,rfl,_,_,rfl,rfl,⟨(z2.mul z3).mono,b2.mono (by omega)⟩,_,_,rfl,rfl,?_⟩
  refine ⟨_,rfl,_,rfl,r,_,1,_,rfl,rfl,zS.of er2,xg,_,_,rfl,rfl,⟨b2.mono (by omega),z4.mono⟩,?_⟩
  refine ⟨some (.int wv),some (.ref r),?_,s2⟩
  rw [tk]
  rfl
 ·rintro σ H2 ⟨n1,p1,rfl,sm⟩
  have tk:(ws.zip pts).take (ws.map V.int).length=ws.zip pts:=List.take_of_length_le (by rw [qV GW,List.length_map,GW.len]; exact Nat.le_refl _)
  rw [tk]
  have p0:0 < bt pts:=u4 λq hq=>(GW.ok q hq).1
  have ea:xP ws pts=(tp ws pts,bt pts):=gi GW.len
  unfold xP at ea
  rw [ea]
  exact ⟨_,rfl,_,rfl,_,_,rfl,p0,bb.mono,λr H3 s3 e3=>q r H3 (sm.trans s3) e3⟩
noncomputable abbrev Yl:Stmt:=yN 49
theorem Ym:zw ["_law_rows","_law_point","_law_row","_law_value"] ["_law_rows","_law_point"] (zY Yl):=.a
theorem zH7 {k:Nat} {f:Addr} {fd:FuncData} {ac ae:Addr} (af:zK K mg "Mode" ac) (ag:yE K ac) (ah:zK K mg "Thing" ae) (ai:yF K ae) (F:zx K "_law_held" "_law_held" Yl f fd) (B:Bl mg) (ay:Fn P w K mg base "_law_sum" ["_law_numbers","_law_point"] k (kF K)):zL P w K mg base zd (k + 1) f fd ["_law_rows","_law_point"] (kG K):=by
 refine F.ok Ym (λvs H Q E h=>?_) (λcdv A outer s H vs Q E hr h=>?_)
 ·obtain ⟨_,_,_,_,_,_,rfl,_⟩:=h
  rfl
 obtain ⟨rl,pa,rv,rows,pv,pts,rfl,hrl,hrv,RO,r9,hpa,hpt,PTG,bb,q⟩:=h
 refine ⟨_,(zP (wE PassesOwn.never rfl (xx (zB 0)) (zr (i:=2) Ym.nd rfl (Or.inl rfl)) (zP (zj (i:=3) Ym.nd rfl (Or.inl rfl) (zi ay hr rfl (zC (vR WL (zB 2) gJ (xy (w8 vA zI))) (zC (zB 1) zG))))
   (zW (yG (yd (zp gF) (zV yC (zB 3) zI (λ_ _=>rfl)) (zN (ji yf) (zV yC (zB 2) (w8 vA zI) (λ_ _=>rfl)) (zV yC (zB 3) zI (λ_ _=>rfl))) (yH _)) (zW (zg xi)) yM))))
  (zW (zg xi))),?_⟩
 try dsimp only [zJ,Cx.nox,Cx.wish]
 have lr:rv.length=rows.length:=Paired.length hrv
 refine ⟨_,rfl,rl,rfl,⟨_,zE.of hrl⟩,kh (K:=K) (a:=rl) (xs:=rv) (λi σ H'=>(rows.take i).all (wB pts)=true/\(∃ o1 o2,σ=[some (.ref rl),some (.ref pa),o1,o2])/\zD H H')
  ⟨rfl,⟨none,none,rfl⟩,zD.refl _⟩ (λi σ H' _ ⟨_,_,sm⟩=>zE.of (sm _ _ hrl)) ?_ ?_⟩
 ·rintro i x σ H' hi ⟨ha,⟨o1,o2,rfl⟩,sm⟩
  obtain ⟨row,hrow,a,rfl,ea⟩:=ym hrv hi
  have W:=RO _ (List.mem_of_getElem? hrow)
  have ea':H' a=some (.tup (xo (row.take pts.length) (row.getD pts.length 0))):=(sm _ _ ea).trans (by rw [X8 W.len])
  have ec:zk (xo (row.take pts.length) (row.getD pts.length 0)) none (some (-1))=(row.take pts.length).map V.int:=X1 _ _
  refine ⟨_,rfl,_,rfl,_,rfl,a,_,rfl,zS.of ea',X2 _ _,λp hp=>?_⟩
  have s1:=zU hp (HO.tup (zk (xo (row.take pts.length) (row.getD pts.length 0)) none (some (-1))))
  refine ⟨_,rfl,p,pa,row.take pts.length,pv,pts,rfl,.inl (zS.of (zO.trans (by rw [ec]))),(sm.trans s1).seq hpa,hpt.same (sm.trans s1),GO.of PTG W.rw,bb,λr1 H1 s2 e1=>?_⟩
  have s3:=s1.trans s2
  have bl:Bd 8000 (zR (tp (row.take pts.length) pts) (bt pts)):=(WV (t:=tp (row.take pts.length) pts) bb).mono
  have bw:=(W.at (Nat.le_refl _)).2
  refine ⟨_,rfl,r1,_,0,_,rfl,rfl,zS.of e1,wj,_,rfl,_,rfl,a,_,_,_,rfl,rfl,zS.of (s3 _ _ ea'),v8 _ _,_,rfl,r1,_,1,_,rfl,rfl,zS.of e1,xg,_,_,rfl,rfl,⟨bw.mono,bl.mono⟩,_,_,rfl,rfl,_,rfl,?_⟩
  have hl:=zJT PTG W
  refine yX (λc=>?_) (λc=>?_)
  ·have c1:¬ zZ (tp (row.take pts.length) pts) (bt pts)<=row.getD pts.length 0 * zR (tp (row.take pts.length) pts) (bt pts):=by
    have:=of_decide_eq_true c
    omega
   have z:=q H1 (sm.trans s3)
   rw [List.all_eq_false.mpr ⟨row,List.mem_of_getElem? hrow,by rw [hl,decide_eq_false c1]; decide⟩] at z
   exact z
  ·have c1:zZ (tp (row.take pts.length) pts) (bt pts)<=row.getD pts.length 0 * zR (tp (row.take pts.length) pts) (bt pts):=by
    by_cases y:zZ (tp (row.take pts.length) pts) (bt pts)<=row.getD pts.length 0 * zR (tp (row.take pts.length) pts) (bt pts)
    ·exact y
    ·exact absurd (decide_eq_true (by omega)) c
   refine ⟨?_,⟨_,_,rfl⟩,sm.trans s3⟩
   rw [x9 hrow,List.all_append,ha,List.all_cons,hl,decide_eq_true c1]
   rfl
 ·rintro σ H' ⟨ha,⟨o1,o2,rfl⟩,sm⟩
  rw [lr,List.take_length] at ha
  have z:=q H' sm
  rw [ha] at z
  exact z
noncomputable abbrev Yn:Stmt:=yN 52
theorem Yo:zw ["_law_pushes_here","_law_bounds","_law_value","_law_ends"] ["_law_pushes_here","_law_bounds"] (zY Yn):=.a
theorem zJJ {k:Nat} {f:Addr} {fd:FuncData} {ac ae:Addr} (af:zK K mg "Mode" ac) (ag:yE K ac) (ah:zK K mg "Thing" ae) (ai:yF K ae) (F:zx K "_law_fit" "_law_fit" Yn f fd) (B:Bl mg):zL P w K mg base zd (k + 1) f fd ["_law_pushes_here","_law_bounds"] Yc:=by
 refine F.ok Yo (λvs H Q E h=>?_) (λcdv A outer s H vs Q E hr h=>?_)
 ·obtain ⟨_,_,_,_,_,_,rfl,_⟩:=h
  rfl
 obtain ⟨ua,ba,uv,bv,us,bs,rfl,hua,hut,hba,hbv,l4,bu,bbs,q⟩:=h
 refine ⟨_,(zP (yG (yd jI (zn zu rfl B.len_ yt (zC (zB 0) zG)) (zn zu rfl B.len_ yt (zC (zB 1) zG)) (yH _)) (zW (zg xi)) yM)
  (zP (wE PassesOwn.never rfl (X6 rfl B.zip_ (zC (zB 0) (zC (zB 1) zG))) (uU rfl (xM (zr (i:=2) Yo.nd rfl (Or.inl rfl)) (xM (zr (i:=3) Yo.nd rfl (Or.inl rfl)) v7))) (zW (yG (xE (UW jv jv (zN (ji yf) (zV yC (zB 3) zI (λ_ _=>rfl)) (zV yC (zB 2) zI (λ_ _=>rfl))) (zV yC (zB 2) zI (λ_ _=>rfl)) (zN (ji yf) (zV yC (zB 3) zI (λ_ _=>rfl)) (zV yC (zB 2) zI (λ_ _=>rfl))))) (zW (zg xi)) yM)))
  (zW (zg xi)))),?_⟩
 try dsimp only [zJ,Cx.nox,Cx.wish]
 have luv:uv.length=us.length:=Paired.length hut
 have lbv:bv.length=bs.length:=Paired.length hbv
 refine ⟨_,rfl,ua,_,rfl,.inl (zE.of hua),_,rfl,ba,_,rfl,.inl (zE.of hba),rfl,_,rfl,?_⟩
 by_cases cl:us.length=bs.length
 case neg=>
  refine yz (gN (by omega)) ?_
  have z:=q H (zD.refl _)
  rw [show xB us bs=false by unfold xB; rw [decide_eq_false cl]; rfl] at z
  exact z
 have ef:xB us bs=(us.zip bs).all λq=>xw q.1 q.2:=by unfold xB; rw [decide_eq_true cl]; rfl
 refine yl (by rw [vj (show (uv.length:Int)=(bv.length:Int) by omega)]; rfl) ?_
 refine ⟨_,rfl,_,rfl,ua,ba,rfl,⟨_,zE.of hua⟩,⟨_,zE.of hba⟩,X7 (K:=K) (a:=ua) (b:=ba) (xs:=uv) (ys:=bv)
  (λi σ H'=>((us.zip bs).take i).all (λq=>xw q.1 q.2)=true/\(∃ o1 o2,σ=[some (.ref ua),some (.ref ba),o1,o2])/\zD H H')
  ⟨rfl,⟨none,none,rfl⟩,zD.refl _⟩ (λi σ H' _ ⟨_,_,sm⟩=>⟨zE.of (sm _ _ hua),zE.of (sm _ _ hba)⟩) (by omega) ?_ ?_⟩
 ·rintro i x y T σ H' hx hy hT ⟨ha,⟨o1,o2,rfl⟩,sm⟩
  obtain ⟨u,hu,a,rfl,ea⟩:=ym hut hx
  obtain ⟨b,hb,c,rfl,ec⟩:=ym hbv hy
  have s2:=sm.trans (zU hT (HO.tup [V.ref a,V.ref c]))
  have ea:=s2 _ _ ea
  have ec:=s2 _ _ ec
  obtain ⟨b1,b2⟩:=bbs b (List.mem_of_getElem? hb)
  obtain ⟨u1,u2⟩:=bu u (List.mem_of_getElem? hu)
  have hz:(us.zip bs)[i]? = some (u,b):=List.getElem?_zip_eq_some.mpr ⟨hu,hb⟩
  have no:xw u b=false->∀ H9,zD H H9->Q (.bl false) H9:=λe H9 s9=>by
   have z:=q H9 s9
   rw [ef,List.all_eq_false.mpr ⟨(u,b),List.mem_of_getElem? hz,by rw [e]; decide⟩] at z
   exact z
  refine ⟨T,_,rfl,zS.of zO,rfl,_,_,rfl,_,_,rfl,rfl,?_⟩
  refine ⟨_,rfl,c,_,0,_,rfl,rfl,zS.of ec,wj,_,rfl,a,_,1,_,rfl,rfl,zS.of ea,xg,_,_,rfl,rfl,⟨b1.mono,u2.mono⟩,_,rfl,a,_,0,_,rfl,rfl,zS.of ea,wj,_,_,rfl,rfl,_,rfl,?_⟩
  refine yX (λc1=>?_) (λc1=>?_)
  ·refine ⟨_,rfl,c,_,1,_,rfl,rfl,zS.of ec,xg,_,rfl,a,_,1,_,rfl,rfl,zS.of ea,xg,_,_,rfl,rfl,⟨b2.mono,u2.mono⟩,_,_,rfl,rfl,_,rfl,?_⟩
   have k1:b.1 * u.2<=u.1:=of_decide_eq_true c1
   by_cases k2:u.1<=b.2 * u.2
   ·refine yl (by rw [decide_eq_true k2]; rfl) ?_
    refine ⟨?_,⟨_,_,rfl⟩,s2⟩
    rw [x9 hz,List.all_append,ha,List.all_cons]
    show (true && (xw u b && true))=true
    unfold xw
    rw [decide_eq_true k1,decide_eq_true k2]
    rfl
   ·refine yz (by rw [decide_eq_false k2]; rfl) ?_
    exact no (by unfold xw; rw [decide_eq_false k2,Bool.and_false]) _ s2
  ·have k1:¬ b.1 * u.2<=u.1:=λy=>c1 (decide_eq_true y)
   exact ⟨_,rfl,yz rfl (no (by unfold xw; rw [decide_eq_false k1]; rfl) _ s2)⟩
 ·rintro σ H' ⟨ha,⟨o1,o2,rfl⟩,sm⟩
  rw [List.take_of_length_le (by rw [List.length_zip]; omega)] at ha
  have z:=q H' sm
  rw [ef,ha] at z
  exact z
end
section
variable {P:Program} {w:World} {K:PySem.W.Frag} {mg:Str->Option Value} {base:Heap}
noncomputable abbrev Yp:Stmt:=yN 50
theorem vW:zw ["_law_parts_here","_law_point","_law_steering","_law_pushes_here","_law_rows","_law_nexts","_law_steer","_law_push","_law_add","_law_divisor_here","_law_found","_law_i","_law_value"] ["_law_parts_here","_law_point","_law_steering","_law_pushes_here"] (zY Yp):=.a
theorem zGB {k:Nat} {f:Addr} {fd:FuncData} {ac ae:Addr} (af:zK K mg "Mode" ac) (ag:yE K ac) (ah:zK K mg "Thing" ae) (ai:yF K ae) (F:zx K "_law_behind" "_law_behind" Yp f fd) (B:Bl mg) (ay:Fn P w K mg base "_law_sum" ["_law_numbers","_law_point"] k (kF K)) (ap:Fn P w K mg base "_law_fraction" ["_law_top","_law_bottom"] k ut):zL P w K mg base zd (k + 1) f fd ["_law_parts_here","_law_point","_law_steering","_law_pushes_here"] Yd:=by
 refine F.ok vW (λvs H Q E h=>?_) (λcdv A outer s H vs Q E hr h=>?_)
 ·obtain ⟨_,_,_,_,_,_,_,_,_,_,_,_,rfl,_⟩:=h
  rfl
 obtain ⟨v,m,n,ww,pa,sa,ua,pv,uv,p,us,sv,rfl,hM,MO,mz,hpa,hpt,lp,hsa,hua,hut,lu,vo,q⟩:=h
 refine ⟨_,(zP (kZ (zB 0) (QL rfl (xM (zr (i:=4) vW.nd rfl (Or.inl rfl)) (xM (zr (i:=5) vW.nd rfl (Or.inl rfl)) (xM (zr (i:=6) vW.nd rfl (Or.inl rfl)) (xM (zr (i:=7) vW.nd rfl (Or.inl rfl)) (xM (zr (i:=8) vW.nd rfl (Or.inl rfl)) (xM (zr (i:=9) vW.nd rfl (Or.inl rfl)) v7))))))))
  (zP (zj (i:=10) vW.nd rfl (Or.inl rfl) (yq zG))
  (zP (wE PassesOwn.never rfl (wu rfl B.range_ (zC (zn zu rfl B.len_ yt (zC (zB 1) zG)) zG)) (zr (i:=11) vW.nd rfl (Or.inl rfl)) (zP (zj (i:=12) vW.nd rfl (Or.inl rfl) (zi ay hr rfl (zC (zN xH (zN xH (zN xH (zV zo (zB 5) (zB 11) (λ_ _=>rfl)) (yq (zC (zV zo (zB 6) (zB 11) (λ_ _=>rfl)) zG))) (zV zo (zB 7) (zB 11) (λ_ _=>rfl))) (yq (zC (zV zo (zB 8) (zB 11) (λ_ _=>rfl)) zG))) (zC (zN xH (zN xH (zN xH (zB 1) (yq (zC (zB 2) zG))) (zB 3)) (yq (zC (wR (zC zI (zC zI zG))) zG))) zG))))
   (zW (wb (vC PySem.F.plainAttrs_list PySem.F.slot_list_append PySem.F.type_list_append xG (zB 10) (zC (zi ap hr rfl (zC (zV yC (zB 12) zI (λ_ _=>rfl)) (zC (zN (ji yf) (zV yC (zB 12) zI (λ_ _=>rfl)) (zB 9)) zG))) zG))))))
  (zW (zg (zB 10)))))),?_⟩
 try dsimp only [zJ,Cx.nox,Cx.wish]
 obtain ⟨pl,r,n0,s0,p0,a0,rv,nv,pw,rfl,hpl,PB⟩:=hM
 have l1:=MO.nexts.1
 have l2:=MO.push.1
 have l3:=MO.steer
 have l4:=MO.add
 have n3:=vo.l3
 have w3:=vo.l2
 have dp:0 < m.div:=by have:=MO.div; omega
 have d9:=mz.div
 have lpv:pv.length=p.length:=Paired.length hpt
 have luv:uv.length=us.length:=Paired.length hut
 refine ⟨_,rfl,pl,_,rfl,zE.of hpl,rfl,_,_,rfl,_,_,rfl,_,_,rfl,_,_,rfl,_,_,rfl,_,_,rfl,rfl,?_⟩
 refine ⟨(by show 0<=sizeLine; decide),λfl hfl=>?_⟩
 have y0:=zU hfl (HO.lst [])
 have s0':=ur (B:=[fl]) (λx hx=>by rw [List.mem_singleton.mp hx]; exact hfl) y0
 refine ⟨_,rfl,pa,_,rfl,.inl (zE.of (y0 _ _ hpa)),_,rfl,(by omega),(by omega),uX (lo:=0) (n:=((pv.length:Nat):Int).toNat)
  (λi σ H'=>∃ (xs:List V) (o11 o12:Option V),σ=[some (.ref pl),some (.ref pa),some (.ref sa),some (.ref ua),some (.ref r),some (.ref n0),some (.ref s0),some (.ref p0),some (.ref a0),some (.int m.div),some (.ref fl),o11,o12]/\zD H (hide [fl] H')/\H' fl=some (.lst xs)/\zX (hide [fl] H') xs ((List.range i).map λj=>wq m j p us sv))
  ⟨[],none,none,rfl,s0',zO,.nil⟩ ?_ ?_⟩
 ·rintro i σ J0 hi0 ⟨xs,o11,o12,rfl,sm,efl,hxs⟩
  have hi:i < n:=by omega
  have sj:=sm.trans yD
  have PB:=PB.same sj
  have lxs:xs.length=i:=by have:=Paired.length hxs; rw [List.length_map,List.length_range] at this; exact this
  obtain ⟨na,en,gn,mn⟩:=gx PB.hnv (i:=i) (by omega)
  obtain ⟨qa,eq',gq,mq⟩:=gx PB.hpv (i:=i) (by omega)
  obtain ⟨es,ms⟩:=gy (r:=m.steer) (j:=i) (by omega)
  obtain ⟨ea,ma⟩:=gy (r:=m.add) (j:=i) (by omega)
  have ln:=MO.nexts.2 _ mn
  have lq:=MO.push.2 _ mq
  have en:yA nv ((0:Int) + (i:Int))=some (.ref na):=by rw [Int.zero_add]; exact wS en
  have eq':yA pw ((0:Int) + (i:Int))=some (.ref qa):=by rw [Int.zero_add]; exact wS eq'
  have es:yA (m.steer.map V.int) ((0:Int) + (i:Int))=some (.int (m.steer.getD i 0)):=by rw [Int.zero_add]; exact es
  have ea:yA (m.add.map V.int) ((0:Int) + (i:Int))=some (.int (m.add.getD i 0)):=by rw [Int.zero_add]; exact ea
  have hpa:=sj _ _ hpa
  have hpt:=hpt.same sj
  have hsa:=sj _ _ hsa
  have hua:=sj _ _ hua
  have hut:=hut.same sj
  refine ⟨_,rfl,_,rfl,n0,_,_,_,rfl,rfl,zE.of PB.hn,en,_,rfl,_,rfl,s0,_,_,_,rfl,rfl,zE.of PB.hs,es,(by show 1<=sizeLine; decide),λd1 hd1=>?_⟩
  have yJ1:=zU hd1 (HO.lst [V.int (m.steer.getD i 0)])
  have ed1:=zO (H:=J0) (a:=d1) (o:=HO.lst [V.int (m.steer.getD i 0)])
  generalize hhJ1:upd J0 d1 (HO.lst [V.int (m.steer.getD i 0)])=J1 at yJ1 ed1 |-
  have SJ1:=yJ1
  replace efl:=(yJ1 _ _ efl)
  replace gn:=(yJ1 _ _ gn)
  replace gq:=(yJ1 _ _ gq)
  replace hpa:=(yJ1 _ _ hpa)
  replace hsa:=(yJ1 _ _ hsa)
  replace hua:=(yJ1 _ _ hua)
  replace hpt:=(zX.same yJ1 hpt)
  replace hut:=(zX.same yJ1 hut)
  refine ⟨na,d1,_,_,rfl,rfl,gn,ed1,Nat.le_of_lt (yB (by simp only [List.length_append,List.length_map,List.length_cons,List.length_nil]; omega)),λc1 hc1=>?_⟩
  have yJ2:=zU hc1 (HO.lst ((m.nexts.getD i []).map V.int++[V.int (m.steer.getD i 0)]))
  have ec1:=zO (H:=J1) (a:=c1) (o:=HO.lst ((m.nexts.getD i []).map V.int++[V.int (m.steer.getD i 0)]))
  generalize hhJ2:upd J1 c1 (HO.lst ((m.nexts.getD i []).map V.int++[V.int (m.steer.getD i 0)]))=J2 at yJ2 ec1 |-
  have SJ2:=SJ1.trans yJ2
  replace efl:=(yJ2 _ _ efl)
  replace gn:=(yJ2 _ _ gn)
  replace gq:=(yJ2 _ _ gq)
  replace hpa:=(yJ2 _ _ hpa)
  replace hsa:=(yJ2 _ _ hsa)
  replace hua:=(yJ2 _ _ hua)
  replace hpt:=(zX.same yJ2 hpt)
  replace hut:=(zX.same yJ2 hut)
  replace ed1:=(yJ2 _ _ ed1)
  refine ⟨_,rfl,_,rfl,p0,_,_,_,rfl,rfl,zE.of (SJ2 _ _ PB.hp),eq',c1,qa,_,_,rfl,rfl,ec1,gq,Nat.le_of_lt (yB (by simp only [List.length_append,List.length_map,List.length_cons,List.length_nil]; omega)),λc2 hc2=>?_⟩
  have yJ3:=zU hc2 (HO.lst ((m.nexts.getD i []).map V.int++[V.int (m.steer.getD i 0)]++(m.push.getD i []).map V.int))
  have ec2:=zO (H:=J2) (a:=c2) (o:=HO.lst ((m.nexts.getD i []).map V.int++[V.int (m.steer.getD i 0)]++(m.push.getD i []).map V.int))
  generalize hhJ3:upd J2 c2 (HO.lst ((m.nexts.getD i []).map V.int++[V.int (m.steer.getD i 0)]++(m.push.getD i []).map V.int))=J3 at yJ3 ec2 |-
  have SJ3:=SJ2.trans yJ3
  replace efl:=(yJ3 _ _ efl)
  replace gn:=(yJ3 _ _ gn)
  replace gq:=(yJ3 _ _ gq)
  replace hpa:=(yJ3 _ _ hpa)
  replace hsa:=(yJ3 _ _ hsa)
  replace hua:=(yJ3 _ _ hua)
  replace hpt:=(zX.same yJ3 hpt)
  replace hut:=(zX.same yJ3 hut)
  replace ed1:=(yJ3 _ _ ed1)
  replace ec1:=(yJ3 _ _ ec1)
  refine ⟨_,rfl,_,rfl,a0,_,_,_,rfl,rfl,zE.of (SJ3 _ _ PB.ha),ea,(by show 1<=sizeLine; decide),λd2 hd2=>?_⟩
  have yJ4:=zU hd2 (HO.lst [V.int (m.add.getD i 0)])
  have ed2:=zO (H:=J3) (a:=d2) (o:=HO.lst [V.int (m.add.getD i 0)])
  generalize hhJ4:upd J3 d2 (HO.lst [V.int (m.add.getD i 0)])=J4 at yJ4 ed2 |-
  have SJ4:=SJ3.trans yJ4
  replace efl:=(yJ4 _ _ efl)
  replace gn:=(yJ4 _ _ gn)
  replace gq:=(yJ4 _ _ gq)
  replace hpa:=(yJ4 _ _ hpa)
  replace hsa:=(yJ4 _ _ hsa)
  replace hua:=(yJ4 _ _ hua)
  replace hpt:=(zX.same yJ4 hpt)
  replace hut:=(zX.same yJ4 hut)
  replace ed1:=(yJ4 _ _ ed1)
  replace ec1:=(yJ4 _ _ ec1)
  replace ec2:=(yJ4 _ _ ec2)
  refine ⟨c2,d2,_,_,rfl,rfl,ec2,ed2,Nat.le_of_lt (yB (by simp only [List.length_append,List.length_map,List.length_cons,List.length_nil]; omega)),λc3 hc3=>?_⟩
  have yJ5:=zU hc3 (HO.lst ((m.nexts.getD i []).map V.int++[V.int (m.steer.getD i 0)]++(m.push.getD i []).map V.int++[V.int (m.add.getD i 0)]))
  have ec3:=zO (H:=J4) (a:=c3) (o:=HO.lst ((m.nexts.getD i []).map V.int++[V.int (m.steer.getD i 0)]++(m.push.getD i []).map V.int++[V.int (m.add.getD i 0)]))
  generalize hhJ5:upd J4 c3 (HO.lst ((m.nexts.getD i []).map V.int++[V.int (m.steer.getD i 0)]++(m.push.getD i []).map V.int++[V.int (m.add.getD i 0)]))=J5 at yJ5 ec3 |-
  have SJ5:=SJ4.trans yJ5
  replace efl:=(yJ5 _ _ efl)
  replace gn:=(yJ5 _ _ gn)
  replace gq:=(yJ5 _ _ gq)
  replace hpa:=(yJ5 _ _ hpa)
  replace hsa:=(yJ5 _ _ hsa)
  replace hua:=(yJ5 _ _ hua)
  replace hpt:=(zX.same yJ5 hpt)
  replace hut:=(zX.same yJ5 hut)
  replace ed1:=(yJ5 _ _ ed1)
  replace ec1:=(yJ5 _ _ ec1)
  replace ec2:=(yJ5 _ _ ec2)
  replace ed2:=(yJ5 _ _ ed2)
  refine ⟨_,rfl,_,rfl,(by show 1<=sizeLine; decide),λd3 hd3=>?_⟩
  have yJ6:=zU hd3 (HO.lst [V.ref sa])
  have ed3:=zO (H:=J5) (a:=d3) (o:=HO.lst [V.ref sa])
  generalize hhJ6:upd J5 d3 (HO.lst [V.ref sa])=J6 at yJ6 ed3 |-
  have SJ6:=SJ5.trans yJ6
  replace efl:=(yJ6 _ _ efl)
  replace gn:=(yJ6 _ _ gn)
  replace gq:=(yJ6 _ _ gq)
  replace hpa:=(yJ6 _ _ hpa)
  replace hsa:=(yJ6 _ _ hsa)
  replace hua:=(yJ6 _ _ hua)
  replace hpt:=(zX.same yJ6 hpt)
  replace hut:=(zX.same yJ6 hut)
  replace ed1:=(yJ6 _ _ ed1)
  replace ec1:=(yJ6 _ _ ec1)
  replace ec2:=(yJ6 _ _ ec2)
  replace ed2:=(yJ6 _ _ ed2)
  replace ec3:=(yJ6 _ _ ec3)
  refine ⟨pa,d3,_,_,rfl,rfl,hpa,ed3,Nat.le_of_lt (yB (by simp only [List.length_append,List.length_map,List.length_cons,List.length_nil]; omega)),λc4 hc4=>?_⟩
  have yJ7:=zU hc4 (HO.lst (pv++[V.ref sa]))
  have ec4:=zO (H:=J6) (a:=c4) (o:=HO.lst (pv++[V.ref sa]))
  generalize hhJ7:upd J6 c4 (HO.lst (pv++[V.ref sa]))=J7 at yJ7 ec4 |-
  have SJ7:=SJ6.trans yJ7
  replace efl:=(yJ7 _ _ efl)
  replace gn:=(yJ7 _ _ gn)
  replace gq:=(yJ7 _ _ gq)
  replace hpa:=(yJ7 _ _ hpa)
  replace hsa:=(yJ7 _ _ hsa)
  replace hua:=(yJ7 _ _ hua)
  replace hpt:=(zX.same yJ7 hpt)
  replace hut:=(zX.same yJ7 hut)
  replace ed1:=(yJ7 _ _ ed1)
  replace ec1:=(yJ7 _ _ ec1)
  replace ec2:=(yJ7 _ _ ec2)
  replace ed2:=(yJ7 _ _ ed2)
  replace ec3:=(yJ7 _ _ ec3)
  replace ed3:=(yJ7 _ _ ed3)
  refine ⟨_,rfl,c4,ua,_,_,rfl,rfl,ec4,hua,Nat.le_of_lt (yB (by simp only [List.length_append,List.length_map,List.length_cons,List.length_nil]; omega)),λc5 hc5=>?_⟩
  have yJ8:=zU hc5 (HO.lst (pv++[V.ref sa]++uv))
  have ec5:=zO (H:=J7) (a:=c5) (o:=HO.lst (pv++[V.ref sa]++uv))
  generalize hhJ8:upd J7 c5 (HO.lst (pv++[V.ref sa]++uv))=J8 at yJ8 ec5 |-
  have SJ8:=SJ7.trans yJ8
  replace efl:=(yJ8 _ _ efl)
  replace gn:=(yJ8 _ _ gn)
  replace gq:=(yJ8 _ _ gq)
  replace hpa:=(yJ8 _ _ hpa)
  replace hsa:=(yJ8 _ _ hsa)
  replace hua:=(yJ8 _ _ hua)
  replace hpt:=(zX.same yJ8 hpt)
  replace hut:=(zX.same yJ8 hut)
  replace ed1:=(yJ8 _ _ ed1)
  replace ec1:=(yJ8 _ _ ec1)
  replace ec2:=(yJ8 _ _ ec2)
  replace ed2:=(yJ8 _ _ ed2)
  replace ec3:=(yJ8 _ _ ec3)
  replace ed3:=(yJ8 _ _ ed3)
  replace ec4:=(yJ8 _ _ ec4)
  refine ⟨(by show 2<=sizeLine; decide),λt1 ht1=>?_⟩
  have yJ9:=zU ht1 (HO.tup [V.int 1,V.int 1])
  have et1:=zO (H:=J8) (a:=t1) (o:=HO.tup [V.int 1,V.int 1])
  generalize hhJ9:upd J8 t1 (HO.tup [V.int 1,V.int 1])=J9 at yJ9 et1 |-
  have SJ9:=SJ8.trans yJ9
  replace efl:=(yJ9 _ _ efl)
  replace gn:=(yJ9 _ _ gn)
  replace gq:=(yJ9 _ _ gq)
  replace hpa:=(yJ9 _ _ hpa)
  replace hsa:=(yJ9 _ _ hsa)
  replace hua:=(yJ9 _ _ hua)
  replace hpt:=(zX.same yJ9 hpt)
  replace hut:=(zX.same yJ9 hut)
  replace ed1:=(yJ9 _ _ ed1)
  replace ec1:=(yJ9 _ _ ec1)
  replace ec2:=(yJ9 _ _ ec2)
  replace ed2:=(yJ9 _ _ ed2)
  replace ec3:=(yJ9 _ _ ec3)
  replace ed3:=(yJ9 _ _ ed3)
  replace ec4:=(yJ9 _ _ ec4)
  replace ec5:=(yJ9 _ _ ec5)
  refine ⟨(by show 1<=sizeLine; decide),λd4 hd4=>?_⟩
  have yJ10:=zU hd4 (HO.lst [V.ref t1])
  have ed4:=zO (H:=J9) (a:=d4) (o:=HO.lst [V.ref t1])
  generalize hhJ10:upd J9 d4 (HO.lst [V.ref t1])=J10 at yJ10 ed4 |-
  have SJ10:=SJ9.trans yJ10
  replace efl:=(yJ10 _ _ efl)
  replace gn:=(yJ10 _ _ gn)
  replace gq:=(yJ10 _ _ gq)
  replace hpa:=(yJ10 _ _ hpa)
  replace hsa:=(yJ10 _ _ hsa)
  replace hua:=(yJ10 _ _ hua)
  replace hpt:=(zX.same yJ10 hpt)
  replace hut:=(zX.same yJ10 hut)
  replace ed1:=(yJ10 _ _ ed1)
  replace ec1:=(yJ10 _ _ ec1)
  replace ec2:=(yJ10 _ _ ec2)
  replace ed2:=(yJ10 _ _ ed2)
  replace ec3:=(yJ10 _ _ ec3)
  replace ed3:=(yJ10 _ _ ed3)
  replace ec4:=(yJ10 _ _ ec4)
  replace ec5:=(yJ10 _ _ ec5)
  replace et1:=(yJ10 _ _ et1)
  refine ⟨c5,d4,_,_,rfl,rfl,ec5,ed4,Nat.le_of_lt (yB (by simp only [List.length_append,List.length_map,List.length_cons,List.length_nil]; omega)),λc6 hc6=>?_⟩
  have yJ11:=zU hc6 (HO.lst (pv++[V.ref sa]++uv++[V.ref t1]))
  have ec6:=zO (H:=J10) (a:=c6) (o:=HO.lst (pv++[V.ref sa]++uv++[V.ref t1]))
  generalize hhJ11:upd J10 c6 (HO.lst (pv++[V.ref sa]++uv++[V.ref t1]))=J11 at yJ11 ec6 |-
  have SJ11:=SJ10.trans yJ11
  replace efl:=(yJ11 _ _ efl)
  replace gn:=(yJ11 _ _ gn)
  replace gq:=(yJ11 _ _ gq)
  replace hpa:=(yJ11 _ _ hpa)
  replace hsa:=(yJ11 _ _ hsa)
  replace hua:=(yJ11 _ _ hua)
  replace hpt:=(zX.same yJ11 hpt)
  replace hut:=(zX.same yJ11 hut)
  replace ed1:=(yJ11 _ _ ed1)
  replace ec1:=(yJ11 _ _ ec1)
  replace ec2:=(yJ11 _ _ ec2)
  replace ed2:=(yJ11 _ _ ed2)
  replace ec3:=(yJ11 _ _ ec3)
  replace ed3:=(yJ11 _ _ ed3)
  replace ec4:=(yJ11 _ _ ec4)
  replace ec5:=(yJ11 _ _ ec5)
  replace et1:=(yJ11 _ _ et1)
  replace ed4:=(yJ11 _ _ ed4)
  have e3:J11 c3=some (.lst (((m.nexts.getD i [])++[(m.steer.getD i 0)]++(m.push.getD i [])++[(m.add.getD i 0)]).map V.int)):=ec3.trans (by simp only [List.map_append,List.map_cons,List.map_nil])
  have ht:zX J11 (pv++[V.ref sa]++uv++[V.ref t1]) (p++[sv]++us++[(1,1)]):=xR (R:=wA _) (y:=((1,1):Int × Int)) ⟨t1,rfl,et1⟩ (gU (xR (R:=wA _) ⟨sa,rfl,hsa⟩ hpt) hut)
  have G2:GO ((m.nexts.getD i [])++[(m.steer.getD i 0)]++(m.push.getD i [])++[(m.add.getD i 0)]) (p++[sv]++us++[(1,1)]):=by
   refine ⟨by simp only [List.length_append,List.length_cons,List.length_nil]; omega,by simp only [List.length_append,List.length_cons,List.length_nil]; omega,λx hx=>?_,λq hq=>?_⟩
   ·have:wM x:=by
     simp only [List.mem_append,List.mem_singleton] at hx
     rcases hx with ((hx | hx) | hx) | hx
     ·exact mz.nexts _ mn x hx
     ·rw [hx]; exact mz.steer _ ms
     ·exact mz.push _ mq x hx
     ·rw [hx]; exact mz.add _ ma
    exact this.bd (by decide)
   ·simp only [List.mem_append,List.mem_singleton] at hq
    rcases hq with ((hq | hq) | hq) | hq
    ·exact vo.ok q (by simp [hq])
    ·exact vo.ok q (by simp [hq])
    ·exact vo.ok q (by simp [hq])
    ·rw [hq]; exact ⟨by decide,(Bd.lit (n:=1)).mono,(Bd.lit (n:=1)).mono⟩
  have hb0:0 < bt (p++us++[sv]):=u4 λq hq=>(vo.ok q hq).1
  obtain ⟨tl1,tl2⟩:=Wm (st:=(m.steer.getD i 0)) (ad:=(m.add.getD i 0)) (s:=sv) (show (m.nexts.getD i []).length=p.length by omega) (show (m.push.getD i []).length=us.length by omega)
  have bb:Bd 7000 (bt (p++[sv]++us++[(1,1)])):=by rw [tl2]; exact vo.big
  refine ⟨c3,c6,_,_,_,rfl,.inr (zE.of e3),zE.of ec6,ht,G2,bb,λr1 K1 z1 e1=>?_⟩
  have SJ12:=SJ11.trans z1
  replace efl:=(z1 _ _ efl)
  obtain ⟨w1,w2⟩:=zKm (nx:=(m.nexts.getD i [])) (pu:=(m.push.getD i [])) (st:=(m.steer.getD i 0)) (ad:=(m.add.getD i 0)) (dv:=m.div) (s:=sv) (show (m.nexts.getD i []).length=p.length by omega) (show (m.push.getD i []).length=us.length by omega) hb0 dp
  have lb0:=uA (t:=tp ((m.nexts.getD i [])++[(m.steer.getD i 0)]++(m.push.getD i [])++[(m.add.getD i 0)]) (p++[sv]++us++[(1,1)])) (b:=bt (p++[sv]++us++[(1,1)])) (by rw [tl2]; omega)
  have lb1:=WV (t:=tp ((m.nexts.getD i [])++[(m.steer.getD i 0)]++(m.push.getD i [])++[(m.add.getD i 0)]) (p++[sv]++us++[(1,1)])) bb
  have bdv:Bd 5 m.div:=by
   show m.div.natAbs < 2 ^ 5
   omega
  refine ⟨_,rfl,.inl ⟨rfl,_,zE.of efl⟩,_,rfl,r1,_,0,_,rfl,rfl,zS.of e1,wj,_,rfl,r1,_,1,_,rfl,rfl,zS.of e1,xg,_,rfl,_,_,rfl,rfl,⟨lb1.mono,bdv.mono⟩,_,_,rfl,Int.mul_pos lb0 dp,(lb1.mul bdv).mono,λr2 K2 z2 e2=>?_⟩
  rw [w1,w2] at e2
  have SJ13:=SJ12.trans z2
  replace efl:=(z2 _ _ efl)
  refine ⟨fl,xs,.ref r2,rfl,rfl,efl,yB (by omega),?_⟩
  have h4:=(xr (B:=[fl]) SJ13).trans (wL (x:=fl) (HO.lst (xs++[V.ref r2])))
  have nr:r2∉[fl]:=λy=>by
   rw [List.mem_singleton.mp y,efl] at e2
   cases e2
  refine ⟨xs++[V.ref r2],_,_,rfl,sm.trans h4,zO,?_⟩
  rw [List.range_succ,List.map_append]
  exact xR (R:=wA _) ⟨r2,rfl,wL (x:=fl) _ _ _ ((xZ nr).trans e2)⟩ (zX.same h4 hxs)
 rintro σ J9 ⟨xs,o11,o12,rfl,sm,efl,hxs⟩
 refine ⟨_,rfl,q fl xs J9 (sm.trans yD) hfl efl ?_⟩
 unfold xS
 rw [l1]
 have e:((pv.length:Nat):Int).toNat=n:=by omega
 rw [e] at hxs
 exact zX.same yD hxs
end
theorem zLJ {T B b:Int} (hB:0 < B) (h:b * B<=T):b * zR T B<=zZ T B:=by
 have nb:B≠0:=by omega
 have p:=uA (t:=T) nb
 have c:=jM (t:=T) nb
 have:=Int.mul_le_mul_of_nonneg_right h (show 0<=zR T B by omega)
 rw [<- c] at this
 refine Int.le_of_mul_le_mul_right (a:=B) ?_ hB
 have e:b * zR T B * B=b * B * zR T B:=by grind
 rw [e]
 exact this
noncomputable def vX (k:Nat) (us:List (Int × Int)):Prop:=us.length<=k/\∀ q∈us,0 < q.2/\q.2.natAbs<=12/\q.1.natAbs<=2 ^ 67 * q.2.natAbs
noncomputable def Yq (s:Int × Int):Prop:=0 < s.2/\s.2.natAbs<=9/\s.1.natAbs<=2 ^ 67 * s.2.natAbs
noncomputable def ja (bs:List (Int × Int)):Prop:=bs.length<=3/\∀ b∈bs,b.1<=b.2/\b.1.natAbs<=5 * 10 ^ 19 + 8/\b.2.natAbs<=5 * 10 ^ 19 + 8
theorem ja.bd {bs:List (Int × Int)} (h:ja bs):∀ b∈bs,Bd 70 b.1/\Bd 70 b.2:=λb hb=>by
 obtain ⟨_,h1,h2⟩:=h.2 b hb
 constructor
 ·show b.1.natAbs < 2 ^ 70
  omega
 ·show b.2.natAbs < 2 ^ 70
  omega
theorem vX.bd {k:Nat} {us:List (Int × Int)} (h:vX k us):∀ u∈us,0 < u.2/\Bd 100 u.1/\Bd 100 u.2:=λu hu=>by
 obtain ⟨h0,h1,h2⟩:=h.2 u hu
 refine ⟨h0,?_,?_⟩
 ·have:2 ^ 67 * u.2.natAbs<=2 ^ 67 * 12:=Nat.mul_le_mul_left _ h1
  show u.1.natAbs < 2 ^ 100
  omega
 ·show u.2.natAbs < 2 ^ 100
  omega
inductive Yr (vs:List V) (H:Hp) (Q:VK) (E:XK):Prop
 | mk (c:Int) (ba:Addr) (bv:List V) (bs:List (Int × Int)) (_:vs=[.int c,.ref ba]) (_:H ba=some (.lst bv)) (_:Paired (wX H) bv bs) (_:ja bs) (_:∀ (l:Addr) (uv:List V) (us:List (Int × Int)) (H':Hp),zD H H'->H l=none->H' l=some (.lst uv)->zX H' uv us->vX 4 us->Q (.ref l) H'):Yr vs H Q E
structure kH (z:yJ):Prop where
 us:vX 4 z.us
 s:Yq z.s
noncomputable def Ys (H0 H:Hp) (v:V) (z:yJ):Prop:=∃ (t sa ua:Addr) (uv:List V),v=.ref t/\H t=some (.tup [.int z.k,.ref sa,.ref ua])/\H sa=some (.tup [.int z.s.1,.int z.s.2])/\H0 ua=none/\H ua=some (.lst uv)/\zX H uv z.us
inductive Yt (vs:List V) (H:Hp) (Q:VK) (E:XK):Prop
 | mk (c:Int) (sl ba pa:Addr) (sv bv pv:List V) (n:Nat) (ms:List MD) (bs p:List (Int × Int)) (_:vs=[.int c,.ref sl,.ref ba,.ref pa]) (_:H sl=some (.lst sv)) (_:Paired (vV H) sv ms) (_:1<=ms.length) (_:ms.length<=3) (_:(∀ m∈ms,yo m n bs.length/\ML m)) (_:H ba=some (.lst bv)) (_:Paired (wX H) bv bs) (_:ja bs) (_:H pa=some (.lst pv)) (_:zX H pv p) (_:p.length=n) (_:v2 p) (_:Bd 7000 (bt p)) (_:∀ (v:V) (z:yJ) (H':Hp),zD H H'->Ys H H' v z->kH z->Q v H'):Yt vs H Q E
inductive kI (vs:List V) (H:Hp) (Q:VK) (E:XK):Prop
 | mk (ra:Addr) (rv:List V) (run:List yJ) (_:vs=[.ref ra]) (_:H ra=some (.lst rv)) (_:Paired (xv H) rv run) (_:run.length<=9) (_:∀ (l:Addr) (lv:List V) (H':Hp),zD H H'->H l=none->H' l=some (.lst lv)->Paired (xv H') lv run->Q (.ref l) H'):kI vs H Q E
theorem Wy {α β:Type} {R:α->β->Prop}:∀ {xs:List α} {ys:List β} (j:Nat) {x:α} {y:β},R x y->Paired R xs ys->Paired R (xs.set j x) (ys.set j y)
 | _,_,_,_,_,_,.nil=>.nil
 | _,_,0,_,_,r,.cons _ t=>.cons r t
 | _,_,j + 1,_,_,r,.cons a t=>.cons a (Wy j r t)
theorem zGO {α β:Type} {R:α->β->Prop}:∀ {xs:List α} {ys:List β},Paired R xs ys->Paired R (xs.drop 1) (ys.drop 1)
 | _,_,.nil=>.nil
 | _,_,.cons _ t=>t
section
variable {P:Program} {w:World} {K:PySem.W.Frag} {mg:Str->Option Value} {base:Heap}
noncomputable abbrev vM:Stmt:=yN 51
theorem v4:zw ["_law_cell","_law_bounds","_law_xs","_law_found","_law_k","_law_low","_law_high","_law_part","_law_between"] ["_law_cell","_law_bounds"] (zY vM):=.a
theorem zF8 {k:Nat} {f:Addr} {fd:FuncData} {ac ae:Addr} (af:zK K mg "Mode" ac) (ag:yE K ac) (ah:zK K mg "Thing" ae) (ai:yF K ae) (F:zx K "_law_pushes" "_law_pushes" vM f fd) (B:Bl mg) (aq:Fn P w K mg base "_law_stream" ["_law_cell","_law_many"] k jO) (ap:Fn P w K mg base "_law_fraction" ["_law_top","_law_bottom"] k ut):zL P w K mg base zd (k + 1) f fd ["_law_cell","_law_bounds"] Yr:=by
 refine F.ok v4 (λvs H Q E h=>?_) (λcdv A outer s H vs Q E hr h=>?_)
 ·obtain ⟨_,_,_,_,rfl,_⟩:=h
  rfl
 obtain ⟨c,ba,bv,bs,rfl,hba,hbv,BO,q⟩:=h
 obtain ⟨u_6,E_6,U_6⟩:=L2.wC (p:=λt=>yb (zJ zd P w K mg base ["_law_cell","_law_bounds","_law_xs","_law_found","_law_k","_law_low","_law_high","_law_part","_law_between"] "_law_pushes" (zY vM) f cdv A outer s H E).nox ((yS vM).drop 6) t) (zW (zg (zB 3)))
 obtain ⟨u_5,E_5,U_5⟩:=L2.wC (p:=λt=>yb (zJ zd P w K mg base ["_law_cell","_law_bounds","_law_xs","_law_found","_law_k","_law_low","_law_high","_law_part","_law_between"] "_law_pushes" (zY vM) f cdv A outer s H E).nox ((yS vM).drop 5) t) (zP (yG (yd wQ (zN (ji yj) (zV zo (zB 2) zI (λ_ _=>rfl)) zI) zI (yH _)) (zW (zj (i:=3) v4.nd rfl (Or.inl rfl) (vR uH (zB 3) (xy zI) gJ))) yM)
 U_6)
 obtain ⟨u_4,E_4,U_4⟩:=L2.wC (p:=λt=>yb (zJ zd P w K mg base ["_law_cell","_law_bounds","_law_xs","_law_found","_law_k","_law_low","_law_high","_law_part","_law_between"] "_law_pushes" (zY vM) f cdv A outer s H E).nox ((yS vM).drop 4) t) (zP (yG (yd wQ (zN (ji yj) (zV zo (zB 2) zI (λ_ _=>rfl)) zI) zI (yH _)) (zW (wb (vC PySem.F.plainAttrs_list PySem.F.slot_list_append PySem.F.type_list_append xG (zB 3) (zC (wR (zC zI (zC zI zG))) zG)))) yM)
 U_5)
 obtain ⟨u_3,E_3,U_3⟩:=L2.wC (p:=λt=>yb (zJ zd P w K mg base ["_law_cell","_law_bounds","_law_xs","_law_found","_law_k","_law_low","_law_high","_law_part","_law_between"] "_law_pushes" (zY vM) f cdv A outer s H E).nox ((yS vM).drop 3) t) (zP (yG (PW.pt (XB (yd wQ (zN (ji yj) (zV zo (zB 2) zI (λ_ _=>rfl)) zI) zI (yH _)) (XA (yd (Jv hr.units) (zB 3) (yq zG) (yH _))))) (zW (kZ (wR (zC (zN (zp yV) (zN (ji yf) (zV yC (zV zo (zB 1) (zN (ji yj) (zV zo (zB 2) zI (λ_ _=>rfl)) (zn zu rfl B.len_ yt (zC (zB 3) zG))) (λ_ _=>rfl)) zI (λ_ _=>rfl)) zI) zI) (zC zI zG))) (UI (zB 3) (zN (ji yj) (zV zo (zB 2) zI (λ_ _=>rfl)) (zn zu rfl B.len_ yt (zC (zB 3) zG))) Za))) yM)
 U_4)
 refine ⟨_,(zP (zj (i:=2) v4.nd rfl (Or.inl rfl) (zi aq hr rfl (zC (zB 0) (zC zI zG))))
 (zP (zj (i:=3) v4.nd rfl (Or.inl rfl) (yq zG))
 (zP (wE PassesOwn.never rfl (wu rfl B.range_ (zC (zn zu rfl B.len_ yt (zC (zB 1) zG)) zG)) (zr (i:=4) v4.nd rfl (Or.inl rfl)) (zP (kZ (zV zo (zB 1) (zB 4) (λ_ _=>rfl)) (uU rfl (xM (zr (i:=5) v4.nd rfl (Or.inl rfl)) (xM (zr (i:=6) v4.nd rfl (Or.inl rfl)) v7))))
  (zP (zj (i:=7) v4.nd rfl (Or.inl rfl) (zN (zp yV) zI (zN (ji yj) (zV zo (zB 2) (zB 4) (λ_ _=>rfl)) zI)))
  (zP (zj (i:=8) v4.nd rfl (Or.inl rfl) (zi ap hr rfl (zC (zN (zp yV) (zN (ji yf) (zB 5) (zB 7)) (zN (ji yf) (zN (zp wP) (zB 6) (zB 5)) (zN (ji yj) (zV zo (zB 2) zI (λ_ _=>rfl)) (zN (zp yV) (zB 7) zI)))) (zC (zB 7) zG))))
  (zW (wb (vC PySem.F.plainAttrs_list PySem.F.slot_list_append PySem.F.type_list_append xG (zB 3) (zC (zV zo (yq (zC (wR (zC (zB 5) (zC zI zG))) (zC (wR (zC (zB 6) (zC zI zG))) (zC (zB 8) zG)))) (zN (ji yj) (zN (ji wd) (zV zo (zB 2) (zB 4) (λ_ _=>rfl)) zI) zI) (λ_ _=>rfl)) zG))))))))
 U_3))),?_⟩
 try dsimp only [zJ,Cx.nox,Cx.wish]
 have b12:Bd 4 (12:Int):=Bd.lit
 have lbv:bv.length=bs.length:=Paired.length hbv
 have b3:=BO.1
 refine ⟨_,rfl,_,5,rfl,(by decide),(by decide),λxa J1 xs y1 _ ex lx bx0=>?_⟩
 have lx5:xs.length=5:=lx
 have a4:yA (xs.map V.int) (4:Int)=some (.int (xs[4]'(by omega))):=wJ (j:=4) _
 have a3:yA (xs.map V.int) (3:Int)=some (.int (xs[3]'(by omega))):=wJ (j:=3) _
 have hba1:=y1 _ _ hba
 have hbv1:=wY y1 hbv
 have R6:∀ (J:Hp) (fl:Addr) (uv:List V) (us:List (Int × Int)) (o4 o5 o6 o7 o8:Option V),J1 fl=none->zD J1 (hide [fl] J)->J fl=some (.lst uv)->zX (hide [fl] J) uv us->vX 4 us->u_6 { nx:=λ_ H'=>Q .non H',rt:=Q } [some (.int c),some (.ref ba),some (.ref xa),some (.ref fl),o4,o5,o6,o7,o8] J:=by
  intro J fl uv us o4 o5 o6 o7 o8 hfl sm efl hu US
  rw [E_6]
  exact ⟨_,rfl,q fl uv us J (y1.trans (sm.trans yD)) (y1.free hfl) efl (zX.same yD hu) US⟩
 have R5:∀ (J:Hp) (fl:Addr) (uv:List V) (us:List (Int × Int)) (o4 o5 o6 o7 o8:Option V),J1 fl=none->zD J1 (hide [fl] J)->J fl=some (.lst uv)->zX (hide [fl] J) uv us->vX 4 us->u_5 { nx:=λ_ H'=>Q .non H',rt:=Q } [some (.int c),some (.ref ba),some (.ref xa),some (.ref fl),o4,o5,o6,o7,o8] J:=by
  intro J fl uv us o4 o5 o6 o7 o8 hfl sm efl hu US
  rw [E_5]
  have sj:=sm.trans yD
  refine ⟨_,rfl,xa,_,_,_,rfl,rfl,zE.of (sj _ _ ex),a4,_,_,rfl,rfl,(show (24:Int)≠0 by decide),rfl,_,rfl,?_⟩
  refine yX (λc1=>?_) (λc1=>R6 J fl uv us o4 o5 o6 o7 o8 hfl sm efl hu US)
  refine ⟨_,rfl,_,rfl,fl,_,rfl,zE.of efl,λp hp=>?_⟩
  rw [QR]
  have z:=zU hp (HO.lst (uv.drop 1))
  have fp:J1 p=none:=sj.free hp
  refine R6 _ p (uv.drop 1) (us.drop 1) o4 o5 o6 o7 o8 fp (ur (λx hx=>by rw [List.mem_singleton.mp hx]; exact fp) (sj.trans z)) zO ?_ ⟨by rw [List.length_drop]; have:=US.1; omega,λq hq=>US.2 q (List.mem_of_mem_drop hq)⟩
  refine Paired.mapP (zGO hu) λv u ⟨r,e,hr'⟩=>⟨r,e,?_⟩
  have hr2:=yD _ _ hr'
  exact (xZ λy=>by rw [List.mem_singleton.mp y,hp] at hr2; cases hr2).trans (z _ _ hr2)
 have R4:∀ (J:Hp) (fl:Addr) (uv:List V) (us:List (Int × Int)) (o4 o5 o6 o7 o8:Option V),J1 fl=none->zD J1 (hide [fl] J)->J fl=some (.lst uv)->zX (hide [fl] J) uv us->vX 3 us->u_4 { nx:=λ_ H'=>Q .non H',rt:=Q } [some (.int c),some (.ref ba),some (.ref xa),some (.ref fl),o4,o5,o6,o7,o8] J:=by
  intro J fl uv us o4 o5 o6 o7 o8 hfl sm efl hu US
  rw [E_4]
  have sj:=sm.trans yD
  have lu:=Paired.length hu
  have u3:=US.1
  refine ⟨_,rfl,xa,_,_,_,rfl,rfl,zE.of (sj _ _ ex),a4,_,_,rfl,rfl,(show (24:Int)≠0 by decide),rfl,_,rfl,?_⟩
  refine yX (λc1=>?_) (λc1=>R5 J fl uv us o4 o5 o6 o7 o8 hfl sm efl hu ⟨by omega,US.2⟩)
  refine ⟨_,rfl,.inl ⟨rfl,_,zE.of efl⟩,(by show 2<=sizeLine; decide),λt1 ht1=>?_⟩
  have z:=zU ht1 (HO.tup [V.int 0,V.int 1])
  refine ⟨fl,uv,.ref t1,rfl,rfl,z _ _ efl,yB (by omega),?_⟩
  have h4:=(xr (B:=[fl]) z).trans (wL (x:=fl) (HO.lst (uv++[V.ref t1])))
  have nt:t1∉[fl]:=λy=>by rw [List.mem_singleton.mp y,efl] at ht1; cases ht1
  refine R5 _ fl _ (us++[(0,1)]) o4 o5 o6 o7 o8 hfl (sm.trans h4) zO (xR (R:=wA _) (y:=((0,1):Int × Int)) ⟨t1,rfl,wL (x:=fl) _ _ _ ((xZ nt).trans zO)⟩ (zX.same h4 hu)) ⟨by rw [List.length_append]; show _ + 1<=4; omega,λq hq=>?_⟩
  rcases List.mem_append.mp hq with hq | hq
  ·exact US.2 q hq
  ·rw [List.mem_singleton.mp hq]
   exact ⟨by decide,by decide,by decide⟩
 have R3:∀ (J:Hp) (fl:Addr) (uv:List V) (us:List (Int × Int)) (o4 o5 o6 o7 o8:Option V),J1 fl=none->zD J1 (hide [fl] J)->J fl=some (.lst uv)->zX (hide [fl] J) uv us->vX 3 us->us.length=bs.length->u_3 { nx:=λ_ H'=>Q .non H',rt:=Q } [some (.int c),some (.ref ba),some (.ref xa),some (.ref fl),o4,o5,o6,o7,o8] J:=by
  intro J fl uv us o4 o5 o6 o7 o8 hfl sm efl hu US lub
  rw [E_3]
  have sj:=sm.trans yD
  have lu:=Paired.length hu
  have R4':=R4 J fl uv us o4 o5 o6 o7 o8 hfl sm efl hu US
  refine ⟨_,rfl,xa,_,_,_,rfl,rfl,zE.of (sj _ _ ex),a4,_,_,rfl,rfl,(show (24:Int)≠0 by decide),rfl,_,rfl,?_⟩
  refine yX (λc1=>?_) (λc1=>R4')
  refine ⟨_,rfl,(by show 0<=sizeLine; decide),λl0 hl0=>?_⟩
  have z0:=zU hl0 (HO.lst [])
  have h0:=xr (B:=[fl]) z0
  refine ⟨.list (us.map yu),.list [],.lst (zE.of (z0 _ _ efl)) (vH (zX.same (yD.trans z0) hu)),.lst (zE.of zO) .nil,qN _,rfl,QS _,(by decide),_,rfl,?_⟩
  refine yX (λc2=>?_) (λc2=>R4 _ fl uv us o4 o5 o6 o7 o8 hfl (sm.trans h0) (z0 _ _ efl) (zX.same h0 hu) US)
  have upos:0 < us.length:=by
   cases us with
   | nil=>exact absurd c2 (by decide)
   | cons _ _=>exact Nat.succ_pos _
  have i0:=Int.fmod_nonneg_of_pos (xs[3]'(by omega)) (show (0:Int) < (uv.length:Int) by omega)
  have i1:=Int.fmod_lt_of_pos (xs[3]'(by omega)) (show (0:Int) < (uv.length:Int) by omega)
  generalize eix:(xs[3]'(by omega)).fmod (uv.length:Int)=ix at i0 i1
  have bl:ix.toNat < bv.length:=by omega
  have hx0:bv[ix.toNat]? = some (bv[ix.toNat]'bl):=List.getElem?_eq_getElem _
  obtain ⟨b,hb,ca,eca,ec⟩:=ym hbv1 hx0
  have ab:yA bv ix=some (.ref ca):=by rw [show ix=((ix.toNat:Nat):Int) by omega]; exact wS (hx0.trans (by rw [eca]))
  obtain ⟨blh,b8,h8⟩:=BO.2 b (List.mem_of_getElem? hb)
  have bh:Bd 70 b.2:=(BO.bd b (List.mem_of_getElem? hb)).2
  have b7:Bd 4 (7:Int):=Bd.lit
  have s1:=sj.trans z0
  refine ⟨_,rfl,_,rfl,xa,_,_,_,rfl,rfl,zE.of (s1 _ _ ex),a3,_,rfl,fl,_,rfl,.inl (zE.of (z0 _ _ efl)),_,_,rfl,rfl,(show (uv.length:Int)≠0 by omega),ba,_,_,_,rfl,rfl,zE.of (s1 _ _ hba1),(by rw [eix]; exact ab),ca,_,1,_,rfl,rfl,zS.of (s1 _ _ ec),xg,_,_,rfl,rfl,⟨bh.mono,b7.mono⟩,_,_,rfl,rfl,(by show 2<=sizeLine; decide),λt1 ht1=>?_⟩
  have z1:=zU ht1 (HO.tup [V.int (b.2 * 7 + 1),V.int 7])
  have et1:=zO (H:=upd J l0 (HO.lst [])) (a:=t1) (o:=HO.tup [V.int (b.2 * 7 + 1),V.int 7])
  generalize hhK:upd (upd J l0 (HO.lst [])) t1 (HO.tup [V.int (b.2 * 7 + 1),V.int 7])=K1 at z1 et1 |-
  have zz:=z0.trans z1
  have ef1:=zz _ _ efl
  refine ⟨_,rfl,_,rfl,xa,_,_,_,rfl,rfl,zE.of ((sj.trans zz) _ _ ex),a3,_,rfl,fl,_,rfl,.inl (zE.of ef1),_,_,rfl,rfl,(show (uv.length:Int)≠0 by omega),fl,uv,ix,ix.toNat,rfl,(by rw [eix]),ef1,(by rw [show ix=((ix.toNat:Nat):Int) by omega]; exact Jw (by omega)),?_⟩
  have h4:=(xr (B:=[fl]) zz).trans (wL (x:=fl) (HO.lst (uv.set ix.toNat (V.ref t1))))
  have nt:t1∉[fl]:=λy=>by
   rw [List.mem_singleton.mp y,ef1] at et1
   cases et1
  refine R4 _ fl _ (us.set ix.toNat (b.2 * 7 + 1,7)) o4 o5 o6 o7 o8 hfl (sm.trans h4) zO (Wy (R:=wA _) _ ⟨t1,rfl,wL (x:=fl) _ _ _ ((xZ nt).trans et1)⟩ (zX.same h4 hu)) ⟨by rw [List.length_set]; exact US.1,λq hq=>?_⟩
  rcases List.mem_or_eq_of_mem_set hq with hq | rfl
  ·exact US.2 q hq
  ·refine ⟨by show (0:Int) < 7; decide,by show (7:Int).natAbs<=12; decide,?_⟩
   show (b.2 * 7 + 1).natAbs<=2 ^ 67 * 7
   omega
 refine ⟨(by show 0<=sizeLine; decide),λfl hfl=>?_⟩
 have fflH:H fl=none:=y1.free hfl
 have y2:=zU hfl (HO.lst [])
 have efl:=zO (H:=J1) (a:=fl) (o:=HO.lst [])
 generalize hhJ2:upd J1 fl (HO.lst [])=J2 at y2 efl |-
 have s2:=ur (B:=[fl]) (λx hx=>by rw [List.mem_singleton.mp hx]; exact hfl) y2
 refine ⟨_,rfl,ba,_,rfl,.inl (zE.of (y2 _ _ hba1)),_,rfl,(by omega),(by omega),uX (lo:=0) (n:=((bv.length:Nat):Int).toNat)
  (λi σ H'=>∃ (uv:List V) (us:List (Int × Int)) (o4 o5 o6 o7 o8:Option V),σ=[some (.int c),some (.ref ba),some (.ref xa),some (.ref fl),o4,o5,o6,o7,o8]/\zD J1 (hide [fl] H')/\H' fl=some (.lst uv)/\zX (hide [fl] H') uv us/\us.length=i/\∀ q∈us,0 < q.2/\q.2.natAbs<=12/\q.1.natAbs<=2 ^ 67 * q.2.natAbs)
  ⟨[],[],none,none,none,none,none,rfl,s2,efl,.nil,rfl,λq hq=>by cases hq⟩ ?_ ?_⟩
 ·rintro i σ H' hi ⟨uv,us,o4,o5,o6,o7,o8,rfl,sm,ef,huv,lus,US⟩
  have sj:=sm.trans yD
  have i2:i < bv.length:=by omega
  have hx0:bv[i]? = some (bv[i]'i2):=List.getElem?_eq_getElem _
  obtain ⟨b,hb,ca,eca,ec⟩:=ym hbv1 hx0
  have ab:yA bv (0 + (i:Int))=some (.ref ca):=by rw [Int.zero_add]; exact wS (hx0.trans (by rw [eca]))
  have ax:yA (xs.map V.int) (0 + (i:Int))=some (.int (xs[i]'(by omega))):=by rw [Int.zero_add]; exact wJ _
  obtain ⟨blh,bl8,bh8⟩:=BO.2 b (List.mem_of_getElem? hb)
  obtain ⟨bb1,bb2⟩:=BO.bd b (List.mem_of_getElem? hb)
  have exj:=sj _ _ ex
  refine ⟨_,rfl,_,rfl,ba,_,_,_,rfl,rfl,zE.of (sj _ _ hba1),ab,ca,_,rfl,zS.of (sj _ _ ec),rfl,_,_,rfl,_,_,rfl,rfl,?_⟩
  refine ⟨_,rfl,_,rfl,xa,_,_,_,rfl,rfl,zE.of exj,ax,_,_,rfl,rfl,(show (12:Int)≠0 by decide),_,_,rfl,rfl,?_⟩
  have p0:=Int.fmod_nonneg_of_pos (xs[i]'(by omega)) (show (0:Int) < 12 by decide)
  have p1:=Int.fmod_lt_of_pos (xs[i]'(by omega)) (show (0:Int) < 12 by decide)
  obtain ⟨pt,hpt⟩:∃ pt,pt=1 + (xs[i]'(by omega)).fmod 12:=⟨_,rfl⟩
  rw [<- hpt]
  have pt1:1<=pt:=by omega
  have pt12:pt<=12:=by omega
  have e0:=Int.fmod_nonneg_of_pos (xs[3]'(by omega)) (show (0:Int) < pt + 1 by omega)
  have e1:=Int.fmod_lt_of_pos (xs[3]'(by omega)) (show (0:Int) < pt + 1 by omega)
  have bs5:∀ {x:Int},x.natAbs<=10 ^ 21->Bd 60000 x:=λ{x} h=>(show Bd 71 x from (by show x.natAbs < 2 ^ 71; omega)).mono
  refine ⟨_,rfl,_,rfl,_,_,rfl,rfl,⟨bb1.mono,bs5 (by omega)⟩,_,rfl,_,rfl,_,_,rfl,rfl,_,rfl,xa,_,_,_,rfl,rfl,zE.of exj,a3,_,rfl,_,_,rfl,rfl,_,_,rfl,rfl,(show pt + 1≠0 by omega),_,_,rfl,rfl,⟨bs5 (by omega),bs5 (by omega)⟩,_,_,rfl,rfl,_,rfl,_,pt,rfl,(by omega),(show Bd 5 pt from (by show pt.natAbs < 2 ^ 5; omega)).mono,λr K1 z1 er=>?_⟩
  obtain ⟨e,he⟩:∃ e,e=(xs[3]'(by omega)).fmod (pt + 1):=⟨_,rfl⟩
  rw [<- he] at e0 e1 er
  have tl:b.1 * pt<=b.1 * pt + (b.2 - b.1) * e:=by
   have:=Int.mul_nonneg (show 0<=b.2 - b.1 by omega) e0
   omega
  have th:b.1 * pt + (b.2 - b.1) * e<=b.2 * pt:=by
   have h1:=Int.mul_le_mul_of_nonneg_left (show e<=pt by omega) (show 0<=b.2 - b.1 by omega)
   have h2:(b.2 - b.1) * pt=b.2 * pt - b.1 * pt:=Int.sub_mul _ _ _
   omega
  have w1:=zLJ (show 0 < pt by omega) tl
  have w2:=(Wn (show 0 < pt by omega)).mpr th
  have w3:=uA (t:=b.1 * pt + (b.2 - b.1) * e) (show pt≠0 by omega)
  have w4:(zR (b.1 * pt + (b.2 - b.1) * e) pt).natAbs<=12:=Nat.le_trans (Int.natAbs_fdiv_le_natAbs _ _) (by omega)
  generalize zZ (b.1 * pt + (b.2 - b.1) * e) pt=X at er w1 w2
  generalize zR (b.1 * pt + (b.2 - b.1) * e) pt=Y at er w1 w2 w3 w4
  have w5:X.natAbs<=2 ^ 67 * Y.natAbs:=by
   have g1 : -(2 ^ 67 * Y)<=b.1 * Y:=by
    have:=Int.mul_le_mul_of_nonneg_right (show -(2 ^ 67)<=b.1 by omega) (show 0<=Y by omega)
    omega
   have g2:b.2 * Y<=2 ^ 67 * Y:=Int.mul_le_mul_of_nonneg_right (show b.2<=2 ^ 67 by omega) (show 0<=Y by omega)
   omega
  have s1:=sj.trans z1
  refine ⟨_,rfl,.inl ⟨rfl,_,zE.of (z1 _ _ ef)⟩,?_⟩
  refine ⟨_,rfl,(by show 2<=sizeLine; decide),λt1 ht1=>?_⟩
  have z2:=zU ht1 (HO.tup [V.int b.1,V.int 1])
  have et1:=zO (H:=K1) (a:=t1) (o:=HO.tup [V.int b.1,V.int 1])
  generalize hhK2:upd K1 t1 (HO.tup [V.int b.1,V.int 1])=K2 at z2 et1 |-
  refine ⟨_,rfl,(by show 2<=sizeLine; decide),λt2 ht2=>?_⟩
  have z3:=zU ht2 (HO.tup [V.int b.2,V.int 1])
  have et2:=zO (H:=K2) (a:=t2) (o:=HO.tup [V.int b.2,V.int 1])
  generalize hhK3:upd K2 t2 (HO.tup [V.int b.2,V.int 1])=K3 at z3 et2 |-
  refine ⟨_,rfl,(by show 3<=sizeLine; decide),λl3 hl3=>?_⟩
  have z4:=zU hl3 (HO.lst [V.ref t1,V.ref t2,V.ref r])
  have el3:=zO (H:=K3) (a:=l3) (o:=HO.lst [V.ref t1,V.ref t2,V.ref r])
  generalize hhK4:upd K3 l3 (HO.lst [V.ref t1,V.ref t2,V.ref r])=K4 at z4 el3 |-
  have zz:=z1.trans (z2.trans (z3.trans z4))
  obtain ⟨k,ek,hk⟩:=Wv (x:=V.ref t1) (y:=V.ref t2) (z:=V.ref r) (Int.fmod_nonneg_of_pos ((xs[i]'(by omega)).fdiv 12) (show (0:Int) < 3 by decide)) (Int.fmod_lt_of_pos ((xs[i]'(by omega)).fdiv 12) (show (0:Int) < 3 by decide))
  refine ⟨_,rfl,_,rfl,xa,_,_,_,rfl,rfl,zE.of ((sj.trans zz) _ _ ex),ax,_,_,rfl,rfl,⟨by decide,b12.mono⟩,_,_,rfl,rfl,(show (3:Int)≠0 by decide),l3,_,_,_,rfl,rfl,zE.of el3,ek,?_⟩
  have one:∀ x:Int,x.natAbs<=5 * 10 ^ 19 + 8->(0:Int) < 1/\(1:Int).natAbs<=12/\x.natAbs<=2 ^ 67 * (1:Int).natAbs:=λx h1=>by
   refine ⟨by decide,by decide,?_⟩
   show x.natAbs<=2 ^ 67 * 1
   omega
  obtain ⟨u,hu,su⟩:∃ u:Int × Int,wA K4 k u/\0 < u.2/\u.2.natAbs<=12/\u.1.natAbs<=2 ^ 67 * u.2.natAbs:=by
   rcases hk with rfl | rfl | rfl
   ·exact ⟨(b.1,1),⟨t1,rfl,z4 _ _ (z3 _ _ et1)⟩,one b.1 bl8⟩
   ·exact ⟨(b.2,1),⟨t2,rfl,z4 _ _ et2⟩,one b.2 bh8⟩
   ·exact ⟨(X,Y),⟨r,rfl,z4 _ _ (z3 _ _ (z2 _ _ er))⟩,w3,w4,w5⟩
  have ef4:=zz _ _ ef
  refine ⟨fl,uv,k,rfl,rfl,ef4,yB (by have:=Paired.length huv; omega),?_⟩
  have h4:=(xr (B:=[fl]) zz).trans (wL (x:=fl) (HO.lst (uv++[k])))
  refine ⟨uv++[k],us++[u],_,_,_,_,_,rfl,sm.trans h4,zO,?_,(by rw [List.length_append,lus]; rfl),λq hq=>?_⟩
  ·refine xR (R:=wA _) ?_ (zX.same h4 huv)
   obtain ⟨ra,rfl,era⟩:=hu
   exact ⟨ra,rfl,wL (x:=fl) _ _ _ ((xZ λz=>by rw [List.mem_singleton.mp z,ef4] at era; cases era).trans era)⟩
  ·rcases List.mem_append.mp hq with hq | hq
   ·exact US q hq
   ·rw [List.mem_singleton.mp hq]
    exact su
 rintro σ H' ⟨uv,us,o4,o5,o6,o7,o8,rfl,sm,ef,huv,lus,US⟩
 rw [Int.toNat_natCast,lbv] at lus
 exact R3 H' fl uv us o4 o5 o6 o7 o8 hfl sm ef huv ⟨by omega,US⟩ lus
end
section
variable {P:Program} {w:World} {K:PySem.W.Frag} {mg:Str->Option Value} {base:Heap}
noncomputable abbrev qg:Stmt:=yN 53
theorem jB:zw ["_law_cell","_law_some","_law_bounds","_law_point","_law_xs","_law_mode","_law_k","_law_steering"] ["_law_cell","_law_some","_law_bounds","_law_point"] (zY qg):=.a
theorem zH6 {k:Nat} {f:Addr} {fd:FuncData} {ac ae:Addr} (af:zK K mg "Mode" ac) (ag:yE K ac) (ah:zK K mg "Thing" ae) (ai:yF K ae) (F:zx K "_law_step" "_law_step" qg f fd) (B:Bl mg) (aq:Fn P w K mg base "_law_stream" ["_law_cell","_law_many"] k jO) (az:Fn P w K mg base "_law_held" ["_law_rows","_law_point"] k (kG K)) (ap:Fn P w K mg base "_law_fraction" ["_law_top","_law_bottom"] k ut) (ar:Fn P w K mg base "_law_number" ["_law_number_here"] k qe) (bj:Fn P w K mg base "_law_pushes" ["_law_cell","_law_bounds"] k Yr):zL P w K mg base zd (k + 1) f fd ["_law_cell","_law_some","_law_bounds","_law_point"] Yt:=by
 refine F.ok jB (λvs H Q E h=>?_) (λcdv A outer s H vs Q E hr h=>?_)
 ·obtain ⟨_,_,_,_,_,_,_,_,_,_,_,rfl,_⟩:=h
  rfl
 obtain ⟨c,sl,ba,pa,sv,bv,pv,n,ms,bs,p,rfl,hsl,hsv,ms1,ms3,MS,hba,hbv,BO,hpa,hpt,lp,PTG,bb,q⟩:=h
 obtain ⟨u_4,E_4,U_4⟩:=L2.wC (p:=λt=>yb (zJ zd P w K mg base ["_law_cell","_law_some","_law_bounds","_law_point","_law_xs","_law_mode","_law_k","_law_steering"] "_law_step" (zY qg) f cdv A outer s H E).nox ((yS qg).drop 4) t) (zP (zj (i:=7) jB.nd rfl (Or.inl rfl) (zi ap hr rfl (zC (zi ar hr rfl (zC (zV zo (zB 4) zI (λ_ _=>rfl)) zG)) (zC (zN (zp yV) zI (zN (ji yj) (zV zo (zB 4) zI (λ_ _=>rfl)) zI)) zG))))
 (zW (zg (wR (zC (zB 5) (zC (zB 7) (zC (zi bj hr rfl (zC (zN (ji wd) (zB 0) zI) (zC (zB 2) zG))) zG)))))))
 refine ⟨_,(zP (zj (i:=4) jB.nd rfl (Or.inl rfl) (zi aq hr rfl (zC (zB 0) (zC zI zG))))
 (zP (zj (i:=5) jB.nd rfl (Or.inl rfl) (zN (ji yj) (zV zo (zB 4) zI (λ_ _=>rfl)) (zn zu rfl B.len_ yt (zC (zB 1) zG))))
 (zP (wE PassesOwn.never rfl (wu rfl B.range_ (zC (zn zu rfl B.len_ yt (zC (zB 1) zG)) zG)) (zr (i:=6) jB.nd rfl (Or.inl rfl)) (zW (yG (xE (yi (zi az hr rfl (zC (zV zo (zV zo (zB 1) (zB 5) (λ_ _=>rfl)) zI (λ_ _=>rfl)) (zC (zB 3) zG))))) (zW (zj (i:=5) jB.nd rfl (Or.inl rfl) (zN (ji yj) (zN (zp yV) (zB 5) zI) (zn zu rfl B.len_ yt (zC (zB 1) zG))))) yM)))
 (zP (yG (yd wQ (zN (ji yj) (zV zo (zB 4) zI (λ_ _=>rfl)) zI) zI (yH _)) (zW (zj (i:=5) jB.nd rfl (Or.inl rfl) (zV zo (yq (zC (zN (ji yj) (zV zo (zB 4) zI (λ_ _=>rfl)) (zn zu rfl B.len_ yt (zC (zB 1) zG))) (zC (zn zu rfl B.len_ yt (zC (zB 1) zG)) (zC (zN (zp wP) zI zI) zG)))) (zN (ji yj) (zN (ji wd) (zV zo (zB 4) zI (λ_ _=>rfl)) zI) zI) (λ_ _=>rfl)))) yM)
 U_4)))),?_⟩
 try dsimp only [zJ,Cx.nox,Cx.wish]
 have b3:Bd 4 (3:Int):=Bd.lit
 have b16:Bd 5 (16:Int):=Bd.lit
 have lsv:sv.length=ms.length:=Paired.length hsv
 refine ⟨_,rfl,_,4,rfl,(by decide),(by decide),λxa J1 xs y1 _ ex lx bx0=>?_⟩
 have lx4:xs.length=4:=lx
 have a0:yA (xs.map V.int) (0:Int)=some (.int (xs[0]'(by omega))):=wJ (j:=0) _
 have a1:yA (xs.map V.int) (1:Int)=some (.int (xs[1]'(by omega))):=wJ (j:=1) _
 have a2:yA (xs.map V.int) (2:Int)=some (.int (xs[2]'(by omega))):=wJ (j:=2) _
 have a3:yA (xs.map V.int) (3:Int)=some (.int (xs[3]'(by omega))):=wJ (j:=3) _
 have hsl1:=y1 _ _ hsl
 have hsv1:=wZ y1 hsv
 have hpa1:=y1 _ _ hpa
 have hpt1:=hpt.same y1
 have R4:∀ (J:Hp) (md:Int) (o6:Option V),zD J1 J->u_4 { nx:=λ_ H'=>Q .non H',rt:=Q } [some (.int c),some (.ref sl),some (.ref ba),some (.ref pa),some (.ref xa),some (.int md),o6,none] J:=by
  intro J md o6 sm
  rw [E_4]
  have exj:=sm _ _ ex
  have q0:=Int.fmod_nonneg_of_pos (xs[3]'(by omega)) (show (0:Int) < 9 by decide)
  have q1:=Int.fmod_lt_of_pos (xs[3]'(by omega)) (show (0:Int) < 9 by decide)
  refine ⟨_,rfl,xa,_,_,_,rfl,rfl,zE.of exj,a2,_,rfl,(vx (bx0 _ (List.getElem_mem _))).mono,λy hy=>?_⟩
  refine ⟨_,rfl,xa,_,_,_,rfl,rfl,zE.of exj,a3,_,_,rfl,rfl,(show (9:Int)≠0 by decide),_,_,rfl,rfl,y,1 + (xs[3]'(by omega)).fmod 9,rfl,(by omega),(show Bd 5 (1 + (xs[3]'(by omega)).fmod 9) from (by show (1 + (xs[3]'(by omega)).fmod 9).natAbs < 2 ^ 5; omega)).mono,λr K1 z1 er=>?_⟩
  generalize (xs[3]'(by omega)).fmod 9=f9 at q0 q1 er
  have s1:=(y1.trans sm).trans z1
  refine ⟨_,rfl,_,rfl,_,rfl,_,_,rfl,rfl,⟨by decide,b3.mono⟩,_,rfl,_,ba,bv,bs,rfl,s1 _ _ hba,wY s1 hbv,BO,λl uv us K2 z2 nl el hu US=>?_⟩
  refine ⟨(by show 3<=sizeLine; decide),λt1 ht1=>?_⟩
  have z3:=zU ht1 (HO.tup [V.int md,V.ref r,V.ref l])
  refine q (.ref t1) ⟨md,(zZ y (1 + f9),zR y (1 + f9)),us⟩ _ (s1.trans (z2.trans z3)) ⟨t1,r,l,uv,rfl,zO,z3 _ _ (z2 _ _ er),s1.free nl,z3 _ _ el,zX.same z3 hu⟩ ⟨US,?_⟩
  obtain ⟨w1,w2,w3⟩:=Zz (t:=y) (b:=1 + f9) (V:=2 ^ 67) (by omega) (by omega)
  exact ⟨w1,Nat.le_trans w2 (by omega),w3⟩
 refine ⟨_,rfl,xa,_,_,_,rfl,rfl,zE.of ex,a0,_,rfl,sl,_,rfl,.inl (zE.of hsl1),_,_,rfl,rfl,(show (sv.length:Int)≠0 by omega),?_⟩
 have m0:=Int.fmod_nonneg_of_pos (xs[0]'(by omega)) (show (0:Int) < (sv.length:Int) by omega)
 have m1:=Int.fmod_lt_of_pos (xs[0]'(by omega)) (show (0:Int) < (sv.length:Int) by omega)
 refine ⟨_,rfl,sl,_,rfl,.inl (zE.of hsl1),_,rfl,(by omega),(by omega),uX (lo:=0) (n:=((sv.length:Nat):Int).toNat)
  (λi σ H'=>∃ (md:Int) (o6:Option V),σ=[some (.int c),some (.ref sl),some (.ref ba),some (.ref pa),some (.ref xa),some (.int md),o6,none]/\0<=md/\md < (sv.length:Int)/\zD J1 H')
  ⟨_,none,rfl,m0,m1,zD.refl _⟩ ?_ ?_⟩
 ·rintro i σ J hi ⟨md,o6,rfl,k0,k1,sm⟩
  have il:md.toNat < sv.length:=by omega
  have hx0:sv[md.toNat]? = some (sv[md.toNat]'il):=List.getElem?_eq_getElem _
  obtain ⟨m,hm,pl,r,n0,s0,p0,aa,rv,nv,pw,ev,hpl,PB⟩:=ym (wZ sm hsv1) hx0
  have am:yA sv md=some (.ref pl):=by rw [show md=((md.toNat:Nat):Int) by omega]; exact wS (hx0.trans (by rw [ev]))
  obtain ⟨MO,mz⟩:=MS m (List.mem_of_getElem? hm)
  have hslj:=sm _ _ hsl1
  refine ⟨_,rfl,_,rfl,sl,_,_,_,rfl,rfl,zE.of hslj,am,pl,_,_,_,rfl,rfl,zE.of hpl,rfl,_,rfl,r,pa,rv,m.rows,pv,p,rfl,PB.hr,PB.hrv,(λx hx=>⟨by rw [lp]; exact MO.rows x hx,λy hy=>(mz.rows x hx y hy).bd (by decide)⟩),MO.few,zE.of (sm _ _ hpa1),hpt1.same sm,PTG,bb,λK1 z1=>⟨_,rfl,?_⟩⟩
  cases hh:m.rows.all (wB p) with
  | true=>
   refine yl rfl ?_
   exact ⟨md,_,rfl,k0,k1,sm.trans z1⟩
  | false=>
   refine yz rfl ?_
   refine ⟨_,rfl,_,_,rfl,rfl,_,rfl,sl,_,rfl,.inl (zE.of (z1 _ _ hslj)),_,_,rfl,rfl,(show (sv.length:Int)≠0 by omega),?_⟩
   exact ⟨_,_,rfl,Int.fmod_nonneg_of_pos _ (by omega),Int.fmod_lt_of_pos _ (by omega),sm.trans z1⟩
 rintro σ J ⟨md,o6,rfl,k0,k1,sm⟩
 have exj:=sm _ _ ex
 have hslj:=sm _ _ hsl1
 refine ⟨_,rfl,xa,_,_,_,rfl,rfl,zE.of exj,a1,_,_,rfl,rfl,(show (16:Int)≠0 by decide),rfl,_,rfl,?_⟩
 refine yX (λc1=>?_) (λc1=>R4 J md o6 sm)
 refine ⟨_,rfl,xa,_,_,_,rfl,rfl,zE.of exj,a0,_,rfl,sl,_,rfl,.inl (zE.of hslj),_,_,rfl,rfl,(show (sv.length:Int)≠0 by omega),_,rfl,sl,_,rfl,.inl (zE.of hslj),_,_,rfl,rfl,(by show 3<=sizeLine; decide),λl3 hl3=>?_⟩
 have z3:=zU hl3 (HO.lst [V.int ((xs[0]'(by omega)).fmod (sv.length:Int)),V.int (sv.length:Int),V.int (0 - 1)])
 obtain ⟨k,ek,hk⟩:=Wv (x:=V.int ((xs[0]'(by omega)).fmod (sv.length:Int))) (y:=V.int (sv.length:Int)) (z:=V.int (0 - 1)) (Int.fmod_nonneg_of_pos ((xs[1]'(by omega)).fdiv 16) (show (0:Int) < 3 by decide)) (Int.fmod_lt_of_pos ((xs[1]'(by omega)).fdiv 16) (show (0:Int) < 3 by decide))
 obtain ⟨md2,rfl⟩:∃ i,k=V.int i:=by
  rcases hk with rfl | rfl | rfl
  ·exact ⟨_,rfl⟩
  ·exact ⟨_,rfl⟩
  ·exact ⟨_,rfl⟩
 refine ⟨_,rfl,xa,_,_,_,rfl,rfl,zE.of (z3 _ _ exj),a1,_,_,rfl,rfl,⟨by decide,b16.mono⟩,_,_,rfl,rfl,(show (3:Int)≠0 by decide),l3,_,_,_,rfl,rfl,zE.of zO,ek,?_⟩
 exact R4 _ md2 o6 (sm.trans z3)
noncomputable abbrev Yu:Stmt:=yN 55
theorem zFy:zw ["_law_run"] ["_law_run"] (zY Yu):=.a
theorem zGA {k:Nat} {f:Addr} {fd:FuncData} {ac ae:Addr} (af:zK K mg "Mode" ac) (ag:yE K ac) (ah:zK K mg "Thing" ae) (ai:yF K ae) (F:zx K "_law_copied" "_law_copied" Yu f fd) (B:Bl mg):zL P w K mg base zd (k + 1) f fd ["_law_run"] kI:=by
 refine F.ok zFy (λvs H Q E h=>?_) (λcdv A outer s H vs Q E hr h=>?_)
 ·obtain ⟨_,_,_,rfl,_⟩:=h
  rfl
 obtain ⟨ra,rv,run,rfl,hra,hrun,r9,q⟩:=h
 refine ⟨_,(zW (zg (xX (own:=["_law_mode","_law_steering","_law_pushes_here"]) (caps:=[]) (uC rfl) rfl (xx (zB 0)) (λ_ _ _ _=>show PG _ _ (uT K 3 (jF (v6 0) (jF (v6 1) (jF (v6 2) uS)))) from uU (n:=3) rfl (xM (zr (i:=0) (show (["_law_mode","_law_steering","_law_pushes_here"]:List Str).Nodup by decide +kernel) rfl (Or.inl rfl)) (xM (zr (i:=1) (show (["_law_mode","_law_steering","_law_pushes_here"]:List Str).Nodup by decide +kernel) rfl (Or.inl rfl)) (xM (zr (i:=2) (show (["_law_mode","_law_steering","_law_pushes_here"]:List Str).Nodup by decide +kernel) rfl (Or.inl rfl)) v7)))) (λ_ _ _ _=>(wR (zC (zB 0) (zC (zB 1) (zC (wc (show yw _ _ (λxs H Q=>∃ p ys,xs=[V.ref p]/\(zE K H p ys\/zS K H p ys)/\∀ l,H l=none->Q (V.ref l) (upd H l (HO.lst ys))) from vf) rfl B.list_ xY (zC (zB 2) zG)) zG)))))))),?_⟩
 try dsimp only [zJ,Cx.nox,Cx.wish]
 have lrv:rv.length=run.length:=Paired.length hrun
 refine ⟨_,rfl,ra,rfl,⟨_,zE.of hra⟩,wU (K:=K) (a:=ra) (xs:=rv) (λi ys σ H'=>Paired (xv H') ys (run.take i)/\(∃ o1 o2 o3,σ=[o1,o2,o3])/\zD H H')
  ⟨.nil,⟨none,none,none,rfl⟩,zD.refl _⟩ (λi ys σ H' hi ⟨e1,_,sm⟩=>⟨zE.of (sm _ _ hra),by have:=Paired.length e1; rw [List.length_take] at this; omega⟩) (Nat.le_of_lt (yB (by omega))) ?_ ?_⟩
 ·rintro i x ys σ H' hi ⟨hys,⟨o1,o2,o3,rfl⟩,sm⟩
  obtain ⟨z,hz,t,sa,ua,uv,rfl,eT,eS,eU,hU⟩:=ym hrun hi
  have eT:=sm _ _ eT
  have eS:=sm _ _ eS
  have eU:=sm _ _ eU
  have hU:=hU.same sm
  refine ⟨t,_,rfl,zS.of eT,rfl,_,_,rfl,_,_,rfl,_,_,rfl,rfl,?_⟩
  refine ⟨_,rfl,_,rfl,_,rfl,ua,_,rfl,.inl (zE.of eU),λl hl=>?_⟩
  have z1:=zU hl (HO.lst uv)
  have el:=zO (H:=H') (a:=l) (o:=HO.lst uv)
  generalize hhK:upd H' l (HO.lst uv)=K1 at z1 el |-
  refine ⟨(by show 3<=sizeLine; decide),λt1 ht1=>?_⟩
  have z2:=zU ht1 (HO.tup [V.int z.k,V.ref sa,V.ref l])
  have zz:=z1.trans z2
  refine ⟨?_,⟨_,_,_,rfl⟩,sm.trans zz⟩
  rw [x9 hz]
  exact xR (R:=xv _) ⟨t1,sa,l,uv,rfl,zO,zz _ _ eS,z2 _ _ el,hU.same zz⟩ (xC zz hys)
 rintro ys σ H' ⟨hys,⟨o1,o2,o3,rfl⟩,sm⟩ l hl
 rw [lrv,List.take_length] at hys
 exact q l ys _ (sm.trans (zU hl _)) (sm.free hl) zO (xC (zU hl _) hys)
end
noncomputable abbrev wr (p:List (Int × Int)):PyData:=.list (p.map yu)
theorem Yv {K:PySem.W.Frag} {H0 H:Hp}:∀ {lv:List V} {ps:List (List (Int × Int))},Paired (vL H0 H) lv ps->wT K H lv (ps.map wr)
 | _,_,.nil=>.nil
 | _,_,.cons ⟨a,pv,e,_,h,q⟩ t=>by
  rw [e]
  exact .cons (.lst (zE.of h) (vH q)) (Yv t)
theorem Wz:∀ ps:List (List (Int × Int)),PyData.canLayAll0 (ps.map wr)=true
 | []=>rfl
 | p :: t=>by
  show (PyData.canLay0 (.list (p.map yu)) && PyData.canLayAll0 (t.map wr))=true
  rw [Wz t,Bool.and_true]
  exact qN p
theorem W0:∀ ps:List (List (Int × Int)),PyData.depthAll (ps.map wr)<=2
 | []=>Nat.zero_le _
 | p :: t=>by
  have h1:=W0 t
  have h2:=qO p
  show max (PyData.depth (.list (p.map yu))) (PyData.depthAll (t.map wr))<=2
  have e:PyData.depth (.list (p.map yu))=PyData.depthAll (p.map yu) + 1:=rfl
  omega
theorem W1 (ps:List (List (Int × Int))):PyData.canLay0 (.list (ps.map wr))=true:=Wz ps
theorem W2 (ps:List (List (Int × Int))):PyData.depth (.list (ps.map wr))<=60:=by
 have e:PyData.depth (.list (ps.map wr))=PyData.depthAll (ps.map wr) + 1:=rfl
 have:=W0 ps
 omega
theorem zDa:bootBuiltins "ValueError" = some (.type "ValueError"):=by decide +kernel
theorem Yw {K:PySem.W.Frag} {H:Hp}:∀ {lv:List V} {ps:List (List (Int × Int))},Paired (vU H) lv ps->wT K H lv (ps.map wr)
 | _,_,.nil=>.nil
 | _,_,.cons ⟨a,pv,e,h,q⟩ t=>by
  rw [e]
  exact .cons (.lst (zE.of h) (vH q)) (Yw t)
noncomputable def vN (z:yJ):PyData:=.tuple [.int z.k,yu z.s,.list (z.us.map yu)]
theorem jC {K:PySem.W.Frag} {H:Hp}:∀ {lv:List V} {run:List yJ},Paired (xv H) lv run->wT K H lv (run.map vN)
 | _,_,.nil=>.nil
 | _,_,.cons ⟨t,sa,ua,uv,e,h1,h2,h3,h4⟩ r=>by
  rw [e]
  exact .cons (.tup (zS.of h1) (.cons (.int _) (.cons (.tup (zS.of h2) (.cons (.int _) (.cons (.int _) .nil))) (.cons (.lst (zE.of h3) (vH h4)) .nil)))) (jC r)
theorem W3:∀ run:List yJ,PyData.canLayAll0 (run.map vN)=true
 | []=>rfl
 | z :: t=>by
  show (PyData.canLay0 (vN z) && PyData.canLayAll0 (t.map vN))=true
  rw [W3 t,Bool.and_true]
  show (true && (true && (PyData.canLayAll0 (z.us.map yu) && true)))=true
  rw [qN]
  rfl
theorem W4:∀ run:List yJ,PyData.depthAll (run.map vN)<=4
 | []=>Nat.zero_le _
 | z :: t=>by
  have h1:=W4 t
  have h2:=qO z.us
  have e:PyData.depth (vN z)=PyData.depthAll [.int z.k,yu z.s,.list (z.us.map yu)] + 1:=rfl
  have e2:PyData.depthAll [.int z.k,yu z.s,.list (z.us.map yu)]=max (PyData.depth (.int z.k)) (max (PyData.depth (yu z.s)) (max (PyData.depthAll (z.us.map yu) + 1) 0)):=rfl
  have e3:PyData.depth (.int z.k)<=1:=by show PyData.depth (.int z.k)<=1; exact (by decide:(0:Nat)<=1)
  have e4:PyData.depth (yu z.s)<=2:=by show PyData.depth (yu z.s)<=2; exact (by decide:(1:Nat)<=2)
  show max (PyData.depth (vN z)) (PyData.depthAll (t.map vN))<=4
  omega
noncomputable abbrev jb (p:List (Int × Int)) (run:List yJ):PyData:=.list [wr p,.list (run.map vN)]
theorem Yx (p:List (Int × Int)) (run:List yJ):PyData.canLay0 (jb p run)=true:=by
 show (PyData.canLayAll0 (p.map yu) && (PyData.canLayAll0 (run.map vN) && true))=true
 rw [qN,W3]
 rfl
theorem Yy (p:List (Int × Int)) (run:List yJ):PyData.depth (jb p run)<=60:=by
 have h1:=qO p
 have h2:=W4 run
 have e:PyData.depth (jb p run)=max (PyData.depthAll (p.map yu) + 1) (max (PyData.depthAll (run.map vN) + 1) 0) + 1:=rfl
 omega
structure ErF (K:PySem.W.Frag) (mg:Str->Option Value) (cN cS cB cR cC cP cM:Addr):Prop where
 mgN:mg "NoRun" = some (.ref cN)
 mgS:mg "SteadyError" = some (.ref cS)
 mgB:mg "BadThing" = some (.ref cB)
 mgR:mg "BadRule" = some (.ref cR)
 mgC:mg "NotClosed" = some (.ref cC)
 mgP:mg "NotPlain" = some (.ref cP)
 mgM:mg "TooMany" = some (.ref cM)
 ex:xJ K cN
 st:PySem.W.findIn K (.ref cN) "step" = some none
 ov:uy K cN=true
 hx:PySem.W.exmOne K (.ref cN) (.ref cS)=some true
 kN:PySem.W.kitOne K (.ref cN) (.ref cN)=some true
 kV:PySem.W.kitOne K (.ref cN) (.type "ValueError")=some true
 kB:PySem.W.kitOne K (.ref cN) (.ref cB)=some false
 kR:PySem.W.kitOne K (.ref cN) (.ref cR)=some false
 kC:PySem.W.kitOne K (.ref cN) (.ref cC)=some false
 kP:PySem.W.kitOne K (.ref cN) (.ref cP)=some false
 kM:PySem.W.kitOne K (.ref cN) (.ref cM)=some false
structure Er (K:PySem.W.Frag) (mg:Str->Option Value) (cN:Addr):Prop where
 ex:∃ cS cB cR cC cP cM,ErF K mg cN cS cB cR cC cP cM
inductive Yz (C CM:Addr) (vs:List V) (H:Hp) (Q:VK) (E:XK):Prop
 | mk (o kp km pa ra:Addr) (n:Nat) (bs:List (Int × Int)) (ms:List MD) (bv mv pv rv:List V) (p:List (Int × Int)) (run:List yJ) (g:Nat) (z:yJ) (_:vs=[.ref o,.ref pa,.ref ra]) (_:xq C CM H o n bs ms bv mv kp km) (_:qW n bs ms) (_:bs.length<=3) (_:H pa=some (.lst pv)) (_:zX H pv p) (_:p.length=n) (_:H ra=some (.lst rv)) (_:Paired (xv H) rv run) (_:run.length<=9) (_:Wk n ms bs p run g) (_:run[g]? = some z) (_:zy ms bs (yO ms p (run.take g)) z=false) (_:∀ H',zD H H'->Q (.int (g:Int)) H'):Yz C CM vs H Q E
inductive Y0 (C CM:Addr) (vs:List V) (H:Hp) (Q:VK) (E:XK):Prop
 | mk (o kp km pa ra da:Addr) (n:Nat) (bs:List (Int × Int)) (ms:List MD) (bv mv pv rv dv:List V) (p:List (Int × Int)) (run:List yJ) (_:vs=[.ref o,.ref pa,.ref ra,.ref da]) (_:xq C CM H o n bs ms bv mv kp km) (_:qW n bs ms) (_:bs.length<=3) (_:H pa=some (.lst pv)) (_:zX H pv p) (_:p.length=n) (_:H ra=some (.lst rv)) (_:Paired (xv H) rv run) (_:run.length<=9) (_:Wk n ms bs p run run.length) (_:H da=some (.lst dv)) (_:Paired (vU H) dv (yK ms p run (run.length + 1))) (_:∀ H',Q (.bl true) H'):Y0 C CM vs H Q E
theorem wt {H H':Hp} {vs:List V} {ps:List (List (Int × Int))} (s:zD H H') (h:Paired (vU H) vs ps):Paired (vU H') vs ps:=Paired.mapP h λ_ _ z=>z.same s
theorem W5 {H H':Hp} {a:Addr} {o:HO} (s:zD H H') (h:H a=none):zD H (upd H' a o):=λb u e=>by
 rw [zl (λy=>by rw [y,h] at e; cases e)]
 exact s b u e
section
variable {P:Program} {w:World} {K:PySem.W.Frag} {mg:Str->Option Value} {base:Heap}
noncomputable abbrev Y1:Stmt:=yN 54
theorem jc:zw ["_law_thing","_law_point","_law_run","_law_found","e","_law_others"] ["_law_thing","_law_point","_law_run"] (zY Y1):=.a
theorem zFM {k:Nat} {f:Addr} {fd:FuncData} {cN:Addr} (Z:Er K mg cN) {ac ae:Addr} (af:zK K mg "Mode" ac) (ag:yE K ac) (ah:zK K mg "Thing" ae) (ai:yF K ae) (F:zx K "_law_refused" "_law_refused" Y1 f fd) (B:Bl mg) (x_walked:xu P w K mg base "walked" ["thing","point","run"] k (g9 ae ac cN)):zL P w K mg base zd (k + 1) f fd ["_law_thing","_law_point","_law_run"] (Yz ae ac):=by
 refine F.ok jc (λvs H Q E h=>?_) (λcdv A outer s H vs Q E hr h=>?_)
 ·obtain ⟨_,_,_,_,_,_,_,_,_,_,_,_,_,_,_,_,rfl,_⟩:=h
  rfl
 obtain ⟨o,kp,km,pa,ra,n,bs,ms,bv,mv,pv,rv,p,run,g,z,rfl,TA,TW,b3,hpa,hpt,lp,hra,hrun,r9,WK,hz,cf,q⟩:=h
 obtain ⟨cS,cB,cR,cC,cP,cM,ZZ⟩:=Z.ex
 refine ⟨_,(zP (zj (i:=3) jc.nd rfl (Or.inl rfl) (zN (zp wP) zI zI))
  (zP (Q4 (i:=4) rfl ZZ.mgS rfl rfl rfl jc.nd rfl rfl (Q3 x_walked hr rfl (zC (zB 0) (zC (zB 1) (zC (zB 2) zG)))) (λ_=>(zP (zj (i:=5) jc.nd rfl (Or.inl rfl) (yq (zC (zn (show yw _ _ (uz K) from jV) rfl B.isinstance_ yr (zC (zB 4) (zC (show PE _ _ (tC (.ref cR)) from v5 rfl ZZ.mgR rfl) zG))) (zC (zn (show yw _ _ (uz K) from jV) rfl B.isinstance_ yr (zC (zB 4) (zC (show PE _ _ (tC (.ref cB)) from v5 rfl ZZ.mgB rfl) zG))) zG))))
   (zP (zj (i:=5) jc.nd rfl (Or.inl rfl) (zN xH (zB 5) (yq (zC (zn (show yw _ _ (uz K) from jV) rfl B.isinstance_ yr (zC (zB 4) (zC (show PE _ _ (tC (.ref cC)) from v5 rfl ZZ.mgC rfl) zG))) (zC (zn (show yw _ _ (uz K) from jV) rfl B.isinstance_ yr (zC (zB 4) (zC (show PE _ _ (tC (.ref cP)) from v5 rfl ZZ.mgP rfl) zG))) zG)))))
   (zP (yG (PW.pt (xc (xE (yi (zn (show yw _ _ (uz K) from jV) rfl B.isinstance_ yr (zC (zB 4) (zC (show PE _ _ (tC (.ref cN)) from v5 rfl ZZ.mgN rfl) zG))))) (xc (xE (yi (zn (show yw _ _ (We K) from Qz) rfl B.isinstance_ yr (zC (zB 4) (zC (xW (v:=.ty "ValueError") (u:=.type "ValueError") rfl B.ValueError_ zDa rfl) zG))))) (xc (yd (show yU _ _ (qQ K) from Q0) xi (zB 5) (by rfl)) (wO (yi (zn (show yw _ _ (uz K) from jV) rfl B.isinstance_ yr (zC (zB 4) (zC (show PE _ _ (tC (.ref cM)) from v5 rfl ZZ.mgM rfl) zG))))))))) (zW (zg (zN (zp wP) zI zI))) yM)
   (zW (zj (i:=3) jc.nd rfl (Or.inl rfl) (Qy ZZ.ex ZZ.st ZZ.ov (zB 4) rfl))))))))
  (zW (zg (zB 3))))),?_⟩
 try dsimp only [zJ,Cx.nox,Cx.wish]
 refine ⟨_,_,rfl,rfl,?_⟩
 refine ⟨_,rfl,_,rfl,_,rfl,o,kp,km,pa,ra,n,bs,ms,bv,mv,pv,rv,p,run,g,rfl,TA,TW,b3,hpa,hpt,lp,hra,hrun,r9,WK,(λy=>by rw [y] at hz; simp at hz),λz2 hz2=>⟨by rw [hz] at hz2; rw [<- Option.some.inj hz2]; exact cf,λd H1 s1 ed=>⟨cN,d,rfl,rfl,ZZ.hx,λe he=>?_⟩⟩⟩
 have ze:=zU he (vJ e cN d)
 have ee:=zO (H:=H1) (a:=e) (o:=vJ e cN d)
 generalize hhJ1:upd H1 e (vJ e cN d)=J1 at ze ee |-
 refine ⟨_,rfl,e,cN,d,cR,false,rfl,ee,ZZ.ex,ZZ.kR,_,rfl,e,cN,d,cB,false,rfl,ee,ZZ.ex,ZZ.kB,(by show 2<=sizeLine; decide),λl1 hl1=>?_⟩
 have z1:=zU hl1 (HO.lst [V.bl false,V.bl false])
 have el1:=zO (H:=J1) (a:=l1) (o:=HO.lst [V.bl false,V.bl false])
 generalize hhJ2:upd J1 l1 (HO.lst [V.bl false,V.bl false])=J2 at z1 el1 |-
 have ee:=z1 _ _ ee
 refine ⟨_,rfl,_,rfl,e,cN,d,cC,false,rfl,ee,ZZ.ex,ZZ.kC,_,rfl,e,cN,d,cP,false,rfl,ee,ZZ.ex,ZZ.kP,(by show 2<=sizeLine; decide),λl2 hl2=>?_⟩
 have z2:=zU hl2 (HO.lst [V.bl false,V.bl false])
 have el2:=zO (H:=J2) (a:=l2) (o:=HO.lst [V.bl false,V.bl false])
 generalize hhJ3:upd J2 l2 (HO.lst [V.bl false,V.bl false])=J3 at z2 el2 |-
 refine ⟨l1,l2,_,_,rfl,rfl,z2 _ _ el1,el2,(by show 4<=sizeLine; decide),λl3 hl3=>?_⟩
 have z3:=zU hl3 (HO.lst ([V.bl false,V.bl false]++[V.bl false,V.bl false]))
 have el3:=zO (H:=J3) (a:=l3) (o:=HO.lst ([V.bl false,V.bl false]++[V.bl false,V.bl false]))
 generalize hhJ4:upd J3 l3 (HO.lst ([V.bl false,V.bl false]++[V.bl false,V.bl false]))=J4 at z3 el3 |-
 have zz:=ze.trans (z1.trans (z2.trans z3))
 have ee:=z3 _ _ (z2 _ _ ee)
 refine ⟨_,rfl,e,cN,d,cN,true,rfl,ee,ZZ.ex,ZZ.kN,_,rfl,zb ?_⟩
 refine ⟨_,rfl,e,cN,d,"ValueError",rfl,ee,ZZ.kV,_,rfl,zb ?_⟩
 refine ⟨_,rfl,true,l3,[false,false,false,false],rfl,rfl,zE.of el3,_,rfl,zb ?_⟩
 refine ⟨_,rfl,e,cN,d,cM,false,rfl,ee,ZZ.ex,ZZ.kM,_,rfl,zb ?_⟩
 refine ⟨_,rfl,e,d,_,rfl,ee,zz _ _ ed,?_⟩
 exact ⟨_,rfl,q J4 (s1.trans zz)⟩
end
section
variable {P:Program} {w:World} {K:PySem.W.Frag} {mg:Str->Option Value} {base:Heap}
noncomputable abbrev Y2:Stmt:=yN 56
theorem kJ:zw ["_law_thing","_law_point","_law_run","_law_due","_law_handed","_law_found","_law_one"] ["_law_thing","_law_point","_law_run","_law_due"] (zY Y2):=.a
theorem zH5 {k:Nat} {f:Addr} {fd:FuncData} {cN:Addr} {ac ae:Addr} (af:zK K mg "Mode" ac) (ag:yE K ac) (ah:zK K mg "Thing" ae) (ai:yF K ae) (F:zx K "_law_told" "_law_told" Y2 f fd) (B:Bl mg) (aA:Fn P w K mg base "_law_copied" ["_law_run"] k kI) (aG:Fn P w K mg base "walked" ["thing","point","run"] k (Wf (g9 ae ac cN))):zL P w K mg base zd (k + 1) f fd ["_law_thing","_law_point","_law_run","_law_due"] (Y0 ae ac):=by
 refine F.ok kJ (λvs H Q E h=>?_) (λcdv A outer s H vs Q E hr h=>?_)
 ·obtain ⟨_,_,_,_,_,_,_,_,_,_,_,_,_,_,_,_,rfl,_⟩:=h
  rfl
 obtain ⟨o,kp,km,pa,ra,da,n,bs,ms,bv,mv,pv,rv,dv,p,run,rfl,TA,TW,b3,hpa,hpt,lp,hra,hrun,r9,WK,hda,hdv,q⟩:=h
 refine ⟨_,(zP (zj (i:=4) kJ.nd rfl (Or.inl rfl) (yq (zC (wc vf rfl B.list_ xY (zC (zB 1) zG)) (zC (zi aA hr rfl (zC (zB 2) zG)) zG))))
  (zP (zj (i:=5) kJ.nd rfl (Or.inl rfl) (zi aG hr rfl (zC (zB 0) (zC (zV zo (zB 4) zI (λ_ _=>rfl)) (zC (zV zo (zB 4) zI (λ_ _=>rfl)) zG)))))
  (zP (yG (PW.pt (xc (xE (yi (zn xh rfl B.isinstance_ yr (zC (zB 5) (zC (xW (v:=.ty "list") (u:=.type "list") rfl B.list_ xY rfl) zG))))) (xc (yd (Xx hr.units) (zB 5) (zB 3) (yH _)) (wO (yd (Xx hr.units) (zB 4) (yq (zC (zB 1) (zC (zB 2) zG))) (yH _)))))) (zW (zg xi)) yM)
  (zP (wE PassesOwn.never rfl (xx (zB 5)) (zr (i:=6) kJ.nd rfl (Or.inl rfl)) (zW (yG (PW.pt (xc (xE (yi (zn xh rfl B.isinstance_ yr (zC (zB 6) (zC (xW (v:=.ty "list") (u:=.type "list") rfl B.list_ xY rfl) zG))))) (wO (xE (yi (zn (vg rfl) rfl B.all_ vi (zC (xX (own:=["_law_value"]) (caps:=[]) (uC rfl) rfl (xx (zB 6)) (λ_ _ _ _=>zr (i:=0) (show (["_law_value"]:List Str).Nodup by decide +kernel) rfl (Or.inl rfl)) (λ_ _ _ _=>(zn (show yw _ _ (ZY K) from xh) rfl B.isinstance_ yr (zC (zB 0) (zC (xW (v:=.ty "tuple") (u:=.type "tuple") rfl B.tuple_ vS rfl) zG))))) zG))))))) (zW (zg xi)) yM)))
  (zP (wb (vC PySem.F.plainAttrs_list PySem.F.slot_list_append PySem.F.type_list_append xG (zV zo (zB 5) zI (λ_ _=>rfl)) (zC (wR (zC zI (zC zI zG))) zG)))
  (zP (wb (JB PySem.F.plainAttrs_list PySem.F.slot_list_clear PySem.F.type_list_clear JF (zV zo (zB 5) (w8 vA zI) (λ_ _=>rfl))))
  (zW (zg (wD (vB (ZO hr.units) (zi aG hr rfl (zC (zB 0) (zC (zV zo (zB 4) zI (λ_ _=>rfl)) (zC (zV zo (zB 4) zI (λ_ _=>rfl)) zG)))) (zB 3) (yH _)) (w6 (vB (ZO hr.units) (zB 4) (yq (zC (zB 1) (zC (zB 2) zG))) (yH _)))))))))))),?_⟩
 try dsimp only [zJ,Cx.nox,Cx.wish]
 refine ⟨_,rfl,pa,_,rfl,.inl (zE.of hpa),λl1 hl1=>?_⟩
 have yG1:=zU hl1 (HO.lst pv)
 have el1:=zO (H:=H) (a:=l1) (o:=HO.lst pv)
 generalize hhG1:upd H l1 (HO.lst pv)=G1 at yG1 el1 |-
 have SG1:=yG1
 replace TA:=(xq.same yG1 TA)
 replace hpa:=(yG1 _ _ hpa)
 replace hpt:=(zX.same yG1 hpt)
 replace hra:=(yG1 _ _ hra)
 replace hrun:=(xC yG1 hrun)
 replace hda:=(yG1 _ _ hda)
 replace hdv:=(wt yG1 hdv)
 refine ⟨_,rfl,ra,rv,run,rfl,hra,hrun,r9,λl2 lv2 J2 z2 _ el2 hrun2=>?_⟩
 have SG2:=SG1.trans z2
 replace TA:=(xq.same z2 TA)
 replace hpa:=(z2 _ _ hpa)
 replace hpt:=(zX.same z2 hpt)
 replace hra:=(z2 _ _ hra)
 replace hrun:=(xC z2 hrun)
 replace hda:=(z2 _ _ hda)
 replace hdv:=(wt z2 hdv)
 replace el1:=(z2 _ _ el1)
 refine ⟨(by show 2<=sizeLine; decide),λhl hhl=>?_⟩
 have yG3:=zU hhl (HO.lst [V.ref l1,V.ref l2])
 have ehl:=zO (H:=J2) (a:=hl) (o:=HO.lst [V.ref l1,V.ref l2])
 generalize hhG3:upd J2 hl (HO.lst [V.ref l1,V.ref l2])=G3 at yG3 ehl |-
 have SG3:=SG2.trans yG3
 replace TA:=(xq.same yG3 TA)
 replace hpa:=(yG3 _ _ hpa)
 replace hpt:=(zX.same yG3 hpt)
 replace hra:=(yG3 _ _ hra)
 replace hrun:=(xC yG3 hrun)
 replace hda:=(yG3 _ _ hda)
 replace hdv:=(wt yG3 hdv)
 replace el1:=(yG3 _ _ el1)
 replace el2:=(yG3 _ _ el2)
 replace hrun2:=(xC yG3 hrun2)
 refine ⟨_,rfl,_,rfl,hl,_,_,_,rfl,rfl,zE.of ehl,rfl,_,rfl,hl,_,_,_,rfl,rfl,zE.of ehl,rfl,o,kp,km,l1,l2,n,bs,ms,bv,mv,pv,lv2,p,run,run.length,rfl,TA,TW,b3,el1,hpt,lp,el2,hrun2,r9,WK,λ_ fl fv J5 z5 nfl efl hfv=>?_,λz hz=>by simp at hz⟩
 have lfv:=Paired.length hfv
 rw [YT] at lfv
 have dd:Paired (vU J5) dv (yK ms p run (run.length + 1)):=wt z5 hdv
 have hp5:=hpt.same z5
 have hpa5:=z5 _ _ hpa
 refine ⟨_,rfl,_,_,_,_,rfl,.lst efl,vF K,_,rfl,zb ?_⟩
 refine ⟨_,rfl,_,rfl,.list ((yK ms p run (run.length + 1)).map wr),.lst (zE.of efl) (Yv hfv),.lst (zE.of (z5 _ _ hda)) (Yw dd),W1 _,W2 _,_,rfl,zb ?_⟩
 refine ⟨_,rfl,_,rfl,_,rfl,(by show 2<=sizeLine; decide),λl6 hl6=>?_⟩
 have z6:=zU hl6 (HO.lst [V.ref pa,V.ref ra])
 have el6:=zO (H:=J5) (a:=l6) (o:=HO.lst [V.ref pa,V.ref ra])
 generalize hhJ6:upd J5 l6 (HO.lst [V.ref pa,V.ref ra])=J6 at z6 el6 |-
 have z56:=z5.trans z6
 refine ⟨jb p run,.lst (zE.of (z56 _ _ ehl)) (.cons (.lst (zE.of (z56 _ _ el1)) (vH (hpt.same z56))) (.cons (.lst (zE.of (z56 _ _ el2)) (jC (xC z56 hrun2))) .nil)),.lst (zE.of el6) (.cons (.lst (zE.of (z56 _ _ hpa)) (vH (hpt.same z56))) (.cons (.lst (zE.of (z56 _ _ hra)) (jC (xC z56 hrun))) .nil)),Yx _ _,Yy _ _,_,rfl,zb ?_⟩
 have hfv:=gw z6 hfv
 have efl:=z6 _ _ efl
 refine ⟨_,rfl,fl,rfl,⟨_,zE.of efl⟩,kh (K:=K) (a:=fl) (xs:=fv) (λi σ H'=>(∃ o6,σ=[some (.ref o),some (.ref pa),some (.ref ra),some (.ref da),some (.ref hl),some (.ref fl),o6])/\zD J6 H')
  ⟨⟨none,rfl⟩,zD.refl _⟩ (λi σ H' _ ⟨_,sm⟩=>zE.of (sm _ _ efl)) ?_ ?_⟩
 ·rintro i x σ H' hix ⟨⟨o6,rfl⟩,sm⟩
  obtain ⟨pt,hpt',a,qv,rfl,_,ea,hq⟩:=ym hfv hix
  have ea:=sm _ _ ea
  have hq:=hq.same sm
  have lq:qv.length<=900:=by
   have h1:=Paired.length hq
   have h2:pt∈yK ms p run (run.length + 1):=List.mem_of_getElem? hpt'
   unfold yK at h2
   obtain ⟨j,hj,rfl⟩:=List.mem_map.mp h2
   have:=WK.ln j (by have:=List.mem_range.mp hj; omega)
   have:=TW.n3
   omega
  refine ⟨_,rfl,_,_,_,_,rfl,.lst ea,vF K,_,rfl,zb ?_⟩
  refine ⟨_,rfl,a,rfl,⟨_,zE.of ea⟩,wU (K:=K) (a:=a) (xs:=qv) (λj ys σ H2=>ys=(List.replicate j true).map V.bl/\(∃ o,σ=[o])/\H2=H')
   ⟨rfl,⟨none,rfl⟩,rfl⟩ (λj ys σ H2 hj ⟨e1,_,e3⟩=>⟨by rw [e3]; exact zE.of ea,by rw [e1,List.length_map,List.length_replicate]; exact Nat.le_refl _⟩) (Nat.le_of_lt (yB (by omega))) ?_ ?_⟩
  ·rintro j x ys σ H2 hj ⟨rfl,⟨o7,rfl⟩,rfl⟩
   obtain ⟨u,hu,r,rfl,er⟩:=ym hq hj
   refine ⟨_,rfl,_,_,_,_,rfl,.tup er,j5 K,?_,⟨_,rfl⟩,rfl⟩
   rw [List.replicate_succ',List.map_append]
   rfl
  rintro ys σ H2 ⟨rfl,⟨o7,rfl⟩,rfl⟩ l7 hl7
  refine ⟨l7,List.replicate _ true,rfl,zE.of zO,?_⟩
  rw [uJ]
  exact ⟨_,rfl,zb ⟨⟨_,rfl⟩,sm.trans (zU hl7 _)⟩⟩
 rintro σ J7 ⟨⟨o6,rfl⟩,z7⟩
 have s7:zD G3 J7:=z56.trans z7
 have efl:=z7 _ _ efl
 have hfv:=gw z7 hfv
 have g0:fv[0]? = some (fv[0]'(by omega)):=List.getElem?_eq_getElem _
 obtain ⟨p0,hp0,a0,q0,e0,f0,ea0,hq0⟩:=ym hfv g0
 have at0':yA fv 0=some (.ref a0):=(wS (j:=0) (g0.trans (by rw [e0])))
 have gl:fv[fv.length - 1]? = some (fv[fv.length - 1]'(by omega)):=List.getElem?_eq_getElem _
 obtain ⟨pl,hpl,al,ql,el,fal,eal,hql⟩:=ym hfv gl
 have atl:yA fv (-1)=some (.ref al):=by
  obtain ⟨ys,y,ey⟩:∃ ys y,fv=ys++[y]:=⟨fv.dropLast,fv.getLast (by intro z; rw [z] at lfv; simp at lfv),(List.dropLast_concat_getLast _).symm⟩
  have e1:y=V.ref al:=by
   rw [<- el]
   have:fv[fv.length - 1]? = some y:=by rw [ey]; simp
   rw [gl] at this
   exact (Option.some.inj this).symm
  rw [ey,e1]
  exact v8 _ _
 have l0:q0.length<=900:=by
  have h1:=Paired.length hq0
  have h2:p0∈yK ms p run (run.length + 1):=List.mem_of_getElem? hp0
  unfold yK at h2
  obtain ⟨j,hj,rfl⟩:=List.mem_map.mp h2
  have:=WK.ln j (by have:=List.mem_range.mp hj; omega)
  have:=TW.n3
  omega
 refine ⟨_,rfl,fl,_,_,_,rfl,rfl,zE.of efl,at0',.inl ⟨rfl,_,zE.of ea0⟩,(by show 2<=sizeLine; decide),λt1 ht1=>?_⟩
 have z8:=zU ht1 (HO.tup [V.int 1,V.int 1])
 have efl:=z8 _ _ efl
 have ea0:=z8 _ _ ea0
 have eal:=z8 _ _ eal
 generalize hhJ8:upd J7 t1 (HO.tup [V.int 1,V.int 1])=J8 at z8 efl ea0 eal |-
 have s8:=s7.trans z8
 refine ⟨a0,q0,.ref t1,rfl,rfl,ea0,yB (by omega),?_⟩
 have nf0:fl≠a0:=λy=>by
  rw [y,ea0] at efl
  have ev:q0=fv:=by
   have:=Option.some.inj efl
   injection this
  have g1:q0[0]? = some (V.ref a0):=by rw [ev]; exact g0.trans (by rw [e0])
  obtain ⟨u,_,r,er,hr'⟩:=ym hq0 g1
  injection er with er
  have w1:=z8 _ _ hr'
  rw [<- er,ea0] at w1
  cases w1
 have s9:zD G3 (upd J8 a0 (HO.lst (q0++[V.ref t1]))):=W5 s8 f0
 have efl:upd J8 a0 (HO.lst (q0++[V.ref t1])) fl=some (.lst fv):=(zl nf0).trans efl
 obtain ⟨xs9,ex9⟩:∃ xs,upd J8 a0 (HO.lst (q0++[V.ref t1])) al=some (.lst xs):=by
  by_cases y:al=a0
  ·exact ⟨_,by rw [y]; exact zO⟩
  ·exact ⟨_,(zl y).trans eal⟩
 generalize hhJ9:upd J8 a0 (HO.lst (q0++[V.ref t1]))=J9 at s9 efl ex9 |-
 refine ⟨_,rfl,_,rfl,fl,_,_,_,rfl,rfl,zE.of efl,atl,.inl ⟨rfl,_,zE.of ex9⟩,al,xs9,rfl,rfl,ex9,?_⟩
 have s10:zD G3 (upd J9 al (HO.lst [])):=W5 s9 fal
 generalize hhJ10:upd J9 al (HO.lst [])=J10 at s10 |-
 refine ⟨_,rfl,_,rfl,hl,_,_,_,rfl,rfl,zE.of (s10 _ _ ehl),rfl,_,rfl,hl,_,_,_,rfl,rfl,zE.of (s10 _ _ ehl),rfl,o,kp,km,l1,l2,n,bs,ms,bv,mv,pv,lv2,p,run,run.length,rfl,xq.same s10 TA,TW,b3,s10 _ _ el1,hpt.same s10,lp,s10 _ _ el2,xC s10 hrun2,r9,WK,λ_ f2 fv2 J11 z11 _ ef2 hf2=>?_,λz hz=>by simp at hz⟩
 have s11:=s10.trans z11
 refine ⟨_,rfl,.list ((yK ms p run (run.length + 1)).map wr),.lst (zE.of ef2) (Yv hf2),.lst (zE.of (s11 _ _ hda)) (Yw (wt s11 hdv)),W1 _,W2 _,_,rfl,yR ?_⟩
 refine ⟨_,rfl,_,rfl,_,rfl,(by show 2<=sizeLine; decide),λl12 hl12=>?_⟩
 have z12:=zU hl12 (HO.lst [V.ref pa,V.ref ra])
 have s12:=s11.trans z12
 exact ⟨jb p run,.lst (zE.of (s12 _ _ ehl)) (.cons (.lst (zE.of (s12 _ _ el1)) (vH (hpt.same s12))) (.cons (.lst (zE.of (s12 _ _ el2)) (jC (xC s12 hrun2))) .nil)),.lst (zE.of zO) (.cons (.lst (zE.of (s12 _ _ hpa)) (vH (hpt.same s12))) (.cons (.lst (zE.of (s12 _ _ hra)) (jC (xC s12 hrun))) .nil)),Yx _ _,Yy _ _,q _⟩
end
noncomputable def wz (k:Nat) (p:List (Int × Int)):Prop:=p.length<=3/\∀ q∈p,0 < q.2/\q.2.natAbs<=v1 k/\q.1.natAbs<=uL k * q.2.natAbs
theorem wz.g {k:Nat} {p:List (Int × Int)} (h:wz k p) (k4:k<=4):v2 p:=by
 refine ⟨h.1,λq hq=>?_⟩
 obtain ⟨a,b,c⟩:=h.2 q hq
 have d:=Wl k k4
 have v:=qU k k4
 refine ⟨a,?_,?_⟩
 ·have e:=Nat.mul_le_mul v (Nat.le_of_lt (Nat.lt_of_le_of_lt b d))
  rw [<- Nat.pow_add] at e
  exact Nat.lt_of_le_of_lt (Nat.le_trans c e) (Nat.pow_lt_pow_right (by decide) (by decide))
 ·exact Nat.lt_of_le_of_lt b (Nat.lt_trans d (Nat.pow_lt_pow_right (by decide) (by decide)))
theorem wz.bt3 {k:Nat} {p:List (Int × Int)} (h:wz k p) (k4:k<=4):(bt p).natAbs<=2 ^ 2850:=by
 have b1:=qT p λq hq=>(h.2 q hq).2.1
 have d3:v1 k ^ 3<=2 ^ 2850:=by
  have:=Nat.pow_le_pow_left (Nat.le_of_lt (Wl k k4)) 3
  rw [<- Nat.pow_mul] at this
  exact this
 exact Nat.le_trans (Nat.le_trans b1 (Nat.pow_le_pow_right (Z0 k) h.1)) d3
theorem wz.bd {k:Nat} {p:List (Int × Int)} (h:wz k p) (k4:k<=4):Bd 7000 (bt p):=Nat.lt_of_le_of_lt (h.bt3 k4) (Nat.pow_lt_pow_right (by decide) (by decide))
theorem W6 {k:Nat} {p us:List (Int × Int)} {s:Int × Int} (P:wz k p) (k4:k<=4) (U:vX 4 us) (u3:us.length<=3) (S:Yq s):v3 p us s:=by
 have PO:=P.g k4
 have sb:Bd 100 s.1/\Bd 100 s.2:=by
  obtain ⟨h0,h1,h2⟩:=S
  constructor
  ·have:2 ^ 67 * s.2.natAbs<=2 ^ 67 * 9:=Nat.mul_le_mul_left _ h1
   show s.1.natAbs < 2 ^ 100
   omega
  ·show s.2.natAbs < 2 ^ 100
   omega
 refine ⟨λq hq=>?_,P.1,u3,?_⟩
 ·rcases List.mem_append.mp hq with hq | hq
  ·rcases List.mem_append.mp hq with hq | hq
   ·exact PO.ok q hq
   ·obtain ⟨a,b,c⟩:=U.bd q hq
    exact ⟨a,b.mono,c.mono⟩
  ·rw [List.mem_singleton.mp hq]
   exact ⟨S.1,sb.1.mono,sb.2.mono⟩
 ·rw [gj]
  have b2:(bt us).natAbs<=2 ^ 11:=Nat.le_trans (qT us λq hq=>(U.2 q hq).2.1) (Nat.le_trans (Nat.pow_le_pow_right (by decide) u3) (by decide))
  have b3:s.2.natAbs<=2 ^ 4:=Nat.le_trans S.2.1 (by decide)
  show (bt p * bt us * s.2).natAbs < 2 ^ 7000
  rw [Int.natAbs_mul,Int.natAbs_mul]
  refine Nat.lt_of_le_of_lt (Nat.mul_le_mul (Nat.mul_le_mul (P.bt3 k4) b2) b3) ?_
  rw [<- Nat.pow_add,<- Nat.pow_add]
  exact Nat.pow_lt_pow_right (by decide) (by decide)
theorem qh {α:Type} {l:List α} {i:Nat} (d:α) (h:i < l.length):l.getD i d∈l:=by
 have e:l[i]? = some (l.getD i d):=by
  rw [List.getD_eq_getElem?_getD,List.getElem?_eq_getElem h]
  rfl
 exact List.mem_of_getElem? e
theorem qi {m:MD} {n w k:Nat} {p us:List (Int × Int)} {s:Int × Int} (o:yo m n w) (h:ML m) (P:wz k p) (U:vX 4 us) (S:Yq s) (lp:p.length=n) (lu:us.length=w) (w3:w<=3):wz (k + 1) (xS m p us s):=by
 have n3:=o.n3
 refine ⟨by unfold xS; rw [List.length_map,List.length_range,o.nexts.1]; exact n3,λx hx=>?_⟩
 obtain ⟨i,hi,rfl⟩:=List.mem_map.mp hx
 have hi':=List.mem_range.mp hi
 have e1:=o.nexts.1
 have e2:=o.push.1
 have e3:=o.steer
 have e4:=o.add
 have m1:=qh (l:=m.nexts) (i:=i) [] (by omega)
 have m2:=qh (l:=m.push) (i:=i) [] (by omega)
 have m3:=qh (l:=m.steer) (i:=i) 0 (by omega)
 have m4:=qh (l:=m.add) (i:=i) 0 (by omega)
 have dv:=o.div
 have sz:=Q6 (nx:=m.nexts.getD i []) (pu:=m.push.getD i []) (st:=m.steer.getD i 0) (ad:=m.add.getD i 0) (dv:=m.div) (p:=p) (us:=us) (s:=s) (V:=uL k) (D:=v1 k)
  (by rw [o.nexts.2 _ m1,lp]) (by rw [o.push.2 _ m2,lu]) P.1 (by omega) (Z0 k) (Q8 k) P.2 U.2 S (h.nexts _ m1) (h.push _ m2) (h.steer _ m3) (h.add _ m4) (by omega) h.div
 show 0 < _/\_<=v1 k ^ 3 * 139968/\_<=uL (k + 1) * _
 rw [Q7]
 exact sz
structure LO (n:Nat) (bs:List (Int × Int)) (ms:List MD):Prop where
 md:∀ m∈ms,yo m n bs.length/\ML m
 b3:ja bs
 n3:n<=3
 m3:ms.length<=3
theorem LO.tw {n:Nat} {bs:List (Int × Int)} {ms:List MD} (h:LO n bs ms):qW n bs ms:=
 ⟨h.n3,λm hm=>(h.md m hm).1,λm hm=>(h.md m hm).2.mz (h.md m hm).1,by have:=h.m3; omega,λb hb=>⟨(h.b3.bd b hb).1.mono,(h.b3.bd b hb).2.mono⟩⟩
structure Lw (n:Nat) (ms:List MD) (bs p:List (Int × Int)) (run:List yJ) (g:Nat):Prop where
 le:g<=run.length
 st:∀ z∈run,kH z
 ok:∀ j z,j < g->run[j]? = some z->zy ms bs (yO ms p (run.take j)) z=true
 sz:∀ j,j<=g->wz j (yO ms p (run.take j))/\(yO ms p (run.take j)).length=n
 bad:g < run.length->∃ z,run[g]? = some z/\zy ms bs (yO ms p (run.take g)) z=false
theorem Lw.wk {n:Nat} {ms:List MD} {bs p:List (Int × Int)} {run:List yJ} {g:Nat} (h:Lw n ms bs p run g) (b3:bs.length<=3) (r5:run.length<=5):Wk n ms bs p run g:=by
 have gl:=h.le
 refine ⟨h.le,λz hz=>?_,h.ok,λj hj=>(h.sz j hj).2,λj hj hr=>(h.sz j hj).1.g (by omega),λj z hj hz=>?_⟩
 ·have S:=h.st z hz
  exact ⟨λu hu=>⟨(S.us.bd u hu).1,(S.us.bd u hu).2.1.mono,(S.us.bd u hu).2.2.mono⟩,S.us.1⟩
 ·have S:=h.st z (List.mem_of_getElem? hz)
  obtain ⟨_,_,lu⟩:=gz (h.ok j z hj hz)
  exact W6 (h.sz j (by omega)).1 (by omega) S.us (by omega) S.s
theorem jd {α:Type} {xs:List α} {y:α} {j:Nat} (h:j<=xs.length):(xs++[y]).take j=xs.take j:=List.take_append_of_le_length h
theorem W7 {α:Type} {xs:List α} {y z:α} {j:Nat} (h:j < xs.length) (e:(xs++[y])[j]? = some z):xs[j]? = some z:=by
 rw [List.getElem?_append_left h] at e
 exact e
theorem Lw.nil {n:Nat} {ms:List MD} {bs p:List (Int × Int)} (h:wz 0 p) (l:p.length=n):Lw n ms bs p [] 0:=by
 refine ⟨Nat.le_refl _,λ_ h=>(nomatch h),λj z h=>absurd h (by omega),λj hj=>?_,λh=>absurd h (by simp)⟩
 rw [List.take_nil,show j=0 by omega]
 exact ⟨h,l⟩
section
variable {n g:Nat} {ms:List MD} {bs p:List (Int × Int)} {run:List yJ} {z:yJ}
theorem Lw.grow (L:Lw n ms bs p run g) (S:kH z) (b:g < run.length\/zy ms bs (yO ms p (run.take g)) z=false):Lw n ms bs p (run++[z]) g:=by
 have gl:=L.le
 refine ⟨by rw [List.length_append]; omega,λy hy=>?_,λj y hj hy=>?_,λj hj=>?_,λ_=>?_⟩
 ·rcases List.mem_append.mp hy with hy | hy
  ·exact L.st y hy
  ·rw [List.mem_singleton.mp hy]; exact S
 ·rw [jd (by omega)]
  exact L.ok j y hj (W7 (by omega) hy)
 ·rw [jd (by omega)]
  exact L.sz j hj
 ·rw [jd gl]
  by_cases c:g < run.length
  ·obtain ⟨y,e,f⟩:=L.bad c
   exact ⟨y,by rw [List.getElem?_append_left c]; exact e,f⟩
  ·have eg:g=run.length:=by omega
   refine ⟨z,?_,?_⟩
   ·rw [eg,List.getElem?_append_right (Nat.le_refl _),Nat.sub_self]; rfl
   ·rcases b with b | b
    ·exact absurd b c
    ·exact b
theorem Lw.next (O:LO n bs ms) (L:Lw n ms bs p run run.length) (S:kH z) (c:zy ms bs (yO ms p run) z=true):Lw n ms bs p (run++[z]) (run.length + 1):=by
 obtain ⟨k0,k1,lu⟩:=gz c
 obtain ⟨s1,s2⟩:=L.sz run.length (Nat.le_refl _)
 rw [List.take_length] at s1 s2
 have hm:ms.getD z.k.toNat YO∈ms:=qh _ (by omega)
 obtain ⟨mo,ml⟩:=O.md _ hm
 have b3:=O.b3.1
 refine ⟨by rw [List.length_append]; exact Nat.le_refl _,λy hy=>?_,λj y hj hy=>?_,λj hj=>?_,λh=>?_⟩
 ·rcases List.mem_append.mp hy with hy | hy
  ·exact L.st y hy
  ·rw [List.mem_singleton.mp hy]; exact S
 ·rw [jd (by omega)]
  by_cases cj:j < run.length
  ·exact L.ok j y cj (W7 cj hy)
  ·have ej:j=run.length:=by omega
   rw [ej,List.getElem?_append_right (Nat.le_refl _),Nat.sub_self] at hy
   have:z=y:=by simpa using hy
   rw [ej,List.take_length,<- this]
   exact c
 ·by_cases cj:j<=run.length
  ·rw [jd cj]
   exact L.sz j cj
  ·have ej:j=run.length + 1:=by omega
   rw [ej,List.take_of_length_le (by rw [List.length_append]; exact Nat.le_refl _),YS]
   exact ⟨qi mo ml s1 S.us S.s s2 lu b3,Kx mo _ _ _⟩
 ·rw [List.length_append] at h
  exact absurd h (by show ¬ run.length + 1 < run.length + 1; omega)
theorem vY (h:g<=run.length):yK ms p (run++[z]) (g + 1)=yK ms p run (g + 1):=by
 unfold yK
 refine List.map_congr_left λj hj=>?_
 rw [jd (by have:=List.mem_range.mp hj; omega)]
theorem zH1:yK ms p (run++[z]) (run.length + 1 + 1)=yK ms p run (run.length + 1)++[qX ms (yO ms p run) z]:=by
 rw [jY,vY (Nat.le_refl _),List.take_of_length_le (by rw [List.length_append]; exact Nat.le_refl _),YS]
end
theorem qj {B:List Addr} {x:Addr} {H:Hp} (h:x∈B) (o:HO):zD (hide B H) (hide B (upd H x o)):=Zm ((xA.refl B H).put o h)
theorem Ys.hid {B:List Addr} {H0 H:Hp} {v:V} {z:yJ} (hB:∀ b∈B,(∃ o,H0 b=some o)/\∃ xs,H b=some (.lst xs)) (h:Ys H0 H v z):xv (hide B H) v z:=by
 obtain ⟨t,sa,ua,uv,e,h1,h2,h0,h3,h4⟩:=h
 have tp:∀ {a:Addr} {xs:List V},H a=some (.tup xs)->hide B H a=some (.tup xs):=λ{a xs} ha=>(xZ λy=>by
  obtain ⟨ys,q⟩:=(hB a y).2
  rw [ha] at q
  cases q).trans ha
 refine ⟨t,sa,ua,uv,e,tp h1,tp h2,(xZ λy=>by
  obtain ⟨o,q⟩:=(hB ua y).1
  rw [h0] at q
  cases q).trans h3,Paired.mapP h4 λ_ _ ⟨r,e,q⟩=>⟨r,e,tp q⟩⟩
theorem zJd {ms:List MD} {bs p:List (Int × Int)} {z:yJ} (h:xB z.us bs=false):zy ms bs p z=false:=by
 unfold zy
 rw [h,Bool.and_false,Bool.false_and]
theorem zJb {ms:List MD} {bs p:List (Int × Int)} {z:yJ} (h0:0<=z.k) (h1:z.k < (ms.length:Int)) (h2:xB z.us bs=true) (h3:(uM ms z.k).all (wB p)=true):zy ms bs p z=true:=by
 unfold zy
 rw [decide_eq_true h0,decide_eq_true h1,h2,h3]
 rfl
theorem qk {x y:V} {g:Int} (g0:0<=g) (g1:g < 2):∃ k,yA [x,y] g=some k/\(k=x\/k=y):=by
 rcases (show g=0\/g=1 by omega) with e | e
 ·rw [e]; exact ⟨x,rfl,.inl rfl⟩
 ·rw [e]; exact ⟨y,rfl,.inr rfl⟩
section
variable {P:Program} {w:World} {K:PySem.W.Frag} {mg:Str->Option Value} {base:Heap}
noncomputable abbrev yg:Stmt:=yN 57
theorem xT:zw ["_law_script","_law_cell","_law_many","_law_wide","_law_some","_law_xs","_law_bounds","_law_k","_law_low","_law_point","_law_thing","_law_run","_law_due","_law_bad","_law_number_here","_law_step_here","_law_mode","_law_good","_law_handed"] ["_law_script"] (zY yg):=.a
theorem zLF {k:Nat} {f:Addr} {fd:FuncData} {cN:Addr} {ac ae:Addr} (af:zK K mg "Mode" ac) (ag:yE K ac) (ah:zK K mg "Thing" ae) (ai:yF K ae) (F:zx K "law" "law" yg f fd) (B:Bl mg) (aD:Fn P w K mg base "_law_cell_at" ["_law_script","_law_k"] (k + 1) (ZT K)) (bn:Fn P w K mg base "_law_parts" ["_law_cell","_law_many","_law_wide"] (k + 1) Yb) (aq:Fn P w K mg base "_law_stream" ["_law_cell","_law_many"] (k + 1) jO) (ar:Fn P w K mg base "_law_number" ["_law_number_here"] (k + 1) qe) (ap:Fn P w K mg base "_law_fraction" ["_law_top","_law_bottom"] (k + 1) ut) (bo:uG P w K mg base ae ["self","many","pushes","modes"] k (Zj ae ac)) (bq:uG P w K mg base ac ["self","rows","nexts","steer","push","add","divisor"] k (Zg ac)) (br:Fn P w K mg base "_law_step" ["_law_cell","_law_some","_law_bounds","_law_point"] (k + 1) Yt) (bz:Fn P w K mg base "_law_fit" ["_law_pushes_here","_law_bounds"] (k + 1) Yc) (az:Fn P w K mg base "_law_held" ["_law_rows","_law_point"] (k + 1) (kG K)) (bA:Fn P w K mg base "_law_behind" ["_law_parts_here","_law_point","_law_steering","_law_pushes_here"] (k + 1) Yd) (bB:Fn P w K mg base "_law_told" ["_law_thing","_law_point","_law_run","_law_due"] (k + 1) (Y0 ae ac)) (aA:Fn P w K mg base "_law_copied" ["_law_run"] (k + 1) kI) (bC:Fn P w K mg base "_law_refused" ["_law_thing","_law_point","_law_run"] (k + 1) (Yz ae ac)):zL P w K mg base zd (k + 1 + 1) f fd ["_law_script"] (j8 K):=by
 refine F.ok xT (λvs H Q E h=>?_) (λcdv A outer s H vs Q E hr h=>?_)
 ·obtain ⟨_,_,rfl,_⟩:=h
  rfl
 obtain ⟨sa,ns,rfl,hS,h63,qq⟩:=h
 obtain ⟨t2,T2,R2⟩:∃ t2,yb (zJ zd P w K mg base ["_law_script","_law_cell","_law_many","_law_wide","_law_some","_law_xs","_law_bounds","_law_k","_law_low","_law_point","_law_thing","_law_run","_law_due","_law_bad","_law_number_here","_law_step_here","_law_mode","_law_good","_law_handed"] "law" (zY yg) f cdv A outer s H E).nox ((yS yg).drop 3) t2/\∀ (n ww:Nat) (cc:Int),1<=n->n<=3->ww<=3->
  t2 { nx:=λ_ H'=>Q .non H',rt:=Q } [some (.ref sa),some (.int cc),some (.int (n:Int)),some (.int (ww:Int)),none,none,none,none,none,none,none,none,none,none,none,none,none,none,none] H:=by
  obtain ⟨u_14,E_14,U_14⟩:=L2.wC (p:=λt=>yb (zJ zd P w K mg base ["_law_script","_law_cell","_law_many","_law_wide","_law_some","_law_xs","_law_bounds","_law_k","_law_low","_law_point","_law_thing","_law_run","_law_due","_law_bad","_law_number_here","_law_step_here","_law_mode","_law_good","_law_handed"] "law" (zY yg) f cdv A outer s H E).nox ((yS yg).drop 14) t) (zP (zj (i:=18) xT.nd rfl (Or.inl rfl) (yq (zC (wc vf rfl B.list_ xY (zC (zB 9) zG)) (zC (zi aA hr rfl (zC (zB 11) zG)) zG))))
  (zW (zg (wD (vB wQ (zi bC hr rfl (zC (zB 10) (zC (zV zo (zB 18) zI (λ_ _=>rfl)) (zC (zV zo (zB 18) zI (λ_ _=>rfl)) zG)))) (zB 13) (yH _)) (w6 (vB (ZO hr.units) (zB 18) (yq (zC (zB 9) (zC (zB 11) zG))) (yH _)))))))
  obtain ⟨u_13,E_13,U_13⟩:=L2.wC (p:=λt=>yb (zJ zd P w K mg base ["_law_script","_law_cell","_law_many","_law_wide","_law_some","_law_xs","_law_bounds","_law_k","_law_low","_law_point","_law_thing","_law_run","_law_due","_law_bad","_law_number_here","_law_step_here","_law_mode","_law_good","_law_handed"] "law" (zY yg) f cdv A outer s H E).nox ((yS yg).drop 13) t) (zP (yG (yd ko (zB 13) gA (yH _)) (zW (zg (zi bB hr rfl (zC (zB 10) (zC (zB 9) (zC (zB 11) (zC (zB 12) zG))))))) yM)
  U_14)
  obtain ⟨u_12,E_12,U_12⟩:=L2.wC (p:=λt=>yb (zJ zd P w K mg base ["_law_script","_law_cell","_law_many","_law_wide","_law_some","_law_xs","_law_bounds","_law_k","_law_low","_law_point","_law_thing","_law_run","_law_due","_law_bad","_law_number_here","_law_step_here","_law_mode","_law_good","_law_handed"] "law" (zY yg) f cdv A outer s H E).nox ((yS yg).drop 12) t) (zP (wE PassesOwn.never rfl (xx (vR uH (zB 0) (xy zI) (xy (zN (zp yV) zI (zN (ji yj) (zN (ji wd) (zB 1) zI) zI))))) (zr (i:=14) xT.nd rfl (Or.inl rfl)) (zP (zj (i:=15) xT.nd rfl (Or.inl rfl) (zi br hr rfl (zC (zB 14) (zC (zB 4) (zC (zB 6) (zC (zV zo (zB 12) (w8 vA zI) (λ_ _=>rfl)) zG))))))
   (zP (wb (vC PySem.F.plainAttrs_list PySem.F.slot_list_append PySem.F.type_list_append xG (zB 11) (zC (zB 15) zG)))
   (zP (zj (i:=16) xT.nd rfl (Or.inl rfl) (zV yC (zB 15) zI (λ_ _=>rfl)))
   (zP (zj (i:=17) xT.nd rfl (Or.inl rfl) (wD (UV jv jJ zI (zB 16) (zn zu rfl B.len_ yt (zC (zB 4) zG))) (w6 (zi bz hr rfl (zC (zV yC (zB 15) zI (λ_ _=>rfl)) (zC (zB 6) zG))))))
   (zP (yG (yi (zB 17)) (zW (zj (i:=17) xT.nd rfl (Or.inl rfl) (zi az hr rfl (zC (zV zo (zV zo (zB 4) (zB 16) (λ_ _=>rfl)) zI (λ_ _=>rfl)) (zC (zV zo (zB 12) (w8 vA zI) (λ_ _=>rfl)) zG))))) yM)
   (zW (yG (PW.pt (XB (yd ko (zB 13) gA (yH _)) (XA (yi (zB 17))))) (zW (wb (vC PySem.F.plainAttrs_list PySem.F.slot_list_append PySem.F.type_list_append xG (zB 12) (zC (zi bA hr rfl (zC (zV zo (zB 4) (zB 16) (λ_ _=>rfl)) (zC (zV zo (zB 12) (w8 vA zI) (λ_ _=>rfl)) (zC (zV yC (zB 15) zI (λ_ _=>rfl)) (zC (zV yC (zB 15) zI (λ_ _=>rfl)) zG))))) zG)))) (zW (yG (yd ko (zB 13) gA (yH _)) (zW (zj (i:=13) xT.nd rfl (Or.inl rfl) (zN (zp wP) (zn zu rfl B.len_ yt (zC (zB 11) zG)) zI))) yM))))))))))
  U_13)
  obtain ⟨u_11,E_11,U_11⟩:=L2.wC (p:=λt=>yb (zJ zd P w K mg base ["_law_script","_law_cell","_law_many","_law_wide","_law_some","_law_xs","_law_bounds","_law_k","_law_low","_law_point","_law_thing","_law_run","_law_due","_law_bad","_law_number_here","_law_step_here","_law_mode","_law_good","_law_handed"] "law" (zY yg) f cdv A outer s H E).nox ((yS yg).drop 11) t) (zP (zj (i:=13) xT.nd rfl (Or.inl rfl) gA)
  U_12)
  obtain ⟨u_10,E_10,U_10⟩:=L2.wC (p:=λt=>yb (zJ zd P w K mg base ["_law_script","_law_cell","_law_many","_law_wide","_law_some","_law_xs","_law_bounds","_law_k","_law_low","_law_point","_law_thing","_law_run","_law_due","_law_bad","_law_number_here","_law_step_here","_law_mode","_law_good","_law_handed"] "law" (zY yg) f cdv A outer s H E).nox ((yS yg).drop 10) t) (zP (zj (i:=12) xT.nd rfl (Or.inl rfl) (yq (zC (zB 9) zG)))
  U_11)
  obtain ⟨u_9,E_9,U_9⟩:=L2.wC (p:=λt=>yb (zJ zd P w K mg base ["_law_script","_law_cell","_law_many","_law_wide","_law_some","_law_xs","_law_bounds","_law_k","_law_low","_law_point","_law_thing","_law_run","_law_due","_law_bad","_law_number_here","_law_step_here","_law_mode","_law_good","_law_handed"] "law" (zY yg) f cdv A outer s H E).nox ((yS yg).drop 9) t) (zP (zj (i:=11) xT.nd rfl (Or.inl rfl) (yq zG))
  U_10)
  obtain ⟨u_8,E_8,U_8⟩:=L2.wC (p:=λt=>yb (zJ zd P w K mg base ["_law_script","_law_cell","_law_many","_law_wide","_law_some","_law_xs","_law_bounds","_law_k","_law_low","_law_point","_law_thing","_law_run","_law_due","_law_bad","_law_number_here","_law_step_here","_law_mode","_law_good","_law_handed"] "law" (zY yg) f cdv A outer s H E).nox ((yS yg).drop 8) t) (zP (zj (i:=10) xT.nd rfl (Or.inl rfl) (WB bo ah hr rfl (zC (zB 2) (zC (wc vf rfl B.list_ xY (zC (zB 6) zG)) (zC (xX (own:=["_law_one"]) (caps:=[]) (uC rfl) rfl (xx (zB 4)) (λ_ _ _ _=>zr (i:=0) (show (["_law_one"]:List Str).Nodup by decide +kernel) rfl (Or.inl rfl)) (λ_ _ _ _=>(WB bq af hr rfl (zC (zV (show wH _ (wl (zE K)) from zo) (zB 0) zI (λ_ _=>rfl)) (zC (zV (show wH _ (wl (zE K)) from zo) (zB 0) zI (λ_ _=>rfl)) (zC (zV (show wH _ (wl (zE K)) from zo) (zB 0) zI (λ_ _=>rfl)) (zC (zV (show wH _ (wl (zE K)) from zo) (zB 0) zI (λ_ _=>rfl)) (zC (zV (show wH _ (wl (zE K)) from zo) (zB 0) zI (λ_ _=>rfl)) (zC (zV (show wH _ (wl (zE K)) from zo) (zB 0) zI (λ_ _=>rfl)) zG))))))))) zG)))))
  U_9)
  obtain ⟨u_7,E_7,U_7⟩:=L2.wC (p:=λt=>yb (zJ zd P w K mg base ["_law_script","_law_cell","_law_many","_law_wide","_law_some","_law_xs","_law_bounds","_law_k","_law_low","_law_point","_law_thing","_law_run","_law_due","_law_bad","_law_number_here","_law_step_here","_law_mode","_law_good","_law_handed"] "law" (zY yg) f cdv A outer s H E).nox ((yS yg).drop 7) t) (zP (gM (i:=9) xT.nd rfl rfl (own:=["_law_k"]) (caps:=[(5,"_law_xs")]) (wI (S:=zY yg) (N:=["_law_script","_law_cell","_law_many","_law_wide","_law_some","_law_xs","_law_bounds","_law_k","_law_low","_law_point","_law_thing","_law_run","_law_due","_law_bad","_law_number_here","_law_step_here","_law_mode","_law_good","_law_handed"]) rfl (by decide +kernel) rfl ⟨_,rfl⟩ rfl (by decide +kernel) (by decide +kernel)) rfl (wu rfl B.range_ (zC (zB 2) zG)) (λ_ _ _ _=>zr (i:=0) (show (["_law_k","_law_xs"]:List Str).Nodup by decide +kernel) rfl (Or.inl rfl)) (λ_ _ _ _=>(zi ap hr rfl (zC (zi ar hr rfl (zC (zV (show wH _ (wl (zE K)) from zo) (zB 1) (zN (zp yV) zI (zB 0)) (λ_ _=>rfl)) zG)) (zC (zN (zp yV) zI (zN (ji yj) (zV (show wH _ (wl (zE K)) from zo) (zB 1) (zN (zp yV) zI (zB 0)) (λ_ _=>rfl)) (zV (show wH _ (wl (zE K)) from zo) (yq (zC zI (zC zI zG))) (zN (ji yj) (zV (show wH _ (wl (zE K)) from zo) (zB 1) zI (λ_ _=>rfl)) zI) (λ_ _=>rfl)))) zG)))) rfl)
  U_8)
  obtain ⟨u_6,E_6,U_6⟩:=L2.wC (p:=λt=>yb (zJ zd P w K mg base ["_law_script","_law_cell","_law_many","_law_wide","_law_some","_law_xs","_law_bounds","_law_k","_law_low","_law_point","_law_thing","_law_run","_law_due","_law_bad","_law_number_here","_law_step_here","_law_mode","_law_good","_law_handed"] "law" (zY yg) f cdv A outer s H E).nox ((yS yg).drop 6) t) (zP (wE PassesOwn.never rfl (wu rfl B.range_ (zC (zB 3) zG)) (zr (i:=7) xT.nd rfl (Or.inl rfl)) (zP (zj (i:=8) xT.nd rfl (Or.inl rfl) (zi ar hr rfl (zC (zV zo (zB 5) (zB 7) (λ_ _=>rfl)) zG)))
   (zW (wb (vC PySem.F.plainAttrs_list PySem.F.slot_list_append PySem.F.type_list_append xG (zB 6) (zC (wR (zC (zB 8) (zC (zN (zp yV) (zB 8) (zN (ji yj) (zV zo (zB 5) (zN (zp yV) zI (zB 7)) (λ_ _=>rfl)) zI)) zG))) zG))))))
  U_7)
  obtain ⟨u_5,E_5,U_5⟩:=L2.wC (p:=λt=>yb (zJ zd P w K mg base ["_law_script","_law_cell","_law_many","_law_wide","_law_some","_law_xs","_law_bounds","_law_k","_law_low","_law_point","_law_thing","_law_run","_law_due","_law_bad","_law_number_here","_law_step_here","_law_mode","_law_good","_law_handed"] "law" (zY yg) f cdv A outer s H E).nox ((yS yg).drop 5) t) (zP (zj (i:=6) xT.nd rfl (Or.inl rfl) (yq zG))
  U_6)
  obtain ⟨u_4,E_4,U_4⟩:=L2.wC (p:=λt=>yb (zJ zd P w K mg base ["_law_script","_law_cell","_law_many","_law_wide","_law_some","_law_xs","_law_bounds","_law_k","_law_low","_law_point","_law_thing","_law_run","_law_due","_law_bad","_law_number_here","_law_step_here","_law_mode","_law_good","_law_handed"] "law" (zY yg) f cdv A outer s H E).nox ((yS yg).drop 4) t) (zP (zj (i:=5) xT.nd rfl (Or.inr rfl) (zi aq hr rfl (zC (zi aD hr rfl (zC (zB 0) (zC zI zG))) (zC zI zG))))
  U_5)
  refine ⟨_,(zP (gM (i:=4) xT.nd rfl rfl (own:=["_law_k"]) (caps:=[(0,"_law_script"),(2,"_law_many"),(3,"_law_wide")]) (wI (S:=zY yg) (N:=["_law_script","_law_cell","_law_many","_law_wide","_law_some","_law_xs","_law_bounds","_law_k","_law_low","_law_point","_law_thing","_law_run","_law_due","_law_bad","_law_number_here","_law_step_here","_law_mode","_law_good","_law_handed"]) rfl (by decide +kernel) rfl ⟨_,rfl⟩ rfl (by decide +kernel) (by decide +kernel)) rfl (wu rfl B.range_ (zC (zN (zp yV) zI (zN (ji yj) (zN (ji wd) (zB 1) zI) zI)) zG)) (λ_ _ _ _=>zr (i:=0) (show (["_law_k","_law_script","_law_many","_law_wide"]:List Str).Nodup by decide +kernel) rfl (Or.inl rfl)) (λ_ _ _ _=>(zi bn hr rfl (zC (zN (zp yV) (zi aD hr rfl (zC (zB 1) (zC (zN (zp yV) zI (zB 0)) zG))) (zN (ji yf) zI (zB 0))) (zC (zB 2) (zC (zB 3) zG))))) rfl)
  U_4),?_⟩
  try dsimp only [zJ,Cx.nox,Cx.wish]
  intro n ww cc n1 n3 w3
  have b12:Bd 4 (12:Int):=Bd.lit
  have b36:Bd 6 (36:Int):=Bd.lit
  have k0:=Int.fmod_nonneg_of_pos (cc.fdiv 12) (show (0:Int) < 3 by decide)
  have k3:=Int.fmod_lt_of_pos (cc.fdiv 12) (show (0:Int) < 3 by decide)
  have bdi:∀ i:Nat,i < 100->Bd 10 ((0:Int) + (i:Int)):=λi h=>by
   show ((0:Int) + (i:Int)).natAbs < 2 ^ 10
   omega
  refine ⟨_,rfl,_,_,rfl,rfl,⟨by decide,b12.mono⟩,_,_,rfl,rfl,(show (3:Int)≠0 by decide),_,_,rfl,rfl,_,rfl,(by omega),(by omega),j4 (lo:=0) (n:=(1 + (cc.fdiv 12).fmod 3).toNat)
   (λi ys σ H'=>∃ ms:List MD,Paired (vV H') ys ms/\ms.length=i/\(∀ m∈ms,yo m n ww/\ML m)/\(∃ o,σ=[o,some (.ref sa),some (.int (n:Int)),some (.int (ww:Int))])/\zD H H')
   ⟨[],.nil,rfl,(λ_ h=>nomatch h),⟨none,rfl⟩,zD.refl _⟩ (λi ys σ H' ⟨ms,h,hl,_⟩=>by have:=Paired.length h; omega) (Nat.le_of_lt (yB (by omega))) ?_ ?_⟩
  ·rintro i ys σ H' hi ⟨ms,hms,lms,oms,⟨o,rfl⟩,sm⟩
   have bi:=bdi i (by omega)
   have b79:Bd 13 (7919:Int):=Bd.lit
   refine ⟨_,rfl,_,rfl,_,_,rfl,rfl,sa,ns,1 + (0 + (i:Int)),rfl,sm.seq hS,(by omega),_,rfl,_,_,rfl,rfl,⟨b79.mono,bi.mono⟩,_,_,rfl,rfl,_,rfl,_,rfl,_,(n:Int),(ww:Int),rfl,(by omega),(by omega),(by omega),(by omega),λv md H2 s2 hv mo mb=>?_⟩
   rw [Int.toNat_natCast,Int.toNat_natCast] at mo
   refine ⟨ms++[md],xR (R:=vV _) hv (wZ s2 hms),(by rw [List.length_append,lms]; rfl),λx hx=>?_,⟨_,rfl⟩,sm.trans s2⟩
   rcases List.mem_append.mp hx with hx | hx
   ·exact oms x hx
   ·rw [List.mem_singleton.mp hx]; exact ⟨mo,mb⟩
  rintro sv σ J1 ⟨ms,hms,lms,oms,⟨o1,rfl⟩,y1⟩ sl hsl
  have ms1:1<=ms.length:=by omega
  have ms3:ms.length<=3:=by omega
  clear k0 k3 lms
  have SG1:=y1
  replace hS:=(y1.seq hS)
  have yG2:=zU hsl (HO.lst sv)
  have esl:=zO (H:=J1) (a:=sl) (o:=HO.lst sv)
  generalize hhG2:upd J1 sl (HO.lst sv)=G2 at yG2 esl |-
  have SG2:=SG1.trans yG2
  replace hS:=(yG2.seq hS)
  replace hms:=(wZ yG2 hms)
  have lsv:sv.length=ms.length:=Paired.length hms
  show u_4 _ [some (.ref sa),some (.int cc),some (.int (n:Int)),some (.int (ww:Int)),some (.ref sl),none,none,none,none,none,none,none,none,none,none,none,none,none,none] _
  rw [E_4]
  try dsimp only [zJ,Cx.nox,Cx.wish]
  refine ⟨_,rfl,sa,ns,4,rfl,hS,(by decide),_,12,rfl,(by decide),(by decide),λxa J2 xs y2 _ ex lx bx=>?_⟩
  have lx12:xs.length=12:=lx
  have SG3:=SG2.trans y2
  replace hS:=(y2.seq hS)
  replace hms:=(wZ y2 hms)
  replace esl:=(y2 _ _ esl)
  show u_5 _ [some (.ref sa),some (.int cc),some (.int (n:Int)),some (.int (ww:Int)),some (.ref sl),some (.ref xa),none,none,none,none,none,none,none,none,none,none,none,none,none] _
  rw [E_5]
  try dsimp only [zJ,Cx.nox,Cx.wish]
  refine ⟨(by show 0<=sizeLine; decide),λbl hbl=>?_⟩
  have y4:=zU hbl (HO.lst [])
  have ebl:=zO (H:=J2) (a:=bl) (o:=HO.lst [])
  generalize hhJ4:upd J2 bl (HO.lst [])=J4 at y4 ebl |-
  have s4:=ur (B:=[bl]) (λx hx=>by rw [List.mem_singleton.mp hx]; exact hbl) y4
  show u_6 _ [some (.ref sa),some (.int cc),some (.int (n:Int)),some (.int (ww:Int)),some (.ref sl),some (.ref xa),some (.ref bl),none,none,none,none,none,none,none,none,none,none,none,none] _
  rw [E_6]
  try dsimp only [zJ,Cx.nox,Cx.wish]
  refine ⟨_,rfl,_,rfl,(by omega),(by omega),uX (lo:=0) (n:=((ww:Nat):Int).toNat)
   (λi σ H'=>∃ (bv:List V) (bs:List (Int × Int)) (o7 o8:Option V),σ=[some (.ref sa),some (.int cc),some (.int (n:Int)),some (.int (ww:Int)),some (.ref sl),some (.ref xa),some (.ref bl),o7,o8,none,none,none,none,none,none,none,none,none,none]/\zD J2 (hide [bl] H')/\H' bl=some (.lst bv)/\Paired (wX (hide [bl] H')) bv bs/\bs.length=i/\∀ b∈bs,b.1<=b.2/\b.1.natAbs<=5 * 10 ^ 19 + 8/\b.2.natAbs<=5 * 10 ^ 19 + 8)
   ⟨[],[],none,none,rfl,s4,ebl,.nil,rfl,λb hb=>by cases hb⟩ ?_ ?_⟩
  ·rintro i σ H' hi ⟨bv,bs,o7,o8,rfl,sm,eb,hbv,lbs,obs⟩
   have sj:=sm.trans yD
   have exj:=sj _ _ ex
   have ak:yA (xs.map V.int) (0 + (i:Int))=some (.int (xs[i]'(by omega))):=by rw [Int.zero_add]; exact wJ _
   have ak3:yA (xs.map V.int) (3 + (0 + (i:Int)))=some (.int (xs[3 + i]'(by omega))):=by
    rw [show (3:Int) + (0 + (i:Int))=((3 + i:Nat):Int) by omega]
    exact wJ _
   refine ⟨_,rfl,_,rfl,xa,_,_,_,rfl,rfl,zE.of exj,ak,_,rfl,(vx (bx _ (List.getElem_mem _))).mono,λy hy=>?_⟩
   have p0:=Int.fmod_nonneg_of_pos (xs[3 + i]'(by omega)) (show (0:Int) < 9 by decide)
   have p1:=Int.fmod_lt_of_pos (xs[3 + i]'(by omega)) (show (0:Int) < 9 by decide)
   refine ⟨_,rfl,.inl ⟨rfl,_,zE.of eb⟩,_,rfl,_,rfl,_,rfl,_,rfl,_,_,rfl,rfl,xa,_,_,_,rfl,rfl,zE.of exj,ak3,_,_,rfl,rfl,(show (9:Int)≠0 by decide),_,_,rfl,rfl,(by show 2<=sizeLine; decide),λt1 ht1=>?_⟩
   generalize (xs[3 + i]'(by omega)).fmod 9=f9 at p0 p1 ht1 |-
   have z1:=zU ht1 (HO.tup [V.int y,V.int (y + f9)])
   refine ⟨bl,bv,.ref t1,rfl,rfl,z1 _ _ eb,yB (by have:=Paired.length hbv; omega),?_⟩
   have h4:=(xr (B:=[bl]) z1).trans (wL (x:=bl) (HO.lst (bv++[V.ref t1])))
   have nt:t1∉[bl]:=λy=>by rw [List.mem_singleton.mp y,eb] at ht1; cases ht1
   refine ⟨bv++[V.ref t1],bs++[(y,y + f9)],_,_,rfl,sm.trans h4,zO,xR (R:=wX _) (y:=(y,y + f9)) ⟨t1,rfl,wL (x:=bl) _ _ _ ((xZ nt).trans zO)⟩ (wY h4 hbv),(by rw [List.length_append,lbs]; rfl),λb hb=>?_⟩
   rcases List.mem_append.mp hb with hb | hb
   ·exact obs b hb
   ·rw [List.mem_singleton.mp hb]
    show y<=y + f9/\y.natAbs<=5 * 10 ^ 19 + 8/\(y + f9).natAbs<=5 * 10 ^ 19 + 8
    omega
  rintro σ J5 ⟨bv,bs,o7,o8,rfl,sm5,ebl,hbv,lbs,obs⟩
  rw [Int.toNat_natCast] at lbs
  have y5:=sm5.trans yD
  have hbv:=wY yD hbv
  have BO:ja bs:=⟨by omega,obs⟩
  have SG4:=SG3.trans y5
  replace hS:=(y5.seq hS)
  replace hms:=(wZ y5 hms)
  replace esl:=(y5 _ _ esl)
  replace ex:=(y5 _ _ ex)
  show u_7 _ [some (.ref sa),some (.int cc),some (.int (n:Int)),some (.int (ww:Int)),some (.ref sl),some (.ref xa),some (.ref bl),o7,o8,none,none,none,none,none,none,none,none,none,none] _
  rw [E_7]
  try dsimp only [zJ,Cx.nox,Cx.wish]
  have a11:yA (xs.map V.int) (11:Int)=some (.int (xs[11]'(by omega))):=wJ (j:=11) _
  obtain ⟨dd,ed,d1,d9⟩:∃ dd:Int,yA [V.int 1,V.int 9] ((xs[11]'(by omega)).fmod 2)=some (.int dd)/\1<=dd/\dd<=9:=by
   obtain ⟨k,ek,hk⟩:=qk (x:=V.int 1) (y:=V.int 9) (Int.fmod_nonneg_of_pos (xs[11]'(by omega)) (show (0:Int) < 2 by decide)) (Int.fmod_lt_of_pos (xs[11]'(by omega)) (show (0:Int) < 2 by decide))
   rcases hk with rfl | rfl
   ·exact ⟨1,ek,by decide,by decide⟩
   ·exact ⟨9,ek,by decide,by decide⟩
  refine ⟨_,rfl,_,rfl,(by omega),(by omega),j4 (lo:=0) (n:=((n:Nat):Int).toNat)
   (λi ys σ H'=>∃ pts:List (Int × Int),zX H' ys pts/\pts.length=i/\(∀ q∈pts,0 < q.2/\q.2.natAbs<=9/\q.1.natAbs<=2 ^ 67 * q.2.natAbs)/\(∃ o,σ=[o,some (.ref xa)])/\zD J5 H')
   ⟨[],.nil,rfl,(λ_ h=>nomatch h),⟨none,rfl⟩,zD.refl _⟩ (λi ys σ H' ⟨bs,h,hl,_⟩=>by have:=Paired.length h; omega) (Nat.le_of_lt (yB (by omega))) ?_ ?_⟩
  ·rintro i ys σ H' hi ⟨pts,hys,lpt,opt,⟨o,rfl⟩,sm⟩
   have ak:yA (xs.map V.int) (6 + (0 + (i:Int)))=some (.int (xs[6 + i]'(by omega))):=by
    rw [show (6:Int) + (0 + (i:Int))=((6 + i:Nat):Int) by omega]
    exact wJ _
   have ak3:yA (xs.map V.int) (9 + (0 + (i:Int)))=some (.int (xs[9 + i]'(by omega))):=by
    rw [show (9:Int) + (0 + (i:Int))=((9 + i:Nat):Int) by omega]
    exact wJ _
   have exj:=sm _ _ ex
   refine ⟨_,rfl,_,rfl,_,_,rfl,rfl,xa,_,_,_,rfl,rfl,zE.of exj,ak,_,rfl,(vx (bx _ (List.getElem_mem _))).mono,λy hy=>?_⟩
   refine ⟨_,rfl,_,rfl,_,_,rfl,rfl,xa,_,_,_,rfl,rfl,zE.of exj,ak3,(by show 2<=sizeLine; decide),λl2 hl2=>?_⟩
   have z2:=zU hl2 (HO.lst [V.int 1,V.int 9])
   have p0:=Int.fmod_nonneg_of_pos (xs[9 + i]'(by omega)) (show (0:Int) < dd by omega)
   have p1:=Int.fmod_lt_of_pos (xs[9 + i]'(by omega)) (show (0:Int) < dd by omega)
   refine ⟨_,rfl,xa,_,_,_,rfl,rfl,zE.of (z2 _ _ exj),a11,_,_,rfl,rfl,(show (2:Int)≠0 by decide),l2,_,_,_,rfl,rfl,zE.of zO,ed,_,_,rfl,rfl,(show dd≠0 by omega),_,_,rfl,rfl,y,1 + (xs[9 + i]'(by omega)).fmod dd,rfl,(by omega),?_,λr H2 s2 er=>?_⟩
   ·exact (show Bd 5 (1 + (xs[9 + i]'(by omega)).fmod dd) from (by show (1 + (xs[9 + i]'(by omega)).fmod dd).natAbs < 2 ^ 5; omega)).mono
   generalize (xs[9 + i]'(by omega)).fmod dd=f9 at er p0 p1
   refine ⟨pts++[(zZ y (1 + f9),zR y (1 + f9))],xR (R:=wA _) (y:=(zZ y (1 + f9),zR y (1 + f9))) ⟨r,rfl,er⟩ (zX.same (z2.trans s2) hys),(by rw [List.length_append,lpt]; rfl),λq hq=>?_,⟨_,rfl⟩,sm.trans (z2.trans s2)⟩
   rcases List.mem_append.mp hq with hq | hq
   ·exact opt q hq
   ·rw [List.mem_singleton.mp hq]
    obtain ⟨w1,w2,w3⟩:=Zz (t:=y) (b:=1 + f9) (V:=2 ^ 67) (by omega) (by omega)
    exact ⟨w1,Nat.le_trans w2 (by omega),w3⟩
  rintro qv σ J6 ⟨p,hqv,lpt,opt,⟨o1,rfl⟩,y6⟩ qa hqa
  rw [Int.toNat_natCast] at lpt
  have SZ:wz 0 p:=⟨by omega,opt⟩
  have SG5:=SG4.trans y6
  replace hS:=(y6.seq hS)
  replace hms:=(wZ y6 hms)
  replace esl:=(y6 _ _ esl)
  replace ex:=(y6 _ _ ex)
  replace ebl:=(y6 _ _ ebl)
  replace hbv:=(wY y6 hbv)
  have yG6:=zU hqa (HO.lst qv)
  have eqa:=zO (H:=J6) (a:=qa) (o:=HO.lst qv)
  generalize hhG6:upd J6 qa (HO.lst qv)=G6 at yG6 eqa |-
  have SG6:=SG5.trans yG6
  replace hS:=(yG6.seq hS)
  replace hms:=(wZ yG6 hms)
  replace esl:=(yG6 _ _ esl)
  replace ex:=(yG6 _ _ ex)
  replace ebl:=(yG6 _ _ ebl)
  replace hbv:=(wY yG6 hbv)
  replace hqv:=(zX.same yG6 hqv)
  show u_8 _ [some (.ref sa),some (.int cc),some (.int (n:Int)),some (.int (ww:Int)),some (.ref sl),some (.ref xa),some (.ref bl),o7,o8,some (.ref qa),none,none,none,none,none,none,none,none,none] _
  rw [E_8]
  try dsimp only [zJ,Cx.nox,Cx.wish]
  refine ⟨_,rfl,_,rfl,bl,_,rfl,.inl (zE.of ebl),λlp hlp=>?_⟩
  have yG7:=zU hlp (HO.lst bv)
  have elp:=zO (H:=G6) (a:=lp) (o:=HO.lst bv)
  generalize hhG7:upd G6 lp (HO.lst bv)=G7 at yG7 elp |-
  have SG7:=SG6.trans yG7
  replace hS:=(yG7.seq hS)
  replace hms:=(wZ yG7 hms)
  replace esl:=(yG7 _ _ esl)
  replace ebl:=(yG7 _ _ ebl)
  replace hbv:=(wY yG7 hbv)
  replace hqv:=(zX.same yG7 hqv)
  replace eqa:=(yG7 _ _ eqa)
  refine ⟨_,rfl,sl,rfl,⟨_,zE.of esl⟩,wU (K:=K) (a:=sl) (xs:=sv) (λi ys σ H'=>Paired (xp ac H') ys (ms.take i)/\(∃ o,σ=[o])/\zD G7 H')
   ⟨.nil,⟨none,rfl⟩,zD.refl _⟩ (λi ys σ H' hi ⟨e1,_,sm⟩=>⟨zE.of (sm _ _ esl),by have:=Paired.length e1; rw [List.length_take] at this; omega⟩) (Nat.le_of_lt (yB (by omega))) ?_ ?_⟩
  ·rintro i x ys σ H' hix ⟨hys,⟨o,rfl⟩,sm⟩
   obtain ⟨md,hmd,pl,r,n0,s0,p0,a0,rv,nv,pv0,rfl,hl,PD⟩:=ym hms hix
   obtain ⟨mo,mb⟩:=oms md (List.mem_of_getElem? hmd)
   refine ⟨_,rfl,pl,_,0,_,rfl,rfl,zE.of (sm _ _ hl),rfl,_,rfl,pl,_,1,_,rfl,rfl,zE.of (sm _ _ hl),rfl,_,rfl,pl,_,2,_,rfl,rfl,zE.of (sm _ _ hl),rfl,_,rfl,pl,_,3,_,rfl,rfl,zE.of (sm _ _ hl),rfl,_,rfl,pl,_,4,_,rfl,rfl,zE.of (sm _ _ hl),rfl,_,rfl,pl,_,5,_,rfl,rfl,zE.of (sm _ _ hl),rfl,?_⟩
   intro mo2 dx hmo hdx ne
   have zm:=WQ hmo hdx ne (HO.own mo2) (HO.ins ac dx [])
   have eo:=zO (H:=upd H' dx (HO.own mo2)) (a:=mo2) (o:=HO.ins ac dx [])
   generalize hhN:upd (upd H' dx (HO.own mo2)) mo2 (HO.ins ac dx [])=N at zm eo |-
   have sz:=sm.trans zm
   refine ⟨mo2,dx,r,n0,s0,p0,a0,rv,nv,pv0,md,n,ww,rfl,eo,mo,sz _ _ PD.hr,yY.same sz PD.hrv,sz _ _ PD.hn,zf.same sz PD.hnv,sz _ _ PD.hs,sz _ _ PD.hp,zf.same sz PD.hpv,sz _ _ PD.ha,λM2 N2 sb ok f1 f2 f3 f4 f5 m1 m2=>⟨rfl,?_⟩⟩
   have s2:=WP zm sb hmo
   refine ⟨?_,⟨_,rfl⟩,sm.trans s2⟩
   rw [x9 hmd]
   exact xR (R:=xp ac _) ⟨mo2,_,rfl,ok⟩ (jX s2 hys)
  rintro mv σ J7 ⟨hmv,⟨o1,rfl⟩,y7⟩ ml hml
  rw [List.take_of_length_le (by omega)] at hmv
  have SG8:=SG7.trans y7
  replace hS:=(y7.seq hS)
  replace hms:=(wZ y7 hms)
  replace esl:=(y7 _ _ esl)
  replace ebl:=(y7 _ _ ebl)
  replace hbv:=(wY y7 hbv)
  replace hqv:=(zX.same y7 hqv)
  replace eqa:=(y7 _ _ eqa)
  replace elp:=(y7 _ _ elp)
  have yG9:=zU hml (HO.lst mv)
  have eml:=zO (H:=J7) (a:=ml) (o:=HO.lst mv)
  generalize hhG9:upd J7 ml (HO.lst mv)=G9 at yG9 eml |-
  have SG9:=SG8.trans yG9
  replace hS:=(yG9.seq hS)
  replace hms:=(wZ yG9 hms)
  replace esl:=(yG9 _ _ esl)
  replace ebl:=(yG9 _ _ ebl)
  replace hbv:=(wY yG9 hbv)
  replace hqv:=(zX.same yG9 hqv)
  replace eqa:=(yG9 _ _ eqa)
  replace elp:=(yG9 _ _ elp)
  replace hmv:=(jX yG9 hmv)
  have THO:uo n bs ms:=⟨n1,n3,λb hb=>(obs b hb).1,by omega,ms1,by omega,λm hm=>by rw [lbs]; exact (oms m hm).1⟩
  have LOK:LO n bs ms:=⟨by rw [lbs]; exact oms,BO,n3,ms3⟩
  refine λto dt hto hdt ne2=>?_
  have zt:=WQ hto hdt ne2 (HO.own to) (HO.ins ae dt [])
  have et9:=zO (H:=upd G9 dt (HO.own to)) (a:=to) (o:=HO.ins ae dt [])
  generalize hhJ9:upd (upd G9 dt (HO.own to)) to (HO.ins ae dt [])=J9 at zt et9 |-
  refine ⟨to,dt,lp,ml,bv,mv,n,bs,ms,rfl,et9,zt _ _ elp,wY zt hbv,zt _ _ eml,jX zt hmv,THO,λkp km J10 sb fk fm fne eo5 ek em=>⟨rfl,?_⟩⟩
  have yT:=WP zt sb hto
  have SG10:=SG9.trans yT
  replace hS:=(yT.seq hS)
  replace hms:=(wZ yT hms)
  replace esl:=(yT _ _ esl)
  replace ebl:=(yT _ _ ebl)
  replace hbv:=(wY yT hbv)
  replace hqv:=(zX.same yT hqv)
  replace eqa:=(yT _ _ eqa)
  replace hmv:=(jX yT hmv)
  have TH:xq ae ac J10 to n bs ms bv mv kp km:=⟨⟨dt,eo5⟩,ek,hbv,em,hmv⟩
  clear hmv eo5 ek em et9
  show u_9 _ [some (.ref sa),some (.int cc),some (.int (n:Int)),some (.int (ww:Int)),some (.ref sl),some (.ref xa),some (.ref bl),o7,o8,some (.ref qa),some (.ref to),none,none,none,none,none,none,none,none] _
  rw [E_9]
  try dsimp only [zJ,Cx.nox,Cx.wish]
  refine ⟨(by show 0<=sizeLine; decide),λrl hrl=>?_⟩
  have y11:=zU hrl (HO.lst [])
  have erl:=zO (H:=J10) (a:=rl) (o:=HO.lst [])
  generalize hhJ11:upd J10 rl (HO.lst [])=J11 at y11 erl |-
  show u_10 _ [some (.ref sa),some (.int cc),some (.int (n:Int)),some (.int (ww:Int)),some (.ref sl),some (.ref xa),some (.ref bl),o7,o8,some (.ref qa),some (.ref to),some (.ref rl),none,none,none,none,none,none,none] _
  rw [E_10]
  try dsimp only [zJ,Cx.nox,Cx.wish]
  refine ⟨_,rfl,(by show 1<=sizeLine; decide),λdu hdu=>?_⟩
  have nrd:rl≠du:=λy=>by rw [<- y,erl] at hdu; cases hdu
  have fdu:J10 du=none:=y11.free hdu
  have y12:=zU hdu (HO.lst [V.ref qa])
  have edu:=zO (H:=J11) (a:=du) (o:=HO.lst [V.ref qa])
  have erl:=y12 _ _ erl
  generalize hhJ12:upd J11 du (HO.lst [V.ref qa])=J12 at y12 edu erl |-
  have s12:zD J10 (hide [rl,du] J12):=ur (B:=[rl,du]) (λx hx=>by
   rcases List.mem_cons.mp hx with rfl | hx
   ·exact hrl
   ·rw [List.mem_singleton.mp hx]; exact fdu) (y11.trans y12)
  show u_11 _ [some (.ref sa),some (.int cc),some (.int (n:Int)),some (.int (ww:Int)),some (.ref sl),some (.ref xa),some (.ref bl),o7,o8,some (.ref qa),some (.ref to),some (.ref rl),some (.ref du),none,none,none,none,none,none] _
  rw [E_11]
  try dsimp only [zJ,Cx.nox,Cx.wish]
  show u_12 _ [some (.ref sa),some (.int cc),some (.int (n:Int)),some (.int (ww:Int)),some (.ref sl),some (.ref xa),some (.ref bl),o7,o8,some (.ref qa),some (.ref to),some (.ref rl),some (.ref du),some .non,none,none,none,none,none] _
  rw [E_12]
  try dsimp only [zJ,Cx.nox,Cx.wish]
  have g0:=Int.fmod_nonneg_of_pos (cc.fdiv 36) (show (0:Int) < 6 by decide)
  have g6:=Int.fmod_lt_of_pos (cc.fdiv 36) (show (0:Int) < 6 by decide)
  refine ⟨_,rfl,_,rfl,_,rfl,_,_,rfl,rfl,⟨by decide,b36.mono⟩,_,_,rfl,rfl,(show (6:Int)≠0 by decide),_,_,rfl,rfl,_,rfl,sa,_,rfl,(y11.trans y12).seq hS,λcp hcp=>?_⟩
  obtain ⟨cs,ecs,lcs⟩:=QQ ns 6 (6 + (cc.fdiv 36).fmod 6).toNat
  have ecs':zk (ns.map V.int) (some 6) (some (6 + (cc.fdiv 36).fmod 6))=cs.map V.int:=by
   rw [show (((6 + (cc.fdiv 36).fmod 6).toNat:Nat):Int)=6 + (cc.fdiv 36).fmod 6 by omega] at ecs
   exact ecs
  rw [ecs']
  have lc5:cs.length<=5:=by omega
  clear ecs ecs' lcs g0 g6
  have fcp:J10 cp=none:=(y11.trans y12).free hcp
  have y13:=zU hcp (HO.lst (cs.map V.int))
  have ecp:=zO (H:=J12) (a:=cp) (o:=HO.lst (cs.map V.int))
  have ncr:cp∉[rl,du]:=λy=>by
   rcases List.mem_cons.mp y with y | y
   ·rw [y,erl] at hcp; cases hcp
   ·rw [List.mem_singleton.mp y,edu] at hcp; cases hcp
  have erl:=y13 _ _ erl
  have edu:=y13 _ _ edu
  generalize hhJ13:upd J12 cp (HO.lst (cs.map V.int))=J13 at y13 ecp erl edu |-
  have s13:zD J10 (hide [rl,du] J13):=s12.trans (xr y13)
  have ecp':hide [rl,du] J13 cp=some (.lst (cs.map V.int)):=(xZ ncr).trans ecp
  generalize hhB:hide [rl,du] J13=BB at s13 ecp'
  have LW0:Lw n ms bs p [] 0:=Lw.nil SZ lpt
  refine ⟨cp,rfl,⟨_,zE.of ecp⟩,kh (K:=K) (a:=cp) (xs:=cs.map V.int)
   (λi σ H'=>∃ (rv dv:List V) (run:List yJ) (g:Nat) (bdv:V) (o14 o15 o16 o17:Option V),σ=[some (.ref sa),some (.int cc),some (.int (n:Int)),some (.int (ww:Int)),some (.ref sl),some (.ref xa),some (.ref bl),o7,o8,some (.ref qa),some (.ref to),some (.ref rl),some (.ref du),some bdv,o14,o15,o16,o17,none]/\zD BB (hide [rl,du] H')/\H' rl=some (.lst rv)/\H' du=some (.lst dv)/\Paired (xv (hide [rl,du] H')) rv run/\Paired (vU (hide [rl,du] H')) dv (yK ms p run (g + 1))/\Lw n ms bs p run g/\run.length=i/\(bdv=.non/\g=run.length\/bdv=.int (g:Int)/\g < run.length))
   ⟨[],[V.ref qa],[],0,.non,none,none,none,none,rfl,(by rw [hhB]; exact zD.refl _),erl,edu,.nil,.cons ⟨qa,qv,rfl,(by rw [hhB]; exact s13 _ _ eqa),(by rw [hhB]; exact zX.same s13 hqv)⟩ .nil,LW0,rfl,.inl ⟨rfl,rfl⟩⟩ (λi σ H' _ ⟨_,_,_,_,_,_,_,_,_,_,sm,_⟩=>zE.of (yD _ _ (sm _ _ ecp'))) ?_ ?_⟩
  ·rintro i x σ H' hix ⟨rv,dv,run,g,bdv,o14,o15,o16,o17,rfl,sm,er,ed,hrv,hdv,LW,lrun,hb⟩
   obtain ⟨zc,hzc,rfl⟩:=vT hix
   have i4:i < cs.length:=(List.getElem?_eq_some_iff.mp hzc).1
   have gl:=LW.le
   have lrv:rv.length=run.length:=Paired.length hrv
   have ldv:=Paired.length hdv
   rw [YT] at ldv
   have sB:=s13.trans sm
   have sj:=sB.trans yD
   rw [jY] at hdv
   obtain ⟨dv',v9,rfl,hv9⟩:=YL hdv
   rw [<- jY] at hdv
   obtain ⟨qb,qv9,rfl,eqb,hqb⟩:=hv9
   obtain ⟨sz1,sz2⟩:=LW.sz g (Nat.le_refl _)
   have PTG:=sz1.g (show g<=4 by omega)
   have BTP:=sz1.bd (show g<=4 by omega)
   generalize ept:yO ms p (run.take g)=pt at hqb sz1 sz2 PTG BTP
   refine ⟨_,rfl,_,rfl,_,rfl,_,rfl,_,rfl,du,_,_,_,rfl,rfl,zE.of ed,v8 _ _,zc,sl,bl,qb,sv,bv,qv9,n,ms,bs,pt,rfl,sj _ _ esl,wZ sj hms,ms1,ms3,LOK.md,sj _ _ ebl,wY sj hbv,BO,yD _ _ eqb,zX.same yD hqb,sz2,PTG,BTP,λv z K1 z1 hN US=>?_⟩
   have hZ:=hN.hid (B:=[rl,du]) (λb hb=>by
    rcases List.mem_cons.mp hb with rfl | hb
    ·exact ⟨⟨_,er⟩,_,z1 _ _ er⟩
    ·rw [List.mem_singleton.mp hb]; exact ⟨⟨_,ed⟩,_,z1 _ _ ed⟩)
   have er1:=z1 _ _ er
   have ed1:=z1 _ _ ed
   refine ⟨_,rfl,.inl ⟨rfl,_,zE.of er1⟩,_,rfl,rl,rv,v,rfl,rfl,er1,yB (by omega),?_⟩
   have h2:=(xr (B:=[rl,du]) z1).trans (qj (B:=[rl,du]) (x:=rl) (by simp) (HO.lst (rv++[v])))
   have s2:=sm.trans h2
   have er2:=zO (H:=K1) (a:=rl) (o:=HO.lst (rv++[v]))
   have ed2:upd K1 rl (HO.lst (rv++[v])) du=some (.lst (dv'++[V.ref qb])):=(zl (Ne.symm nrd)).trans ed1
   have hZ2:=hZ.same (qj (B:=[rl,du]) (x:=rl) (H:=K1) (by simp) (HO.lst (rv++[v])))
   have hrv2:=xR (R:=xv _) hZ2 (xC h2 hrv)
   have hdv2:=wt h2 hdv
   have eqb2:=h2 _ _ eqb
   have hqb2:=zX.same h2 hqb
   generalize hhK2:upd K1 rl (HO.lst (rv++[v]))=K2 at h2 s2 er2 ed2 hZ2 hrv2 hdv2 eqb2 hqb2 |-
   obtain ⟨t,sa2,ua,uv,rfl,eT,eS,eU,hU⟩:=hZ2
   have sq:=(s13.trans s2).trans yD
   refine ⟨_,rfl,t,_,0,_,rfl,rfl,zS.of (yD _ _ eT),rfl,?_⟩
   refine ⟨_,rfl,_,_,rfl,rfl,_,rfl,?_⟩
   refine yX (λc1=>?_) (λc1=>?_)
   case refine_2=>
    have cF:=Wq (ms:=ms) (bs:=bs) (p:=pt) (show z.k < 0 by
     by_cases y:0<=z.k
     ·exact absurd (decide_eq_true y) c1
     ·omega)
    refine ⟨_,rfl,zb ?_⟩
    refine ⟨_,rfl,_,rfl,zb ?_⟩
    have hX:=xr (B:=[rl,du]) (zD.refl K2)
    have sKX:=s2.trans hX
    have eKr:=(zD.refl K2) _ _ er2
    have eKd:=(zD.refl K2) _ _ ed2
    have hrvX:=xC hX hrv2
    have hdvX:=wt hX hdv2
    rcases hb with ⟨rfl,eg⟩ | ⟨rfl,lt⟩
    ·subst eg
     refine ⟨_,rfl,rfl,_,rfl,yz rfl ?_⟩
     refine ⟨_,rfl,_,rfl,zb ?_⟩
     refine ⟨_,rfl,rfl,_,rfl,yz rfl ?_⟩
     refine ⟨_,rfl,rl,_,rfl,.inl (zE.of eKr),_,_,rfl,rfl,?_⟩
     refine ⟨rv++[V.ref t],dv'++[V.ref qb],run++[z],run.length,_,_,_,_,_,rfl,sKX,eKr,eKd,hrvX,?_,LW.grow US (.inr (by rw [ept]; exact cF)),(by rw [List.length_append,lrun]; rfl),.inr ⟨?_,by rw [List.length_append]; exact Nat.lt_succ_self _⟩⟩
     ·rw [vY (Nat.le_refl _)]; exact hdvX
     ·have e9:((rv++[V.ref t]).length:Int) - 1=(run.length:Int):=by rw [List.length_append,lrv]; show ((run.length + 1:Nat):Int) - 1=_; omega
      rw [e9]
    ·refine ⟨_,rfl,rfl,_,rfl,yl (decide_eq_false λy=>(nomatch y)) ?_⟩
     refine ⟨_,rfl,rfl,_,rfl,yl (decide_eq_false λy=>(nomatch y)) ?_⟩
     refine ⟨rv++[V.ref t],dv'++[V.ref qb],run++[z],g,_,_,_,_,_,rfl,sKX,eKr,eKd,hrvX,?_,LW.grow US (.inl lt),(by rw [List.length_append,lrun]; rfl),.inr ⟨rfl,by rw [List.length_append]; omega⟩⟩
     rw [vY (by omega)]; exact hdvX
   have k0:0<=z.k:=of_decide_eq_true c1
   refine ⟨_,rfl,sl,_,rfl,.inl (zE.of (sq _ _ esl)),_,_,rfl,rfl,_,rfl,?_⟩
   refine yX (λc2=>?_) (λc2=>?_)
   case refine_2=>
    have cF:=Wr (ms:=ms) (bs:=bs) (p:=pt) (z:=z) (by
     by_cases y:z.k < (sv.length:Int)
     ·exact absurd (decide_eq_true y) c2
     ·omega)
    refine ⟨_,rfl,_,rfl,zb ?_⟩
    have hX:=xr (B:=[rl,du]) (zD.refl K2)
    have sKX:=s2.trans hX
    have eKr:=(zD.refl K2) _ _ er2
    have eKd:=(zD.refl K2) _ _ ed2
    have hrvX:=xC hX hrv2
    have hdvX:=wt hX hdv2
    rcases hb with ⟨rfl,eg⟩ | ⟨rfl,lt⟩
    ·subst eg
     refine ⟨_,rfl,rfl,_,rfl,yz rfl ?_⟩
     refine ⟨_,rfl,_,rfl,zb ?_⟩
     refine ⟨_,rfl,rfl,_,rfl,yz rfl ?_⟩
     refine ⟨_,rfl,rl,_,rfl,.inl (zE.of eKr),_,_,rfl,rfl,?_⟩
     refine ⟨rv++[V.ref t],dv'++[V.ref qb],run++[z],run.length,_,_,_,_,_,rfl,sKX,eKr,eKd,hrvX,?_,LW.grow US (.inr (by rw [ept]; exact cF)),(by rw [List.length_append,lrun]; rfl),.inr ⟨?_,by rw [List.length_append]; exact Nat.lt_succ_self _⟩⟩
     ·rw [vY (Nat.le_refl _)]; exact hdvX
     ·have e9:((rv++[V.ref t]).length:Int) - 1=(run.length:Int):=by rw [List.length_append,lrv]; show ((run.length + 1:Nat):Int) - 1=_; omega
      rw [e9]
    ·refine ⟨_,rfl,rfl,_,rfl,yl (decide_eq_false λy=>(nomatch y)) ?_⟩
     refine ⟨_,rfl,rfl,_,rfl,yl (decide_eq_false λy=>(nomatch y)) ?_⟩
     refine ⟨rv++[V.ref t],dv'++[V.ref qb],run++[z],g,_,_,_,_,_,rfl,sKX,eKr,eKd,hrvX,?_,LW.grow US (.inl lt),(by rw [List.length_append,lrun]; rfl),.inr ⟨rfl,by rw [List.length_append]; omega⟩⟩
     rw [vY (by omega)]; exact hdvX
   have k1:z.k < (sv.length:Int):=of_decide_eq_true c2
   refine ⟨_,rfl,t,_,2,_,rfl,rfl,zS.of (yD _ _ eT),rfl,_,rfl,ua,bl,uv,bv,z.us,bs,rfl,yD _ _ eU,zX.same yD hU,sq _ _ ebl,wY sq hbv,US.us.1,(λu hu=>⟨(US.us.bd u hu).2.1.mono,(US.us.bd u hu).2.2.mono⟩),(λb hb=>⟨(BO.bd b hb).1.mono,(BO.bd b hb).2.mono⟩),λK3 z3=>?_⟩
   refine ⟨_,rfl,_,rfl,?_⟩
   cases hf:xB z.us bs with
   | false=>
    refine zb ?_
    have cF:=zJd (ms:=ms) (p:=pt) hf
    have hX:=xr (B:=[rl,du]) z3
    have sKX:=s2.trans hX
    have eKr:=z3 _ _ er2
    have eKd:=z3 _ _ ed2
    have hrvX:=xC hX hrv2
    have hdvX:=wt hX hdv2
    rcases hb with ⟨rfl,eg⟩ | ⟨rfl,lt⟩
    ·subst eg
     refine ⟨_,rfl,rfl,_,rfl,yz rfl ?_⟩
     refine ⟨_,rfl,_,rfl,zb ?_⟩
     refine ⟨_,rfl,rfl,_,rfl,yz rfl ?_⟩
     refine ⟨_,rfl,rl,_,rfl,.inl (zE.of eKr),_,_,rfl,rfl,?_⟩
     refine ⟨rv++[V.ref t],dv'++[V.ref qb],run++[z],run.length,_,_,_,_,_,rfl,sKX,eKr,eKd,hrvX,?_,LW.grow US (.inr (by rw [ept]; exact cF)),(by rw [List.length_append,lrun]; rfl),.inr ⟨?_,by rw [List.length_append]; exact Nat.lt_succ_self _⟩⟩
     ·rw [vY (Nat.le_refl _)]; exact hdvX
     ·have e9:((rv++[V.ref t]).length:Int) - 1=(run.length:Int):=by rw [List.length_append,lrv]; show ((run.length + 1:Nat):Int) - 1=_; omega
      rw [e9]
    ·refine ⟨_,rfl,rfl,_,rfl,yl (decide_eq_false λy=>(nomatch y)) ?_⟩
     refine ⟨_,rfl,rfl,_,rfl,yl (decide_eq_false λy=>(nomatch y)) ?_⟩
     refine ⟨rv++[V.ref t],dv'++[V.ref qb],run++[z],g,_,_,_,_,_,rfl,sKX,eKr,eKd,hrvX,?_,LW.grow US (.inl lt),(by rw [List.length_append,lrun]; rfl),.inr ⟨rfl,by rw [List.length_append]; omega⟩⟩
     rw [vY (by omega)]; exact hdvX
   | true=>
   refine yR ?_
   have il:z.k.toNat < sv.length:=by omega
   have hx0:sv[z.k.toNat]? = some (sv[z.k.toNat]'il):=List.getElem?_eq_getElem _
   have s3:=sq.trans z3
   obtain ⟨m,hm,hPV⟩:=ym (wZ s3 hms) hx0
   have hPV0:=hPV
   obtain ⟨pl,r,n0,s0,p0,aa,rv0,nv,pw,ev,hpl,PB⟩:=hPV
   have am:yA sv z.k=some (.ref pl):=by rw [show z.k=((z.k.toNat:Nat):Int) by omega]; exact wS (hx0.trans (by rw [ev]))
   rw [ev] at hPV0
   obtain ⟨MO,mz⟩:=LOK.md m (List.mem_of_getElem? hm)
   have er0:ms.getD z.k.toNat YO=m:=by rw [List.getD_eq_getElem?_getD,hm]; rfl
   refine ⟨_,rfl,_,rfl,sl,_,_,_,rfl,rfl,zE.of (s3 _ _ esl),am,pl,_,_,_,rfl,rfl,zE.of hpl,rfl,_,rfl,_,rfl,du,_,_,_,rfl,rfl,zE.of (z3 _ _ ed2),v8 _ _,r,qb,rv0,m.rows,qv9,pt,rfl,PB.hr,PB.hrv,(λx hx=>⟨by rw [sz2]; exact MO.rows x hx,λy hy=>(mz.rows x hx y hy).bd (by decide)⟩),MO.few,zE.of (z3 _ _ (yD _ _ eqb2)),zX.same (yD.trans z3) hqb2,PTG,BTP,λK4 z4=>?_⟩
   have z34:=z3.trans z4
   cases hh:m.rows.all (wB pt) with
   | false=>
    have cF:=Ws (ms:=ms) (bs:=bs) (p:=pt) (z:=z) (by unfold uM; rw [er0]; exact hh)
    have hX:=xr (B:=[rl,du]) z34
    have sKX:=s2.trans hX
    have eKr:=z34 _ _ er2
    have eKd:=z34 _ _ ed2
    have hrvX:=xC hX hrv2
    have hdvX:=wt hX hdv2
    rcases hb with ⟨rfl,eg⟩ | ⟨rfl,lt⟩
    ·subst eg
     refine ⟨_,rfl,rfl,_,rfl,yz rfl ?_⟩
     refine ⟨_,rfl,_,rfl,zb ?_⟩
     refine ⟨_,rfl,rfl,_,rfl,yz rfl ?_⟩
     refine ⟨_,rfl,rl,_,rfl,.inl (zE.of eKr),_,_,rfl,rfl,?_⟩
     refine ⟨rv++[V.ref t],dv'++[V.ref qb],run++[z],run.length,_,_,_,_,_,rfl,sKX,eKr,eKd,hrvX,?_,LW.grow US (.inr (by rw [ept]; exact cF)),(by rw [List.length_append,lrun]; rfl),.inr ⟨?_,by rw [List.length_append]; exact Nat.lt_succ_self _⟩⟩
     ·rw [vY (Nat.le_refl _)]; exact hdvX
     ·have e9:((rv++[V.ref t]).length:Int) - 1=(run.length:Int):=by rw [List.length_append,lrv]; show ((run.length + 1:Nat):Int) - 1=_; omega
      rw [e9]
    ·refine ⟨_,rfl,rfl,_,rfl,yl (decide_eq_false λy=>(nomatch y)) ?_⟩
     refine ⟨_,rfl,rfl,_,rfl,yl (decide_eq_false λy=>(nomatch y)) ?_⟩
     refine ⟨rv++[V.ref t],dv'++[V.ref qb],run++[z],g,_,_,_,_,_,rfl,sKX,eKr,eKd,hrvX,?_,LW.grow US (.inl lt),(by rw [List.length_append,lrun]; rfl),.inr ⟨rfl,by rw [List.length_append]; omega⟩⟩
     rw [vY (by omega)]; exact hdvX
   | true=>
   have cT:=zJb (ms:=ms) (bs:=bs) (p:=pt) k0 (by omega) hf (by unfold uM; rw [er0]; exact hh)
   have hX:=xr (B:=[rl,du]) z34
   have sKX:=s2.trans hX
   have eKr:=z34 _ _ er2
   have eKd:=z34 _ _ ed2
   have hrvX:=xC hX hrv2
   have hdvX:=wt hX hdv2
   rcases hb with ⟨rfl,eg⟩ | ⟨rfl,lt⟩
   ·subst eg
    rw [List.take_length] at ept
    obtain ⟨_,_,lu⟩:=gz cT
    have b3:=BO.1
    have s4:=(s13.trans sKX).trans yD
    have vo:=W6 sz1 (by omega) US.us (by omega) US.s
    refine ⟨_,rfl,rfl,_,rfl,yz rfl ?_⟩
    refine ⟨_,rfl,_,rfl,yR ?_⟩
    have eT4:=z34 _ _ (yD _ _ eT)
    refine ⟨_,rfl,.inl ⟨rfl,_,zE.of eKd⟩,_,rfl,_,rfl,sl,_,_,_,rfl,rfl,zE.of (s4 _ _ esl),am,_,rfl,_,rfl,du,_,_,_,rfl,rfl,zE.of eKd,v8 _ _,_,rfl,t,_,1,_,rfl,rfl,zS.of eT4,rfl,_,rfl,t,_,2,_,rfl,rfl,zS.of eT4,rfl,.ref pl,m,n,bs.length,qb,sa2,ua,qv9,uv,pt,z.us,z.s,rfl,hPV0.same z4,MO,mz,z34 _ _ (yD _ _ eqb2),zX.same (yD.trans z34) hqb2,sz2,z34 _ _ (yD _ _ eS),z34 _ _ (yD _ _ eU),zX.same (yD.trans z34) hU,lu,vo,λl lv K5 z5 nl el hlv=>?_⟩
    have ed5:=z5 _ _ eKd
    have er5:=z5 _ _ eKr
    refine ⟨du,_,.ref l,rfl,rfl,ed5,yB (by omega),?_⟩
    have h6:=(xr (B:=[rl,du]) z5).trans (qj (B:=[rl,du]) (x:=du) (by simp) (HO.lst (dv'++[V.ref qb]++[V.ref l])))
    have nlB:l∉[rl,du]:=λy=>by
     rcases List.mem_cons.mp y with y | y
     ·rw [y,eKr] at nl; cases nl
     ·rw [List.mem_singleton.mp y,eKd] at nl; cases nl
    have hlv6:zX (hide [rl,du] K5) lv (xS m pt z.us z.s):=Paired.mapP hlv λ_ _ ⟨r,e,q⟩=>⟨r,e,(xZ λy=>by
     rcases List.mem_cons.mp y with y | y
     ·rw [y,er5] at q; cases q
     ·rw [List.mem_singleton.mp y,ed5] at q; cases q).trans q⟩
    refine ⟨rv++[V.ref t],dv'++[V.ref qb]++[V.ref l],run++[z],run.length + 1,.non,_,_,_,_,rfl,sKX.trans h6,(zl nrd).trans er5,zO,xC h6 hrvX,?_,Lw.next LOK LW US (by rw [ept]; exact cT),(by rw [List.length_append,lrun]; rfl),.inl ⟨rfl,by rw [List.length_append]; rfl⟩⟩
    rw [zH1]
    refine xR (R:=vU _) ⟨l,lv,rfl,qj (B:=[rl,du]) (x:=du) (by simp) _ _ _ ((xZ nlB).trans el),zX.same (qj (B:=[rl,du]) (x:=du) (by simp) _) ?_⟩ (wt h6 hdvX)
    unfold qX
    rw [ept,er0]
    exact hlv6
   ·refine ⟨_,rfl,rfl,_,rfl,yl (decide_eq_false λy=>(nomatch y)) ?_⟩
    refine ⟨_,rfl,rfl,_,rfl,yl (decide_eq_false λy=>(nomatch y)) ?_⟩
    refine ⟨rv++[V.ref t],dv'++[V.ref qb],run++[z],g,_,_,_,_,_,rfl,sKX,eKr,eKd,hrvX,?_,LW.grow US (.inl lt),(by rw [List.length_append,lrun]; rfl),.inr ⟨rfl,by rw [List.length_append]; omega⟩⟩
    rw [vY (by omega)]; exact hdvX
  rintro σ H' ⟨rv,dv,run,g,bdv,o14,o15,o16,o17,rfl,sm,er,ed,hrv,hdv,LW,lrun,hb⟩
  rw [List.length_map] at lrun
  have sj:=(s13.trans sm).trans yD
  have b3:=BO.1
  have WK:=LW.wk b3 (by omega)
  have hrv:=xC yD hrv
  have hdv:=wt yD hdv
  have TH9:=xq.same sj TH
  have eqa9:=sj _ _ eqa
  have hqv9:=hqv.same sj
  show u_13 _ [some (.ref sa),some (.int cc),some (.int (n:Int)),some (.int (ww:Int)),some (.ref sl),some (.ref xa),some (.ref bl),o7,o8,some (.ref qa),some (.ref to),some (.ref rl),some (.ref du),some bdv,o14,o15,o16,o17,none] _
  rw [E_13]
  try dsimp only [zJ,Cx.nox,Cx.wish]
  rcases hb with ⟨rfl,eg⟩ | ⟨rfl,lt⟩
  ·subst eg
   refine ⟨_,rfl,rfl,_,rfl,yz rfl ?_⟩
   exact ⟨_,rfl,_,rfl,_,rfl,_,rfl,to,kp,km,qa,rl,du,n,bs,ms,bv,mv,qv,rv,dv,p,run,rfl,TH9,LOK.tw,b3,eqa9,hqv9,lpt,er,hrv,(by omega),WK,ed,hdv,qq⟩
  refine ⟨_,rfl,rfl,_,rfl,yl (decide_eq_false λy=>(nomatch y)) ?_⟩
  obtain ⟨z,hz,cf⟩:=LW.bad lt
  show u_14 _ [some (.ref sa),some (.int cc),some (.int (n:Int)),some (.int (ww:Int)),some (.ref sl),some (.ref xa),some (.ref bl),o7,o8,some (.ref qa),some (.ref to),some (.ref rl),some (.ref du),some (.int (g:Int)),o14,o15,o16,o17,none] _
  rw [E_14]
  try dsimp only [zJ,Cx.nox,Cx.wish]
  refine ⟨_,rfl,qa,_,rfl,.inl (zE.of eqa9),λl1 hl1=>?_⟩
  have z1:=zU hl1 (HO.lst qv)
  have el1:=zO (H:=H') (a:=l1) (o:=HO.lst qv)
  generalize hhM1:upd H' l1 (HO.lst qv)=M1 at z1 el1 |-
  refine ⟨_,rfl,rl,rv,run,rfl,z1 _ _ er,xC z1 hrv,(by omega),λl2 lv2 M2 z2 _ el2 hrun2=>?_⟩
  refine ⟨(by show 2<=sizeLine; decide),λhl hhl=>?_⟩
  have z3:=zU hhl (HO.lst [V.ref l1,V.ref l2])
  have ehl:=zO (H:=M2) (a:=hl) (o:=HO.lst [V.ref l1,V.ref l2])
  generalize hhM3:upd M2 hl (HO.lst [V.ref l1,V.ref l2])=M3 at z3 ehl |-
  have z13:=z1.trans (z2.trans z3)
  have el1:=z3 _ _ (z2 _ _ el1)
  have el2:=z3 _ _ el2
  have hrun2:=xC z3 hrun2
  refine ⟨_,rfl,_,rfl,hl,_,_,_,rfl,rfl,zE.of ehl,rfl,_,rfl,hl,_,_,_,rfl,rfl,zE.of ehl,rfl,to,kp,km,l1,l2,n,bs,ms,bv,mv,qv,lv2,p,run,g,z,rfl,xq.same z13 TH9,LOK.tw,b3,el1,hqv9.same z13,lpt,el2,hrun2,(by omega),WK,hz,cf,λM4 z4=>?_⟩
  refine ⟨_,rfl,rfl,_,rfl,yz (vj rfl) ?_⟩
  refine ⟨_,rfl,_,rfl,_,rfl,(by show 2<=sizeLine; decide),λl12 hl12=>?_⟩
  have z5:=zU hl12 (HO.lst [V.ref qa,V.ref rl])
  have z45:=z4.trans z5
  have zA:=z13.trans z45
  exact ⟨jb p run,.lst (zE.of (z45 _ _ ehl)) (.cons (.lst (zE.of (z45 _ _ el1)) (vH (hqv9.same zA))) (.cons (.lst (zE.of (z45 _ _ el2)) (jC (xC z45 hrun2))) .nil)),.lst (zE.of zO) (.cons (.lst (zE.of (zA _ _ eqa9)) (vH (hqv9.same zA))) (.cons (.lst (zE.of (zA _ _ er)) (jC (xC zA hrv))) .nil)),Yx _ _,Yy _ _,qq _⟩
 refine ⟨_,(zP (zj (i:=1) xT.nd rfl (Or.inl rfl) (zi aD hr rfl (zC (zB 0) (zC zI zG))))
  (zP (zj (i:=2) xT.nd rfl (Or.inr rfl) (zN (zp yV) zI (zN (ji yj) (zB 1) zI)))
  (zP (zj (i:=3) xT.nd rfl (Or.inr rfl) (zN (ji yj) (zN (ji wd) (zB 1) zI) zI))
  T2))),?_⟩
 try dsimp only [zJ,Cx.nox,Cx.wish]
 have b3:Bd 4 (3:Int):=Bd.lit
 refine ⟨_,rfl,sa,ns,0,rfl,hS,(by decide),?_⟩
 refine ⟨_,rfl,_,_,rfl,rfl,(show (3:Int)≠0 by decide),_,_,rfl,rfl,?_⟩
 refine ⟨_,rfl,_,_,rfl,rfl,⟨(show (3:Int)≠0 by decide),b3.mono⟩,_,_,rfl,rfl,(show (4:Int)≠0 by decide),?_⟩
 have g0:=Int.fmod_nonneg_of_pos (x8 ns 0) (show (0:Int) < 3 by decide)
 have g1:=Int.fmod_lt_of_pos (x8 ns 0) (show (0:Int) < 3 by decide)
 have c0:=Int.fmod_nonneg_of_pos ((x8 ns 0).fdiv 3) (show (0:Int) < 4 by decide)
 have c1:=Int.fmod_lt_of_pos ((x8 ns 0).fdiv 3) (show (0:Int) < 4 by decide)
 have R3:=R2 (1 + (x8 ns 0).fmod 3).toNat (((x8 ns 0).fdiv 3).fmod 4).toNat (x8 ns 0) (by omega) (by omega) (by omega)
 rw [show ((((1 + (x8 ns 0).fmod 3).toNat:Nat)):Int)=1 + (x8 ns 0).fmod 3 by omega,show (((((x8 ns 0).fdiv 3).fmod 4).toNat:Nat):Int)=((x8 ns 0).fdiv 3).fmod 4 by omega] at R3
 exact R3
end
end K31
namespace L2
open PySem PySem.Spec PyProof.Rows
theorem qm {α:Type} {P:List α->Prop} (h:∀ x0:α,P [x0]):∀ us:List α,us.length=1->P us
 | [x0],_=>h x0
theorem jD {α:Type} {P:List α->Prop} (h:∀ x0 x1:α,P [x0,x1]):∀ us:List α,us.length=2->P us
 | [x0,x1],_=>h x0 x1
theorem qo {α:Type} {P:List α->Prop} (h:∀ x0 x1 x2:α,P [x0,x1,x2]):∀ us:List α,us.length=3->P us
 | [x0,x1,x2],_=>h x0 x1 x2
theorem qp {α:Type} {P:List α->Prop} (h:∀ x0 x1 x2 x3:α,P [x0,x1,x2,x3]):∀ us:List α,us.length=4->P us
 | [x0,x1,x2,x3],_=>h x0 x1 x2 x3
theorem qr {α:Type} {P:List α->Prop} (h:∀ x0 x1 x2 x3 x4:α,P [x0,x1,x2,x3,x4]):∀ us:List α,us.length=5->P us
 | [x0,x1,x2,x3,x4],_=>h x0 x1 x2 x3 x4
theorem qt {α:Type} {P:List α->Prop} (h:∀ x0 x1 x2 x3 x4 x5 x6:α,P [x0,x1,x2,x3,x4,x5,x6]):∀ us:List α,us.length=7->P us
 | [x0,x1,x2,x3,x4,x5,x6],_=>h x0 x1 x2 x3 x4 x5 x6
structure Gf (K:W.Frag) (x:Str) (st:Stmt) (f:Addr) (fd:FuncData):Prop where
 at_:W.nsIn K mainGlobals x=some (some (.ref f))
 F:zx K x x st f fd
noncomputable abbrev Ge (K:W.Frag) (x:Str) (st:Stmt):Prop:=∃ f fd,Gf K x st f fd
structure Gm (K:W.Frag) (C:Addr) (x q:Str) (st:Stmt) (f:Addr) (fd:FuncData):Prop where
 at_:W.findIn K (.ref C) x=some (some (.ref f))
 fn:W.isFn K (.ref f)=true
 F:zx K x q st f fd
noncomputable abbrev Gn (K:W.Frag) (C:Addr) (x q:Str) (st:Stmt):Prop:=∃ f fd,Gm K C x q st f fd
structure Gd (K:W.Frag) (x:Str) (st:Stmt) (f:Addr) (fd:FuncData) (d:Value):Prop where
 at_:W.nsIn K mainGlobals x=some (some (.ref f))
 F:yy K x x st f fd d
noncomputable abbrev Gi (K:W.Frag) (x:Str) (st:Stmt) (i:Int):Prop:=∃ f fd t,Gd K x st f fd (.int i t)
structure Gc (K:W.Frag) (x:Str) (C:Addr):Prop where
 nm:W.nsIn K mainGlobals x=some (some (.ref C))
 pg:W.plainGet K C Str.empty=true
 hd:W.hasDictIn K C=true
 po:W.plainOver K C=true
 sa:W.findIn K (.ref C) "__setattr__" = some (some (.builtin "object.__setattr__"))
 mk_:W.makesIn K C=true
 kc:W.keepIn K (.ref C)=true
 ha:W.findIn K (.ref C) "__class__" = some (some (.builtin "object.__class__"))
 hn:W.specialIn K (.builtin "object.__class__") "__get__" = some (some (.builtin "getset_descriptor.__get__"))
 tk:W.takesIn K (.builtin "object.__class__")=some true
 hm:W.mroIn K C (.type "object")=some true
section
variable {P:Program} {w:World} {K:W.Frag} {mg:Str->Option Value} {base h:Heap} {x q:Str} {st:Stmt} {f C T:Addr} {fd:FuncData} {ps:List Str} {k:Nat} {sp:Sp} {oc kV doc pm cdv ct oT:Value} {od an dT:Option Addr} {osl sT:Array (Option Value)}
theorem qu (a:W.nsIn K mainGlobals x=some (some (.ref f))) (l:K.lookup f=some ⟨oc,od,.func (W.fnOf x x (xz st) (yS st) (zY st) .none kV doc pm an cdv ct),osl⟩) (c:W.codeIn K cdv x=true) (k:W.keepIn K (.ref f)=true):Ge K x st:=⟨f,_,a,Xl l c k⟩
theorem qw (a:W.findIn K (.ref C) x=some (some (.ref f))) (i:W.isFn K (.ref f)=true) (l:K.lookup f=some ⟨oc,od,.func (W.fnOf x q (xz st) (yS st) (zY st) .none kV doc pm an cdv ct),osl⟩) (c:W.codeIn K cdv q=true) (k:W.keepIn K (.ref f)=true):Gn K C x q st:=⟨f,_,a,i,Xl l c k⟩
theorem qy {i:Int} {t:Tok} {n:Nat} (a:W.nsIn K mainGlobals x=some (some (.ref f))) (l:K.lookup f=some ⟨oc,od,.func (W.fnOf x x (xz st) (yS st) (zY st) (.ref T) kV doc pm an cdv ct),osl⟩) (c:W.codeIn K cdv x=true) (k:W.keepIn K (.ref f)=true) (d:K.lookup T=some ⟨oT,dT,.seq #[.int i t] n,sT⟩):Gi K x st i:=⟨f,_,t,a,Jo l c k d rfl⟩
theorem Gc.cls (g:Gc K x C) (X:K.In h) (G:h.Ns mainGlobals mg):zK K mg x C:=⟨⟨g.pg,g.hd,g.po,g.sa⟩,W.mg_of X G g.nm,g.ha,g.hn,g.tk,g.hm⟩
noncomputable abbrev Bn (x q:Str) (st:Stmt) (ps:List Str):Prop:=∀ (kV doc pm:Value) (an:Option Addr) (cdv ct:Value) (us:List Value),us.length=ps.length->bindArgs (W.fnOf x q (xz st) (yS st) (zY st) .none kV doc pm an cdv ct) ⟨us,[]⟩=pure (ps.zip us)
structure Wh (P:Program) (w:World) (K:W.Frag) (mg:Str->Option Value) (base h:Heap):Prop where
 X:K.In h
 G:h.Ns mainGlobals mg
theorem Gf.fn (g:Gf K x st f fd) (Y:Wh P w K mg base h) (o:zL P w K mg base zd k f fd ps sp) (b:Bn x x st ps:=by intro _ _ _ _ _ _; first | exact L2.qm λ_=>rfl | exact L2.jD λ_ _=>rfl | exact L2.qo λ_ _ _=>rfl | exact L2.qp λ_ _ _ _=>rfl | exact L2.qr λ_ _ _ _ _=>rfl | exact L2.qt λ_ _ _ _ _ _ _=>rfl):Fn P w K mg base x ps k sp:=⟨f,fd,o,W.mg_of Y.X Y.G g.at_,g.F.kp,g.F.binds b⟩
theorem Gf.fd_ (g:Gf K x st f fd) (Y:Wh P w K mg base h) (o:zL P w K mg base (xU P w) k f fd ps sp) (b:Bn x x st ps:=by intro _ _ _ _ _ _; first | exact L2.qm λ_=>rfl | exact L2.jD λ_ _=>rfl | exact L2.qo λ_ _ _=>rfl | exact L2.qp λ_ _ _ _=>rfl | exact L2.qr λ_ _ _ _ _=>rfl | exact L2.qt λ_ _ _ _ _ _ _=>rfl):xu P w K mg base x ps k sp:=⟨f,fd,o,W.mg_of Y.X Y.G g.at_,g.F.kp,g.F.binds b⟩
theorem Gm.fi {CS:Addr} (g:Gm K C "__init__" q st f fd) (_:Wh P w K mg base h) (Z:wo K mg C CS f) (o:zL P w K mg base zd k f fd ps sp) (b:Bn "__init__" q st ps:=by intro _ _ _ _ _ _; first | exact L2.qm λ_=>rfl | exact L2.jD λ_ _=>rfl | exact L2.qo λ_ _ _=>rfl | exact L2.qp λ_ _ _ _=>rfl | exact L2.qr λ_ _ _ _ _=>rfl | exact L2.qt λ_ _ _ _ _ _ _=>rfl):jU P w K mg base C CS ps k sp:=⟨f,fd,o,Z,g.F.binds b⟩
theorem Gm.fm (g:Gm K C x q st f fd) (_:Wh P w K mg base h) (o:zL P w K mg base zd k f fd ps sp) (b:Bn x q st ps:=by intro _ _ _ _ _ _; first | exact L2.qm λ_=>rfl | exact L2.jD λ_ _=>rfl | exact L2.qo λ_ _ _=>rfl | exact L2.qp λ_ _ _ _=>rfl | exact L2.qr λ_ _ _ _ _=>rfl | exact L2.qt λ_ _ _ _ _ _ _=>rfl):ui P w K mg base C x ps k sp:=⟨f,fd,o,⟨g.at_,g.fn,g.F.kp⟩,g.F.binds b⟩
theorem Gm.fc {y:Str} (g:Gm K C "__init__" q st f fd) (_:Wh P w K mg base h) (c:Gc K y C) (o:zL P w K mg base zd k f fd ps sp) (b:Bn "__init__" q st ps:=by intro _ _ _ _ _ _; first | exact L2.qm λ_=>rfl | exact L2.jD λ_ _=>rfl | exact L2.qo λ_ _ _=>rfl | exact L2.qp λ_ _ _ _=>rfl | exact L2.qr λ_ _ _ _ _=>rfl | exact L2.qt λ_ _ _ _ _ _ _=>rfl):uG P w K mg base C ps k sp:=⟨f,fd,o,⟨c.mk_,g.at_,g.fn,c.kc⟩,g.F.binds b⟩
theorem Gd.fn {i:Int} {t:Tok} (g:Gd K x st f fd (.int i t)) (Y:Wh P w K mg base h) (b:∀ (T:Addr) (kV doc pm:Value) (an:Option Addr) (cdv ct:Value) (us:List Value),us.length=ps.length->∃ k:Option (Array Value)->Sem (List (Str × Value)),bindArgs (W.fnOf x x (xz st) (yS st) (zY st) (.ref T) kV doc pm an cdv ct) ⟨us,[]⟩=seqItems? (.ref T) >>= k/\k (some #[.int i t])=pure (ps.zip us))
  (d:∀ (T:Addr) (kV doc pm:Value) (an:Option Addr) (cdv ct:Value) (us:List Value),us.length + 1=ps.length->∃ k:Option (Array Value)->Sem (List (Str × Value)),bindArgs (W.fnOf x x (xz st) (yS st) (zY st) (.ref T) kV doc pm an cdv ct) ⟨us,[]⟩=seqItems? (.ref T) >>= k/\k (some #[.int i t])=pure (ps.zip (us++[.int i t]))) (o:zL P w K mg base zd k f fd ps sp):we P w K mg base x ps k sp (.int i):=
 ⟨f,fd,_,o,W.mg_of Y.X Y.G g.at_,g.F.kp,g.F.binds b,g.F.binds1 d,⟨_,rfl⟩⟩
end
end L2
namespace K31
open PySem L2 Sh
theorem zLW {l:W.OpenLaw} {w:World} {K:W.Frag} {h:Heap} {mg:Str->Option Value} {fa:Addr} (X:K.In h) (G:h.Ns mainGlobals mg) (hfa:mg "law" = some (.ref fa))
  {ac ae cN cS cB cR cC cP cM fN:Addr}
  (GMode:Gc K "Mode" ac)
  (bD:W.findIn K (.ref ac) "rows" = some none)
  (bE:W.findIn K (.ref ac) "nexts" = some none)
  (bF:W.findIn K (.ref ac) "steer" = some none)
  (bG:W.findIn K (.ref ac) "push" = some none)
  (bH:W.findIn K (.ref ac) "add" = some none)
  (bI:W.findIn K (.ref ac) "divisor" = some none)
  (GThing:Gc K "Thing" ae)
  (bJ:W.findIn K (.ref ae) "many" = some none)
  (bK:W.findIn K (.ref ae) "kept_pushes" = some none)
  (bL:W.findIn K (.ref ae) "kept_modes" = some none)
  (aN:W.nsIn K mainGlobals "NoRun" = some (some (.ref cN)))
  (aS:W.nsIn K mainGlobals "SteadyError" = some (some (.ref cS)))
  (aB:W.nsIn K mainGlobals "BadThing" = some (some (.ref cB)))
  (aR:W.nsIn K mainGlobals "BadRule" = some (some (.ref cR)))
  (aC:W.nsIn K mainGlobals "NotClosed" = some (some (.ref cC)))
  (aP:W.nsIn K mainGlobals "NotPlain" = some (some (.ref cP)))
  (aM:W.nsIn K mainGlobals "TooMany" = some (some (.ref cM)))
  (aI:W.findIn K (.ref cN) "__init__" = some (some (.ref fN)))
  (f_ci:vy K cN fN=true)
  (f_ov:uy K cN=true)
  (f_st:W.findIn K (.ref cN) "step" = some none)
  (f_sa:W.findIn K (.ref cN) "__setattr__" = some (some (.builtin "object.__setattr__")))
  (f_rd:W.readsIn K cS (.type "type")=true)
  (f_fc:W.findCls K (.ref cS) (.type "type") "__init__" = some (.val (.builtin "ValueError.__init__")))
  (f_hg:W.specialIn K (.ref cS) "__getattribute__" = some (some (.builtin "type.__getattribute__")))
  (f_ga:W.findIn K (.ref cN) "__getattribute__" = some (some (.builtin "BaseException.__getattribute__")))
  (f_gt:W.findIn K (.ref cN) "__getattr__" = some none)
  (f_ha:W.findIn K (.ref cN) "__class__" = some (some (.builtin "object.__class__")))
  (f_hn:W.specialIn K (.builtin "object.__class__") "__get__" = some (some (.builtin "getset_descriptor.__get__")))
  (f_tk:W.takesIn K (.builtin "object.__class__")=some true)
  (f_mb:W.mroIn K cN (.type "BaseException")=some true)
  (f_mo:W.mroIn K cN (.type "object")=some true)
  (f_hx:W.exmOne K (.ref cN) (.ref cS)=some true)
  (f_kN:W.kitOne K (.ref cN) (.ref cN)=some true)
  (f_kV:W.kitOne K (.ref cN) (.type "ValueError")=some true)
  (f_kB:W.kitOne K (.ref cN) (.ref cB)=some false)
  (f_kR:W.kitOne K (.ref cN) (.ref cR)=some false)
  (f_kC:W.kitOne K (.ref cN) (.ref cC)=some false)
  (f_kP:W.kitOne K (.ref cN) (.ref cP)=some false)
  (f_kM:W.kitOne K (.ref cN) (.ref cM)=some false)
  (z0:W.nsIn K mainGlobals "ValueError" = some none)
  (z1:W.nsIn K mainGlobals "isinstance" = some none)
  (z2:W.nsIn K mainGlobals "int" = some none)
  (z3:W.nsIn K mainGlobals "bool" = some none)
  (z4:W.nsIn K mainGlobals "tuple" = some none)
  (z5:W.nsIn K mainGlobals "len" = some none)
  (z6:W.nsIn K mainGlobals "abs" = some none)
  (z7:W.nsIn K mainGlobals "all" = some none)
  (z8:W.nsIn K mainGlobals "list" = some none)
  (z9:W.nsIn K mainGlobals "range" = some none)
  (z10:W.nsIn K mainGlobals "zip" = some none)
  (z11:W.nsIn K mainGlobals "enumerate" = some none)
  {gt0:Tok} (cst0:W.nsIn K mainGlobals "MOST_NUMBERS" = some (some (.int 3 gt0)))
  {gt1:Tok} (cst1:W.nsIn K mainGlobals "MOST_PUSHES" = some (some (.int 6 gt1)))
  {gt2:Tok} (cst2:W.nsIn K mainGlobals "MOST_MODES" = some (some (.int 40 gt2)))
  : Ge K "is_whole" Z4->Ge K "common_divisor" Z5->Gi K "fraction" Z6 1->Ge K "under" Z8->Gi K "copied" vK 5->Ge K "is_numbers" YA->Ge K "is_table" gp->Ge K "is_row" YB->Ge K "is_room" gr->Ge K "is_push" YC->Gn K ac "__init__" "Mode.__init__" YD->Ge K "is_mode" YE->Ge K "is_sound" gu->Gn K ae "__init__" "Thing.__init__" YF->Gn K ae "pushes" "Thing.pushes" YG->Gn K ae "modes" "Thing.modes" YH->Ge K "raw_sum" YI->Ge K "divided_sum" YJ->Ge K "holds" YK->Ge K "lies_in" gv->Ge K "number_behind" YV->Ge K "point_behind" kA->Ge K "lies_between" YW->Ge K "can_be_made" YX->Gn K cN "__init__" "NoRun.__init__" YY->Ge K "walked" YZ->Ge K "_law_cell_at" Ye->Ge K "_law_stream" Yg->Ge K "_law_number" Yh->Ge K "_law_parts" qf->Ge K "_law_divisor" Yi->Ge K "_law_fraction" Yj->Ge K "_law_sum" Yk->Ge K "_law_held" Yl->Ge K "_law_fit" Yn->Ge K "_law_behind" Yp->Ge K "_law_pushes" vM->Ge K "_law_step" qg->Ge K "_law_copied" Yu->Ge K "_law_refused" Y1->Ge K "_law_told" Y2->Ge K "law" yg->∃ fd:FuncData,(∀ (s:Shared) (v:Value),BindsTo s fd ⟨[v],[]⟩ [("_law_script",v)])/\∀ base:Heap,K.In base->base.Ns mainGlobals mg->zL l.prog w K mg base zd 8 fa fd ["_law_script"] (j8 K):=by
 rintro ⟨_,_,G0⟩ ⟨_,_,G1⟩ ⟨_,_,_,G2⟩ ⟨_,_,G3⟩ ⟨_,_,_,G4⟩ ⟨_,_,G5⟩ ⟨_,_,G6⟩ ⟨_,_,G7⟩ ⟨_,_,G8⟩ ⟨_,_,G9⟩ ⟨_,_,G10⟩ ⟨_,_,G11⟩ ⟨_,_,G12⟩ ⟨_,_,G13⟩ ⟨_,_,G14⟩ ⟨_,_,G15⟩ ⟨_,_,G16⟩ ⟨_,_,G17⟩ ⟨_,_,G18⟩ ⟨_,_,G19⟩ ⟨_,_,G20⟩ ⟨_,_,G21⟩ ⟨_,_,G22⟩ ⟨_,_,G23⟩ ⟨fN2,_,G24⟩ ⟨_,_,G25⟩ ⟨_,_,G26⟩ ⟨_,_,G27⟩ ⟨_,_,G28⟩ ⟨_,_,G29⟩ ⟨_,_,G30⟩ ⟨_,_,G31⟩ ⟨_,_,G32⟩ ⟨_,_,G33⟩ ⟨_,_,G34⟩ ⟨_,_,G35⟩ ⟨_,_,G36⟩ ⟨_,_,G37⟩ ⟨_,_,G38⟩ ⟨_,_,G39⟩ ⟨_,_,G40⟩ ⟨_,_,G41⟩
 have e:=hfa.symm.trans (W.mg_of X G G41.at_)
 cases e
 have e2:fN=fN2:=by
  have z:=aI.symm.trans G24.at_
  injection z with z
  injection z with z
  injection z
 subst e2
 have B:Bl mg:=⟨W.mg_none_of X G z0,W.mg_none_of X G z1,W.mg_none_of X G z2,W.mg_none_of X G z3,W.mg_none_of X G z4,W.mg_none_of X G z5,W.mg_none_of X G z6,W.mg_none_of X G z7,W.mg_none_of X G z8,W.mg_none_of X G z9,W.mg_none_of X G z10,W.mg_none_of X G z11,⟨_,W.mg_of X G cst0⟩,⟨_,W.mg_of X G cst1⟩,⟨_,W.mg_of X G cst2⟩⟩
 have af:=GMode.cls X G
 have ag:yE K ac:=⟨bD,bE,bF,bG,bH,bI⟩
 have ah:=GThing.cls X G
 have ai:yF K ae:=⟨bJ,bK,bL⟩
 have Z:Er K mg cN:=⟨⟨cS,cB,cR,cC,cP,cM,⟨W.mg_of X G aN,W.mg_of X G aS,W.mg_of X G aB,W.mg_of X G aR,W.mg_of X G aC,W.mg_of X G aP,W.mg_of X G aM,⟨f_ga,f_gt,f_ha,f_hn,f_tk,f_mb,f_mo⟩,f_st,f_ov,f_hx,f_kN,f_kV,f_kB,f_kR,f_kC,f_kP,f_kM⟩⟩⟩
 have NR:wo K mg cN cS fN:=⟨f_ci,f_ov,f_st,f_sa,G24.fn,W.mg_of X G aN,W.mg_of X G aS,f_rd,f_fc,f_hg⟩
 obtain ⟨_,_,kV,dc,pm,an,cd,ct,_,rfl,_⟩:=G41.F.ex
 refine ⟨W.fnOf "law" "law" (xz yg) (yS yg) (zY yg) .none kV dc pm an cd ct,λs v=>.of_eq rfl,λbase _ _=>?_⟩
 have Y:Wh l.prog w K mg base h:=⟨X,G⟩
 have N0:=G0.fn Y (KD (k:=0) af ag ah ai G0.F B )
 have N1:=G1.fn Y (KE (k:=0) af ag ah ai G1.F B )
 have D2:=λ{k sp}=>G2.fn (ps:=["top","bottom"]) (k:=k) (sp:=sp) Y (λ_ _ _ _ _ _ _=>L2.jD λ_ _=>⟨_,rfl,rfl⟩) λ_ _ _ _ _ _ _ us hl=>match us,hl with | [_],_=>⟨_,rfl,rfl⟩
 have N2:=D2 (KG (k:=1) af ag ah ai G2.F B N0.mono N1.mono)
 have N3:=G3.fn Y (KI (k:=0) af ag ah ai G3.F B )
 have D4:=λ{k sp}=>G4.fn (ps:=["value","depth"]) (k:=k) (sp:=sp) Y (λ_ _ _ _ _ _ _=>L2.jD λ_ _=>⟨_,rfl,rfl⟩) λ_ _ _ _ _ _ _ us hl=>match us,hl with | [_],_=>⟨_,rfl,rfl⟩
 have N4_n:=D4 (zL.none (k:=0))
 have N4_0:=D4 (KJ (k:=0) af ag ah ai G4.F B N4_n)
 have N4_1:=D4 (KL (k:=1) af ag ah ai G4.F B N4_0)
 have N4_2:=D4 (KM (k:=2) af ag ah ai G4.F B N4_1)
 have N4:=N4_2
 have N5:=G5.fn Y (KO (k:=1) af ag ah ai G5.F B N0.mono)
 have N6:=G6.fn Y (KQ (k:=2) af ag ah ai G6.F B N5.mono)
 have N7:=G7.fn Y (KS (k:=1) af ag ah ai G7.F B N0.mono)
 have N8:=G8.fn Y (KW (k:=2) af ag ah ai G8.F B N7.mono)
 have N9:=G9.fn Y (KZ (k:=1) af ag ah ai G9.F B N0.mono)
 have N10:=G10.fc Y GMode (Kb (k:=3) af ag ah ai G10.F B N4.mono)
 have N11:=G11.fn Y (Ke (k:=3) af ag ah ai G11.F B N8.mono N6.mono N5.mono N0.mono)
 have N12:=G12.fn Y (Kg (k:=4) af ag ah ai G12.F B N0.mono N9.mono N11.mono)
 have N13:=G13.fc Y GThing (Ki (k:=5) af ag ah ai G13.F B N12.mono)
 have N14:=G14.fm Y (Kk (k:=0) af ag ah ai G14.F B )
 have N15:=G15.fm Y (Km (k:=0) af ag ah ai G15.F B )
 have N16:=G16.fn Y (Kn (k:=0) af ag ah ai G16.F B )
 have N17:=G17.fn Y (Ko (k:=2) af ag ah ai G17.F B N16.mono N2.mono)
 have N18:=G18.fn Y (Kp (k:=1) af ag ah ai G18.F B N16.mono)
 have N19:=G19.fn Y (Kr (k:=2) af ag ah ai G19.F B N18.mono)
 have N20:=G20.fn Y (Ky (k:=3) af ag ah ai G20.F B N17.mono)
 have N21:=G21.fn Y (K0 (k:=4) af ag ah ai G21.F B N20.mono)
 have N22:=G22.fn Y (K7 (k:=2) af ag ah ai G22.F B N3.mono N2.mono)
 have N23:=G23.fn Y (K9 (k:=3) af ag ah ai G23.F B N19.mono N22.mono)
 have N24:=G24.fi Y NR (zDR (k:=0) G24.F B NR)
 have NX25:=G25.fd_ Y (zHK (k:=4) af ag ah ai G25.F B N24.mono N15.mono N14.mono N23.mono N21.mono)
 have N25:=NX25.calm
 have N26:=G26.fn Y (zFO (k:=0) af ag ah ai G26.F B )
 have N27:=G27.fn Y (zF7 (k:=0) af ag ah ai G27.F B )
 have N28:=G28.fn Y (zF9 (k:=0) af ag ah ai G28.F B )
 have N29:=G29.fn Y (zHN (k:=1) af ag ah ai G29.F B N27.mono N28.mono)
 have N30:=G30.fn Y (zFN (k:=0) af ag ah ai G30.F B )
 have N31:=G31.fn Y (zEv (k:=1) af ag ah ai G31.F B N30.mono)
 have N32:=G32.fn Y (zJI (k:=2) af ag ah ai G32.F B N31.mono)
 have N33:=G33.fn Y (zH7 (k:=3) af ag ah ai G33.F B N32.mono)
 have N34:=G34.fn Y (zJJ (k:=0) af ag ah ai G34.F B )
 have N35:=G35.fn Y (zGB (k:=3) af ag ah ai G35.F B N32.mono N31.mono)
 have N36:=G36.fn Y (zF8 (k:=2) af ag ah ai G36.F B N27.mono N31.mono)
 have N37:=G37.fn Y (zH6 (k:=4) af ag ah ai G37.F B N27.mono N33.mono N31.mono N28.mono N36.mono)
 have N38:=G38.fn Y (zGA (k:=0) af ag ah ai G38.F B )
 have N39:=G39.fn Y (zFM (k:=6) (Z:=Z) af ag ah ai G39.F B NX25.mono)
 have N40:=G40.fn Y (zH5 (k:=6) (cN:=cN) af ag ah ai G40.F B N38.mono N25.mono)
 exact zLF (k:=6) (cN:=cN) af ag ah ai G41.F B N26.mono N29.mono N27.mono N28.mono N31.mono N13.mono N10.mono N37.mono N34.mono N33.mono N35.mono N40.mono N38.mono N39.mono
theorem walk {l:PySem.W.OpenLaw} {q:Program} {loose:List Str} {XP:(Str->Option Value)->Heap->Prop} {YP:World->Heap->Prop} {d:DefRec} {K:Params->PySem.W.Frag} (hn:l.most=some 63) (hdf:d.params.defaults=[])
  (hY:∀ (w:World) (h:Heap),YP w h->(K w.params).In h)
  (F:∀ (w:World) (mg:Str->Option Value) (fa:Addr) (h:Heap),(K w.params).In h->h.Ns mainGlobals mg->mg d.name=some (.ref fa)->
   ∃ fd:FuncData,(∀ (s:Shared) (u:Value),BindsTo s fd ⟨[u],[]⟩ [("_law_script",u)])/\∀ base:Heap,(K w.params).In base->base.Ns mainGlobals mg->zL l.prog w (K w.params) mg base zd 8 fa fd ["_law_script"] (j8 (K w.params))) :
  PySem.W.WalkO q loose XP YP l.row.toRowW d [] (λf vs=>PySem.call f vs):=
 L2.JL (n:=63) (k:=8) (x:="_law_script") (CX:=λ_=>zd) (sp:=λw=>j8 (K w.params)) hn (by decide) hdf ⟨rfl,by decide,by decide⟩ hY F (λ_ _ a ns hl _ hS=>⟨a,ns,rfl,hS,hl,λ_=>rfl⟩) λ_ _ _ _ _ z=>z
end K31
open PySem PySem.W PyProof.Rows
set_option maxRecDepth 100000 in
set_option maxHeartbeats 0 in
theorem PySem.Challenge.cw_steadyhand_k31_runs_walked_holds : PySem.Challenge.rw_steadyhand_k31_runs_walked.Holds := by
 w_on; o_law
 refine holds_open (q:=H31.vw) (loose:=H31.lo) (Xt:=H31.xt) (XP:=XL H31.vw []) (Yf:=(kHook H31.KK H31.ks H31.ke).obs) (Ya:=(kHook H31.KK H31.ks H31.ke).val) (YP:=(kHook H31.KK H31.ks H31.ke).says) H31.left
  (kHook H31.KK H31.ks H31.ke).of (kHook H31.KK H31.ks H31.ke).keeps
  (λs e=>xl_of s (Bool.and_eq_true_iff.mp e).1) XL.keeps (by rfl) (by rfl) (by rfl)
  (λs e=>recFacts_of (Bool.and_eq_true_iff.mp e).2) (by rfl) (by assumption) (by decide +kernel)
  ⟨rfl,rfl,rfl,rfl,rfl,by decide +kernel⟩ ?hw ?hc
 case hw=>w_witness2
 rename_i sd
 clear sd
 k_fill
 refine K31.walk (l:=PySem.Challenge.rw_steadyhand_k31_runs_walked) rfl rfl (λw h Y=>PySem.W.kIn_of Y) ?F
 case F=>
  intro w mg fa h KX G hmg
  refine' K31.zLW KX G hmg ?_ ?_ ?_ ?_ ?_ ?_ ?_ ?_ ?_ ?_ ?_ ?nN ?nS ?nB ?nR ?nC ?nP ?nM ?nI ?fci ?fov ?fst ?fsa ?frd ?ffc ?fhg ?fga ?fgt ?fha ?fhn ?ftk ?fmb ?fmo ?fhx ?fkN ?fkV ?fkB ?fkR ?fkC ?fkP ?fkM ?_ ?_ ?_ ?_ ?_ ?_ ?_ ?_ ?_ ?_ ?_ ?_ ?_ ?_ ?_ ?_ ?_ ?_ ?_ ?_ ?_ ?_ ?_ ?_ ?_ ?_ ?_ ?_ ?_ ?_ ?_ ?_ ?_ ?_ ?_ ?_ ?_ ?_ ?_ ?_ ?_ ?_ ?_ ?_ ?_ ?_ ?_ ?_ ?_ ?_ ?_ ?_ ?_ ?_ ?_ ?_ ?_
  (case nN|nS|nB|nR|nC|nP|nM|nI=>k_is)
  (case fci=>kernel_rfl)
  (case fov=>kernel_rfl)
  (case fst|fsa=>k_is)
  (case frd=>kernel_rfl)
  (case ffc=>kernel_rfl)
  (case fhg|fga|fgt|fha|fhn|ftk|fmb|fmo=>k_is)
  (case fhx=>first | kit_is | k_is | kernel_rfl)
  (case fkN=>first | kit_is | k_is | kernel_rfl)
  (case fkV=>first | kit_is | k_is | kernel_rfl)
  (case fkB=>first | kit_is | k_is | kernel_rfl)
  (case fkR=>first | kit_is | k_is | kernel_rfl)
  (case fkC=>first | kit_is | k_is | kernel_rfl)
  (case fkP=>first | kit_is | k_is | kernel_rfl)
  (case fkM=>first | kit_is | k_is | kernel_rfl)
  any_goals first | (refine' L2.Gc.mk ?a ?b ?c ?d ?e ?f ?g ?h ?i ?j ?k; (case a=>k_is); (case b=>k_is); (case c=>k_is); (case d=>k_is); (case e=>k_is); (case f=>k_is); (case g=>k_is); (case h=>k_is); (case i=>k_is); (case j=>k_is); (case k=>k_is)) | (refine' L2.qu ?a ?l ?c ?k; (case a=>k_is); (case l=>k_is); (case c=>k_is); (case k=>k_is)) | (refine' L2.qw ?a ?i ?l ?c ?k; (case a=>k_is); (case i=>k_is); (case l=>k_is); (case c=>k_is); (case k=>k_is)) | (refine' L2.qy ?a ?l ?c ?k ?d; (case a=>k_is); (case l=>k_is); (case c=>k_is); (case k=>k_is); (case d=>k_is)) | k_is
#print axioms PySem.Challenge.cw_steadyhand_k31_runs_walked_holds
