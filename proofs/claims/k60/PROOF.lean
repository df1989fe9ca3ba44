import PyProof.Rows.All
import Wide.All
import OpenK.AllK
import Wide.FinOn
import Lean
import PyProof.EqAt
import PyProof.EqKinds
import PyProof.TupleCall
import PyProof.NeKinds
import PyProof.FactsAll.list
import PyProof.ListMulRoad
import PyProof.FactsAll.tuple
import PyProof.Rows.TupAdd
import PyProof.StationsW
import PyProof.RulesAs
import OpenK.KOwn
import OpenK.KMake
import PyProof.ExcClass3
import PyProof.ExcInit
import PyProof.InstStoreFacts
import PyProof.ExcAttrAll.ValueError
import PyProof.NsDelKeeps
import KE.KTryMore
import KE.KIsAll
import KE.KDictSum
import PyProof.Rows.SortWalk
import PyProof.StrOps2
import PyProof.WalkInts
import OpenK.KCls
import PyProof.DictWalks
import KE.KRevIter
import PyProof.ListNew
import PyProof.EnumMake
import PyProof.EnumFor
import PyProof.SeqI3
import KE.KEqDict
import PyProof.InstEq
import PyProof.ListRange
import PyProof.TupleOfStr
import PyProof.Rows.SetFrom
import PyProof.DictKinds
import PyProof.DictStraight
import PyProof.FactsAll.NoneType_1
import PyProof.DictRoadsH
import PyProof.Rows.CountFlat
import PyProof.Rows.SortShell
import PyProof.Rows.SortStr
import PySem.Challenge.RW_papervault_k60_no_tables_no_rows
set_option compiler.extract_closed false
set_option Elab.async false
set_option linter.all false
set_option maxRecDepth 100000
set_option maxHeartbeats 4000000
namespace L2
open PySem
noncomputable def inClass (s:Stmt)(j:Nat):Stmt:=match s with
 | .ClassDef _ _ _ body _ _ _ _ _ _ _=>body.getD j (.Pass ⟨0,0,0,0⟩)
 | _=>.Pass ⟨0,0,0,0⟩
noncomputable def z8 (s:Stmt):Arguments:=match s with
 | .FunctionDef _ a _ _ _ _ _ _ _ _=>a
 | _=>{posonlyargs:=[],args:=[],vararg:=none,kwonlyargs:=[],kw_defaults:=[],kwarg:=none,defaults:=[]}
noncomputable def zH (s:Stmt):List Stmt:=match s with
 | .FunctionDef _ _ b _ _ _ _ _ _ _=>b
 | _=>[]
noncomputable def zq (s:Stmt):Scope:=match s with
 | .FunctionDef _ _ _ _ _ _ sc _ _ _=>sc
 | _=>{kind:=.function,names:=[],isGenerator:=false,isCoroutine:=false}
end L2
namespace Pv
open PySem
noncomputable def top (i:Nat):Stmt:=PySem.Challenge.pw_papervault_k60_no_tables_no_rows.main.body.getD i (.Pass ⟨0,0,0,0⟩)
end Pv
namespace Pv
open PySem PySem.W
noncomputable abbrev dE (P:Params)(x:Str)(t:Nat)(v:Value):DictEntry:=DictEntry.mk (PyData.keyHash P x) (.str x t) v
noncomputable abbrev cO (n:Str)(a:Nat)(q:Str)(b c:Nat)(l x y z w:Int)(r:Addr)(g:Bool)(r2:Addr)(e1 e2 e3 e4:Value)(t m:Int)(d:Nat):Obj:=.mk (.type "code") none (.fields #[.str n a,.str q b,.str "/claim/cut.py" c,.int l 0,.int x 0,.int y 0,.int z 0,.int w 0,.ref r,.bool g,.int 181 0,.ref r2,e1,e2,e3,e4,.int t 0,.int m 0,.str "/claim/cut.py" d]) #[]
noncomputable abbrev _root_.QM:=Option Addr
noncomputable abbrev fO (c:Value)(n q:Str)(st:Stmt)(g:Addr)(cl:List (Str ×Addr))(df kd doc md:Value)(an:QM)(cd ct:Value)(bl:Addr):Obj:=.mk c none (.func (.mk n q (L2.z8 st) (.stmts (L2.zH st)) (L2.zq st) g cl df kd doc md an cd ct bl)) #[]
noncomputable abbrev f0 (n q:Str)(st:Stmt):Obj:=fO .none n q st 0 [] .none .none .none .none none .none .none 0
noncomputable abbrev f1 (n q:Str)(st:Stmt)(m:Str)(k:Nat)(r:Addr):Obj:=fO (.type "function") n q st 3 [] .none .none .none (.str m k) none (.ref r) .none 0
noncomputable abbrev tO (a:Array Value):Obj:=.mk (.type "tuple") none (.seq a) #[]
noncomputable abbrev dO (a:Array DictEntry)(n:Nat):Obj:=.mk (.type "dict") none (.dict a n) #[]
noncomputable abbrev fi (a:Array Value):Obj:=.mk .none none (.fields a) #[]
noncomputable abbrev fy (x:String)(a:Array Value):Obj:=.mk (.type x) none (.fields a) #[]
noncomputable abbrev fr (c d:Addr)(v:Value):Obj:=.mk (.type "frame") none .plain #[some (.ref c),some (.ref 3),some (.ref d),none,some v,none,some (.ref 0)]
noncomputable abbrev HBT:=List (List Obj ×List Obj)
noncomputable def nm (t:Nat):List Str->List Value
 | []=>[]
 | x::r=>.str x t::nm (t+1) r
noncomputable def cs (i:Int):List (Int ×Nat)->List Value
 | []=>[]
 | (l,a)::r=>.int l 0::.int i 0::.ref a::cs i r
noncomputable def ka:HBT->List Obj
 | []=>[]
 | x::r=>x.1++ka r
noncomputable def kb:HBT->List Obj
 | []=>[]
 | x::r=>x.2++kb r
noncomputable def sp:List Obj->List Obj ×List Obj
 | []=>([],[])
 | x::r=>(x::(sp r).2,(sp r).1)
noncomputable def bt:Nat->List Obj->BT
 | 0,_=>.nil
 | _+1,[]=>.nil
 | n+1,x::r=>.node x (bt n (sp r).1) (bt n (sp r).2)
noncomputable def wv (i:Nat):List (Nat ×Nat)->List Obj->List Obj->List Obj
 | [],a,_=>a
 | (p,n)::r,a,b=>a.take (p - i)++(b.take n++wv (p+n) r (a.drop (p - i)) (b.drop n))
noncomputable def rgs:List (Nat ×Nat)->List Nat
 | []=>[]
 | (a,n)::r=>List.range' a n++rgs r
noncomputable def kz:List Addr->List Obj->Frag
 | a::r,o::s=>(a,o)::kz r s
 | _,_=>[]
noncomputable section
noncomputable abbrev _root_.QP:=List Str
noncomputable def dl (a t:Nat)(l p:Int)(n q:Str)(st:Stmt)(ns:QP)(m:Value):List Obj ×List Obj:=([tO #[],tO (nm (t+3) ns).toArray,tO #[],cO n t q (t+1) (t+2) l p 0 0 3 a true (a+1) .none (.ref (a+2)) (.ref (a+3)) (.ref (a+4)) (t+3+ns.length:Nat) l (t+4+ns.length),fO (.type "function") n q st 3 [] .none .none .none m none (.ref (a+5)) .none 0],[fi #[],f0 n q st])
noncomputable def dt (a t:Nat)(l p:Int)(n:Str)(i:Nat)(ns:QP)(m:Value):List Obj ×List Obj:=dl a t l p n n (Pv.top i) ns m
noncomputable def ds (a t:Nat)(l p:Int)(n q:Str)(st:Stmt)(m:Value):List Obj ×List Obj:=([tO #[],cO n t q (t+1) (t+2) l p 0 0 3 a true (a+1) .none .none .none (.ref (a+2)) (t+3:Nat) l (t+4),fO (.type "function") n q st 3 [] .none .none .none m none (.ref (a+3)) .none 0],[fi #[],f0 n q st])
noncomputable def mE (P:Params):List (Str ×Nat ×Int ×Nat)->List DictEntry
 | []=>[]
 | (x,t,l,a)::r=>dE P x t (.ref (a+1))::mE P r
noncomputable def mC:List (Str ×Nat ×Int ×Nat)->List (Int ×Nat)
 | []=>[]
 | (_,_,l,a)::r=>(l,a)::mC r
variable (P:Params)
noncomputable abbrev _root_.QN:=List Value
noncomputable def cl (m:Value)(a t:Nat)(n:Str)(l:Int)(ms:List (Str ×Nat ×Int ×Nat))(p s:Nat)(at':QN)(body:HBT)(K0 O0:List Obj)(b mr sb:QN)(z:Option Value)(nw:String)(ge:List DictEntry)(gs:List Obj)(dn:Nat)(d:Nat):HBT:=
 (K0,O0++ [fy "builtin_function_or_method" #[.builtin "type.__prepare__",.type "type"],dO (dE P "__module__" (t+7) m::dE P "__qualname__" (t+9) (.str n (t+8))::dE P "__firstlineno__" (t+11) (.int l (t+10))::(mE P ms++ [dE P "__static_attributes__" s (.ref p)])).toArray (ms.length+4),tO #[],fi (cs 4 (mC ms)).toArray,cO n (t+2) n (t+3) (t+4) l 0 0 0 0 (a+3) false (a+4) .none .none .none .none (t+5:Nat) l (t+6),fr (a+5) (a+2) m])::(body++ [([tO at'.toArray,dO (dE P "__module__" (t+7) m::dE P "__firstlineno__" (t+11) (.int l (t+10))::(mE P ms++(dE P "__static_attributes__" s (.ref p)::(ge++ [dE P "__doc__" d .none])))).toArray dn,.mk (.type "type") none (.cls (ClassData.mk n b (.ref (p+2)::mr) (p+1) n true [] sb false none false)) #[z,none,some (.str n t),some (.str n (t+8)),some (.builtin nw),some (.bool true)]]++gs,[fy "super" #[.ref (p+2),.ref (p+2),.ref (p+2)],fy "builtin_function_or_method" #[.builtin "object.__init_subclass__",.ref (p+2)]])])
noncomputable def gD (p c t:Nat):Obj:=fy "getset_descriptor" #[.str "__dict__" t,.ref c,.builtin "function.__dict__",.builtin "function.__dict__#set"]
noncomputable def gW (c t:Nat):Obj:=fy "getset_descriptor" #[.str "__weakref__" t,.ref c,.builtin "ExceptionGroup.__weakref__",.none]
noncomputable def c0 (m:Value)(a t:Nat)(n:Str)(l:Int)(ms:List (Str ×Nat ×Int ×Nat))(p s:Nat)(at':QN)(sb:QN)(body:HBT):HBT:=cl P m a t n l ms p s at' body [] [tO #[]] [.type "object"] [.type "object"] sb none "object.__new__" [dE P "__dict__" (s+2) (.ref (p+3)),dE P "__weakref__" (s+4) (.ref (p+4))] [gD p (p+2) (s+1),gW (p+2) (s+3)] 4 (s+5)
noncomputable def c1 (m:Value)(a t:Nat)(n:Str)(l:Int)(ms:List (Str ×Nat ×Int ×Nat))(p s:Nat)(at':QN)(b:Nat)(body:HBT):HBT:=cl P m a t n l ms p s at' body [tO #[.ref b]] [] [.ref b] [.ref b,.type "object"] [] (some (.ref a)) "object.__new__" [] [] 2 (s+1)
noncomputable def c2 (m:Value)(a t:Nat)(n:Str)(l:Int)(ms:List (Str ×Nat ×Int ×Nat))(p s:Nat)(at':QN)(body:HBT):HBT:=cl P m a t n l ms p s at' body [tO #[.ref 24]] [] [.ref 24] [.ref 24,.type "ValueError",.type "Exception",.type "BaseException",.type "object"] [] (some (.ref a)) "ValueError.__new__" [] [] 2 (s+1)
noncomputable def c3 (m:Value)(a t:Nat)(n:Str)(l:Int)(p s:Nat):HBT:=c2 P m a t n l [] p s [] []
noncomputable def mm0:Value:=.str "papervault.errors" 187
noncomputable def mm1:Value:=.str "papervault.things" 410
noncomputable def mm2:Value:=.str "papervault.names" 455
noncomputable def mm3:Value:=.str "papervault.seals" 483
noncomputable def mm4:Value:=.str "papervault.nodes" 509
noncomputable def mm5:Value:=.str "papervault.trees" 575
noncomputable def mm6:Value:=.str "papervault.tables" 756
noncomputable def mm7:Value:=.str "papervault.vaults" 985
noncomputable def mm8:Value:=.str "law_papervault_k60_no_tables_no_rows" 1070
noncomputable def GE:List DictEntry:=[dE P "__doc__" 166 .none,dE P "__package__" 167 .none,dE P "__loader__" 168 (.builtin "__main__.__loader__#opaque"),dE P "__spec__" 169 .none,dE P "__annotations__" 170 (.ref 6),dE P "__builtins__" 171 (.ref 4),dE P "__file__" 173 (.str "/claim/cut.py" 172),dE P "__cached__" 174 .none,dE P "VaultError" 206 (.ref 24),dE P "NoPaper" 222 (.ref 37),dE P "BadThing" 238 (.ref 49),dE P "Clash" 265 (.ref 68),dE P "NoState" 281 (.ref 80),dE P "NoName" 297 (.ref 92),dE P "NoTable" 313 (.ref 104),dE P "NoColumn" 329 (.ref 116),dE P "NoRow" 345 (.ref 128),dE P "NoQuestion" 361 (.ref 140),dE P "NoPlan" 377 (.ref 152),dE P "NoStep" 393 (.ref 164),dE P "NotSo" 409 (.ref 176),dE P "PERCENT" 413 (.int 37 412),dE P "is_whole" 420 (.ref 185),dE P "has_signs_of_things" 428 (.ref 192),dE P "kind_of" 435 (.ref 199),dE P "ahead" 444 (.ref 206),dE P "is_tuple_ahead" 454 (.ref 213),dE P "MOST_LETTERS" 458 (.int 8 457),dE P "MOST_SIGNS" 460 (.int 20 459),dE P "is_name" 468 (.ref 220),dE P "is_value" 475 (.ref 227),dE P "has_signs_of_values" 482 (.ref 234),dE P "seal" 493 (.ref 241),dE P "codes" 499 (.ref 246),dE P "number_of" 508 (.ref 253),dE P "KEY" 512 (.int 0 511),dE P "WORTH" 514 (.int 1 513),dE P "LEFT" 516 (.int 2 515),dE P "RIGHT" 518 (.int 3 517),dE P "COUNT" 520 (.int 4 519),dE P "MOST_NODES" 522 (.int 300 521),dE P "BENEATH_NONE" 524 (.int 301 523),dE P "node_beneath" 534 (.ref 260),dE P "is_node" 541 (.ref 267),dE P "is_root" 548 (.ref 274),dE P "size_beneath" 557 (.ref 281),dE P "rank" 564 (.ref 288),dE P "above" 574 (.ref 295),dE P "side_of" 584 (.ref 302),dE P "way_to" 596 (.ref 309),dE P "ends_at" 604 (.ref 316),dE P "found" 614 (.ref 323),dE P "is_empty" 622 (.ref 330),dE P "goes_left" 630 (.ref 337),dE P "goes_right" 638 (.ref 344),dE P "refuse_sum" 648 (.ref 351),dE P "stretch" 662 (.ref 358),dE P "with_tree" 672 (.ref 365),dE P "hung" 684 (.ref 372),dE P "parted" 700 (.ref 379),dE P "place_in" 710 (.ref 386),dE P "put" 726 (.ref 393),dE P "cut" 737 (.ref 400),dE P "joined" 755 (.ref 407),dE P "COLUMNS" 759 (.int 0 758),dE P "ROWS" 761 (.int 1 760),dE P "ORDERS" 763 (.int 2 762),dE P "NUMBER" 765 (.int 0 764),dE P "TREE" 767 (.int 1 766),dE P "MOST_COLUMNS" 769 (.int 6 768),dE P "are_columns" 777 (.ref 414),dE P "are_orders" 787 (.ref 421),dE P "is_order" 794 (.ref 428),dE P "is_table" 802 (.ref 435),dE P "are_values" 811 (.ref 442),dE P "row_of" 820 (.ref 449),dE P "names" 826 (.ref 454),dE P "table_at" 836 (.ref 461),dE P "columns_of" 845 (.ref 468),dE P "ordered" 851 (.ref 473),dE P "rows_in" 857 (.ref 478),dE P "row_in" 867 (.ref 485),dE P "rows_of" 876 (.ref 492),dE P "row_at" 886 (.ref 499),dE P "make_table" 896 (.ref 506),dE P "stands" 905 (.ref 513),dE P "number_of_order" 913 (.ref 520),dE P "other_orders" 919 (.ref 525),dE P "make_order" 934 (.ref 532),dE P "drop_order" 946 (.ref 539),dE P "key_in" 954 (.ref 546),dE P "order_with" 963 (.ref 553),dE P "order_without" 972 (.ref 560),dE P "put_row" 978 (.ref 565),dE P "cut_row" 984 (.ref 570),dE P "rising" 992 (.ref 575),dE P "Vault" 1046 (.ref 613),dE P "Keeper" 1069 (.ref 634),dE P "_law_hand" 1081 (.ref 643),dE P "_law_draw" 1090 (.ref 650),dE P "_law_text" 1101 (.ref 657),dE P "_law_value" 1109 (.ref 664),dE P "_law_no_table" 1117 (.ref 671),dE P "_law_no_row" 1127 (.ref 678),dE P "_law_asked" 1140 (.ref 685),dE P "_law_state" 1154 (.ref 692),dE P "_law_others_stand" 1165 (.ref 699),dE P "_law_bad_table" 1179 (.ref 706),dE P "_law_bad_name" 1191 (.ref 713),dE P "_law_bad_row" 1209 (.ref 720),dE P "_law_holds" 1223 (.ref 727),dE P "law" 1233 (.ref 734)]
noncomputable def CT:List (Int ×Nat):=[(2,20),(4,33),(6,45),(8,57),(13,76),(15,88),(17,100),(19,112),(21,124),(23,136),(25,148),(27,160),(29,172),(33,184),(35,191),(40,198),(48,205),(57,212),(65,219),(72,226),(76,233),(79,240),(84,245),(97,252),(110,259),(115,266),(123,273),(125,280),(129,287),(131,294),(138,301),(140,308),(151,315),(153,322),(156,329),(158,336),(160,343),(162,350),(167,357),(188,364),(192,371),(196,378),(209,385),(214,392),(225,399),(231,406),(258,413),(265,420),(274,427),(276,434),(283,441),(290,448),(294,453),(300,460),(307,467),(309,472),(311,477),(313,484),(316,491),(318,498),(320,505),(326,512),(332,519),(336,524),(338,531),(346,538),(352,545),(354,552),(356,559),(358,564),(370,569),(379,574),(381,581),(400,623),(405,642),(410,649),(417,656),(423,663),(432,670),(440,677),(444,684),(474,691),(488,698),(495,705),(503,712),(507,719),(519,726),(532,733)]
noncomputable def HB:HBT:=[([.mk .none none (.dict #[]) #[],dO (dE P "__name__" 165 (.str "law_papervault_k60_no_tables_no_rows" 1070)::GE P).toArray 113],[boot_o_0 P,boot_o_1 P,boot_o_4 P,boot_o_5 P,boot_o_6 P,boot_o_7 P,boot_o_8 P,boot_o_9 P,boot_o_10 P,boot_o_7 P,fi (cs 0 CT).toArray,cO "<module>" 182 "<module>" 183 184 1 0 0 0 0 11 false 12 .none .none .none .none 185 1 186,.mk (.type "frame") none .plain #[some (.ref 13),some (.ref 3),some (.ref 3),none,some (.str "__main__" 164),none,some (.ref 0)]])]
++cl P mm0 15 189 "VaultError" 2 [] 22 201 [] [] [tO #[.type "ValueError"]] [] [.type "ValueError"] [.type "ValueError",.type "Exception",.type "BaseException",.type "object"] [.ref 37,.ref 49,.ref 68,.ref 80,.ref 92,.ref 104,.ref 116,.ref 128,.ref 140,.ref 152,.ref 164,.ref 176] (some (.ref 15)) "ValueError.__new__" [dE P "__weakref__" 203 (.ref 25)] [gW 24 202] 3 204
++c3 P mm0 28 207 "NoPaper" 4 35 219
++c3 P mm0 40 223 "BadThing" 6 47 235
++c2 P mm0 52 239 "Clash" 8 [("__init__",259,10,64)] 66 262 [.str "one" 260,.str "other" 261] [dl 59 251 10 3 "__init__" "Clash.__init__" (L2.inClass (Pv.top 4) 0) ["self","one","other"] mm0]
++c3 P mm0 71 266 "NoState" 13 78 278
++c3 P mm0 83 282 "NoName" 15 90 294
++c3 P mm0 95 298 "NoTable" 17 102 310
++c3 P mm0 107 314 "NoColumn" 19 114 326
++c3 P mm0 119 330 "NoRow" 21 126 342
++c3 P mm0 131 346 "NoQuestion" 23 138 358
++c3 P mm0 143 362 "NoPlan" 25 150 374
++c3 P mm0 155 378 "NoStep" 27 162 390
++c3 P mm0 167 394 "NotSo" 29 174 406
++ [dt 179 414 33 1 "is_whole" 16 ["value"] mm1,
dt 186 421 35 1 "has_signs_of_things" 17 ["text","sign"] mm1,
dt 193 429 40 1 "kind_of" 18 ["thing"] mm1,
dt 200 436 48 2 "ahead" 19 ["one","other","kind"] mm1,
dt 207 445 57 2 "is_tuple_ahead" 20 ["one","other","mine","its"] mm1,
dt 214 461 65 1 "is_name" 24 ["thing","sign"] mm2,
dt 221 469 72 1 "is_value" 25 ["thing"] mm2,
dt 228 476 76 1 "has_signs_of_values" 26 ["text"] mm2,
dt 235 485 79 1 "seal" 28 ["thing","folded","code"] mm3,
ds 242 494 84 1 "codes" "codes" (Pv.top 29) mm3,
dt 247 500 97 1 "number_of" 30 ["signs","number","sign"] mm3,
dt 254 525 110 3 "node_beneath" 39 ["vault","root","count","node"] mm4,
dt 261 535 115 1 "is_node" 40 ["thing"] mm4,
dt 268 542 123 1 "is_root" 41 ["thing"] mm4,
dt 275 549 125 3 "size_beneath" 42 ["vault","root","count"] mm4,
dt 282 558 129 1 "rank" 43 ["key"] mm4,
dt 289 565 131 2 "above" 44 ["key","other","mine","its"] mm4,
dt 296 577 138 2 "side_of" 46 ["node","key"] mm5,
dt 303 585 140 3 "way_to" 47 ["vault","root","key","way","count","node"] mm5,
dt 310 597 151 2 "ends_at" 48 ["way","key"] mm5,
dt 317 605 153 3 "found" 49 ["vault","root","key","way"] mm5,
dt 324 615 156 2 "is_empty" 50 ["low","high"] mm5,
dt 331 623 158 2 "goes_left" 51 ["node","low"] mm5,
dt 338 631 160 2 "goes_right" 52 ["node","high"] mm5,
dt 345 639 162 2 "refuse_sum" 53 ["vault","node","left","right"] mm5,
dt 352 649 167 4 "stretch" 54 ["vault","root","low","high","pairs","begun","count","node"] mm5,
dt 359 663 188 4 "with_tree" 55 ["node","side","root","count"] mm5,
dt 366 673 192 5 "hung" 56 ["vault","way","key","root","more","node"] mm5,
dt 373 685 196 5 "parted" 57 ["vault","way","key","root","count","left","left_count","right","right_count","node"] mm5,
dt 380 701 209 2 "place_in" 58 ["way","key","number","node"] mm5,
dt 387 711 214 4 "put" 59 ["vault","root","key","worth","way","own","new","place","trees","count"] mm5,
dt 394 727 225 3 "cut" 60 ["vault","root","key","way","own"] mm5,
dt 401 738 231 4 "joined" 61 ["vault","left","right","count","left_count","right_count","down","one","other","both","root","step"] mm5,
dt 408 770 258 1 "are_columns" 69 ["given","column"] mm6,
dt 415 778 265 2 "are_orders" 70 ["thing","many","last","order"] mm6,
dt 422 788 274 1 "is_order" 71 ["thing"] mm6,
dt 429 795 276 1 "is_table" 72 ["thing","columns"] mm6,
dt 436 803 283 2 "are_values" 73 ["given","many","value"] mm6,
dt 443 812 290 3 "row_of" 74 ["table","key","worth"] mm6,
ds 450 821 294 2 "names" "names" (Pv.top 75) mm6,
dt 455 827 300 3 "table_at" 76 ["vault","root","name","worth"] mm6,
dt 462 837 307 3 "columns_of" 77 ["vault","root","name"] mm6,
ds 469 846 309 3 "ordered" "ordered" (Pv.top 78) mm6,
ds 474 852 311 2 "rows_in" "rows_in" (Pv.top 79) mm6,
dt 479 858 313 3 "row_in" 80 ["vault","table","value","worth"] mm6,
dt 486 868 316 3 "rows_of" 81 ["vault","root","name"] mm6,
dt 493 877 318 4 "row_at" 82 ["vault","root","name","value"] mm6,
dt 500 887 320 4 "make_table" 83 ["vault","root","name","columns"] mm6,
dt 507 897 326 3 "stands" 84 ["vault","root","name"] mm6,
dt 514 906 332 2 "number_of_order" 85 ["table","column"] mm6,
ds 521 914 336 2 "other_orders" "other_orders" (Pv.top 86) mm6,
dt 526 920 338 4 "make_order" 87 ["vault","root","name","column","table","number","order","row","orders"] mm6,
dt 533 935 346 4 "drop_order" 88 ["vault","root","name","column","table","orders"] mm6,
dt 540 947 352 2 "key_in" 89 ["order","row"] mm6,
dt 547 955 354 3 "order_with" 90 ["vault","order","row"] mm6,
dt 554 964 356 3 "order_without" 91 ["vault","order","row"] mm6,
ds 561 973 358 4 "put_row" "put_row" (Pv.top 92) mm6,
ds 566 979 370 4 "cut_row" "cut_row" (Pv.top 93) mm6,
ds 571 987 379 1 "rising" "rising" (Pv.top 95) mm7]
++c0 P mm7 576 993 "Vault" 381 [("__init__",1011,383,588),("refuse_clash",1020,386,595),("lay",1029,390,602),("thing",1037,396,609)] 611 1039 [.str "laid" 1038] [.ref 634] [dl 583 1005 383 1 "__init__" "Vault.__init__" (L2.inClass (Pv.top 96) 0) ["self"] mm7,dl 590 1012 386 3 "refuse_clash" "Vault.refuse_clash" (L2.inClass (Pv.top 96) 1) ["self","number","thing"] mm7,dl 597 1021 390 2 "lay" "Vault.lay" (L2.inClass (Pv.top 96) 2) ["self","thing","number"] mm7,dl 604 1030 396 2 "thing" "Vault.thing" (L2.inClass (Pv.top 96) 3) ["self","number"] mm7]
++c1 P mm7 618 1047 "Keeper" 400 [("things",1065,402,630)] 632 1066 [] 613 [dl 625 1059 402 1 "things" "Keeper.things" (L2.inClass (Pv.top 97) 0) ["self"] mm7]
++ [dt 637 1072 405 3 "_law_hand" 99 ["script","cell","k","way"] mm8,
dt 644 1082 410 2 "_law_draw" 100 ["hand","limit","got"] mm8,
dt 651 1091 417 2 "_law_text" 101 ["hand","most","some","text","k"] mm8,
dt 658 1102 423 1 "_law_value" 102 ["hand","kind"] mm8,
dt 665 1110 432 1 "_law_no_table" 103 ["hand","some"] mm8,
dt 672 1118 440 2 "_law_no_row" 104 ["hand","key","some","other"] mm8,
dt 679 1128 444 5 "_law_asked" 105 ["vault","root","name","value","way","caught","e"] mm8,
dt 686 1141 474 2 "_law_state" 106 ["hand","vault","root","tables","name","rows","k","row"] mm8,
dt 693 1155 488 4 "_law_others_stand" 107 ["vault","root","tables","gone","name"] mm8,
dt 700 1166 495 4 "_law_bad_table" 108 ["hand","vault","root","tables","name","bad","value","way"] mm8,
dt 707 1180 503 4 "_law_bad_name" 109 ["hand","vault","root","tables","key","bad"] mm8,
dt 714 1192 507 4 "_law_bad_row" 110 ["hand","vault","root","tables","name","fields","rows","orders","key","bad","way","one"] mm8,
dt 721 1210 519 1 "_law_holds" 111 ["script","k","cell","hand","vault","kind","root","tables"] mm8,
dt 728 1224 532 1 "law" 112 ["script","clash","got","e"] mm8]
noncomputable def RL:List (Nat ×Nat):=[(2,2),(15,1),(22,4),(28,1),(35,3),(40,1),(47,3),(52,1),(59,1),(61,2),(64,5),(71,1),(78,3),(83,1),(90,3),(95,1),(102,3),(107,1),(114,3),(119,1),(126,3),(131,1),(138,3),(143,1),(150,3),(155,1),(162,3),(167,1),(174,3),(179,1),(181,2),(184,3),(188,2),(191,3),(195,2),(198,3),(202,2),(205,3),(209,2),(212,3),(216,2),(219,3),(223,2),(226,3),(230,2),(233,3),(237,2),(240,3),(245,3),(249,2),(252,3),(256,2),(259,3),(263,2),(266,3),(270,2),(273,3),(277,2),(280,3),(284,2),(287,3),(291,2),(294,3),(298,2),(301,3),(305,2),(308,3),(312,2),(315,3),(319,2),(322,3),(326,2),(329,3),(333,2),(336,3),(340,2),(343,3),(347,2),(350,3),(354,2),(357,3),(361,2),(364,3),(368,2),(371,3),(375,2),(378,3),(382,2),(385,3),(389,2),(392,3),(396,2),(399,3),(403,2),(406,3),(410,2),(413,3),(417,2),(420,3),(424,2),(427,3),(431,2),(434,3),(438,2),(441,3),(445,2),(448,3),(453,3),(457,2),(460,3),(464,2),(467,3),(472,3),(477,3),(481,2),(484,3),(488,2),(491,3),(495,2),(498,3),(502,2),(505,3),(509,2),(512,3),(516,2),(519,3),(524,3),(528,2),(531,3),(535,2),(538,3),(542,2),(545,3),(549,2),(552,3),(556,2),(559,3),(564,3),(569,3),(574,2),(583,1),(585,2),(588,3),(592,2),(595,3),(599,2),(602,3),(606,2),(609,7),(618,1),(625,1),(627,2),(630,5),(637,1),(639,2),(642,3),(646,2),(649,3),(653,2),(656,3),(660,2),(663,3),(667,2),(670,3),(674,2),(677,3),(681,2),(684,3),(688,2),(691,3),(695,2),(698,3),(702,2),(705,3),(709,2),(712,3),(716,2),(719,3),(723,2),(726,3),(730,2),(733,2)]
noncomputable abbrev _root_.QO:=List Addr
noncomputable def KA:List Addr:=by
 refine(?g:(f:QO)->f=rgs RL->List Addr) ?f ?pf
 case g=>exact λf _=>f
 case pf=>
  conv=>rhs;reduce
noncomputable def KO:List Obj:=by
 refine(?g:(f:List Obj)->f=ka (HB P)->List Obj) ?f ?pf
 case g=>exact λf _=>f
 case pf=>
  dsimp only[HB,GE,CT,dt,dl,ds,mE,mC,cl,gD,gW,c0,c1,c2,c3,nm,cs,mm0,mm1,mm2,mm3,mm4,mm5,mm6,mm7,mm8,ka,List.cons_append,List.nil_append,List.append_nil,List.length_cons,List.length_nil,Nat.reduceAdd,Int.cast_ofNat_Int]
  rfl
noncomputable def KK:Params->Frag:=λP=>by
 refine(?g:(f:Frag)->f=kz KA (KO P)->Frag) ?f ?pf
 case g=>exact λf _=>f
 case pf=>
  conv=>rhs;delta KA KO;(repeat (whnf;arg 2));whnf
noncomputable def FL:List Obj:=wv 0 RL (kb (HB P)) ((KK P).map (·.2))
noncomputable def T0:BT:=bt 12 ((((FL P).take 15).set 3 (dO (dE P "__name__" 165 (.str "__main__" 164)::(GE P).take 8).toArray 9)).set 12 (boot_o_8 P))
noncomputable def T1:BT:=bt 12 (((((FL P).take 119).set 3 (dO (dE P "__name__" 165 (.str "papervault.errors" 187)::(GE P).take 16).toArray 17)).set 12 (fi (cs 0 (CT.take 8)).toArray)).set 24 (.mk (.type "type") none (.cls (ClassData.mk "VaultError" [.type "ValueError"] [.ref 24,.type "ValueError",.type "Exception",.type "BaseException",.type "object"] 23 "VaultError" true [] [.ref 37,.ref 49,.ref 68,.ref 80,.ref 92,.ref 104,.ref 116] false none false)) #[some (.ref 15),none,some (.str "VaultError" 189),some (.str "VaultError" 197),some (.builtin "ValueError.__new__"),some (.bool true)]))
noncomputable def T2:BT:=bt 12 ((((FL P).take 310).set 3 (dO (dE P "__name__" 165 (.str "papervault.trees" 575)::(GE P).take 50).toArray 51)).set 12 (fi (cs 0 (CT.take 32)).toArray))
noncomputable def T3:BT:=bt 12 (((((FL P).take 618).set 3 (dO (dE P "__name__" 165 (.str "papervault.vaults" 985)::(GE P).take 97).toArray 98)).set 12 (fi (cs 0 (CT.take 73)).toArray)).set 613 (.mk (.type "type") none (.cls (ClassData.mk "Vault" [.type "object"] [.ref 613,.type "object"] 612 "Vault" true [] [] false none false)) #[none,none,some (.str "Vault" 993),some (.str "Vault" 1001),some (.builtin "object.__new__"),some (.bool true)]))
noncomputable def T4:BT:=bt 12 (FL P)
noncomputable def HF:Heap:={objs:=⟨FL P⟩}
end
noncomputable abbrev PQ:Program:=PySem.Challenge.rw_papervault_k60_no_tables_no_rows.prog
noncomputable def VQ:Program:={PySem.Challenge.pw_papervault_k60_no_tables_no_rows with main:={PySem.Challenge.pw_papervault_k60_no_tables_no_rows.main with body:=[top 1,top 2,top 3,top 4,top 5,top 6,top 7,top 8,top 9,top 10,top 11,top 12,top 13,top 15,top 16,top 17,top 18,top 19,top 20,top 22,top 23,top 24,top 25,top 26,top 28,top 29,top 30,top 32,top 33,top 34,top 35,top 36,top 37,top 38,top 39,top 40,top 41,top 42,top 43,top 44,top 46,top 47,top 48,top 49,top 50,top 51,top 52,top 53,top 54,top 55,top 56,top 57,top 58,top 59,top 60,top 61,top 63,top 64,top 65,top 66,top 67,top 68,top 69,top 70,top 71,top 72,top 73,top 74,top 75,top 76,top 77,top 78,top 79,top 80,top 81,top 82,top 83,top 84,top 85,top 86,top 87,top 88,top 89,top 90,top 91,top 92,top 93,top 95,top 96,top 97,top 99,top 100,top 101,top 102,top 103,top 104,top 105,top 106,top 107,top 108,top 109,top 110,top 111,top 112]}}
noncomputable abbrev RQ:OpenRow:=OpenLaw.row PySem.Challenge.rw_papervault_k60_no_tables_no_rows
noncomputable def EV:Env:={scope:=RQ.prog.main.scope,locals:=mainNs,globals:=mainNs,cells:=[],code:=.ref 13,frame:=some 14}
noncomputable abbrev BQ:List Stmt:=behindTheImports RQ.prog
noncomputable abbrev CQ:Code:=.body BQ EV
noncomputable abbrev TQ:List Frame:=[topFrame ⟨0,0,0,0⟩]
noncomputable abbrev ST (t:BT)(n k:Nat)(os:OsState):SharedT:=⟨t,n,{}, #[],{},k,os⟩
theorem go0 (w:World):(λos=>topGo treeTable RQ.prog w 11 (some (.ref 6)) 12 {heap:=boot_heap w.params,drawn:=boot_drawn,toks:=boot_toks,os:=os} (topStub RQ.prog))=λos=>some ((ST (T0 w.params) 15 187 os).abs,⟨denote treeTable CQ,CQ,⟨0,0,0,0⟩,TQ⟩):=by kernel_rfl
theorem go1 (w:World):(λos=>segRun treeTable RQ.prog w 11 (some (.ref 6)) 1 1 (ST (T0 w.params) 15 187 os).abs (blockOf BQ EV CQ ⟨0,0,0,0⟩ TQ))=λos=>some (Flow.next,(ST (T0 w.params) 15 187 os).abs,CQ,⟨0,0,0,0⟩):=by kernel_rfl
theorem pc1 (w:World):(λos=>PySem.W.Fast.tw10110043849684766642 PySem.W.Fast.tw14364793385576792824 RQ.prog w 11 (some (.ref 6)) 1 1737 (ST (T0 w.params) 15 187 os) (piecesOf (BQ.take 9) EV CQ ⟨0,0,0,0⟩ TQ))=λos=>some (Flow.next,ST (T1 w.params) 119 330 os,CQ,⟨19,0,20,8⟩):=by kernel_rfl
theorem sg1 (w:World)(os:OsState):segRunT treeTable RQ.prog w 11 (some (.ref 6)) 1 1737 (ST (T0 w.params) 15 187 os) (piecesOf (BQ.take 9) EV CQ ⟨0,0,0,0⟩ TQ)=some (Flow.next,ST (T1 w.params) 119 330 os,CQ,⟨19,0,20,8⟩):=by rw[PySem.W.Fast.te10110043849684766642,PySem.W.Fast.te14364793385576792824];exact congrFun (pc1 w) os
theorem pc2 (w:World):(λos=>PySem.W.Fast.tw10110043849684766642 PySem.W.Fast.tw14364793385576792824 RQ.prog w 11 (some (.ref 6)) 1 1820 (ST (T1 w.params) 119 330 os) (piecesOf ((BQ.drop 9).take 39) EV CQ ⟨19,0,20,8⟩ TQ))=λos=>some (Flow.next,ST (T2 w.params) 310 597 os,CQ,⟨140,0,150,14⟩):=by kernel_rfl
theorem sg2 (w:World)(os:OsState):segRunT treeTable RQ.prog w 11 (some (.ref 6)) 1 1820 (ST (T1 w.params) 119 330 os) (piecesOf ((BQ.drop 9).take 39) EV CQ ⟨19,0,20,8⟩ TQ)=some (Flow.next,ST (T2 w.params) 310 597 os,CQ,⟨140,0,150,14⟩):=by rw[PySem.W.Fast.te10110043849684766642,PySem.W.Fast.te14364793385576792824];exact congrFun (pc2 w) os
theorem pc3 (w:World):(λos=>PySem.W.Fast.tw10110043849684766642 PySem.W.Fast.tw14364793385576792824 RQ.prog w 11 (some (.ref 6)) 1 1694 (ST (T2 w.params) 310 597 os) (piecesOf (((BQ.drop 9).drop 39).take 49) EV CQ ⟨140,0,150,14⟩ TQ))=λos=>some (Flow.next,ST (T3 w.params) 618 1047 os,CQ,⟨381,0,399,32⟩):=by kernel_rfl
theorem sg3 (w:World)(os:OsState):segRunT treeTable RQ.prog w 11 (some (.ref 6)) 1 1694 (ST (T2 w.params) 310 597 os) (piecesOf (((BQ.drop 9).drop 39).take 49) EV CQ ⟨140,0,150,14⟩ TQ)=some (Flow.next,ST (T3 w.params) 618 1047 os,CQ,⟨381,0,399,32⟩):=by rw[PySem.W.Fast.te10110043849684766642,PySem.W.Fast.te14364793385576792824];exact congrFun (pc3 w) os
theorem pc4 (w:World):(λos=>PySem.W.Fast.tw10110043849684766642 PySem.W.Fast.tw14364793385576792824 RQ.prog w 11 (some (.ref 6)) 1 746 (ST (T3 w.params) 618 1047 os) (piecesOf ((((BQ.drop 9).drop 39).drop 49).take 16) EV CQ ⟨381,0,399,32⟩ TQ))=λos=>some (Flow.next,ST (T4 w.params) 735 1234 os,CQ,⟨532,0,541,14⟩):=by kernel_rfl
theorem sg4 (w:World)(os:OsState):segRunT treeTable RQ.prog w 11 (some (.ref 6)) 1 746 (ST (T3 w.params) 618 1047 os) (piecesOf ((((BQ.drop 9).drop 39).drop 49).take 16) EV CQ ⟨381,0,399,32⟩ TQ)=some (Flow.next,ST (T4 w.params) 735 1234 os,CQ,⟨532,0,541,14⟩):=by rw[PySem.W.Fast.te10110043849684766642,PySem.W.Fast.te14364793385576792824];exact congrFun (pc4 w) os
noncomputable abbrev SF (w:World)(os:OsState):Shared:={heap:=HF w.params,toks:=1234,os:=os}
theorem goN (w:World):(λos=>topRun treeTable RQ.prog w 11 (some (.ref 6)) 3 (ST (T4 w.params) 735 1234 os).abs ⟨doneF Flow.next,CQ,⟨532,0,541,14⟩,TQ⟩)=λos=>some (SF w os):=by kernel_rfl
theorem goE:((((BQ.drop 9).drop 39).drop 49).drop 16)=[]:=by kernel_rfl
theorem goA {r:Shared}{b:List Stmt}(k:Nat)(h:topRun treeTable RQ.prog w 11 (some (.ref 6)) N s (restOf (b.take k++b.drop k) EV CQ q TQ)=some r):topRun treeTable RQ.prog w 11 (some (.ref 6)) N s (restOf b EV CQ q TQ)=some r:=by rwa[List.take_append_drop] at h
theorem runs (w:World)(os:OsState):topRun treeTable RQ.prog w 11 (some (.ref 6)) (12+(1+(1737+(1820+(1694+(746+(3))))))) {heap:=boot_heap w.params,drawn:=boot_drawn,toks:=boot_toks,os:=os} (topStub RQ.prog)=some (SF w os):=by refine go_top (congrFun (go0 w) os) ?_;refine piece_block (congrFun (go1 w) os) ?_;refine goA 9 ?_;refine piece_app (segRun_of (sg1 w os)) ?_;refine goA 39 ?_;refine piece_app (segRun_of (sg2 w os)) ?_;refine goA 49 ?_;refine piece_app (segRun_of (sg3 w os)) ?_;refine goA 16 ?_;refine piece_app (segRun_of (sg4 w os)) ?_;rw[goE];exact piece_nil (congrFun (goN w) os)
noncomputable abbrev SQ (s:Shared):=PySem.W.Fast.tw4187177175401517315 VQ [] [] (λs=>xlAt VQ [] s && recOk (RowW.records (OpenRow.toRowW RQ)) s) true s
theorem zto:[]=importedModules RQ.prog.main.body:=by kernel_rfl
theorem opn (w:World):(fencedOpening treeTable RQ.prog w 6013).map (λs=>(s.heap,s.gens,s.drawn,s.toks))=some (boot_heap w.params, #[],boot_drawn,boot_toks):=by kernel_rfl
theorem obs0 (w:World)(os:OsState):(staticsOk [] (boot_heap w.params) (HF w.params) && namesBound RQ.prog (HF w.params) && gensDone (SF w os) && laidKept (boot_heap w.params) (HF w.params))=true:=by kernel_rfl
theorem obs1 (w:World)(os:OsState):(SQ (SF w os)).1=(openGood VQ []).1:=by kernel_rfl
theorem obs2 (w:World)(os:OsState):(SQ (SF w os)).2.1=(openGood VQ []).2.1:=by kernel_rfl
theorem obs3 (w:World)(os:OsState):(SQ (SF w os)).2.2.1=(openGood VQ []).2.2.1:=by kernel_rfl
theorem obs4 (w:World)(os:OsState):(SQ (SF w os)).2.2.2.1=(openGood VQ []).2.2.2.1:=by kernel_rfl
theorem obs5 (w:World)(os:OsState):(SQ (SF w os)).2.2.2.2.1=(openGood VQ []).2.2.2.2.1:=by kernel_rfl
theorem obs6 (w:World)(os:OsState):(SQ (SF w os)).2.2.2.2.2=(openGood VQ []).2.2.2.2.2:=by kernel_rfl
theorem obs7 (w:World):KA.map (HF w.params).get? =(KK w.params).map λp=>some p.2:=by kernel_rfl
theorem left:LeftO RQ.prog VQ [] (λs=>xlAt VQ [] s && recOk (RowW.records (OpenRow.toRowW RQ)) s) (λs=>KA.map s.heap.get?) (λw=>(KK w.params).map λp=>some p.2) 6013:=by refine LeftO.of_pieces (H₀:=boot_heap) (H₁:=HF) (gs₀:= #[]) (gs₁:= #[]) (d₀:=boot_drawn) (d₁:={}) (k₀:=boot_toks) (k₁:=1234) (m₀:=11) (ann:=some (.ref 6)) (M:=12+(1+(1737+(1820+(1694+(746+(3))))))) opn (λw=>by kernel_rfl) runs (by kernel_rfl) λw=>funext λos=>?_;rw[<-zto];refine Prod.ext (obs0 w os) (Prod.ext ?_ (obs7 w));rw[PySem.W.Fast.te4187177175401517315];exact Prod.ext (obs1 w os) (Prod.ext (obs2 w os) (Prod.ext (obs3 w os) (Prod.ext (obs4 w os) (Prod.ext (obs5 w os) (obs6 w os)))))
theorem addrs:∀P,KA=(KK P).map (·.1):=λP=>by kernel_rfl
theorem said:PySem.Challenge.rw_papervault_k60_no_tables_no_rows.wellSaid=true:=by kernel_rfl
end Pv
namespace L2
open PySem PySem.Spec PyProof.Rows
noncomputable abbrev Key:=Sum Int Str
noncomputable def zfA:Key->Value->Bool
 | .inl k,v=>Value.isInt k v
 | .inr x,v=>Value.isStrOf x v
noncomputable def keyH (w:World):Key->Int
 | .inl k=>hashInt k
 | .inr x=>hashStr w x
theorem zQ:∀{k:Key} {v:Value},zfA k v=true->(∃i t,k=Sum.inl i/\v=Value.int i t)\/(∃x t,k=Sum.inr x/\v=Value.str x t)
 | .inl i,v,h=>by obtain⟨t,e⟩:=Value.isInt_shape (k:=i) (v:=v) h;exact .inl ⟨i,t,rfl,e⟩
 | .inr x,v,h=>by obtain⟨t,e⟩:=Value.isStrOf_shape (x:=x) (v:=v) h;exact .inr ⟨x,t,rfl,e⟩
theorem zlx (i:Int)(t:Tok):zfA (.inl i) (.int i t)=true:=by simp[zfA,Value.isInt]
theorem zlE (x:Str)(t:Tok):zfA (.inr x) (.str x t)=true:=by simp[zfA,Value.isStrOf]
theorem zrb (a b:Int):decide ((Sum.inl a:Key)=Sum.inl b)=(a==b):=by
 by_cases e:a=b
 ·subst e;simp
 ·have h:¬(Sum.inl a:Key)=Sum.inl b:=λq=>e (Sum.inl.inj q);rw[decide_eq_false h];exact(beq_eq_false_iff_ne.mpr e).symm
theorem zrw (a b:Str):decide ((Sum.inr a:Key)=Sum.inr b)=decide (a=b):=by
 by_cases e:a=b
 ·subst e;simp
 ·have h:¬(Sum.inr a:Key)=Sum.inr b:=λq=>e (Sum.inr.inj q);rw[decide_eq_false h,decide_eq_false e]
theorem zrH (a:Int)(b:Str):decide ((Sum.inl a:Key)=Sum.inr b)=false:=decide_eq_false (λq=>nomatch q)
theorem zrN (a:Str)(b:Int):decide ((Sum.inr a:Key)=Sum.inl b)=false:=decide_eq_false (λq=>nomatch q)
noncomputable def z7 (prog:Program)(w:World):PySem.KeyKind prog w Key where
 is:=zfA
 hash:=keyH w
 inj:=λv a b ha hb=>by
  rcases zQ ha with ⟨i,t,rfl,rfl⟩ | ⟨x,t,rfl,rfl⟩
  ·rcases zQ hb with ⟨j,u,rfl,e⟩ | ⟨y,u,rfl,e⟩
   ·injection e with e1 _;rw[e1]
   ·exact nomatch e
  ·rcases zQ hb with ⟨j,u,rfl,e⟩ | ⟨y,u,rfl,e⟩
   ·exact nomatch e
   ·injection e with e1 _;rw[e1]
 byValue:=λk v h=>by rcases zQ h with ⟨i,t,rfl,rfl⟩ | ⟨x,t,rfl,rfl⟩ <;> rfl
 pyHash:=λhv h=>by
  rcases zQ hv with ⟨i,t,rfl,rfl⟩ | ⟨x,t,rfl,rfl⟩
  ·exact wpAny_pyHash_int h
  ·exact wpAny_pyHash_str h
 eqBool:=λhu hv h=>by
  rcases zQ hu with ⟨i,t,rfl,rfl⟩ | ⟨x,t,rfl,rfl⟩
  ·rcases zQ hv with ⟨j,u,rfl,rfl⟩ | ⟨y,u,rfl,rfl⟩
   ·rw[zrb] at h;exact wpAny_eqBool_int h
   ·rw[zrH] at h;exact SeqAt.EqAt.int_str i t y u _ _ _ _ h
  ·rcases zQ hv with ⟨j,u,rfl,rfl⟩ | ⟨y,u,rfl,rfl⟩
   ·rw[zrN] at h;exact SeqAt.EqAt.str_int x t j u _ _ _ _ h
   ·rw[zrw] at h;exact wpAny_eqBool_str h
 «strs»:=λk x t v h=>by
  rcases zQ h with ⟨i,u,rfl,e⟩ | ⟨y,u,rfl,e⟩
  ·exact nomatch e
  ·injection e with e1 _
   subst e1;cases v <;> rfl
theorem ziD (prog:Program)(w:World)(i:Int)(t:Tok):(z7 prog w).is (.inl i) (.int i t)=true:=zlx i t
theorem zij (prog:Program)(w:World)(x:Str)(t:Tok):(z7 prog w).is (.inr x) (.str x t)=true:=zlE x t
end L2
namespace L2
open PySem PySem.Spec PyProof.Rows
inductive V where
 | non | bl (b:Bool) | int (i:Int) | str (x:Str) | byt (b:Array UInt8) | flt (b:UInt64) | ref (a:Addr) | ty (n:String)
 deriving DecidableEq
noncomputable def RelV:V->Value->Prop
 | .non,u=>u=Value.none
 | .bl b,u=>u=Value.bool b
 | .int i,u=>∃t,u=Value.int i t
 | .str x,u=>∃t,u=Value.str x t
 | .byt b,u=>∃t,u=Value.bytes b t
 | .flt b,u=>∃t,u=Value.float b t
 | .ref a,u=>u=Value.ref a
 | .ty n,u=>u=Value.type n
noncomputable abbrev Vals:List V->List Value->Prop:=Paired RelV
noncomputable abbrev _root_.QQ:=List V
theorem Vals.length (r:Vals xs us):xs.length=us.length:=Paired.length r
theorem Vals.get:∀{xs:QQ} {us:QN} {i:Nat} {x:V},Vals xs us->xs[i]? =some x->∃u,us[i]? =some u/\RelV x u
 | _,_,_,_,.nil,e=>by simp at e
 | _,_,0,_,.cons r _,e=>by simp at e;subst e;exact⟨_,rfl,r⟩
 | _,_,i+1,x,.cons _ t,e=>by obtain⟨u,h1,h2⟩:=Vals.get (i:=i) (x:=x) t (by simpa using e);exact⟨u,by simpa using h1,h2⟩
theorem Vals.set (r:RelV x u):∀{xs:QQ} {us:QN} (i:Nat),Vals xs us->Vals (xs.set i x) (us.set i u)
 | _,_,_,.nil=>.nil
 | _,_,0,.cons _ t=>.cons r t
 | _,_,i+1,.cons q t=>.cons q (Vals.set r i t)
theorem Vals.append:∀{xs ys:QQ} {us ws:QN},Vals xs us->Vals ys ws->Vals (xs++ys) (us++ws)
 | _,_,_,_,.nil,s=>s
 | _,_,_,_,.cons r t,s=>.cons r (Vals.append t s)
theorem Vals.take:∀{xs:QQ} {us:QN} (n:Nat),Vals xs us->Vals (xs.take n) (us.take n)
 | _,_,0,_=>.nil
 | _,_,_+1,.nil=>.nil
 | _,_,n+1,.cons r t=>.cons r (Vals.take n t)
theorem Vals.drop:∀{xs:QQ} {us:QN} (n:Nat),Vals xs us->Vals (xs.drop n) (us.drop n)
 | _,_,0,r=>r
 | _,_,_+1,.nil=>.nil
 | _,_,n+1,.cons _ t=>Vals.drop n t
noncomputable def RelO:Option V->Option Value->Prop
 | some v,some u=>RelV v u
 | none,none=>True
 | _,_=>False
noncomputable def KV {κ:Type}:List (κ ×V)->List (κ ×Value)->Prop:=Paired λ(p:κ ×V) (q:κ ×Value)=>p.1=q.1/\RelV p.2 q.2
noncomputable def kV:Key->V
 | .inl i=>.int i
 | .inr x=>.str x
noncomputable abbrev _root_.QG:=List (Key ×V)
inductive HO where
 | lst (xs:QQ)
 | tup (xs:QQ)
 | dK (kvs:QG) | dT (kvs:List (List Key ×V))
 | set (S:Int->Bool) (n:Nat)
 | ins (C dx:Addr) (fs:List (Str ×V))
 | own (x:Addr)
 | xd (fs:List (Str ×V))
 | met (f x:Addr)
 | rng (lo hi:Int)
 | frz (o:Obj) (u:HO)
 | tbl (ps:Array Value)
 | ext (φ:Heap->Prop)
noncomputable abbrev Hp:=Addr->Option HO
noncomputable def upd (H:Hp)(a:Addr)(o:HO):Hp:=λb=>if b=a then some o else H b
theorem zc:upd H a o a=some o:=by unfold upd;rw[if_pos rfl]
theorem zg {a b:Addr}(h:b≠a):upd H a o b=H b:=by unfold upd;rw[if_neg h]
theorem zky:upd (upd H a o) a u=upd H a u:=by funext b;unfold upd;split <;> rfl
theorem zal {H:Hp}{a b:Addr}{o u:HO}(h:H a=some o)(h':H b=some u)(d:o≠u):a≠b:=by intro e;subst e;rw[h] at h';exact d (Option.some.inj h')
theorem zj {H:Hp}{a b:Addr}{o:HO}(h:H a=some o)(h':H b=none):a≠b:=by intro e;subst e;rw[h] at h';cases h'
section
variable (P:Program)(w:World)
noncomputable def zF (H:Hp)(h:Heap)(a:Addr):HO->Prop
 | .lst xs=>xs.length<=sizeLine/\∃(its:QN) (n:Nat),Vals xs its/\h.get? a=some {cls:=.type "list",data:=.seq its.toArray n}
 | .tup xs=>(xs.length<=sizeLine/\∃o,h.get? a=some o/\o.dict=none)/\∃its:List Value,Vals xs its/\IsTup h a its.toArray
 | .dK kvs=>kvs.length<=sizeLine/\(a==sysModules)=false/\∃vs,KV kvs vs/\h.DictOf (z7 P w) a vs
 | .dT kvs=>kvs.length<=sizeLine/\(a==sysModules)=false/\∃xs:List (List Key ×Addr ×Value),
   Paired (λ(p:List Key ×V) (q:List Key ×Addr ×Value)=>p.1=q.1/\H q.2.1=some (.tup (p.1.map kV))/\RelV p.2 q.2.2) kvs xs/\
   ∃o es ep,h.get? a=some o/\o.ExactDict/\o.data=.dict es ep/\es.toList=xs.map (entryOfKey (tupleKind (z7 P w)))/\(xs.map (·.1)).Nodup
 | .set S n=>h.SetOf (intKind P w) a S n
 | .ins C dx fs=>H dx=some (.own a)/\fs.length<=1000/\dx≠a/\h.get? a=some (PySem.W.instObj C dx)/\
   ∃mA,h.Ns1 dx mA/\(∀f,RelO (fs.lookup f) (mA f))/\PySem.Within mA (fs.map (·.1))
 | .own _=>∃o,h.get? a=some o
 | .xd fs=>∃mA,h.Ns1 a mA/\∀f,RelO (fs.lookup f) (mA f)
 | .rng lo hi=>∃t u v,h.get? a=some {cls:=.type "range",data:=.fields #[.int lo t,.int hi u,.int 1 v]}
 | .frz o u=>h.get? a=some o/\zF H h a u
 | .tbl ps=>h.get? a=some {cls:=.none,data:=.fields ps}
 | .met f x=>h.get? a=some (PySem.W.methodObj (.ref f) (.ref x))
 | .ext φ=>φ h/\(∃o,h.get? a=some o)/\∀h1 h2:Heap,φ h1->(∀o,h1.get? a=some o->h2.get? a=some o)->φ h2
noncomputable def HOk (H:Hp)(h:Heap):Prop:=∀a o,H a=some o->zF P w H h a o
end
section
variable {P:Program}{w:World}{H H':Hp}{h h':Heap}{a:Addr}{o:HO}
theorem zF.lt (x:zF P w H h a o):a < h.objs.size:=by
 cases o with
 | lst xs=>obtain⟨_,_,_,_,e⟩:=x;exact Heap.lt_size e
 | tup xs=>obtain⟨_,_,_,p⟩:=x;exact p.lt
 | dK kvs=>obtain⟨_,_,_,_,o,_,_,e,_⟩:=x;exact Heap.lt_size e
 | dT kvs=>obtain⟨_,_,_,_,o,_,_,e,_⟩:=x;exact Heap.lt_size e
 | set S n=>obtain⟨o,_,_,_,e,_⟩:=x;exact Heap.lt_size e
 | ins C dx fs=>obtain⟨_,_,_,e,_⟩:=x;exact Heap.lt_size e
 | own y=>obtain⟨_,e⟩:=x;exact Heap.lt_size e
 | xd fs=>obtain⟨_,⟨_,_,_,e,_⟩,_⟩:=x;exact Heap.lt_size e
 | rng lo hi=>obtain⟨_,_,_,e⟩:=x;exact Heap.lt_size e
 | frz ob u=>obtain⟨e,_⟩:=x;exact Heap.lt_size e
 | tbl ps=>exact Heap.lt_size (show h.get? a=some _ from x)
 | met f y=>exact Heap.lt_size (show h.get? a=some _ from x)
 | ext φ=>obtain⟨_,⟨_,e⟩,_⟩:=x;exact Heap.lt_size e
theorem Paired.mapP {α β:Type}{F G:α->β->Prop}:∀{l₁:List α} {l₂:List β},Paired F l₁ l₂->(∀a b,F a b->G a b)->Paired G l₁ l₂
 | _,_,.nil,_=>.nil
 | _,_,.cons r t,f=>.cons (f _ _ r) (Paired.mapP t f)
theorem zF.stay (x:zF P w H h a o)(k:∀b u,(b=a\/H b=some (.own a))->h.get? b=some u->h'.get? b=some u)
  (ho:∀b,H b=some (.own a)->H' b=some (.own a)) (ht:∀b xs,H b=some (.tup xs)->H' b=some (.tup xs)):zF P w H' h' a o:=by
 induction o with
 | lst xs=>obtain⟨z,its,n,r,e⟩:=x;exact⟨z,its,n,r,k _ _ (.inl rfl) e⟩
 | tup xs=>obtain⟨⟨z,o1,e1,d1⟩,its,r,ob,e,c⟩:=x;exact⟨⟨z,o1,k _ _ (.inl rfl) e1,d1⟩,its,r,ob,k _ _ (.inl rfl) e,c⟩
 | dK kvs=>obtain⟨z,y,vs,r,ob,es,ep,e,c⟩:=x;exact⟨z,y,vs,r,ob,es,ep,k _ _ (.inl rfl) e,c⟩
 | dT kvs=>obtain⟨z,y,xs,r,ob,es,ep,e,c⟩:=x;exact⟨z,y,xs,Paired.mapP r λp q z=>⟨z.1,ht _ _ z.2.1,z.2.2⟩,ob,es,ep,k _ _ (.inl rfl) e,c⟩
 | set S n=>obtain⟨ob,es,ep,t,e,c⟩:=x;exact⟨ob,es,ep,t,k _ _ (.inl rfl) e,c⟩
 | ins C dx fs=>obtain⟨d,z,ne,e,mA,⟨od,es,ep,e2,c⟩,r⟩:=x;exact⟨ho _ d,z,ne,k _ _ (.inl rfl) e,mA,⟨od,es,ep,k _ _ (.inr d) e2,c⟩,r⟩
 | own y=>obtain⟨ob,e⟩:=x;exact⟨ob,k _ _ (.inl rfl) e⟩
 | xd fs=>obtain⟨mA,⟨od,es,ep,e,c⟩,r⟩:=x;exact⟨mA,⟨od,es,ep,k _ _ (.inl rfl) e,c⟩,r⟩
 | rng lo hi=>obtain⟨t,u,v,e⟩:=x;exact⟨t,u,v,k _ _ (.inl rfl) e⟩
 | frz ob u ih=>obtain⟨e,q⟩:=x;exact⟨k _ _ (.inl rfl) e,ih q⟩
 | tbl ps=>have e:h.get? a=some {cls:=.none,data:=.fields ps}:=x;show h'.get? a=some {cls:=.none,data:=.fields ps};exact k a _ (.inl rfl) e
 | met f y=>have e:h.get? a=some (PySem.W.methodObj (.ref f) (.ref y)):=x;show h'.get? a=some (PySem.W.methodObj (.ref f) (.ref y));exact k a _ (.inl rfl) e
 | ext φ=>obtain⟨p,⟨o,e⟩,st⟩:=x;exact⟨st _ _ p λo q=>k _ _ (.inl rfl) q,⟨o,k _ _ (.inl rfl) e⟩,st⟩
theorem HOk.lt (x:HOk P w H h)(e:H a=some o):a < h.objs.size:=(x a o e).lt
noncomputable abbrev _root_.Je:=@absurd
noncomputable abbrev _root_.Jf:=@Nat.lt_of_lt_of_le
noncomputable abbrev _root_.Ju:=@Nat.lt_irrefl
theorem HOk.fresh (x:HOk P w H h)(e:h.objs.size<=a):H a=none:=by
 cases q:H a with
 | none=>rfl
 | some u=>exact Je (Jf (x.lt q) e) (Ju _)
theorem HOk.kept (x:HOk P w H h)(k:∀b u,h.get? b=some u->h'.get? b=some u):HOk P w H h':=λa o e=>
 (x a o e).stay (λb u _ q=>k b u q) (λ_ q=>q) λ_ _ q=>q
theorem HOk.laid (x:HOk P w H h)(k:∀b u,h.get? b=some u->h'.get? b=some u)(hp:h.objs.size<=a)(new:zF P w (upd H a o) h' a o):HOk P w (upd H a o) h':=λb u e=>by
 have hn:=x.fresh hp;by_cases hb:b=a
 ·subst hb;rw[zc] at e;cases e;exact new
 ·rw[zg hb] at e;exact(x b u e).stay (λc v _ q=>k c v q) (λc q=>by rw[zg (zj q hn)];exact q) λc xs q=>by rw[zg (zj q hn)];exact q
end
noncomputable def Rd (H:Hp)(a:Addr)(u:HO):Prop:=H a=some u\/∃o,H a=some (.frz o u)
theorem Rd.ok (r:Rd H a u)(x:HOk P w H h):zF P w H h a u:=by
 rcases r with r | ⟨o,r⟩
 ·exact x a u r
 ·obtain⟨_,q⟩:=x a _ r;exact q
noncomputable def Mut:Option HO->Prop
 | some (.lst _)=>True
 | some (.dK _)=>True
 | some (.dT _)=>True
 | some (.set _ _)=>True
 | some (.ins _ _ _)=>True
 | some (.ext _)=>True
 | _=>False
section
variable {P:Program}{w:World}{H:Hp}{h h':Heap}{x e:Addr}{o':HO}
theorem HOk.write (ok:HOk P w H h)(mu:Mut (H x))(he:e=x\/H e=some (.own x))(k:∀b u,b≠e->h.get? b=some u->h'.get? b=some u)(heo:∃u,h'.get? e=some u)
  (new:zF P w (upd H x o') h' x o'):HOk P w (upd H x o') h':=λb u q=>by
 have nown:∀c y,H c=some (.own y)->c≠x:=λc y r z=>by subst z;rw[r] at mu;exact mu
 have ntup:∀c xs,H c=some (.tup xs)->c≠x:=λc xs r z=>by subst z;rw[r] at mu;exact mu
 by_cases hb:b=x
 ·subst hb;rw[zc] at q;cases q;exact new
 ·rw[zg hb] at q;by_cases hbe:b=e
  ·have q':H b=some (.own x):=by
    rcases he with z | z
    ·exact Je (hbe.trans z) hb
    ·rw[hbe];exact z
   rw[q] at q';cases q';obtain⟨v,hv⟩:=heo;exact⟨v,by rw[hbe];exact hv⟩
  ·refine(ok b u q).stay (λc v hc r=>k c v ?_ r) (λc r=>by rw[zg (nown c b r)];exact r) λc xs r=>by rw[zg (ntup c xs r)];exact r
   rcases hc with rfl | hc
   ·exact hbe
   ·rintro rfl;rcases he with z | z
    ·exact nown c b hc z
    ·rw[hc] at z;cases z;exact hb rfl
end
structure Un (fs ex:QO)(H H':Hp)(h h':Heap):Prop where
 keep:∀b o,h.get? b=some o->H b=none->b∉fs->b∉ex->h'.get? b=some o
 slot:∀b o,h.get? b=some o->H b=none->b∈fs->b∉ex->∃sl,h'.get? b=some {o with slots:=sl}
 free:∀b o,h.get? b=some o->H b=none->b∉ex->H' b=none
 there:∀b o,h.get? b=some o->b∉ex->∃o',h'.get? b=some o'
 tups:∀b xs,H b=some (.tup xs)->H' b=some (.tup xs)
 frzs:∀b o u,H b=some (.frz o u)->H' b=some (.frz o u)
 tbls:∀b ps,H b=some (.tbl ps)->∃more,H' b=some (.tbl (ps++more))
section
variable {fs fs' ex ex':QO}{H H1 H2:Hp}{h h1 h2 h':Heap}{a x e:Addr}{o:HO}
theorem Un.any (u:Un fs ex H H1 h h1){ob:Obj}(q:h.get? b=some ob)(n:H b=none)(hx:b∉ex):∃sl,h1.get? b=some {ob with slots:=sl}:=by
 by_cases hb:b∈fs
 ·exact u.slot b ob q n hb hx
 ·exact⟨ob.slots,u.keep b ob q n hb hx⟩
theorem Un.trans (a:Un fs ex H H1 h h1)(b:Un fs ex H1 H2 h1 h2):Un fs ex H H2 h h2 where
 keep:=λc ob q n hc hx=>b.keep c ob (a.keep c ob q n hc hx) (a.free c ob q n hx) hc hx
 slot:=λc ob q n hc hx=>by obtain⟨sl,e1⟩:=a.slot c ob q n hc hx;obtain⟨sl',e2⟩:=b.slot c _ e1 (a.free c ob q n hx) hc hx;exact⟨sl',e2⟩
 free:=λc ob q n hx=>by obtain⟨o',e1⟩:=a.there c ob q hx;exact b.free c o' e1 (a.free c ob q n hx) hx
 there:=λc ob q hx=>by obtain⟨o',e1⟩:=a.there c ob q hx;exact b.there c o' e1 hx
 tups:=λc xs q=>b.tups c xs (a.tups c xs q)
 frzs:=λc ob xs q=>b.frzs c ob xs (a.frzs c ob xs q)
 tbls:=λc ps q=>by obtain⟨m1,e1⟩:=a.tbls c ps q;obtain⟨m2,e2⟩:=b.tbls c _ e1;exact⟨m1++m2,by rw[e2,Array.append_assoc]⟩
theorem Un.kept (k:∀b u,h.get? b=some u->h'.get? b=some u):Un fs ex H H h h':=
 ⟨λb ob q _ _ _=>k b ob q,λb ob q _ _ _=>⟨ob.slots,k b ob q⟩,λ_ _ _ n _=>n,λb ob q _=>⟨ob,k b ob q⟩,λ_ _ q=>q,λ_ _ _ q=>q,λ_ ps q=>⟨#[],by rw[q];simp⟩⟩
theorem Un.refl:Un fs ex H H h h:=Un.kept λ_ _ q=>q
noncomputable abbrev _root_.Jg:=@Nat.ne_of_lt
theorem Un.laid (k:∀b u,h.get? b=some u->h'.get? b=some u)(hp:h.objs.size<=a)(hn:H a=none):Un fs ex H (upd H a o) h h' where
 keep:=λb u q _ _ _=>k b u q
 slot:=λb u q _ _ _=>⟨u.slots,k b u q⟩
 free:=λb u q n _=>by rw[zg (Jg (Jf (Heap.lt_size q) hp))];exact n
 there:=λb u q _=>⟨u,k b u q⟩
 tups:=λb xs q=>by rw[zg (zj q hn)];exact q
 frzs:=λb u xs q=>by rw[zg (zj q hn)];exact q
 tbls:=λb ps q=>⟨#[],by rw[zg (zj q hn),q];simp⟩
theorem Un.write (mu:Mut (H x))(he:e=x\/H e=some (.own x))(k:∀b u,b≠e->h.get? b=some u->h'.get? b=some u)(heo:∃u,h'.get? e=some u):Un fs ex H (upd H x o) h h':=by
 have hx:∀b,H b=none->b≠x:=λb n z=>by subst z;rw[n] at mu;exact mu
 have hb:∀b,H b=none->b≠e:=λb n z=>by
  subst z;rcases he with r | r
  ·exact hx b n r
  ·rw[n] at r;cases r
 have hm:∀b u,H b=some u->¬Mut (some u)->b≠x:=λb u q nm z=>by subst z;rw[q] at mu;exact nm mu
 refine⟨λb u q n _ _=>k b u (hb b n) q,λb u q n _ _=>⟨u.slots,k b u (hb b n) q⟩,λb u q n _=>by rw[zg (hx b n)];exact n,λb u q _=>?_,
  λb xs q=>by rw[zg (hm b _ q λz=>z)];exact q,λb u xs q=>by rw[zg (hm b _ q λz=>z)];exact q,λb ps q=>⟨#[],by rw[zg (hm b _ q λz=>z),q];simp⟩⟩
 by_cases hbe:b=e
 ·subst hbe;exact heo
 ·exact⟨u,k b u hbe q⟩
end
noncomputable def trk (h:Heap)(H:Hp):List Addr:=(List.range h.objs.size).filter λa=>(H a).isSome
noncomputable def hidT (h:Heap)(H:Hp):Heap:=PySem.W.hideAll h (trk h H)
theorem zlj (h:Heap)(H:Hp):(hidT h H).objs.size=h.objs.size:=PySem.W.hideAll_size _ _
noncomputable abbrev _root_.Jo:=@List.mem_filter
theorem zn0 {h:Heap}{H:Hp}{b:Addr}{o:Obj}(e:h.get? b=some o)(n:H b=none):(hidT h H).get? b=some o:=
 PySem.W.hideAll_get _ e λhm=>by have q:(H b).isSome=true:=(Jo.mp hm).2;rw[n] at q;simp at q
theorem zo5 {b:Addr}{o:Obj}(e:(hidT h H).get? b=some o):h.get? b=some o/\H b=none:=by
 have e':h.get? b=some o:=PySem.W.of_hideAll (trk h H) e;refine⟨e',?_⟩;cases q:H b with
 | none=>rfl
 | some x=>have hm:b∈trk h H:=Jo.mpr ⟨List.mem_range.mpr (Heap.lt_size e'),by simp[q]⟩;have z:(hidT h H).get? b=none:=PySem.W.hideAll_none (trk h H) hm;rw[z] at e;cases e
noncomputable def zpN (g h:Heap)(L:Addr):List (Addr ×Obj):=(List.range h.objs.size).filterMap λa=>if a=L\/(g.get? a).isSome=true then none else(h.get? a).map λo=>(a,o)
noncomputable def rest (g h:Heap)(L d:Addr):List (Addr ×Obj):=(zpN g h L).filter λp=>decide (p.1≠d)
end L2
namespace L2
open PySem PySem.Spec PyProof.Rows
noncomputable abbrev _root_.QA:=PySem.W.Frag
noncomputable abbrev _root_.QB:=Str->Option Value
structure Mod (K:QA)(mg:QB)(base:Heap):Prop where
 kin:K.In base
 glob:base.Ns mainGlobals mg
 blt:∃mb,base.Ns builtinsNs mb/\∀x:Str,x≠ "__name__" ->mb x=bootBuiltins x
 nolimit:base.NoLimit
structure Cx where
 prog:Program
 w:World
 K:QA
 mg:Str->Option Value
 base:Heap
 A:Around
 N:List Str
 s₀:Shared
 H₀:Hp
 env:Env
 outer:List Env
 stack:List Env
 ex:List Addr
 fn:Str->Bool
 calm:Bool
 pn:List (Addr ×Obj)
 xe:Value->Shared->Prop
noncomputable def frs (l:List Env):List Addr:=l.filterMap (·.frame)
noncomputable abbrev Cx.fs (X:Cx):List Addr:=frs X.outer
noncomputable def Vis (sc:Scope)(x:Str):Prop:=sc.names.lookup x=some .local\/sc.names.lookup x=some .cell\/sc.names.lookup x=some .free
noncomputable def Loc (sc:Scope)(x:Str):Prop:=sc.names.lookup x=some .local\/sc.names.lookup x=some .cell
noncomputable def Look (env:Env)(h:Heap)(m:QB)(x:Str)(u:Value):Prop:=
 (env.kindOf x=some .local/\m x=some u)\/((env.kindOf x=some .cell\/env.kindOf x=some .free)/\∃c,env.cells.lookup x=some c/\h.IsCell c (some u))
structure Cx.Ok (X:Cx):Prop where
 mod:Mod X.K X.mg X.base
 kind:X.env.scope.kind=.function
 glob:X.env.globals=mainGlobals
 blt:X.env.builtins=builtinsNs
 above:X.s₀.heap.objs.size<=X.env.locals
 inj:∀x y c,X.env.cells.lookup x=some c->X.env.cells.lookup y=some c->x=y
 has:∀x,(X.env.kindOf x=some .cell\/X.env.kindOf x=some .free)->∃c,X.env.cells.lookup x=some c
 cab:∀x c,X.fn x=true->X.env.cells.lookup x=some c->X.s₀.heap.objs.size<=c
 hd:X.calm=true->X.A.handled=none
 frames:X.A.frames=some X.stack
 stk:X.stack=X.outer\/(X.stack=X.env::X.outer/\X.env.frame=some X.env.locals)
 exf:∀b∈X.ex,b≠X.env.locals/\∀x c,X.env.cells.lookup x=some c->c≠b
 bs:∀b o,X.base.get? b=some o->X.s₀.heap.get? b=some o/\X.H₀ b=none
 bsz:X.base.objs.size<=X.s₀.heap.objs.size
 noex:∀b o,X.base.get? b=some o->b∉X.ex
 exfs:∀b∈X.ex,b∉X.fs
 funs:X.s₀.heap.FunFrames X.base X.outer
 frf:∀b∈X.fs,X.H₀ b=none
noncomputable abbrev _root_.QE:=List (Addr ×Obj)
structure Inv (X:Cx)(pins:QE)(σ:List (Option V))(H:Hp)(s:Shared):Prop where
 ok:X.Ok
 os:s.os=X.s₀.os
 bare:AllBare s.gens
 base:Un X.fs X.ex X.H₀ H X.s₀.heap s.heap
 loc:∃m,s.heap.Ns X.env.locals m/\∀(i:Nat) (x:Str) (v:V),X.N[i]? =some x->σ[i]? =some (some v)->Vis X.env.scope x->∃u,RelV v u/\Look X.env s.heap m x u
 cell:∀x c,X.env.cells.lookup x=some c->∃v,s.heap.IsCell c v
 free:H X.env.locals=none
 freeC:∀x c,X.env.cells.lookup x=some c->H c=none
 pin:∀p∈X.pn++pins,s.heap.get? p.1=some p.2/\H p.1=none/\p.1≠X.env.locals/\p.1∉X.fs/\∀v,p.2.data≠ .cell v
 hok:HOk X.prog X.w H s.heap
 len:σ.length=X.N.length
section
variable {X:Cx}{pins:QE}{σ:List (Option V)}{H H':Hp}{s:Shared}{h':Heap}
theorem Cx.Ok.nofr (ok:X.Ok){o:Obj}(e:X.base.get? b=some o):b∉X.fs:=λhb=>by have:=(ok.funs.mem hb).1;rw[e] at this;cases this
theorem Inv.bs (I:Inv X pins σ H s):∀b o,X.base.get? b=some o->s.heap.get? b=some o/\H b=none:=λb o e=>
 ⟨I.base.keep b o (I.ok.bs b o e).1 (I.ok.bs b o e).2 (I.ok.nofr e) (I.ok.noex b o e),I.base.free b o (I.ok.bs b o e).1 (I.ok.bs b o e).2 (I.ok.noex b o e)⟩
theorem Inv.bk (I:Inv X pins σ H s):∀b o,X.base.get? b=some o->s.heap.get? b=some o:=λb o e=>(I.bs b o e).1
theorem Inv.mod (I:Inv X pins σ H s):Mod X.K X.mg X.base:=I.ok.mod
theorem Inv.kIn (I:Inv X pins σ H s):X.K.In s.heap:=I.ok.mod.kin.keeps I.bk
theorem Inv.lt (I:Inv X pins σ H s):X.env.locals < s.heap.objs.size:=let ⟨_,hn,_⟩:=I.loc;hn.lt
noncomputable abbrev _root_.Ji:=@Nat.le_trans
theorem Inv.sz (I:Inv X pins σ H s):X.s₀.heap.objs.size<=s.heap.objs.size:=Ji I.ok.above (Nat.le_of_lt I.lt)
theorem Inv.nofs (I:Inv X pins σ H s){a:Addr}(h:s.heap.objs.size<=a):a∉X.fs:=λhb=>by obtain⟨_,o,ho,_⟩:=I.ok.funs.mem hb;exact Je (Jf (Heap.lt_size ho) (Ji I.sz h)) (Ju _)
theorem Inv.cne (I:Inv X pins σ H s):∀x c,X.env.cells.lookup x=some c->c≠X.env.locals:=λx c e z=>by obtain⟨v,o,ho,hd⟩:=I.cell x c e;obtain⟨m,⟨o',es,ep,ho',hd',_⟩,_⟩:=I.loc;rw[z,ho'] at ho;cases ho;rw[hd'] at hd;cases hd
noncomputable abbrev _root_.Jd:=@List.mem_cons_of_mem
theorem Inv.funs (I:Inv X pins σ H s):s.heap.FunFrames X.base X.outer:=by
 have all:∀(l:List Env),(∀b∈frs l,b∈X.fs)->X.s₀.heap.FunFrames X.base l->s.heap.FunFrames X.base l:=by
  intro l
  induction l with
  | nil=>intro _ _;trivial
  | cons env r ih=>intro hs hl;obtain⟨hk,⟨L,o,hf,hn,ho,hd⟩,hr⟩:=hl;have hL:L∈X.fs:=hs L (by unfold frs;rw[List.filterMap_cons,hf];exact List.mem_cons_self);obtain⟨sl,e⟩:=I.base.slot L o ho (I.ok.frf L hL) hL λz=>I.ok.exfs L z hL;exact⟨hk,⟨L,_,hf,hn,e,hd⟩,ih (λb hb=>hs b (by unfold frs;rw[List.filterMap_cons,hf];exact Jd _ hb)) hr⟩
 exact all X.outer (λ_ hb=>hb) I.ok.funs
theorem Inv.stack (I:Inv X pins σ H s):s.heap.FunFrames X.base X.stack:=by
 rcases I.ok.stk with e | ⟨e,hf⟩
 ·rw[e];exact I.funs
 ·rw[e];obtain⟨m,hn,_⟩:=I.loc;refine .cons (by rw[I.ok.kind];decide) hf hn ?_ I.funs;exact Heap.get?_none_of_le (Ji I.ok.bsz I.ok.above)
theorem Inv.stkSub (I:Inv X pins σ H s):∀b∈frs X.stack,b∈X.env.locals::X.fs:=λb hb=>by
 rcases I.ok.stk with e | ⟨e,hf⟩
 ·rw[e] at hb;exact Jd _ hb
 ·rw[e] at hb;unfold frs at hb;rw[List.filterMap_cons,hf] at hb;exact hb
theorem Inv.stkFree (I:Inv X pins σ H s):∀b∈frs X.stack,H b=none:=λb hb=>by
 rcases List.mem_cons.mp (I.stkSub b hb) with e | hb
 ·rw[e];exact I.free
 ·obtain⟨_,o,ho,_⟩:=I.ok.funs.mem hb;exact I.base.free b o ho (I.ok.frf b hb) λz=>I.ok.exfs b z hb
theorem Inv.step {t':Nat}{d':Drawn}{ch:QO}(I:Inv X pins σ H s)
  (hch:∀b∈ch,(b∈X.ex\/X.s₀.heap.objs.size<=b)/\b≠X.env.locals/\(∀x c,X.env.cells.lookup x=some c->c≠b)/\∀p∈X.pn++pins,p.1≠b)
  (keep:∀b o,b≠X.env.locals->b∉X.fs->b∉ch->s.heap.get? b=some o->H b=none->h'.get? b=some o)
  (slot:∀b o,b≠X.env.locals->b∈X.fs->b∉ch->s.heap.get? b=some o->H b=none->∃sl,h'.get? b=some {o with slots:=sl}) (free:∀b o,b∉ch->s.heap.get? b=some o->H b=none->H' b=none)
  (there:∀b o,b∉ch->s.heap.get? b=some o->∃o',h'.get? b=some o')
  (tups:∀b xs,H b=some (.tup xs)->H' b=some (.tup xs)) (frzs:∀b o u,H b=some (.frz o u)->H' b=some (.frz o u)) (tbls:∀b ps,H b=some (.tbl ps)->∃more,H' b=some (.tbl (ps++more)))
  (ns:∀m,s.heap.Ns X.env.locals m->h'.Ns X.env.locals m) (hok:HOk X.prog X.w H' h') (hg:AllBare g'):
  Inv X pins σ H' {s with heap:=h',gens:=g',drawn:=d',toks:=t'}:=by
 have neL:∀b o,X.s₀.heap.get? b=some o->b≠X.env.locals:=λb o e=>Jg (Jf (Heap.lt_size e) I.ok.above);have neC:∀b o,X.s₀.heap.get? b=some o->b∉X.ex->b∉ch:=λb o e hx hb=>by
  rcases(hch b hb).1 with z | z
  ·exact hx z
  ·exact Je (Jf (Heap.lt_size e) z) (Ju _)
 have cellK:∀x c,X.env.cells.lookup x=some c->∀v,s.heap.IsCell c v->h'.IsCell c v:=λx c e v ⟨o,ho,hd⟩=>by
  have nch:c∉ch:=λz=>(hch c z).2.2.1 x c e rfl;by_cases hc:c∈X.fs
  ·obtain⟨sl,q⟩:=slot c o (I.cne x c e) hc nch ho (I.freeC x c e);exact⟨_,q,hd⟩
  ·exact⟨o,keep c o (I.cne x c e) hc nch ho (I.freeC x c e),hd⟩
 refine⟨I.ok,I.os,hg,⟨λb o e n hb hx=>?_,λb o e n hb hx=>?_,λb o e n hx=>?_,λb o e hx=>?_,λb xs e=>tups b xs (I.base.tups b xs e),λb o xs e=>frzs b o xs (I.base.frzs b o xs e),λb ps e=>?_⟩,?_,λx c e=>?_,?_,λx c e=>?_,λp hp=>?_,hok,I.len⟩
 ·exact keep b o (neL b o e) hb (neC b o e hx) (I.base.keep b o e n hb hx) (I.base.free b o e n hx)
 ·obtain⟨sl,e1⟩:=I.base.slot b o e n hb hx;obtain⟨sl',e2⟩:=slot b _ (neL b o e) hb (neC b o e hx) e1 (I.base.free b o e n hx);exact⟨sl',e2⟩
 ·obtain⟨o',e1⟩:=I.base.there b o e hx;exact free b o' (neC b o e hx) e1 (I.base.free b o e n hx)
 ·obtain⟨o',e1⟩:=I.base.there b o e hx;exact there b o' (neC b o e hx) e1
 ·obtain⟨m1,e1⟩:=I.base.tbls b ps e;obtain⟨m2,e2⟩:=tbls b _ e1;exact⟨m1++m2,by rw[e2,Array.append_assoc]⟩
 ·obtain⟨m,hn,hl⟩:=I.loc;refine⟨m,ns m hn,λi x v e1 e2 e3=>?_⟩;obtain⟨u,r,l⟩:=hl i x v e1 e2 e3;refine⟨u,r,?_⟩;rcases l with l | ⟨k,c,e,z⟩
  ·exact .inl l
  ·exact .inr ⟨k,c,e,cellK x c e _ z⟩
 ·obtain⟨v,z⟩:=I.cell x c e;exact⟨v,cellK x c e v z⟩
 ·obtain⟨m,⟨o,_,_,ho,_⟩,_⟩:=I.loc;exact free _ o (λz=>(hch _ z).2.1 rfl) ho I.free
 ·obtain⟨v,o,ho,hd⟩:=I.cell x c e;exact free c o (λz=>(hch c z).2.2.1 x c e rfl) ho (I.freeC x c e)
 ·obtain⟨e,n,ne,nf,d⟩:=I.pin p hp;have nch:p.1∉ch:=λz=>(hch p.1 z).2.2.2 p hp rfl;exact⟨keep p.1 p.2 ne nf nch e n,free p.1 p.2 nch e n,ne,nf,d⟩
theorem Inv.un {t':Nat}(I:Inv X pins σ H s)(u:Un X.fs [] H H' s.heap h')(hok:HOk X.prog X.w H' h'):Inv X pins σ H' {s with heap:=h',toks:=t'}:=by
 obtain⟨m,⟨o,es,ep,ho,r⟩,_⟩:=id I.loc;obtain⟨sl,hL⟩:=u.any ho I.free (by simp);exact I.step (g':=s.gens) (d':=s.drawn) (ch:=[]) (λ_ z=>nomatch z) (λb o _ hb _ e n=>u.keep b o e n hb (by simp)) (λb o _ hb _ e n=>u.slot b o e n hb (by simp)) (λb o _ e n=>u.free b o e n (by simp)) (λb o _ e=>u.there b o e (by simp)) u.tups u.frzs u.tbls (λm' hm=>by
  obtain⟨o',es',ep',ho',r'⟩:=hm;rw[ho] at ho';cases ho';exact⟨_,es',ep',hL,r'⟩) hok I.bare
theorem Inv.call {t':Nat}{d':Drawn}{ch:QO}(I:Inv X pins σ H s)(u:Un (frs X.stack) ch H H' s.heap h')(hok:HOk X.prog X.w H' h')(hg:AllBare g')
  (hch:∀b∈ch,(b∈X.ex\/X.s₀.heap.objs.size<=b)/\b≠X.env.locals/\(∀x c,X.env.cells.lookup x=some c->c≠b)/\∀p∈X.pn++pins,p.1≠b):
  Inv X pins σ H' {s with heap:=h',gens:=g',drawn:=d',toks:=t'}:=by
 obtain⟨m,⟨o,es,ep,ho,r⟩,_⟩:=id I.loc;obtain⟨sl,hL⟩:=u.any ho I.free λz=>(hch _ z).2.1 rfl;exact I.step (ch:=ch) hch (λb o hL hb hc e n=>u.keep b o e n (λz=>(List.mem_cons.mp (I.stkSub b z)).elim hL hb) hc) (λb o _ _ hc e n=>u.any e n hc) (λb o hc e n=>u.free b o e n hc) (λb o hc e=>u.there b o e hc) u.tups u.frzs u.tbls (λm' hm=>by
  obtain⟨o',es',ep',ho',r'⟩:=hm;rw[ho] at ho';cases ho';exact⟨_,es',ep',hL,r'⟩) hok hg
theorem Inv.turned {t':Nat}{it:Addr}(I:Inv X pins σ H s)(k:∀b o,b≠it->s.heap.get? b=some o->h'.get? b=some o)(hn:H it=none)(hL:it≠X.env.locals)
  (h1:it∈X.ex\/X.s₀.heap.objs.size<=it) (h2:∀x c,X.env.cells.lookup x=some c->c≠it) (h3:∀p∈X.pn++pins,p.1≠it):Inv X pins σ H {s with heap:=h',toks:=t'}:=by
 have nit:∀b u,H b=some u->b≠it:=λb u e z=>by rw[z,hn] at e;cases e
 refine I.step (g':=s.gens) (d':=s.drawn) (ch:=[it]) (λb hb=>?_) (λb o _ _ hc e _=>k b o (λz=>hc (by simp[z])) e) (λb o _ _ hc e _=>⟨o.slots,k b o (λz=>hc (by simp[z])) e⟩) (λ_ _ _ _ n=>n)
  (λb o hc e=>⟨o,k b o (λz=>hc (by simp[z])) e⟩) (λ_ _ e=>e) (λ_ _ _ e=>e) (λb ps e=>⟨#[],by rw[e];simp⟩) (λm hm=>?_) (λb u e=>?_) I.bare
 ·have e:b=it:=by simpa using hb
  subst e;exact⟨h1,hL,h2,h3⟩
 ·obtain⟨o,es,ep,ho,r⟩:=hm;exact⟨o,es,ep,k _ o (Ne.symm hL) ho,r⟩
 ·refine(I.hok b u e).stay (λc v hc q=>k c v ?_ q) (λ_ q=>q) λ_ _ q=>q;rcases hc with z | z
  ·rw[z];exact nit b u e
  ·exact nit c _ z
theorem Inv.tok (I:Inv X pins σ H s)(t:Nat):Inv X pins σ H {s with toks:=t}:=I.un (h':=s.heap) (t':=t) Un.refl I.hok
theorem Inv.kept {t':Nat}(I:Inv X pins σ H s)(k:∀b u,s.heap.get? b=some u->h'.get? b=some u):Inv X pins σ H {s with heap:=h',toks:=t'}:=I.un (Un.kept k) (I.hok.kept k)
theorem Inv.laid {a:Addr}{t':Nat}(I:Inv X pins σ H s)(k:∀b u,s.heap.get? b=some u->h'.get? b=some u)(hp:s.heap.objs.size<=a)(new:zF X.prog X.w (upd H a o) h' a o):
  Inv X pins σ (upd H a o) {s with heap:=h',toks:=t'}:=I.un (Un.laid k hp (I.hok.fresh hp)) (I.hok.laid k hp new)
theorem Inv.write {e:Addr}{t':Nat}(I:Inv X pins σ H s)(mu:Mut (H x))(he:e=x\/H e=some (.own x))(k:∀b u,b≠e->s.heap.get? b=some u->h'.get? b=some u)(heo:∃u,h'.get? e=some u)
  (new:zF X.prog X.w (upd H x o) h' x o):Inv X pins σ (upd H x o) {s with heap:=h',toks:=t'}:=I.un (Un.write mu he k heo) (I.hok.write mu he k heo new)
noncomputable abbrev _root_.Jp:=@List.mem_append_left
theorem Inv.pins_of {pins':QE}(I:Inv X pins σ H s)(h:∀p∈pins',s.heap.get? p.1=some p.2/\H p.1=none/\p.1≠X.env.locals/\p.1∉X.fs/\∀v,p.2.data≠ .cell v):Inv X pins' σ H s:=
 ⟨I.ok,I.os,I.bare,I.base,I.loc,I.cell,I.free,I.freeC,λp hp=>(List.mem_append.mp hp).elim (λz=>I.pin p (Jp _ z)) (h p),I.hok,I.len⟩
theorem zfb {N:QP}(hN:N.Nodup){i j:Nat}{x:Str}(a:N[i]? =some x)(b:N[j]? =some x):i=j:=by obtain⟨h1,e1⟩:=List.getElem?_eq_some_iff.mp a;obtain⟨h2,e2⟩:=List.getElem?_eq_some_iff.mp b;exact(List.getElem_inj hN).mp (e1.trans e2.symm)
noncomputable abbrev _root_.QC:=Value->Shared->Prop
noncomputable abbrev _root_.QD:=Unit->Shared->Prop
theorem zlq {i:Nat}{x:Str}{Q:QD}(I:Inv X pins σ H s)(hN:X.N.Nodup)(hi:X.N[i]? =some x)(hx:Loc X.env.scope x)(r:RelV v u)
  (h:∀s',Inv X pins (σ.set i (some v)) H s'->(∃a,Heap.SameBut a s.heap s'.heap/\(a=X.env.locals\/X.env.cells.lookup x=some a))->Q () s') (hf:X.fn x=true\/X.env.scope.names.lookup x=some .local:=by first | exact .inl rfl | exact .inr rfl | assumption):wpAny M A (storeName X.env x u) Q E s:=by
 obtain⟨m,hn,hl⟩:=id I.loc;have hcls:(X.env.scope.kind==.class || (X.env.scope.kind==.module && X.env.locals !=X.env.globals))=false:=by rw[I.ok.kind];rfl
 have hiσ:i < σ.length:=by rw[I.len];exact(List.getElem?_eq_some_iff.mp hi).1
 have cne:=I.cne;have tracked:∀{a:Addr} {h':Heap},(∃o,s.heap.get? a=some o/\H a=none)->Heap.SameBut a s.heap h'->HOk X.prog X.w H h':=λ{a h'} ha hs b ob e=>by
  obtain⟨_,_,hfree⟩:=ha;refine(I.hok b ob e).stay (λc w' hc q=>(hs.2 c ?_).trans q) (λ_ q=>q) λ_ _ q=>q;rintro rfl;rcases hc with rfl | hc
  ·rw[hfree] at e;cases e
  ·rw[hfree] at hc;cases hc
 rcases hx with hk | hk
 ·refine wpAny_storeName_local hk hn (λh' hn' hs=>?_) hcls;obtain⟨oL,_,_,hoL,_⟩:=id hn;refine h _ ⟨I.ok,I.os,I.bare,⟨λb o e n hb hx=>?_,λb o e n hb hx=>?_,I.base.free,λb o e hx=>?_,I.base.tups,I.base.frzs,I.base.tbls⟩,⟨_,hn',λj y v' e1 e2 e3=>?_⟩,λy c e=>?_,I.free,I.freeC,λp hp=>?_,tracked ⟨oL,hoL,I.free⟩ hs,by simpa using I.len⟩ ⟨_,hs,.inl rfl⟩
  ·exact(hs.2 b (Jg (Jf (Heap.lt_size e) I.ok.above))).trans (I.base.keep b o e n hb hx)
  ·obtain⟨sl,e1⟩:=I.base.slot b o e n hb hx;exact⟨sl,(hs.2 b (Jg (Jf (Heap.lt_size e) I.ok.above))).trans e1⟩
  ·obtain⟨o',e1⟩:=I.base.there b o e hx;exact⟨o',(hs.2 b (Jg (Jf (Heap.lt_size e) I.ok.above))).trans e1⟩
  ·by_cases hj:j=i
   ·subst hj;rw[hi] at e1;cases e1;rw[List.getElem?_set_self hiσ] at e2;cases e2;exact⟨u,r,.inl ⟨hk,by simp⟩⟩
   ·rw[List.getElem?_set_ne (Ne.symm hj)] at e2;obtain⟨u',r',q⟩:=hl j y v' e1 e2 e3;refine⟨u',r',?_⟩;rcases q with ⟨k,e⟩ | ⟨k,c,e,z⟩
    ·refine .inl ⟨k,?_⟩;have:y≠x:=λe=>hj (zfb hN e1 (e ▸ hi));simp[this,e]
    ·exact .inr ⟨k,c,e,z.sameBut hs (cne y c e)⟩
  ·obtain⟨w',z⟩:=I.cell y c e;exact⟨w',z.sameBut hs (cne y c e)⟩
  ·obtain⟨e,n,ne,nf,d⟩:=I.pin p hp;exact⟨(hs.2 p.1 ne).trans e,n,ne,nf,d⟩
 ·have hfn:X.fn x=true:=by
   rcases hf with z | z
   ·exact z
   ·rw[z] at hk;cases hk
  obtain⟨c,hc⟩:=I.ok.has x (.inl hk);obtain⟨w',z⟩:=I.cell x c hc;refine wpAny_storeName_cell I.ok.kind hk hc z (λh' hc' hs=>?_);obtain⟨oc,hoc,hocd⟩:=id z;refine h {s with heap:=h'} ⟨I.ok,I.os,I.bare,⟨λb o e n hb hx=>?_,λb o e n hb hx=>?_,I.base.free,λb o e hx=>?_,I.base.tups,I.base.frzs,I.base.tbls⟩,⟨m,hn.sameBut hs (Ne.symm (cne x c hc)),λj y v' e1 e2 e3=>?_⟩,λy c' e=>?_,I.free,I.freeC,λp hp=>?_,tracked ⟨oc,hoc,I.freeC x c hc⟩ hs,by simpa using I.len⟩ ⟨c,hs,.inr hc⟩
  ·exact(hs.2 b (Jg (Jf (Heap.lt_size e) (I.ok.cab x c hfn hc)))).trans (I.base.keep b o e n hb hx)
  ·obtain⟨sl,e1⟩:=I.base.slot b o e n hb hx;exact⟨sl,(hs.2 b (Jg (Jf (Heap.lt_size e) (I.ok.cab x c hfn hc)))).trans e1⟩
  ·obtain⟨o',e1⟩:=I.base.there b o e hx;exact⟨o',(hs.2 b (Jg (Jf (Heap.lt_size e) (I.ok.cab x c hfn hc)))).trans e1⟩
  ·by_cases hj:j=i
   ·subst hj;rw[hi] at e1;cases e1;rw[List.getElem?_set_self hiσ] at e2;cases e2;exact⟨u,r,.inr ⟨.inl hk,c,hc,hc'⟩⟩
   ·rw[List.getElem?_set_ne (Ne.symm hj)] at e2;obtain⟨u',r',q⟩:=hl j y v' e1 e2 e3;refine⟨u',r',?_⟩;rcases q with q | ⟨k,c',e,z'⟩
    ·exact .inl q
    ·refine .inr ⟨k,c',e,z'.sameBut hs ?_⟩;rintro rfl;exact hj (zfb hN e1 (I.ok.inj _ _ _ e hc ▸ hi))
  ·by_cases hcc:c'=c
   ·subst hcc;exact⟨_,hc'⟩
   ·obtain⟨w2,z2⟩:=I.cell y c' e;exact⟨w2,z2.sameBut hs hcc⟩
  ·obtain⟨e,n,ne,nf,d⟩:=I.pin p hp;refine⟨(hs.2 p.1 ?_).trans e,n,ne,nf,d⟩;intro q;rw[q,hoc] at e;have q':oc=p.2:=Option.some.inj e;exact d w' (by rw[<-q'];exact hocd)
theorem ze5 {i:Nat}{x:Str}{Q:QD}(I:Inv X pins σ H s)(hN:X.N.Nodup)(hi:X.N[i]? =some x)(hx:Loc X.env.scope x)(r:RelV v u)
  (h:∀s',Inv X pins (σ.set i (some v)) H s'->Q () s') (hf:X.fn x=true\/X.env.scope.names.lookup x=some .local:=by first | exact .inl rfl | exact .inr rfl | assumption):wpAny M A (storeName X.env x u) Q E s:=
 zlq I hN hi hx r (λs' I' _=>h s' I') hf
theorem Inv.call' {s':Shared}{ch:QO}(I:Inv X pins σ H s)(ho:s'.os=s.os)(u:Un (frs X.stack) ch H H' s.heap s'.heap)(hok:HOk X.prog X.w H' s'.heap)(hg:AllBare s'.gens)
  (hch:∀b∈ch,(b∈X.ex\/X.s₀.heap.objs.size<=b)/\b≠X.env.locals/\(∀x c,X.env.cells.lookup x=some c->c≠b)/\∀p∈X.pn++pins,p.1≠b):Inv X pins σ H' s':=by
 obtain⟨h',g',d',t',o'⟩:=s';have e:o'=s.os:=ho;subst e;exact I.call (g':=g') (t':=t') (d':=d') u hok hg hch
end
noncomputable abbrev XK:=Value->Option Addr->Hp->Prop
noncomputable abbrev St:=List (Option V)
noncomputable abbrev VK:=V->Hp->Prop
noncomputable abbrev TE:=St->Hp->VK->Prop
noncomputable abbrev TT:=St->Hp->(Bool->Hp->Prop)->Prop
noncomputable abbrev TA:=St->Hp->(List V->Hp->Prop)->Prop
structure Ends where
 nx:St->Hp->Prop
 rt:VK
 bk:St->Hp->Prop:=λ_ _=>False
 ct:St->Hp->Prop:=λ_ _=>False
noncomputable abbrev TS:=Ends->St->Hp->Prop
noncomputable def EP (X:Cx)(pins:QE)(σ:St)(Q:VK)(u:Value)(s':Shared):Prop:=∃v H',Inv X pins σ H' s'/\RelV v u/\Q v H'
noncomputable def TP (X:Cx)(pins:QE)(σ:St)(Q:Bool->Hp->Prop)(b:Bool)(s':Shared):Prop:=∃H',Inv X pins σ H' s'/\Q b H'
noncomputable def AP (X:Cx)(pins:QE)(σ:St)(Q:List V->Hp->Prop)(us:QN)(s':Shared):Prop:=∃vs H',Inv X pins σ H' s'/\Vals vs us/\Q vs H'
noncomputable def SP (X:Cx)(pins:QE)(D:Ends)(f:Flow)(s':Shared):Prop:=
 match f with
 | .next=>∃σ' H',Inv X pins σ' H' s'/\D.nx σ' H'
 | .brk=>∃σ' H',Inv X pins σ' H' s'/\D.bk σ' H'
 | .cont=>∃σ' H',Inv X pins σ' H' s'/\D.ct σ' H'
 | .ret u=>∃v σ' H',Inv X pins σ' H' s'/\RelV v u/\D.rt v H'
noncomputable def PE (X:Cx)(e:Expr)(t:TE):Prop:=
 ∀(pins:QE) (s:Shared) (σ:St) (H:Hp) (Q:VK),Inv X pins σ H s->t σ H Q->wpAny (model X.prog X.w) X.A (eval e X.env) (EP X pins σ Q) X.xe s
noncomputable def PT (X:Cx)(e:Expr)(t:TT):Prop:=
 ∀(pins:QE) (s:Shared) (σ:St) (H:Hp) (Q:Bool->Hp->Prop),Inv X pins σ H s->t σ H Q->wpAny (model X.prog X.w) X.A (isTrue e X.env (eval e X.env)) (TP X pins σ Q) X.xe s
noncomputable def PW (X:Cx)(e:Expr)(t:TT):Prop:=
 ∀(whole:Sem Value) (pins:QE) (s:Shared) (σ:St) (H:Hp) (Q:Bool->Hp->Prop),Inv X pins σ H s->t σ H Q->wpAny (model X.prog X.w) X.A (isTrue e X.env whole) (TP X pins σ Q) X.xe s
theorem PW.pt (h:PW X e t):PT X e t:=h _
noncomputable def PA (X:Cx)(es:List Expr)(t:TA):Prop:=
 ∀(pos:Pos) (pins:QE) (s:Shared) (σ:St) (H:Hp) (Q:List V->Hp->Prop),Inv X pins σ H s->t σ H Q->wpAny (model X.prog X.w) X.A (spliced (backTo pos (starEach es X.env))) (AP X pins σ Q) X.xe s
noncomputable def PS (X:Cx)(st:Stmt)(t:TS):Prop:=
 ∀(pins:QE) (s:Shared) (σ:St) (H:Hp) (D:Ends),Inv X pins σ H s->t D σ H->wpAny (model X.prog X.w) X.A (exec st X.env) (SP X pins D) X.xe s
noncomputable def PSs (X:Cx)(st:List Stmt)(t:TS):Prop:=
 ∀(pins:QE) (s:Shared) (σ:St) (H:Hp) (D:Ends),Inv X pins σ H s->t D σ H->wpAny (model X.prog X.w) X.A (execs st X.env) (SP X pins D) X.xe s
theorem thn {t:Sem α}{Q Q':α->Shared->Prop}{s:Shared}(h:wpAny M A t Q E s)(hQ:∀a s,Q a s->Q' a s):wpAny M A t Q' E s:=wpAny_mono h hQ λ_ _ x=>x
end L2
namespace L2
open PySem PySem.Spec PyProof.Rows
section
variable {X:Cx}
theorem bin (ha:PE X a ta)(hb:PE X b tb){R:V->V->Hp->Prop}(I:Inv X pins σ H s)(h:ta σ H λx H1=>tb σ H1 λy H2=>R x y H2)
  {α:Type} {Q:α->Shared->Prop} {f:Value->Value->Sem α}
  (hf:∀v u s2 x y H2,Inv X pins σ H2 s2->RelV x v->RelV y u->R x y H2->wpAny (model X.prog X.w) X.A (f v u) Q X.xe s2):
  wpAny (model X.prog X.w) X.A (eval a X.env) (λv s₁=>wpAny (model X.prog X.w) X.A (eval b X.env) (λu s₂=>wpAny (model X.prog X.w) X.A (f v u) Q X.xe s₂) X.xe s₁) X.xe s:=by
 refine thn (ha pins s σ H _ I h) λv s1 ⟨x,H1,I1,r1,q1⟩=>?_;refine thn (hb pins s1 σ H1 _ I1 q1) λu s2 ⟨y,H2,I2,r2,q2⟩=>?_;exact hf v u s2 x y H2 I2 r1 r2 q2
noncomputable def tVar (i:Nat):TE:=fun σ H Q=>∃v,σ[i]? =some (some v)/\Q v H
noncomputable def tC (v:V):TE:=λ_ H Q=>Q v H
theorem zrI {i:Nat}{x:Str}{pos:Pos}(hN:X.N[i]? =some x)(hv:Vis X.env.scope x)(hd:(x==("__debug__" :Str))=false:=by decide) (hcd:(x==("__classdict__" :Str))=false:=by decide):PE X (.Name x pos) (tVar i):=by
 intro pins s σ H Q I h;obtain⟨v,e,h⟩:=h;obtain⟨m,hn,hl⟩:=I.loc;obtain⟨u,r,l⟩:=hl i x v hN e hv;have fin:EP X pins σ Q u s:=⟨v,H,I,r,h⟩;rcases l with ⟨hk,hm⟩ | ⟨hk,c,hc,hcell⟩
 ·exact wpAny_Name (wpAny_loadName_local I.ok.kind hk hn hm fin) hd
 ·rcases hk with hk | hk
  ·exact wpAny_Name (wpAny_loadName_cell I.ok.kind hk hc hcell fin) hd
  ·exact wpAny_Name (wpAny_loadName_free I.ok.kind hk hc hcell fin hcd) hd
theorem zbm {i j pos}:PE X (.Constant (.int i) j pos) (tC (.int i)):=λ_ _ _ H _ I h=>wpAny_Constant_int ⟨.int i,H,I.tok _,⟨_,rfl⟩,h⟩
theorem zs4 {b j pos}:PE X (.Constant (.bool b) j pos) (tC (.bl b)):=λ_ _ _ H _ I h=>Constant_bool ⟨.bl b,H,I,rfl,h⟩
theorem zmI {j pos}:PE X (.Constant .none j pos) (tC .non):=λ_ _ _ H _ I h=>Constant_none ⟨.non,H,I,rfl,h⟩
theorem zcW {x j pos}:PE X (.Constant (.str x) j pos) (tC (.str x)):=λ_ _ _ H _ I h=>Calls.Constant_str ⟨.str x,H,I.tok _,⟨_,rfl⟩,h⟩
noncomputable def Gl (X:Cx)(x:Str):Prop:=X.env.kindOf x=some .globalImplicit
theorem zbg {u:Value}{pos:Pos}{Q:QC}(I:Inv X pins σ H s)(hg:Gl X x)(hm:X.mg x=some u)(h:Q u s)
  (hd:(x==("__debug__" :Str))=false:=by decide):wpAny (model X.prog X.w) X.A (eval (.Name x pos) X.env) Q E s:=
 Calls.Name_function_global I.ok.kind hg (Calls.loadGlobal_global (by rw[I.ok.glob];exact I.mod.glob.keeps I.bk) hm h) hd
theorem zbo {u:Value}{pos:Pos}{Q:QC}(I:Inv X pins σ H s)(hg:Gl X x)(hm:X.mg x=none)(hv:bootBuiltins x=some u)(h:Q u s)
  (hn:x≠ "__name__" :=by decide) (hd:(x==("__debug__" :Str))=false:=by decide):wpAny (model X.prog X.w) X.A (eval (.Name x pos) X.env) Q E s:=by
 obtain⟨mb,h1,h2⟩:=I.mod.blt;exact Calls.Name_function_global I.ok.kind hg (Calls.loadGlobal_builtin (by rw[I.ok.glob];exact I.mod.glob.keeps I.bk) hm (by rw[I.ok.blt];exact h1.keeps I.bk) ((h2 x hn).trans hv) h) hd
theorem zkr {u:Value}{pos:Pos}(hg:Gl X x)(hm:X.mg x=some u)(r:RelV v u)(hd:(x==("__debug__" :Str))=false:=by decide):PE X (.Name x pos) (tC v):=
 λ_ _ _ H _ I h=>zbg I hg hm ⟨v,H,I,r,h⟩ hd
theorem zpW {u:Value}{pos:Pos}(hg:Gl X x)(hm:X.mg x=none)(hv:bootBuiltins x=some u)(r:RelV v u)(hn:x≠ "__name__" :=by decide) (hd:(x==("__debug__" :Str))=false:=by decide):PE X (.Name x pos) (tC v):=
 λ_ _ _ H _ I h=>zbo I hg hm hv ⟨v,H,I,r,h⟩ hn hd
variable {a b:Expr}{ta tb:TE}{pos:Pos}
noncomputable def PC (X:Cx)(op:CmpOp)(a b:Expr)(t:TE):Prop:=
 ∀(pins:QE) (s:Shared) (σ:St) (H:Hp) (Q:VK),Inv X pins σ H s->t σ H Q->
  wpAny (model X.prog X.w) X.A (eval a X.env) (λv s₁=>wpAny (model X.prog X.w) X.A (eval b X.env) (λu s₂=>wpAny (model X.prog X.w) X.A (compareOp op v u) (EP X pins σ Q) X.xe s₂) X.xe s₁) X.xe s
theorem zmy (b:Expr){op:CmpOp}(h:op≠ .In)(h2:op≠ .NotIn):behindInMarks op b=false:=by
 have e1:(op==CmpOp.In)=false:=by cases op <;> first | rfl | exact Je rfl h
 have e2:(op==CmpOp.NotIn)=false:=by cases op <;> first | rfl | exact Je rfl h2
 cases b <;> simp[behindInMarks,e1,e2]
noncomputable def tB (t:TE):TT:=fun σ H Q=>t σ H λx H1=>∃c,x=.bl c/\Q c H1
theorem zrs (h:PC X op a b t)(h1:behindInMarks op b=false:=by first | exact zmy _ (by decide) (by decide) | rfl):PT X (.Compare a [op] [b] pos) (tB t):=by intro pins s σ H Q I hw;refine wpAny_isTrue_Compare1 (thn (h pins s σ H _ I hw) λv s1 h1=>thn h1 λu s2 h2=>thn h2 λc s3 ⟨x,H1,I1,r1,q1⟩=>?_) h1;obtain⟨d,rfl,q⟩:=q1;cases r1;exact wpAny_truthy_bool ⟨H1,I1,q⟩
theorem zhx (h:PE X e t)(he:∀whole,isTrue e X.env whole=(do let v<-whole;standAt e.pos;holding [v] (truthy v)):=by intro _;rfl):PT X e (tB t):=by intro pins s σ H Q I hw;refine isTrue_plain (thn (h pins s σ H _ I hw) λv s1 ⟨x,H1,I1,r1,q1⟩=>?_) (he _);obtain⟨d,rfl,q⟩:=q1;cases r1;exact wpAny_truthy_bool ⟨H1,I1,q⟩
variable {tA tB':TT}{rest:List Expr}
noncomputable def tAnd (t u:TT):TT:=fun σ H Q=>t σ H λc H1=>if c=true then u σ H1 Q else Q false H1
noncomputable def tOr (t u:TT):TT:=fun σ H Q=>t σ H λc H1=>if c=true then Q true H1 else u σ H1 Q
noncomputable def tNot (t:TT):TT:=fun σ H Q=>t σ H λc H1=>Q (!c) H1
theorem zeS (ha:PT X a tA):PW X (.BoolOp .And [a] pos) tA:=by
 intro wh pins s σ H Q I h;refine isTrue_and (thn (ha pins s σ H Q I h) λc s1 e=>?_);cases c with
 | true=>exact isTrue_and_nil e
 | false=>exact e
theorem zi6 (ha:PT X a tA):PW X (.BoolOp .Or [a] pos) tA:=by
 intro wh pins s σ H Q I h;refine isTrue_or (thn (ha pins s σ H Q I h) λc s1 e=>?_);cases c with
 | false=>exact isTrue_or_nil e
 | true=>exact e
theorem zfs (ha:PT X a tA)(hb:PW X (.BoolOp .And (b::rest) pos) tB'):PW X (.BoolOp .And (a::b::rest) pos) (tAnd tA tB'):=by
 intro wh pins s σ H Q I h;refine isTrue_and (thn (ha pins s σ H _ I h) λc s1 ⟨H1,I1,q1⟩=>?_);cases c with
 | true=>exact hb wh pins s1 σ H1 Q I1 q1
 | false=>exact⟨H1,I1,q1⟩
theorem zkw (ha:PT X a tA)(hb:PW X (.BoolOp .Or (b::rest) pos) tB'):PW X (.BoolOp .Or (a::b::rest) pos) (tOr tA tB'):=by
 intro wh pins s σ H Q I h;refine isTrue_or (thn (ha pins s σ H _ I h) λc s1 ⟨H1,I1,q1⟩=>?_);cases c with
 | true=>exact⟨H1,I1,q1⟩
 | false=>exact hb wh pins s1 σ H1 Q I1 q1
theorem zfy (ha:PT X a tA):PT X (.UnaryOp .Not a pos) (tNot tA):=by intro pins s σ H Q I h;exact isTrue_not (ha pins s σ H (λc H1=>Q (!c) H1) I h)
noncomputable def zta (ta tb:TE):TE:=fun σ H Q=>ta σ H λx H1=>∃c,x=.bl c/\if c=true then tb σ H1 Q else Q (.bl false) H1
noncomputable def tOrV (ta tb:TE):TE:=fun σ H Q=>ta σ H λx H1=>∃c,x=.bl c/\if c=true then Q (.bl true) H1 else tb σ H1 Q
noncomputable def ztj (ta:TE):TE:=fun σ H Q=>ta σ H λx H1=>∃c,x=.bl c/\Q (.bl (!c)) H1
theorem zcd {op}(h:PE X a t):PE X (.BoolOp op [a] pos) t:=λpins s σ H Q I hw=>BoolOp_one (h pins s σ H Q I hw)
theorem za1 (ha:PE X a ta)(hb:PE X (.BoolOp .And (b::rest) pos) tb):PE X (.BoolOp .And (a::b::rest) pos) (zta ta tb):=by
 intro pins s σ H Q I h;refine BoolOp_and (thn (ha pins s σ H _ I h) λv s1 ⟨x,H1,I1,r1,q1⟩=>?_);obtain⟨c,rfl,q1⟩:=q1;cases r1;refine wpAny_truthy_bool ?_;cases c with
 | true=>exact hb pins s1 σ H1 Q I1 q1
 | false=>exact⟨.bl false,H1,I1,rfl,q1⟩
theorem zte (ha:PE X a ta)(hb:PE X (.BoolOp .Or (b::rest) pos) tb):PE X (.BoolOp .Or (a::b::rest) pos) (tOrV ta tb):=by
 intro pins s σ H Q I h;refine BoolOp_or (thn (ha pins s σ H _ I h) λv s1 ⟨x,H1,I1,r1,q1⟩=>?_);obtain⟨c,rfl,q1⟩:=q1;cases r1;refine wpAny_truthy_bool ?_;cases c with
 | false=>exact hb pins s1 σ H1 Q I1 q1
 | true=>exact⟨.bl true,H1,I1,rfl,q1⟩
theorem znZ (ha:PE X a ta):PE X (.UnaryOp .Not a pos) (ztj ta):=by intro pins s σ H Q I h;refine UnaryOp_ (thn (ha pins s σ H _ I h) λv s1 ⟨x,H1,I1,r1,q1⟩=>?_);obtain⟨c,rfl,q1⟩:=q1;cases r1;exact not_of (wpAny_truthy_bool ⟨.bl (!c),H1,I1,rfl,q1⟩)
noncomputable def tIf (t:TT)(ta tb:TE):TE:=fun σ H Q=>t σ H λc H1=>if c=true then ta σ H1 Q else tb σ H1 Q
theorem zfC (hc:PT X c tA)(ha:PE X a ta)(hb:PE X b tb):PE X (.IfExp c a b pos) (tIf tA ta tb):=by
 intro pins s σ H Q I h;refine wpAny_IfExp (thn (hc pins s σ H _ I h) λd s1 ⟨H1,I1,q1⟩=>?_);cases d with
 | true=>exact ha pins s1 σ H1 Q I1 q1
 | false=>exact hb pins s1 σ H1 Q I1 q1
end
end L2
namespace L2
open PySem PySem.Spec PyProof.Rows
noncomputable def SqL (K:QA)(H:Hp)(a:Addr)(xs:QQ):Prop:=
 Rd H a (.lst xs)\/
  ∃(o:Obj) (its:Array Value) (n:Nat),K.lookup a=some o/\o.cls=.type "list" /\o.dict=none/\o.data=.seq its n/\its.size<=sizeLine/\Vals xs its.toList
noncomputable def SqT (K:QA)(H:Hp)(a:Addr)(xs:QQ):Prop:=
 Rd H a (.tup xs)\/
  ∃(o:Obj) (its:Array Value) (n:Nat),K.lookup a=some o/\o.cls=.type "tuple" /\o.data=.seq its n/\its.size<=sizeLine/\Vals xs its.toList
noncomputable def absV:Value->Option V
 | .none=>some .non
 | .bool b=>some (.bl b)
 | .int i _=>some (.int i)
 | .str x _=>some (.str x)
 | .bytes b _=>some (.byt b)
 | .float b _=>some (.flt b)
 | .ref a=>some (.ref a)
 | .type n=>some (.ty n)
 | _=>none
theorem RelV.abs (r:RelV x u):absV u=some x:=by
 cases x with
 | non=>cases r;rfl
 | bl _=>cases r;rfl
 | int _=>obtain⟨t,rfl⟩:=r;rfl
 | str _=>obtain⟨t,rfl⟩:=r;rfl
 | byt _=>obtain⟨t,rfl⟩:=r;rfl
 | flt _=>obtain⟨t,rfl⟩:=r;rfl
 | ref _=>cases r;rfl
 | ty _=>cases r;rfl
theorem RelV.inj (r:RelV x u)(q:RelV y u):x=y:=Option.some.inj (r.abs.symm.trans q.abs)
theorem Vals.inj:∀{xs ys:QQ} {us:QN},Vals xs us->Vals ys us->xs=ys
 | _,_,_,.nil,.nil=>rfl
 | _,_,_,.cons r t,.cons r' t'=>by rw[r.inj r',Vals.inj t t']
section
variable {X:Cx}{pins:QE}{σ:St}{H:Hp}{s:Shared}{a:Addr}{xs ys:QQ}
theorem SqL.of {K:QA}(h:H a=some (.lst xs)):SqL K H a xs:=.inl (.inl h)
theorem SqT.of {K:QA}(h:H a=some (.tup xs)):SqT K H a xs:=.inl (.inl h)
theorem Inv.list (I:Inv X pins σ H s)(h:SqL X.K H a xs):∃its:List Value,Vals xs its/\PlainL s.heap a its.toArray/\xs.length<=sizeLine:=by
 rcases h with h | ⟨o,its,n,hk,hc,hd,hs,hz,r⟩
 ·obtain⟨z,its,n,r,e⟩:=h.ok I.hok;exact⟨its,r,⟨_,n,e,rfl,rfl,rfl⟩,z⟩
 ·refine⟨its.toList,r,⟨o,n,I.kIn a o hk,hc,hd,by simpa using hs⟩,?_⟩;have e:=r.length;simp only[Array.length_toList] at e;omega
theorem Inv.tuple (I:Inv X pins σ H s)(h:SqT X.K H a xs):∃its:List Value,Vals xs its/\IsTup s.heap a its.toArray/\xs.length<=sizeLine:=by
 rcases h with h | ⟨o,its,n,hk,hc,hs,hz,r⟩
 ·obtain⟨z,its,r,p⟩:=h.ok I.hok;exact⟨its,r,p,z.1⟩
 ·refine⟨its.toList,r,⟨o,I.kIn a o hk,hc,n,by simpa using hs⟩,?_⟩;have e:=r.length;simp only[Array.length_toList] at e;omega
theorem Inv.list_inj (I:Inv X pins σ H s)(h:SqL X.K H a xs)(h':SqL X.K H a ys):xs=ys:=by
 obtain⟨its,r,⟨o,n,e,_,_,d⟩,_⟩:=I.list h;obtain⟨its',r',⟨o',n',e',_,_,d'⟩,_⟩:=I.list h';rw[e] at e';cases e';rw[d] at d';injection d' with d1 _
 have:its=its':=by simpa using congrArg Array.toList d1
 subst this;exact r.inj r'
theorem Inv.tuple_inj (I:Inv X pins σ H s)(h:SqT X.K H a xs)(h':SqT X.K H a ys):xs=ys:=by
 obtain⟨its,r,⟨o,e,_,n,d⟩,_⟩:=I.tuple h;obtain⟨its',r',⟨o',e',_,n',d'⟩,_⟩:=I.tuple h';rw[e] at e';cases e';rw[d] at d';injection d' with d1 _
 have:its=its':=by simpa using congrArg Array.toList d1
 subst this;exact r.inj r'
end
noncomputable abbrev Cx.wish (X:Cx)(E:QC):Cx:={X with xe:=E}
noncomputable abbrev Cx.nox (X:Cx):Cx:=X.wish λ_ _=>False
theorem Cx.Ok.wish {X:Cx}(ok:X.Ok)(E:QC):(X.wish E).Ok:=
 ⟨ok.mod,ok.kind,ok.glob,ok.blt,ok.above,ok.inj,ok.has,ok.cab,ok.hd,ok.frames,ok.stk,ok.exf,ok.bs,ok.bsz,ok.noex,ok.exfs,ok.funs,ok.frf⟩
theorem Cx.Ok.unwish {X:Cx}{E:QC}(ok:(X.wish E).Ok):X.Ok:=
 ⟨ok.mod,ok.kind,ok.glob,ok.blt,ok.above,ok.inj,ok.has,ok.cab,ok.hd,ok.frames,ok.stk,ok.exf,ok.bs,ok.bsz,ok.noex,ok.exfs,ok.funs,ok.frf⟩
section
variable {X:Cx}{pins:QE}{σ:St}{H:Hp}{s:Shared}{E:QC}
theorem Inv.wish (I:Inv X pins σ H s)(E:QC):Inv (X.wish E) pins σ H s:=⟨I.ok.wish E,I.os,I.bare,I.base,I.loc,I.cell,I.free,I.freeC,I.pin,I.hok,I.len⟩
theorem Inv.unwish (I:Inv (X.wish E) pins σ H s):Inv X pins σ H s:=⟨I.ok.unwish,I.os,I.bare,I.base,I.loc,I.cell,I.free,I.freeC,I.pin,I.hok,I.len⟩
theorem SP.unwish (h:SP (X.wish E) pins D f s'):SP X pins D f s':=by
 cases f with
 | next=>obtain⟨σ',H',I,q⟩:=h;exact⟨σ',H',I.unwish,q⟩
 | brk=>obtain⟨σ',H',I,q⟩:=h;exact⟨σ',H',I.unwish,q⟩
 | cont=>obtain⟨σ',H',I,q⟩:=h;exact⟨σ',H',I.unwish,q⟩
 | ret u=>obtain⟨v,σ',H',I,r,q⟩:=h;exact⟨v,σ',H',I.unwish,r,q⟩
theorem PSs.nox {st:List Stmt}{t:TS}(h:PSs X.nox st t):PSs X st t:=λpins s σ H D I hw=>
 wpAny_mono (h pins s σ H D (I.wish _) hw) (λ_ _ q=>q.unwish) λ_ _ z=>False.elim z
end
section
variable {X:Cx}{st:Stmt}{rest:List Stmt}{t u:TS}{e:Expr}{te:TE}{pos:Pos}
noncomputable def zs3:TS:=λD σ H=>D.nx σ H
noncomputable def tSeq (t u:TS):TS:=λD σ H=>t {D with nx:=u D} σ H
theorem zM:PSs X [] zs3:=λ_ _ σ H _ I h=>wpAny_execs_nil ⟨σ,H,I,h⟩
theorem zf (h1:PS X st t)(h2:PSs X rest u):PSs X (st::rest) (tSeq t u):=by
 intro pins s σ H D I h;refine wpAny_execs_cons (thn (h1 pins s σ H {D with nx:=u D} I h) λf s1 q=>?_);cases f with
 | next=>obtain⟨σ',H',I',q⟩:=q;exact h2 pins s1 σ' H' D I' q
 | ret v=>exact q
 | brk=>exact q
 | cont=>exact q
theorem zx (h1:PS X st t):PSs X [st] t:=by
 intro pins s σ H D I h;refine wpAny_execs_cons (thn (h1 pins s σ H D I h) λf s1 q=>?_);cases f with
 | next=>exact wpAny_execs_nil q
 | ret v=>exact q
 | brk=>exact q
 | cont=>exact q
theorem Inv.quiet (I:Inv X pins σ H s):interactive X.env=false:=by simp[interactive,I.ok.kind]
noncomputable def ztp (te:TE):TS:=λD σ H=>te σ H λ_ H1=>D.nx σ H1
theorem zpf (he:PE X e te)(hs:swapsWith e none pos.line X.env=pure false:=by rfl):PS X (.Expr e pos) (ztp te):=by intro pins s σ H D I h;exact wpAny_Expr_any (thn (he pins s σ H _ I h) λv s1 ⟨x,H1,I1,r1,q1⟩=>⟨σ,H1,I1,q1⟩) I.quiet hs
noncomputable def tRet (te:TE):TS:=λD σ H=>te σ H D.rt
theorem zad (he:PE X e te):PS X (.Return (some e) pos) (tRet te):=by intro pins s σ H D I h;exact wpAny_Return_some (thn (he pins s σ H _ I h) λv s1 ⟨x,H1,I1,r1,q1⟩=>⟨x,σ,H1,I1,r1,q1⟩)
noncomputable def tIfS (c:TT)(t u:TS):TS:=λD σ H=>c σ H λb H1=>if b=true then t D σ H1 else u D σ H1
theorem zaA (hc:PT X c tc)(ha:PSs X a t)(hb:PSs X b u):PS X (.If c a b pos) (tIfS tc t u):=by
 intro pins s σ H D I h;refine wpAny_If (thn (hc pins s σ H _ I h) λd s1 ⟨H1,I1,q1⟩=>?_);cases d with
 | true=>exact ha pins s1 σ H1 D I1 q1
 | false=>exact hb pins s1 σ H1 D I1 q1
noncomputable def zsb:TS:=λ_ _ _=>False
theorem zf6:PSs X sts zsb:=λ_ _ _ _ _ _ h=>h.elim
end
noncomputable abbrev TG:=V->St->Hp->(St->Hp->Prop)->Prop
noncomputable abbrev TGs:=List V->St->Hp->(St->Hp->Prop)->Prop
noncomputable def PG (X:Cx)(target:Expr)(t:TG):Prop:=
 ∀(pins:QE) (s:Shared) (σ:St) (H:Hp) (v:V) (u:Value) (Q:St->Hp->Prop),Inv X pins σ H s->RelV v u->t v σ H Q->
  wpAny (model X.prog X.w) X.A (assign target X.env u) (λ_ s'=>∃σ' H',Inv X pins σ' H' s'/\Q σ' H') X.xe s
noncomputable def PGs (X:Cx)(ts:List Expr)(t:TGs):Prop:=
 ∀(pins:QE) (s:Shared) (σ:St) (H:Hp) (vs:QQ) (us:QN) (Q:St->Hp->Prop),Inv X pins σ H s->Vals vs us->t vs σ H Q->
  wpAny (model X.prog X.w) X.A (assignInOrder ((assignEach ts X.env).map (·.2)) us) (λ_ s'=>∃σ' H',Inv X pins σ' H' s'/\Q σ' H') X.xe s
noncomputable abbrev TSet:=V->V->V->Hp->(Hp->Prop)->Prop
noncomputable def PSet (X:Cx)(t:TSet):Prop:=
 ∀(pins:QE) (s:Shared) (σ:St) (H:Hp) (o i v:V) (ov iv u:Value) (Q:Hp->Prop),Inv X pins σ H s->RelV o ov->RelV i iv->RelV v u->t o i v H Q->
  wpAny (model X.prog X.w) X.A (setItem ov iv u) (λ_ s'=>∃H',Inv X pins σ H' s'/\Q H') X.xe s
section
variable {X:Cx}{pos:Pos}
noncomputable def zaM (i:Nat):TG:=λv σ H Q=>Q (σ.set i (some v)) H
theorem zdk {i:Nat}{x:Str}(hN:X.N.Nodup)(hi:X.N[i]? =some x)(hx:Loc X.env.scope x)(hf:X.fn x=true\/X.env.scope.names.lookup x=some .local:=by first | exact .inl rfl | exact .inr rfl | assumption):PG X (.Name x pos) (zaM i):=by intro pins s σ H v u Q I r h;exact wpAny_assign_Name (ze5 I hN hi hx r (λs' I'=>⟨_,H,I',h⟩) hf)
noncomputable def gNil:TGs:=λvs σ H Q=>vs=[]/\Q σ H
noncomputable def zio (t:TG)(u:TGs):TGs:=λvs σ H Q=>∃v r,vs=v::r/\t v σ H fun σ' H'=>u r σ' H' Q
theorem zkI:PGs X [] gNil:=by intro pins s σ H vs us Q I r h;obtain⟨e,h⟩:=h;subst e;cases r;exact assignInOrder_nil ⟨σ,H,I,h⟩
theorem zfB (h1:PG X e t)(h2:PGs X es u)
  (hs:(assignEach (e::es) X.env).map (·.2)=assign e X.env::(assignEach es X.env).map (·.2):=by rfl):PGs X (e::es) (zio t u):=by
 intro pins s σ H vs us Q I r h;obtain⟨v,vr,e1,h⟩:=h;subst e1;cases r with
 | cons r rr=>rw[hs];refine assignInOrder_cons (thn (h1 pins s σ H _ _ _ I r h) λ_ s1 ⟨σ1,H1,I1,q1⟩=>?_);exact h2 pins s1 σ1 H1 _ _ Q I1 rr q1
noncomputable def gTup (K:QA)(n:Nat)(t:TGs):TG:=λv σ H Q=>∃a xs,v=.ref a/\SqT K H a xs/\xs.length=n/\t xs σ H Q
theorem znn {k:Nat}{n:Nat}(hc:X.calm=true)(h:PGs X es t)
  (hn:(assignEach es X.env).length=n:=by rfl) (hst:(assignEach es X.env).findIdx? (·.1)=none:=by rfl):PG X (.Tuple es k pos) (gTup X.K n t):=by
 intro pins s σ H v u Q I r hw;obtain⟨a,xs,e1,hq,hl,hw⟩:=hw;subst e1;cases r;obtain⟨its,rv,ht,hz⟩:=I.tuple hq;refine assign_Tuple_tuple (I.ok.hd hc) ht (by simp[hn,<-hl,rv.length]) hst λh' hx=>?_;have I1:Inv X pins σ H {s with heap:=h'}:=I.kept (t':=s.toks) λb o e=>hx b o (Jg (Heap.lt_size e)) e;exact h pins _ σ H xs _ Q I1 (by simpa using rv) hw
noncomputable def gSub (to ti:TE)(t:TSet):TG:=λv σ H Q=>to σ H λo H1=>ti σ H1 λi H2=>t o i v H2 λH3=>Q σ H3
noncomputable abbrev _root_.Ja:=@wpAny_bind
theorem zrD (ho:PE X o to)(hi:PE X i ti)(hs:PSet X t)
  (ha:∀v,assign (.Subscript o i pos) X.env v=(do
   let ov<-holding [v] (eval o X.env)
   let iv<-holding [v,ov] (eval i X.env)
   standAt pos
   holding [v,ov,iv] (setItem ov iv v)
   release [v,ov,iv] []):=by intro _;rfl):PG X (.Subscript o i pos) (gSub to ti t):=by
 intro pins s σ H v u Q I r h;rw[ha];refine Ja (wpAny_holding (thn (ho pins s σ H _ I h) λov s1 ⟨x,H1,I1,r1,q1⟩=>?_));refine Ja (wpAny_holding (thn (hi pins s1 σ H1 _ I1 q1) λiv s2 ⟨y,H2,I2,r2,q2⟩=>?_));refine Ja (wpAny_standAt (Ja (wpAny_holding (thn (hs pins s2 σ H2 x y v ov iv u _ I2 r1 r2 r q2) λ_ s3 ⟨H3,I3,q3⟩=>?_))));exact wpAny_release ⟨σ,H3,I3,q3⟩
noncomputable def tAsg (te:TE)(g:TG):TS:=λD σ H=>te σ H λx H1=>g x σ H1 D.nx
theorem zrW (he:PE X e te)(hg:PG X tg g)(hs:swapsWithSole [tg] e pos.line X.env=pure false:=by rfl)(hw:swappedStores [tg] e X.env=pure none:=by rfl)
  (h1:(assignEach [tg] X.env).map (·.2)=[assign tg X.env]:=by rfl):PS X (.Assign [tg] e pos) (tAsg te g):=by
 intro pins s σ H D I h;refine wpAny_Assign_stores (thn (he pins s σ H _ I h) λv s1 ⟨x,H1,I1,r1,q1⟩=>?_) hs hw;rw[h1];exact thn (hg pins s1 σ H1 x v _ I1 r1 q1) λ_ s2 q=>q
theorem zhw {i:Nat}{x:Str}{pos':Pos}(hN:X.N.Nodup)(hi:X.N[i]? =some x)(hx:Loc X.env.scope x)(he:PE X e te)(hs:swapsWith e (some (.Name x pos')) pos.line X.env=pure false:=by rfl)(hf:X.fn x=true\/X.env.scope.names.lookup x=some .local:=by first | exact .inl rfl | exact .inr rfl | assumption):
  PS X (.Assign [.Name x pos'] e pos) (tAsg te (zaM i)):=by
 intro pins s σ H D I h;refine wpAny_Assign_Name (thn (he pins s σ H _ I h) λv s1 ⟨y,H1,I1,r1,q1⟩=>?_) hs;exact ze5 I1 hN hi hx r1 (λs2 I2=>⟨_,H1,I2,q1⟩) hf
end
section
variable {X:Cx}{pos:Pos}
noncomputable def zq8 (c:TT)(tb:TS):TS:=λD σ H=>∃W:Nat->St->Hp->Prop,(∃m,W m σ H)/\∀m σ H,W m σ H->
 c σ H λb H1=>if b=true then∃N:St->Hp->Prop,(∀σ' H',N σ' H'->∃m',m' < m/\W m' σ' H')/\tb {D with nx:=N,ct:=N,bk:=D.nx} σ H1 else D.nx σ H1
noncomputable abbrev _root_.Jc:=@Bool.false_ne_true
theorem zmz (hp:PassesOwn (model X.prog X.w) X.A X.env X.xe)(hc:PT X c tc)(hb:PSs X body tb):PS X (.While c body [] pos) (zq8 tc tb):=by
 intro pins s σ H D I h;obtain⟨W,⟨m0,w0⟩,turn⟩:=h;refine wpAny_While (codeAny_whileLoop (λn s'=>∃σ' H',Inv X pins σ' H' s'/\W n σ' H') ?_ m0 ⟨σ,H,I,w0⟩);rintro n s1 ⟨σ1,H1,I1,w1⟩;refine wpAny_passesOwn hp (thn (hc pins s1 σ1 H1 _ I1 (turn n σ1 H1 w1)) λb s2 ⟨H2,I2,q2⟩=>?_);cases b with
 | true=>
  obtain⟨N,hN,q2⟩:=q2;rw[if_pos rfl];refine wpAny_passesOwn hp (thn (hb pins s2 σ1 H2 _ I2 q2) λf s3 q3=>?_);cases f with
  | next=>obtain⟨σ3,H3,I3,n3⟩:=q3;obtain⟨m',hm,w3⟩:=hN σ3 H3 n3;exact⟨m',hm,σ3,H3,I3,w3⟩
  | cont=>obtain⟨σ3,H3,I3,n3⟩:=q3;obtain⟨m',hm,w3⟩:=hN σ3 H3 n3;exact⟨m',hm,σ3,H3,I3,w3⟩
  | brk=>exact q3
  | ret v=>exact q3
 | false=>rw[if_neg Jc];exact wpAny_execs_nil ⟨σ1,H2,I2,q2⟩
end
structure It where
 go:Nat->Hp->Prop
 yld:Nat->Hp->V->Hp->Prop
 stop:Nat->Hp->Prop
noncomputable def FpOk (X:Cx)(pins:QE)(H:Hp)(b:Addr):Prop:=
 H b=none/\b≠X.env.locals/\b∉X.fs/\(b∈X.ex\/X.s₀.heap.objs.size<=b)/\(∀x c,X.env.cells.lookup x=some c->c≠b)/\∀p∈X.pn++pins,p.1≠b
noncomputable abbrev _root_.Jy:=@Nat.ne_of_gt
theorem Inv.fpOk {H':Hp}{b:Addr}(I:Inv X pins σ H s)(hb:s.heap.objs.size<=b)(hn:H' b=none):FpOk X pins H' b:=by
 refine⟨hn,Jy (Jf I.lt hb),I.nofs hb,.inr (Ji I.sz hb),λx c e z=>?_,λp hp z=>?_⟩
 ·obtain⟨v,q⟩:=I.cell x c e;exact Je (Jf q.lt (by rw[z];exact hb)) (Ju _)
 ·exact Je (Jf (Heap.lt_size (I.pin p hp).1) (by rw[z];exact hb)) (Ju _)
structure Turn (P:Program)(w:World)(K:QA)(tg:Expr)(J:It)(fp:QO)(it:Addr)(tn:Nat->Heap->Prop):Prop where
 mem:it∈fp
 obj:∀i h,tn i h->∀b∈fp,∃o,h.get? b=some o/\∀v,o.data≠ .cell v
 keep:∀i h h',tn i h->(∀b∈fp,∀o,h.get? b=some o->h'.get? b=some o)->tn i h'
 item:∀(X:Cx),X.prog=P->X.w=w->X.K=K->X.calm=true->∀(i:Nat) (pins:QE) (s:Shared) (σ:St) (H:Hp) (E:QC),Inv X pins σ H s->(∀b∈fp,FpOk X pins H b)->tn i s.heap->J.go i H->
  wpAny (model P w) X.A (pyNext (.ref it)) (λr s1=>∃u,r=some u/\
   wpAny (model P w) X.A (letOwnedTupleGo tg (.ref it) u) (λ_ s2=>∃x H',Inv X pins σ H' s2/\RelV x u/\J.yld i H x H'/\tn (i+1) s2.heap/\∀b∈fp,H' b=none) E s1) E s
 done:∀(X:Cx),X.prog=P->X.w=w->X.K=K->X.calm=true->∀(i:Nat) (pins:QE) (s:Shared) (σ:St) (H:Hp) (E:QC),Inv X pins σ H s->(∀b∈fp,FpOk X pins H b)->tn i s.heap->J.stop i H->
  wpAny (model P w) X.A (pyNext (.ref it)) (λr s1=>r=none/\Inv X pins σ H s1) E s
 self:∀(A:Around) (i:Nat) (s:Shared) (Q:QC) (E:QC),tn i s.heap->Q (.ref it) s->wpAny (model P w) A (pyIter (.ref it)) Q E s
noncomputable abbrev TI:=St->Hp->(It->Hp->Prop)->Prop
noncomputable def PIE (X:Cx)(pins:QE)(σ:St)(tg:Expr)(R:It->Hp->Prop)(itv:Value)(s2:Shared):Prop:=
 ∃(it:Addr) (fp:QO) (tn:Nat->Heap->Prop) (J:It) (H':Hp),itv=.ref it/\Inv X pins σ H' s2/\Turn X.prog X.w X.K tg J fp it tn/\tn 0 s2.heap/\(∀b∈fp,FpOk X pins H' b)/\R J H'
noncomputable def PI (X:Cx)(tg iter:Expr)(wi:TI):Prop:=
 ∀(pins:QE) (s:Shared) (σ:St) (H:Hp) (R:It->Hp->Prop),Inv X pins σ H s->wi σ H R->
  wpAny (model X.prog X.w) X.A (eval iter X.env) (λv s1=>wpAny (model X.prog X.w) X.A (pyIter v) (PIE X pins σ tg R) X.xe s1) X.xe s
theorem zfN {s:Shared}{tg:Expr}{it:Addr}{u:Value}{o:Obj}{n:String}{vs:Array Value}{Q:QD}(ho:s.heap.get? it=some o)(hc:o.cls=.type n)(hd:o.data=.fields vs)
  (hn:["enumerate","zip","dict_itemiterator","dict_reverseitemiterator","odict_iterator","itertools.zip_longest","itertools.pairwise"].contains n=false) (hQ:Q () s):wpAny M A (letOwnedTupleGo tg (.ref it) u) Q E s:=by
 unfold letOwnedTupleGo;cases tg <;> first
  | exact wpAny_pure hQ
  | (cases u <;> first
    | exact wpAny_pure hQ
    | (refine Ja (wpAny_load ho ?_)
       rw[hc,hd];show wpAny M A (if (["enumerate","zip","dict_itemiterator","dict_reverseitemiterator","odict_iterator","itertools.zip_longest","itertools.pairwise"].contains n && vs[0]? ==some (rawInt _))=true then _ else _) Q E s;rw[if_neg (by intro h;rw[hn,Bool.false_and] at h;cases h)];exact wpAny_pure hQ))
noncomputable def Itl (K:QA)(a:Addr):It:=
 ⟨λi H=>∃xs x,SqL K H a xs/\xs[i]? =some x,λi H x H'=>H'=H/\∀xs,SqL K H a xs->xs[i]? =some x,λi H=>∃xs,SqL K H a xs/\xs.length<=i⟩
noncomputable def Itt (K:QA)(a:Addr):It:=
 ⟨λi H=>∃xs x,SqT K H a xs/\xs[i]? =some x,λi H x H'=>H'=H/\∀xs,SqT K H a xs->xs[i]? =some x,λi H=>∃xs,SqT K H a xs/\xs.length<=i⟩
noncomputable def Itr (lo:Int)(n:Nat):It:=⟨λi _=>i < n,λi H x H'=>H'=H/\x=.int (lo+i),λi _=>n<=i⟩
theorem zgx {P:Program}{w:World}{K:QA}{tg:Expr}(a it:Addr):Turn P w K tg (Itl K a) [it] it (λi h=>h.IsListIter it a i) where
 mem:=by simp
 obj:=λi h st b hb=>by
  have e:b=it:=by simpa using hb
  subst e;obtain⟨o,e,c,d⟩:=st;exact⟨o,e,λv z=>by rw[d] at z;cases z⟩
 keep:=λi h h' st k=>st.at λo e=>k it (by simp) o e
 item:=by intro X hP hw hK hc i pins s σ H E I hf st hg;subst hP hw hK;obtain⟨xs,x,hq,hx⟩:=hg;obtain⟨its,rv,p,hz⟩:=I.list hq;obtain⟨u,hu,ru⟩:=rv.get hx;obtain⟨f0,f1,f2,f3,f4,f5⟩:=hf it (by simp);refine wpAny_pyNext_list_item st p.isList (x:=u) (by simpa using hu) λh' st' sb=>?_;have I1:Inv X pins σ H {s with heap:=h'}:=I.turned (t':=s.toks) (λb o hb e=>(sb.2 b hb).trans e) f0 f1 f3 f4 f5;obtain⟨o,e,c,d⟩:=id st';exact⟨u,rfl,zfN (s:={s with heap:=h'}) e c d (by decide) ⟨x,H,I1,ru,⟨rfl,λys hy=>by rw[I.list_inj hy hq];exact hx⟩,st',λb hb=>(hf b hb).1⟩⟩
 done:=by intro X hP hw hK hc i pins s σ H E I hf st hg;subst hP hw hK;obtain⟨xs,hq,hx⟩:=hg;obtain⟨its,rv,p,hz⟩:=I.list hq;obtain⟨f0,f1,f2,f3,f4,f5⟩:=hf it (by simp);have hl:=rv.length;exact wpAny_pyNext_list_end (I.ok.hd hc) st p.isList (by simp;omega) λh' eb=>⟨rfl,I.turned (t':=s.toks) (λb o hb e=>eb b o hb e) f0 f1 f3 f4 f5⟩
 self:=λ_ _ _ _ _ st h=>wpAny_pyIter_listiter st h
theorem zfq {P:Program}{w:World}{K:QA}{tg:Expr}(a it:Addr):Turn P w K tg (Itt K a) [it] it (λi h=>h.IsTupleIter it a i) where
 mem:=by simp
 obj:=λi h st b hb=>by
  have e:b=it:=by simpa using hb
  subst e;obtain⟨o,e,c,d⟩:=st;exact⟨o,e,λv z=>by rw[d] at z;cases z⟩
 keep:=λi h h' st k=>st.at λo e=>k it (by simp) o e
 item:=by intro X hP hw hK hc i pins s σ H E I hf st hg;subst hP hw hK;obtain⟨xs,x,hq,hx⟩:=hg;obtain⟨its,rv,p,hz⟩:=I.tuple hq;obtain⟨u,hu,ru⟩:=rv.get hx;obtain⟨f0,f1,f2,f3,f4,f5⟩:=hf it (by simp);refine wpAny_pyNext_tuple_item st (show s.heap.IsTuple a its.toArray from p) (x:=u) (by simpa using hu) λh' st' sb=>?_;have I1:Inv X pins σ H {s with heap:=h'}:=I.turned (t':=s.toks) (λb o hb e=>(sb.2 b hb).trans e) f0 f1 f3 f4 f5;obtain⟨o,e,c,d⟩:=id st';exact⟨u,rfl,zfN (s:={s with heap:=h'}) e c d (by decide) ⟨x,H,I1,ru,⟨rfl,λys hy=>by rw[I.tuple_inj hy hq];exact hx⟩,st',λb hb=>(hf b hb).1⟩⟩
 done:=by intro X hP hw hK hc i pins s σ H E I hf st hg;subst hP hw hK;obtain⟨xs,hq,hx⟩:=hg;obtain⟨its,rv,p,hz⟩:=I.tuple hq;obtain⟨f0,f1,f2,f3,f4,f5⟩:=hf it (by simp);have hl:=rv.length;exact wpAny_pyNext_tuple_end (I.ok.hd hc) st (show s.heap.IsTuple a its.toArray from p) (by simp;omega) λh' eb=>⟨rfl,I.turned (t':=s.toks) (λb o hb e=>eb b o hb e) f0 f1 f3 f4 f5⟩
 self:=λ_ _ _ _ _ st h=>wpAny_pyIter_tupleiter st h
theorem zjr {P:Program}{w:World}{K:QA}{tg:Expr}(it:Addr)(lo:Int)(n:Nat):Turn P w K tg (Itr lo n) [it] it (λi h=>IsRangeIter h it (lo+(i:Nat) * 1) ((n:Int) - (i:Nat)) 1) where
 mem:=by simp
 obj:=λi h st b hb=>by
  have e:b=it:=by simpa using hb
  subst e;exact⟨_,st,λv z=>by
   have z':Data.fields _=Data.cell v:=z;cases z'⟩
 keep:=λi h h' st k=>k it (by simp) _ st
 item:=by intro X hP hw hK hc i pins s σ H E I hf st hg;subst hP hw hK;obtain⟨f0,f1,f2,f3,f4,f5⟩:=hf it (by simp);have W:=Walks.range (prog:=X.prog) (w:=X.w) (I.ok.hd hc) it lo 1 n;refine W.item i s _ _ hg st λv h' tk hv st' kk=>?_;obtain⟨t,rfl⟩:=hv;have I1:Inv X pins σ H {s with heap:=h',toks:=tk}:=I.turned (λb o hb e=>kk b o (by simpa using hb) e) f0 f1 f3 f4 f5;refine⟨_,rfl,zfN (s:={s with heap:=h',toks:=tk}) (n:= "range_iterator") st' rfl rfl (by decide) ⟨.int (lo+i),H,I1,⟨t,?_⟩,⟨rfl,rfl⟩,st',λb hb=>(hf b hb).1⟩⟩;rw[Int.mul_one]
 done:=by intro X hP hw hK hc i pins s σ H E I hf st hg;subst hP hw hK;obtain⟨f0,f1,f2,f3,f4,f5⟩:=hf it (by simp);exact wpAny_pyNext_range_end (I.ok.hd hc) st (by have:n<=i:=hg;omega) λh' eb=>⟨rfl,I.turned (t':=s.toks) (λb o hb e=>eb b o hb e) f0 f1 f3 f4 f5⟩
 self:=λ_ _ _ _ _ st h=>wpAny_pyIter_rangeiter st h
end L2
namespace L2
open PySem PySem.Spec PyProof.Rows
section
variable {X:Cx}{tg:Expr}
noncomputable def zsQ (K:QA)(tl:TE):TI:=fun σ H R=>tl σ H λx H1=>∃a,x=.ref a/\(∃xs,SqL K H1 a xs)/\R (Itl K a) H1
noncomputable def iTup (K:QA)(tl:TE):TI:=fun σ H R=>tl σ H λx H1=>∃a,x=.ref a/\(∃xs,SqT K H1 a xs)/\R (Itt K a) H1
noncomputable abbrev _root_.Jb:=@Nat.le_refl
theorem zo1 (hl:PE X l tl):PI X tg l (zsQ X.K tl):=by
 intro pins s σ H R I h;refine thn (hl pins s σ H _ I h) λv s1 ⟨x,H1,I1,r1,q1⟩=>?_;obtain⟨a,e,⟨xs,hq⟩,q⟩:=q1;subst e;cases r1;obtain⟨its,rv,p,hz⟩:=I1.list hq;refine wpAny_pyIter_list p.isList ?_;refine⟨s1.heap.objs.size,[s1.heap.objs.size],_,_,H1,rfl,I1.kept (t':=s1.toks) λb o e=>Heap.get?_push_of_some _ e,zgx a _,⟨_,Heap.get?_push_size _ rfl,rfl,rfl⟩,λb hb=>?_,q⟩;have e:b=s1.heap.objs.size:=by simpa using hb
 subst e;exact I1.fpOk (Jb _) (I1.hok.fresh (Jb _))
theorem zdQ (hl:PE X l tl):PI X tg l (iTup X.K tl):=by
 intro pins s σ H R I h;refine thn (hl pins s σ H _ I h) λv s1 ⟨x,H1,I1,r1,q1⟩=>?_;obtain⟨a,e,⟨xs,hq⟩,q⟩:=q1;subst e;cases r1;obtain⟨its,rv,p,hz⟩:=I1.tuple hq;refine wpAny_pyIter_tuple (show s1.heap.IsTuple a its.toArray from p) ?_;refine⟨s1.heap.objs.size,[s1.heap.objs.size],_,_,H1,rfl,I1.kept (t':=s1.toks) λb o e=>Heap.get?_push_of_some _ e,zfq a _,⟨_,Heap.get?_push_size _ rfl,rfl,rfl⟩,λb hb=>?_,q⟩;have e:b=s1.heap.objs.size:=by simpa using hb
 subst e;exact I1.fpOk (Jb _) (I1.hok.fresh (Jb _))
theorem zoe {R:It->Hp->Prop}{lo hi:Int}{t u v:Tok}{tk:Nat}(I:Inv X pins σ H s)(h1: -(2 ^ 62)<=lo)(h2:lo < 2 ^ 62)(h3: -(2 ^ 62)<=hi)(h4:hi < 2 ^ 62)
  (q:R (Itr lo (hi - lo).toNat) H):wpAny (model X.prog X.w) X.A (pyIter (.ref s.heap.objs.size)) (PIE X pins σ tg R) E {s with heap:=s.heap.push {cls:=.type "range",data:=.fields #[.int lo t,.int hi u,.int 1 v]},toks:=tk}:=by
 refine wpAny_pyIter_range (IsRange.new ..) (small_one h1 h2 h3 h4) ?_;have I1:Inv X pins σ H {s with heap:=s.heap.push {cls:=.type "range",data:=.fields #[.int lo t,.int hi u,.int 1 v]},toks:=tk}:=I.kept λb o e=>Heap.get?_push_of_some _ e;refine⟨(s.heap.push {cls:=.type "range",data:=.fields #[.int lo t,.int hi u,.int 1 v]}).objs.size,[(s.heap.push {cls:=.type "range",data:=.fields #[.int lo t,.int hi u,.int 1 v]}).objs.size],_,_,H,rfl,
  I1.kept (t':=tk) λb o e=>Heap.get?_push_of_some _ e,zjr _ lo (hi - lo).toNat,?_,λb hb=>?_,q⟩
 ·have e1:lo+((0:Nat):Int) * 1=lo:=by simp
  have e2:(((hi - lo).toNat:Nat):Int) - ((0:Nat):Int)=Builtin.Range.rangeSize lo hi 1:=by rw[rangeSize_one];split <;> omega
  show IsRangeIter _ _ (lo+((0:Nat):Int) * 1) ((((hi - lo).toNat:Nat):Int) - ((0:Nat):Int)) 1;rw[e1,e2];exact Heap.get?_push_size _ rfl
 ·have e:b=(s.heap.push {cls:=.type "range",data:=.fields #[.int lo t,.int hi u,.int 1 v]}).objs.size:=by simpa using hb
  subst e;exact I1.fpOk (Jb _) (I1.hok.fresh (Jb _))
noncomputable def zs7 (ta:TA):TI:=fun σ H R=>ta σ H λvs H1=>∃j:Int,vs=[.int j]/\ -(2 ^ 62)<=j/\j < 2 ^ 62/\R (Itr 0 j.toNat) H1
theorem zlG {a:Expr}{p pos:Pos}(hg:Gl X "range") (hm:X.mg "range" =none) (ha:PA X [a] ta) (hs:starEach [a] X.env=[(false,eval a X.env)]:=by rfl):PI X tg (.Call (.Name "range" p) [a] [] pos) (zs7 ta):=by
 intro pins s σ H R I h;refine Call_ (zbo I hg hm boot_range (PyProof.Rows.callWith_type1 (thn (ha pos pins s σ H _ I h) λus s1 ⟨vs,H1,I1,r1,q1⟩=>?_) hs rfl));obtain⟨j,e,q1,q2,q⟩:=q1;subst e;cases r1 with
 | cons r rr=>cases rr;obtain⟨t,rfl⟩:=r;exact call_range_1 (zoe I1 (by omega) (by omega) q1 q2 (by simpa using q))
noncomputable def tFor (wi:TI)(g:TG)(tb:TS):TS:=λD σ H=>wi σ H λJ H1=>∃W:Nat->Nat->St->Hp->Prop,(∃m,W 0 m σ H1)/\∀i m σ H,W i m σ H->
 (J.stop i H/\D.nx σ H)\/(J.go i H/\∃N:St->Hp->Prop,(∀σ' H',N σ' H'->∃m',m' < m/\W (i+1) m' σ' H')/\∀x H',J.yld i H x H'->g x σ H' fun σ2 H2=>tb {D with nx:=N,ct:=N,bk:=D.nx} σ2 H2)
noncomputable def ze9 (fp:QO)(h:Heap):List (Addr ×Obj):=fp.filterMap λb=>(h.get? b).map λo=>(b,o)
theorem zbQ {fp:QO}{h:Heap}{b:Addr}{o:Obj}(hb:b∈fp)(e:h.get? b=some o):(b,o)∈ze9 fp h:=List.mem_filterMap.mpr ⟨b,hb,by rw[e];rfl⟩
theorem zlV {p:Addr ×Obj}(hp:p∈ze9 fp h):p.1∈fp/\h.get? p.1=some p.2:=by
 obtain⟨b,hb,e⟩:=List.mem_filterMap.mp hp;cases q:h.get? b with
 | none=>rw[q] at e;cases e
 | some o=>rw[q] at e;have e':(b,o)=p:=Option.some.inj e;subst e';exact⟨hb,q⟩
noncomputable abbrev _root_.Jh:=@List.mem_append_right
theorem Inv.pinned {fp:QO}(I:Inv X pins σ H s)(hf:∀b∈fp,FpOk X pins H b)(ho:∀b∈fp,∃o,s.heap.get? b=some o/\∀v,o.data≠ .cell v):Inv X (pins++ze9 fp s.heap) σ H s:=
 I.pins_of λp hp=>(List.mem_append.mp hp).elim (λz=>I.pin p (Jh _ z)) λz=>by obtain⟨hb,e⟩:=zlV z;obtain⟨f0,f1,f2,_⟩:=hf p.1 hb;obtain⟨o,e',d⟩:=ho p.1 hb;rw[e] at e';cases e';exact⟨e,f0,f1,f2,d⟩
theorem Inv.unpinned {pins pl:QE}(I:Inv X (pins++pl) σ H s):Inv X pins σ H s:=I.pins_of λp hp=>I.pin p (Jh _ (Jp _ hp))
theorem zaC {pos:Pos}(hp:PassesOwn (model X.prog X.w) X.A X.env X.xe)(hc:X.calm=true)(hi:PI X tg iter wi)(hg:PG X tg g)(hb:PSs X body tb)
  (hs:∀x,foldedSetIterable iter X.env x=pure x:=by intro _;rfl):PS X (.For tg iter body [] pos) (tFor wi g tb):=by
 intro pins s σ H D I h;refine wpAny_For (thn (hi pins s σ H _ I h) λv s1 h1=>thn h1 λitv s2 h2=>?_) hs;obtain⟨it,fp,tn,J,H2,e,I2,T,st2,f2,W,⟨m0,w0⟩,turn⟩:=h2;subst e
 have stat:∀{H':Hp},(∀b∈fp,H' b=none)->∀b∈fp,FpOk X pins H' b:=λhn b hb=>⟨hn b hb,(f2 b hb).2⟩;refine codeAny_forLoop_any (λn s'=>∃i σ' H',Inv X pins σ' H' s'/\tn i s'.heap/\(∀b∈fp,H' b=none)/\W i n σ' H') ?_ m0 ⟨0,σ,H2,I2,st2,λb hb=>(f2 b hb).1,w0⟩;rintro n s3 ⟨i,σ3,H3,I3,st3,fr3,w3⟩;rcases turn i n σ3 H3 w3 with ⟨stop,qn⟩ | ⟨go,N,hN,step⟩
 ·refine wpAny_passesOwn hp (thn (T.done X rfl rfl rfl hc i pins s3 σ3 H3 X.xe I3 (stat fr3) st3 stop) λr s4 ⟨hr,I4⟩=>?_);subst hr;exact wpAny_execs_nil ⟨σ3,H3,I4,qn⟩
 ·refine wpAny_passesOwn hp (thn (T.item X rfl rfl rfl hc i pins s3 σ3 H3 X.xe I3 (stat fr3) st3 go) λr s4 ⟨u,hr,h4⟩=>?_);subst hr;refine wpAny_passesOwn hp (thn h4 λ_ s5 ⟨x,H5,I5,r5,y5,st5,fr5⟩=>?_);have I5':=I5.pinned (stat fr5) (T.obj _ _ st5);refine wpAny_passesOwn hp (thn (hg _ s5 σ3 H5 x u _ I5' r5 (step x H5 y5)) λ_ s6 ⟨σ6,H6,I6,q6⟩=>?_);refine wpAny_passesOwn hp (thn (hb _ s6 σ6 H6 _ I6 q6) λf s7 q7=>?_);have again:∀{σ7:St} {H7:Hp},Inv X (pins++ze9 fp s5.heap) σ7 H7 s7->N σ7 H7->∃m,m < n/\∃i σ' H',Inv X pins σ' H' s7/\tn i s7.heap/\(∀b∈fp,H' b=none)/\W i m σ' H':=λ{σ7 H7} I7 n7=>by obtain⟨m',hm,w7⟩:=hN σ7 H7 n7;refine⟨m',hm,i+1,σ7,H7,I7.unpinned,T.keep _ _ _ st5 λb hb o e=>(I7.pin (b,o) (Jh _ (Jh _ (zbQ hb e)))).1,λb hb=>?_,w7⟩;obtain⟨o,e,d⟩:=T.obj _ _ st5 b hb;exact(I7.pin (b,o) (Jh _ (Jh _ (zbQ hb e)))).2.1
  cases f with
  | next=>obtain⟨σ7,H7,I7,n7⟩:=q7;exact again I7 n7
  | cont=>obtain⟨σ7,H7,I7,n7⟩:=q7;exact again I7 n7
  | brk=>obtain⟨σ7,H7,I7,q7⟩:=q7;exact⟨σ7,H7,I7.unpinned,q7⟩
  | ret v=>obtain⟨x7,σ7,H7,I7,r7,q7⟩:=q7;exact⟨x7,σ7,H7,I7.unpinned,r7,q7⟩
end
theorem za5 {K:QA}{a:Addr}{xs:QQ}{g:TG}{tb:TS}{D:Ends}{σ:St}{H:Hp}(Pv:Nat->St->Hp->Prop)(h0:Pv 0 σ H)(hl:∀i σ H,i<=xs.length->Pv i σ H->SqL K H a xs)
  (hs:∀i x σ H,xs[i]? =some x->Pv i σ H->g x σ H fun σ2 H2=>tb {D with nx:=Pv (i+1),ct:=Pv (i+1),bk:=D.nx} σ2 H2) (hd:∀σ H,Pv xs.length σ H->D.nx σ H):
  ∃W:Nat->Nat->St->Hp->Prop,(∃m,W 0 m σ H)/\∀i m σ H,W i m σ H->
   ((Itl K a).stop i H/\D.nx σ H)\/((Itl K a).go i H/\∃N:St->Hp->Prop,(∀σ' H',N σ' H'->∃m',m' < m/\W (i+1) m' σ' H')/\∀x H',(Itl K a).yld i H x H'->g x σ H' fun σ2 H2=>tb {D with nx:=N,ct:=N,bk:=D.nx} σ2 H2):=by
 refine⟨λi m σ H=>m=xs.length - i/\i<=xs.length/\Pv i σ H,⟨xs.length,by simp,Nat.zero_le _,h0⟩,?_⟩;rintro i m σ H ⟨rfl,hi,p⟩;have q:=hl i σ H hi p;by_cases hlt:i < xs.length
 ·refine .inr ⟨⟨xs,xs[i],q,by simp[hlt]⟩,Pv (i+1),fun σ' H' p'=>⟨xs.length - (i+1),by omega,rfl,hlt,p'⟩,λx H' y=>?_⟩;obtain⟨e,y⟩:=y;subst e;exact hs i x σ _ (y xs q) p
 ·have e:i=xs.length:=by omega
  subst e;exact .inl ⟨⟨xs,q,Jb _⟩,hd σ H p⟩
theorem zeM {K:QA}{a:Addr}{xs:QQ}{g:TG}{tb:TS}{D:Ends}{σ:St}{H:Hp}(Pv:Nat->St->Hp->Prop)(h0:Pv 0 σ H)(hl:∀i σ H,i<=xs.length->Pv i σ H->SqT K H a xs)
  (hs:∀i x σ H,xs[i]? =some x->Pv i σ H->g x σ H fun σ2 H2=>tb {D with nx:=Pv (i+1),ct:=Pv (i+1),bk:=D.nx} σ2 H2) (hd:∀σ H,Pv xs.length σ H->D.nx σ H):
  ∃W:Nat->Nat->St->Hp->Prop,(∃m,W 0 m σ H)/\∀i m σ H,W i m σ H->
   ((Itt K a).stop i H/\D.nx σ H)\/((Itt K a).go i H/\∃N:St->Hp->Prop,(∀σ' H',N σ' H'->∃m',m' < m/\W (i+1) m' σ' H')/\∀x H',(Itt K a).yld i H x H'->g x σ H' fun σ2 H2=>tb {D with nx:=N,ct:=N,bk:=D.nx} σ2 H2):=by
 refine⟨λi m σ H=>m=xs.length - i/\i<=xs.length/\Pv i σ H,⟨xs.length,by simp,Nat.zero_le _,h0⟩,?_⟩;rintro i m σ H ⟨rfl,hi,p⟩;have q:=hl i σ H hi p;by_cases hlt:i < xs.length
 ·refine .inr ⟨⟨xs,xs[i],q,by simp[hlt]⟩,Pv (i+1),fun σ' H' p'=>⟨xs.length - (i+1),by omega,rfl,hlt,p'⟩,λx H' y=>?_⟩;obtain⟨e,y⟩:=y;subst e;exact hs i x σ _ (y xs q) p
 ·have e:i=xs.length:=by omega
  subst e;exact .inl ⟨⟨xs,q,Jb _⟩,hd σ H p⟩
theorem zdO {lo:Int}{n:Nat}{g:TG}{tb:TS}{D:Ends}{σ:St}{H:Hp}(Pv:Nat->St->Hp->Prop)(h0:Pv 0 σ H)
  (hs:∀i σ H,i < n->Pv i σ H->g (.int (lo+i)) σ H fun σ2 H2=>tb {D with nx:=Pv (i+1),ct:=Pv (i+1),bk:=D.nx} σ2 H2) (hd:∀σ H,Pv n σ H->D.nx σ H):
  ∃W:Nat->Nat->St->Hp->Prop,(∃m,W 0 m σ H)/\∀i m σ H,W i m σ H->
   ((Itr lo n).stop i H/\D.nx σ H)\/((Itr lo n).go i H/\∃N:St->Hp->Prop,(∀σ' H',N σ' H'->∃m',m' < m/\W (i+1) m' σ' H')/\∀x H',(Itr lo n).yld i H x H'->g x σ H' fun σ2 H2=>tb {D with nx:=N,ct:=N,bk:=D.nx} σ2 H2):=by
 refine⟨λi m σ H=>m=n - i/\i<=n/\Pv i σ H,⟨n,by simp,Nat.zero_le _,h0⟩,?_⟩;rintro i m σ H ⟨rfl,hi,p⟩;by_cases hlt:i < n
 ·refine .inr ⟨hlt,Pv (i+1),fun σ' H' p'=>⟨n - (i+1),by omega,rfl,hlt,p'⟩,λx H' y=>?_⟩;obtain⟨e,y⟩:=y;subst e y;exact hs i σ _ hlt p
 ·have e:i=n:=by omega
  subst e;exact .inl ⟨Jb _,hd σ H p⟩
end L2
namespace L2
open PySem PySem.Spec PyProof.Rows
noncomputable abbrev R2:=V->V->Hp->VK->Prop
noncomputable def OpR (X:Cx)(f:Value->Value->Sem Value)(r:R2):Prop:=
 ∀(pins:QE) (s:Shared) (σ:St) (H:Hp) (x y:V) (v u:Value) (Q:VK),Inv X pins σ H s->RelV x v->RelV y u->r x y H Q->
  wpAny (model X.prog X.w) X.A (f v u) (EP X pins σ Q) X.xe s
noncomputable def UnR (X:Cx)(f:Value->Sem Value)(r:V->Hp->VK->Prop):Prop:=
 ∀(pins:QE) (s:Shared) (σ:St) (H:Hp) (x:V) (v:Value) (Q:VK),Inv X pins σ H s->RelV x v->r x H Q->
  wpAny (model X.prog X.w) X.A (f v) (EP X pins σ Q) X.xe s
noncomputable def zab (X:Cx)(f:Value)(r:List V->Hp->VK->Prop):Prop:=
 ∀(pins:QE) (s:Shared) (σ:St) (H:Hp) (xs:QQ) (us:QN) (Q:VK),Inv X pins σ H s->Vals xs us->r xs H Q->
  wpAny (model X.prog X.w) X.A (call f us) (EP X pins σ Q) X.xe s
noncomputable def tOp (r:R2)(ta tb:TE):TE:=fun σ H Q=>ta σ H λx H1=>tb σ H1 λy H2=>r x y H2 Q
noncomputable def tUn (r:V->Hp->VK->Prop)(ta:TE):TE:=fun σ H Q=>ta σ H λx H1=>r x H1 Q
noncomputable def rI (C:Int->Int->Prop)(g:Int->Int->V):R2:=λx y H Q=>∃i j,x=.int i/\y=.int j/\C i j/\Q (g i j) H
noncomputable def rI0 (g:Int->Int->V):R2:=λx y H Q=>∃i j,x=.int i/\y=.int j/\Q (g i j) H
noncomputable def rU (g:Int->V):V->Hp->VK->Prop:=λx H Q=>∃i,x=.int i/\Q (g i) H
section
variable {X:Cx}{a b c:Expr}{ta tb tc:TE}{pos:Pos}
theorem binT (ha:PE X a ta)(hb:PE X b tb){R:V->V->Hp->Prop}(I:Inv X pins σ H s)
  (h:ta σ H λx H1=>tb σ H1 λy H2=>R x y H2)  {f:Value->Value->Sem Value}
  (hf:∀v u s2 x y H2,Inv X pins σ H2 s2->RelV x v->RelV y u->R x y H2->wpAny (model X.prog X.w) X.A (f v u) Q X.xe s2):
  wpAny (model X.prog X.w) X.A (eval a X.env) (λv s₁=>wpAny (model X.prog X.w) X.A (eval b X.env) (λu s₂=>wpAny (model X.prog X.w) X.A (f v u) Q X.xe s₂) X.xe s₁) X.xe s:=by
 refine thn (ha pins s σ H _ I h) λv s1 ⟨x,H1,I1,r1,q1⟩=>?_;refine thn (hb pins s1 σ H1 _ I1 q1) λu s2 ⟨y,H2,I2,r2,q2⟩=>?_;exact hf v u s2 x y H2 I2 r1 r2 q2
theorem zdu (ho:OpR X (binaryOp op) r)(ha:PE X a ta)(hb:PE X b tb):PE X (.BinOp a op b pos) (tOp r ta tb):=by intro pins s σ H Q I h;exact wpAny_BinOp (binT ha hb I h λv u s2 x y H2 I2 rx ry q=>ho pins s2 σ H2 x y v u Q I2 rx ry q)
theorem zts (ho:UnR X (unaryOp op) r)(ha:PE X a ta):PE X (.UnaryOp op a pos) (tUn r ta):=by intro pins s σ H Q I h;exact UnaryOp_ (thn (ha pins s σ H _ I h) λv s1 ⟨x,H1,I1,r1,q1⟩=>ho pins s1 σ H1 x v Q I1 r1 q1)
theorem opI {f:Value->Value->Sem Value}{C:Int->Int->Prop}{g:Int->Int->Int}
  (rule:∀(i j:Int) (t u:Tok) (s:Shared) (Q:QC) (E:QC),C i j->Q (.int (g i j) s.toks) {s with toks:=s.toks+1}->wpAny (model X.prog X.w) X.A (f (.int i t) (.int j u)) Q E s):
  OpR X f (rI C λi j=>.int (g i j)):=by
 intro pins s σ H x y v u Q I rx ry h;obtain⟨i,j,rfl,rfl,hc,q⟩:=h;obtain⟨t,rfl⟩:=rx;obtain⟨t',rfl⟩:=ry;exact rule i j t t' s _ _ hc ⟨.int (g i j),H,I.tok _,⟨_,rfl⟩,q⟩
theorem opI0 {f:Value->Value->Sem Value}{g:Int->Int->Int}
  (rule:∀(i j:Int) (t u:Tok) (s:Shared) (Q:QC) (E:QC),Q (.int (g i j) s.toks) {s with toks:=s.toks+1}->wpAny (model X.prog X.w) X.A (f (.int i t) (.int j u)) Q E s):
  OpR X f (rI0 λi j=>.int (g i j)):=by
 intro pins s σ H x y v u Q I rx ry h;obtain⟨i,j,rfl,rfl,q⟩:=h;obtain⟨t,rfl⟩:=rx;obtain⟨t',rfl⟩:=ry;exact rule i j t t' s _ _ ⟨.int (g i j),H,I.tok _,⟨_,rfl⟩,q⟩
theorem opB0 {f:Value->Value->Sem Value}{g:Int->Int->Bool}
  (rule:∀(i j:Int) (t u:Tok) (s:Shared) (Q:QC) (E:QC),Q (.bool (g i j)) s->wpAny (model X.prog X.w) X.A (f (.int i t) (.int j u)) Q E s):
  OpR X f (rI0 λi j=>.bl (g i j)):=by
 intro pins s σ H x y v u Q I rx ry h;obtain⟨i,j,rfl,rfl,q⟩:=h;obtain⟨t,rfl⟩:=rx;obtain⟨t',rfl⟩:=ry;exact rule i j t t' s _ _ ⟨.bl (g i j),H,I,rfl,q⟩
noncomputable def CPow (i j:Int):Prop:=0<=j/\j<=1000000/\i.natAbs < 2 ^ 64
noncomputable def CMul (i j:Int):Prop:=(-(2 ^ 64) < i/\i < 2 ^ 64)\/(-(2 ^ 64) < j/\j < 2 ^ 64)
theorem CMul.ok (h:CMul i j):IntMulOk i j:=by
 rcases h with ⟨h1,h2⟩ | ⟨h1,h2⟩
 ·exact .of_left (intBits_le_64 h1 h2)
 ·exact .of_right (intBits_le_64 h1 h2)
theorem zrX:OpR X (binaryOp .Add) (rI0 λi j=>.int (i+j)):=opI0 λ_ _ _ _ _ _ _ q=>add_int q
theorem zr1:OpR X (binaryOp .Sub) (rI0 λi j=>.int (i - j)):=opI0 λ_ _ _ _ _ _ _ q=>sub_int q
theorem zrh:OpR X (binaryOp .Mult) (rI CMul λi j=>.int (i * j)):=opI λ_ _ _ _ _ _ _ hc q=>mul_int q hc.ok
theorem zrG:OpR X (binaryOp .Mod) (rI (λ_ j=>0 < j) λi j=>.int (i % j)):=opI λi j _ _ _ _ _ hc q=>by have h1:(0:Int) < j:=hc;exact mod_int' (by omega) (by rw[Int.fmod_eq_emod_of_nonneg i (by omega)];exact q)
theorem zsg:OpR X (binaryOp .Pow) (rI CPow λi j=>.int (i ^ j.toNat)):=opI λ_ _ _ _ _ _ _ hc q=>pow_int_small hc.1 hc.2.1 hc.2.2 q
theorem unI {f:Value->Sem Value}{g:Int->Int}
  (rule:∀(i:Int) (t:Tok) (s:Shared) (Q:QC) (E:QC),Q (.int (g i) s.toks) {s with toks:=s.toks+1}->wpAny (model X.prog X.w) X.A (f (.int i t)) Q E s):
  UnR X f (rU λi=>.int (g i)):=by
 intro pins s σ H x v Q I rx h;obtain⟨i,rfl,q⟩:=h;obtain⟨t,rfl⟩:=rx;exact rule i t s _ _ ⟨.int (g i),H,I.tok _,⟨_,rfl⟩,q⟩
theorem zrl:UnR X (unaryOp .USub) (rU λi=>.int (-i)):=unI λ_ _ _ _ _ q=>neg_int q
end
noncomputable def scal:V->V->Bool
 | .non,.non=>true | .non,.int _=>true | .int _,.non=>true | .non,.bl _=>true | .bl _,.non=>true | .non,.str _=>true | .str _,.non=>true
 | .int _,.int _=>true | .bl _,.bl _=>true | .str _,.str _=>true | .byt _,.byt _=>true
 | .int _,.str _=>true | .str _,.int _=>true | .bl _,.str _=>true | .str _,.bl _=>true
 | _,_=>false
noncomputable def rEq:R2:=λx y H Q=>scal x y=true/\Q (.bl (decide (x=y))) H
noncomputable def rNe:R2:=λx y H Q=>scal x y=true/\Q (.bl (!decide (x=y))) H
theorem zkm:decide (V.int i=V.int j)=(i==j):=by rw[Bool.eq_iff_iff];simp
theorem zmw:decide (V.bl i=V.bl j)=(i==j):=by rw[Bool.eq_iff_iff];simp
theorem zkH:decide (V.str i=V.str j)=(i==j):=by rw[Bool.eq_iff_iff];simp
theorem zkP:decide (V.byt i=V.byt j)=(i.toList==j.toList):=by rw[Bool.eq_iff_iff];cases i;cases j;simp
section
variable {X:Cx}{a b c:Expr}{ta tb tc:TE}{pos:Pos}
theorem zC {Q:VK}{k k':Bool}(I:Inv X pins σ H s)(q:Q (.bl k) H)(e:k=k'):EP X pins σ Q (.bool k') s:=by subst e;exact⟨.bl k,H,I,rfl,q⟩
theorem zmp:OpR X (compareOp .Eq) rEq:=by
 intro pins s σ H x y v u Q I rx ry h;obtain⟨hs,q⟩:=h;cases x with
 | non=>
  cases rx;cases y with
  | non=>cases ry;exact PySem.EqNone.eq_none_none (zC I q (by simp))
  | bl j=>cases ry;exact PySem.EqNone.eq_none_bool (zC I q (by simp))
  | int j=>obtain⟨t',rfl⟩:=ry;exact PySem.EqNone.eq_none_int (zC I q (by simp))
  | str j=>obtain⟨t',rfl⟩:=ry;exact PySem.EqNone.eq_none_str (zC I q (by simp))
  | _=>exact Je (show false=true from hs) Jc
 | bl i=>
  cases rx;cases y with
  | non=>cases ry;exact PySem.EqNone.eq_bool_none (zC I q (by simp))
  | bl j=>cases ry;exact eq_bool (zC I q zmw)
  | str j=>obtain⟨t',rfl⟩:=ry;exact PySem.EqMixed.eq_bool_str (zC I q (by simp))
  | _=>exact Je (show false=true from hs) Jc
 | int i=>
  obtain⟨t,rfl⟩:=rx;cases y with
  | non=>cases ry;exact PySem.EqNone.eq_int_none (zC I q (by simp))
  | int j=>obtain⟨t',rfl⟩:=ry;exact eq_int (zC I q zkm)
  | str j=>obtain⟨t',rfl⟩:=ry;exact PySem.EqMixed.eq_int_str (zC I q (by simp))
  | _=>exact Je (show false=true from hs) Jc
 | str i=>
  obtain⟨t,rfl⟩:=rx;cases y with
  | non=>cases ry;exact PySem.EqNone.eq_str_none (zC I q (by simp))
  | bl j=>cases ry;exact PySem.EqMixed.eq_str_bool (zC I q (by simp))
  | int j=>obtain⟨t',rfl⟩:=ry;exact PySem.EqMixed.eq_str_int (zC I q (by simp))
  | str j=>obtain⟨t',rfl⟩:=ry;exact eq_str (zC I q zkH)
  | _=>exact Je (show false=true from hs) Jc
 | byt i=>
  obtain⟨t,rfl⟩:=rx;cases y with
  | byt j=>obtain⟨t',rfl⟩:=ry;exact PySem.W.eq_bytes (zC I q zkP)
  | _=>exact Je (show false=true from hs) Jc
 | _=>cases y <;> exact Je (show false=true from hs) Jc
theorem zn9:OpR X (compareOp .NotEq) rNe:=by
 intro pins s σ H x y v u Q I rx ry h;obtain⟨hs,q⟩:=h;cases x with
 | non=>
  cases rx;cases y with
  | non=>cases ry;exact PySem.EqNone.ne_none_none (zC I q (by simp))
  | bl j=>cases ry;exact PySem.EqNone.ne_none_bool (zC I q (by simp))
  | int j=>obtain⟨t',rfl⟩:=ry;exact PySem.EqNone.ne_none_int (zC I q (by simp))
  | str j=>obtain⟨t',rfl⟩:=ry;exact PySem.EqNone.ne_none_str (zC I q (by simp))
  | _=>exact Je (show false=true from hs) Jc
 | bl i=>
  cases rx;cases y with
  | non=>cases ry;exact PySem.EqNone.ne_bool_none (zC I q (by simp))
  | bl j=>cases ry;exact ne_bool (zC I q (congrArg not zmw))
  | str j=>obtain⟨t',rfl⟩:=ry;exact PySem.EqMixed.ne_bool_str (zC I q (by simp))
  | _=>exact Je (show false=true from hs) Jc
 | int i=>
  obtain⟨t,rfl⟩:=rx;cases y with
  | non=>cases ry;exact PySem.EqNone.ne_int_none (zC I q (by simp))
  | int j=>obtain⟨t',rfl⟩:=ry;exact ne_int (zC I q (congrArg not zkm))
  | str j=>obtain⟨t',rfl⟩:=ry;exact PySem.EqMixed.ne_int_str (zC I q (by simp))
  | _=>exact Je (show false=true from hs) Jc
 | str i=>
  obtain⟨t,rfl⟩:=rx;cases y with
  | non=>cases ry;exact PySem.EqNone.ne_str_none (zC I q (by simp))
  | bl j=>cases ry;exact PySem.EqMixed.ne_str_bool (zC I q (by simp))
  | int j=>obtain⟨t',rfl⟩:=ry;exact PySem.EqMixed.ne_str_int (zC I q (by simp))
  | str j=>obtain⟨t',rfl⟩:=ry;exact ne_str (zC I q (congrArg not zkH))
  | _=>exact Je (show false=true from hs) Jc
 | byt i=>
  obtain⟨t,rfl⟩:=rx;cases y with
  | byt j=>obtain⟨t',rfl⟩:=ry;exact PySem.W.ne_bytes (zC I q (congrArg not zkP))
  | _=>exact Je (show false=true from hs) Jc
 | _=>cases y <;> exact Je (show false=true from hs) Jc
theorem zqH:OpR X (compareOp .Lt) (rI0 λi j=>.bl (decide (i < j))):=opB0 λ_ _ _ _ _ _ _ q=>lt_int q
theorem zkU:OpR X (compareOp .LtE) (rI0 λi j=>.bl (decide (i<=j))):=opB0 λ_ _ _ _ _ _ _ q=>le_int q
theorem ztq:OpR X (compareOp .Gt) (rI0 λi j=>.bl (decide (j < i))):=opB0 λ_ _ _ _ _ _ _ q=>gt_int q
theorem zty:OpR X (compareOp .GtE) (rI0 λi j=>.bl (decide (j<=i))):=opB0 λ_ _ _ _ _ _ _ q=>ge_int q
theorem zli:OpR X (compareOp .Lt) (λx y H Q=>∃i j,x=.str i/\y=.str j/\Q (.bl (decide (i.cps.toList < j.cps.toList))) H):=by intro pins s σ H x y v u Q I rx ry h;obtain⟨i,j,rfl,rfl,q⟩:=h;obtain⟨t,rfl⟩:=rx;obtain⟨t',rfl⟩:=ry;exact lt_str (zC I q rfl)
theorem zsi:OpR X (compareOp .Is) (λx y H Q=>y=.non/\Q (.bl (decide (x=.non))) H):=by
 intro pins s σ H x y v u Q I rx ry h;obtain⟨rfl,q⟩:=h;cases ry;refine is_none_gen (zC I q ?_);cases x <;> first
  | (cases rx;rfl)
  | (obtain⟨t,rfl⟩:=rx;rfl)
theorem zpd:OpR X (compareOp .IsNot) (λx y H Q=>y=.non/\Q (.bl (!decide (x=.non))) H):=by
 intro pins s σ H x y v u Q I rx ry h;obtain⟨rfl,q⟩:=h;cases ry;refine isnot_none_gen (zC I q ?_);cases x <;> first
  | (cases rx;rfl)
  | (obtain⟨t,rfl⟩:=rx;rfl)
theorem zdv:OpR X (compareOp .NotIn) (λx y H Q=>∃i j,x=.str i/\y=.str j/\Q (.bl (!(!(Builtin.Str.occurrences j i 0 j.length 1).isEmpty))) H):=by intro pins s σ H x y v u Q I rx ry h;obtain⟨i,j,rfl,rfl,q⟩:=h;obtain⟨t,rfl⟩:=rx;obtain⟨t',rfl⟩:=ry;exact notIn_str (zC I q rfl)
theorem OpR.or (h:OpR X f r)(h':OpR X f r'):OpR X f (λx y H Q=>r x y H Q\/r' x y H Q):=by
 intro pins s σ H x y v u Q I rx ry q;rcases q with q | q
 ·exact h pins s σ H x y v u Q I rx ry q
 ·exact h' pins s σ H x y v u Q I rx ry q
theorem zat (b:Expr){op:CmpOp}(h:op≠ .In:=by decide)(h2:op≠ .NotIn:=by decide):behindInMarks op b=false:=by
 have e1:(op==CmpOp.In)=false:=by cases op <;> first | rfl | exact Je rfl h
 have e2:(op==CmpOp.NotIn)=false:=by cases op <;> first | rfl | exact Je rfl h2
 cases b <;> simp[behindInMarks,e1,e2]
theorem zaf (ho:OpR X (compareOp op) r)(ha:PE X a ta)(hb:PE X b tb)(hm:behindInMarks op b=false):PE X (.Compare a [op] [b] pos) (tOp r ta tb):=by intro pins s σ H Q I h;exact wpAny_Compare1 (binT ha hb I h λv u s2 x y H2 I2 rx ry q=>ho pins s2 σ H2 x y v u Q I2 rx ry q) hm
noncomputable def zqM (t:TE):TT:=fun σ H Q=>t σ H λx H'=>∃k,x=.bl k/\Q k H'
theorem zaH (ho:OpR X (compareOp op) r)(ha:PE X a ta)(hb:PE X b tb)(hm:behindInMarks op b=false):PT X (.Compare a [op] [b] pos) (zqM (tOp r ta tb)):=by
 intro pins s σ H Q I h;refine wpAny_isTrue_Compare1 (thn (ha pins s σ H _ I h) λv s1 ⟨x,H1,I1,r1,q1⟩=>thn (hb pins s1 σ H1 _ I1 q1) λu s2 ⟨y,H2,I2,r2,q2⟩=>
  thn (ho pins s2 σ H2 x y v u _ I2 r1 r2 q2) λc s3 ⟨z,H3,I3,r3,k,e,q3⟩=>?_) hm
 subst e;cases r3;exact wpAny_truthy_bool ⟨H3,I3,q3⟩
noncomputable def zmK (r r':R2)(ta tb tc:TE):TE:=fun σ H Q=>ta σ H λx H1=>tb σ H1 λy H2=>r x y H2 λz H3=>∃k,z=.bl k/\
 (if k=true then tc σ H3 λw' H4=>r' y w' H4 Q else Q (.bl false) H3)
theorem zm0 (ho:OpR X (compareOp op) r)(ho':OpR X (compareOp op') r')(ha:PE X a ta)(hb:PE X b tb)(hc:PE X c tc)
  (hm:lastMarks [op,op'] [b,c]=false:=by with_unfolding_all rfl):PE X (.Compare a [op,op'] [b,c] pos) (zmK r r' ta tb tc):=by
 intro pins s σ H Q I h;refine Compare_chain (thn (ha pins s σ H _ I h) λv s1 ⟨x,H1,I1,r1,q1⟩=>chain_link (thn (hb pins s1 σ H1 _ I1 q1) λu s2 ⟨y,H2,I2,r2,q2⟩=>
  thn (ho pins s2 σ H2 x y v u _ I2 r1 r2 q2) λd s3 ⟨z,H3,I3,r3,k,e,q3⟩=>?_)) hm
 subst e;cases r3;refine wpAny_truthy_bool ?_;cases k with
 | false=>exact ite_ff ⟨.bl false,H3,I3,rfl,q3⟩
 | true=>exact ite_tt (chain_last (thn (hc pins s3 σ H3 _ I3 q3) λw' s4 ⟨z',H4,I4,r4,q4⟩=>ho' pins s4 σ H4 y z' u w' Q I4 r2 r4 q4))
theorem zdr (ho:OpR X (compareOp op) r)(ho':OpR X (compareOp op') r')(ha:PE X a ta)(hb:PE X b tb)(hc:PE X c tc)
  (hm:lastMarks [op,op'] [b,c]=false:=by with_unfolding_all rfl):PT X (.Compare a [op,op'] [b,c] pos) (zqM (zmK r r' ta tb tc)):=by
 intro pins s σ H Q I h;refine isTrue_chain (thn (ha pins s σ H _ I h) λv s1 ⟨x,H1,I1,r1,q1⟩=>test_link (thn (hb pins s1 σ H1 _ I1 q1) λu s2 ⟨y,H2,I2,r2,q2⟩=>
  thn (ho pins s2 σ H2 x y v u _ I2 r1 r2 q2) λd s3 ⟨z,H3,I3,r3,k,e,q3⟩=>?_)) hm
 subst e;cases r3;refine wpAny_truthy_bool ?_;cases k with
 | false=>obtain⟨k',e',q'⟩:=q3;cases e';exact ite_ff ⟨H3,I3,q'⟩
 | true=>refine ite_tt (test_last (thn (hc pins s3 σ H3 _ I3 q3) λw' s4 ⟨z',H4,I4,r4,q4⟩=>thn (ho' pins s4 σ H4 y z' u w' _ I4 r2 r4 q4) λd' s5 ⟨z2,H5,I5,r5,k2,e2,q5⟩=>?_));subst e2;cases r5;exact wpAny_truthy_bool ⟨H5,I5,q5⟩
theorem zdY:(sizeLine:Nat) < 2 ^ 63:=by rw[sizeLine_eq];decide
theorem zjs:OpR X (binaryOp .Add) (λx y H Q=>∃i j,x=.str i/\y=.str j/\i.length+j.length<=sizeLine/\Q (.str (i++j)) H):=by intro pins s σ H x y v u Q I rx ry h;obtain⟨i,j,rfl,rfl,hz,q⟩:=h;obtain⟨t,rfl⟩:=rx;obtain⟨t',rfl⟩:=ry;exact add_str (λt' tk=>⟨.str (i++j),H,I.tok _,⟨_,rfl⟩,q⟩) hz
theorem vals1 {x:V}(r:Vals [x] us):∃u,us=[u]/\RelV x u:=by
 cases r with
 | cons r1 r2=>cases r2;exact⟨_,rfl,r1⟩
theorem vals2 {x y:V}(r:Vals [x,y] us):∃u w',us=[u,w']/\RelV x u/\RelV y w':=by
 cases r with
 | cons r1 r2=>
  cases r2 with
  | cons r3 r4=>cases r4;exact⟨_,_,rfl,r1,r3⟩
theorem znN:zab X (.builtin "abs") (λxs H Q=>∃i,xs=[.int i]/\Q (.int (if i < 0 then -i else i)) H):=by intro pins s σ H xs us Q I r h;obtain⟨i,rfl,q⟩:=h;obtain⟨u,rfl,t,rfl⟩:=vals1 r;exact call_abs_int λu tk=>⟨.int (if i < 0 then -i else i),H,I.tok _,⟨_,rfl⟩,q⟩
theorem zgA:zab X (.type "int") (λxs H Q=>(∃i,xs=[.int i]/\Q (.int i) H)\/∃k,xs=[.bl k]/\Q (.int (if k then 1 else 0)) H):=by
 intro pins s σ H xs us Q I r h;rcases h with ⟨i,rfl,q⟩ | ⟨k,rfl,q⟩
 ·obtain⟨u,rfl,t,rfl⟩:=vals1 r;exact call_int_int ⟨.int i,H,I,⟨_,rfl⟩,q⟩
 ·obtain⟨u,rfl,r1⟩:=vals1 r;cases r1;exact call_int_bool ⟨.int (if k then 1 else 0),H,I.tok _,⟨_,rfl⟩,q⟩
theorem zmS:zab X (.builtin "ord") (λxs H Q=>∃x,xs=[.str x]/\x.length=1/\Q (.int (x.cps.getD 0 0:Nat)) H):=by intro pins s σ H xs us Q I r h;obtain⟨x,rfl,hz,q⟩:=h;obtain⟨u,rfl,t,rfl⟩:=vals1 r;exact ord_of_one hz ⟨.int _,H,I.tok _,⟨_,rfl⟩,q⟩
end
end L2
namespace L2
open PySem PySem.Spec PyProof.Rows
structure ObjM (h:Heap)(x dx C:Addr)(mA:QB):Prop where
 obj:h.get? x=some (PySem.W.instObj C dx)
 ns:h.Ns1 dx mA
 ne:dx≠x
theorem zd4 {h:Heap}{dx:Addr}{mA:QB}(n:h.Ns1 dx mA):∃od,h.get? dx=some od/\∀name,PySem.W.lookIn name od=some (mA name):=by
 obtain⟨o,es,ep,ho,hd,hk,_,hm⟩:=n;refine⟨o,ho,λname=>?_⟩;have e:=hm name;unfold nsFind findBy at e;rw[<-Array.find?_toList] at e;unfold PySem.W.lookIn;rw[hd];dsimp only;split
 ·rename_i y q;rw[q] at e;exact congrArg some e
 ·rename_i q;rw[q] at e;have a:es.toList.any (·.refKey)=false:=by rw[List.any_eq_false];intro y hy;obtain⟨z,t,hkey⟩:=hk y (Array.mem_toList_iff.mp hy);simp[DictEntry.refKey,hkey]
  have a':¬es.toList.any (·.refKey)=true:=by rw[a];exact Jc
  rw[if_neg a'];exact congrArg some e
theorem ObjM.look (I:ObjM h x dx C mA):∃od,PySem.W.InstAt h x (PySem.W.instObj C dx) C (some od)/\∀name,PySem.W.lookIn name od=some (mA name):=
 let ⟨od,ho,hl⟩:=zd4 I.ns
 ⟨od,⟨I.obj,rfl,rfl,ho⟩,hl⟩
section
variable {prog:Program}{w:World}{A:Around}{E:QC}{s:Shared}{K:QA}{x dx C f:Addr}{mA:QB}{name:Str}{v:Value}
theorem get_map {Q:QC}(X:K.In s.heap)(I:ObjM s.heap x dx C mA)(hg:PySem.W.plainGet K C name=true)(hh:PySem.W.hasDictIn K C=true)
  (ha:PySem.W.findIn K (.ref C) name=some none) (hv:mA name=some v) (hv':PySem.W.handedIn v=true) (h:Q v {s with toks:=s.toks+1}):
  wpAny (model prog w) A (getAttr (.ref x) name expr) Q E s:=by
 obtain⟨od,J,hl⟩:=I.look;exact PySem.W.get_value X J (PySem.W.plainGet_of hg).1 (PySem.W.findObj_own hh ha rfl (by rw[hl,hv])) hv' h
theorem zok {Q:Value ×List Value->Shared->Prop}(X:K.In s.heap)(I:ObjM s.heap x dx C mA)(hg:PySem.W.plainGet K C name=true)
  (hf:PySem.W.findIn K (.ref C) name=some (some (.ref f))) (ht:PySem.W.isFn K (.ref f)=true) (hv:mA name=none) (h:Q (.ref f,[.ref x]) s):
  wpAny (model prog w) A (getMethod (.ref x) name pl) Q E s:=by
 obtain⟨od,J,hl⟩:=I.look;exact PySem.W.method_fn X J (PySem.W.plainGet_of hg).1 (PySem.W.plainGet_of hg).2 hf (beq_iff_eq.mp ht) (by show(PySem.W.lookIn name od).map (·.isSome)=some false;rw[hl,hv];rfl) h
theorem zoW {Q:QD}(X:K.In s.heap)(I:ObjM s.heap x dx C mA)
  (hs:PySem.W.findIn K (.ref C) "__setattr__" =some (some (.builtin "object.__setattr__"))) (hp:PySem.W.plainOver K C=true) (ht:PySem.W.takerIn K C name=some none) (hh:PySem.W.hasDictIn K C=true)
  (hw:PySem.Within mA ns) (hsz:ns.length<=sizeLine)
  (h:∀h',ObjM h' x dx C (λy=>if y=name then some v else mA y)->Heap.SameBut dx s.heap h'->Q () {s with heap:=h',toks:=s.toks+2}):
  wpAny (model prog w) A (setAttr (.ref x) name v) Q E s:=by
 obtain⟨od,J,hl⟩:=I.look;refine PySem.W.set_plain X J hs (PySem.W.osa_open (s:={s with toks:=s.toks+1}) (r:=none) X J hp ht λb=>?_);obtain⟨cd,hc,hd'⟩:=PySem.W.any_some hh;have hx:s.heap.get? x=some ⟨.ref C,some dx,.plain, #[]⟩:=I.obj;refine Ja (wpAny_pure (Ja (Ja (wpAny_loadPart hx (Ja (PySem.W.Looks.here (s:={s with toks:=s.toks+1}) (PySem.W.looks_clsIn X hc) ?_))))));rw[hd'];refine wpAny_pure (a:=some dx) (Ja (wpAny_pure (Ja ?_)));refine wpAny_nsSet1 (s:={s with toks:=s.toks+1}) I.ns λh' hn2 hs2=>?_;obtain⟨oD,esD,epD,hoD,hdD,hcD⟩:=hn2.count (PySem.Within.cons name v hw);refine Ja (wpAny_lookBehind hoD (by rw[hdD];exact pastItsLine_dict (Ji hcD (by rw[List.length_cons];omega))) ?_);exact wpAny_pure (h _ ⟨(hs2.2 _ (Ne.symm I.ne)).trans I.obj,hn2,I.ne⟩ hs2)
noncomputable abbrev _root_.QK:=List (Str ×Value)
theorem zm4 {vs:QN}{kw:QK}(X:K.In s.heap)(hm:PySem.W.makesIn K C=true)
  (hi:PySem.W.findIn K (.ref C) "__init__" =some (some (.ref f))) (hf:PySem.W.typeIn K (.ref f)=some (.type "function"))
  (h:codeAny (model prog w) (A.under (.builtin "type.__call__" ⟨.ref C::vs,kw⟩)) (.call (.ref f) ⟨.ref (s.heap.objs.size+1)::vs,kw⟩) (PySem.W.InitBack (s.heap.objs.size+1) R)
   {s with heap:=(s.heap.push PySem.W.emptyDict).push (PySem.W.instObj C s.heap.objs.size)}):
  codeAny (model prog w) A (.call (.ref C) ⟨vs,kw⟩) R s:=by
 obtain⟨hh,g,d,t,os⟩:=s;exact PySem.W.make_core (PySem.W.makes_of X hm) (PySem.W.looks_findIn X hi) (λself=>PySem.W.bind_fn X self hf) (.inl rfl) h
end
noncomputable def putF (f:Str)(v:V):List (Str ×V)->List (Str ×V)
 | []=>[(f,v)]
 | (g,x)::r=>if g=f then(g,v)::r else(g,x)::putF f v r
theorem zcp (f g:Str)(v:V):∀fs:List (Str ×V),(putF f v fs).lookup g=if g=f then some v else fs.lookup g
 | []=>by
  show List.lookup g [(f,v)]=_;by_cases h:g=f
  ·have hb:(g==f)=true:=beq_iff_eq.mpr h;simp only[List.lookup,hb,if_pos h]
  ·have hb:(g==f)=false:=beq_eq_false_iff_ne.mpr h;simp only[List.lookup,hb,if_neg h]
 | (k,x)::r=>by
  have ih:=zcp f g v r;rw[show putF f v ((k,x)::r)=(if k=f then(k,v)::r else(k,x)::putF f v r) from rfl];by_cases hk:k=f
  ·rw[if_pos hk];by_cases h:g=k
   ·have hb:(g==k)=true:=beq_iff_eq.mpr h;simp only[List.lookup,hb,if_pos (h.trans hk)]
   ·have hb:(g==k)=false:=beq_eq_false_iff_ne.mpr h;simp only[List.lookup,hb,if_neg (λe:g=f=>h (e.trans hk.symm))]
  ·rw[if_neg hk];by_cases h:g=k
   ·have hb:(g==k)=true:=beq_iff_eq.mpr h;simp only[List.lookup,hb,if_neg (λe:g=f=>hk (h.symm.trans e))]
   ·have hb:(g==k)=false:=beq_eq_false_iff_ne.mpr h;simp only[List.lookup,hb];exact ih
theorem zbx (f:Str)(v:V):∀fs:List (Str ×V),f∈(putF f v fs).map (·.1)/\∀g,g∈fs.map (·.1)->g∈(putF f v fs).map (·.1)
 | []=>⟨by simp[putF],λg h=>by simp at h⟩
 | (k,x)::r=>by
  obtain⟨i1,i2⟩:=zbx f v r;rw[show putF f v ((k,x)::r)=(if k=f then(k,v)::r else(k,x)::putF f v r) from rfl];by_cases hk:k=f
  ·rw[if_pos hk];subst hk;exact⟨by simp,λg h=>by simpa using h⟩
  ·rw[if_neg hk];refine⟨?_,λg h=>?_⟩
   ·rw[List.map_cons];exact Jd _ i1
   ·rw[List.map_cons] at h ⊢;rcases List.mem_cons.mp h with e | e
    ·exact List.mem_cons.mpr (.inl e)
    ·exact Jd _ (i2 g e)
theorem zec (f:Str)(v:V):∀fs:List (Str ×V),(putF f v fs).length<=fs.length+1
 | []=>by simp[putF]
 | (k,x)::r=>by
  have ih:=zec f v r;rw[show putF f v ((k,x)::r)=(if k=f then(k,v)::r else(k,x)::putF f v r) from rfl];by_cases hk:k=f
  ·rw[if_pos hk,List.length_cons,List.length_cons];omega
  ·rw[if_neg hk,List.length_cons,List.length_cons];omega
theorem RelO.some_of {v:V}(r:RelO (some v) o):∃u,o=some u/\RelV v u:=by
 cases o with
 | none=>exact(show False from r).elim
 | some u=>exact⟨u,rfl,r⟩
theorem RelO.none_of (r:RelO none o):o=none:=by
 cases o with
 | none=>rfl
 | some u=>exact(show False from r).elim
theorem zgm (r:RelV v u):PySem.W.handedIn u=true:=by
 cases v with
 | non=>cases (show u=Value.none from r);rfl
 | bl b=>cases (show u=Value.bool b from r);rfl
 | int i=>obtain⟨t,e⟩:=(show∃t,u=Value.int i t from r);cases e;rfl
 | str x=>obtain⟨t,e⟩:=(show∃t,u=Value.str x t from r);cases e;rfl
 | byt b=>obtain⟨t,e⟩:=(show∃t,u=Value.bytes b t from r);cases e;rfl
 | flt b=>obtain⟨t,e⟩:=(show∃t,u=Value.float b t from r);cases e;rfl
 | ref a=>cases (show u=Value.ref a from r);rfl
 | ty n=>cases (show u=Value.type n from r);rfl
section
variable {P:Program}{w:World}{H H':Hp}{h h':Heap}{a C dx:Addr}{fs fs':List (Str ×V)}
theorem zeI (hok:HOk P w H h)(e:H a=some (.ins C dx fs)):∃mA,ObjM h a dx C mA/\(∀f,RelO (fs.lookup f) (mA f))/\PySem.Within mA (fs.map (·.1))/\fs.length<=1000/\H dx=some (.own a):=by obtain⟨d,z,ne,ob,mA,n,r,q⟩:=(show zF P w H h a (.ins C dx fs) from hok a _ e);exact⟨mA,⟨ob,n,ne⟩,r,q,z,d⟩
end
structure Cls (K:QA)(C:Addr):Prop where
 pg:PySem.W.plainGet K C Str.empty=true
 hd:PySem.W.hasDictIn K C=true
 po:PySem.W.plainOver K C=true
 sa:PySem.W.findIn K (.ref C) "__setattr__" =some (some (.builtin "object.__setattr__"))
theorem Cls.get {K:QA}{C:Addr}(c:Cls K C)(f:Str):PySem.W.plainGet K C f=true:=c.pg
noncomputable def zO (K:QA)(C:Addr)(f:Str):Prop:=PySem.W.findIn K (.ref C) f=some none
theorem zO.taker {K:QA}{C:Addr}{f:Str}(n:zO K C f):PySem.W.takerIn K C f=some none:=by
 unfold PySem.W.takerIn;rw[show PySem.W.findIn K (.ref C) f=some none from n]
 rfl
structure Con (K:QA)(C:Addr)(f:Str)(v:V)(u:Value):Prop where
 at_:PySem.W.findIn K (.ref C) f=some (some u)
 rel:RelV v u
 get:PySem.W.specialIn K u "__get__" =some none
 cp:PySem.W.copiedNames.contains f=false
structure Meth (K:QA)(C:Addr)(m:Str)(f:Addr):Prop where
 at_:PySem.W.findIn K (.ref C) m=some (some (.ref f))
 fn:PySem.W.isFn K (.ref f)=true
 kp:PySem.W.keepIn K (.ref f)=true
section
variable {X:Cx}{pins:QE}{σ:St}{H:Hp}{s:Shared}{a C dx:Addr}{fs:List (Str ×V)}{f:Str}{v:V}{A:Around}{E:QC}
theorem zjL {Q:QC}(I:Inv X pins σ H s)(e:H a=some (.ins C dx fs))(c:Cls X.K C)(n:zO X.K C f)(l:fs.lookup f=some v)
  (h:∀u s',Inv X pins σ H s'->RelV v u->Q u s'):wpAny (model X.prog X.w) A (getAttr (.ref a) f b) Q E s:=by
 obtain⟨mA,O,r,_,_,_⟩:=zeI I.hok e;obtain⟨u,hu,ru⟩:=RelO.some_of (v:=v) (o:=mA f) (by rw[<-l];exact r f);exact get_map I.kIn O (c.get f) c.hd n hu (zgm ru) (h u _ (I.tok _) ru)
theorem zfo {Q:Value ×List Value->Shared->Prop}(I:Inv X pins σ H s)(e:H a=some (.ins C dx fs))(c:Cls X.K C)(k:Meth X.K C m g)(l:fs.lookup m=none)
  (h:Q (.ref g,[.ref a]) s):wpAny (model X.prog X.w) A (getMethod (.ref a) m pl) Q E s:=by
 obtain⟨mA,O,r,_,_,_⟩:=zeI I.hok e;have hn:mA m=none:=RelO.none_of (by rw[<-l];exact r m);exact zok I.kIn O (c.get m) k.at_ k.fn hn h
theorem zjy {Q:QD}(I:Inv X pins σ H s)(e:H a=some (.ins C dx fs))(c:Cls X.K C)(n:zO X.K C f)(hl:fs.length < 1000)(ry:RelV y u)
  (h:∀s',Inv X pins σ (upd H a (.ins C dx (putF f y fs))) s'->Q () s'):wpAny (model X.prog X.w) A (setAttr (.ref a) f u) Q E s:=by
 obtain⟨mA,O,r,wi,_,ho⟩:=zeI I.hok e;have hz:(fs.map (·.1)).length<=sizeLine:=by rw[List.length_map,sizeLine_eq];omega
 refine zoW I.kIn O c.sa c.po n.taker c.hd wi hz λh' O' sb=>h _ ?_;have hd:∃o,h'.get? dx=some o:=let ⟨o,_,_,e',_⟩:=O'.ns;⟨o,e'⟩;refine I.write (x:=a) (e:=dx) (by rw[e];exact True.intro) (.inr ho) (λb q hb z=>(sb.2 b hb).trans z) hd ?_;refine⟨by rw[zg O.ne];exact ho,?_,O.ne,O'.obj,_,O'.ns,λg=>?_,λg hg=>?_⟩
 ·have:=zec f y fs;omega
 ·show RelO ((putF f y fs).lookup g) (if g=f then some u else mA g);rw[zcp];by_cases q:g=f
  ·rw[if_pos q,if_pos q];exact ry
  ·rw[if_neg q,if_neg q];exact r g
 ·by_cases q:g=f
  ·rw[q];exact(zbx f y fs).1
  ·refine(zbx f y fs).2 g (wi g λz=>hg ?_);show(if g=f then some u else mA g)=none;rw[if_neg q];exact z
noncomputable abbrev _root_.Jt:=@Nat.lt_succ_self
theorem Inv.made (I:Inv X pins σ H s):Inv X pins σ (upd (upd H s.heap.objs.size (.own (s.heap.objs.size+1))) (s.heap.objs.size+1) (.ins C s.heap.objs.size []))
  {s with heap:=(s.heap.push PySem.W.emptyDict).push (PySem.W.instObj C s.heap.objs.size)}:=by
 have e1:(s.heap.push PySem.W.emptyDict).get? s.heap.objs.size=some PySem.W.emptyDict:=Heap.get?_push_size s.heap rfl;have e2:((s.heap.push PySem.W.emptyDict).push (PySem.W.instObj C s.heap.objs.size)).get? (s.heap.objs.size+1)=some (PySem.W.instObj C s.heap.objs.size):=by have:=Heap.get?_push_size (s.heap.push PySem.W.emptyDict) (o:=PySem.W.instObj C s.heap.objs.size) rfl;rwa[Heap.size_push] at this
 have e3:(s.heap.push PySem.W.emptyDict).Ns s.heap.objs.size (λ_=>none):=⟨PySem.W.emptyDict, #[],_,e1,rfl,(λe he=>Je he (by simp)),λ_=>rfl⟩;have I1:=I.laid (a:=s.heap.objs.size) (o:=.own (s.heap.objs.size+1)) (h':=s.heap.push PySem.W.emptyDict) (t':=s.toks) (λb u q=>Heap.get?_push_of_some _ q) (Jb _) ⟨_,e1⟩;refine I1.laid (a:=s.heap.objs.size+1) (o:=.ins C s.heap.objs.size []) (t':=s.toks) (λb u q=>Heap.get?_push_of_some _ q) (Nat.le_of_eq (Heap.size_push _ _)) ?_;have ne:s.heap.objs.size≠s.heap.objs.size+1:=Jg (Jt _);refine⟨by rw[zg ne,zc],Nat.zero_le _,ne,e2,λ_=>none,(Heap.Ns1.of_empty e3).at λo q=>Heap.get?_push_of_some _ q,λ_=>True.intro,λy hy=>Je rfl hy⟩
theorem zkR {env:Env}{e:Expr}{f:Str}{pos:Pos}(hb:attributeBase e f env (eval e env)=eval e env)
  (h:wpAny (model prog w) A (eval e env) (λo s₁=>wpAny (model prog w) A (getAttr o f true) Q E s₁) E s):wpAny (model prog w) A (eval (.Attribute e f pos) env) Q E s:=
 Attribute_any_ h (by rw[arm_eval_Attribute,hb])
end
noncomputable def tFld (K:QA)(ta:TE)(f:Str):TE:=fun σ H Q=>ta σ H λx H1=>∃a C dx fs v,x=.ref a/\H1 a=some (.ins C dx fs)/\Cls K C/\zO K C f/\fs.lookup f=some v/\Q v H1
noncomputable def sFld (K:QA)(ta tv:TE)(f:Str):TS:=λD σ H=>tv σ H λy H1=>ta σ H1 λx H2=>∃a C dx fs,x=.ref a/\H2 a=some (.ins C dx fs)/\Cls K C/\zO K C f/\fs.length < 1000/\
 D.nx σ (upd H2 a (.ins C dx (putF f y fs)))
section
variable {X:Cx}{o e value:Expr}{f:Str}{pos pos' tpos:Pos}{ta tv:TE}
theorem zrU (he:PE X e ta)(hb:attributeBase e f X.env (eval e X.env)=eval e X.env):PE X (.Attribute e f pos) (tFld X.K ta f):=by intro pins s σ H Q I h;refine zkR hb (thn (he pins s σ H _ I h) λu s1 ⟨x,H1,I1,rx,a,C,dx,fs,v,ex,ea,c,n,l,q⟩=>?_);subst ex;obtain rfl:u=Value.ref a:=rx;exact zjL I1 ea c n l λu' s2 I2 ru=>⟨v,H1,I2,ru,q⟩
theorem zry (ha:PE X o ta)(hv:PE X value tv)(hs:swapsWith value (some (.Attribute o f pos')) pos.line X.env=pure false):PS X (.Assign [.Attribute o f pos'] value pos) (sFld X.K ta tv f):=by intro pins s σ H D I h;refine plainObj_wpAny_Assign_Attribute (thn (hv pins s σ H _ I h) λu s1 ⟨y,H1,I1,ry,q⟩=>thn (ha pins s1 σ H1 _ I1 q) λov s2 ⟨x,H2,I2,rx,a,C,dx,fs,ex,ea,c,n,l,q2⟩=>?_) hs;subst ex;obtain rfl:ov=Value.ref a:=rx;exact zjy I2 ea c n l ry λs3 I3=>⟨σ,_,I3,q2⟩
theorem zqL {apos:Pos}(he:PE X e te)(I:Inv X pins σ H s)
  (h:te σ H λx H1=>∃a C dx fs g,x=.ref a/\H1 a=some (.ins C dx fs)/\Cls X.K C/\Meth X.K C m g/\fs.lookup m=none/\
   ∀s1,Inv X pins σ H1 s1->wpAny (model X.prog X.w) X.A (callWith pos (.ref g) [.ref a] (backTo pos (starEach args X.env)) (backToKw pos (keywordEach [] X.env))) Q X.xe s1)
  (ht:eval (.Call (.Attribute e m apos) args [] pos) X.env=(do
   let ov<-eval e X.env
   standAt apos.atName
   let (f,first) <-holding [ov] (getMethod ov m pl)
   callWith pos f first (backTo pos (starEach args X.env)) (backToKw pos (keywordEach [] X.env)))):
  wpAny (model X.prog X.w) X.A (eval (.Call (.Attribute e m apos) args [] pos) X.env) Q X.xe s:=by
 refine PySem.W.methodCall_KW (pl:=pl) (thn (he pins s σ H _ I h) λu s1 ⟨x,H1,I1,rx,a,C,dx,fs,g,ex,ea,c,k,l,q⟩=>?_) ht;subst ex;obtain rfl:u=Value.ref a:=rx;exact zfo I1 ea c k l (q s1 I1)
end
section
variable {X:Cx}{pins:QE}{σ:St}{H:Hp}{s:Shared}{A:Around}{E:QC}{Q:QC}{c:Value}{b:Bool}
inductive TyOf (K:QA) (H:Hp):V->Value->Prop where
 | non:TyOf K H .non (.type "NoneType")
 | bl (x:Bool):TyOf K H (.bl x) (.type "bool")
 | int (i:Int):TyOf K H (.int i) (.type "int")
 | str (x:Str):TyOf K H (.str x) (.type "str")
 | flt (x:UInt64):TyOf K H (.flt x) (.type "float")
 | lst {a:Addr} {xs:QQ} (e:H a=some (.lst xs)):TyOf K H (.ref a) (.type "list")
 | frz {a:Addr} {o:Obj} {xs:QQ} (e:H a=some (.frz o (.lst xs))):TyOf K H (.ref a) (.type "list")
 | tup {a:Addr} {xs:QQ} (e:H a=some (.tup xs)):TyOf K H (.ref a) (.type "tuple")
 | dK {a:Addr} {kvs:QG} (e:H a=some (.dK kvs)):TyOf K H (.ref a) (.type "dict")
 | dT {a:Addr} {kvs:List (List Key ×V)} (e:H a=some (.dT kvs)):TyOf K H (.ref a) (.type "dict")
 | ins {a C dx:Addr} {fs:List (Str ×V)} (e:H a=some (.ins C dx fs)) (cl:Cls K C) (ha:PySem.W.findIn K (.ref C) "__class__" =some (some (.builtin "object.__class__")))
   (hn:PySem.W.specialIn K (.builtin "object.__class__") "__get__" =some (some (.builtin "getset_descriptor.__get__"))) (htk:PySem.W.takesIn K (.builtin "object.__class__")=some true)
   (hm:PySem.W.mroIn K C (.type "object")=some true):TyOf K H (.ref a) (.ref C)
theorem zlp (I:Inv X pins σ H s)(rx:RelV x u)(ty:TyOf X.K H x t)(e:PySem.W.kitOne X.K t c=some b)(h:∀tk,Q (.bool b) {s with toks:=tk}):
  wpAny (model X.prog X.w) A (call (.builtin "isinstance") [u,c]) Q E s:=by
 cases ty with
 | non=>cases (show u=Value.none from rx);exact PySem.W.kia_one PySem.W.kitx_none I.kIn True.intro e (λz=>nomatch z) h
 | bl y=>cases (show u=Value.bool y from rx);exact PySem.W.kia_one PySem.W.kitx_bool I.kIn True.intro e (λz=>nomatch z) h
 | int i=>obtain⟨t,q⟩:=(show∃t,u=Value.int i t from rx);cases q;exact PySem.W.kia_one PySem.W.kitx_int I.kIn True.intro e (λz=>nomatch z) h
 | str y=>obtain⟨t,q⟩:=(show∃t,u=Value.str y t from rx);cases q;exact PySem.W.kia_one PySem.W.kitx_str I.kIn True.intro e (λz=>nomatch z) h
 | flt y=>obtain⟨t,q⟩:=(show∃t,u=Value.float y t from rx);cases q;exact PySem.W.kia_one PySem.W.kitx_float I.kIn True.intro e (λz=>nomatch z) h
 | @lst a xs ea=>cases (show u=Value.ref a from rx);obtain⟨_,_,n,_,h1⟩:=(show zF X.prog X.w H s.heap a (.lst xs) from I.hok a _ ea);exact PySem.W.kia_one PySem.W.kitx_list I.kIn ⟨_,h1,rfl⟩ e (λz=>nomatch z) h
 | @frz a ob xs ea=>cases (show u=Value.ref a from rx);obtain⟨_,_,_,n,_,h1⟩:=(show zF X.prog X.w H s.heap a (.frz ob (.lst xs)) from I.hok a _ ea);exact PySem.W.kia_one PySem.W.kitx_list I.kIn ⟨_,h1,rfl⟩ e (λz=>nomatch z) h
 | @tup a xs ea=>cases (show u=Value.ref a from rx);obtain⟨_,_,_,p⟩:=(show zF X.prog X.w H s.heap a (.tup xs) from I.hok a _ ea);obtain⟨o,h1,h2,_⟩:=p;exact PySem.W.kia_one PySem.W.kitx_tuple I.kIn ⟨o,h1,h2⟩ e (λz=>nomatch z) h
 | @dK a kvs ea=>cases (show u=Value.ref a from rx);obtain⟨_,_,vs,_,p⟩:=(show zF X.prog X.w H s.heap a (.dK kvs) from I.hok a _ ea);obtain⟨o,es,ep,h1,h2,_⟩:=p;exact PySem.W.kia_one PySem.W.kitx_dict I.kIn ⟨o,h1,h2.1⟩ e (λz=>nomatch z) h
 | @dT a kvs ea=>cases (show u=Value.ref a from rx);obtain⟨_,_,xs,_,o,es,ep,h1,h2,_⟩:=(show zF X.prog X.w H s.heap a (.dT kvs) from I.hok a _ ea);exact PySem.W.kia_one PySem.W.kitx_dict I.kIn ⟨o,h1,h2.1⟩ e (λz=>nomatch z) h
 | @ins a C dx fs ea cl ha hn htk hm=>cases (show u=Value.ref a from rx);obtain⟨mA,O,_⟩:=zeI I.hok ea;obtain⟨od,J,_⟩:=O.look;exact PySem.W.kia_one (PySem.W.kitx_own (cl.get _) cl.hd ha hn htk hm) I.kIn J e (λz=>nomatch z) h
end
end L2
namespace L2
open PySem PySem.Spec PyProof.Rows
structure Room (k:Nat)(A:Around):Prop where
 hd:A.handled=none
 dp:A.depth+3 * k+5 < recursionLimit
 un:A.units+16 * k+200 < cLine
theorem Room.mono {j:Nat}(r:Room k A)(h:j<=k):Room j A:=⟨r.hd,by have:=r.dp;omega,by have:=r.un;omega⟩
theorem Room.deeper {k:Nat}(r:Room (k+1) A)(env:Env):Room k (A.deeper env):=
 ⟨r.hd,by have:=r.dp;show A.depth+1+3 * k+5 < _;omega,by have:=r.un;show A.units+3+16 * k+200 < _;omega⟩
theorem zjh {A:Around}{C:Addr}{us:QN}{kw:QK}:(A.under (.builtin "type.__call__" ⟨.ref C::us,kw⟩)).depth=A.depth+1:=by
 first | rfl | simp[Around.under,Code.weight,Code.isCreation,Code.isGuard,Code.isCaller,Code.frames,Code.isFrame,guardIds]
theorem zjj {A:Around}{C:Addr}{us:QN}{kw:QK}:(A.under (.builtin "type.__call__" ⟨.ref C::us,kw⟩)).units=A.units+1:=by
 first | rfl | simp[Around.under,Code.cUnits,Code.frames,Code.isFrame]
theorem Room.make {k:Nat}(r:Room (k+1) A)(C:Addr)(us:QN)(kw:QK):Room k (A.under (.builtin "type.__call__" ⟨.ref C::us,kw⟩)):=
 ⟨r.hd,by have:=r.dp;rw[zjh];omega,by have:=r.un;rw[zjj];omega⟩
theorem Room.depth (r:Room k A):A.depth < recursionLimit:=by have:=r.dp;omega
theorem Room.units (r:Room k A):A.units+64 < cLine:=by have:=r.un;omega
noncomputable def tNil:TA:=λ_ H Q=>Q [] H
noncomputable def zaV (ta:TE)(tr:TA):TA:=fun σ H Q=>ta σ H λx H1=>tr σ H1 λxs H2=>Q (x::xs) H2
section
variable {X:Cx}{e:Expr}{es:List Expr}{te:TE}{t:TA}{pos:Pos}
theorem zam:PA X [] tNil:=λ_ _ _ _ H Q I h=>Calls.spliced_nil ⟨[],H,I,.nil,h⟩
theorem zA (ha:PE X e te)(hr:PA X es t)(hs:starEach (e::es) X.env=(false,eval e X.env)::starEach es X.env:=by rfl):PA X (e::es) (zaV te t):=by intro pos pins s σ H Q I h;rw[hs];show wpAny _ _ (spliced ((false,eval e X.env)::backTo pos (starEach es X.env))) _ _ s;refine Calls.spliced_cons (thn (ha pins s σ H _ I h) λu s1 ⟨x,H1,I1,r1,q1⟩=>?_);exact thn (hr pos pins s1 σ H1 _ I1 q1) λus s2 ⟨xs,H2,I2,r2,q2⟩=>⟨x::xs,H2,I2,.cons r1 r2,q2⟩
noncomputable def tTup (t:TA):TE:=fun σ H Q=>t σ H λxs H1=>xs.length<=sizeLine/\∀p,H1 p=none->Q (.ref p) (upd H1 p (.tup xs))
noncomputable def tLst (t:TA):TE:=fun σ H Q=>t σ H λxs H1=>xs.length<=sizeLine/\∀p,H1 p=none->Q (.ref p) (upd H1 p (.lst xs))
theorem zn1 {x1}(h:PA X es t):PE X (.Tuple es x1 pos) (tTup t):=by intro pins s σ H Q I hq;refine wpAny_Tuple_spliced (thn (h pos pins s σ H _ I hq) λus s1 ⟨xs,H1,I1,r,z,q⟩=>⟨by rw[<-r.length];exact z,?_⟩);have hf:H1 s1.heap.objs.size=none:=I1.hok.fresh (Jb _);refine⟨.ref s1.heap.objs.size,upd H1 s1.heap.objs.size (.tup xs),I1.laid (t':=s1.toks) (λb u e=>Heap.get?_push_of_some _ e) (Jb _) ?_,rfl,q _ hf⟩;exact⟨⟨z,_,Heap.get?_push_size _ rfl,rfl⟩,us,r,⟨_,Heap.get?_push_size _ rfl,rfl,_,rfl⟩⟩
theorem zjp (h:PA X es t):PE X (.List es pos) (tLst t):=by intro pins s σ H Q I hq;refine wpAny_List_spliced (thn (h pos pins s σ H _ I hq) λus s1 ⟨xs,H1,I1,r,z,q⟩=>⟨by rw[<-r.length];exact z,?_⟩);have hf:H1 s1.heap.objs.size=none:=I1.hok.fresh (Jb _);refine⟨.ref s1.heap.objs.size,upd H1 s1.heap.objs.size (.lst xs),I1.laid (t':=s1.toks) (λb u e=>Heap.get?_push_of_some _ e) (Jb _) ?_,rfl,q _ hf⟩;exact⟨z,us,0,r,Heap.get?_push_size _ rfl⟩
end
noncomputable abbrev Sp:=List V->Hp->VK->XK->Prop
noncomputable abbrev CXT:=List Env->Hp->Shared->XK->Value->Shared->Prop
structure Env0 (P:Program)(w:World)(K:QA)(mg:QB)(base:Heap)(A:Around)(outer:List Env)(s:Shared)(H:Hp):Prop where
 frames:A.frames=some outer
 mod:Mod K mg base
 bs:∀b o,base.get? b=some o->s.heap.get? b=some o/\H b=none
 bsz:base.objs.size<=s.heap.objs.size
 funs:s.heap.FunFrames base outer
 frf:∀b∈frs outer,H b=none
 hok:HOk P w H s.heap
 bare:AllBare s.gens
noncomputable def CE (outer:List Env)(P:Program)(w:World)(H:Hp)(s:Shared)(Q:VK)(u:Value)(s':Shared):Prop:=
 ∃v H',s'.os=s.os/\AllBare s'.gens/\Un (frs outer) [] H H' s.heap s'.heap/\HOk P w H' s'.heap/\RelV v u/\Q v H'
noncomputable def CR (CX:CXT)(outer:List Env)(P:Program)(w:World)(H:Hp)(s:Shared)(Q:VK)(E:XK)(r:Result)(s':Shared):Prop:=
 match r with
 | .ok (.ret u)=>CE outer P w H s Q u s'
 | .ok _=>False
 | .error e=>CX outer H s E e s'
structure FnOk (P:Program)(w:World)(K:QA)(mg:QB)(base:Heap)(CX:CXT)(k:Nat)(f:Addr)(fd:FuncData)(ps:QP)(sp:Sp):Prop where
 len:∀vs H Q E,sp vs H Q E->vs.length=ps.length
 run:∀(A:Around) (outer:List Env) (s:Shared) (H:Hp) (args:Args) (us:QN) (vs:QQ) (Q:VK) (E:XK),Room k A->Env0 P w K mg base A outer s H->BindsTo s fd args (ps.zip us)->Vals vs us->sp vs H Q E->
  codeAny (model P w) A (.call (.ref f) args) (CR CX outer P w H s Q E) s
theorem FnOk.mono {P:Program}{w:World}{K:QA}{mg:QB}{base:Heap}{CX:CXT}{j k:Nat}{f:Addr}{fd:FuncData}{ps:QP}{sp:Sp}(F:FnOk P w K mg base CX j f fd ps sp)(h:j<=k):
  FnOk P w K mg base CX k f fd ps sp:=⟨F.len,λA outer s H args us vs Q E hr=>F.run A outer s H args us vs Q E (hr.mono h)⟩
theorem FnOk.imp {P:Program}{w:World}{K:QA}{mg:QB}{base:Heap}{CX:CXT}{k:Nat}{f:Addr}{fd:FuncData}{ps:QP}{sp sp':Sp}(F:FnOk P w K mg base CX k f fd ps sp)
  (h:∀vs H Q E,sp' vs H Q E->sp vs H Q E):FnOk P w K mg base CX k f fd ps sp':=
 ⟨λvs H Q E q=>F.len vs H Q E (h _ _ _ _ q),λA outer s H args us vs Q E hr he hb hv hs=>F.run A outer s H args us vs Q E hr he hb hv (h _ _ _ _ hs)⟩
theorem Env0.make {P:Program}{w:World}{K:QA}{mg:QB}{base:Heap}{A:Around}{outer:List Env}{s:Shared}{H:Hp}(e:Env0 P w K mg base A outer s H)(C:Addr)(us:QN)(kw:QK):
  Env0 P w K mg base (A.under (.builtin "type.__call__" ⟨.ref C::us,kw⟩)) outer s H:=⟨by first | exact e.frames | (simpa [Around.under,Code.envs,Code.isFrame,pushEnvs] using e.frames),e.mod,e.bs,e.bsz,e.funs,e.frf,e.hok,e.bare⟩
section
variable {X:Cx}{pins:QE}{σ:St}{H:Hp}{s s':Shared}
theorem Inv.env0 (I:Inv X pins σ H s):Env0 X.prog X.w X.K X.mg X.base X.A X.stack s H:=
 ⟨I.ok.frames,I.ok.mod,I.bs,Ji I.ok.bsz I.sz,I.stack,I.stkFree,I.hok,I.bare⟩
theorem Inv.after (I:Inv X pins σ H s)(h:CE X.stack X.prog X.w H s Q u s'):EP X pins σ Q u s':=by obtain⟨v,H',os,bare,un,hok,r,q⟩:=h;obtain⟨hh,g,d,t,os'⟩:=s';obtain rfl:os'=s.os:=os;exact⟨v,H',I.call (h':=hh) (g':=g) (d':=d) (t':=t) (ch:=[]) un hok bare (λb z=>Je z (by simp)),r,q⟩
end
noncomputable def zkA (sp:Sp)(dvs:QQ)(E:XK)(t:TA):TE:=fun σ H Q=>t σ H λvs H1=>sp (vs++dvs) H1 Q E
noncomputable def zqI (C:Addr)(m:Str)(sp:Sp)(dvs:QQ)(E:XK)(ta:TE)(t:TA):TE:=fun σ H Q=>ta σ H λx H1=>∃a dx fs,x=.ref a/\H1 a=some (.ins C dx fs)/\fs.lookup m=none/\
 t σ H1 λvs H2=>sp (x::(vs++dvs)) H2 Q E
noncomputable def zqE (C:Addr)(sp:Sp)(dvs:QQ)(E:XK)(t:TA):TE:=fun σ H Q=>t σ H λvs H1=>∀x dx,H1 x=none->H1 dx=none->dx≠x->
 sp (.ref x::(vs++dvs)) (upd (upd H1 dx (.own x)) x (.ins C dx [])) (λv H2=>v=.non/\Q (.ref x) H2) E
noncomputable def Binds (K:QA)(fd:FuncData)(ps:QP)(ds:QN):Prop:=
 ∀(s:Shared) (us:QN),K.In s.heap->(us++ds).length=ps.length->BindsTo s fd ⟨us,[]⟩ (ps.zip (us++ds))
theorem Binds.all {K:QA}{fd:FuncData}{ps:QP}(h:∀us:List Value,us.length=ps.length->bindArgs fd ⟨us,[]⟩=pure (ps.zip us)):Binds K fd ps []:=λs us _ hl=>by rw[List.append_nil] at hl ⊢;exact .of_eq (h us hl)
noncomputable def zbp (CX:CXT)(X:Cx)(E:XK):Prop:=∀(pins:QE) (σ:St) (H:Hp) (s:Shared) (e:Value) (s':Shared),Inv X pins σ H s->CX X.stack H s E e s'->X.xe e s'
section
variable {X:Cx}{CX:CXT}{k:Nat}{f C:Addr}{fd:FuncData}{ps:QP}{sp:Sp}{dvs:QQ}{ds:QN}{E:XK}{x m:Str}{p pos apos:Pos}{e o:Expr}{es:List Expr}{ta:TE}{t:TA}
theorem zof (F:FnOk X.prog X.w X.K X.mg X.base CX k f fd ps sp)(hr:Room k X.A)(hb:Binds X.K fd ps ds)(hd:Vals dvs ds)(hx:zbp CX X E)
  (I:Inv X pins σ H s) (r:Vals vs us) (h:sp (vs++dvs) H Q E):wpAny (model X.prog X.w) X.A (call (.ref f) us) (EP X pins σ Q) X.xe s:=by
 have r2:Vals (vs++dvs) (us++ds):=r.append hd;have hl:(us++ds).length=ps.length:=by rw[<-r2.length];exact F.len _ _ _ _ h
 refine wpAny_call (codeAny_mono (F.run X.A X.stack s H ⟨us,[]⟩ (us++ds) (vs++dvs) Q E hr I.env0 (hb s us I.kIn hl) r2 h) λr s' hq=>?_);cases r with
 | error e=>exact hx pins σ H s e s' I hq
 | ok fl=>
  cases fl with
  | ret u=>exact I.after hq
  | next=>exact False.elim hq
  | brk=>exact False.elim hq
  | cont=>exact False.elim hq
theorem zku (F:FnOk X.prog X.w X.K X.mg X.base CX k f fd ps sp)(hr:Room k X.A)(hg:Gl X x)(hm:X.mg x=some (.ref f))(hk:PySem.W.keepIn X.K (.ref f)=true)(hb:Binds X.K fd ps ds)(hd:Vals dvs ds)(hx:zbp CX X E)
  (ha:PA X (e::es) t) (hdb:(x==("__debug__" :Str))=false:=by decide) (he:starEach (e::es) X.env=(false,eval e X.env)::starEach es X.env:=by rfl) (hpl:(backTo pos (starEach es X.env)).any (·.1)=false:=by rfl):
  PE X (.Call (.Name x p) (e::es) [] pos) (zkA sp dvs E t):=by
 intro pins s σ H Q I h;refine wpAny_Call_Name_kw (zbg I hg hm ?_ hdb);refine PySem.W.callWith_K (h₀:=X.base) I.ok.mod.kin hk (thn (ha pos pins s σ H _ I h) λus s1 ⟨vs,H1,I1,r,q⟩=>⟨I1.kIn,?_⟩) he hpl;exact zof F hr hb hd hx I1 r q
theorem zpu (he:PE X o ta)(c:Cls X.K C)(hm:Meth X.K C m f)(F:FnOk X.prog X.w X.K X.mg X.base CX k f fd ps sp)(hr:Room k X.A)(hb:Binds X.K fd ps ds)(hd:Vals dvs ds)(hx:zbp CX X E)(ha:PA X (e::es) t)
  (hst:starEach (e::es) X.env=(false,eval e X.env)::starEach es X.env:=by rfl) (hpl:(backTo pos (starEach es X.env)).any (·.1)=false:=by rfl)
  (ht:eval (.Call (.Attribute o m apos) (e::es) [] pos) X.env=(do
   let ov<-eval o X.env
   standAt apos.atName
   let (f,first) <-holding [ov] (getMethod ov m pl)
   callWith pos f first (backTo pos (starEach (e::es) X.env)) (backToKw pos (keywordEach [] X.env))):=by rfl):
  PE X (.Call (.Attribute o m apos) (e::es) [] pos) (zqI C m sp dvs E ta t):=by
 intro pins s σ H Q I h;refine PySem.W.methodCall_KW (pl:=pl) (thn (he pins s σ H _ I h) λu s1 ⟨x,H1,I1,rx,a,dx,fs,ex,ea,l,q⟩=>?_) ht;subst ex;obtain rfl:u=Value.ref a:=rx;refine zfo I1 ea c hm l ?_;refine PySem.W.callWith_K (first:=[.ref a]) (h₀:=X.base) I.ok.mod.kin hm.kp (thn (ha pos pins s1 σ H1 _ I1 q) λus s2 ⟨vs,H2,I2,r,q2⟩=>⟨I2.kIn,?_⟩) hst hpl;exact zof (us:=.ref a::us) (vs:=.ref a::vs) F hr hb hd hx I2 (.cons rfl r) q2
structure Mk (K:QA)(C f:Addr):Prop where
 makes:PySem.W.makesIn K C=true
 init:PySem.W.findIn K (.ref C) "__init__" =some (some (.ref f))
 fn:PySem.W.isFn K (.ref f)=true
 kp:PySem.W.keepIn K (.ref C)=true
theorem zmY {Q:VK}(M:Mk X.K C f)(F:FnOk X.prog X.w X.K X.mg X.base CX k f fd ps sp)(hr:Room (k+1) X.A)(hb:Binds X.K fd ps ds)(hd:Vals dvs ds)
  (hx:zbp CX X E) (I:Inv X pins σ H s) (r:Vals vs us)
  (h:∀x dx,H x=none->H dx=none->dx≠x->sp (.ref x::(vs++dvs)) (upd (upd H dx (.own x)) x (.ins C dx [])) (λv H2=>v=.non/\Q (.ref x) H2) E):
  wpAny (model X.prog X.w) X.A (call (.ref C) us) (EP X pins σ Q) X.xe s:=by
 have hq:=h (s.heap.objs.size+1) s.heap.objs.size (I.hok.fresh (Nat.le_succ _)) (I.hok.fresh (Jb _)) (Jg (Jt _));have I2:=Inv.made (C:=C) I;have r2:Vals (V.ref (s.heap.objs.size+1)::(vs++dvs)) (Value.ref (s.heap.objs.size+1)::(us++ds)):=.cons rfl (r.append hd);have hl:(Value.ref (s.heap.objs.size+1)::us++ds).length=ps.length:=by have e:=r2.length;rw[F.len _ _ _ _ hq] at e;exact e.symm
 refine wpAny_call (zm4 (f:=f) I.kIn M.makes M.init (beq_iff_eq.mp M.fn) (codeAny_mono (F.run _ X.stack _ _ ⟨Value.ref (s.heap.objs.size+1)::us,[]⟩ (Value.ref (s.heap.objs.size+1)::(us++ds)) _ _ E (hr.make C us [])
  (I2.env0.make C us []) (hb _ (Value.ref (s.heap.objs.size+1)::us) I2.kIn hl) r2 hq) λr s' hq'=>?_))
 cases r with
 | error e=>exact hx pins σ _ _ e s' I2 hq'
 | ok fl=>
  cases fl with
  | ret u=>obtain⟨v,H',I3,rv,ev,q3⟩:=I2.after hq';subst ev;exact⟨rv,⟨V.ref (s.heap.objs.size+1),H',I3,rfl,q3⟩⟩
  | next=>exact False.elim hq'
  | brk=>exact False.elim hq'
  | cont=>exact False.elim hq'
theorem znh (M:Mk X.K C f)(F:FnOk X.prog X.w X.K X.mg X.base CX k f fd ps sp)(hr:Room (k+1) X.A)(hg:Gl X x)(hm:X.mg x=some (.ref C))(hb:Binds X.K fd ps ds)(hd:Vals dvs ds)(hx:zbp CX X E)
  (hdb:(x==("__debug__" :Str))=false:=by decide):PE X (.Call (.Name x p) [] [] pos) (zqE C sp dvs E tNil):=by
 intro pins s σ H Q I h;refine wpAny_Call_Name_kw (zbg I hg hm ?_ hdb);exact PySem.W.callWith_K0 I.kIn M.kp (zmY (us:=[]) M F hr hb hd hx I .nil h)
end
section
variable {X:Cx}{CX:CXT}{k:Nat}{f C:Addr}{fd:FuncData}{ps ks:QP}{sp:Sp}{E:XK}{x m:Str}{p pos apos kpos:Pos}{e o:Expr}{es:List Expr}{kws:List Keyword}{te ta:TE}{t tk:TA}{nm:Option Str}
structure ztM (K:QA)(fd:FuncData)(ps ks:QP)(g:List Value->List Value->List Value)(gV:List V->List V->List V):Prop where
 to:∀(s:Shared) (us ws:QN),K.In s.heap->(g us ws).length=ps.length->BindsTo s fd ⟨us,ks.zip ws⟩ (ps.zip (g us ws))
 rel:∀{vs:QQ} {us:QN} {zs:QQ} {ws:QN},Vals vs us->Vals zs ws->Vals (gV vs zs) (g us ws)
variable {g:List Value->List Value->List Value}{gV:List V->List V->List V}
end
structure zaG (N P:QP)(sc:Scope):Prop where
 kind:sc.kind=.function
 co:sc.isCoroutine=false
 gen:sc.isGenerator=false
 nd:N.Nodup
 pre:N.take P.length=P
 par:∀x∈P,sc.names.lookup x=some .local\/sc.names.lookup x=some .cell
 nofree:∀y∈sc.names,y.2≠ .free
theorem fsN (N:QP){P:QP}{sc:Scope}(h:sc.kind=.function/\sc.isCoroutine=false/\sc.isGenerator=false/\N.Nodup/\N.take P.length=P/\(∀x∈P,sc.names.lookup x=some .local\/sc.names.lookup x=some .cell)/\∀y∈sc.names,y.2≠ .free:=by decide+kernel):zaG N P sc:=⟨h.1,h.2.1,h.2.2.1,h.2.2.2.1,h.2.2.2.2.1,h.2.2.2.2.2.1,h.2.2.2.2.2.2⟩
theorem zgw {kindOf:Str->Option NameKind}{x:Str}:∀{binds:QK} {m:QB},(∀v,(x,v)∉binds)->bindL kindOf binds m x=m x
 | [],_,_=>rfl
 | (n,v)::r,m,h=>by
  unfold bindL;rw[zgw λw hw=>h w (Jd _ hw)];split
  ·have:x≠n:=by rintro rfl;exact h v List.mem_cons_self
   simp[this]
  ·rfl
theorem zgE {kindOf:Str->Option NameKind}{x:Str}:∀{binds:QK} {m:QB},(∀v,(x,v)∉binds)->bindC kindOf binds m x=m x
 | [],_,_=>rfl
 | (n,v)::r,m,h=>by
  unfold bindC;rw[zgE λw hw=>h w (Jd _ hw)];split
  ·rfl
  ·have:x≠n:=by rintro rfl;exact h v List.mem_cons_self
   simp[this]
theorem zgi {kindOf:Str->Option NameKind}{x:Str}{v:Value}:∀{P:QP} {vs:QN} {i:Nat} {m:QB},P.Nodup->P[i]? =some x->vs[i]? =some v->kindOf x=some .local->
  bindL kindOf (P.zip vs) m x=some v
 | [],_,_,_,_,h,_,_=>by simp at h
 | _::_,[],_,_,_,_,h,_=>by simp at h
 | p::P,w::vs,0,m,nd,h1,h2,hk=>by simp at h1 h2;subst h1;subst h2;show bindL kindOf ((p,w)::P.zip vs) m p=_;unfold bindL;rw[zgw λv hv=>(List.nodup_cons.mp nd).1 (List.of_mem_zip hv).1,if_pos hk];simp
 | p::P,w::vs,i+1,m,nd,h1,h2,hk=>by show bindL kindOf ((p,w)::P.zip vs) m x=_;unfold bindL;exact zgi (i:=i) (List.nodup_cons.mp nd).2 (by simpa using h1) (by simpa using h2) hk
theorem zgs {kindOf:Str->Option NameKind}{x:Str}{v:Value}:∀{P:QP} {vs:QN} {i:Nat} {m:QB},P.Nodup->P[i]? =some x->vs[i]? =some v->kindOf x≠some .local->
  bindC kindOf (P.zip vs) m x=some v
 | [],_,_,_,_,h,_,_=>by simp at h
 | _::_,[],_,_,_,_,h,_=>by simp at h
 | p::P,w::vs,0,m,nd,h1,h2,hk=>by simp at h1 h2;subst h1;subst h2;show bindC kindOf ((p,w)::P.zip vs) m p=_;unfold bindC;rw[zgE λv hv=>(List.nodup_cons.mp nd).1 (List.of_mem_zip hv).1,if_neg hk];simp
 | p::P,w::vs,i+1,m,nd,h1,h2,hk=>by show bindC kindOf ((p,w)::P.zip vs) m x=_;unfold bindC;exact zgs (i:=i) (List.nodup_cons.mp nd).2 (by simpa using h1) (by simpa using h2) hk
noncomputable def start (N:QP)(vs:QQ):St:=vs.map some++List.replicate (N.length - vs.length) none
noncomputable def cxOf (CX:CXT)(P:Program)(w:World)(K:QA)(mg:QB)(base:Heap)(N:QP)(qual:Str)(scope:Scope)(f:Addr)(cd:Value)(A:Around)(outer:List Env)(s:Shared)(H:Hp)(E:XK):Cx where
 prog:=P
 w:=w
 K:=K
 mg:=mg
 base:=base
 A:=A.deeper (envOfC qual scope s.heap.objs.size f cd)
 N:=N
 s₀:=s
 H₀:=H
 env:=envOfC qual scope s.heap.objs.size f cd
 outer:=outer
 stack:=envOfC qual scope s.heap.objs.size f cd::outer
 ex:=[]
 calm:=true
 fn:=λ_=>true
 pn:=[]
 xe:=λe s'=>wpAny (model P w) (A.deeper (envOfC qual scope s.heap.objs.size f cd)) (leaving (envOfC qual scope s.heap.objs.size f cd) e) (λ_ s''=>CX outer H s E e s'') (λe' s''=>CX outer H s E e' s'') s'
theorem zh4 {sc:Scope}{x:Str}(h:sc.names.lookup x=some .cell):∃c,(cellsFrom n sc.names []).lookup x=some c:=by have q:=PySem.W.cellsFrom_some sc.names n [] (.inl h);exact Option.isSome_iff_exists.mp q
theorem zlF {CX:CXT}{P:Program}{w:World}{K:QA}{mg:QB}{base:Heap}{N ps:QP}{qual:Str}{scope:Scope}{f:Addr}{cd:Value}{A:Around}{outer:List Env}{s s1:Shared}{H:Hp}{E:XK}{us:QN}{vs:QQ}
  (S:zaG N ps scope) (hd:A.handled=none) (e0:Env0 P w K mg base A outer s H) (hl:vs.length=ps.length) (r:Vals vs us)
  (x:InCallC s s.heap.objs.size (bindL (envOfC qual scope s.heap.objs.size f cd).kindOf (ps.zip us) λ_=>none) (cellsFrom (s.heap.objs.size+1) scope.names []) (bindC (envOfC qual scope s.heap.objs.size f cd).kindOf (ps.zip us) λ_=>none) s1):
  Inv (cxOf CX P w K mg base N qual scope f cd A outer s H E) [] (start N vs) H s1:=by
 have hpl:ps.length<=N.length:=by have:=congrArg List.length S.pre;rw[List.length_take] at this;omega
 obtain⟨h1,tk,rfl,hk⟩:=x.done;have noA:∀b:Addr,b∉(cxOf CX P w K mg base N qual scope f cd A outer s H E).ex:=λb z=>Je (show b∈([]:QO) from z) (by simp);refine⟨⟨e0.mod,S.kind,rfl,rfl,Jb _,λy z c h1 h2=>?_,λy hy=>?_,λy c _ h=>?_,λ_=>hd,Around.frames_deeper e0.frames,.inr ⟨rfl,rfl⟩,λb z=>Je z (noA b),e0.bs,e0.bsz,λb _ _=>noA b,λb z=>Je z (noA b),e0.funs,e0.frf⟩,
  rfl,e0.bare,Un.kept hk,⟨_,x.toInCall.ns,λi y v h1 h2 h3=>?_⟩,λy c h=>⟨_,x.cell y c h⟩,e0.hok.fresh (Jb _),λy c h=>?_,λp hp=>Je (show p∈([]:QE) from hp) (by simp),e0.hok.kept hk,?_⟩
 ·exact name_of_addr x.apart (PySem.mem_of_lookup h1) (PySem.mem_of_lookup h2)
 ·have hy:scope.names.lookup y=some .cell\/scope.names.lookup y=some .free:=hy;rcases hy with hy | hy
  ·exact zh4 hy
  ·exact Je rfl (S.nofree _ (PySem.mem_of_lookup hy))
 ·exact Nat.le_of_lt (x.above y c (PySem.mem_of_lookup h))
 ·have hi:i < vs.length:=by
   unfold start at h2;by_cases hi:i < vs.length
   ·exact hi
   ·rw[List.getElem?_append_right (by simpa using hi)] at h2;rw[List.getElem?_replicate] at h2;split at h2 <;> cases h2
  have ha:vs[i]? =some v:=by
   unfold start at h2;rw[List.getElem?_append_left (by simpa using hi),List.getElem?_map] at h2;cases e:vs[i]? with
   | none=>rw[e] at h2;cases h2
   | some a=>rw[e] at h2;cases h2;rfl
  obtain⟨u,hu,rv⟩:=r.get ha;have hp:ps[i]? =some y:=by rw[<-S.pre,List.getElem?_take_of_lt (by omega)];exact h1
  have ndP:ps.Nodup:=by rw[<-S.pre];exact S.nd.sublist (List.take_sublist _ _)
  refine⟨u,rv,?_⟩;rcases S.par y (List.mem_of_getElem? hp) with k | k
  ·exact .inl ⟨k,zgi ndP hp hu k⟩
  ·obtain⟨c,e⟩:=zh4 (n:=s.heap.objs.size+1) k;refine .inr ⟨.inl k,c,e,?_⟩;have q:=x.cell y c e;rw[zgs ndP hp hu (by show scope.names.lookup y≠_;rw[k];decide)] at q;exact q
 ·exact e0.hok.fresh (Nat.le_of_lt (x.above y c (PySem.mem_of_lookup h)))
 ·unfold start;show _=N.length;rw[List.length_append,List.length_map,List.length_replicate];omega
noncomputable abbrev _root_.QJ:=Array (Option Value)
theorem zqJ {CX:CXT}{P:Program}{w:World}{K:QA}{mg:QB}{base:Heap}{k:Nat}{f:Addr}{name qual:Str}{params:Arguments}{body:List Stmt}{scope:Scope}{dV kV doc pm cdv ct oc:Value}{an od:QM}
  {osl:QJ} {N ps:QP} {sp:Sp} (lk:K.lookup f=some ⟨oc,od,.func (PySem.W.fnOf name qual params body scope dV kV doc pm an cdv ct),osl⟩) (hcd:PySem.W.codeIn K cdv qual=true) (S:zaG N ps scope)
  (len:∀vs H Q E,sp vs H Q E->vs.length=ps.length)
  (hbody:∀(A:Around) (outer:List Env) (s:Shared) (H:Hp) (vs:QQ) (Q:VK) (E:XK),Room k (A.deeper (envOfC qual scope s.heap.objs.size f cdv))->sp vs H Q E->
   ∃t,PSs (cxOf CX P w K mg base N qual scope f cdv A outer s H E) body t/\t {nx:=λ_ H'=>Q .non H',rt:=Q} (start N vs) H):
  FnOk P w K mg base CX (k+1) f (PySem.W.fnOf name qual params body scope dV kV doc pm an cdv ct) ps sp:=by
 refine⟨len,λA outer s H args us vs Q E hr e0 hb r hsp=>?_⟩;have hl:=len _ _ _ _ hsp;have KX:K.In s.heap:=e0.mod.kin.keeps λb o e=>(e0.bs b o e).1;have lim:s.heap.NoLimit:=e0.mod.nolimit.keeps λb o e=>(e0.bs b o e).1;have hkind:∀y∈ps.zip us,scope.names.lookup y.1=some .local\/(scope.names.lookup y.1=some .cell/\((cellsFrom (s.heap.objs.size+1) scope.names []).lookup y.1).isSome=true):=λ⟨n,v⟩ hy=>by
  rcases S.par n (List.of_mem_zip hy).1 with q | q
  ·exact .inl q
  ·exact .inr ⟨q,PySem.W.cellsFrom_some _ _ _ (.inl q)⟩
 refine codeAny_call_function hr.depth (KX _ _ lk) rfl S.co S.gen rfl (PySem.W.codeRec_of KX hcd) (hb _ _ _ _ ?_);refine wpAny_newFunctionEnv_cells S.kind hkind λenv he s1 x=>?_;subst he;refine⟨lim.keeps x.toInCall.keep,codeAny_func ?_⟩;obtain⟨t,ht,hq⟩:=hbody A outer s H vs Q E (hr.deeper _) hsp;have I:Inv (cxOf CX P w K mg base N qual scope f cdv A outer s H E) [] (start N vs) H s1:=zlF S hr.hd e0 hl r x;refine wpAny_mono (ht [] s1 (start N vs) H _ I hq) (λfl s' hs=>?_) λe s' hs=>hs;have fin:∀{σ':St} {H':Hp} {v:V} {u:Value},Inv (cxOf CX P w K mg base N qual scope f cdv A outer s H E) [] σ' H' s'->RelV v u->Q v H'->CE outer P w H s Q u s':=
  λ{σ' H' v u} J rv q=>⟨v,H',J.os,J.bare,J.base,J.hok,rv,q⟩
 cases fl with
 | ret u=>obtain⟨v,σ',H',J,rv,q⟩:=hs;exact fin J rv q
 | next=>obtain⟨σ',H',J,q⟩:=hs;exact fin (v:=V.non) (u:=Value.none) J rfl q
 | brk=>obtain⟨_,_,_,q⟩:=hs;exact False.elim q
 | cont=>obtain⟨_,_,_,q⟩:=hs;exact False.elim q
end L2
namespace L2
open PySem PySem.Spec PyProof.Rows
section
variable {X:Cx}{x:Str}{p pos:Pos}{e:Expr}{es:List Expr}{t:TA}{id T:String}{r:List V->Hp->VK->Prop}
noncomputable def tCB (r:List V->Hp->VK->Prop)(t:TA):TE:=fun σ H Q=>t σ H λvs H1=>r vs H1 Q
theorem zD (hc:zab X (.builtin id) r)(hg:Gl X x)(hm:X.mg x=none)(hv:bootBuiltins x=some (.builtin id))(ha:PA X (e::es) t)(hn:x≠ "__name__" :=by decide) (hdb:(x==("__debug__" :Str))=false:=by decide)
  (he:starEach (e::es) X.env=(false,eval e X.env)::starEach es X.env:=by rfl) (hpl:(backTo pos (starEach es X.env)).any (·.1)=false:=by rfl):PE X (.Call (.Name x p) (e::es) [] pos) (tCB r t):=by
 intro pins s σ H Q I h;refine wpAny_Call_Name_kw (zbo I hg hm hv ?_ hn hdb);exact PyProof.Rows.callWith_builtin1 (thn (ha pos pins s σ H _ I h) λus s1 ⟨vs,H1,I1,r1,q1⟩=>hc pins s1 σ H1 vs us Q I1 r1 q1) he hpl
theorem zcw (hc:zab X (.type T) r)(hg:Gl X x)(hm:X.mg x=none)(hv:bootBuiltins x=some (.type T))(ha:PA X (e::es) t)(hn:x≠ "__name__" :=by decide) (hdb:(x==("__debug__" :Str))=false:=by decide)
  (he:starEach (e::es) X.env=(false,eval e X.env)::starEach es X.env:=by rfl) (hpl:(backTo pos (starEach es X.env)).any (·.1)=false:=by rfl):PE X (.Call (.Name x p) (e::es) [] pos) (tCB r t):=by
 intro pins s σ H Q I h;refine wpAny_Call_Name_kw (zbo I hg hm hv ?_ hn hdb);exact PyProof.Rows.callWith_type1 (thn (ha pos pins s σ H _ I h) λus s1 ⟨vs,H1,I1,r1,q1⟩=>hc pins s1 σ H1 vs us Q I1 r1 q1) he hpl
end
end L2
namespace HT
open PySem PyProof.Rows
noncomputable def lexLt:List Int->List Int->Bool
 | [],[]=>false
 | [],_::_=>true
 | _::_,[]=>false
 | x::xs,y::ys=>if x=y then lexLt xs ys else decide (x < y)
theorem lexLt_cons (x y:Int)(xs ys:List Int):lexLt (x::xs) (y::ys)=if x=y then lexLt xs ys else decide (x < y):=rfl
section
open PySem.SeqAt
open PySem.AutoSeq1 (wpAny_loadPart')
open PySem.MeetsSeq PySem.MeetsSeq2 PySem.MeetsSeq3
end
section
variable {prog:Program}{w:World}{A:Around}{E:QC}{s:Shared}
noncomputable def sIx (n d:Nat):Option Int->Nat
 | none=>d
 | some v=>if v < 0 then(v+(n:Int)).toNat else min v.toNat n
theorem sIx_none (n d:Nat):sIx n d none=d:=rfl
theorem sIx_nat (n d k:Nat):sIx n d (some (k:Int))=min k n:=by show(if (k:Int) < 0 then((k:Int)+(n:Int)).toNat else min (k:Int).toNat n)=min k n;rw[if_neg (by omega),Int.toNat_natCast]
theorem sIx_le (n d:Nat)(hd:d<=n)(o:Option Int):sIx n d o<=n:=by
 cases o with
 | none=>exact hd
 | some v=>
  show(if v < 0 then(v+(n:Int)).toNat else min v.toNat n)<=n;by_cases hv:v < 0
  ·rw[if_pos hv];omega
  ·rw[if_neg hv];exact Nat.min_le_right _ _
theorem clip_eq (v:Int)(n d:Nat):(if v < 0 then max (v+(n:Int)) 0 else min v (n:Int))=((sIx n d (some v):Nat):Int):=by
 show(if v < 0 then max (v+(n:Int)) 0 else min v (n:Int))=(((if v < 0 then(v+(n:Int)).toNat else min v.toNat n):Nat):Int);by_cases hv:v < 0
 ·simp only[if_pos hv];omega
 ·simp only[if_neg hv];omega
theorem zji (lo hi:Option Int)(n:Nat):Builtin.Slice.sliceAdjust lo hi 1 (n:Int)=(((sIx n 0 lo:Nat):Int),((sIx n n hi:Nat):Int)):=by
 have h1:¬((1:Int) < 0):=by omega
 unfold Builtin.Slice.sliceAdjust;simp only[h1,if_false];refine Prod.ext ?_ ?_
 ·cases lo with
  | none=>rfl
  | some v=>exact clip_eq v n 0
 ·cases hi with
  | none=>rfl
  | some v=>exact clip_eq v n n
theorem zjA (i j:Nat):Builtin.Slice.slicePlaces (i:Int) (j:Int) 1=j - i:=by
 unfold Builtin.Slice.slicePlaces;have h1:(1:Int) > 0:=by omega
 simp only[h1,if_true,Int.ediv_one];split <;> omega
theorem zfj {Q:Option Int->Shared->Prop}(p:IsPart v o)(h:Q o s):wpAny (model prog w) A (Builtin.Slice.slicePartIndex v) Q E s:=by
 cases p with
 | none=>exact slicePart_none h
 | int i t=>exact slicePart_int h
theorem zd3 {sl:Addr}{vl vu:Value}{lo hi:Option Int}{n:Nat}{Q:Int ×Int ×Nat->Shared->Prop}(hs:s.heap.IsSliceOf sl vl vu .none)(pl:IsPart vl lo)(pu:IsPart vu hi)
  (h:Q (((sIx n 0 lo:Nat):Int),1,sIx n n hi - sIx n 0 lo) s):wpAny (model prog w) A (Builtin.Slice.sliceApplied (.ref sl) (pure (n:Int))) Q E s:=by
 obtain⟨os,hos,hcs,hds⟩:=id hs;unfold Builtin.Slice.sliceApplied Builtin.Slice.sliceFields;refine Ja (Ja (wpAny_field hos hds (x:=vl) rfl (Ja (wpAny_field hos hds (x:=vu) rfl (Ja (wpAny_field hos hds (x:=.none) rfl (wpAny_pure ?_)))))));refine Ja (slicePart_none ?_);show wpAny _ _ (if ((1:Int)==0)=true then _ else _) _ _ s;rw[if_neg (by decide)];refine Ja (zfj pl (Ja (zfj pu (Ja (wpAny_pure ?_)))));show wpAny _ _ (match Builtin.Slice.sliceAdjust lo hi 1 (n:Int) with | (lo,hi)=>pure (lo,(1:Int),Builtin.Slice.slicePlaces lo hi 1)) _ _ s;rw[zji lo hi n];show wpAny _ _ (pure (((sIx n 0 lo:Nat):Int),(1:Int),Builtin.Slice.slicePlaces ((sIx n 0 lo:Nat):Int) ((sIx n n hi:Nat):Int) 1)) _ _ s;rw[zjA];exact wpAny_pure h
theorem znI (xs:Array Value)(i k:Nat):((List.range k).filterMap λ(m:Nat)=>xs[((i:Int)+(m:Int) * 1).toNat]?).toArray=((xs.toList.drop i).take k).toArray:=by
 have e:(λ(m:Nat)=>xs[((i:Int)+(m:Int) * 1).toNat]?)=λm=>xs[i+m]? :=by
  funext m;have:((i:Int)+(m:Int) * 1).toNat=i+m:=by omega
  rw[this]
 rw[e];have:=pick_run xs i k;rw[List.filterMap_map] at this;have e2:((λx=>xs[x]?) ∘ λx=>i+x)=λm=>xs[i+m]? :=rfl;rw[e2] at this;rw[this]
theorem getItem_tuple_cut {t sl:Addr}{items:Array Value}{vl vu:Value}{lo hi:Option Int}{Q:QC}(ht:IsTup s.heap t items)(hs:s.heap.IsSliceOf sl vl vu .none)(pl:IsPart vl lo)(pu:IsPart vu hi)
  (hw:¬(sIx items.size 0 lo=0/\sIx items.size items.size hi=items.size))
  (h:Q (.ref s.heap.objs.size) {s with heap:=s.heap.push {cls:=.type "tuple",data:=.seq ((items.toList.drop (sIx items.size 0 lo)).take (sIx items.size items.size hi - sIx items.size 0 lo)).toArray}})
  (hsz:items.size<=sizeLine):wpAny (model prog w) A (getItem (.ref t) (.ref sl)) Q E s:=by
 have htake:sizeOk (.seq ((items.toList.drop (sIx items.size 0 lo)).take (sIx items.size items.size hi - sIx items.size 0 lo)).toArray):=by show((items.toList.drop (sIx items.size 0 lo)).take (sIx items.size items.size hi - sIx items.size 0 lo)).toArray.size<=sizeLine;rw[List.size_toArray,List.length_take,List.length_drop,Array.length_toList];omega
 have hj:sIx items.size items.size hi<=items.size:=sIx_le _ _ (Jb _) hi;obtain⟨os,hos,hcs,hds⟩:=id hs;have hTs:s.TypeIs (.ref sl) "slice" :=⟨os,hos,hcs⟩;unfold getItem
 try with_reducible refine wpAny_holding ?_
 first | refine Ja (wpAny_pure ?_) | skip
 refine Ja (wpAny_sequenceKey ht.typeIs (by decide) ?_);refine Ja (wpAny_callSpecial?_slot (name:=Str.ofString "__getitem__") ht.typeIs PyProof.Rows.slot_tuple_getitem
  (wpAny_call_entry PyProof.Rows.slot_tuple_getitem ht.typeIs entry_tuple_getitem ?_ (args_tuple_getitem _ _)))
 show wpAny _ _ (Builtin.Tuple.tupleItemsOf (.ref t) >>=_) _ _ s;refine Ja (tupleItemsOf_ ht ?_);refine Ja (wpAny_typeOf hTs ?_);rw[if_pos (by decide)];refine Ja (zd3 hs pl pu ?_);have hno:¬((((sIx items.size 0 lo:Nat):Int)==0 && (1:Int)==1 && (sIx items.size items.size hi - sIx items.size 0 lo)==items.size)=true):=by intro q;rw[Bool.and_eq_true,Bool.and_eq_true] at q;have q1:((sIx items.size 0 lo:Nat):Int)=0:=eq_of_beq q.1.1;have q2:sIx items.size items.size hi - sIx items.size 0 lo=items.size:=eq_of_beq q.2;exact hw ⟨by omega,by omega⟩
 show wpAny _ _ (if (((sIx items.size 0 lo:Nat):Int)==0 && (1:Int)==1 && (sIx items.size items.size hi - sIx items.size 0 lo)==items.size)=true then _ else _) _ _ s;rw[if_neg hno,znI]
 first
  | exact Ja (m:=Builtin.Tuple.tupleExact _) (wpAny_newObj_type (wpAny_pure ⟨_,rfl,wpAny_pure h⟩) htake)
  | exact Ja (m:=Builtin.Tuple.tupleExact _) (wpAny_newObj_type (Ja (wpAny_pure (wpAny_pure ⟨_,rfl,wpAny_pure h⟩))) htake)
  | exact Ja (Ja (m:=Builtin.Tuple.tupleExact _) (wpAny_newObj_type (wpAny_pure (wpAny_pure ⟨_,rfl,wpAny_pure h⟩)) htake))
  | exact Ja (Ja (m:=Builtin.Tuple.tupleExact _) (wpAny_newObj_type (wpAny_pure ⟨_,rfl,wpAny_pure h⟩) htake))
end
end HT
namespace L2
open PySem PySem.Spec PyProof.Rows
noncomputable abbrev TO:=St->Hp->(Option Int->Hp->Prop)->Prop
noncomputable def PO (X:Cx)(e:Option Expr)(t:TO):Prop:=
 ∀(pins:QE) (s:Shared) (σ:St) (H:Hp) (Q:Option Int->Hp->Prop),Inv X pins σ H s->t σ H Q->
  wpAny (model X.prog X.w) X.A (evalPart e X.env) (λu s'=>∃o H',Inv X pins σ H' s'/\IsPart u o/\Q o H') X.xe s
noncomputable def zpx:TO:=λ_ H Q=>Q none H
noncomputable def zs9 (t:TE):TO:=fun σ H Q=>t σ H λx H1=>∃i,x=.int i/\Q (some i) H1
section
variable {X:Cx}{e:Expr}{te:TE}{lo hi:Option Expr}{tl th:TO}{pos p2:Pos}
theorem zkl:PO X none zpx:=by intro pins s σ H Q I h;rw[evalPart_none];exact wpAny_pure ⟨none,H,I,.none,h⟩
theorem zeQ (h:PE X e te):PO X (some e) (zs9 te):=by intro pins s σ H Q I hw;rw[evalPart_some];refine thn (h pins s σ H _ I hw) λu s1 ⟨x,H1,I1,r1,q1⟩=>?_;obtain⟨i,rfl,q⟩:=q1;obtain⟨t,rfl⟩:=r1;exact⟨some i,H1,I1,.int i t,q⟩
noncomputable def SlR (X:Cx)(r:V->Option Int->Option Int->Hp->VK->Prop):Prop:=
 ∀(pins:QE) (s:Shared) (σ:St) (H:Hp) (x:V) (v vl vu:Value) (lo hi:Option Int) (sl:Addr) (Q:VK),Inv X pins σ H s->RelV x v->s.heap.IsSliceOf sl vl vu .none->IsPart vl lo->IsPart vu hi->r x lo hi H Q->
  ∃T id,typeLookup (.type T) "__getitem__" =pure (some (.builtin id))/\s.TypeIs v T/\wpAny (model X.prog X.w) X.A (getItem v (.ref sl)) (EP X pins σ Q) X.xe s
noncomputable def tSl (r:V->Option Int->Option Int->Hp->VK->Prop)(te:TE)(tl th:TO):TE:=fun σ H Q=>te σ H λx H1=>tl σ H1 λl H2=>th σ H2 λu H3=>r x l u H3 Q
theorem zeZ (hr:SlR X r)(he:PE X e te)(hl:PO X lo tl)(hu:PO X hi th):PE X (.Subscript e (.Slice lo hi none p2) pos) (tSl r te tl th):=by intro pins s σ H Q I h;refine Subscript_ (thn (he pins s σ H _ I h) λv s1 ⟨x,H1,I1,r1,q1⟩=>?_);refine wpAny_Slice (thn (hl pins s1 σ H1 _ I1 q1) λvl s2 ⟨l,H2,I2,pl,q2⟩=>thn (hu pins s2 σ H2 _ I2 q2) λvu s3 ⟨u,H3,I3,pu,q3⟩=>?_);rw[evalPart_none];refine wpAny_pure ?_;have I4:Inv X pins σ H3 {s3 with heap:=s3.heap.push {cls:=.type "slice",data:=.fields #[vl,vu,.none]}}:=I3.kept (t':=s3.toks) λb ob q=>Heap.get?_push_of_some _ q;obtain⟨T,id,hT,ht,hg⟩:=hr pins {s3 with heap:=s3.heap.push {cls:=.type "slice",data:=.fields #[vl,vu,.none]}} σ H3 x v vl vu l u s3.heap.objs.size Q I4 r1 (Heap.IsSliceOf.new ..) pl pu q3;show wpAny (model X.prog X.w) X.A (subscriptTail e (.Slice lo hi none p2) v (.ref s3.heap.objs.size)) (EP X pins σ Q) X.xe {s3 with heap:=s3.heap.push {cls:=.type "slice",data:=.fields #[vl,vu,.none]}};exact tail_any (ops:=[.ref s3.heap.objs.size,v]) ht hT hg (by with_unfolding_all rfl)
noncomputable def cutV (xs:QQ)(lo hi:Option Int):List V:=(xs.drop (HT.sIx xs.length 0 lo)).take (HT.sIx xs.length xs.length hi - HT.sIx xs.length 0 lo)
theorem zd8 (xs:QQ)(lo hi:Option Int):(cutV xs lo hi).length<=xs.length:=by unfold cutV;rw[List.length_take,List.length_drop];omega
noncomputable def rSlT (K:QA):V->Option Int->Option Int->Hp->VK->Prop:=λx lo hi H Q=>∃a xs,x=.ref a/\SqT K H a xs/\
 ¬(HT.sIx xs.length 0 lo=0/\HT.sIx xs.length xs.length hi=xs.length)/\∀p,H p=none->Q (.ref p) (upd H p (.tup (cutV xs lo hi)))
theorem zrn:SlR X (rSlT X.K):=by
 intro pins s σ H x v vl vu lo hi sl Q I rx hs pl pu h;obtain⟨a,xs,rfl,hx,hw,q⟩:=h;cases rx;obtain⟨its,r,ht,hz⟩:=I.tuple hx;have hlen:its.toArray.size=xs.length:=by rw[List.size_toArray];exact r.length.symm
 refine⟨"tuple",_,PyProof.Rows.slot_tuple_getitem.lookup,ht.typeIs,?_⟩;refine HT.getItem_tuple_cut ht hs pl pu (by rw[hlen];exact hw) ?_ (by rw[hlen];exact hz);rw[hlen];refine⟨.ref s.heap.objs.size,_,I.laid (t':=s.toks) (o:=.tup (cutV xs lo hi)) (λb ob q=>Heap.get?_push_of_some _ q) (Jb _) ?_,rfl,q _ (I.hok.fresh (Jb _))⟩;exact⟨⟨Ji (zd8 xs lo hi) hz,_,Heap.get?_push_size _ rfl,rfl⟩,_,(r.drop (HT.sIx xs.length 0 lo)).take (HT.sIx xs.length xs.length hi - HT.sIx xs.length 0 lo),IsTup.new _ _⟩
end
end L2
namespace L2
open PySem PySem.Spec PyProof.Rows
noncomputable def ixN (n:Nat)(i:Int):Option Nat:=if 0<=i then(if i < n then some i.toNat else none) else if -(n:Int)<=i then some (i+n).toNat else none
noncomputable def atI {α:Type}(xs:List α)(i:Int):Option α:=(ixN xs.length i).bind λj=>xs[j]?
theorem zkt {j:Nat}(h:ixN n i=some j):seqIndex? i n=some j/\j < n/\ -(n:Int)<=i/\i < n:=by
 unfold ixN at h;by_cases h0:0<=i
 ·rw[if_pos h0] at h;by_cases h1:i < n
  ·rw[if_pos h1] at h;have e:i.toNat=j:=Option.some.inj h;exact⟨by rw[seqIndex_of h0 h1,e],by omega,by omega,h1⟩
  ·rw[if_neg h1] at h;cases h
 ·rw[if_neg h0] at h;by_cases h1: -(n:Int)<=i
  ·rw[if_pos h1] at h;have e:(i+n).toNat=j:=Option.some.inj h;exact⟨by rw[seqIndex_neg (by omega) h1,e],by omega,h1,by omega⟩
  ·rw[if_neg h1] at h;cases h
theorem zhy {xs:List α}{i:Int}{v:α}(h:atI xs i=some v):∃j,seqIndex? i xs.length=some j/\xs[j]? =some v/\j < xs.length/\ -(xs.length:Int)<=i/\i < xs.length:=by
 unfold atI at h;cases e:ixN xs.length i with
 | none=>rw[e] at h;cases h
 | some j=>rw[e] at h;obtain⟨h1,h2,h3,h4⟩:=zkt e;exact⟨j,h1,h,h2,h3,h4⟩
theorem zkG {xs:List α}{j:Nat}{v:α}(h:xs[j]? =some v):atI xs (j:Int)=some v:=by
 have hj:j < xs.length:=(List.getElem?_eq_some_iff.mp h).1;have e:ixN xs.length (j:Int)=some j:=by unfold ixN;rw[if_pos (by omega),if_pos (by omega)];simp
 unfold atI;rw[e];exact h
theorem zc7 (xs:List α)(v:α):atI (xs++ [v]) (-1)=some v:=by
 have hl:(xs++ [v]).length=xs.length+1:=by simp
 have e:ixN (xs++ [v]).length (-1)=some xs.length:=by unfold ixN;rw[hl,if_neg (by decide),if_pos (by omega)];congr 1;omega
 unfold atI;rw[e];show(xs++ [v])[xs.length]? =some v;simp
noncomputable def zoN (b:Expr):Prop:=∀o i,subscripted b false o i=operate [o,i] (getItem o i)
noncomputable def IxR (X:Cx)(r:R2):Prop:=
 ∀(value slice:Expr) (pins:QE) (s:Shared) (σ:St) (H:Hp) (x y:V) (v u:Value) (Q:VK),Inv X pins σ H s->RelV x v->RelV y u->r x y H Q->
  subscripted slice false v u=operate [v,u] (getItem v u)->wpAny (model X.prog X.w) X.A (subscriptTail value slice v u) (EP X pins σ Q) X.xe s
noncomputable def MtR (X:Cx)(id:String)(r:V->List V->Hp->VK->Prop):Prop:=
 ∀(pins:QE) (s:Shared) (σ:St) (H:Hp) (x:V) (xs:QQ) (v:Value) (us:QN) (Q:VK),Inv X pins σ H s->RelV x v->Vals xs us->r x xs H Q->
  wpAny (model X.prog X.w) X.A (call (.builtin id) (v::us)) (EP X pins σ Q) X.xe s
section
variable {X:Cx}{a b:Expr}{ta tb:TE}{pos:Pos}
theorem zbA (hr:IxR X r)(ha:PE X a ta)(hb:PE X b tb)(hs:zoN b):PE X (.Subscript a b pos) (tOp r ta tb):=by intro pins s σ H Q I h;exact Subscript_ (binT ha hb I h λv u s2 x y H2 I2 rx ry q=>hr a b pins s2 σ H2 x y v u Q I2 rx ry q (hs _ _))
noncomputable def rIxL (K:QA):R2:=λx y H Q=>∃p xs i v,x=.ref p/\y=.int i/\SqL K H p xs/\atI xs i=some v/\Q v H
noncomputable def rIxT (K:QA):R2:=λx y H Q=>∃p xs i v,x=.ref p/\y=.int i/\SqT K H p xs/\atI xs i=some v/\Q v H
noncomputable def rIxS:R2:=λx y H Q=>∃z i c,x=.str z/\y=.int i/\z.length<=sizeLine/\atI z.cps.toList i=some c/\Q (.str ⟨#[c]⟩) H
theorem zbI:IxR X (rIxL X.K):=by
 intro value slice pins s σ H x y v u Q I rx ry h hs;obtain⟨p,xs,i,z,rfl,rfl,hq,he,q⟩:=h;cases rx;obtain⟨t,rfl⟩:=ry;obtain⟨its,r,pl,hz⟩:=I.list hq;obtain⟨j,h1,h2,h3,h4,h5⟩:=zhy he;obtain⟨w,ew,rw'⟩:=r.get h2;have hl:=r.length;have hn:=zdY;have fin:EP X pins σ Q w s:=⟨z,H,I,rw',q⟩;by_cases h0:0<=i
 ·have hj:i.toNat=j:=by rw[seqIndex_of h0 h5] at h1;exact Option.some.inj h1
  exact item_listR pl.isList h0 (by omega) (by rw[hj];simpa using ew) fin hs
 ·have hj:(i+(its.toArray.size:Int)).toNat=j:=by rw[seqIndex_neg (by omega) h4] at h1;rw[List.size_toArray,<-hl];exact Option.some.inj h1
  exact subscriptTail_builtinR (x:=w) pl.isList.typeIs slot_list_getitem.lookup
   (wpAny_getItem_list_neg (Q:=λr s'=>r=w/\EP X pins σ Q r s') pl.isList (by omega) (by rw[List.size_toArray] <;> omega) (by omega) (by rw[hj];simpa using ew) ⟨rfl,fin⟩) hs
theorem ze0:IxR X (rIxT X.K):=by
 intro value slice pins s σ H x y v u Q I rx ry h hs;obtain⟨p,xs,i,z,rfl,rfl,hq,he,q⟩:=h;cases rx;obtain⟨t,rfl⟩:=ry;obtain⟨its,r,pl,hz⟩:=I.tuple hq;obtain⟨j,h1,h2,h3,h4,h5⟩:=zhy he;obtain⟨w,ew,rw'⟩:=r.get h2;have hl:=r.length;have hn:=zdY;have fin:EP X pins σ Q w s:=⟨z,H,I,rw',q⟩;exact subscriptTail_builtinR (x:=w) pl.typeIs slot_tuple_getitem.lookup
  (getItem_tuple (j:=j) (Q:=λr s'=>r=w/\EP X pins σ Q r s') pl (by omega) (by omega) (by rw[List.size_toArray,<-hl];exact h1) (by simpa using ew) ⟨rfl,fin⟩) hs
theorem zrk:IxR X rIxS:=by
 intro value slice pins s σ H x y v u Q I rx ry h hs;obtain⟨z,i,c,rfl,rfl,hz,he,q⟩:=h;obtain⟨t,rfl⟩:=rx;obtain⟨t',rfl⟩:=ry;obtain⟨j,h1,h2,h3,h4,h5⟩:=zhy he;have hl:z.cps.toList.length=z.length:=by simp[Str.length]
 rw[hl] at h1 h4 h5;have hn:=zdY;exact tail_any (typeIs_str s z t) slot_str_getitem.lookup (getItem_str (c:=c) (by
  have e1:decide (i < -(2 ^ 63:Int))=false:=decide_eq_false (by omega);have e2:decide (i≥2 ^ 63)=false:=decide_eq_false (by omega);rw[e1,e2,Bool.or_false]) (by rw[h1];simpa using h2) ⟨.str ⟨#[c]⟩,H,I.tok _,⟨_,rfl⟩,q⟩) hs
theorem zjc (its:QN)(n j:Nat)(u:Value):Obj.mapSeq (·.setIfInBounds j u) {cls:=.type "list",data:=.seq its.toArray n}={cls:=.type "list",data:=.seq (its.set j u).toArray n}:=by simp[Obj.mapSeq]
theorem Inv.lst {pins:QE}{σ:St}{H:Hp}{s:Shared}{p:Addr}{xs:QQ}(I:Inv X pins σ H s)(h:H p=some (.lst xs)):
  ∃(its:QN) (n:Nat),Vals xs its/\s.heap.get? p=some {cls:=.type "list",data:=.seq its.toArray n}/\xs.length<=sizeLine:=by
 obtain⟨z,its,n,r,e⟩:=I.hok p _ h;exact⟨its,n,r,e,z⟩
theorem Inv.lstUpd {p:Addr}{xs:QQ}{its its':QN}{n n':Nat}{f:Obj->Obj}(I:Inv X pins σ H s)(h:H p=some (.lst xs))
  (ho:s.heap.get? p=some {cls:=.type "list",data:=.seq its.toArray n}) (hf:f {cls:=.type "list",data:=.seq its.toArray n}={cls:=.type "list",data:=.seq its'.toArray n'}) (r:Vals ys its') (hz:ys.length<=sizeLine) (t:Nat):
  Inv X pins σ (upd H p (.lst ys)) {s with heap:=s.heap.update p f,toks:=t}:=by
 have e:(s.heap.update p f).get? p=some {cls:=.type "list",data:=.seq its'.toArray n'}:=by rw[Heap.get?_update_self f ho (by rw[hf] <;> rfl),hf]
 refine I.write (x:=p) (e:=p) (by rw[h];trivial) (.inl rfl) (λb u hb q=>(Heap.get?_update_other _ _ (Ne.symm hb)).trans q) ⟨_,e⟩ ?_;exact⟨hz,its',n',r,e⟩
noncomputable def ztw:V->V->V->Hp->(Hp->Prop)->Prop:=λo i v H Q=>∃p xs k j,o=.ref p/\i=.int k/\H p=some (.lst xs)/\ixN xs.length k=some j/\Q (upd H p (.lst (xs.set j v)))
theorem set_list:PSet X ztw:=by
 intro pins s σ H o i v ov iv u Q I ro ri rv h;obtain⟨p,xs,k,j,rfl,rfl,hp,hj,q⟩:=h;cases ro;obtain⟨t,rfl⟩:=ri;obtain⟨its,n,r,ho,hz⟩:=I.lst hp;obtain⟨h1,h2,h3,h4⟩:=zkt hj;have hl:=r.length;have hn:=zdY;have I':Inv X pins σ (upd H p (.lst (xs.set j v))) {s with heap:=s.heap.update p (Obj.mapSeq (·.setIfInBounds j u))}:=
  I.lstUpd hp ho (zjc its n j u) (r.set rv j) (by rw[List.length_set];exact hz) s.toks
 by_cases h0:0<=k
 ·have hk:k.toNat=j:=by rw[seqIndex_of h0 h4] at h1;exact Option.some.inj h1
  exact PySem.W.ki_setAt ho h0 (by omega) (by rw[List.size_toArray,<-hl];exact h4) (by rw[hk];exact⟨_,I',q⟩)
 ·have hk:(k+(its.toArray.size:Int)).toNat=j:=by rw[seqIndex_neg (by omega) h3] at h1;rw[List.size_toArray,<-hl];exact Option.some.inj h1
  exact PySem.W.ki_setBack ho (by omega) (by rw[List.size_toArray,<-hl];exact h3) (by omega) (by rw[hk];exact⟨_,I',q⟩)
theorem zqT (i:Int)(n d:Nat):max 0 (min (if i < 0 then i+(n:Int) else i) (n:Int))=((HT.sIx n d (some i):Nat):Int):=by
 simp only[HT.sIx];by_cases h:i < 0
 ·simp only[h,if_true] <;> omega
 ·simp only[h,if_false] <;> omega
theorem zgY (lo hi:Option Int)(n:Nat):(sliceBounds lo hi none n).1=((HT.sIx n 0 lo:Nat):Int)/\(sliceBounds lo hi none n).2.1=((HT.sIx n n hi:Nat):Int)/\(sliceBounds lo hi none n).2.2=1:=by
 refine⟨?_,?_,rfl⟩
 ·cases lo with
  | none=>simp[sliceBounds,HT.sIx]
  | some i=>(simp only[sliceBounds,Option.getD_none,show(1:Int) > 0 by decide,if_true];exact zqT i n 0)
 ·cases hi with
  | none=>simp[sliceBounds,HT.sIx]
  | some i=>(simp only[sliceBounds,Option.getD_none,show(1:Int) > 0 by decide,if_true];exact zqT i n n)
theorem zfY (its:QN)(lo hi:Option Int):slicePick its.toArray lo hi none=((its.drop (HT.sIx its.length 0 lo)).take (HT.sIx its.length its.length hi - HT.sIx its.length 0 lo)).toArray:=by obtain⟨h1,h2,h3⟩:=zgY lo hi its.toArray.size;unfold slicePick;rw[h1,h2,h3];simp only[sliceRange_one,pick_run,List.size_toArray] <;> rfl
noncomputable def rSlL (K:QA):V->Option Int->Option Int->Hp->VK->Prop:=λx lo hi H Q=>∃a xs,x=.ref a/\SqL K H a xs/\∀p,H p=none->Q (.ref p) (upd H p (.lst (cutV xs lo hi)))
theorem zpI:SlR X (rSlL X.K):=by intro pins s σ H x v vl vu lo hi sl Q I rx hs pl pu h;obtain⟨a,xs,rfl,hx,q⟩:=h;cases rx;obtain⟨its,r,ht,hz⟩:=I.list hx;have hlen:=r.length;refine⟨"list",_,slot_list_getitem.lookup,ht.isList.typeIs,?_⟩;refine wpAny_getItem_list_slice ht.isList hs pl pu .none (by simp) ?_ (by rw[List.size_toArray] <;> omega);rw[zfY,<-hlen];refine⟨.ref s.heap.objs.size,_,I.laid (t':=s.toks) (o:=.lst (cutV xs lo hi)) (λb ob q=>Heap.get?_push_of_some _ q) (Jb _) ?_,rfl,q _ (I.hok.fresh (Jb _))⟩;exact⟨Ji (zd8 xs lo hi) hz,_,0,(r.drop (HT.sIx xs.length 0 lo)).take (HT.sIx xs.length xs.length hi - HT.sIx xs.length 0 lo),Heap.get?_push_size _ rfl⟩
noncomputable def za4:V->Bool
 | .non=>true
 | .bl _=>true
 | .int _=>true
 | .str _=>true
 | _=>false
noncomputable def eqV:V->V->Bool
 | .non,.non=>true
 | .bl a,.bl b=>a==b
 | .bl a,.int b=>(if a then 1 else 0)==b
 | .int a,.bl b=>a==(if b then 1 else 0)
 | .int a,.int b=>a==b
 | .str a,.str b=>a==b
 | _,_=>false
theorem znA (ry:RelV y u)(rx:RelV x v)(fy:za4 y=true)(fx:za4 x=true):SeqAt.EqAt A s u v (eqV y x):=by
 cases y with
 | non=>
  cases ry;cases x with
  | non=>cases rx;exact SeqAt.EqAt.same _
  | bl b=>cases rx;exact SeqAt.EqAt.none_bool b
  | int b=>obtain⟨t,rfl⟩:=rx;exact SeqAt.EqAt.none_int b t
  | str b=>obtain⟨t,rfl⟩:=rx;exact SeqAt.EqAt.none_str b t
  | _=>exact Je (show false=true from fx) Jc
 | bl a=>
  cases ry;cases x with
  | non=>cases rx;exact SeqAt.EqAt.bool_none a
  | bl b=>cases rx;exact SeqAt.EqAt.bool_bool a b
  | int b=>obtain⟨t,rfl⟩:=rx;exact SeqAt.EqAt.bool_int a b t
  | str b=>obtain⟨t,rfl⟩:=rx;exact SeqAt.EqAt.bool_str a b t
  | _=>exact Je (show false=true from fx) Jc
 | int a=>
  obtain⟨t',rfl⟩:=ry;cases x with
  | non=>cases rx;exact SeqAt.EqAt.int_none a t'
  | bl b=>cases rx;exact SeqAt.EqAt.int_bool a t' b
  | int b=>obtain⟨t,rfl⟩:=rx;exact SeqAt.EqAt.int_int a t' b t
  | str b=>obtain⟨t,rfl⟩:=rx;exact SeqAt.EqAt.int_str a t' b t
  | _=>exact Je (show false=true from fx) Jc
 | str a=>
  obtain⟨t',rfl⟩:=ry;cases x with
  | non=>cases rx;exact SeqAt.EqAt.str_none a t'
  | bl b=>cases rx;exact SeqAt.EqAt.str_bool a t' b
  | int b=>obtain⟨t,rfl⟩:=rx;exact SeqAt.EqAt.str_int a t' b t
  | str b=>obtain⟨t,rfl⟩:=rx;exact SeqAt.EqAt.str_str a t' b t
  | _=>exact Je (show false=true from fx) Jc
 | _=>exact Je (show false=true from fy) Jc
noncomputable def eqU (x:V)(u:Value):Bool:=match u with
 | .none=>eqV .non x
 | .bool b=>eqV (.bl b) x
 | .int i _=>eqV (.int i) x
 | .str z _=>eqV (.str z) x
 | _=>false
theorem zjH (r:RelV y u)(f:za4 y=true):eqU x u=eqV y x:=by
 cases y with
 | non=>cases r;rfl
 | bl b=>cases r;rfl
 | int i=>obtain⟨t,rfl⟩:=r;rfl
 | str z=>obtain⟨t,rfl⟩:=r;rfl
 | _=>exact Je (show false=true from f) Jc
theorem zg3:∀{xs:QQ} {us:QN},Vals xs us->xs.all za4=true->us.any (eqU x)=xs.any λy=>eqV y x
 | _,_,.nil,_=>rfl
 | y::xs,u::us,.cons r t,f=>by rw[List.all_cons,Bool.and_eq_true] at f;rw[List.any_cons,List.any_cons,zjH r f.1,zg3 t f.2]
theorem zdx (rx:RelV x v)(fx:za4 x=true):∀{xs:QQ} {us:QN},Vals xs us->xs.all za4=true->∀u∈us,SeqAt.EqAt A s u v (eqU x u)
 | _,_,.nil,_=>λu hu=>by cases hu
 | y::xs,u::us,.cons r t,f=>λu' hu=>by
  rw[List.all_cons,Bool.and_eq_true] at f;rcases List.mem_cons.mp hu with rfl | hu
  ·rw[zjH r f.1];exact znA r rx f.1 fx
  ·exact zdx rx fx t f.2 u' hu
noncomputable def inV (x:V)(xs:QQ):Bool:=xs.any λy=>eqV y x
noncomputable def rIn (K:QA)(neg:Bool):R2:=λx y H Q=>∃p xs,y=.ref p/\(SqL K H p xs\/SqT K H p xs)/\za4 x=true/\xs.all za4=true/\Q (.bl (if neg then !inV x xs else inV x xs)) H
theorem zg4:OpR X (compareOp .NotIn) (rIn X.K true):=by
 intro pins s σ H x y v u Q I rx ry h;obtain⟨p,xs,rfl,hq,fx,fs,q⟩:=h;cases ry;rcases hq with hq | hq
 ·obtain⟨its,r,pl,hz⟩:=I.list hq;refine SeqAt.notIn_listAt (eqU x) pl.isList (λw hw=>zdx rx fx r fs w (by simpa using hw)) ⟨.bl _,H,I,rfl,?_⟩;rw[show its.toArray.any (eqU x)=its.any (eqU x) by simp,zg3 r fs];exact q
 ·obtain⟨its,r,pl,hz⟩:=I.tuple hq;refine SeqAt.notIn_tupleAt (eqU x) pl (λw hw=>zdx rx fx r fs w (by simpa using hw)) ⟨.bl _,H,I,rfl,?_⟩;rw[show its.toArray.any (eqU x)=its.any (eqU x) by simp,zg3 r fs];exact q
theorem za0:zab X (.builtin "len") (λxs H Q=>∃p ys,xs=[.ref p]/\(SqL X.K H p ys\/SqT X.K H p ys)/\Q (.int ys.length) H):=by
 intro pins s σ H xs us Q I r h;obtain⟨p,ys,rfl,hq,q⟩:=h;obtain⟨u,rfl,rx⟩:=vals1 r;cases rx;have hn:=zdY;rcases hq with hq | hq
 ·obtain⟨its,r',pl,hz⟩:=I.list hq;have hlen:=r'.length;exact Calls.call_len_list pl.isList (by simp only[List.size_toArray] <;> omega) ⟨.int ys.length,H,I.tok _,⟨s.toks+1,by rw[List.size_toArray,hlen]⟩,q⟩
 ·obtain⟨its,r',pl,hz⟩:=I.tuple hq;have hlen:=r'.length;exact len_tuple pl (by simp only[List.size_toArray] <;> omega) ⟨.int ys.length,H,I.tok _,⟨s.toks+1,by rw[List.size_toArray,hlen]⟩,q⟩
theorem zah:zab X (.builtin "len") (λxs H Q=>∃z,xs=[.str z]/\z.length<=sizeLine/\Q (.int z.length) H):=by intro pins s σ H xs us Q I r h;obtain⟨z,rfl,hz,q⟩:=h;obtain⟨u,rfl,t,rfl⟩:=vals1 r;have hn:=zdY;exact len_str (by omega) ⟨.int z.length,H,I.tok _,⟨_,rfl⟩,q⟩
theorem zab.or (h:zab X f r)(h':zab X f r'):zab X f (λxs H Q=>r xs H Q\/r' xs H Q):=by
 intro pins s σ H xs us Q I rs q;rcases q with q | q
 ·exact h pins s σ H xs us Q I rs q
 ·exact h' pins s σ H xs us Q I rs q
theorem zbq:zab X (.type "tuple") (λxs H Q=>∃p ys,xs=[.ref p]/\((SqL X.K H p ys/\∀l,H l=none->Q (.ref l) (upd H l (.tup ys)))\/(SqT X.K H p ys/\Q (.ref p) H))):=by
 intro pins s σ H xs us Q I r h;obtain⟨p,ys,rfl,h⟩:=h;obtain⟨u,rfl,rx⟩:=vals1 r;cases rx;rcases h with ⟨hq,q⟩ | ⟨hq,q⟩
 ·obtain⟨its,r',pl,hz⟩:=I.list hq;have hlen:=r'.length;refine call_tuple_list pl.isList (λh' kp=>?_) (by simp only[List.size_toArray] <;> omega);have I1:Inv X pins σ H {s with heap:=h'}:=I.kept (t':=s.toks) kp;have I2:Inv X pins σ (upd H h'.objs.size (.tup ys)) {s with heap:=h'.push {cls:=.type "tuple",data:=.seq its.toArray}}:=
   I1.laid (t':=s.toks) (λb o e=>Heap.get?_push_of_some _ e) (Jb _) (show zF X.prog X.w _ _ _ (.tup ys) from⟨⟨hz,_,Heap.get?_push_size _ rfl,rfl⟩,its,r',IsTup.new _ _⟩)
  exact⟨.ref h'.objs.size,_,I2,rfl,q _ (I1.hok.fresh (Jb _))⟩
 ·obtain⟨its,r',pl,hz⟩:=I.tuple hq;exact call_tuple_same pl ⟨.ref p,H,I,rfl,q⟩
noncomputable def tyV (K:QA)(T:String)(x:V)(H:Hp):Prop:=match x with
 | .str _=>T= "str"
 | .int _=>T= "int"
 | .ref p=>(T= "list" /\∃xs,SqL K H p xs)\/(T= "tuple" /\∃o,K.lookup p=some o/\o.cls=.type "tuple" /\o.dict=none)\/
   (T= "dict" /\((∃kvs,H p=some (.dK kvs))\/∃kvs,H p=some (.dT kvs)))\/(T= "set" /\∃S n,H p=some (.set S n))
 | _=>False
theorem zn8 (I:Inv X pins σ H s)(r:RelV x v)(ty:tyV X.K T x H):
  s.TypeIs v T/\∀a,v=.ref a->∃ob,s.heap.get? a=some ob/\ob.dict=none:=by
 cases x with
 | str z=>obtain⟨t,rfl⟩:=r;cases (show T= "str" from ty);exact⟨typeIs_str s z t,λ_ e=>nomatch e⟩
 | int i=>obtain⟨t,rfl⟩:=r;cases (show T= "int" from ty);exact⟨typeIs_int s i t,λ_ e=>nomatch e⟩
 | ref p=>
  cases r;rcases ty with ⟨rfl,xs,hq⟩ | ⟨rfl,o,hk,hc,hd⟩ | ⟨rfl,hk⟩ | ⟨rfl,S,n,hk⟩
  ·obtain⟨its,_,pl,_⟩:=I.list hq;refine⟨pl.isList.typeIs,λa e=>?_⟩;cases e;obtain⟨o,n,e,c,hd,_⟩:=pl;exact⟨o,e,hd⟩
  ·refine⟨⟨o,I.kIn p o hk,hc⟩,λa e=>?_⟩;cases e;exact⟨o,I.kIn _ o hk,hd⟩
  ·have z:∃o,s.heap.get? p=some o/\o.ExactDict:=by
    rcases hk with ⟨kvs,hk⟩ | ⟨kvs,hk⟩
    ·obtain⟨_,_,_,_,o,_,_,e,ex,_⟩:=I.hok p _ hk;exact⟨o,e,ex⟩
    ·obtain⟨_,_,_,_,o,_,_,e,ex,_⟩:=I.hok p _ hk;exact⟨o,e,ex⟩
   obtain⟨o,e,ex⟩:=z;refine⟨⟨o,e,ex.1⟩,λa e2=>?_⟩;cases e2;exact⟨o,e,ex.2.1⟩
  ·obtain⟨o,_,_,_,e,ex,_⟩:=I.hok p _ hk;refine⟨⟨o,e,ex.1⟩,λa e2=>?_⟩;cases e2;exact⟨o,e,ex.2.1⟩
 | _=>exact False.elim ty
noncomputable def tBM0 (K:QA)(T:String)(r:V->List V->Hp->VK->Prop)(to:TE):TE:=fun σ H Q=>to σ H λx H1=>tyV K T x H1/\r x [] H1 Q
noncomputable def tBM (K:QA)(T:String)(r:V->List V->Hp->VK->Prop)(to:TE)(t:TA):TE:=fun σ H Q=>to σ H λx H1=>tyV K T x H1/\t σ H1 λxs H2=>r x xs H2 Q
variable {o e:Expr}{es:List Expr}{to:TE}{t:TA}{name:Str}{apos cpos:Pos}{T id:String}{r:V->List V->Hp->VK->Prop}
theorem zrZ (pa:PlainAttrs T)(slot:Slot T name id)(hty:typeOf (.builtin id)=pure (.type "method_descriptor")) (hm:MtR X id r) (ho:PE X o to)
  (hbase:attributeBase o name X.env (eval o X.env)=eval o X.env:=by rfl) (hline:(apos.endLine==cpos.line)=true:=by rfl):PE X (.Call (.Attribute o name apos) [] [] cpos) (tBM0 X.K T r to):=by
 intro pins s σ H Q I h;refine wpAny_Call_method0_late hbase hline (thn (ho pins s σ H _ I h) λv s1 ⟨x,H1,I1,r1,ty,q1⟩=>?_);obtain⟨h1,h2⟩:=zn8 I1 r1 ty;exact⟨T,id,pa,slot,hty,h1,h2,Calls.callWith_builtin rfl (PySem.evalArgs_none (hm pins s1 σ H1 x [] v [] Q I1 r1 .nil q1))⟩
theorem zqF (pa:PlainAttrs T)(slot:Slot T name id)(hty:typeOf (.builtin id)=pure (.type "method_descriptor")) (hm:MtR X id r) (ho:PE X o to) (ha:PA X (e::es) t)
  (hbase:attributeBase o name X.env (eval o X.env)=eval o X.env:=by rfl)
  (hfew:((backTo cpos (starEach (e::es) X.env)).all (λx=>!x.1) && (backToKw cpos (keywordEach [] X.env)).all (λx=>x.1.isSome)
   && decide ((e::es).length+([]:List Keyword).length+(if ([]:List Keyword).isEmpty then 0 else 1) < 30))=true:=by rfl)
  (hline:(apos.endLine==cpos.line)=true:=by rfl) (hs:starEach (e::es) X.env=(false,eval e X.env)::starEach es X.env:=by rfl) (hplain:(backTo cpos (starEach es X.env)).any (·.1)=false:=by rfl):
  PE X (.Call (.Attribute o name apos) (e::es) [] cpos) (tBM X.K T r to t):=by
 intro pins s σ H Q I h;refine wpAny_Call_method_late hbase hfew hline rfl (thn (ho pins s σ H _ I h) λv s1 ⟨x,H1,I1,r1,ty,q1⟩=>?_);obtain⟨h1,h2⟩:=zn8 I1 r1 ty;refine⟨T,id,pa,slot,hty,h1,h2,?_⟩;have hA:=ha cpos pins s1 σ H1 _ I1 q1;rw[hs] at hA ⊢;refine Calls.callWith_builtin (by show(false || (backTo cpos (starEach es X.env)).any (·.1))=false;rw[hplain] <;> rfl) (Calls.evalArgs_plain ?_);exact thn hA λus s2 ⟨vs,H2,I2,r2,q2⟩=>hm pins s2 σ H2 x vs v us Q I2 r1 r2 q2
end
end L2
namespace L2
open PySem PySem.Spec PyProof.Rows
noncomputable def MtM (X:Cx)(id:String)(r:V->List V->Hp->VK->Prop):Prop:=
 ∀(pins:QE) (s:Shared) (σ:St) (H:Hp) (x:V) (xs:QQ) (v:Value) (us:QN) (Q:VK),Inv X pins σ H s->RelV x v->Vals xs us->r x xs H Q->
  wpAny (model X.prog X.w) X.A (call (.builtin id) (v::us)) (EP X pins σ Q) X.xe s
theorem Vals.one {x:V}(h:Vals [x] us):∃u,us=[u]/\RelV x u:=by
 cases h with
 | cons r t=>cases t;exact⟨_,rfl,r⟩
theorem Vals.zero:∀{us:QN},Vals [] us->us=[]
 | _,.nil=>rfl
theorem Vals.dropLast (h:Vals xs us):Vals xs.dropLast us.dropLast:=by
 induction h with
 | nil=>exact .nil
 | cons r t ih=>
  cases t with
  | nil=>exact .nil
  | cons q t'=>exact .cons r ih
theorem zju (l:List α):l.eraseIdx (l.length - 1)=l.dropLast:=by
 induction l with
 | nil=>rfl
 | cons a r ih=>
  cases r with
  | nil=>rfl
  | cons b r=>
   have e:(a::b::r).length - 1=((b::r).length - 1)+1:=by have h1:(a::b::r).length=r.length+2:=rfl;have h2:(b::r).length=r.length+1:=rfl;omega
   rw[e,List.eraseIdx_cons_succ,ih]
   all_goals rfl
section
variable {X:Cx}{pins:QE}{σ:St}{H:Hp}{s:Shared}{l b:Addr}{xs ys zs:QQ}
theorem Inv.lset {its its':QN}{n:Nat}{f:Array Value->Array Value}{t':Nat}(I:Inv X pins σ H s)(hH:H l=some (.lst xs))
  (e:s.heap.get? l=some {cls:=.type "list",data:=.seq its.toArray n}) (hf:f its.toArray=its'.toArray) (hv:Vals ys its') (hz:ys.length<=sizeLine):
  Inv X pins σ (upd H l (.lst ys)) {s with heap:=s.heap.update l (Obj.mapSeq f),toks:=t'}:=by
 have q:=PySem.IsL.update e f;rw[hf] at q;refine I.write (x:=l) (e:=l) (by rw[hH];exact trivial) (.inl rfl) (λb' u hb hu=>(Heap.get?_update_other s.heap (Obj.mapSeq f) (Ne.symm hb)).trans hu) ⟨_,q⟩ ?_;exact⟨hz,its',_,hv,q⟩
theorem Inv.lnew {t':Nat}(I:Inv X pins σ H s)(hv:Vals ys its)(hz:ys.length<=sizeLine):
  Inv X pins σ (upd H s.heap.objs.size (.lst ys)) {s with heap:=s.heap.push {cls:=.type "list",data:=.seq its.toArray},toks:=t'}:=
 I.laid (λ_ _ q=>Heap.get?_push_of_some _ q) (Jb _) ⟨hz,its,0,hv,Heap.get?_push_size _ rfl⟩
theorem Inv.fresh (I:Inv X pins σ H s):H s.heap.objs.size=none:=I.hok.fresh (Jb _)
theorem Inv.lstM (I:Inv X pins σ H s)(hH:H l=some (.lst xs)):xs.length<=sizeLine/\∃(its:QN) (n:Nat),Vals xs its/\xs.length=its.length/\s.heap.get? l=some {cls:=.type "list",data:=.seq its.toArray n}:=by obtain⟨z,its,n,r,e⟩:=I.hok l _ hH;exact⟨z,its,n,r,r.length,e⟩
theorem zmG {n:Nat}(h:n<=sizeLine):Builtin.List.listTooLong n=false:=by unfold Builtin.List.listTooLong;exact decide_eq_false (by omega)
end
section
variable {X:Cx}
noncomputable def zpL:V->List V->Hp->VK->Prop:=λx vs H Q=>∃l xs y,x=.ref l/\vs=[y]/\H l=some (.lst xs)/\xs.length < sizeLine/\Q .non (upd H l (.lst (xs++ [y])))
theorem zgv:MtM X "list.append" zpL:=by intro pins s σ H x vs v us Q I rx rv h;obtain⟨l,xs,y,rfl,rfl,hH,hz,q⟩:=h;cases rx;obtain⟨u,rfl,ru⟩:=rv.one;obtain⟨z,its,n,r,hl,e⟩:=I.lstM hH;refine call_meets F.slot_list_append ⟨_,e,rfl⟩ F.entry_list_append (F.args_list_append_2 _ _) (PySem.list_append l its.toArray n u (by rw[List.size_toArray];omega)) ⟨e,?_⟩;refine⟨.non,_,I.lset (its':=its++ [u]) hH e (by simp) (r.append (.cons ru .nil)) ?_,rfl,q⟩;rw[List.length_append,List.length_singleton];omega
noncomputable def zp5:V->List V->Hp->VK->Prop:=λx vs H Q=>∃l b xs zs,x=.ref l/\vs=[.ref b]/\H l=some (.lst xs)/\H b=some (.lst zs)/\xs.length+zs.length<=sizeLine/\Q .non (upd H l (.lst (xs++zs)))
theorem zlH:MtM X "list.extend" zp5:=by
 intro pins s σ H x vs v us Q I rx rv h;obtain⟨l,b,xs,zs,rfl,rfl,hH,hB,hz,q⟩:=h;cases rx;obtain⟨u,rfl,ru⟩:=rv.one;cases ru;obtain⟨z,its,n,r,hl,e⟩:=I.lstM hH;obtain⟨z2,its2,n2,r2,hl2,e2⟩:=I.lstM hB;have hsz:its.toArray.size+its2.toArray.size<=sizeLine:=by rw[List.size_toArray,List.size_toArray];omega
 have hlong:¬(!its.toArray.isEmpty && Builtin.List.listTooLong (its.toArray.size+its2.toArray.size))=true:=by rw[zmG hsz,Bool.and_false];exact Jc
 refine call_meets F.slot_list_extend ⟨_,e,rfl⟩ F.entry_list_extend (F.args_list_extend_2 _ _)
  (AutoSeq1.list_extend_list_list_0 l its.toArray n b its2.toArray n2 hlong (by rw[List.size_toArray];omega) (by omega)) ⟨e,e2,?_⟩
 refine⟨.non,_,I.lset (its':=its++its2) hH e (by simp) (r.append r2) ?_,rfl,q⟩;rw[List.length_append];omega
noncomputable def rPop:V->List V->Hp->VK->Prop:=λx vs H Q=>∃l xs y,x=.ref l/\vs=[]/\H l=some (.lst xs)/\xs[xs.length - 1]? =some y/\Q y (upd H l (.lst xs.dropLast))
theorem zrg:MtM X "list.pop" rPop:=by
 intro pins s σ H x vs v us Q I rx rv h;obtain⟨l,xs,y,rfl,rfl,hH,hy,q⟩:=h;cases rx;have hus:=rv.zero;subst hus;obtain⟨z,its,n,r,hl,e⟩:=I.lstM hH;obtain⟨u,hu,ru⟩:=r.get hy;have hy':its.toArray[its.toArray.size - 1]? =some u:=by show its.toArray[its.length - 1]? =some u;rw[<-Array.getElem?_toList,<-hl];exact hu
 refine call_meets F.slot_list_pop ⟨_,e,rfl⟩ F.entry_list_pop (F.args_list_pop_1 _) (MeetsSeq.list_pop_last l its.toArray n u hy' (by rw[List.size_toArray];omega)) ⟨e,?_⟩;refine⟨y,_,I.lset (its':=its.dropLast) hH e ?_ r.dropLast ?_,ru,q⟩
 ·show its.toArray.eraseIdxIfInBounds (its.toArray.size - 1)=its.dropLast.toArray;rw[List.size_toArray,List.eraseIdxIfInBounds_toArray,zju]
 ·rw[List.length_dropLast];omega
noncomputable def rCat:R2:=λx y H Q=>∃l b xs zs,x=.ref l/\y=.ref b/\H l=some (.lst xs)/\H b=some (.lst zs)/\xs.length+zs.length<=sizeLine/\∀p,H p=none->Q (.ref p) (upd H p (.lst (xs++zs)))
theorem zcS:OpR X (binaryOp .Add) rCat:=by
 intro pins s σ H x y v u Q I rx ry h;obtain⟨l,b,xs,zs,rfl,rfl,hH,hB,hz,q⟩:=h;cases rx;cases ry;obtain⟨z,its,n,r,hl,e⟩:=I.lstM hH;obtain⟨z2,its2,n2,r2,hl2,e2⟩:=I.lstM hB;refine PySem.P.add_list e e2 ?_ (by rw[List.size_toArray,List.size_toArray];omega);have ea:its.toArray++its2.toArray=(its++its2).toArray:=by simp
 rw[ea];exact⟨.ref _,_,I.lnew (t':=s.toks) (r.append r2) (by rw[List.length_append];omega),rfl,q _ I.fresh⟩
end
section
variable {prog:Program}{w:World}{A:Around}{E:QC}{s:Shared}
end
section
variable {X:Cx}
end
end L2
namespace Att
open PySem PySem.W PySem.Calls PyProof.Rows
theorem zey:∀(ns:List Int) (vs:QN),WellAll P h vs (ns.map WData.int)->IntsAre vs ns:=by
 intro ns
 induction ns with
 | nil=>intro vs w;rw[List.map_nil] at w;cases w;exact .nil
 | cons n ns ih=>
  intro vs w;rw[List.map_cons] at w;cases w with
  | cons a b=>cases a;exact .cons _ _ (ih _ b)
theorem zk5 {l:OpenLaw}{n:Nat}(hn:l.most=some n){args:List WData}
  (hpre:l.row.toRowW.claim.pre args=true) (hwl:WellAll P h vals args):
  ∃a vs ns,vals=[Value.ref a]/\args=[WData.list (ns.map WData.int)]/\h.get? a=some {cls:=.type "list",data:=.seq vs.toArray}/\IntsAre vs ns/\ns.length<=n:=by
 have hsh:WShape.hasAll [] args [.list .int]=true:=(pre_splitW hpre).1;have hc:l.pre.holds [] {args:=args}=true:=(pre_splitW hpre).2;obtain⟨d,r,rfl,h1,h2⟩:=hasAllW_cons hsh;obtain rfl:=hasAllW_nil h2;obtain⟨xs,rfl,h3⟩:=hasW_list h1;obtain⟨ns,rfl⟩:=items_int h3;have hlen:ns.length<=n:=by
  unfold OpenLaw.pre at hc;have h4:(WTm.not (.lt (.lit (.int (n:Int))) (.len (.arg 0)))).holds [] {args:=[.list (ns.map .int)]}=true:=by have h4:=(holds_andW hc).1;rw[hn] at h4;exact h4
  have h5:=condW_of h4 (w_not (w_lt w_lit (w_len_list (w_arg rfl))));rw[List.length_map] at h5;refine Nat.le_of_not_lt λq=>?_;have q':(n:Int) < ((ns.length:Nat):Int):=by omega
  first
   | (rw[decide_eq_true q'] at h5;exact Je h5 (by decide))
   | (simp at h5;omega)
 cases hwl with
 | cons w1 w2=>
  cases w2;cases w1 with
  | list ho hall=>exact⟨_,_,ns,rfl,rfl,ho,zey ns _ hall,hlen⟩
theorem zlL (l:OpenLaw)(args:List WData):l.row.toRowW.claim.post args (.bool true) args=true:=
 postW_of (r:=l.row.toRowW) (X:=(true==true))
  (show WShape.has [] (.bool true) .bool=true by first | rfl | decide | simp[WShape.has,WShape.arms,WShape.armsAll])
  (show(WTm.eq .res (.lit (.bool true))).value [] {args:=args,res:=some (.bool true),after:=args}=some (.bool (true==true)) from w_eq_bool (w_res rfl) w_lit) rfl
theorem attach_call {l:OpenLaw}{n:Nat}{YP:World->Heap->Prop}{d:DefRec}
  (hn:l.most=some n) (hdf:d.params.defaults=[])
  (call:∀(w:World) (s₀ s₁:Shared) (mg mb:QB) (fa:Addr) (o:Obj) (pm cd doc:Value) (a:Addr) (vs:QN) (ns:List Int),
   Ground q loose [] XP w s₀ mg mb s₁.heap->YP w s₁.heap->
   s₁.heap.get? fa=some o->o.data=.func (docDef d.name d.params d.body d.scope pm cd doc)->s₁.heap.CodeRec cd d.name->mg d.name=some (.ref fa)->
   s₁.heap.get? a=some {cls:=.type "list",data:=.seq vs.toArray}->IntsAre vs ns->ns.length<=n->s₁.gens= #[]->
   codeAny (model l.prog w) callerA (.call (.ref fa) ⟨[.ref a],[]⟩) (λr s'=>r=.ok (.ret (.bool true))/\OldK s₁.heap s'.heap/\s'.os=s₁.os/\AllBare s'.gens) s₁):
  WalkO q loose XP YP l.row.toRowW d [] (λf vs=>PySem.call f vs):=by
 intro w s₀ s₁ mg mb G Y fa o pm cd doc dV kV ho hd hcd hD hmg hg args vals as hpre hlay hrd hwl hlo;obtain rfl:dV=.none:=Dflts.none hD hdf;obtain rfl:kV=.none:=Dflts.noKw hD;obtain⟨a,vs,ns,rfl,rfl,hobj,hints,hlen⟩:=zk5 hn hpre hwl;refine enter_call (codeAny_mono (call w s₀ s₁ mg mb fa o pm cd doc a vs ns G Y ho (fd_plain hd) hcd hmg hobj hints hlen hg) λr s' hq=>?_);obtain⟨rfl,h2,h3,h4⟩:=hq;exact⟨.inl ⟨.bool true,.bool true,[],rfl,λ_=>rfl,.bool true,zlL l _,λ_=>⟨List.Pairwise.nil,λ_ hm=>(nomatch hm)⟩⟩,h2,h3,h4⟩
section
variable {prog:Program}{w:World}{A:Around}{E:QC}{s:Shared}{K:Frag}
end
end Att
namespace L2
open PySem PySem.Spec PyProof.Rows
theorem zgl:∀{vs:QN} {ns:List Int},IntsAre vs ns->Vals (ns.map V.int) vs
 | _,_,.nil=>.nil
 | _,_,.cons n t h=>.cons ⟨t,rfl⟩ (zgl h)
noncomputable def Only (H:Hp):Prop:=∀b,H b=none\/∃o xs,H b=some (.frz o (.lst xs))
theorem zn2 {K:QA}{mg mb:QB}{a:Addr}{x:Str}{s₁:Shared}{vs:QN}
  (KX:K.In s₁.heap) (hns:s₁.heap.Ns mainGlobals mg) (hb:s₁.heap.Ns builtinsNs mb) (hbb:∀x:Str,x≠ "__name__" ->mb x=bootBuiltins x) (hlim:s₁.heap.NoLimit) (hg:s₁.gens= #[])
  (ha:s₁.heap.get? a=some {cls:=.type "list",data:=.seq vs.toArray}) (hi:IntsAre vs ns) (hl:ns.length<=sizeLine) (hr:Room k callerA)
  (F:∀base:Heap,K.In base->base.Ns mainGlobals mg->FnOk P w K mg base CX k fa fd [x] sp) (hbind:∀(s:Shared) (u:Value),BindsTo s fd ⟨[u],[]⟩ [(x,u)])
  (hsp:∀H:Hp,Only H->SqL K H a (ns.map V.int)->sp [.ref a] H (λv _=>v=.bl true) λ_ _ _=>False)
  (hCX:∀H e s',CX [] H s₁ (λ_ _ _=>False) e s'->False):
  codeAny (model P w) callerA (.call (.ref fa) ⟨[.ref a],[]⟩) (λr s'=>r=.ok (.ret (.bool true))/\OldK s₁.heap s'.heap/\s'.os=s₁.os/\AllBare s'.gens) s₁:=by
 have rv:=zgl hi;have lenV:=hi.length
 have core:∀H:Hp,Only H->SqL K H a (ns.map V.int)->HOk P w H s₁.heap->(∀b,H b≠none->b=a)->(H a≠none->K.lookup a=none)->
   codeAny (model P w) callerA (.call (.ref fa) ⟨[.ref a],[]⟩) (λr s'=>r=.ok (.ret (.bool true))/\OldK s₁.heap s'.heap/\s'.os=s₁.os/\AllBare s'.gens) s₁:=by
  intro H hO hS hok hA hK;have base_of:∀{b:Addr} {o:Obj},s₁.heap.get? b=some o->H b=none->(hidT s₁.heap H).get? b=some o:=λe n=>zn0 e n;have noA:∀{b:Addr} {o:Obj} {es:Array DictEntry} {ep:Nat},s₁.heap.get? b=some o->o.data=.dict es ep->H b=none:=λ{b o es ep} e d=>by
   cases q:H b with
   | none=>rfl
   | some u=>have e':b=a:=hA b (by rw[q];simp);subst e';rw[ha] at e;cases e;have d':Data.seq vs.toArray _=Data.dict es ep:=d;cases d'
  have nsK:∀{b:Addr} {m:QB},s₁.heap.Ns b m->(hidT s₁.heap H).Ns b m:=λ{b m} ⟨o,es,ep,e,d,r⟩=>⟨o,es,ep,base_of e (noA e d),d,r⟩;have hKb:K.In (hidT s₁.heap H):=λb o e=>base_of (KX b o e) (by
   cases q:H b with
   | none=>rfl
   | some u=>
    have e':b=a:=hA b (by rw[q];simp);subst e';rw[hK (by rw[q];simp)] at e;cases e)
  have hM:Mod K mg (hidT s₁.heap H):=⟨hKb,nsK hns,⟨mb,nsK hb,hbb⟩,let ⟨mc,h1,h2⟩:=hlim;⟨mc,nsK h1,h2⟩⟩
  have e0:Env0 P w K mg (hidT s₁.heap H) callerA [] s₁ H:=⟨rfl,hM,λb o e=>zo5 e,Nat.le_of_eq (zlj _ _),trivial,λb hb=>Je (show b∈([]:QO) from hb) (by simp),hok,.of_eq hg⟩;refine codeAny_mono ((F _ hKb (nsK hns)).run callerA [] s₁ H ⟨[.ref a],[]⟩ [.ref a] [.ref a] _ _ hr e0 (hbind s₁ (.ref a)) (.cons rfl .nil) (hsp H hO hS)) λr s' h=>?_;cases r with
  | error e=>exact(hCX H e s' h).elim
  | ok fl=>
   cases fl with
   | next=>exact False.elim h
   | brk=>exact False.elim h
   | cont=>exact False.elim h
   | ret u=>
    obtain⟨v,H',os,bare,un,hok',r',q⟩:=h;have q':v=.bl true:=q;subst q';obtain rfl:u=Value.bool true:=r';refine⟨rfl,OldK.of_keep λb o e=>?_,os,bare⟩;cases q:H b with
    | none=>exact un.keep b o e q (by intro z;exact Je (show b∈([]:QO) from z) (by simp)) (by simp)
    | some u=>
     rcases hO b with z | ⟨ob,xs,z⟩
     ·rw[q] at z;cases z
     ·have z2:=un.frzs b ob _ z;obtain⟨e1,_⟩:=hok b _ z;obtain⟨e2,_⟩:=hok' b _ z2;rw[e] at e1;cases e1;exact e2
 cases hk:K.lookup a with
 | some o=>
  have e:=KX a o hk;rw[ha] at e;cases e;refine core (λ_=>none) (λ_=>.inl rfl) (.inr ⟨_,vs.toArray,_,hk,rfl,rfl,rfl,by rw[List.size_toArray,lenV];exact hl,by simpa using rv⟩) (λb u z=>by have z':(none:Option HO)=some u:=z;cases z') (λb z=>Je rfl z) λz=>Je rfl z
 | none=>
  refine core (λb=>if b=a then some (.frz {cls:=.type "list",data:=.seq vs.toArray} (.lst (ns.map V.int))) else none) (λb=>?_) (.inl (.inr ⟨{cls:=.type "list",data:=.seq vs.toArray},if_pos rfl⟩)) (λb u z=>?_) (λb z=>?_) λ_=>hk
  ·by_cases hb:b=a
   ·exact .inr ⟨_,_,if_pos hb⟩
   ·exact .inl (if_neg hb)
  ·by_cases hb:b=a
   ·have z':=(if_pos hb).symm.trans z;cases z';subst hb;exact⟨ha,by rw[List.length_map];exact hl,vs,_,rv,ha⟩
   ·have z':=(if_neg hb).symm.trans z;cases z'
  ·by_cases hb:b=a
   ·exact hb
   ·exact Je (if_neg hb) z
end L2
namespace L2
open PySem PySem.Spec PyProof.Rows
noncomputable abbrev KOf {K:QA}{h:Heap}(_:K.In h):QA:=K
theorem zpX {l:PySem.W.OpenLaw}{n:Nat}{YP:World->Heap->Prop}{d:DefRec}{K:Params->QA}{CX:World->CXT}{sp:World->Sp}{x:Str}
  (hn:l.most=some n) (hn2:n<=sizeLine) (hdf:d.params.defaults=[]) (hr:Room k callerA)
  (hY:∀(w:World) (h:Heap),YP w h->(K w.params).In h)
  (F:∀(w:World) (mg:QB) (fa:Addr) (h:Heap),(K w.params).In h->h.Ns mainGlobals mg->mg d.name=some (.ref fa)->
   ∃fd:FuncData,(∀(s:Shared) (u:Value),BindsTo s fd ⟨[u],[]⟩ [(x,u)])/\
    ∀base:Heap,(K w.params).In base->base.Ns mainGlobals mg->FnOk l.prog w (K w.params) mg base (CX w) k fa fd [x] (sp w))
  (hsp:∀(w:World) (H:Hp) (a:Addr) (ns:List Int),ns.length<=n->Only H->SqL (K w.params) H a (ns.map V.int)->sp w [.ref a] H (λv _=>v=.bl true) λ_ _ _=>False)
  (hCX:∀(w:World) (H:Hp) (s:Shared) (e:Value) (s':Shared),CX w [] H s (λ_ _ _=>False) e s'->False):
  PySem.W.WalkO q loose XP YP l.row.toRowW d [] (λf vs=>PySem.call f vs):=by
 refine Att.attach_call hn hdf λw s₀ s₁ mg mb fa o pm cd doc a vs ns G Y ho hd hcd hmg hobj hints hlen hg=>?_;have KX:=hY w _ Y;obtain⟨fd,hb,hF⟩:=F w mg fa _ KX G.T.g hmg;exact zn2 KX G.T.g G.T.b G.T.builtins G.T.nolimit hg hobj hints (Ji hlen hn2) hr hF hb (λH hO hS=>hsp w H a ns hlen hO hS) λH e s'=>hCX w H s₁ e s'
end L2
namespace L2
open PySem PySem.Spec PyProof.Rows
noncomputable abbrev CX0:CXT:=λ_ _ _ _ _ _=>False
noncomputable abbrev E0:XK:=λ_ _ _=>False
theorem zny:zbp CX0 X E0:=λ_ _ _ _ _ _ _ h=>h.elim
structure Fun (K:QA)(x qual:Str)(st:Stmt)(f:Addr)(fd:FuncData):Prop where
 ex:∃(oc:Value) (od:QM) (kV doc pm:Value) (an:QM) (cdv ct:Value) (osl:QJ),
  fd=PySem.W.fnOf x qual (z8 st) (zH st) (zq st) .none kV doc pm an cdv ct/\K.lookup f=some ⟨oc,od,.func fd,osl⟩/\PySem.W.codeIn K cdv qual=true
 kp:PySem.W.keepIn K (.ref f)=true
section
variable {P:Program}{w:World}{K:QA}{mg:QB}{base:Heap}
theorem Fun.ok {x qual:Str}{st:Stmt}{f:Addr}{fd:FuncData}{N ps:QP}{k:Nat}{sp:Sp}(F:Fun K x qual st f fd)(S:zaG N ps (zq st))(len:∀vs H Q E,sp vs H Q E->vs.length=ps.length)
  (hbody:∀(cdv:Value) (A:Around) (outer:List Env) (s:Shared) (H:Hp) (vs:QQ) (Q:VK) (E:XK),Room k (A.deeper (envOfC qual (zq st) s.heap.objs.size f cdv))->sp vs H Q E->
   ∃t,PSs (cxOf CX0 P w K mg base N qual (zq st) f cdv A outer s H E).nox (zH st) t/\t {nx:=λ_ H'=>Q .non H',rt:=Q} (start N vs) H):FnOk P w K mg base CX0 (k+1) f fd ps sp:=by
 obtain⟨oc,od,kV,doc,pm,an,cdv,ct,osl,rfl,lk,hcd⟩:=F.ex;refine zqJ lk hcd S len λA outer s H vs Q E hr hsp=>?_;obtain⟨t,h,q⟩:=hbody cdv A outer s H vs Q E hr hsp;exact⟨t,h.nox,q⟩
theorem Fun.binds {x qual:Str}{st:Stmt}{f:Addr}{fd:FuncData}{ps:QP}(F:Fun K x qual st f fd)
  (h:∀(kV doc pm:Value) (an:QM) (cdv ct:Value) (us:QN),us.length=ps.length->bindArgs (PySem.W.fnOf x qual (z8 st) (zH st) (zq st) .none kV doc pm an cdv ct) ⟨us,[]⟩=pure (ps.zip us)):Binds K fd ps []:=by
 obtain⟨oc,od,kV,doc,pm,an,cdv,ct,osl,rfl,lk,hcd⟩:=F.ex;exact .all (h kV doc pm an cdv ct)
theorem zbJ {x qual:Str}{st:Stmt}{f:Addr}{oc:Value}{od an:QM}{osl:QJ}{kV doc pm cdv ct:Value}(l:K.lookup f=some ⟨oc,od,.func (PySem.W.fnOf x qual (z8 st) (zH st) (zq st) .none kV doc pm an cdv ct),osl⟩)
  (c:PySem.W.codeIn K cdv qual=true) (k:PySem.W.keepIn K (.ref f)=true):Fun K x qual st f (PySem.W.fnOf x qual (z8 st) (zH st) (zq st) .none kV doc pm an cdv ct):=⟨⟨oc,od,kV,doc,pm,an,cdv,ct,osl,rfl,l,c⟩,k⟩
end
theorem zfd (hr:Room k A):A.units+1 < cLine:=Nat.lt_of_le_of_lt (Nat.add_le_add_left (by decide:1<=64) _) hr.units
theorem zcA {n:Nat}(h:n<=1000):n < sizeLine:=Nat.lt_of_le_of_lt h (by decide)
section
variable {X:Cx}
theorem pv (i:Nat){x:Str}{pos:Pos}(hN:X.N[i]? =some x:=by rfl)(hv:Vis X.env.scope x:=by first | exact Or.inl rfl | exact Or.inr (Or.inl rfl) | exact Or.inr (Or.inr rfl))(hd:(x==("__debug__" :Str))=false:=by decide)
  (hcd:(x==("__classdict__" :Str))=false:=by decide):PE X (.Name x pos) (tVar i):=zrI hN hv hd hcd
end
noncomputable def Same (H H':Hp):Prop:=∀b o,H b=some o->H' b=some o
theorem Same.refl (H:Hp):Same H H:=λ_ _ h=>h
theorem Same.trans (a:Same H H1)(b:Same H1 H2):Same H H2:=λc o h=>b c o (a c o h)
theorem Same.free (e:Same H H'){l:Addr}(h:H' l=Option.none):H l=Option.none:=by
 cases q:H l with
 | none=>rfl
 | some o=>rw[e l o q] at h;cases h
theorem Same.seq {K:QA}{H H':Hp}{a:Addr}{xs:QQ}(e:Same H H')(h:SqL K H a xs):SqL K H' a xs:=by
 rcases h with (h | ⟨o,h⟩) | h
 ·exact .inl (.inl (e _ _ h))
 ·exact .inl (.inr ⟨o,e _ _ h⟩)
 ·exact .inr h
end L2
namespace L2
open PySem PySem.Spec PyProof.Rows
section
variable {κ:Type} [DecidableEq κ]
noncomputable def valV (kvs:List (κ ×V))(k:κ):Option V:=(kvs.find? λkv=>decide (kv.1=k)).map (·.2)
noncomputable def putK (kvs:List (κ ×V))(k:κ)(v:V):List (κ ×V):=
 if (kvs.any λkv=>decide (kv.1=k))=true then kvs.map (λkv=>if kv.1=k then(kv.1,v) else kv) else kvs++ [(k,v)]
theorem zY {p:κ ×V}{r:List (κ ×V)}{k:κ}(e:p.1=k):valV (p::r) k=some p.2:=by simp[valV,List.find?_cons,e]
theorem zaa {p:κ ×V}{r:List (κ ×V)}{k:κ}(e:¬p.1=k):valV (p::r) k=valV r k:=by simp[valV,List.find?_cons,e]
theorem za7 (k:κ):∀kvs:List (κ ×V),(kvs.any λkv=>decide (kv.1=k))=(valV kvs k).isSome
 | []=>rfl
 | p::r=>by
  rw[List.any_cons];by_cases e:p.1=k
  ·simp only[zY e,decide_eq_true e,Bool.true_or,Option.isSome_some]
  ·rw[zaa e,decide_eq_false e,Bool.false_or];exact za7 k r
theorem ziF (k j:κ)(y:V):∀kvs:List (κ ×V),valV (kvs.map λkv=>if kv.1=k then(kv.1,y) else kv) j=(valV kvs j).map λx=>if j=k then y else x
 | []=>rfl
 | p::r=>by
  have ih:=ziF k j y r;rw[List.map_cons];by_cases h:p.1=k
  ·rw[if_pos h];by_cases e:p.1=j
   ·rw[zY (p:=(p.1,y)) e,zY e,Option.map_some,if_pos (e.symm.trans h)]
   ·rw[zaa (p:=(p.1,y)) e,zaa e,ih]
  ·rw[if_neg h];by_cases e:p.1=j
   ·rw[zY (p:=p) e,zY e,Option.map_some,if_neg (λz=>h (e.trans z))]
   ·rw[zaa (p:=p) e,zaa e,ih]
theorem zgy (k j:κ)(y:V):∀kvs:List (κ ×V),valV kvs k=none->valV (kvs++ [(k,y)]) j=if j=k then some y else valV kvs j
 | [],_=>by
  by_cases e:k=j
  ·rw[if_pos e.symm];exact zY (p:=(k,y)) e
  ·rw[if_neg (λz=>e z.symm)];exact zaa (p:=(k,y)) e
 | p::r,hn=>by
  rw[List.cons_append];have hk:¬p.1=k:=λz=>by rw[zY z] at hn;cases hn
  rw[zaa hk] at hn;have ih:=zgy k j y r hn;by_cases e:p.1=j
  ·rw[zY e,zY e,if_neg (λz=>hk (e.trans z))]
  ·rw[zaa e,zaa e,ih]
theorem zit (kvs:List (κ ×V))(k j:κ)(y:V):valV (putK kvs k y) j=if j=k then some y else valV kvs j:=by
 unfold putK;by_cases a:(kvs.any λkv=>decide (kv.1=k))=true
 ·rw[if_pos a,ziF];rw[za7] at a;by_cases e:j=k
  ·obtain⟨x,hx⟩:=Option.isSome_iff_exists.mp a;rw[if_pos e,e,hx,Option.map_some,if_pos rfl]
  ·rw[if_neg e];cases valV kvs j with
   | none=>rfl
   | some x=>rw[Option.map_some,if_neg e]
 ·rw[if_neg a];refine zgy k j y kvs ?_;rw[za7] at a;cases q:valV kvs k with
  | none=>rfl
  | some x=>rw[q] at a;exact(a rfl).elim
theorem zem (kvs:List (κ ×V))(k:κ)(v:V):(putK kvs k v).length<=kvs.length+1:=by
 unfold putK;split
 ·rw[List.length_map];omega
 ·rw[List.length_append,List.length_cons,List.length_nil];omega
theorem zdo {kvs:List (κ ×V)}{k:κ}(v:V)(h:valV kvs k=none):putK kvs k v=kvs++ [(k,v)]:=by unfold putK;rw[za7,h];exact if_neg (by decide)
theorem RelO.isSome_eq (r:RelO o u):o.isSome=u.isSome:=by
 cases o with
 | none=>cases u with
  | none=>rfl
  | some _=>exact(show False from r).elim
 | some _=>cases u with
  | none=>exact(show False from r).elim
  | some _=>rfl
theorem KV.val (r:KV kvs vs)(k:κ):RelO (valV kvs k) (valueAt vs k):=by
 unfold KV at r
 induction r with
 | nil=>exact True.intro
 | @cons p q ps qs h t ih=>
  obtain⟨h1,h2⟩:=h;by_cases e:p.1=k
  ·have e':q.1=k:=h1.symm.trans e;have b:valueAt (q::qs) k=some q.2:=by simp[valueAt,List.find?_cons,e']
   rw[zY e,b];exact h2
  ·have e':¬q.1=k:=λz=>e (h1.trans z);have b:valueAt (q::qs) k=valueAt qs k:=by simp[valueAt,List.find?_cons,e']
   rw[zaa e,b];exact ih
theorem KV.any (r:KV kvs vs)(k:κ):(kvs.any λkv=>decide (kv.1=k))=vs.any λkv=>decide (kv.1=k):=by
 unfold KV at r
 induction r with
 | nil=>rfl
 | cons h t ih=>rw[List.any_cons,List.any_cons,ih,h.1]
theorem KV.repl (r:KV kvs vs)(k:κ)(ry:RelV y u):
  KV (kvs.map λkv=>if kv.1=k then(kv.1,y) else kv) (vs.map λkv=>if kv.1=k then(kv.1,u) else kv):=by
 unfold KV at r ⊢
 induction r with
 | nil=>exact .nil
 | @cons p q ps qs h t ih=>
  rw[List.map_cons,List.map_cons];refine .cons ?_ ih;obtain⟨h1,h2⟩:=h;by_cases e:p.1=k
  ·rw[if_pos e,if_pos (h1.symm.trans e)];exact⟨h1,ry⟩
  ·rw[if_neg e,if_neg (λz=>e (h1.trans z))];exact⟨h1,h2⟩
theorem KV.put (r:KV kvs vs)(k:κ)(ry:RelV y u):KV (putK kvs k y) (stored vs k u):=by
 unfold putK stored;rw[r.any k];by_cases e:(vs.any λkv=>decide (kv.1=k))=true
 ·rw[if_pos e,if_pos e];exact r.repl k ry
 ·rw[if_neg e,if_neg e];exact Paired.snoc r ⟨rfl,ry⟩
theorem KV.length (r:KV kvs vs):kvs.length=vs.length:=Paired.length r
end
theorem zia (r:RelV (kV k) u):(z7 P w).is k u=true:=by
 cases k with
 | inl i=>obtain⟨t,e⟩:=(show∃t,u=Value.int i t from r);subst e;exact ziD P w i t
 | inr x=>obtain⟨t,e⟩:=(show∃t,u=Value.str x t from r);subst e;exact zij P w x t
theorem zgt:∀{ks:List Key} {us:QN},Vals (ks.map kV) us->ItemsAre (z7 P w) ks us
 | [],_,r=>by rw[List.map_nil] at r;cases r;exact .nil
 | k::ks,_,r=>by
  rw[List.map_cons] at r;cases r with
  | cons h t=>exact .cons (zia h) (zgt t)
noncomputable abbrev KT (H:Hp):List (List Key ×V)->List (List Key ×Addr ×Value)->Prop:=Paired λp q=>p.1=q.1/\H q.2.1=some (.tup (p.1.map kV))/\RelV p.2 q.2.2
theorem KT.val (r:KT H kvs xs)(k:List Key):RelO (valV kvs k) ((atKey xs k).map (·.2)):=by
 induction r with
 | nil=>exact True.intro
 | @cons p q ps qs h t ih=>
  obtain⟨h1,_,h2⟩:=h;by_cases e:p.1=k
  ·have e':q.1=k:=h1.symm.trans e;have b:atKey (q::qs) k=some q.2:=by simp[atKey,List.find?_cons,e']
   rw[zY e,b];exact h2
  ·have e':¬q.1=k:=λz=>e (h1.trans z);have b:atKey (q::qs) k=atKey qs k:=by simp[atKey,List.find?_cons,e']
   rw[zaa e,b];exact ih
theorem KT.repl (r:KT H kvs xs)(k:List Key)(ry:RelV y u):
  KT H (kvs.map λkv=>if kv.1=k then(kv.1,y) else kv) (xs.map (putAt k u)):=by
 induction r with
 | nil=>exact .nil
 | @cons p q ps qs h t ih=>
  rw[List.map_cons,List.map_cons];refine .cons ?_ ih;obtain⟨h1,h2,h3⟩:=h;unfold putAt;by_cases e:p.1=k
  ·rw[if_pos e,if_pos (h1.symm.trans e)];exact⟨h1,h2,ry⟩
  ·rw[if_neg e,if_neg (λz=>e (h1.trans z))];exact⟨h1,h2,h3⟩
theorem KT.put (r:KT H kvs xs)(k:List Key){b:Addr}(hb:H b=some (.tup (k.map kV)))(ry:RelV y u):
  KT H (putK kvs k y) (storedH xs k b u):=by
 have e:(kvs.any λkv=>decide (kv.1=k))=(atKey xs k).isSome:=by rw[za7,(r.val k).isSome_eq,Option.isSome_map]
 unfold putK storedH;rw[e];by_cases q:(atKey xs k).isSome=true
 ·rw[if_pos q,if_pos q];exact r.repl k ry
 ·rw[if_neg q,if_neg q];exact Paired.snoc r ⟨rfl,hb,ry⟩
theorem KT.keeps {H':Hp}(r:KT H kvs xs)(ht:∀b ys,H b=some (.tup ys)->H' b=some (.tup ys)):KT H' kvs xs:=
 Paired.mapP r λ_ _ z=>⟨z.1,ht _ _ z.2.1,z.2.2⟩
section
variable {P:Program}{w:World}{H:Hp}{h:Heap}{a:Addr}
theorem zqN (ok:HOk P w H h)(e:Rd H a u):zF P w H h a u:=e.ok ok
theorem ziq {kvs:QG}(ok:HOk P w H h)(e:Rd H a (.dK kvs)):kvs.length<=sizeLine/\(a==sysModules)=false/\∃vs,KV kvs vs/\h.DictOf (z7 P w) a vs:=
 show zF P w H h a (.dK kvs) from zqN ok e
theorem ztv {kvs:QG}(ok:HOk P w H h)(e:H a=some (.dK kvs)):kvs.length<=sizeLine/\(a==sysModules)=false/\∃vs,KV kvs vs/\h.DictOf (z7 P w) a vs:=ziq ok (.inl e)
theorem zeX {ks:List Key}(ok:HOk P w H h)(e:H a=some (.tup (ks.map kV))):(tupleKind (z7 P w)).is h ks a:=by obtain⟨_,its,r,o,h1,h2,n,h3⟩:=(show zF P w H h a (.tup (ks.map kV)) from ok a _ e);exact⟨o,its.toArray,n,h1,h2,h3,by simpa using zgt r⟩
theorem zis {kvs:List (List Key ×V)}(ok:HOk P w H h)(e:Rd H a (.dT kvs)):kvs.length<=sizeLine/\(a==sysModules)=false/\
  ∃xs,KT H kvs xs/\h.DictOfH (tupleKind (z7 P w)) a xs:=by
 obtain⟨z,y,xs,r,o,es,ep,h1,h2,h3,h4,h5⟩:=(show zF P w H h a (.dT kvs) from zqN ok e);refine⟨z,y,xs,r,o,es,ep,h1,h2,h3,h4,λx hx=>?_,h5⟩;have all:∀{l:List (List Key ×V)} {m:List (List Key ×Addr ×Value)},KT H l m->∀x∈m,(tupleKind (z7 P w)).is h x.1 x.2.1:=by
  intro l m q
  induction q with
  | nil=>intro x hx;exact nomatch hx
  | @cons p q ps qs hq t ih=>
   intro x hx;rcases List.mem_cons.mp hx with e | hx
   ·subst e;exact zeX ok (by rw[<-hq.1];exact hq.2.1)
   ·exact ih x hx
 exact all r x hx
theorem ztl {kvs:List (List Key ×V)}(ok:HOk P w H h)(e:H a=some (.dT kvs)):kvs.length<=sizeLine/\(a==sysModules)=false/\
  ∃xs,KT H kvs xs/\h.DictOfH (tupleKind (z7 P w)) a xs:=zis ok (.inl e)
end
noncomputable def DGet (H:Hp)(a:Addr)(y:V)(r:Option V):Prop:=
 (∃kvs k,Rd H a (.dK kvs)/\y=kV k/\r=valV kvs k)\/∃kvs k b,Rd H a (.dT kvs)/\y=.ref b/\H b=some (.tup (k.map kV))/\r=valV kvs k
noncomputable def DPut (H:Hp)(a:Addr)(y v:V)(H':Hp):Prop:=
 (∃kvs k,H a=some (.dK kvs)/\y=kV k/\kvs.length < sizeLine/\H'=upd H a (.dK (putK kvs k v)))\/
 ∃kvs k b,H a=some (.dT kvs)/\y=.ref b/\H b=some (.tup (k.map kV))/\kvs.length < sizeLine/\H'=upd H a (.dT (putK kvs k v))
theorem DGet.k {H:Hp}{a:Addr}{kvs:QG}{k:Key}(e:H a=some (.dK kvs)):DGet H a (kV k) (valV kvs k):=.inl ⟨kvs,k,.inl e,rfl,rfl⟩
theorem DPut.k {H:Hp}{a:Addr}{kvs:QG}{k:Key}{v:V}(e:H a=some (.dK kvs))(hl:kvs.length < sizeLine):DPut H a (kV k) v (upd H a (.dK (putK kvs k v))):=.inl ⟨kvs,k,e,rfl,hl,rfl⟩
section
variable {X:Cx}{pins:QE}{σ:St}{H:Hp}{s:Shared}{a:Addr}{y v:V}{u r:Value}{o:Option V}{A:Around}{E:QC}
theorem Inv.big (I:Inv X pins σ H s):sysModules < s.heap.objs.size:=by have h:mainGlobals < s.heap.objs.size:=(I.mod.glob.keeps I.bk).lt;exact Nat.lt_trans (by decide) h
noncomputable abbrev _root_.Jq:=@Option.map_eq_some_iff
theorem zlu {Q:QC}(hu:A.units+1 < cLine)(I:Inv X pins σ H s)(g:DGet H a y (some v))(ry:RelV y u)(h:∀w' s',Inv X pins σ H s'->RelV v w'->Q w' s'):
  wpAny (model X.prog X.w) A (getItem (.ref a) u) Q E s:=by
 rcases g with ⟨kvs,k,e,ey,l⟩ | ⟨kvs,k,b,e,ey,eb,l⟩
 ·subst ey;obtain⟨z,hd,vs,rel,dd⟩:=ziq I.hok e;obtain⟨w',hw,rw'⟩:=RelO.some_of (v:=v) (o:=valueAt vs k) (by rw[l];exact rel.val k);exact wpAny_getItem_of (zia ry) dd.mapOf hw (h w' _ (I.tok _) rw')
 ·subst ey;cases (show u=Value.ref b from ry);obtain⟨z,hd,xs,rel,dd⟩:=zis I.hok e;obtain⟨w',hw,rw'⟩:=RelO.some_of (v:=v) (o:=(atKey xs k).map (·.2)) (by rw[l];exact rel.val k);obtain⟨p,hp,hp2⟩:=Jq.mp hw;refine wpAny_getItem_heap (tupleKind_room_in1 hu) (zeX I.hok eb) dd hp ?_;rw[hp2];exact h w' _ (I.tok _) rw'
theorem d_in {Q:QC}(hu:A.units+1 < cLine)(I:Inv X pins σ H s)(g:DGet H a y o)(ry:RelV y u)(h:∀s',Inv X pins σ H s'->Q (.bool o.isSome) s'):
  wpAny (model X.prog X.w) A (compareOp .In u (.ref a)) Q E s:=by
 rcases g with ⟨kvs,k,e,ey,l⟩ | ⟨kvs,k,b,e,ey,eb,l⟩
 ·subst ey;obtain⟨z,hd,vs,rel,dd⟩:=ziq I.hok e;refine wpAny_in_of (zia ry) hd dd.mapOf ?_;rw[<-(rel.val k).isSome_eq,<-l];exact h _ (I.tok _)
 ·subst ey;cases (show u=Value.ref b from ry);obtain⟨z,hd,xs,rel,dd⟩:=zis I.hok e;refine wpAny_in_heap (tupleKind_room_in1 hu) (zeX I.hok eb) hd dd ?_;have q:=(rel.val k).isSome_eq;rw[Option.isSome_map] at q;rw[<-q,<-l];exact h _ (I.tok _)
theorem zpb {Q:QC}(hu:A.units+1 < cLine)(I:Inv X pins σ H s)(g:DGet H a y o)(ry:RelV y u)(h:∀s',Inv X pins σ H s'->Q (.bool (!o.isSome)) s'):
  wpAny (model X.prog X.w) A (compareOp .NotIn u (.ref a)) Q E s:=by
 rcases g with ⟨kvs,k,e,ey,l⟩ | ⟨kvs,k,b,e,ey,eb,l⟩
 ·subst ey;obtain⟨z,hd,vs,rel,dd⟩:=ziq I.hok e;refine wpAny_notIn_of (zia ry) hd dd.mapOf ?_;rw[<-(rel.val k).isSome_eq,<-l];exact h _ (I.tok _)
 ·subst ey;cases (show u=Value.ref b from ry);obtain⟨z,hd,xs,rel,dd⟩:=zis I.hok e;refine wpAny_notIn_heap (tupleKind_room_in1 hu) (zeX I.hok eb) hd dd ?_;have q:=(rel.val k).isSome_eq;rw[Option.isSome_map] at q;rw[<-q,<-l];exact h _ (I.tok _)
theorem zkK {t':Nat}(I:Inv X pins σ H s)(mu:Mut (H a))(hs:Heap.SameBut a s.heap h')(he:∃q,h'.get? a=some q)(new:zF X.prog X.w (upd H a ob) h' a ob):
  Inv X pins σ (upd H a ob) {s with heap:=h',toks:=t'}:=
 I.write (x:=a) (e:=a) mu (.inl rfl) (λb q hb z=>(hs.2 b hb).trans z) he new
theorem zr8 {h':Heap}{kvs:QG}(z:kvs.length<=sizeLine)(hd:(a==sysModules)=false)(rel:KV kvs vs)(dd:h'.DictOf (z7 P w) a vs):
  zF P w H' h' a (.dK kvs):=⟨z,hd,vs,rel,dd⟩
theorem zlm {Q:QD}(hu:A.units+1 < cLine)(I:Inv X pins σ H s)(g:DPut H a y v H')(ry:RelV y u)(rv:RelV v r)(h:∀s',Inv X pins σ H' s'->Q () s'):
  wpAny (model X.prog X.w) A (setItem (.ref a) u r) Q E s:=by
 rcases g with ⟨kvs,k,e,ey,l,eH⟩ | ⟨kvs,k,b,e,ey,eb,l,eH⟩
 ·subst ey eH;obtain⟨z,hd,vs,rel,dd⟩:=ztv I.hok e;have hz:vs.length<=sizeLine:=by rw[<-rel.length];exact z
  have hl:(putK kvs k v).length<=sizeLine:=by have:=zem kvs k v;omega
  refine wpAny_setItem_pairs (hsz:=hz) (zia ry) dd λh' dd' hs=>h _ ?_;have he:∃q,h'.get? a=some q:=let ⟨q,_,_,hq,_⟩:=dd';⟨q,hq⟩;exact zkK I (by rw[e];exact True.intro) hs he (zr8 hl hd (rel.put k rv) dd')
 ·subst ey eH;cases (show u=Value.ref b from ry);obtain⟨z,hd,xs,rel,dd⟩:=ztl I.hok e;have hz:xs.length<=sizeLine:=by rw[<-Paired.length rel];exact z
  have hl:(putK kvs k v).length<=sizeLine:=by have:=zem kvs k v;omega
  refine wpAny_setItem_heap (hsz:=hz) (tupleKind_room_in1 hu) (zeX I.hok eb) dd λh' dd' hs=>h _ ?_;obtain⟨q,es,ep,hq,h2,h3,h4,_,h5⟩:=dd';refine zkK I (by rw[e];exact True.intro) hs ⟨q,hq⟩ ⟨hl,hd,_,(rel.put k eb rv).keeps λc ys ec=>?_,q,es,ep,hq,h2,h3,h4,h5⟩;rw[zg (zal ec e (λz=>nomatch z))];exact ec
end
section
variable {X:Cx}{pins:QE}{σ:St}{H:Hp}{s:Shared}{a:Addr}{kvs:QG}{k:Key}{u:Value}{A:Around}{E:QC}
end
noncomputable def NoSl (i:Expr):Prop:=∀ov iv,subscripted i false ov iv=operate [ov,iv] (getItem ov iv)
theorem zpJ {pos:Pos}{T id:String}
  (hl:typeLookup (.type T) "__getitem__" =pure (some (.builtin id))) (hs:NoSl slice)
  (h:wpAny (model prog w) A (eval value env) (λo s₁=>wpAny (model prog w) A (eval slice env) (λi s₂=>s₂.TypeIs o T/\wpAny (model prog w) A (getItem o i) Q E s₂) E s₁) E s):
  wpAny (model prog w) A (eval (.Subscript value slice pos) env) Q E s:=by
 refine Subscript_ (wpAny_mono h (λo s₁ h₁=>wpAny_mono h₁ (λi s₂ h₂=>?_) λ_ _ x=>x) λ_ _ x=>x);obtain⟨hT,h₂⟩:=h₂;unfold subscriptTail;refine Ja ?_;rw[getitemInPython_of_ne hT.not_modules];refine Ja (wpAny_specialOf hT hl ?_);have fin:wpAny (model prog w) A (subscripted slice false o i) (λr s₃=>wpAny (model prog w) A (letTemporaryGo value o r >>=λ_=>pure r) Q E s₃) E s₂:=by rw[hs o i];exact wpAny_operating (wpAny_mono h₂ (λr s₃ h₃=>Ja (wpAny_letTemporaryGo (wpAny_pure h₃))) λ_ _ x=>x)
 first
  | exact wpAny_pure (Ja fin)
  | exact Ja (wpAny_pure (Ja fin))
  | exact Ja fin
theorem zix (I:Inv X pins σ H s)(g:DGet H a y o):s.TypeIs (.ref a) "dict" :=by
 rcases g with ⟨kvs,k,e,_,_⟩ | ⟨kvs,k,b,e,_,_,_⟩
 ·obtain⟨_,_,vs,_,dd⟩:=ziq I.hok e;exact dd.typeIs
 ·obtain⟨_,_,xs,_,dd⟩:=zis I.hok e;exact dd.typeIs
noncomputable def zsZ (td ty:TE):TE:=fun σ H Q=>td σ H λx H1=>ty σ H1 λy H2=>∃a v,x=.ref a/\DGet H2 a y (some v)/\Q v H2
noncomputable def tDIn (ty td:TE):TE:=fun σ H Q=>ty σ H λy H1=>td σ H1 λx H2=>∃a o,x=.ref a/\DGet H2 a y o/\Q (.bl o.isSome) H2
noncomputable def zoO (ty td:TE):TE:=fun σ H Q=>ty σ H λy H1=>td σ H1 λx H2=>∃a o,x=.ref a/\DGet H2 a y o/\Q (.bl (!o.isSome)) H2
noncomputable def ztt (td ty tv:TE):TS:=λD σ H=>tv σ H λv H1=>td σ H1 λx H2=>ty σ H2 λy H3=>∃a H4,x=.ref a/\DPut H3 a y v H4/\D.nx σ H4
section
variable {X:Cx}{o i e value:Expr}{pos pos' tpos:Pos}{td ty tv:TE}
theorem zc1 (hu:X.A.units+1 < cLine)(ho:PE X o td)(hi:PE X i ty)(hs:NoSl i):PE X (.Subscript o i pos) (zsZ td ty):=by intro pins s σ H Q I h;refine zpJ PySem.F.slot_dict_getitem.lookup hs (thn (ho pins s σ H _ I h) λu s1 ⟨x,H1,I1,rx,q1⟩=>thn (hi pins s1 σ H1 _ I1 q1) λiv s2 ⟨y,H2,I2,ry,a,v,ex,g,q2⟩=>?_);subst ex;obtain rfl:u=Value.ref a:=rx;exact⟨zix I2 g,zlu hu I2 g ry λw' s3 I3 rw'=>⟨v,H2,I3,rw',q2⟩⟩
theorem znp (hu:X.A.units+1 < cLine)(hi:PE X i ty)(ho:PE X o td):PC X .In i o (tDIn ty td):=by intro pins s σ H Q I h;refine thn (hi pins s σ H _ I h) λiv s1 ⟨y,H1,I1,ry,q1⟩=>thn (ho pins s1 σ H1 _ I1 q1) λu s2 ⟨x,H2,I2,rx,a,ov,ex,g,q2⟩=>?_;subst ex;obtain rfl:u=Value.ref a:=rx;exact d_in hu I2 g ry λs3 I3=>⟨.bl ov.isSome,H2,I3,rfl,q2⟩
theorem zgG (hu:X.A.units+1 < cLine)(hi:PE X i ty)(ho:PE X o td):PC X .NotIn i o (zoO ty td):=by intro pins s σ H Q I h;refine thn (hi pins s σ H _ I h) λiv s1 ⟨y,H1,I1,ry,q1⟩=>thn (ho pins s1 σ H1 _ I1 q1) λu s2 ⟨x,H2,I2,rx,a,ov,ex,g,q2⟩=>?_;subst ex;obtain rfl:u=Value.ref a:=rx;exact zpb hu I2 g ry λs3 I3=>⟨.bl (!ov.isSome),H2,I3,rfl,q2⟩
theorem zhc (hu:X.A.units+1 < cLine)(ho:PE X o td)(hi:PE X i ty)(hv:PE X value tv)(hs:swapsWith value (some (.Subscript o i pos')) pos.line X.env=pure false):
  PS X (.Assign [.Subscript o i pos'] value pos) (ztt td ty tv):=by
 intro pins s σ H D I h;refine wpAny_Assign_Subscript (thn (hv pins s σ H _ I h) λr s1 ⟨v,H1,I1,rv,q1⟩=>thn (ho pins s1 σ H1 _ I1 q1) λu s2 ⟨x,H2,I2,rx,q2⟩=>thn (hi pins s2 σ H2 _ I2 q2) λiv s3 ⟨y,H3,I3,ry,a,H4,ex,g,q3⟩=>?_) hs;subst ex;obtain rfl:u=Value.ref a:=rx;exact zlm hu I3 g ry rv λs4 I4=>⟨σ,H4,I4,q3⟩
end
theorem zm7 (h:Heap)(hb:sysModules < h.objs.size):zF P w H (h.push {cls:=.type "dict",data:=.dict #[]}) h.objs.size (.dK []):=
 ⟨Nat.zero_le _,beq_eq_false_iff_ne.mpr (Ne.symm (Jg hb)),[],.nil,Heap.DictOf.new h⟩
noncomputable def zrm:TE:=λ_ H Q=>∀p,H p=none->Q (.ref p) (upd H p (.dK []))
section
variable {X:Cx}{pos:Pos}
theorem zmx:PE X (.Dict [] [] pos) zrm:=λpins s σ H Q I h=>
 wpAny_Dict_empty ⟨.ref s.heap.objs.size,_,I.laid (a:=s.heap.objs.size) (o:=.dK []) (t':=s.toks) (λ_ _ q=>Heap.get?_push_of_some _ q) (Jb _) (zm7 s.heap I.big),rfl,h _ (I.hok.fresh (Jb _))⟩
end
noncomputable def zmM:List (TE ×TE)->St->Hp->(List (V ×V)->Hp->Prop)->Prop
 | [],_,H,Q=>Q [] H
 | (tk,tv)::r,σ,H,Q=>tk σ H λx H1=>tv σ H1 λy H2=>zmM r σ H2 λps H3=>Q ((x,y)::ps) H3
noncomputable abbrev VV:List (V ×V)->List (Value ×Value)->Prop:=Paired λp q=>RelV p.1 q.1/\RelV p.2 q.2
noncomputable def PPs (X:Cx)(pos:Pos)(keys:List (Option Expr))(values:List Expr)(trs:List (TE ×TE)):Prop:=
 ∀(pins:QE) (s:Shared) (σ:St) (H:Hp) (Q:List (V ×V)->Hp->Prop),Inv X pins σ H s->zmM trs σ H Q->
  wpAny (model X.prog X.w) X.A (evalPairs (pairTrees keys values X.env pos)) (λvs s'=>∃ps H',Inv X pins σ H' s'/\VV ps vs/\Q ps H') X.xe s
structure M1 (X:Cx)(o:Expr)(m:Str)(apos:Pos)(e:Expr)(cpos:Pos):Prop where
 base:attributeBase o m X.env (eval o X.env)=eval o X.env
 few:((backTo cpos (starEach [e] X.env)).all (λx=>!x.1) && (backToKw cpos (keywordEach [] X.env)).all (λx=>x.1.isSome)
  && decide (([e]:List Expr).length+([]:List Keyword).length+(if ([]:List Keyword).isEmpty then 0 else 1) < 30))=true
 line:(apos.endLine==cpos.line)=true
 trees:backTo cpos (starEach [e] X.env)=[(false,eval e X.env)]
structure M2 (X:Cx)(o:Expr)(m:Str)(apos:Pos)(e f:Expr)(cpos:Pos):Prop where
 base:attributeBase o m X.env (eval o X.env)=eval o X.env
 few:((backTo cpos (starEach [e,f] X.env)).all (λx=>!x.1) && (backToKw cpos (keywordEach [] X.env)).all (λx=>x.1.isSome)
  && decide (([e,f]:List Expr).length+([]:List Keyword).length+(if ([]:List Keyword).isEmpty then 0 else 1) < 30))=true
 line:(apos.endLine==cpos.line)=true
 trees:backTo cpos (starEach [e,f] X.env)=[(false,eval e X.env),(false,eval f X.env)]
section
variable {X:Cx}{pins:QE}{σ:St}{H:Hp}{s:Shared}{a:Addr}{y d:V}{u r:Value}{o:Option V}{A:Around}{E:QC}
end
section
variable {X:Cx}{o e f:Expr}{apos cpos:Pos}{td ty tx:TE}
end
section
variable {X:Cx}{pins:QE}{σ:St}{H:Hp}{s:Shared}{a:Addr}{kvs:QG}{A:Around}{E:QC}
end
section
variable {X:Cx}{pins:QE}{σ:St}{H:Hp}{s:Shared}{a:Addr}{y:V}{u:Value}{A:Around}{E:QC}
end
end L2
namespace Px
open PySem
noncomputable def Tb (h:Heap)(e:Addr)(cls:Value)(od:QM)(T:Addr)(fl:Value):Prop:=
 ∃oe vs oT ts,h.get? e=some oe/\oe.cls=cls/\oe.dict=od/\oe.data=.fields vs/\vs[1]? =some (.ref T)/\T≠e/\h.get? T=some oT/\oT.data=.fields ts/\ts[3]? =some fl
structure Chg (fs:QO)(e T:Addr)(h h':Heap):Prop where
 size:h.objs.size<=h'.objs.size
 keep:∀b o,h.get? b=some o->b∉fs->b≠e->b≠T->h'.get? b=some o
 slot:∀b o,h.get? b=some o->b∈fs->b≠e->b≠T->∃sl,h'.get? b=some {o with slots:=sl}
theorem zrM (o:Obj)(f:Array Value->Array Value):(Obj.mapFields f o).cls=o.cls:=Obj.cls_mapFields _ _
theorem zpM (o:Obj)(f:Array Value->Array Value):(Obj.mapFields f o).dict=o.dict:=by obtain⟨c,d,dt,sl⟩:=o;cases dt <;> rfl
section
variable {M:Model}{A:Around}{E:QC}{s:Shared}{base:Heap}{env:Env}{outer:List Env}{L e T:Addr}
theorem entry {oe:Obj}{vs:Array Value}{Q:QD}(hfr:A.frames=some (env::outer))
  (hl:s.heap.FunFrames base (env::outer)) (hf:env.frame=some L)
  (he:s.heap.get? e=some oe) (hd:oe.data=.fields vs) (hsz:1 < vs.size)
  (h:∀h' T',s.heap.objs.size<=T'->Tb h' e oe.cls oe.dict T' (rawInt L)->Chg ((env::outer).filterMap (·.frame)) e T' s.heap h'->Q () {s with heap:=h'}):
  wpAny M A (do
   let a<-frameOf env
   let pl<-entryPlaceOf L hadNext
   let b<-EntryCells.newEntry head a .none (rawInt L) .none pl
   setField (.ref e) 1 b) Q E s:=by
 have nfr:e∉(env::outer).filterMap (·.frame):=λhm=>by obtain⟨_,o,ho,hnf⟩:=hl.mem hm;have z:oe=o:=Option.some.inj (he.symm.trans ho);exact hnf vs (by rw[<-z];exact hd)
 refine Ja (wpAny_frameOf_fun hfr hl hf λg x=>?_);refine Ja (wpAny_entryPlaceOf λpl hp=>?_);unfold EntryCells.newEntry newFields;refine Ja (wpAny_newObj_type ?_ (hp.sizeOk5 _ _ _ _ _));have ge:g.get? e=some oe:=(x.2.1 e nfr).trans he;generalize hN:({cls:=.type "traceback",dict:=none,data:=.fields ([head,.ref L,.none,rawInt L,.none]++(if pl.isEmpty then List.replicate 6 Value.none else pl)).toArray}:Obj)=N;have nfN:N.isFreed=false:=by rw[<-hN];rfl
 have dN:∃ts,N.data=.fields ts/\ts[3]? =some (rawInt L):=by rw[<-hN];exact⟨_,rfl,by first | (simp;done) | (rcases hp with rfl | ⟨_,_,_,_,_,_,_,rfl⟩ <;> simp)⟩
 have pe:(g.push N).get? e=some oe:=Heap.get?_push_of_some N ge;have pT:(g.push N).get? g.objs.size=some N:=Heap.get?_push_size g nfN;have Te:g.objs.size≠e:=Ne.symm (Jg (Heap.lt_size ge));refine wpAny_setField pe hd hsz (h _ g.objs.size (by rw[x.1];exact Jb _) ?_ ?_)
 ·obtain⟨ts,d1,d2⟩:=dN;have dd:=Obj.data_mapFields hd (·.setIfInBounds 1 (Value.ref g.objs.size));refine⟨_,_,N,ts,Heap.get?_update_self _ pe (Obj.isFreed_of_fields dd),zrM _ _,zpM _ _,dd,by simp[hsz],Te,?_,d1,d2⟩;exact(Heap.get?_update_other _ _ (Ne.symm Te)).trans pT
 ·refine⟨?_,λb o q1 q2 q3 q4=>?_,λb o q1 q2 q3 q4=>?_⟩
  ·rw[Heap.size_after_update,Heap.size_push,x.1];exact Nat.le_succ _
  ·exact(Heap.get?_update_other _ _ (Ne.symm q3)).trans (Heap.get?_push_of_some N ((x.2.1 b q2).trans q1))
  ·obtain⟨sl,q⟩:=x.2.2 b o q1;exact⟨sl,(Heap.get?_update_other _ _ (Ne.symm q3)).trans (Heap.get?_push_of_some N q)⟩
theorem zsR {oe:Obj}{vs:Array Value}{Q:QD}(hfr:A.frames=some (env::outer))(hl:s.heap.FunFrames base (env::outer))(hf:env.frame=some L)
  (he:s.heap.get? e=some oe) (hd:oe.data=.fields vs) (h1:vs[1]? =some .none)
  (h:∀h' T',s.heap.objs.size<=T'->Tb h' e oe.cls oe.dict T' (rawInt L)->Chg ((env::outer).filterMap (·.frame)) e T' s.heap h'->Q () {s with heap:=h'}):
  wpAny M A (noteFrame (.ref e) env) Q E s:=by
 unfold noteFrame;simp only[hf];refine Ja (wpAny_field he hd h1 ?_);rw[if_neg (by decide)];exact entry hfr hl hf he hd (Array.getElem?_eq_some_iff.mp h1).1 h
theorem znu {Q:QD}(hfr:A.frames=some (env::outer))(hl:s.heap.FunFrames base (env::outer))(hf:env.frame=some L)
  (t:Tb s.heap e cls od T .none)
  (h:∀h' T',s.heap.objs.size<=T'->Tb h' e cls od T' (rawInt L)->Chg ((env::outer).filterMap (·.frame)) e T s.heap h'->Q () {s with heap:=h'}):
  wpAny M A (noteFrame (.ref e) env) Q E s:=by
 obtain⟨oe,vs,oT,ts,he,hc,ho,hd,h1,hTe,hT,hdT,h3⟩:=t;unfold noteFrame;simp only[hf];refine Ja (wpAny_field he hd h1 ?_);rw[if_pos (show(Value.ref T !=Value.none)=true from by simp)];refine Ja (wpAny_field hT hdT h3 ?_);rw[if_neg (show¬((Value.none==rawInt L)=true) from by simp[rawInt])];refine Ja (wpAny_setField hT hdT (Array.getElem?_eq_some_iff.mp h3).1 ?_);have oth:∀b,b≠T->(s.heap.update T (Obj.mapFields (·.setIfInBounds 3 Value.none))).get? b=s.heap.get? b:=λb hb=>Heap.get?_update_other _ _ (Ne.symm hb);have apart:∀b o,s.heap.get? b=some o->(∀vs,o.data≠ .fields vs)->b≠T:=λb o hb hn q=>by subst q;exact hn ts (by rw[<-Option.some.inj (hT.symm.trans hb)];exact hdT)
 refine entry (s:={s with heap:=s.heap.update T (Obj.mapFields (·.setIfInBounds 3 Value.none))}) hfr
  (hl.of_keeps λb o hb hn=>⟨o,(oth b (apart b o hb hn)).trans hb,rfl⟩) hf ((oth e (Ne.symm hTe)).trans he) hd (Array.getElem?_eq_some_iff.mp h1).1 λh' T' z1 z2 z3=>?_
 have z1':s.heap.objs.size<=T':=by rw[<-Heap.size_after_update s.heap T (Obj.mapFields (·.setIfInBounds 3 Value.none))];exact z1
 rw[hc,ho] at z2;refine h h' T' z1' z2 ⟨?_,λb o q1 q2 q3 q4=>?_,λb o q1 q2 q3 q4=>?_⟩
 ·rw[<-Heap.size_after_update s.heap T (Obj.mapFields (·.setIfInBounds 3 Value.none))];exact z3.size
 ·exact z3.keep b o ((oth b q4).trans q1) q2 q3 λq=>Je (Heap.lt_size q1) (Nat.not_lt.mpr (q ▸ z1'))
 ·exact z3.slot b o ((oth b q4).trans q1) q2 q3 λq=>Je (Heap.lt_size q1) (Nat.not_lt.mpr (q ▸ z1'))
theorem zdS {Q:QD}(t:Tb s.heap e cls od T fl)
  (h:∀h',Tb h' e cls od T .none->Chg fs e T s.heap h'->(∀b o,s.heap.get? b=some o->b≠T->h'.get? b=some o)->Q () {s with heap:=h'}):wpAny M A (setFlight (.ref e) none) Q E s:=by
 obtain⟨oe,vs,oT,ts,he,hc,ho,hd,h1,hTe,hT,hdT,h3⟩:=t;have z3:3 < ts.size:=(Array.getElem?_eq_some_iff.mp h3).1;have oth:∀b,b≠T->(s.heap.update T (Obj.mapFields (·.setIfInBounds 3 ((none:QM).elim Value.none λf=>rawInt f)))).get? b=s.heap.get? b:=
  λb hb=>Heap.get?_update_other _ _ (Ne.symm hb)
 unfold setFlight;refine Ja (wpAny_field he hd h1 ?_);rw[if_pos (show(Value.ref T !=Value.none)=true from by simp)];have dd:=Obj.data_mapFields hdT (·.setIfInBounds 3 ((none:QM).elim Value.none λf=>rawInt f));refine wpAny_setField hT hdT z3 (h _ ⟨oe,vs,_,_,(oth e (Ne.symm hTe)).trans he,hc,ho,hd,h1,hTe,Heap.get?_update_self _ hT (Obj.isFreed_of_fields dd),dd,by simp[z3]⟩ ?_ ?_)
 ·refine⟨?_,λb o q1 _ _ q4=>(oth b q4).trans q1,λb o q1 _ _ q4=>⟨o.slots,(oth b q4).trans q1⟩⟩;rw[Heap.size_after_update];exact Jb _
 ·exact λb o q1 q4=>(oth b q4).trans q1
end
structure Chg2 (fs:QO)(own:Addr->Prop)(h h':Heap):Prop where
 size:h.objs.size<=h'.objs.size
 keep:∀b o,h.get? b=some o->b∉fs->¬own b->h'.get? b=some o
 slot:∀b o,h.get? b=some o->b∈fs->¬own b->∃sl,h'.get? b=some {o with slots:=sl}
theorem Chg.two {own:Addr->Prop}(c:Chg fs e T h h')(o1:own e)(o2:own T\/h.get? T=none):Chg2 fs own h h':=by
 have nT:∀b o,h.get? b=some o->¬own b->b≠T:=λb o q n z=>by
  subst z;rcases o2 with y | y
  ·exact n y
  ·rw[y] at q;cases q
 exact⟨c.size,λb o q a n=>c.keep b o q a (λz=>n (z ▸ o1)) (nT b o q n),λb o q a n=>c.slot b o q a (λz=>n (z ▸ o1)) (nT b o q n)⟩
theorem Chg2.trans (a:Chg2 fs own h h1)(b:Chg2 fs own h1 h2):Chg2 fs own h h2:=
 ⟨Ji a.size b.size,λc o q n m=>b.keep c o (a.keep c o q n m) n m,λc o q n m=>by
  obtain⟨s1,e1⟩:=a.slot c o q n m;obtain⟨s2,e2⟩:=b.slot c _ e1 n m;exact⟨s2,e2⟩⟩
section
variable {M:Model}{A:Around}{E:QC}{s:Shared}{base:Heap}{env:Env}{outer:List Env}{L e T:Addr}
theorem zru {oe:Obj}{vs:Array Value}{Q:QD}(hfr:A.frames=some (env::outer))(hl:s.heap.FunFrames base (env::outer))(hf:env.frame=some L)
  (he:s.heap.get? e=some oe) (hd:oe.data=.fields vs) (h1:vs[1]? =some .none)
  (h:∀h' T',s.heap.objs.size<=T'->Tb h' e oe.cls oe.dict T' .none->Chg2 ((env::outer).filterMap (·.frame)) (· =e) s.heap h'->Q () {s with heap:=h'}):
  wpAny M A (leaving env (.ref e)) Q E s:=by
 unfold leaving;refine Ja (zsR hfr hl hf he hd h1 λg T' z t c=>?_);refine zdS (s:={s with heap:=g}) (fs:=(env::outer).filterMap (·.frame)) t λh' t' c' k=>h h' T' z t' ?_;have n:s.heap.get? T'=none:=Heap.get?_none_of_le z;refine⟨Ji c.size c'.size,λb o q a m=>?_,λb o q a m=>?_⟩
 ·have bT:b≠T':=λy=>by subst y;rw[n] at q;cases q
  exact k b o (c.keep b o q a m bT) bT
 ·have bT:b≠T':=λy=>by subst y;rw[n] at q;cases q
  obtain⟨sl,y⟩:=c.slot b o q a m bT;exact⟨sl,k b _ y bT⟩
theorem zrF {Q:QD}(hfr:A.frames=some (env::outer))(hl:s.heap.FunFrames base (env::outer))(hf:env.frame=some L)
  (t:Tb s.heap e cls od T .none)
  (h:∀h' T',s.heap.objs.size<=T'->Tb h' e cls od T' .none->Chg2 ((env::outer).filterMap (·.frame)) (λb=>b=e\/b=T) s.heap h'->Q () {s with heap:=h'}):
  wpAny M A (leaving env (.ref e)) Q E s:=by
 unfold leaving;refine Ja (znu hfr hl hf t λg T' z t1 c=>?_);refine zdS (s:={s with heap:=g}) (fs:=(env::outer).filterMap (·.frame)) t1 λh' t' c' k=>h h' T' z t' ?_;have n:s.heap.get? T'=none:=Heap.get?_none_of_le z;refine⟨Ji c.size c'.size,λb o q a m=>?_,λb o q a m=>?_⟩
 ·have bT:b≠T':=λy=>by subst y;rw[n] at q;cases q
  exact k b o (c.keep b o q a (λy=>m (.inl y)) λy=>m (.inr y)) bT
 ·have bT:b≠T':=λy=>by subst y;rw[n] at q;cases q
  obtain⟨sl,y⟩:=c.slot b o q a (λy=>m (.inl y)) λy=>m (.inr y);exact⟨sl,k b _ y bT⟩
theorem zqK {Q:QD}(hfr:A.frames=some (env::outer))(hl:s.heap.FunFrames base (env::outer))(hf:env.frame=some L)
  (t:Tb s.heap e cls od T .none)
  (h:∀h' T',s.heap.objs.size<=T'->Tb h' e cls od T' .none->Chg2 ((env::outer).filterMap (·.frame)) (λb=>b=e\/b=T) s.heap h'->Q () {s with heap:=h'}):
  wpAny M A (noteFrame (.ref e) env) (λ_ s'=>wpAny M A (setFlight (.ref e) none) Q E s') E s:=by
 refine znu hfr hl hf t λg T' z t1 c=>?_;refine zdS (s:={s with heap:=g}) (fs:=(env::outer).filterMap (·.frame)) t1 λh' t' c' k=>h h' T' z t' ?_;have n:s.heap.get? T'=none:=Heap.get?_none_of_le z;refine⟨Ji c.size c'.size,λb o q a m=>?_,λb o q a m=>?_⟩
 ·have bT:b≠T':=λy=>by subst y;rw[n] at q;cases q
  exact k b o (c.keep b o q a (λy=>m (.inl y)) λy=>m (.inr y)) bT
 ·have bT:b≠T':=λy=>by subst y;rw[n] at q;cases q
  obtain⟨sl,y⟩:=c.slot b o q a (λy=>m (.inl y)) λy=>m (.inr y);exact⟨sl,k b _ y bT⟩
end
end Px
namespace Px
open PySem PySem.W PySem.Builtin PySem.Builtin.ObjectAttr
noncomputable abbrev bmV:List Value:=[.type "ValueError",.type "Exception",.type "BaseException",.type "object"]
noncomputable def xIn (K:Frag)(C:Addr):Bool:=match K.lookup C with
 | some ⟨.type "type",_,.cls cd,sl⟩=>(match cd.mro,sl.toList with
  | .ref D::bm,[_,_,_,_,some (.builtin n),_]=>D==C && n== "ValueError.__new__" && !cd.hasDel && tailIn K bmV bm
  | _,_=>false)
 | _=>false
theorem zm5 {K:Frag}{h:Heap}(X:K.In h)(q:xIn K C=true):∃nm qn N bs bm hd sn sub ab col dd k0 k1 k2 k3 k5,
  h.get? C=some (excClassObj nm qn C N bs bm hd sn sub ab col dd k0 k1 k2 k3 k5 "ValueError.__new__")/\OwnTail h bmV bm:=by
 unfold xIn at q;split at q
 ·rename_i dd cd sl ho;split at q
  ·rename_i D bm k0 k1 k2 k3 n k5 hm hs;simp only[Bool.and_eq_true,beq_iff_eq,Bool.not_eq_true'] at q;obtain⟨⟨⟨y1,y2⟩,y3⟩,y4⟩:=q;subst y1;subst y2;obtain⟨nm,bs,mro,ns,qn,hd,sn,sub,ab,col,del⟩:=cd;dsimp only at hm y3;subst hm;subst y3;have e:sl= #[k0,k1,k2,k3,some (.builtin "ValueError.__new__"),k5]:=by obtain⟨l⟩:=sl;exact congrArg Array.mk hs
   subst e;exact⟨nm,qn,ns,bs,bm,hd,sn,sub,ab,col,dd,k0,k1,k2,k3,k5,X _ _ ho,tail_of_in X y4⟩
  ·cases q
 ·cases q
noncomputable abbrev zjd (C t:Addr):Obj:={cls:=.ref C,data:=.fields #[.ref t,.none,.none,.none,.bool false,.none]}
noncomputable abbrev zrK (vs:QN):Obj:={cls:=.type "tuple",data:=.seq vs.toArray}
noncomputable abbrev zaI (h:Heap)(C:Addr)(vs:QN):Heap:=(h.push (zrK vs)).push (zjd C h.objs.size)
theorem zbM {h:Heap}{b:Addr}{o:Obj}(e:h.get? b=some o):(zaI h C vs).get? b=some o:=
 Heap.get?_push_of_some _ (Heap.get?_push_of_some _ e)
theorem zfu:(zaI h C vs).get? (h.objs.size+1)=some (zjd C h.objs.size):=
 Heap.get?_push_at (by rw[Heap.size_push]) rfl
section
variable {prog:Program}{w:World}{A:Around}{E:QC}{h:Heap}{g:Array GenState}{d:Drawn}{t:Nat}{os:OsState}{K:Frag}{C fI:Addr}{vs:QN}
theorem zlX {Q:Fin->Shared->Prop}(X:K.In h)(q:xIn K C=true)(hi:findIn K (.ref C) "__init__" =some (some (.ref fI))) (hf:typeIn K (.ref fI)=some (.type "function"))
  (hq:wpAny (model prog w) A (call (.ref fI) (.ref (h.objs.size+1)::vs)) (λr s'=>r=.none/\Q (.done (.ret (.ref (h.objs.size+1)))) s') E ⟨zaI h C vs,g,d,t,os⟩) (hz:vs.length<=sizeLine):
  wpAny (model prog w) A (Builtin.«type.__call__» ⟨.ref C::vs,[]⟩) Q E ⟨h,g,d,t,os⟩:=by
 obtain⟨nm,qn,N,bs,bm,hd,sn,sub,ab,col,dd,k0,k1,k2,k3,k5,cO,tl⟩:=zm5 X q;have FV:=PySem.F.excBase_ValueError;have inV:bmV.contains (.type "ValueError")=true:=by decide
 repeat (first | with_reducible refine wpAny_loadPart_at cO ?_ | with_reducible refine wpAny_madeBy_exc cO ?_ | wp_step)
 refine codeAny_call_builtin_code (Code.quiet_builtin _ FV.quiet) (wpAny_check_new_subU FV inV tl cO ?_);refine codeAny_exc_new_subU FV inV FV tl cO ?_ hz;show wpAny _ _ _ _ _ _;have cO1:(zaI h C vs).get? C=_:=zbM cO;have X1:K.In (zaI h C vs):=X.keeps λb o e=>zbM e;have at1:(zaI h C vs).get? (h.objs.size+1)=some (zjd C h.objs.size):=zfu;have cC:(Value.ref C::bm).contains (.ref C)=true:=by simp
 unfold isInstance
 repeat (first | with_reducible refine wpAny_loadPart_at at1 ?_ | (with_reducible refine wpAny_isSubtype_exc cO1 ?_;rw[cC]) | wp_step)
 show wpAny _ _ (typeLookup (.ref C) _) _ _ _;refine(looks_findIn X1 hi).here (s:=⟨zaI h C vs,g,d,t,os⟩) ?_;refine wpAny_holding (Ja ((bind_fn X1 _ hf).here (s:=⟨zaI h C vs,g,d,t,os⟩) ?_));refine Ja (wpAny_mono hq (λr s' hr=>?_) λ_ _ x=>x);obtain⟨e1,hQ⟩:=hr;subst e1
 wp_walk
 exact hQ
theorem zlw {Q:QC}(X:K.In h)(q:xIn K C=true)(hi:findIn K (.ref C) "__init__" =some (some (.ref fI))) (hf:typeIn K (.ref fI)=some (.type "function"))
  (hq:wpAny (model prog w) (A.under (.builtin "type.__call__" ⟨.ref C::vs,[]⟩)) (call (.ref fI) (.ref (h.objs.size+1)::vs)) (λr s'=>r=.none/\Q (.ref (h.objs.size+1)) s') E ⟨zaI h C vs,g,d,t,os⟩)
  (hz:vs.length<=sizeLine):wpAny (model prog w) A (call (.ref C) vs) Q E ⟨h,g,d,t,os⟩:=by
 obtain⟨nm,qn,N,bs,bm,hd,sn,sub,ab,col,dd,k0,k1,k2,k3,k5,cO,tl⟩:=zm5 X q;have l1:=tc_lookup;have l2:=tc_bind (.ref C);have isT:(⟨h,g,d,t,os⟩:Shared).TypeIs (.ref C) "type" :=⟨_,cO,rfl⟩;refine wpAny_call (codeAny_of_tree ?_);show wpAny _ _ (callAny (.ref C) _) _ _ _
 repeat (any_goals (first | assumption | with_reducible refine wpAny_loadPart_at cO ?_ | wp_step))
 refine⟨rfl,?_⟩;refine codeAny_call_builtin_at (Code.quiet_builtin _ (by decide+kernel)) entry_typeCall (wpAny_check_type_call_sub cO (zlX X q hi hf ?_ hz));exact hq
theorem zjn {s:Shared}{Q:QC}(X:K.In s.heap)(q:excIn K C bmV "ValueError.__new__" =true)
  (hq:∀h' e,Heap.MadeExcOf s.heap h' e (.ref C) vs->Q (.ref e) {s with heap:=h'}) (hz:vs.length<=sizeLine):wpAny (model prog w) A (call (.ref C) vs) Q E s:=by
 obtain⟨h,g,d,t,os⟩:=s;have FV:=PySem.F.excBase_ValueError;have inV:bmV.contains (.type "ValueError")=true:=by decide
 unfold excIn at q;split at q
 ·rename_i dd cd sl ho;split at q
  ·rename_i D bm k0 k1 k2 k3 n k5 hm hs;simp only[Bool.and_eq_true,beq_iff_eq,Bool.not_eq_true'] at q;obtain⟨⟨⟨⟨⟨y1,y2⟩,y3⟩,y4⟩,y5⟩,y6⟩:=q;subst y1;subst y2;obtain⟨nm,bs,mro,ns,qn,hd,sn,sub,ab,col,del⟩:=cd;dsimp only at hm y3 y5 y6;subst hm;subst y3;have e:sl= #[k0,k1,k2,k3,some (.builtin "ValueError.__new__"),k5]:=by obtain⟨l⟩:=sl;exact congrArg Array.mk hs
   subst e;exact wpAny_call_exc_subU FV inV FV (tail_of_in X y4) (X _ _ ho) (.of_isNs (isNs_of_in X y5)) (nsMap_none_of_in X y5 y6) hq hz
  ·cases q
 ·cases q
end
section
variable {prog:Program}{w:World}{A:Around}{E:QC}{s:Shared}{env:Env}{K:Frag}
theorem zjS (hh:A.handled=none)
  (h:wpAny (model prog w) A x (λv s₁=>∃e C t oe,v=.ref e/\K.In s₁.heap/\xIn K C=true/\s₁.heap.get? e=some oe/\oe.cls=.ref C/\oe.data=.fields #[.ref t,.none,.none,.none,.bool false,.none]/\E (.ref e) s₁) E s):
  wpAny (model prog w) A (raiseStmt env (some x) none) Q E s:=by
 unfold raiseStmt;refine Ja (wpAny_mono h (λv s₁ h₁=>?_) λ_ _ x=>x);obtain⟨e,C,t,oe,rfl,X,q,he,hc,hd,hE⟩:=h₁;obtain⟨nm,qn,N,bs,bm,hdc,sn,sub,ab,col,dd,k0,k1,k2,k3,k5,cO,tl⟩:=zm5 X q;have cB:(Value.ref C::bm).contains (.type "BaseException")=true:=by rw[List.contains_cons,tl.hasType (show bmV.contains (.type "BaseException")=true from by decide),Bool.or_true]
 obtain⟨hp,g,d,tk,os⟩:=s₁;obtain⟨c0,d0,dt,sl⟩:=oe;dsimp only at hc hd;subst hc;subst hd
 repeat (first | with_reducible refine wpAny_loadPart_at he ?_ | with_reducible refine wpAny_loadPart_at cO ?_ | (with_reducible refine wpAny_isSubtype_exc cO ?_;rw[cB]) | wp_step)
 exact wpAny_raiseNew_none hh hE
end
noncomputable def zbU:List Value->Bool
 | []=>false
 | v::r=>(v::r)==bmV || (match v with | .ref _=>zbU r | _=>false)
theorem zbn {P:List Value->Prop}(base:P bmV)(own:∀c r,P r->P (.ref c::r)):∀{l:QN},zbU l=true->P l
 | [],e=>by cases e
 | v::r,e=>by
  unfold zbU at e;rcases Bool.or_eq_true_iff.mp e with q | q
  ·rw[beq_iff_eq.mp q];exact base
  ·cases v <;> first | exact own _ _ (zbn base own q) | cases q
noncomputable def zdc (K:Frag)(C:Addr):Bool:=(clsIn K C).any λcd=>zbU cd.mro && cd.hasDict
theorem zjG (self:Value)(e:zbU l=true):refuseLoop self "__setattr__" l=pure ():=
 zbn (P:=λl=>refuseLoop self "__setattr__" l=pure ()) (PySem.F.store_ValueError.passes self) (λc r q=>by rw[refuseLoop_ref];exact q) e
theorem zph (hv:bmV.contains v=true)(e:zbU l=true):l.contains v=true:=
 zbn (P:=λl=>l.contains v=true) hv (λc r q=>by rw[List.contains_cons,q,Bool.or_true]) e
theorem zrq (e:zbU l=true):l.isEmpty=false:=by
 cases l with
 | nil=>cases e
 | cons _ _=>rfl
section
variable {prog:Program}{w:World}{A:Around}{E:QC}{s:Shared}{K:Frag}{x C:Addr}{ox:Obj}{name:Str}{v:Value}
noncomputable abbrev _root_.Jv:=@Bool.and_eq_true_iff
theorem zjl {T:String}(X:K.In s.heap)(I:InstAt s.heap x ox C od)(hp:zdc K C=true)(hT:bmV.contains (.type T)=true):Looks M s.heap (isInstance (.ref x) (.type T)) true:=by obtain⟨cd,hc,ho⟩:=any_some hp;obtain⟨o1,o2⟩:=Jv.mp ho;refine I.type.andThen (looks_mroIn X ?_);unfold mroIn;rw[hc,Option.bind_some,if_neg (by rw[zrq o1];decide),zph hT o1]
theorem znE {R:Result->Shared->Prop}{tk:Tok}(X:K.In s.heap)(I:InstAt s.heap x ox C od)(hp:zdc K C=true)(ht:findIn K (.ref C) name=some none)
  (h:∀b,wpAny (model prog w) A.in1 (storeInOwnDict (.ref x) (.ref C) (.str name tk) name v b)
   (λfin s'=>match fin with
    | .done f=>R (.ok f) s'
    | .again c'=>c'.quiet=true/\codeAny (model prog w) A c' R s') (λe s'=>R (.error e) s') s):
  codeAny (model prog w) A (.call (.builtin "object.__setattr__") ⟨[.ref x,.str name tk,v],[]⟩) R s:=by
 have FS:=PySem.F.store_ValueError;have isO:=zjl (M:=model prog w) (T:= "object") X I hp (by decide);obtain⟨cd,hc,ho⟩:=any_some hp;obtain⟨o1,o2⟩:=Jv.mp ho;refine codeAny_call_builtin FS.slot.plain FS.entry (@check_slot (model prog w) _ _ s "object.__setattr__" "object" "__setattr__" (.ref x) [.str name tk,v] [] _ FS.kind FS.split isO (FS.args (.ref x) (.str name tk) v) ?_);have mr:Looks (model prog w) s.heap (mroOf (.ref C)) cd.mro:=(looks_clsIn X hc).andThen .now;rw[osa_eq,refuse_eq];refine Ja (Ja (I.type.here (Ja (mr.here ?_))));rw[zjG _ o1];have nt:Looks (model prog w) s.heap (storeTaker? none) none:=.now;refine wpAny_pure (Ja (I.type.here (Ja ((looks_findIn X ht).here (Ja (nt.here ?_))))));exact h _
theorem zrv {Q:QD}{vs:Array Value}{sl:QJ}(X:K.In s.heap)(hx:s.heap.get? x=some ⟨.ref C,none,.fields vs,sl⟩)(hp:zdc K C=true)
  (hs:findIn K (.ref C) "__setattr__" =some (some (.builtin "object.__setattr__"))) (ht:findIn K (.ref C) name=some none)
  (h:∀h' tk,h'.get? x=some ⟨.ref C,some s.heap.objs.size,.fields vs,sl⟩->h'.Ns1 s.heap.objs.size (λy=>if y=name then some v else none)->s.heap.objs.size<=h'.objs.size->
   (∀b o,b≠x->s.heap.get? b=some o->h'.get? b=some o)->Q () {s with heap:=h',toks:=tk}):wpAny (model prog w) A (setAttr (.ref x) name v) Q E s:=by
 have I:InstAt s.heap x ⟨.ref C,none,.fields vs,sl⟩ C none:=⟨hx,rfl,rfl,trivial⟩;obtain⟨cd,hc,ho⟩:=any_some hp;obtain⟨o1,o2⟩:=Jv.mp ho;refine set_plain X I hs (znE (s:={s with toks:=s.toks+1}) X I hp ht λb=>?_);refine Ja (wpAny_pure (Ja (Ja (wpAny_loadPart hx (Ja (Looks.here (s:={s with toks:=s.toks+1}) (looks_clsIn X hc) ?_))))));rw[o2];have hx1:(s.heap.push {cls:=.type "dict",data:=.dict #[]}).get? x=some ⟨.ref C,none,.fields vs,sl⟩:=Heap.get?_push_of_some _ hx;have xs:x≠s.heap.objs.size:=Jg (Heap.lt_size hx);refine Ja (wpAny_alloc' ?_);refine Ja (wpAny_update' hx1 ?_);refine wpAny_pure ?_;have gd:((s.heap.push {cls:=.type "dict",data:=.dict #[]}).update x λo=>{o with dict:=some s.heap.objs.size}).get? s.heap.objs.size=some {cls:=.type "dict",data:=.dict #[]}:=
  (Heap.get?_update_other _ _ xs).trans (Heap.get?_push_size _ rfl)
 have gx:((s.heap.push {cls:=.type "dict",data:=.dict #[]}).update x λo=>{o with dict:=some s.heap.objs.size}).get? x=some ⟨.ref C,some s.heap.objs.size,.fields vs,sl⟩:=
  Heap.get?_update_self _ hx1 rfl
 have nd:((s.heap.push {cls:=.type "dict",data:=.dict #[]}).update x λo=>{o with dict:=some s.heap.objs.size}).Ns s.heap.objs.size (λ_=>none):=
  ⟨_, #[],_,gd,rfl,λe he=>Je he (by simp),λ_=>rfl⟩
 show wpAny _ _ (storeInDict s.heap.objs.size (.str name _) name v) _ _ _;unfold storeInDict newKeyGuard;refine Ja (wpAny_pure (Ja (wpAny_nsSet1 (Heap.Ns1.of_empty nd) λh' n' sb=>?_)));obtain⟨oD,esD,epD,q1,q2,q3⟩:=n'.count (Within.cons name v Within.nil);refine Ja (wpAny_lookBehind q1 (by rw[q2];exact pastItsLine_dict (Ji q3 (by rw[List.length_cons,List.length_nil,sizeLine_eq];omega))) ?_);refine wpAny_pure (h h' _ ((sb.2 x xs).trans gx) n' ?_ λb o bx e=>?_)
 ·rw[sb.1,Heap.size_after_update,Heap.size_push];exact Nat.le_succ _
 ·exact(sb.2 b (Jg (Heap.lt_size e))).trans ((Heap.get?_update_other _ _ (Ne.symm bx)).trans (Heap.get?_push_of_some _ e))
theorem zrp {Q:QD}{vs:Array Value}{sl:QJ}{dx:Addr}(X:K.In s.heap)(hx:s.heap.get? x=some ⟨.ref C,some dx,.fields vs,sl⟩)(hd:s.heap.Ns1 dx mA)(hp:zdc K C=true)
  (hs:findIn K (.ref C) "__setattr__" =some (some (.builtin "object.__setattr__"))) (ht:findIn K (.ref C) name=some none) (hw:Within mA ns) (hz:ns.length<=sizeLine)
  (h:∀h' tk,h'.Ns1 dx (λy=>if y=name then some v else mA y)->Heap.SameBut dx s.heap h'->Q () {s with heap:=h',toks:=tk}):wpAny (model prog w) A (setAttr (.ref x) name v) Q E s:=by
 obtain⟨od,es0,ep0,g1,g2⟩:=id hd;have I:InstAt s.heap x ⟨.ref C,some dx,.fields vs,sl⟩ C (some od):=⟨hx,rfl,rfl,g1⟩;obtain⟨cd,hc,ho⟩:=any_some hp;obtain⟨o1,o2⟩:=Jv.mp ho;refine set_plain X I hs (znE (s:={s with toks:=s.toks+1}) X I hp ht λb=>?_);refine Ja (wpAny_pure (Ja (Ja (wpAny_loadPart hx (Ja (Looks.here (s:={s with toks:=s.toks+1}) (looks_clsIn X hc) ?_))))));rw[o2];refine wpAny_pure (a:=some dx) (Ja (wpAny_pure (Ja ?_)));refine wpAny_nsSet1 (s:={s with toks:=s.toks+1}) hd λh' n2 sb=>?_;obtain⟨oD,esD,epD,q1,q2,q3⟩:=n2.count (Within.cons name v hw);refine Ja (wpAny_lookBehind q1 (by rw[q2];exact pastItsLine_dict (Ji q3 (by rw[List.length_cons];omega))) ?_);exact wpAny_pure (h _ _ n2 sb)
theorem zs2 {Q:QC}{od:Obj}(X:K.In s.heap)(I:InstAt s.heap x ox C (some od))(hp:zdc K C=true)
  (hga:findIn K (.ref C) "__getattribute__" =some (some (.builtin "BaseException.__getattribute__"))) (hgn:findIn K (.ref C) "__getattr__" =some none)
  (hf:findObj K C (some od) name=some (.value v)) (hh:handedIn v=true) (h:Q v {s with toks:=s.toks+1}):wpAny (model prog w) A (getAttr (.ref x) name expr) Q E s:=by
 have isB:=zjl (M:=model prog w) (T:= "BaseException") X I hp (by decide);obtain⟨hp',g,d,t,os⟩:=s;have L0:=I.type (M:=model prog w);have L1:=looks_findIn (M:=model prog w) X hga;have L2:=looks_findIn (M:=model prog w) X hgn;have L3:=looks_find (M:=model prog w) X I hf;have FB:=PySem.F.attrBase_ValueError;have bi:=FB.ga.bind (.ref x);have kd:builtinKind "BaseException.__getattribute__" =some .slot:=by decide+kernel
 have sp:splitId "BaseException.__getattribute__" =some ("BaseException","__getattribute__"):=by decide+kernel
 unfold getAttr getAttrBy;refine Ja (wpAny_mkText (wpAny_holding (Ja (L0.at (Ja (L1.at ?_))))));have nb:(onTheHeap (Value.ref C) && Value.builtin "BaseException.__getattribute__" ==Value.builtin "object.__getattribute__")=false:=by rw[show(Value.builtin "BaseException.__getattribute__" ==Value.builtin "object.__getattribute__")=false from by decide+kernel,Bool.and_false]
 dsimp only;rw[nb,if_neg Jc];unfold getAttrByItsOwn;refine Ja ?_;show wpAny _ _ (typeLookup (.ref C) "__getattr__") _ _ _;refine L2.at ?_;have ne:(expr && onTheHeap (Value.builtin "BaseException.__getattribute__"))=false:=by cases expr <;> rfl
 unfold callGetattribute;rw[ne,if_neg Jc];unfold boundAndCalled;refine Ja (wpAny_attempt (wpAny_holding ?_));rw[bi];refine Ja (wpAny_pure ?_);refine wpAny_call (codeAny_call_builtin FB.ga.plain PySem.F.entry_bexc_ga (@check_slot (model prog w) _ _ _ "BaseException.__getattribute__" "BaseException" "__getattribute__" (.ref x) [.str name t] [] _ kd sp isB (PySem.F.args_bexc_ga _ _) ?_));unfold Builtin.«object.__getattribute__»
 repeat (any_goals (first | assumption | with_reducible refine Ja (L0.at ?_) | with_reducible refine Ja (L3.at ?_) | wp_step))
 show wpAny _ _ (handedOut v) _ _ _;rw[handedOut_of hh];exact wpAny_pure h
end
end Px
namespace L2
open PySem PySem.Spec PyProof.Rows Px
noncomputable def exO (a C:Addr)(od:QM)(fr:Bool):HO:=.ext λh=>∃vs sl,h.get? a=some ⟨.ref C,od,.fields vs,sl⟩/\(fr=true->∃t,vs= #[.ref t,.none,.none,.none,.bool false,.none])
noncomputable def xdO (a:Addr)(fs:List (Str ×V)):HO:=.ext λh=>∃mA,h.Ns1 a mA/\(∀f,RelO (fs.lookup f) (mA f))/\PySem.Within mA (fs.map (·.1))
noncomputable def del (H:Hp)(a:Addr):Hp:=λb=>if b=a then none else H b
theorem zbt:del H a a=none:=by unfold del;rw[if_pos rfl]
theorem za9 {a b:Addr}(h:b≠a):del H a b=H b:=by unfold del;rw[if_neg h]
theorem zbi {H:Hp}{a:Addr}(h:H a=none):del (upd H a o) a=H:=by
 funext b;unfold del upd;by_cases e:b=a
 ·rw[if_pos e,e,h]
 ·rw[if_neg e,if_neg e]
section
variable {P:Program}{w:World}{H H':Hp}{h h' h2:Heap}{a C:Addr}{o:HO}{fs ex fs':QO}{own:Addr->Prop}
theorem zhf {od:QM}{fr:Bool}{vs:Array Value}{sl:QJ}(e:h.get? a=some ⟨.ref C,od,.fields vs,sl⟩)(f:fr=true->∃t,vs= #[.ref t,.none,.none,.none,.bool false,.none]):zF P w H h a (exO a C od fr):=
 ⟨⟨vs,sl,e,f⟩,⟨_,e⟩,λ_ _ ⟨vs,sl,e,f⟩ k=>⟨vs,sl,k _ e,f⟩⟩
theorem zbe (ok:HOk P w H h)(e:H a=some (exO a C od fr)):∃vs sl,h.get? a=some ⟨.ref C,od,.fields vs,sl⟩/\(fr=true->∃t,vs= #[.ref t,.none,.none,.none,.bool false,.none]):=
 (show zF P w H h a (exO a C od fr) from ok a _ e).1
theorem zmD {l:List (Str ×V)}(n:h.Ns1 a mA)(r:∀f,RelO (l.lookup f) (mA f))(wi:PySem.Within mA (l.map (·.1))):zF P w H h a (xdO a l):=
 ⟨⟨mA,n,r,wi⟩,let ⟨o,_,_,e,_⟩:=n;⟨o,e⟩,λ_ _ ⟨mA,n,r,wi⟩ k=>⟨mA,n.at k,r,wi⟩⟩
theorem zhg (ok:HOk P w H h)(e:H a=some (xdO a l)):∃mA,h.Ns1 a mA/\(∀f,RelO (l.lookup f) (mA f))/\PySem.Within mA (l.map (·.1)):=
 (show zF P w H h a (xdO a l) from ok a _ e).1
theorem HOk.track (x:HOk P w H h)(n:H a=none)(new:zF P w (upd H a o) h a o):HOk P w (upd H a o) h:=λb u e=>by
 by_cases hb:b=a
 ·subst hb;rw[zc] at e;cases e;exact new
 ·rw[zg hb] at e;exact(x b u e).stay (λ_ _ _ q=>q) (λc q=>by rw[zg (zj q n)];exact q) λc xs q=>by rw[zg (zj q n)];exact q
theorem Un.track (u:Un fs ex H H' h h')(n:H' a=none)(nw:∀ob,h.get? a=some ob->a∈ex\/H a≠none):Un fs ex H (upd H' a o) h h' where
 keep:=u.keep
 slot:=u.slot
 free:=λb ob q m hx=>by
  rw[zg]
  ·exact u.free b ob q m hx
  ·intro e;subst e;rcases nw ob q with z | z
   ·exact hx z
   ·exact z m
 there:=u.there
 tups:=λb xs q=>by rw[zg (zj (u.tups b xs q) n)];exact u.tups b xs q
 frzs:=λb ob v q=>by rw[zg (zj (u.frzs b ob v q) n)];exact u.frzs b ob v q
 tbls:=λb ps q=>by obtain⟨m,e⟩:=u.tbls b ps q;exact⟨m,by rw[zg (zj e n)];exact e⟩
theorem HOk.drop {φ:Heap->Prop}(x:HOk P w H h)(e:H a=some (.ext φ)):HOk P w (del H a) h:=λb u q=>by
 by_cases hb:b=a
 ·rw[hb,zbt] at q;cases q
 ·rw[za9 hb] at q;exact(x b u q).stay (λ_ _ _ z=>z) (λc z=>by rw[za9 (zal z e (by intro y;cases y))];exact z) λc xs z=>by rw[za9 (zal z e (by intro y;cases y))];exact z
theorem Un.drop {φ:Heap->Prop}(u:Un fs ex H H' h h')(e:H' a=some (.ext φ)):Un fs ex H (del H' a) h h' where
 keep:=u.keep
 slot:=u.slot
 free:=λb ob q m hx=>by
  by_cases hb:b=a
  ·rw[hb];exact zbt
  ·rw[za9 hb];exact u.free b ob q m hx
 there:=u.there
 tups:=λb xs q=>by rw[za9 (zal (u.tups b xs q) e (by intro y;cases y))];exact u.tups b xs q
 frzs:=λb ob v q=>by rw[za9 (zal (u.frzs b ob v q) e (by intro y;cases y))];exact u.frzs b ob v q
 tbls:=λb ps q=>by obtain⟨m,z⟩:=u.tbls b ps q;exact⟨m,by rw[za9 (zal z e (by intro y;cases y))];exact z⟩
theorem Un.chg (u:Un fs ex H H' h h')(c:Chg2 fs' own h' h2)(hfs:∀b ob,h.get? b=some ob->b∈fs'->b∈fs)
  (nw:∀b,own b->h.get? b=none\/(H b≠none/\∃o',h2.get? b=some o')):Un fs ex H H' h h2:=by
 have no:∀b ob,h.get? b=some ob->H b=none->¬own b:=λb ob q n z=>by
  rcases nw b z with y | y
  ·rw[y] at q;cases q
  ·exact y.1 n
 refine⟨λb ob q n hb hx=>c.keep b ob (u.keep b ob q n hb hx) (λz=>hb (hfs b ob q z)) (no b ob q n),λb ob q n hb hx=>?_,u.free,λb ob q hx=>?_,u.tups,u.frzs,u.tbls⟩
 ·obtain⟨sl,e⟩:=u.slot b ob q n hb hx;by_cases z:b∈fs'
  ·obtain⟨s2,e2⟩:=c.slot b _ e z (no b ob q n);exact⟨s2,e2⟩
  ·exact⟨sl,c.keep b _ e z (no b ob q n)⟩
 ·obtain⟨o',e⟩:=u.there b ob q hx;by_cases y:own b
  ·rcases nw b y with z | z
   ·rw[z] at q;cases q
   ·exact z.2
  ·by_cases z:b∈fs'
   ·obtain⟨s2,e2⟩:=c.slot b _ e z y;exact⟨_,e2⟩
   ·exact⟨_,c.keep b _ e z y⟩
theorem HOk.chg (x:HOk P w H h)(c:Chg2 fs' own h h2)(n1:∀b,own b->H b=none)(n2:∀b∈fs',H b=none):HOk P w H h2:=λb u e=>by
 have k:∀c' v,(∃z,H c'=some z)->h.get? c'=some v->h2.get? c'=some v:=λc' v ⟨z,hz⟩ q=>
  c.keep c' v q (λm=>by rw[n2 c' m] at hz;cases hz) (λm=>by rw[n1 c' m] at hz;cases hz)
 refine(x b u e).stay (λc' v hc q=>k c' v ?_ q) (λ_ q=>q) λ_ _ q=>q;rcases hc with z | z
 ·rw[z];exact⟨_,e⟩
 ·exact⟨_,z⟩
end
section
variable {X:Cx}{pins:QE}{σ:St}{H:Hp}{s:Shared}{h':Heap}
theorem zF.thereN (x:zF P w H h a u):∃ob,h.get? a=some ob:=by
 cases u with
 | lst xs=>obtain⟨_,_,_,_,e⟩:=x;exact⟨_,e⟩
 | tup xs=>obtain⟨_,_,_,ob,e,_⟩:=x;exact⟨_,e⟩
 | dK kvs=>obtain⟨_,_,_,_,o,_,_,e,_⟩:=x;exact⟨_,e⟩
 | dT kvs=>obtain⟨_,_,_,_,o,_,_,e,_⟩:=x;exact⟨_,e⟩
 | set S n=>obtain⟨o,_,_,_,e,_⟩:=x;exact⟨_,e⟩
 | ins C dx fs=>obtain⟨_,_,_,e,_⟩:=x;exact⟨_,e⟩
 | own y=>exact x
 | xd fs=>obtain⟨_,⟨_,_,_,e,_⟩,_⟩:=x;exact⟨_,e⟩
 | rng lo hi=>obtain⟨_,_,_,e⟩:=x;exact⟨_,e⟩
 | frz ob u=>obtain⟨e,_⟩:=x;exact⟨_,e⟩
 | tbl ps=>exact⟨_,(show h.get? a=some _ from x)⟩
 | met f y=>exact⟨_,(show h.get? a=some _ from x)⟩
 | ext φ=>exact x.2.1
theorem HOk.noneN {a:Addr}(x:HOk P w H h)(n:h.get? a=none):H a=none:=by
 cases q:H a with
 | none=>rfl
 | some u=>obtain⟨ob,z⟩:=(x a u q).thereN;rw[n] at z;cases z
theorem Inv.laidN {t':Nat}(I:Inv X pins σ H s)(k:∀b u,s.heap.get? b=some u->h'.get? b=some u)(hp:s.heap.get? a=none)(new:zF X.prog X.w (upd H a o) h' a o):
  Inv X pins σ (upd H a o) {s with heap:=h',toks:=t'}:=by
 have n:H a=none:=I.hok.noneN hp;exact I.un ((Un.kept k).track n λob q=>by rw[hp] at q;cases q) ((I.hok.kept k).track n new)
end
noncomputable def CX1 (P:Program)(w:World):CXT:=λouter H s E e s'=>∃(ea:Addr) (cls:Value) (od:QM) (H':Hp) (T:Addr),e=.ref ea/\s'.os=s.os/\AllBare s'.gens/\Un (frs outer) [] H H' s.heap s'.heap/\HOk P w H' s'.heap/\
 Tb s'.heap ea cls od T .none/\(s.heap.get? ea=none\/H ea≠none)/\s.heap.get? T=none/\H' ea=none/\H' T=none/\E cls od H'
theorem zaj {b:Addr}(u:Un fs ex H H' h h')(hx:b∉ex)(n:h'.get? b=none):h.get? b=none:=by
 cases q:h.get? b with
 | none=>rfl
 | some o=>obtain⟨o',e⟩:=u.there b o q hx;rw[n] at e;cases e
section
variable {P:Program}{w:World}{K:QA}{mg:QB}{base:Heap}{N:QP}{qual:Str}{scope:Scope}{f:Addr}{cd:Value}{A:Around}{outer:List Env}{s₀:Shared}{H₀:Hp}{E:XK}
noncomputable def ziH (X:Cx)(E:XK):Prop:=∀(pins:QE) (σ:St) (H:Hp) (s:Shared) (e C:Addr) (od:QM),Inv X pins σ H s->H e=some (exO e C od true)->E (.ref C) od (del H e)->X.xe (.ref e) s
theorem zco:ziH (cxOf (CX1 P w) P w K mg base N qual scope f cd A outer s₀ H₀ E) E:=by
 intro pins σ H s e C od I he q;obtain⟨vs,sl,ge,fr⟩:=zbe I.hok he;obtain⟨t,rfl⟩:=fr rfl;show wpAny (model P w) (A.deeper _) (leaving _ (.ref e)) _ _ s;refine zru (base:=base) I.ok.frames I.stack rfl ge rfl rfl λh' T' z tb c=>?_;have nT:s.heap.get? T'=none:=Heap.get?_none_of_le z;have old:s₀.heap.get? e=none\/H₀ e≠none:=by
  cases q1:s₀.heap.get? e with
  | none=>exact .inl rfl
  | some ob=>refine .inr λn=>?_;have:=I.base.free e ob q1 n (by intro z;cases z);rw[he] at this;cases this
 have fr2:∀b∈frs (envOfC qual scope s₀.heap.objs.size f cd::outer),H b=none:=I.stkFree;have te:∃o',h'.get? e=some o':=let ⟨oe,_,_,_,y,_⟩:=tb;⟨oe,y⟩;refine⟨e,.ref C,od,del H e,T',rfl,I.os,I.bare,?_,?_,tb,old,zaj I.base (by intro z;cases z) nT,zbt,?_,q⟩
 ·refine(I.base.drop he).chg (fs':=frs (envOfC qual scope s₀.heap.objs.size f cd::outer)) c (λb ob q1 q2=>?_) λb y=>?_
  ·have lt:=Heap.lt_size q1;rcases List.mem_cons.mp (I.stkSub b q2) with y | y
   ·exact Je lt (by rw[y];exact Nat.not_lt.mpr (Jb _))
   ·exact y
  ·subst y;rcases old with y | y
   ·exact .inl y
   ·exact .inr ⟨y,te⟩
 ·refine(I.hok.drop he).chg c (λb y=>by rw[y];exact zbt) λb y=>?_;by_cases hb:b=e
  ·rw[hb];exact zbt
  ·rw[za9 hb];exact fr2 b y
 ·have:H T'=none:=I.hok.fresh z;by_cases hb:T'=e
  ·rw[hb];exact zbt
  ·rw[za9 hb];exact this
noncomputable def zbL (CX:CXT)(X:Cx)(E:St->XK):Prop:=∀(pins:QE) (σ:St) (H:Hp) (s:Shared) (e:Value) (s':Shared),Inv X pins σ H s->CX X.stack H s (E σ) e s'->X.xe e s'
theorem zeF:zbp (CX1 P w) (cxOf (CX1 P w) P w K mg base N qual scope f cd A outer s₀ H₀ E) E:=by
 intro pins σ H s e s' I0 hc;obtain⟨ea,cls,od,H',T,rfl,os,bare,un,hok,tb,old,nT,u1,u2,q⟩:=hc;have I:=I0.call' os un hok bare (λb z=>nomatch z);show wpAny (model P w) (A.deeper _) (leaving _ (.ref ea)) _ _ s';refine zrF (base:=base) I.ok.frames I.stack rfl tb λh' T' z tb' c=>?_;have nT':s'.heap.get? T'=none:=Heap.get?_none_of_le z;have old':s₀.heap.get? ea=none\/H₀ ea≠none:=by
  cases q1:s₀.heap.get? ea with
  | none=>exact .inl rfl
  | some ob=>
   refine .inr λn=>?_;rcases old with y | y
   ·have y':s₀.heap.get? ea=none:=zaj I0.base (by intro z;cases z) y;rw[y'] at q1;cases q1
   ·exact y (I0.base.free ea ob q1 n (by intro z;cases z))
 have te:∃o',h'.get? ea=some o':=let ⟨oe,_,_,_,y,_⟩:=tb';⟨oe,y⟩
 have n0:s₀.heap.get? T=none:=zaj I0.base (by intro z;cases z) nT;refine⟨ea,cls,od,H',T',rfl,I.os,I.bare,?_,?_,tb',old',zaj I.base (by intro z;cases z) nT',u1,hok.fresh z,q⟩
 ·refine I.base.chg (fs':=frs (envOfC qual scope s₀.heap.objs.size f cd::outer)) c (λb ob q1 q2=>?_) λb y=>?_
  ·have lt:=Heap.lt_size q1;rcases List.mem_cons.mp (I.stkSub b q2) with y | y
   ·exact Je lt (by rw[y];exact Nat.not_lt.mpr (Jb _))
   ·exact y
  ·rcases y with y | y
   ·subst y;rcases old' with y | y
    ·exact .inl y
    ·exact .inr ⟨y,te⟩
   ·subst y;exact .inl n0
 ·refine hok.chg c (λb y=>?_) I.stkFree;rcases y with y | y
  ·rw[y];exact u1
  ·rw[y];exact u2
end
end L2
namespace L2
open PySem PySem.Spec PyProof.Rows Px
structure XCls (K:QA)(C:Addr):Prop where
 q:xIn K C=true
 ov:zdc K C=true
 sa:PySem.W.findIn K (.ref C) "__setattr__" =some (some (.builtin "object.__setattr__"))
 ga:PySem.W.findIn K (.ref C) "__getattribute__" =some (some (.builtin "BaseException.__getattribute__"))
 gn:PySem.W.findIn K (.ref C) "__getattr__" =some none
 kp:PySem.W.keepIn K (.ref C)=true
theorem XCls.hd {K:QA}{C:Addr}(c:XCls K C):PySem.W.hasDictIn K C=true:=by obtain⟨cd,hc,ho⟩:=PySem.W.any_some c.ov;unfold PySem.W.hasDictIn;rw[hc];exact(Jv.mp ho).2
noncomputable def tExc (C:Addr)(t:TA):TE:=fun σ H Q=>t σ H λvs H1=>vs.length<=sizeLine/\∀e,H1 e=none->Q (.ref e) (upd H1 e (exO e C none true))
noncomputable def zqW (C:Addr)(sp:Sp)(t:TA):TE:=fun σ H Q=>t σ H λvs H1=>vs.length<=sizeLine/\∀x,H1 x=none->sp (.ref x::vs) (upd H1 x (exO x C none true)) (λv H2=>v=.non/\Q (.ref x) H2) E0
section
variable {X:Cx}{k:Nat}{f C:Addr}{fd:FuncData}{ps:QP}{sp:Sp}{x:Str}{p pos:Pos}{e:Expr}{es:List Expr}{t:TA}
theorem zq9 (c:XCls X.K C)(hq:PySem.W.excIn X.K C bmV "ValueError.__new__" =true) (hg:Gl X x) (hm:X.mg x=some (.ref C)) (ha:PA X (e::es) t)
  (hdb:(x==("__debug__" :Str))=false:=by decide) (he:starEach (e::es) X.env=(false,eval e X.env)::starEach es X.env:=by rfl) (hpl:(backTo pos (starEach es X.env)).any (·.1)=false:=by rfl):
  PE X (.Call (.Name x p) (e::es) [] pos) (tExc C t):=by
 intro pins s σ H Q I h;refine wpAny_Call_Name_kw (zbg I hg hm ?_ hdb);refine PySem.W.callWith_K (h₀:=X.base) I.ok.mod.kin c.kp (thn (ha pos pins s σ H _ I h) λus s1 ⟨vs,H1,I1,r,z,q⟩=>⟨I1.kIn,?_⟩) he hpl;refine zjn I1.kIn hq (λh' ea mk=>?_) (show us.length<=sizeLine by rw[<-r.length];exact z);obtain⟨t,ge,nt,gt⟩:=mk.there;exact⟨.ref ea,_,I1.laidN (t':=s1.toks) mk.keeps mk.new (zhf ge λ_=>⟨t,rfl⟩),rfl,q ea (I1.hok.noneN mk.new)⟩
theorem zo3 (c:XCls X.K C)(hi:PySem.W.findIn X.K (.ref C) "__init__" =some (some (.ref f))) (hf:PySem.W.isFn X.K (.ref f)=true) (F:FnOk X.prog X.w X.K X.mg X.base CX0 k f fd ps sp) (hr:Room (k+1) X.A) (hb:Binds X.K fd ps [])
  (hg:Gl X x) (hm:X.mg x=some (.ref C)) (ha:PA X (e::es) t)
  (hdb:(x==("__debug__" :Str))=false:=by decide) (he:starEach (e::es) X.env=(false,eval e X.env)::starEach es X.env:=by rfl) (hpl:(backTo pos (starEach es X.env)).any (·.1)=false:=by rfl):
  PE X (.Call (.Name x p) (e::es) [] pos) (zqW C sp t):=by
 intro pins s σ H Q I h;refine wpAny_Call_Name_kw (zbg I hg hm ?_ hdb);refine PySem.W.callWith_K (h₀:=X.base) I.ok.mod.kin c.kp (thn (ha pos pins s σ H _ I h) λus s1 ⟨vs,H1,I1,r,z,q⟩=>⟨I1.kIn,?_⟩) he hpl;have I2:Inv X pins σ (upd H1 (s1.heap.objs.size+1) (exO (s1.heap.objs.size+1) C none true)) {s1 with heap:=zaI s1.heap C us}:=
  I1.laidN (t':=s1.toks) (λ_ _ y=>zbM y) (Heap.get?_none_of_le (Nat.le_succ _)) (zhf zfu λ_=>⟨_,rfl⟩)
 have hq:=q (s1.heap.objs.size+1) (I1.hok.fresh (Nat.le_succ _));have r2:Vals (V.ref (s1.heap.objs.size+1)::vs) (Value.ref (s1.heap.objs.size+1)::us):=.cons rfl r;have hl:((Value.ref (s1.heap.objs.size+1)::us)++ []).length=ps.length:=by rw[List.append_nil,<-r2.length];exact F.len _ _ _ _ hq
 have hz:us.length<=sizeLine:=by rw[<-r.length];exact z
 obtain⟨h1,g1,d1,t1,o1⟩:=s1;refine zlw I1.kIn c.q hi (beq_iff_eq.mp hf) ?_ hz;have hbb:=hb _ (Value.ref (h1.objs.size+1)::us) I2.kIn hl;rw[List.append_nil] at hbb;refine wpAny_call (codeAny_mono (F.run _ X.stack _ _ ⟨Value.ref (h1.objs.size+1)::us,[]⟩ (Value.ref (h1.objs.size+1)::us) _ _ E0 (hr.make C us []) (I2.env0.make C us []) hbb r2 hq) λr s' hq'=>?_);cases r with
 | error e=>exact False.elim hq'
 | ok fl=>
  cases fl with
  | ret u=>obtain⟨v,H',I3,rv,ev,q3⟩:=I2.after hq';subst ev;exact⟨rv,⟨V.ref (h1.objs.size+1),H',I3,rfl,q3⟩⟩
  | next=>exact False.elim hq'
  | brk=>exact False.elim hq'
  | cont=>exact False.elim hq'
end
noncomputable def zrS (K:QA)(te:TE)(E:XK):TS:=λD σ H=>te σ H λv H1=>∃e C od,v=.ref e/\H1 e=some (exO e C od true)/\xIn K C=true/\E (.ref C) od (del H1 e)
theorem zch {pos:Pos}(hx:ziH X E)(hc:X.calm=true)(he:PE X ex te):PS X (.Raise (some ex) none pos) (zrS X.K te E):=by intro pins s σ H D I h;rw[arm_exec_Raise];refine Ja (wpAny_standAt ?_);refine zjS (K:=X.K) (I.ok.hd hc) ?_;refine Ja (wpAny_mono (he pins s σ H _ I h) (λv s1 hv=>Ja (wpAny_standAt (wpAny_pure ?_))) λ_ _ z=>z);obtain⟨y,H1,I1,ry,ea,C,od,rfl,hea,qC,hE⟩:=hv;obtain rfl:v=Value.ref ea:=ry;obtain⟨vs,sl,ge,fr⟩:=zbe I1.hok hea;obtain⟨t,rfl⟩:=fr rfl;exact⟨ea,C,t,_,rfl,I1.kIn,qC,ge,rfl,rfl,hx pins σ H1 s1 ea C od I1 hea hE⟩
noncomputable def sXF1 (K:QA)(ta tv:TE)(f:Str):TS:=λD σ H=>tv σ H λy H1=>ta σ H1 λx H2=>∃a C fr,x=.ref a/\H2 a=some (exO a C none fr)/\XCls K C/\zO K C f/\
 ∀d,H2 d=none->d≠a->D.nx σ (upd (upd H2 d (xdO d [(f,y)])) a (exO a C (some d) fr))
noncomputable def sXF2 (K:QA)(ta tv:TE)(f:Str):TS:=λD σ H=>tv σ H λy H1=>ta σ H1 λx H2=>∃a C fr d l,x=.ref a/\H2 a=some (exO a C (some d) fr)/\H2 d=some (xdO d l)/\d≠a/\XCls K C/\zO K C f/\l.length < 1000/\
 D.nx σ (upd H2 d (xdO d (putF f y l)))
noncomputable def tXG (K:QA)(ta:TE)(f:Str):TE:=fun σ H Q=>ta σ H λx H1=>∃a C fr d l v,x=.ref a/\H1 a=some (exO a C (some d) fr)/\H1 d=some (xdO d l)/\XCls K C/\zO K C f/\l.lookup f=some v/\Q v H1
section
variable {X:Cx}{o e value:Expr}{f:Str}{pos pos':Pos}{ta tv:TE}
theorem zr2 (ha:PE X o ta)(hv:PE X value tv)(hs:swapsWith value (some (.Attribute o f pos')) pos.line X.env=pure false):PS X (.Assign [.Attribute o f pos'] value pos) (sXF1 X.K ta tv f):=by
 intro pins s σ H D I h;refine plainObj_wpAny_Assign_Attribute (thn (hv pins s σ H _ I h) λu s1 ⟨y,H1,I1,ry,q⟩=>thn (ha pins s1 σ H1 _ I1 q) λov s2 ⟨x,H2,I2,rx,a,C,fr,ex,ea,c,n,q2⟩=>?_) hs;subst ex;obtain rfl:ov=Value.ref a:=rx;obtain⟨vs,sl,ge,hfr⟩:=zbe I2.hok ea;refine zrv I2.kIn ge c.ov c.sa n λh' tk gx nd sz kp=>?_;have nd0:H2 s2.heap.objs.size=none:=I2.hok.fresh (Jb _);have da:s2.heap.objs.size≠a:=Ne.symm (Jg (Heap.lt_size ge));have na:∀b,H2 b=none->b≠a:=λb z y=>by rw[y,ea] at z;cases z
 refine⟨σ,_,?_,q2 _ nd0 da⟩;refine I2.un (h':=h') (t':=tk) ⟨λb ob g z _ _=>kp b ob (na b z) g,λb ob g z _ _=>⟨ob.slots,kp b ob (na b z) g⟩,λb ob g z _=>?_,λb ob g _=>?_,λb xs g=>?_,λb ob v g=>?_,λb ps g=>?_⟩ λb w g=>?_
 ·rw[zg (na b z),zg (Jg (Heap.lt_size g))];exact z
 ·by_cases y:b=a
  ·rw[y];exact⟨_,gx⟩
  ·exact⟨_,kp b ob y g⟩
 ·rw[zg (zal g ea (by intro y;cases y)),zg (zj g nd0)];exact g
 ·rw[zg (zal g ea (by intro y;cases y)),zg (zj g nd0)];exact g
 ·exact⟨#[],by rw[zg (zal g ea (by intro y;cases y)),zg (zj g nd0),g];simp⟩
 ·by_cases yy:b=a
  ·subst yy;rw[zc] at g;cases g;exact zhf gx hfr
  ·rw[zg yy] at g;by_cases y2:b=s2.heap.objs.size
   ·subst y2;rw[zc] at g;cases g;refine zmD nd (λj=>?_) λj hj=>?_
    ·show RelO ([(f,y)].lookup j) _;by_cases e:j=f
     ·have hb:(j==f)=true:=beq_iff_eq.mpr e;rw[if_pos e];simp only[List.lookup,hb]
      assumption
     ·have hb:(j==f)=false:=beq_eq_false_iff_ne.mpr e;rw[if_neg e];simp only[List.lookup,hb];exact True.intro
    ·by_cases e:j=f
     ·rw[e];exact List.mem_cons_self
     ·rw[if_neg e] at hj;exact Je rfl hj
   ·rw[zg y2] at g;refine(I2.hok b w g).stay (λc' v hc gg=>kp c' v ?_ gg) (λc' z=>?_) λc' xs z=>?_
    ·rcases hc with z | z
     ·rw[z];exact yy
     ·exact zal z ea (by intro y;cases y)
    ·rw[zg (zal z ea (by intro y;cases y)),zg (zj z nd0)];exact z
    ·rw[zg (zal z ea (by intro y;cases y)),zg (zj z nd0)];exact z
theorem zrx (ha:PE X o ta)(hv:PE X value tv)(hs:swapsWith value (some (.Attribute o f pos')) pos.line X.env=pure false):PS X (.Assign [.Attribute o f pos'] value pos) (sXF2 X.K ta tv f):=by
 intro pins s σ H D I h;refine plainObj_wpAny_Assign_Attribute (thn (hv pins s σ H _ I h) λu s1 ⟨y,H1,I1,ry,q⟩=>thn (ha pins s1 σ H1 _ I1 q) λov s2 ⟨x,H2,I2,rx,a,C,fr,d,l,ex,ea,ed,da,c,n,ll,q2⟩=>?_) hs;subst ex;obtain rfl:ov=Value.ref a:=rx;obtain⟨vs,sl,ge,hfr⟩:=zbe I2.hok ea;obtain⟨mA,ns,rl,wi⟩:=zhg I2.hok ed;have hz:(l.map (·.1)).length<=sizeLine:=by rw[List.length_map,sizeLine_eq];omega
 refine zrp I2.kIn ge ns c.ov c.sa n wi hz λh' tk nd sb=>?_;have hd:∃o,h'.get? d=some o:=let ⟨o,_,_,e',_⟩:=nd;⟨o,e'⟩;refine⟨σ,_,I2.write (x:=d) (e:=d) (t':=tk) (by rw[ed];exact True.intro) (.inl rfl) (λb w hb z=>(sb.2 b hb).trans z) hd (zmD nd (λg=>?_) λg hg=>?_),q2⟩
 ·rw[zcp];by_cases z:g=f
  ·rw[if_pos z,if_pos z];exact ry
  ·rw[if_neg z,if_neg z];exact rl g
 ·by_cases z:g=f
  ·rw[z];exact(zbx f y l).1
  ·refine(zbx f y l).2 g (wi g λw=>hg ?_);show(if g=f then some u else mA g)=none;rw[if_neg z];exact w
theorem zsV (he:PE X e ta)(hb:attributeBase e f X.env (eval e X.env)=eval e X.env):PE X (.Attribute e f pos) (tXG X.K ta f):=by intro pins s σ H Q I h;refine zkR hb (thn (he pins s σ H _ I h) λu s1 ⟨x,H1,I1,rx,a,C,fr,d,l,v,ex,ea,ed,c,n,lk,q⟩=>?_);subst ex;obtain rfl:u=Value.ref a:=rx;obtain⟨vs,sl,ge,hfr⟩:=zbe I1.hok ea;obtain⟨mA,ns,rl,wi⟩:=zhg I1.hok ed;obtain⟨w,hw,rw'⟩:=RelO.some_of (v:=v) (o:=mA f) (by rw[<-lk];exact rl f);obtain⟨ob,hob,hl⟩:=zd4 ns;have J:PySem.W.InstAt s1.heap a ⟨.ref C,some d,.fields vs,sl⟩ C (some ob):=⟨ge,rfl,rfl,hob⟩;exact zs2 I1.kIn J c.ov c.ga c.gn (PySem.W.findObj_own c.hd n rfl (by rw[hl,hw])) (zgm rw') ⟨v,H1,I1.tok _,rw',q⟩
end
noncomputable def znL (sp:Sp)(E:St->XK)(t:TA):TE:=fun σ H Q=>t σ H λvs H1=>sp vs H1 Q (E σ)
section
variable {X:Cx}{CX:CXT}{k:Nat}{f C:Addr}{fd:FuncData}{ps:QP}{sp:Sp}{E:St->XK}{x m:Str}{p pos apos:Pos}{e o:Expr}{es:List Expr}{ta:TE}{t:TA}
theorem zpo (F:FnOk X.prog X.w X.K X.mg X.base CX k f fd ps sp)(hr:Room k X.A)(hb:Binds X.K fd ps [])(hx:zbL CX X E)
  (I:Inv X pins σ H s) (r:Vals vs us) (h:sp vs H Q (E σ)):wpAny (model X.prog X.w) X.A (call (.ref f) us) (EP X pins σ Q) X.xe s:=by
 have hl:(us++ []).length=ps.length:=by rw[List.append_nil,<-r.length];exact F.len _ _ _ _ h
 have hbb:=hb s us I.kIn hl;rw[List.append_nil] at hbb;refine wpAny_call (codeAny_mono (F.run X.A X.stack s H ⟨us,[]⟩ us vs Q (E σ) hr I.env0 hbb r h) λr s' hq=>?_);cases r with
 | error e=>exact hx pins σ H s e s' I hq
 | ok fl=>
  cases fl with
  | ret u=>exact I.after hq
  | next=>exact False.elim hq
  | brk=>exact False.elim hq
  | cont=>exact False.elim hq
theorem zm9 (F:FnOk X.prog X.w X.K X.mg X.base CX k f fd ps sp)(hr:Room k X.A)(hg:Gl X x)(hm:X.mg x=some (.ref f))(hk:PySem.W.keepIn X.K (.ref f)=true)(hb:Binds X.K fd ps [])(hx:zbL CX X E)
  (ha:PA X (e::es) t) (hdb:(x==("__debug__" :Str))=false:=by decide) (he:starEach (e::es) X.env=(false,eval e X.env)::starEach es X.env:=by rfl) (hpl:(backTo pos (starEach es X.env)).any (·.1)=false:=by rfl):
  PE X (.Call (.Name x p) (e::es) [] pos) (znL sp E t):=by
 intro pins s σ H Q I h;refine wpAny_Call_Name_kw (zbg I hg hm ?_ hdb);refine PySem.W.callWith_K (h₀:=X.base) I.ok.mod.kin hk (thn (ha pos pins s σ H _ I h) λus s1 ⟨vs,H1,I1,r,q⟩=>⟨I1.kIn,?_⟩) he hpl;exact zpo F hr hb hx I1 r q
end
theorem Fun.okX {P:Program}{w:World}{K:QA}{mg:QB}{base:Heap}{x qual:Str}{st:Stmt}{f:Addr}{fd:FuncData}{N ps:QP}{k:Nat}{sp:Sp}(F:Fun K x qual st f fd)(S:zaG N ps (zq st))(len:∀vs H Q E,sp vs H Q E->vs.length=ps.length)
  (hbody:∀(cdv:Value) (A:Around) (outer:List Env) (s:Shared) (H:Hp) (vs:QQ) (Q:VK) (E:XK),Room k (A.deeper (envOfC qual (zq st) s.heap.objs.size f cdv))->sp vs H Q E->
   ∃t,PSs (cxOf (CX1 P w) P w K mg base N qual (zq st) f cdv A outer s H E) (zH st) t/\t {nx:=λ_ H'=>Q .non H',rt:=Q} (start N vs) H):FnOk P w K mg base (CX1 P w) (k+1) f fd ps sp:=by
 obtain⟨oc,od,kV,doc,pm,an,cdv,ct,osl,rfl,lk,hcd⟩:=F.ex;exact zqJ lk hcd S len λA outer s H vs Q E hr hsp=>hbody cdv A outer s H vs Q E hr hsp
noncomputable abbrev Cx.tried (X:Cx)(xe:QC)(pn:QE):Cx:={X with xe:=xe,pn:=pn}
noncomputable abbrev Cx.suite (X:Cx)(e:Addr):Cx:={X with A:=X.A.mark (some (.ref e)),calm:=false,xe:=λ_ _=>False}
section
variable {X:Cx}{pins pins':QE}{σ:St}{H:Hp}{s:Shared}{xe:QC}
theorem Inv.tried (I:Inv X pins σ H s)(xe:QC):Inv (X.tried xe (X.pn++pins)) [] σ H s:=
 ⟨⟨I.ok.mod,I.ok.kind,I.ok.glob,I.ok.blt,I.ok.above,I.ok.inj,I.ok.has,I.ok.cab,I.ok.hd,I.ok.frames,I.ok.stk,I.ok.exf,I.ok.bs,I.ok.bsz,I.ok.noex,I.ok.exfs,I.ok.funs,I.ok.frf⟩,
  I.os,I.bare,I.base,I.loc,I.cell,I.free,I.freeC,λp hp=>I.pin p (by simpa using hp),I.hok,I.len⟩
theorem Inv.untried (I:Inv (X.tried xe (X.pn++pins)) pins' σ H s):Inv X pins σ H s:=
 ⟨⟨I.ok.mod,I.ok.kind,I.ok.glob,I.ok.blt,I.ok.above,I.ok.inj,I.ok.has,I.ok.cab,I.ok.hd,I.ok.frames,I.ok.stk,I.ok.exf,I.ok.bs,I.ok.bsz,I.ok.noex,I.ok.exfs,I.ok.funs,I.ok.frf⟩,
  I.os,I.bare,I.base,I.loc,I.cell,I.free,I.freeC,λp hp=>I.pin p (Jp _ hp),I.hok,I.len⟩
theorem Inv.suite (I:Inv X pins σ H s)(e:Addr):Inv (X.suite e) pins σ H s:=
 ⟨⟨I.ok.mod,I.ok.kind,I.ok.glob,I.ok.blt,I.ok.above,I.ok.inj,I.ok.has,I.ok.cab,(λz=>nomatch z),I.ok.frames,I.ok.stk,I.ok.exf,I.ok.bs,I.ok.bsz,I.ok.noex,I.ok.exfs,I.ok.funs,I.ok.frf⟩,
  I.os,I.bare,I.base,I.loc,I.cell,I.free,I.freeC,I.pin,I.hok,I.len⟩
theorem Inv.unsuite (ok:X.Ok)(I:Inv (X.suite e) pins σ H s):Inv X pins σ H s:=
 ⟨ok,I.os,I.bare,I.base,I.loc,I.cell,I.free,I.freeC,I.pin,I.hok,I.len⟩
theorem zcz {i:Nat}{n:Str}{Q:QD}(I:Inv X pins σ H s)(hN:X.N.Nodup)(hi:X.N[i]? =some n)(hk:X.env.scope.names.lookup n=some .local)
  (h:∀s',Inv X pins (σ.set i none) H s'->Q () s'):wpAny M A (do bindName X.env n .none;unbindBehindTheSuite X.env n pos) Q E s:=by
 obtain⟨m,hn,hl⟩:=id I.loc;have cl:(X.env.scope.kind==.class || (X.env.scope.kind==.module && X.env.locals !=X.env.globals))=false:=by rw[I.ok.kind];rfl
 refine wpAny_nameGoes_keeps hk hn cl λh' v hn' sb=>?_;obtain⟨oL,_,_,gL,_⟩:=id hn;have ol:∀b ob,X.s₀.heap.get? b=some ob->b≠X.env.locals:=λb ob g=>Jg (Jf (Heap.lt_size g) I.ok.above);refine h _ ⟨I.ok,I.os,I.bare,⟨λb ob g z hb hx=>(sb.2 b (ol b ob g)).trans (I.base.keep b ob g z hb hx),λb ob g z hb hx=>?_,I.base.free,λb ob g hx=>?_,I.base.tups,I.base.frzs,I.base.tbls⟩,
  ⟨_,hn',λj y v' e1 e2 e3=>?_⟩,λy c e=>?_,I.free,I.freeC,λp hp=>?_,λb w g=>?_,by simpa using I.len⟩
 ·obtain⟨sl,g1⟩:=I.base.slot b ob g z hb hx;exact⟨sl,(sb.2 b (ol b ob g)).trans g1⟩
 ·obtain⟨o',g1⟩:=I.base.there b ob g hx;exact⟨o',(sb.2 b (ol b ob g)).trans g1⟩
 ·have hj:j≠i:=λz=>by
   subst z;have:j < σ.length:=by rw[I.len];exact(List.getElem?_eq_some_iff.mp hi).1
   rw[List.getElem?_set_self this] at e2;cases e2
  rw[List.getElem?_set_ne (Ne.symm hj)] at e2;obtain⟨u',r',q⟩:=hl j y v' e1 e2 e3;refine⟨u',r',?_⟩;rcases q with ⟨k,e⟩ | ⟨k,c,e,z⟩
  ·refine .inl ⟨k,?_⟩;have:y≠n:=λz=>hj (zfb hN e1 (z ▸ hi));show(if y=n then v else m y)=some u';rw[if_neg this];exact e
  ·exact .inr ⟨k,c,e,z.sameBut sb (I.cne y c e)⟩
 ·obtain⟨w',z⟩:=I.cell y c e;exact⟨w',z.sameBut sb (I.cne y c e)⟩
 ·obtain⟨g,z,ne,nf,d⟩:=I.pin p hp;exact⟨(sb.2 p.1 ne).trans g,z,ne,nf,d⟩
 ·refine(I.hok b w g).stay (λc v2 hc q=>(sb.2 c λz=>?_).trans q) (λ_ q=>q) λ_ _ q=>q;subst z;rcases hc with y | y
  ·rw[<-y,I.free] at g;cases g
  ·rw[I.free] at y;cases y
end
noncomputable def Ends.less (D:Ends)(i:Nat):Ends:={nx:=fun σ H=>D.nx (σ.set i none) H,rt:=D.rt,bk:=fun σ H=>D.bk (σ.set i none) H,ct:=fun σ H=>D.ct (σ.set i none) H}
noncomputable def zhq (K:QA)(cv:Value)(i:Nat)(ts:TS)(D:Ends):St->XK:=fun σ cls od H'=>∃C,cls=.ref C/\PySem.W.exmOne K (.ref C) cv=some true/\
 ∀e,H' e=none->ts (D.less i) (σ.set i (some (.ref e))) (upd H' e (exO e C od false))
noncomputable def zmo (K:QA)(cv:Value)(ts:TS)(D:Ends):St->XK:=fun σ cls od H'=>∃C,cls=.ref C/\PySem.W.exmOne K (.ref C) cv=some true/\
 ∀e,H' e=none->ts D σ (upd H' e (exO e C od false))
noncomputable def znk (K:QA)(cv:Value)(i:Nat)(tb:(St->XK)->TS)(ts:TS):TS:=λD σ H=>tb (zhq K cv i ts D) D σ H
noncomputable def ztb (K:QA)(cv:Value)(tb:(St->XK)->TS)(ts:TS):TS:=λD σ H=>tb (zmo K cv ts D) D σ H
theorem _root_.Px.Chg2.mono {own':Addr->Prop}(c:Chg2 fs own h h')(k:∀b,own b->own' b):Chg2 fs own' h h':=
 ⟨c.size,λb o q a n=>c.keep b o q a λz=>n (k b z),λb o q a n=>c.slot b o q a λz=>n (k b z)⟩
section
variable {X:Cx}{x n:Str}{i:Nat}{cv:Value}{body suite:List Stmt}{b₀:Stmt}{np hpos pos:Pos}{tb:(St->XK)->TS}{ts:TS}
theorem Inv.caught {s2:Shared}{ea C T T':Addr}(J0:Inv X pins σ H s)(os:s2.os=s.os)(bare:AllBare s2.gens)(un:Un (frs X.stack) [] H H' s.heap s2.heap)(hok:HOk X.prog X.w H' s2.heap)
  (old:s.heap.get? ea=none\/H ea≠none) (nT:s.heap.get? T=none) (u1:H' ea=none) (u2:H' T=none) (z:s2.heap.objs.size<=T') (c:Chg2 (frs X.stack) (λb=>b=ea\/b=T\/b=T') s2.heap h4) (tb:Tb h4 ea (.ref C) od T' .none):
  Inv X pins σ (upd H' ea (exO ea C od false)) {s2 with heap:=h4}:=by
 obtain⟨oe,vs,oT,tz,ge,e1,e2,e3,_⟩:=tb;have ge':h4.get? ea=some ⟨.ref C,od,.fields vs,oe.slots⟩:=by obtain⟨c0,d0,dt,sl⟩:=oe;dsimp only at e1 e2 e3;subst e1;subst e2;subst e3;exact ge
 have nT2:s2.heap.get? T'=none:=Heap.get?_none_of_le z;have fr2:∀b∈frs X.stack,H' b=none:=λb hb=>by have J:=J0.call' os un hok bare (λb z=>nomatch z);exact J.stkFree b hb
 have u3:H' T'=none:=hok.fresh z;have U:Un (frs X.stack) [] H H' s.heap h4:=un.chg c (λb ob _ y=>y) λb y=>by
  rcases y with y | y | y
  ·subst y;rcases old with y | y
   ·exact .inl y
   ·exact .inr ⟨y,⟨_,ge⟩⟩
  ·subst y;exact .inl nT
  ·subst y;exact .inl (zaj un (by intro z;cases z) nT2)
 have O:HOk X.prog X.w H' h4:=hok.chg c (λb y=>by
  rcases y with y | y | y
  ·rw[y];exact u1
  ·rw[y];exact u2
  ·rw[y];exact u3) fr2
 refine J0.call' (s':={s2 with heap:=h4}) os (U.track u1 λob q=>.inr ?_) (O.track u1 (zhf ge' λz=>by cases z)) bare (λb z=>nomatch z);rcases old with y | y
 ·rw[y] at q;cases q
 ·exact y
theorem ziO (hst:X.stack=X.env::X.outer)(hfm:X.env.frame=some X.env.locals)(hN:X.N.Nodup)(hi:X.N[i]? =some n)(hlo:X.env.scope.names.lookup n=some .local)(hg:Gl X x)(hm:X.mg x=some cv)
  (hb:∀xe pn E,zbL (CX1 X.prog X.w) (X.tried xe pn) E->PSs (X.tried xe pn) body (tb E)) (hs:∀e,PSs (X.suite e) (b₀::suite) ts) (hdb:(x==("__debug__" :Str))=false:=by decide):
  PS X (.Try body [.ExceptHandler (some (.Name x np)) (some n) (b₀::suite) hpos] [] [] pos) (znk X.K cv i tb ts):=by
 intro pins s σ H D I h;have key:zbL (CX1 X.prog X.w) (X.tried (λe s₁=>wpAny (model X.prog X.w) X.A (noteFrame e X.env) (λ_ s₂=>wpAny (model X.prog X.w) X.A (setFlight e none) (λ_ s₃=>
   wpAny (model X.prog X.w) X.A (handleBy e X.env [.ExceptHandler (some (.Name x np)) (some n) (b₀::suite) hpos]) (SP X pins D) X.xe s₃) X.xe s₂) X.xe s₁) (X.pn++pins)) (zhq X.K cv i ts D):=by
  intro pins' σ' H1 s1 e s2 I1 hc;obtain⟨ea,cls,od,H',T,rfl,os,bare,un,hok,tb',old,nT,u1,u2,C,rfl,em,q⟩:=hc;have J0:Inv X pins σ' H1 s1:=I1.untried;have J:=J0.call' os un hok bare (λb z=>nomatch z);show wpAny _ _ (noteFrame (.ref ea) X.env) _ _ s2;refine zqK (base:=X.base) (by rw[<-hst];exact J.ok.frames) (by rw[<-hst];exact J.stack) hfm tb' λh3 T' z t3 c3=>?_;rw[show(X.env::X.outer).filterMap (·.frame)=frs X.stack from by rw[hst];rfl] at c3;have c3':Chg2 (frs X.stack) (λb=>b=ea\/b=T\/b=T') s2.heap h3:=c3.mono λb y=>y.elim .inl λy=>.inr (.inl y);have J3:=J0.caught os bare un hok old nT u1 u2 z c3' t3;have LT:PySem.W.Looks (model X.prog X.w) h3 (typeOf (.ref ea)) (.ref C):=by obtain⟨vs,sl,ge,_⟩:=zbe J3.hok zc;exact(PySem.W.Looks.ld ge).andThen .now
  refine wpAny_handleBy_cons (codeAny_handlers_test (zbg (X:=X.suite ea) (J3.suite ea) hg hm ?_ hdb)) (by intro y;cases y);refine(PySem.W.exm_one J3.kIn LT em).here (s:={s2 with heap:=h3}) ?_;refine codeAny_handlers_suite_as ?_;refine zdS (s:={s2 with heap:=h3}) (fs:=frs X.stack) t3 λh4 t4 c4 k4=>?_;have J4:=J0.caught os bare un hok old nT u1 u2 z (c3'.trans (c4.two (own:=λb=>b=ea\/b=T\/b=T') (.inl rfl) (.inl (.inr (.inr rfl))))) t4;refine ze5 (X:=X) J4 hN hi (.inl hlo) (show RelV (.ref ea) (Value.ref ea) from rfl) (λs5 J5=>?_) (.inr hlo);refine wpAny_mono (hs ea pins s5 _ _ (D.less i) (J5.suite ea) (q ea u1)) (λf s6 q6=>?_) λ_ _ y=>y.elim;show wpAny _ _ _ _ _ _;cases f with
  | next=>obtain⟨σ6,H6,J6,y⟩:=q6;exact zcz (J6.unsuite J0.ok) hN hi hlo λs7 J7=>⟨_,_,J7,y⟩
  | brk=>obtain⟨σ6,H6,J6,y⟩:=q6;exact zcz (J6.unsuite J0.ok) hN hi hlo λs7 J7=>⟨_,_,J7,y⟩
  | cont=>obtain⟨σ6,H6,J6,y⟩:=q6;exact zcz (J6.unsuite J0.ok) hN hi hlo λs7 J7=>⟨_,_,J7,y⟩
  | ret u=>obtain⟨v6,σ6,H6,J6,rv,y⟩:=q6;exact zcz (J6.unsuite J0.ok) hN hi hlo λs7 J7=>⟨_,_,_,J7,rv,y⟩
 refine wpAny_Try_except (wpAny_mono (hb _ (X.pn++pins) _ key [] s σ H D (I.tried _) h) (λf s₁ q=>?_) λ_ _ y=>y);cases f with
 | next=>obtain⟨σ',H',I',y⟩:=q;exact wpAny_execs_nil ⟨σ',H',I'.untried,y⟩
 | brk=>obtain⟨σ',H',I',y⟩:=q;exact⟨σ',H',I'.untried,y⟩
 | cont=>obtain⟨σ',H',I',y⟩:=q;exact⟨σ',H',I'.untried,y⟩
 | ret u=>obtain⟨v,σ',H',I',rv,y⟩:=q;exact⟨v,σ',H',I'.untried,rv,y⟩
end
end L2
namespace L2
open PySem PySem.Spec PyProof.Rows
noncomputable def cxC (X:Cx)(N:QP)(scope:Scope)(cl:List (Str ×Addr))(s₀:Shared)(H₀:Hp)(ex:QO):Cx:=
 {X with N:=N,s₀:=s₀,H₀:=H₀,env:=compEnvC scope cl s₀.heap.objs.size X.env,outer:=X.stack,ex:=ex,fn:=λ_=>false,pn:=[],xe:=λ_ _=>False}
structure zo (X:Cx)(x:Str)(ys:QP)(js:List Nat)(scope:Scope)(cl:List (Str ×Addr)):Prop where
 clos:closureFor scope X.env=pure cl
 kind:scope.kind=.function
 nocell:∀y∈scope.names,y.2≠ .cell
 names:∀y∈scope.names,y.2=.local->scope.names.lookup y.1=some .local
 tgt:scope.names.lookup x=some .local
 nd:(x::ys).Nodup
 sub:∀p∈cl,X.env.cells.lookup p.1=some p.2
 has:∀p∈(relabel scope X.env).names,p.2=.cell\/p.2=.free->p.1∈cl.map (·.1)
 fr:∀(i:Nat) (y:Str),ys[i]? =some y->∃j,js[i]? =some j/\X.N[j]? =some y/\(X.env.kindOf y=some .cell\/X.env.kindOf y=some .free)/\((relabel scope X.env).names.lookup y=some .cell\/(relabel scope X.env).names.lookup y=some .free)
 len:js.length=ys.length
theorem zbr {cl:List (Str ×Addr)}:∀{y:Str},y∈cl.map (·.1)->∃c,cl.lookup y=some c:=by
 induction cl with
 | nil=>intro y h;simp at h
 | cons p r ih=>
  intro y h;rw[List.lookup_cons];cases e:y==p.1 with
  | true=>exact⟨p.2,rfl⟩
  | false=>
   rw[List.map_cons,List.mem_cons] at h;rcases h with h | h
   ·rw[h] at e;simp at e
   ·exact ih h
noncomputable def PTs (X:Cx)(ifs:List Expr)(t:TT):Prop:=
 ∀(pins:QE) (s:Shared) (σ:St) (H:Hp) (Q:Bool->Hp->Prop),Inv X pins σ H s->t σ H Q->
  wpAny (model X.prog X.w) X.A (forIn ifs true λc r=>if r=true then do let ok<-isTrue c X.env (eval c X.env);pure (ForInStep.yield ok) else pure (ForInStep.yield r)) (TP X pins σ Q) X.xe s
noncomputable def zc6:TT:=λ_ H Q=>Q true H
theorem zbH:PTs X [] zc6:=λ_ _ _ H _ I h=>wpAny_tests_nil ⟨H,I,h⟩
theorem zpc (h:PT X c t):PTs X [c] t:=λpins s σ H Q I q=>wpAny_tests_one (h pins s σ H Q I q)
noncomputable def frees (σ:St)(js:List Nat):St:=js.map λj=>(σ[j]?).getD none
noncomputable def zfH (J:It)(p:Addr)(σ:St)(js:List Nat)(tt:TT)(te:TE)(H1:Hp)(Q:VK):Prop:=
 ∃W:Nat->Nat->List V->Hp->Prop,(∃m,W 0 m [] (upd H1 p (.lst [])))/\∀i m acc H,W i m acc H->
  (J.stop i H/\Q (.ref p) H)\/(J.go i H/\∀x H',J.yld i H x H'->tt (some x::frees σ js) H' λok H2=>
   if ok=true then te (some x::frees σ js) H2 λy H3=>H3 p=some (.lst acc)/\acc.length < sizeLine/\∃m',m' < m/\W (i+1) m' (acc++ [y]) (upd H3 p (.lst (acc++ [y])))
   else∃m',m' < m/\W (i+1) m' acc H2)
noncomputable def zkF (n:Nat)(g:TG)(J:It)(p:Addr)(σ:St)(js:List Nat)(tt:TT)(te:TE)(H1:Hp)(Q:VK):Prop:=
 ∃W:Nat->Nat->List V->Hp->Prop,(∃m,W 0 m [] (upd H1 p (.lst [])))/\∀i m acc H,W i m acc H->
  (J.stop i H/\Q (.ref p) H)\/(J.go i H/\∀x H',J.yld i H x H'->∃vs:St,vs.length=n/\(∀(σ0:St) (R:St->Hp->Prop),σ0.length=n->R (vs++frees σ js) H'->g x (σ0++frees σ js) H' R)/\tt (vs++frees σ js) H' λok H2=>
   if ok=true then te (vs++frees σ js) H2 λy H3=>H3 p=some (.lst acc)/\acc.length < sizeLine/\∃m',m' < m/\W (i+1) m' (acc++ [y]) (upd H3 p (.lst (acc++ [y])))
   else∃m',m' < m/\W (i+1) m' acc H2)
theorem zfH.g (h:zfH J p σ js tt te H1 Q):zkF 1 (zaM 0) J p σ js tt te H1 Q:=by
 obtain⟨W,w0,f⟩:=h;refine⟨W,w0,λi m acc H w=>?_⟩;rcases f i m acc H w with z | ⟨z,y⟩
 ·exact .inl z
 ·refine .inr ⟨z,λx H' e=>⟨[some x],rfl,fun σ0 R l r=>?_,y x H' e⟩⟩;obtain⟨o,rfl⟩:=List.length_eq_one_iff.mp l;exact r
noncomputable abbrev Lp (h:Heap):Heap:=h.push {cls:=.type "list",dict:=none,data:=.seq ([]:QN).toArray}
noncomputable def znO (wi:TI)(Cw:It->Addr->St->Hp->VK->Prop):TE:=fun σ H Q=>wi σ H λJ H1=>∀p,H1 p=none->Cw J p σ H1 Q
noncomputable def zqR (wi:TI)(js:List Nat)(tt:TT)(te:TE):TE:=fun σ H Q=>wi σ H λJ H1=>∀p,H1 p=none->zfH J p σ js tt te H1 Q
section
variable {X:Cx}{x:Str}{ys:QP}{js:List Nat}{scope:Scope}{cl:List (Str ×Addr)}{pins:QE}{σ:St}{H:Hp}{s:Shared}
theorem zo.cells (S:zo X x ys js scope cl){c:Addr}(h:cl.lookup y=some c):X.env.cells.lookup y=some c:=S.sub (y,c) (PySem.mem_of_lookup h)
theorem zpQ {zs:QP}(S:zo X x ys js scope cl)(I:Inv X pins σ H s){fp:QO}(f:∀b∈fp,FpOk X pins H b)(fo:∀b∈fp,b < s.heap.objs.size){h1:Heap}{m:QB}{t1:Nat}(hn:h1.Ns s.heap.objs.size m)
  (k:∀b o,s.heap.get? b=some o->h1.get? b=some o):
  Inv (cxC X (zs++ys) scope cl s H fp) (X.pn++pins) (List.replicate zs.length none++frees σ js) H {s with heap:=h1,toks:=t1}:=by
 have nfs:∀b∈fp,b∉frs X.stack:=λb hb z=>(List.mem_cons.mp (I.stkSub b z)).elim (f b hb).2.1 (f b hb).2.2.1;have kept:∀y c,cl.lookup y=some c->∀v,s.heap.IsCell c v->h1.IsCell c v:=λy c _ v ⟨o,ho,hd⟩=>⟨o,k c o ho,hd⟩;refine⟨⟨I.ok.mod,S.kind,I.ok.glob,I.ok.blt,Jb _,λy z c e1 e2=>I.ok.inj y z c (S.cells e1) (S.cells e2),λy hy=>?_,λy c e _=>Je e Jc,I.ok.hd,I.ok.frames,.inl rfl,λb hb=>⟨?_,λy c e=>(f b hb).2.2.2.2.1 y c (S.cells e)⟩,
   I.bs,Ji I.ok.bsz I.sz,λb o e hb=>?_,nfs,I.stack,I.stkFree⟩,
  I.os.trans ?_,I.bare,Un.kept k,⟨m,hn,λi y v e1 e2 e3=>?_⟩,λy c e=>?_,I.hok.fresh (Jb _),λy c e=>I.freeC y c (S.cells e),λp hp=>?_,I.hok.kept k,?_⟩
 ·rcases hy with hy | hy
  ·exact zbr (S.has _ (PySem.mem_of_lookup hy) (.inl rfl))
  ·exact zbr (S.has _ (PySem.mem_of_lookup hy) (.inr rfl))
 ·exact Jg (fo b hb)
 ·rcases(f b hb).2.2.2.1 with z | z
  ·exact I.ok.noex b o e z
  ·exact Je (Jf (Heap.lt_size e) (Ji I.ok.bsz z)) (Ju _)
 ·exact I.os.symm
 ·have e1:(zs++ys)[i]? =some y:=e1;by_cases hi:i < zs.length
  ·rw[List.getElem?_append_left (by rw[List.length_replicate];exact hi),List.getElem?_replicate,if_pos hi] at e2;cases e2
  ·rw[List.getElem?_append_right (by omega)] at e1;rw[List.getElem?_append_right (by rw[List.length_replicate];omega),List.length_replicate] at e2;generalize i - zs.length=i at e1 e2;obtain⟨j,ej,eN,ek,ek'⟩:=S.fr i y e1;have es:σ[j]? =some (some v):=by
    have q:(frees σ js)[i]? =some (some v):=e2;unfold frees at q;rw[List.getElem?_map,ej] at q;have q':(σ[j]?).getD none=some v:=Option.some.inj q;cases e:σ[j]? with
    | none=>rw[e] at q';cases q'
    | some o=>rw[e] at q';cases q';rfl
   obtain⟨m0,_,hl⟩:=I.loc;obtain⟨u,r,l⟩:=hl j y v eN es (.inr ek);rcases l with ⟨l,_⟩ | ⟨_,c,ec,hc⟩
   ·rcases ek with ek | ek <;> · rw[ek] at l;cases l
   ·have hk:y∈cl.map (·.1):=by
     rcases ek' with q | q
     ·exact S.has _ (PySem.mem_of_lookup q) (.inl rfl)
     ·exact S.has _ (PySem.mem_of_lookup q) (.inr rfl)
    obtain⟨c',ec'⟩:=zbr hk;have e:=S.cells ec';rw[ec] at e;cases e;exact⟨u,r,.inr ⟨ek',c,ec',kept y c ec' _ hc⟩⟩
 ·obtain⟨v,q⟩:=I.cell y c (S.cells e);exact⟨v,kept y c e v q⟩
 ·have hp':p∈X.pn++pins:=(List.mem_append.mp hp).elim (λz=>Je (show p∈([]:QE) from z) (by simp)) id;obtain⟨a,b,c,d,e⟩:=I.pin p hp';exact⟨k _ _ a,b,Jg (Heap.lt_size a),λz=>(List.mem_cons.mp (I.stkSub _ z)).elim c d,e⟩
 ·show _=(zs++ys).length;unfold frees;rw[List.length_append,List.length_append,List.length_replicate,List.length_map,S.len]
theorem zid (I:Inv X pins σ H0 s0){fp:QO}(f:∀b∈fp,FpOk X pins H0 b)(U0:Un (frs X.stack) fp H0 H s0.heap s.heap)(ho:s.os=s0.os)
   (J:Inv (cxC X N scope cl s H fp) pins' σ' H1 s1):Inv X pins σ H1 s1:=by
 have U1:Un (frs X.stack) fp H H1 s.heap s1.heap:=J.base;exact I.call' (J.os.trans ho) (U0.trans U1) J.hok J.bare λb hb=>⟨(f b hb).2.2.2.1,(f b hb).2.1,(f b hb).2.2.2.2.1,(f b hb).2.2.2.2.2⟩
variable {iter elt:Expr}{ifs:List Expr}{px pos:Pos}{wi:TI}{tt:TT}{te:TE}
noncomputable abbrev _root_.Jr:=@Nat.lt_succ_of_lt
theorem zgu {zs:QP}{W:Shared->Hp->List Addr->Value->Shared->Prop}(S:zo X x ys js scope cl)(hc:X.calm=true)(G:∀s₀ H₀ ex,PG (cxC X (zs++ys) scope cl s₀ H₀ ex) tg g)(ht:∀s₀ H₀ ex,PTs (cxC X (zs++ys) scope cl s₀ H₀ ex) ifs tt)(he:∀s₀ H₀ ex,PE ((cxC X (zs++ys) scope cl s₀ H₀ ex).wish (W s₀ H₀ ex)) elt te)
     {fp:QO}   (I2:Inv X pins σ H2 s2) (T:Turn X.prog X.w X.K tg J fp it tn) (st2:tn 0 s2.heap) (f2:∀b∈fp,FpOk X pins H2 b)
   (q:∀p,H2 p=none->zkF zs.length g J p σ js tt te H2 Q)
  {R:Value->Addr->Result->Shared->Prop}
  (hR:∀(p:Addr) (C:Addr) (H':Hp) (s':Shared) (m:QB),s2.heap.objs.size<=C->s'.heap.Ns C m->H' C=none->Inv X pins σ H' s'->Q (.ref p) H'->R (.ref p) C (.ok .next) s')
  (hW:∀e s',W {s2 with heap:=(Lp s2.heap)} (upd H2 s2.heap.objs.size (.lst [])) fp e s'->notedBy (model X.prog X.w) X.A (compEnvC scope cl (Lp s2.heap).objs.size X.env) (λe s'=>R (.ref s2.heap.objs.size) (Lp s2.heap).objs.size (.error e) s') e s'):
  wpAny (model X.prog X.w) X.A (newList []) (λacc s₃=>wpAny (model X.prog X.w) X.A (newFunctionEnv scope X.env.globals cl [] X.env.qual none .none (some X.env)) (λcenv s₄=>
   codeAny (model X.prog X.w) X.A (.compStart (.ListComp elt [⟨tg,iter,ifs,0⟩] scope pos) 0 (.ref it) acc {cenv with scope:=relabel scope X.env}) (R acc cenv.locals) s₄) X.xe s₃) X.xe s2:=by
 refine wpAny_newObj_type (wpAny_newFunctionEnv S.nocell (by intro y hy;simp at hy) (λh₁ hns₁ hsb₁=>?_) S.kind);have fr2:H2 s2.heap.objs.size=none:=I2.hok.fresh (Jb _);obtain⟨Y1,⟨m0,w0⟩,turn⟩:=q _ fr2;have I3:Inv X pins σ (upd H2 s2.heap.objs.size (.lst [])) {s2 with heap:=Lp s2.heap}:=
  I2.laid (t':=s2.toks) (λb u e=>Heap.get?_push_of_some _ e) (Jb _) ⟨Nat.zero_le _,[],0,.nil,Heap.get?_push_size _ rfl⟩
 have U0:Un (frs X.stack) fp H2 (upd H2 s2.heap.objs.size (.lst [])) s2.heap (Lp s2.heap):=
  Un.laid (λb u e=>Heap.get?_push_of_some _ e) (Jb _) fr2
 have fo:∀b∈fp,b < s2.heap.objs.size:=λb hb=>by obtain⟨o,e,_⟩:=T.obj 0 _ st2 b hb;exact Heap.lt_size e
 have f3:∀b∈fp,FpOk X pins (upd H2 s2.heap.objs.size (.lst [])) b:=λb hb=>⟨by rw[zg (Jg (fo b hb))];exact(f2 b hb).1,(f2 b hb).2⟩
 have hold:∀b o,(Lp s2.heap).get? b=some o->h₁.get? b=some o:=λb o e=>
  hsb₁.extBut b o (Jg (Heap.lt_size e)) (Heap.get?_push_of_some _ e)
 have fo3:∀b∈fp,b < (Lp s2.heap).objs.size:=λb hb=>by rw[Heap.size_push];exact Jr (fo b hb)
 have I4:=zpQ (zs:=zs) (t1:=s2.toks+([]:QK).length) S I3 f3 fo3 hns₁ hold;have st4:tn 0 h₁:=T.keep _ _ _ st2 λb _ o e=>hold b o (Heap.get?_push_of_some _ e);have stat:∀{H':Hp},(∀b∈fp,H' b=none)->∀b∈fp,FpOk (cxC X (zs++ys) scope cl {s2 with heap:=Lp s2.heap} (upd H2 s2.heap.objs.size (.lst [])) fp) (X.pn++pins) H' b:=λhn b hb=>
  ⟨hn b hb,Jg (fo3 b hb),I4.ok.exfs b hb,.inl hb,λy c e=>(f2 b hb).2.2.2.2.1 y c (S.cells e),λp hp=>(f2 b hb).2.2.2.2.2 p ((List.mem_append.mp hp).elim (λz=>Je (show p∈([]:QE) from z) (by simp)) id)⟩
 have loop:codeAny (model X.prog X.w) X.A (.compLoop (.ListComp elt [⟨tg,iter,ifs,0⟩] scope pos) 0 (.ref it) (.ref s2.heap.objs.size) (compEnvC scope cl (Lp s2.heap).objs.size X.env))
   (R (.ref s2.heap.objs.size) (Lp s2.heap).objs.size) {s2 with heap:=h₁,toks:=s2.toks+([]:QK).length}:=by
  refine codeAny_loop rfl (λn s'=>∃i acc σ0 H',σ0.length=zs.length/\Inv (cxC X (zs++ys) scope cl {s2 with heap:=Lp s2.heap} (upd H2 s2.heap.objs.size (.lst [])) fp) (X.pn++pins) (σ0++frees σ js) H' s'/\tn i s'.heap/\(∀b∈fp,H' b=none)/\Y1 i n acc H')
   (λn s5 hI=>?_) m0 ⟨0,[],List.replicate zs.length none,_,List.length_replicate ..,I4,st4,λb hb=>(f3 b hb).1,w0⟩
  show wpAny _ X.A ((compTurn (.ListComp elt [⟨tg,iter,ifs,0⟩] scope pos) 0 (.ref it) (.ref s2.heap.objs.size) (compEnvC scope cl (Lp s2.heap).objs.size X.env)).onRaise (λx=>do noteFrame x (compEnvC scope cl (Lp s2.heap).objs.size X.env);theTreesLotGoes x)) _ _ s5;refine wpAny_noted ?_;rw[compTurn_list];obtain⟨i,acc,σ0,H5,l0,I5,st5,fr5,w5⟩:=hI;refine Ja (wpAny_standAt (Ja ?_));rcases turn i n acc H5 w5 with ⟨stop,qn⟩ | ⟨go,step⟩
  ·refine wpAny_mono (T.done (cxC X (zs++ys) scope cl {s2 with heap:=Lp s2.heap} (upd H2 s2.heap.objs.size (.lst [])) fp) rfl rfl rfl hc i _ s5 _ H5 _ I5 (stat fr5) st5 stop) (λr s6 ⟨hr,I6⟩=>?_) λ_ _ e=>e;subst hr;obtain⟨m,hn,_⟩:=I6.loc;exact wpAny_pure (hR _ _ H5 s6 m (by rw[Heap.size_push];exact Nat.le_succ _) hn I6.free (zid I2 f2 U0 (by rfl) I6) qn)
  ·refine wpAny_mono (T.item (cxC X (zs++ys) scope cl {s2 with heap:=Lp s2.heap} (upd H2 s2.heap.objs.size (.lst [])) fp) rfl rfl rfl hc i _ s5 _ H5 _ I5 (stat fr5) st5 go) (λr s6 ⟨u,hr,h6⟩=>?_) λ_ _ e=>e;subst hr;refine Ja (wpAny_mono h6 (λ_ s7 ⟨v,H7,I7,r7,y7,st7,fr7⟩=>?_) λ_ _ e=>e);have I7':=I7.pinned (stat fr7) (T.obj _ _ st7);obtain⟨vs,lv,gv,step⟩:=step v _ y7;refine Ja (wpAny_mono (G _ _ _ _ s7 _ H7 v u (fun σ8 H8=>σ8=vs++frees σ js/\H8=H7) I7' r7 (gv _ _ l0 ⟨rfl,rfl⟩)) (λ_ s8 ⟨σ8,H8,I8,e8,e8'⟩=>?_) λ_ _ e=>e.elim);subst e8 e8';refine Ja (wpAny_mono (ht _ _ _ _ s8 _ _ _ I8 step) (λok s9 ⟨H9,I9,q9⟩=>?_) λ_ _ e=>e.elim);have again:∀{acc':QQ} {H10:Hp} {s10:Shared},Inv (cxC X (zs++ys) scope cl {s2 with heap:=Lp s2.heap} (upd H2 s2.heap.objs.size (.lst [])) fp) (X.pn++pins++ze9 fp s7.heap) (vs++frees σ js) H10 s10->
     (∃m',m' < n/\Y1 (i+1) m' acc' H10)->∃m,m < n/\∃i acc σ0 H',σ0.length=zs.length/\Inv (cxC X (zs++ys) scope cl {s2 with heap:=Lp s2.heap} (upd H2 s2.heap.objs.size (.lst [])) fp) (X.pn++pins) (σ0++frees σ js) H' s10/\tn i s10.heap/\(∀b∈fp,H' b=none)/\Y1 i m acc H':=λ{acc' H10 s10} I10 ⟨m',hm,w10⟩=>by
    refine⟨m',hm,i+1,acc',vs,H10,lv,I10.unpinned,T.keep _ _ _ st7 λb hb o e=>(I10.pin (b,o) (Jh _ (Jh _ (zbQ hb e)))).1,λb hb=>?_,w10⟩;obtain⟨o,e,d⟩:=T.obj _ _ st7 b hb;exact(I10.pin (b,o) (Jh _ (Jh _ (zbQ hb e)))).2.1
   cases ok with
   | false=>rw[if_neg Jc] at q9;exact wpAny_pure ⟨rfl,again I9 q9⟩
   | true=>
    rw[if_pos rfl] at q9;refine Ja (Ja (wpAny_mono (he _ _ _ _ s9 _ _ _ (I9.wish _) q9) (λy s10 ⟨z,H10,I10',r10,e10,l10,w10⟩=>?_) hW));have I10:=I10'.unwish;refine Ja (wpAny_mono (zgv (X:=cxC X (zs++ys) scope cl {s2 with heap:=Lp s2.heap} (upd H2 s2.heap.objs.size (.lst [])) fp) _ s10 _ H10 (.ref s2.heap.objs.size) [z] (.ref s2.heap.objs.size) [y] (λ_ H'=>H'=upd H10 s2.heap.objs.size (.lst (acc++ [z]))) I10 rfl (.cons r10 .nil) ⟨_,acc,z,rfl,rfl,e10,l10,rfl⟩)
     (λ_ s11 ⟨_,H11,I11,_,e11⟩=>?_) λ_ _ e=>e.elim)
    subst e11;exact wpAny_pure (wpAny_pure ⟨rfl,again I11 w10⟩)
 exact codeAny_compStart_list loop (T.self _ 0 _ _ _ st4 loop)
noncomputable def CRun (X:Cx)(tg:Expr)(Cw:It->Addr->St->Hp->VK->Prop)(iter elt:Expr)(ifs:List Expr)(scope:Scope)(cl:List (Str ×Addr))(pos:Pos):Prop:=
 ∀{pins:QE} {σ:St} {s2:Shared} {H2:Hp} {it:Addr} {fp:QO} {tn:Nat->Heap->Prop} {J:It},Inv X pins σ H2 s2->Turn X.prog X.w X.K tg J fp it tn->tn 0 s2.heap->(∀b∈fp,FpOk X pins H2 b)->
  ∀{Q:VK},(∀p,H2 p=none->Cw J p σ H2 Q)->∀{use:Option (Value->Sem Unit)} {F:QC},
  (∀(p:Addr) (C:Addr) (H':Hp) (s':Shared) (m:QB),s2.heap.objs.size<=C->s'.heap.Ns C m->H' C=none->Inv X pins σ H' s'->Q (.ref p) H'->compPost (model X.prog X.w) X.A X.xe use F (.ref p) C (.ok .next) s')->
  wpAny (model X.prog X.w) X.A (newList []) (λacc s₃=>wpAny (model X.prog X.w) X.A (newFunctionEnv scope X.env.globals cl [] X.env.qual none .none (some X.env)) (λcenv s₄=>
   codeAny (model X.prog X.w) X.A (.compStart (.ListComp elt [⟨tg,iter,ifs,0⟩] scope pos) 0 (.ref it) acc {cenv with scope:=relabel scope X.env}) (compPost (model X.prog X.w) X.A X.xe use F acc cenv.locals) s₄) X.xe s₃) X.xe s2
theorem tgN (S:zo X x ys js scope cl):PG (cxC X (x::ys) scope cl s₀ H₀ ex) (.Name x px) (zaM 0):=zdk S.nd rfl (.inl (lookup_relabel_local S.tgt)) (.inr (lookup_relabel_local S.tgt))
theorem crun (S:zo X x ys js scope cl)(hc:X.calm=true)(ht:∀s₀ H₀ ex,PTs (cxC X (x::ys) scope cl s₀ H₀ ex) ifs tt)(he:∀s₀ H₀ ex,PE (cxC X (x::ys) scope cl s₀ H₀ ex) elt te):CRun X (.Name x px) (λJ p σ H1 Q=>zfH J p σ js tt te H1 Q) iter elt ifs scope cl pos:=
 λI2 T st2 f2 _ q _ _ hR=>zgu (zs:=[x]) (W:=λ_ _ _ _ _=>False) S hc (λ_ _ _=>tgN S) ht he I2 T st2 f2 (λp hp=>(q p hp).g) hR λ_ _ z=>z.elim
theorem zf9 (hr:CRun X tg Cw iter elt ifs scope cl pos)(S:zo X x ys js scope cl)(hi:PI X tg iter wi)
  (hs:∀x,foldedSetIterable iter X.env x=pure x:=by intro _;rfl):PE X (.ListComp elt [⟨tg,iter,ifs,0⟩] scope pos) (znO wi Cw):=by
 intro pins s σ H Q I h;rw[eval_ListComp];refine wpAny_comprehension_free (use:=none) rfl hs S.clos S.kind S.names (thn (hi pins s σ H _ I h) λv s1 h1=>thn h1 λitv s2 h2=>?_);obtain⟨it,fp,tn,J,H2,e,I2,T,st2,f2,q⟩:=h2;subst e;refine hr I2 T st2 f2 (Q:=Q) q λp C H' s' m hC hn hf I' q'=>?_;refine⟨m,hn,λh' hb=>⟨.ref p,H',?_,rfl,q'⟩⟩;exact I'.turned (it:=C) (t':=s'.toks) (λb o hne e=>hb.extBut b o hne e) hf (Jy (Jf I2.lt hC)) (.inr (Ji I2.sz hC))
  (λy c e z=>by obtain⟨v,w⟩:=I2.cell y c e;subst z;exact Ju _ (Jf w.lt hC)) λp hp z=>by have q:=Heap.lt_size (I2.pin p hp).1;rw[z] at q;exact Ju _ (Jf q hC)
theorem zdw (S:zo X x ys js scope cl)(hc:X.calm=true)(hi:PI X (.Name x px) iter wi)(ht:∀s₀ H₀ ex,PTs (cxC X (x::ys) scope cl s₀ H₀ ex) ifs tt)(he:∀s₀ H₀ ex,PE (cxC X (x::ys) scope cl s₀ H₀ ex) elt te)
  (hs:∀x,foldedSetIterable iter X.env x=pure x:=by intro _;rfl):PE X (.ListComp elt [⟨.Name x px,iter,ifs,0⟩] scope pos) (zqR wi js tt te):=
 zf9 (crun S hc ht he) S hi hs
theorem zlh {i:Nat}{y:Str}{py spos:Pos}(hr:CRun X tg Cw iter elt ifs scope cl pos)(S:zo X x ys js scope cl)(hi:PI X tg iter wi)
  (hN:X.N.Nodup) (hy:X.N[i]? =some y) (hx:Loc X.env.scope y) (hsw:swapsWith (.ListComp elt [⟨tg,iter,ifs,0⟩] scope pos) (some (.Name y py)) spos.line X.env=pure true)
  (hf:X.fn y=true\/X.env.scope.names.lookup y=some .local:=by first | exact .inl rfl | exact .inr rfl | assumption)
  (hs:∀x,foldedSetIterable iter X.env x=pure x:=by intro _;rfl):PS X (.Assign [.Name y py] (.ListComp elt [⟨tg,iter,ifs,0⟩] scope pos) spos) (tAsg (znO wi Cw) (zaM i)):=by
 intro pins s σ H D I h;rw[exec_Assign_Name_used _ _ _ _ hsw];refine Ja (wpAny_standAt (Ja ?_));show wpAny _ X.A (do let _<-comprehension (.ListComp elt [⟨tg,iter,ifs,0⟩] scope pos) scope X.env _ (newList []) false (eval iter X.env) (some (assign (.Name y py) X.env))) _ _ s;refine Ja (wpAny_mono (wpAny_comprehension_free (use:=some (assign (.Name y py) X.env)) (Q:=λ_ s'=>SP X pins D .next s') rfl hs S.clos S.kind S.names
  (thn (hi pins s σ H _ I h) λv s1 h1=>thn h1 λitv s2 h2=>?_)) (λ_ s' hq=>wpAny_pure (wpAny_pure hq)) λ_ _ e=>e)
 obtain⟨it,fp,tn,J,H2,e,I2,T,st2,f2,q⟩:=h2;subst e;refine hr I2 T st2 f2 (Q:=λx H1=>zaM i x σ H1 D.nx) q λp C H' s' m hC hn hf' I' q'=>?_;have neL:C≠X.env.locals:=Jy (Jf I2.lt hC);have nfs:C∉X.fs:=I2.nofs hC;have hn0:=hn;obtain⟨o,es,ep,ho,hd,r⟩:=hn;have Ip:Inv X (pins++ [(C,o)]) σ H' s':=I'.pins_of λp hp=>(List.mem_append.mp hp).elim (λz=>I'.pin p (Jh _ z)) λz=>by
  have e:p=(C,o):=by simpa using z
  subst e;exact⟨ho,hf',neL,nfs,λv w=>by rw[hd] at w;cases w⟩
 show wpAny _ _ (assign (.Name y py) X.env (.ref p)) _ _ s';refine thn (zdk (pos:=py) hN hy hx hf _ s' σ H' (.ref p) (.ref p) _ Ip rfl q') λ_ s'' ⟨σ8,H8,I8,q8⟩=>?_;have pc:=I8.pin (C,o) (Jh _ (Jh _ (by simp)));refine⟨m,⟨o,es,ep,pc.1,hd,r⟩,λh' hb=>⟨σ8,H8,?_,q8⟩⟩;have I9:Inv X pins σ8 H8 s'':=I8.pins_of λp hp=>I8.pin p (Jh _ (Jp _ hp));exact I9.turned (it:=C) (t':=s''.toks) (λb o hne e=>hb.extBut b o hne e) pc.2.1 neL (.inr (Ji I2.sz hC))
  (λy c e z=>by obtain⟨v,w⟩:=I2.cell y c e;subst z;exact Ju _ (Jf w.lt hC)) λp hp z=>by have q:=Heap.lt_size (I2.pin p hp).1;rw[z] at q;exact Ju _ (Jf q hC)
theorem zfm {i:Nat}{y:Str}{py spos:Pos}(S:zo X x ys js scope cl)(hc:X.calm=true)(hi:PI X (.Name x px) iter wi)(ht:∀s₀ H₀ ex,PTs (cxC X (x::ys) scope cl s₀ H₀ ex) ifs tt)(he:∀s₀ H₀ ex,PE (cxC X (x::ys) scope cl s₀ H₀ ex) elt te)
  (hN:X.N.Nodup) (hy:X.N[i]? =some y) (hx:Loc X.env.scope y) (hsw:swapsWith (.ListComp elt [⟨.Name x px,iter,ifs,0⟩] scope pos) (some (.Name y py)) spos.line X.env=pure true)
  (hf:X.fn y=true\/X.env.scope.names.lookup y=some .local:=by first | exact .inl rfl | exact .inr rfl | assumption)
  (hs:∀x,foldedSetIterable iter X.env x=pure x:=by intro _;rfl):PS X (.Assign [.Name y py] (.ListComp elt [⟨.Name x px,iter,ifs,0⟩] scope pos) spos) (tAsg (zqR wi js tt te) (zaM i)):=
 zlh (crun S hc ht he) S hi hN hy hx hsw hf hs
end
end L2
namespace L2
open PySem PySem.Spec PyProof.Rows
section
variable {X:Cx}
noncomputable def zmA (i j:Int):Prop:=0 < j/\j < 10 ^ 100
theorem zmA.log (h:zmA i j):j.natAbs.log2 < 9000:=by
 have h1:j.natAbs < 10 ^ 100:=by have:=h.1;have:=h.2;omega
 have h2:j.natAbs < 2 ^ 400:=Nat.lt_trans h1 (by decide+kernel);have h3:j.natAbs≠0:=by have:=h.1;omega
 have:=(Nat.log2_lt h3).mpr h2;omega
theorem zm1:OpR X (binaryOp .FloorDiv) (rI zmA λi j=>.int (i / j)):=opI λi j _ _ _ _ _ hc q=>by rw[<-Int.fdiv_eq_ediv_of_nonneg i (Int.le_of_lt hc.1)] at q;exact floordiv_int (by have:=hc.1;omega) q (.inl (PyProof.noPylong_of_log2 hc.log))
noncomputable def ztx (K:QA):List V->Hp->VK->Prop:=λxs H Q=>∃x T t b,xs=[x,.ty T]/\TyOf K H x t/\PySem.W.kitOne K t (.type T)=some b/\Q (.bl b) H
theorem z6:zab X (.builtin "isinstance") (ztx X.K):=by intro pins s σ H xs us Q I r h;obtain⟨x,T,t,b,rfl,ty,e,q⟩:=h;obtain⟨u,w',rfl,ru,rw'⟩:=vals2 r;cases (show w'=Value.type T from rw');exact zlp I ru ty e λtk=>⟨.bl b,H,I.tok tk,rfl,q⟩
example (K:QA):PySem.W.kitOne K (.type "NoneType") (.type "int")=some false:=by rfl
example (K:QA):PySem.W.kitOne K (.type "int") (.type "int")=some true:=by rfl
example (K:QA):PySem.W.kitOne K (.type "tuple") (.type "str")=some false:=by rfl
example (K:QA):PySem.W.kitOne K (.type "bool") (.type "int")=some true:=by rfl
example (K:QA):PySem.W.kitOne K (.type "str") (.type "bool")=some false:=by rfl
noncomputable def Its (x:Str):It:=⟨λi _=>i < x.cps.size,λi H v H'=>H'=H/\∃c,x.cps[i]? =some c/\v=.str ⟨#[c]⟩,λi _=>x.cps.size<=i⟩
theorem ziK {P:Program}{w:World}{K:QA}{tg:Expr}{x:Str}{it:Addr}{n:String}{t:Tok}(hn:["enumerate","zip","dict_itemiterator","dict_reverseitemiterator","odict_iterator","itertools.zip_longest","itertools.pairwise"].contains n=false)
  (W:∀A':Around,A'.handled=none->Walks P w A' it [it] [it] x.cps.size (SignAt x) (λi h=>h.IsStrIter it n x t i))
  (E0:∀(A':Around) (s:Shared) (Q:Option Value->Shared->Prop) (E:QC) (i:Nat),A'.handled=none->s.heap.IsStrIter it n x t i->x.cps.size<=i->(∀h',(∀b o,b≠it->s.heap.get? b=some o->h'.get? b=some o)->Q none {s with heap:=h'})->wpAny (model P w) A' (pyNext (.ref it)) Q E s)
  (S0:∀(A':Around) (s:Shared) (Q:QC) (E:QC) (i:Nat),s.heap.IsStrIter it n x t i->Q (.ref it) s->wpAny (model P w) A' (pyIter (.ref it)) Q E s):
  Turn P w K tg (Its x) [it] it (λi h=>h.IsStrIter it n x t i) where
 mem:=by simp
 obj:=λi h st b hb=>by
  have e:b=it:=by simpa using hb
  subst e;obtain⟨o,e,c,d⟩:=st;exact⟨o,e,λv z=>by rw[d] at z;cases z⟩
 keep:=λi h h' st k=>by obtain⟨o,e,r⟩:=st;exact⟨o,k it (by simp) o e,r⟩
 item:=by intro X hP hw hK hc i pins s σ H E I hf st hg;subst hP hw hK;obtain⟨f0,f1,f2,f3,f4,f5⟩:=hf it (by simp);refine(W X.A (I.ok.hd hc)).item i s _ _ hg st λv h' tk hv st' kk=>?_;obtain⟨c,u,hc',rfl⟩:=hv;have I1:Inv X pins σ H {s with heap:=h',toks:=tk}:=I.turned (λb o hb e=>kk b o (by simpa using hb) e) f0 f1 f3 f4 f5;obtain⟨o,e,cl,d⟩:=id st';exact⟨_,rfl,zfN (s:={s with heap:=h',toks:=tk}) e cl d hn ⟨.str ⟨#[c]⟩,H,I1,⟨u,rfl⟩,⟨rfl,c,hc',rfl⟩,st',λb hb=>(hf b hb).1⟩⟩
 done:=by intro X hP hw hK hc i pins s σ H E I hf st hg;subst hP hw hK;obtain⟨f0,f1,f2,f3,f4,f5⟩:=hf it (by simp);exact E0 X.A s _ _ i (I.ok.hd hc) st hg λh' eb=>⟨rfl,I.turned (t':=s.toks) (λb o hb e=>eb b o hb e) f0 f1 f3 f4 f5⟩
 self:=λA i s Q E st h=>S0 A s Q E i st h
noncomputable def iStr (tl:TE):TI:=fun σ H R=>tl σ H λx H1=>∃z,x=.str z/\R (Its z) H1
theorem zjQ (hl:PE X l tl):PI X tg l (iStr tl):=by
 intro pins s σ H R I h;refine thn (hl pins s σ H _ I h) λv s1 ⟨x,H1,I1,r1,q1⟩=>?_;obtain⟨z,rfl,q⟩:=q1;obtain⟨t,rfl⟩:=r1;have fp:∀b∈ [s1.heap.objs.size],FpOk X pins H1 b:=λb hb=>by
  have e:b=s1.heap.objs.size:=by simpa using hb
  subst e;exact I1.fpOk (Jb _) (I1.hok.fresh (Jb _))
 cases ha:z.cps.all (· < 128)
 ·refine wpAny_pyIter_wide ha ?_;exact⟨s1.heap.objs.size,[s1.heap.objs.size],_,_,H1,rfl,I1.kept (t':=s1.toks) λb o e=>Heap.get?_push_of_some _ e,
   ziK (n:= "str_iterator") (t:=t) (by decide) (λA' hA=>Walks.strWide hA _ z t) (λA' s Q E i hA st hi hQ=>wpAny_pyNext_wide_end hA st (by simpa using hi) λh' he'=>hQ h' λb o hb e=>he' b o hb e) (λA' s Q E i st hQ=>wpAny_pyIter_striter_wide st hQ),
   ⟨_,Heap.get?_push_size _ rfl,rfl,rfl⟩,fp,q⟩
 ·refine wpAny_pyIter_ascii ha ?_;exact⟨s1.heap.objs.size,[s1.heap.objs.size],_,_,H1,rfl,I1.kept (t':=s1.toks) λb o e=>Heap.get?_push_of_some _ e,
   ziK (n:= "str_ascii_iterator") (t:=t) (by decide) (λA' hA=>Walks.strAscii hA _ z t) (λA' s Q E i hA st hi hQ=>wpAny_pyNext_ascii_end hA st (by simpa using hi) λh' he'=>hQ h' λb o hb e=>he' b o hb e) (λA' s Q E i st hQ=>wpAny_pyIter_striter_ascii st hQ),
   ⟨_,Heap.get?_push_size _ rfl,rfl,rfl⟩,fp,q⟩
theorem zg8 {z:Str}{g:TG}{tb:TS}{D:Ends}{σ:St}{H:Hp}(Pv:Nat->St->Hp->Prop)(h0:Pv 0 σ H)
  (hs:∀i c σ H,z.cps[i]? =some c->Pv i σ H->g (.str ⟨#[c]⟩) σ H fun σ2 H2=>tb {D with nx:=Pv (i+1),ct:=Pv (i+1),bk:=D.nx} σ2 H2) (hd:∀σ H,Pv z.cps.size σ H->D.nx σ H):
  ∃W:Nat->Nat->St->Hp->Prop,(∃m,W 0 m σ H)/\∀i m σ H,W i m σ H->
   ((Its z).stop i H/\D.nx σ H)\/((Its z).go i H/\∃N:St->Hp->Prop,(∀σ' H',N σ' H'->∃m',m' < m/\W (i+1) m' σ' H')/\∀x H',(Its z).yld i H x H'->g x σ H' fun σ2 H2=>tb {D with nx:=N,ct:=N,bk:=D.nx} σ2 H2):=by
 refine⟨λi m σ H=>m=z.cps.size - i/\i<=z.cps.size/\Pv i σ H,⟨z.cps.size,by simp,Nat.zero_le _,h0⟩,?_⟩;rintro i m σ H ⟨rfl,hi,p⟩;by_cases hlt:i < z.cps.size
 ·refine .inr ⟨hlt,Pv (i+1),fun σ' H' p'=>⟨z.cps.size - (i+1),by omega,rfl,hlt,p'⟩,λx H' y=>?_⟩;obtain⟨e,c,ec,ex⟩:=y;subst e ex;exact hs i c σ _ ec p
 ·have e:i=z.cps.size:=by omega
  subst e;exact .inl ⟨Jb _,hd σ H p⟩
noncomputable def Itrs (lo st:Int)(n:Nat):It:=⟨λi _=>i < n,λi H x H'=>H'=H/\x=.int (lo+i * st),λi _=>n<=i⟩
theorem zig {P:Program}{w:World}{K:QA}{tg:Expr}(it:Addr)(lo st:Int)(n:Nat):Turn P w K tg (Itrs lo st n) [it] it (λi h=>IsRangeIter h it (lo+(i:Nat) * st) ((n:Int) - (i:Nat)) st) where
 mem:=by simp
 obj:=λi h st b hb=>by
  have e:b=it:=by simpa using hb
  subst e;exact⟨_,st,λv z=>by
   have z':Data.fields _=Data.cell v:=z;cases z'⟩
 keep:=λi h h' st k=>k it (by simp) _ st
 item:=by intro X hP hw hK hc i pins s σ H E I hf st' hg;subst hP hw hK;obtain⟨f0,f1,f2,f3,f4,f5⟩:=hf it (by simp);have W:=Walks.range (prog:=X.prog) (w:=X.w) (I.ok.hd hc) it lo st n;refine W.item i s _ _ hg st' λv h' tk hv st'' kk=>?_;obtain⟨t,rfl⟩:=hv;have I1:Inv X pins σ H {s with heap:=h',toks:=tk}:=I.turned (λb o hb e=>kk b o (by simpa using hb) e) f0 f1 f3 f4 f5;exact⟨_,rfl,zfN (s:={s with heap:=h',toks:=tk}) (n:= "range_iterator") st'' rfl rfl (by decide) ⟨.int (lo+i * st),H,I1,⟨t,rfl⟩,⟨rfl,rfl⟩,st'',λb hb=>(hf b hb).1⟩⟩
 done:=by intro X hP hw hK hc i pins s σ H E I hf st' hg;subst hP hw hK;obtain⟨f0,f1,f2,f3,f4,f5⟩:=hf it (by simp);exact wpAny_pyNext_range_end (I.ok.hd hc) st' (by have:n<=i:=hg;omega) λh' eb=>⟨rfl,I.turned (t':=s.toks) (λb o hb e=>eb b o hb e) f0 f1 f3 f4 f5⟩
 self:=λ_ _ _ _ _ st h=>wpAny_pyIter_rangeiter st h
noncomputable def zti (ta:TA):TI:=fun σ H R=>ta σ H λvs H1=>∃j c:Int,vs=[.int 0,.int j,.int c]/\0<=j/\j < 2 ^ 60/\0 < c/\c < 1000/\R (Itrs 0 c ((j+c - 1) / c).toNat) H1
theorem ze3 {j c:Int}(h0:0<=j)(hc:0 < c):Builtin.Range.rangeSize 0 j c=(j+c - 1) / c:=by
 unfold Builtin.Range.rangeSize;rw[if_pos hc];by_cases h:(0:Int) < j
 ·rw[if_pos h];have e:j+c - 1=(j - 0 - 1)+c * 1:=by omega
  rw[e,Int.add_mul_ediv_left _ _ (by omega)]
 ·rw[if_neg h];have e:j=0:=by omega
  subst e;rw[Int.ediv_eq_zero_of_lt (by omega) (by omega)]
theorem vals3 {x y z:V}(r:Vals [x,y,z] us):∃u v w',us=[u,v,w']/\RelV x u/\RelV y v/\RelV z w':=by
 cases r with
 | cons r1 r=>cases r with
  | cons r2 r=>cases r with
   | cons r3 r=>cases r;exact⟨_,_,_,rfl,r1,r2,r3⟩
theorem zil {j c:Int}(h0:0<=j)(h1:j < 2 ^ 60)(hc:0 < c)(hc2:c < 1000):Builtin.Range.small 0 j c=true:=by have b1:(j+c - 1) / c<=j+c - 1:=Int.ediv_le_self _ (by omega);have b2:0<=(j+c - 1) / c:=Int.ediv_nonneg (by omega) (by omega);unfold Builtin.Range.small;rw[ze3 h0 hc];simp only[Builtin.Range.rangeFitsLong,Bool.and_eq_true,Bool.or_eq_true,decide_eq_true_eq,beq_iff_eq];generalize(j+c - 1) / c=d at b1 b2 ⊢;have hc':c > 0:=hc;simp only[hc',if_true,Bool.and_eq_true,decide_eq_true_eq];omega
theorem zf8 {a b c:Expr}{p pos:Pos}(hg:Gl X "range") (hm:X.mg "range" =none) (ha:PA X [a,b,c] ta) (hs:starEach [a,b,c] X.env=[(false,eval a X.env),(false,eval b X.env),(false,eval c X.env)]:=by rfl)
  (hs2:starEach [b,c] X.env=[(false,eval b X.env),(false,eval c X.env)]:=by rfl):PI X tg (.Call (.Name "range" p) [a,b,c] [] pos) (zti ta):=by
 intro pins s σ H R I h;refine Call_ (zbo I hg hm boot_range (PyProof.Rows.callWith_type1 (thn (ha pos pins s σ H _ I h) λus s1 ⟨vs,H1,I1,r1,q1⟩=>?_) (by rw[hs,hs2]) (by rw[hs2];rfl)));obtain⟨j,c,rfl,h0,h1,hc,hc2,q⟩:=q1;obtain⟨u,v,w',rfl,⟨t1,rfl⟩,⟨t2,rfl⟩,⟨t3,rfl⟩⟩:=vals3 r1;refine call_range_3 (by omega) ?_ (.inl (PyProof.noPylong_small (by omega)));refine wpAny_pyIter_range (IsRange.new ..) (zil h0 h1 hc hc2) ?_;have I2:Inv X pins σ H1 {s1 with heap:=s1.heap.push {cls:=.type "range",data:=.fields #[.int 0 t1,.int j t2,.int c t3]}}:=I1.kept (t':=s1.toks) λb o e=>Heap.get?_push_of_some _ e;refine⟨_,[_],_,_,H1,rfl,I2.kept (t':=s1.toks) λb o e=>Heap.get?_push_of_some _ e,zig _ 0 c ((j+c - 1) / c).toNat,?_,λb hb=>?_,q⟩
 ·have b2:0<=(j+c - 1) / c:=Int.ediv_nonneg (by omega) (by omega);have e1:(0:Int)+((0:Nat):Int) * c=0:=by simp
  have e2:(((((j+c - 1) / c).toNat:Nat):Int) - ((0:Nat):Int))=Builtin.Range.rangeSize 0 j c:=by rw[ze3 h0 hc];omega
  show IsRangeIter _ _ ((0:Int)+((0:Nat):Int) * c) (((((j+c - 1) / c).toNat:Nat):Int) - ((0:Nat):Int)) c;rw[e1,e2];exact Heap.get?_push_size _ rfl
 ·have e:=List.mem_singleton.mp hb;subst e;exact I2.fpOk (Jb _) (I2.hok.fresh (Jb _))
theorem zeb (ns:List Int):∀n,n<=ns.length->PySem.preSum (λi=>ns[i]?.getD 0) n=(ns.take n).sum
 | 0,_=>rfl
 | n+1,h=>by have hn:n < ns.length:=h;rw[PySem.preSum,zeb ns n (Nat.le_of_lt h),List.take_add_one,List.getElem?_eq_getElem hn,List.sum_append];simp
theorem zlT (hc:X.calm=true):zab X (.builtin "sum") (λxs H Q=>∃(p:Addr) (ns:List Int),xs=[.ref p]/\SqL X.K H p (ns.map V.int)/\Q (.int ns.sum) H):=by
 intro pins s σ H xs us Q I r h;obtain⟨p,ns,rfl,hp,q⟩:=h;obtain⟨u,rfl,ru⟩:=vals1 r;cases (show u=Value.ref p from ru);obtain⟨its,rv,pl,hz⟩:=I.list hp;refine call_sum_walkG (wpAny_pyIter_list pl.isList ?_);have plt:p < s.heap.objs.size:=by obtain⟨o,e,_⟩:=pl.isList;exact Heap.lt_size e
 have hne:p≠s.heap.objs.size:=Jg plt;refine⟨s.heap.objs.size,[s.heap.objs.size,p],[s.heap.objs.size],its.toArray.size,_,_,λi=>ns[i]?.getD 0,rfl,Walks.list (A:=X.A.in1) (show X.A.in1.handled=none from I.ok.hd hc) s.heap.objs.size p hne its.toArray,⟨⟨_,Heap.get?_push_size _ rfl,rfl,rfl⟩,pl.isList.at λo e=>Heap.get?_push_of_some _ e⟩,λb hb=>?_,λi v hv=>?_,λh' tk t' hk=>?_⟩
 ·rw[Heap.size_push];rcases List.mem_cons.mp hb with rfl | hb
  ·exact Jt _
  ·cases List.mem_singleton.mp hb;exact Jr plt
 ·have hv':its[i]? =some v:=by simpa using hv
  have hx:(ns.map V.int)[i]? =some (V.int (ns[i]?.getD 0)):=by
   have hi:i < its.length:=(List.getElem?_eq_some_iff.mp hv').1;have hl:=rv.length;rw[List.length_map] at hl;rw[List.getElem?_map,List.getElem?_eq_getElem (by omega)]
   rfl
  obtain⟨u,hu,⟨t,rfl⟩⟩:=rv.get hx;rw[hv'] at hu;cases hu;exact⟨t,rfl⟩
 ·have hl:=rv.length;rw[List.length_map] at hl;have e:its.toArray.size=ns.length:=by rw[List.size_toArray];omega
  rw[e,zeb ns _ (Jb _),List.take_length];exact⟨.int ns.sum,H,I.kept λb o eb=>hk b o (λz=>by
   have e:=List.mem_singleton.mp z;have l:=Heap.lt_size eb;rw[e] at l;exact Ju _ l) (Heap.get?_push_of_some _ eb),⟨_,rfl⟩,q⟩
end
end L2
namespace L2
open PySem PySem.Spec PyProof.Rows
noncomputable def cutS (x:Str)(lo hi:Option Int):Str:=⟨((x.cps.toList.drop (HT.sIx x.length 0 lo)).take (HT.sIx x.length x.length hi - HT.sIx x.length 0 lo)).toArray⟩
noncomputable abbrev _root_.Jm:=@List.take_of_length_le
theorem zoj (l:List Nat)(i k:Nat):(List.range k).filterMap (λm=>l[i+m]?)=(l.drop i).take k:=by
 induction k with
 | zero=>simp
 | succ k ih=>
  rw[List.range_succ,List.filterMap_append,ih];by_cases h:i+k < l.length
  ·have e:l[i+k]? =some l[i+k]:=List.getElem?_eq_getElem h;rw[List.take_add_one];simp[List.getElem?_drop,e]
  ·have e:l[i+k]? =none:=List.getElem?_eq_none (by omega);have e2:((l.drop i).take (k+1))=(l.drop i).take k:=by rw[Jm (by rw[List.length_drop];omega),Jm (by rw[List.length_drop];omega)]
   rw[e2];simp[e]
theorem zj8 (lo hi:Option Int)(n:Nat):Builtin.Str.strSliceIndices lo hi 1 n=(List.range (HT.sIx n n hi - HT.sIx n 0 lo)).map λk=>HT.sIx n 0 lo+k:=by
 have c0:∀(v:Int) (d:Nat),(max 0 (min (if v < 0 then v+(n:Int) else v) (n:Int)))=((HT.sIx n d (some v):Nat):Int):=λv d=>by
  rw[<-HT.clip_eq v n d];by_cases h:v < 0
  ·simp only[if_pos h];omega
  ·simp only[if_neg h];omega
 have key:∀a b:Nat,sliceRange (a:Int) (b:Int) 1=(List.range (b - a)).map λk=>a+k:=λa b=>by
  unfold sliceRange;have e1:(if (1:Int) > 0 then(if (a:Int) < (b:Int) then((b:Int) - (a:Int)+1 - 1) / 1 else 0) else(if (a:Int) > (b:Int) then((a:Int) - (b:Int) - 1 - 1) / (-1) else 0)).toNat=b - a:=by
   rw[if_pos (by decide)];split
   ·rw[Int.ediv_one];omega
   ·omega
  show List.map _ (List.range (if (1:Int) > 0 then(if (a:Int) < (b:Int) then((b:Int) - (a:Int)+1 - 1) / 1 else 0) else(if (a:Int) > (b:Int) then((a:Int) - (b:Int) - 1 - 1) / (-1) else 0)).toNat)=_;rw[e1];refine List.map_congr_left λk _=>?_;show((a:Int)+1 * (k:Int)).toNat=a+k;omega
 unfold Builtin.Str.strSliceIndices;simp only[show(1:Int) > 0 by decide,if_true];cases lo with
 | none=>
  cases hi with
  | none=>exact key 0 n
  | some v=>dsimp only;rw[c0 v n];exact key 0 _
 | some u=>
  cases hi with
  | none=>dsimp only;rw[c0 u 0];exact key _ n
  | some v=>dsimp only;rw[c0 u 0,c0 v n];exact key _ _
theorem zlQ (x:Str)(lo hi:Option Int):Txt.slice x lo hi=cutS x lo hi:=by
 have h1:=HT.sIx_le x.length 0 (Nat.zero_le _) lo;have h2:=HT.sIx_le x.length x.length (Jb _) hi;have hn:x.cps.toList.length=x.length:=Array.length_toList;have e:((Builtin.Str.strSliceIndices lo hi 1 x.length).filterMap (x.cps[·]?))=(x.cps.toList.drop (HT.sIx x.length 0 lo)).take (HT.sIx x.length x.length hi - HT.sIx x.length 0 lo):=by rw[zj8,List.filterMap_map,<-zoj];refine congrArg (λf=>List.filterMap f _) ?_;funext m;show x.cps[_]? =x.cps.toList[_]?;rw[Array.getElem?_toList]
 unfold Txt.slice cutS;split
 ·rename_i h;have hl:(Builtin.Str.strSliceIndices lo hi 1 x.length).length=x.length:=by simpa using h
  rw[zj8,List.length_map,List.length_range] at hl;have a0:HT.sIx x.length 0 lo=0\/x.length=0:=by omega
  rcases a0 with a0 | a0
  ·rw[a0,List.drop_zero,Nat.sub_zero,Jm (by omega)]
  ·have en:x.cps.toList=[]:=List.eq_nil_of_length_eq_zero (by omega);rw[en,List.drop_nil,List.take_nil];have:x.cps= #[]:=by rw[<-Array.toList_inj];exact en
   rcases x with ⟨c⟩;rw[show c= #[] from this]
 ·rw[e]
section
variable {X:Cx}
noncomputable def rSlS:V->Option Int->Option Int->Hp->VK->Prop:=λx lo hi H Q=>∃z,x=.str z/\z.length<=sizeLine/\Q (.str (cutS z lo hi)) H
theorem zr4:SlR X rSlS:=by
 intro pins s σ H x v vl vu lo hi sl Q I rx hs pl pu h;obtain⟨z,rfl,hz,q⟩:=h;obtain⟨t,rfl⟩:=rx;refine⟨"str",_,F.slot_str_getitem.lookup,typeIs_str _ _ _,?_⟩;have main:∀(l u:Option (Int ×Tok)),vl=partValue l->vu=partValue u->lo=l.map (·.1)->hi=u.map (·.1)->wpAny (model X.prog X.w) X.A (getItem (.str z t) (.ref sl)) (EP X pins σ Q) X.xe s:=λl u e1 e2 e3 e4=>by subst e1 e2 e3 e4;refine wpAny_getItem_str_slice (l:=l) (u:=u) (st:=none) hs rfl (post_val_or_str ⟨Ji (Txt.slice_le z _ _) hz,λt' k=>?_⟩);show EP X pins σ Q (.str (Txt.slice z (l.map (·.1)) (u.map (·.1))) t') _;rw[zlQ];exact⟨.str _,H,I.tok k,⟨_,rfl⟩,q⟩
 cases pl with
 | none=>
  cases pu with
  | none=>exact main none none rfl rfl rfl rfl
  | int j u=>exact main none (some (j,u)) rfl rfl rfl rfl
 | int i t'=>
  cases pu with
  | none=>exact main (some (i,t')) none rfl rfl rfl rfl
  | int j u=>exact main (some (i,t')) (some (j,u)) rfl rfl rfl rfl
end
end L2
namespace L2
open PySem PySem.Spec PyProof.Rows
structure Dfn (K:QA)(mg:QB)(x:Str)(st:Stmt)(ps:QP):Prop where
 ex:∃f fd,Fun K x x st f fd/\Binds K fd ps []/\mg x=some (.ref f)
structure Fn (P:Program)(w:World)(K:QA)(mg:QB)(base:Heap)(x:Str)(k:Nat)(ps:QP)(sp:Sp):Prop where
 ex:∃f fd,FnOk P w K mg base CX0 k f fd ps sp/\Binds K fd ps []/\PySem.W.keepIn K (.ref f)=true/\mg x=some (.ref f)
section
variable {P:Program}{w:World}{K:QA}{mg:QB}{base:Heap}{x:Str}{st:Stmt}{ps N:QP}{sp sp':Sp}{k:Nat}
noncomputable abbrev Bd0 (P:Program)(w:World)(K:QA)(mg:QB)(base:Heap)(N:QP)(q:Str)(st:Stmt)(k:Nat)(sp:Sp):Prop:=∀(f:Addr) (cdv:Value) (A:Around) (outer:List Env) (s:Shared) (H:Hp) (vs:QQ) (Q:VK) (E:XK),Room k (A.deeper (envOfC q (zq st) s.heap.objs.size f cdv))->sp vs H Q E->
 ∃t,PSs (cxOf CX0 P w K mg base N q (zq st) f cdv A outer s H E).nox (zH st) t/\t {nx:=λ_ H'=>Q .non H',rt:=Q} (start N vs) H
theorem Dfn.ok (D:Dfn K mg x st ps)(S:zaG N ps (zq st))(hbody:Bd0 P w K mg base N x st k sp)
  (len:∀vs H Q E,sp vs H Q E->vs.length=ps.length:=by intro vs H Q E h;cases h;subst_vars;rfl):Fn P w K mg base x (k+1) ps sp:=by
 obtain⟨f,fd,F,b,m⟩:=D.ex;exact⟨f,fd,F.ok S len (λcdv A outer s H vs Q E hr h=>hbody f cdv A outer s H vs Q E hr h),b,F.kp,m⟩
theorem Dfn.never (D:Dfn K mg x st ps)(no:∀vs H Q E,¬sp vs H Q E):Fn P w K mg base x k ps sp:=by obtain⟨f,fd,F,b,m⟩:=D.ex;exact⟨f,fd,⟨λvs H Q E h=>Je h (no vs H Q E),λA outer s H args us vs Q E _ _ _ _ h=>Je h (no vs H Q E)⟩,b,F.kp,m⟩
end
section
variable {X:Cx}{x:Str}{ps:QP}{sp:Sp}{k k':Nat}{e:Expr}{es:List Expr}{t:TA}{p pos:Pos}
theorem zj6 (F:Fn X.prog X.w X.K X.mg X.base x k ps sp)(hr:Room k' X.A)(ha:PA X (e::es) t)(hle:k<=k':=by omega)(hg:Gl X x:=by rfl)(hd:(x==("__debug__" :Str))=false:=by decide)
  (he:starEach (e::es) X.env=(false,eval e X.env)::starEach es X.env:=by rfl) (hpl:∀pos,(backTo pos (starEach es X.env)).any (·.1)=false:=by intro _;rfl):PE X (.Call (.Name x p) (e::es) [] pos) (zkA sp [] E0 t):=by
 obtain⟨f,fd,a,b,kp,m⟩:=F.ex;exact zku a (hr.mono hle) hg m kp b .nil zny ha hd he (hpl _)
end
section
variable {X:Cx}
end
end L2
namespace Pv
open PySem L2
inductive Th where
 | non
 | int (i:Int)
 | str (x:Str)
 | tup (ts:List Th)
mutual
noncomputable def nodes:Th->Nat
 | .non=>1
 | .int _=>1
 | .str _=>1
 | .tup ts=>1+zV ts
noncomputable def zV:List Th->Nat
 | []=>0
 | t::r=>nodes t+zV r
end
mutual
noncomputable def dep:Th->Nat
 | .non=>0
 | .int _=>0
 | .str _=>0
 | .tup ts=>depL ts+1
noncomputable def depL:List Th->Nat
 | []=>0
 | t::r=>max (dep t) (depL r)
end
noncomputable def Sign (c:Nat):Prop:=32<=c/\c<=126/\c≠37
noncomputable def znz (x:Str):Prop:=x.length<=60/\∀c∈x.cps.toList,Sign c
mutual
noncomputable def Wf:Th->Prop
 | .non=>True
 | .int i=> -(10 ^ 30)<=i/\i<=10 ^ 30
 | .str x=>znz x
 | .tup ts=>ts.length<=40/\WfL ts
noncomputable def WfL:List Th->Prop
 | []=>True
 | t::r=>Wf t/\WfL r
end
theorem WfL.get:∀{ts:List Th} {i:Nat} {t:Th},WfL ts->ts[i]? =some t->Wf t
 | [],_,_,_,e=>by simp at e
 | u::r,0,t,h,e=>by simp at e;subst e;exact h.1
 | u::r,i+1,t,h,e=>WfL.get (i:=i) h.2 (by simpa using e)
theorem zcg:∀{ts:List Th} {i:Nat} {t:Th},ts[i]? =some t->dep t<=depL ts
 | [],_,_,e=>by simp at e
 | u::r,0,t,e=>by simp at e;subst e;exact Nat.le_max_left _ _
 | u::r,i+1,t,e=>Ji (zcg (i:=i) (by simpa using e)) (Nat.le_max_right _ _)
inductive Rep (H:Hp):Th->V->Prop where
 | non:Rep H .non .non
 | int (i:Int):Rep H (.int i) (.int i)
 | str (x:Str):Rep H (.str x) (.str x)
 | tup {a:Addr} {xs:QQ} {ts:List Th} (e:H a=some (.tup xs)) (l:xs.length=ts.length) (h:∀(i:Nat) (x:V) (t:Th),xs[i]? =some x->ts[i]? =some t->Rep H t x):Rep H (.tup ts) (.ref a)
noncomputable def Tups (H H':Hp):Prop:=∀b xs,H b=some (.tup xs)->H' b=some (.tup xs)
theorem Rep.keep (r:Rep H t v)(k:Tups H H'):Rep H' t v:=by
 induction r with
 | non=>exact .non
 | int i=>exact .int i
 | str x=>exact .str x
 | tup e l h ih=>exact .tup (k _ _ e) l ih
noncomputable def Frm (ws:QO)(H H':Hp):Prop:=∀b o,b∉ws->H b=some o->H' b=some o
theorem Frm.refl:Frm ws H H:=λ_ _ _ h=>h
theorem Frm.trans (a:Frm ws H H1)(b:Frm ws H1 H2):Frm ws H H2:=λc o n h=>b c o n (a c o n h)
theorem Frm.mono {ws ws':QO}(a:Frm ws H H1)(h:∀b∈ws,b∈ws'):Frm ws' H H1:=λc o n e=>a c o (λz=>n (h c z)) e
theorem Frm.new {H:Hp}{p:Addr}(h:H p=none):Frm ws H (upd H p o):=λb u _ q=>by rw[zg (zj q h)];exact q
theorem Frm.upd {ws:QO}{p:Addr}(h:p∈ws):Frm ws H (upd H p o):=λb u n q=>by rw[zg (λz=>n (by rw[z];exact h))];exact q
theorem Frm.same (a:Frm [] H H'):Same H H':=λb o h=>a b o (by simp) h
theorem Frm.of (a:Same H H'):Frm ws H H':=λb o _ h=>a b o h
theorem Frm.at {b:Addr}{o:HO}(a:Frm ws H H')(h:H b=some o)(n:b∉ws):H' b=some o:=a b o n h
theorem Same.tups (a:Same H H'):Tups H H':=λb xs e=>a b _ e
theorem Tups.trans (a:Tups H H1)(b:Tups H1 H2):Tups H H2:=λc xs e=>b c xs (a c xs e)
theorem Tups.upd {H:Hp}{p:Addr}(h:∀xs,H p≠some (.tup xs)):Tups H (upd H p o):=λb xs e=>by rw[zg (λz=>h xs (by rw[<-z];exact e))];exact e
theorem Tups.new {H:Hp}{p:Addr}(h:H p=none):Tups H (L2.upd H p o):=Tups.upd λxs e=>by rw[h] at e;cases e
end Pv
namespace L2
open PySem PySem.Spec PyProof.Rows
section
variable {X:Cx}{x y:Str}{scope:Scope}{j:Nat}{c:Addr}
theorem zci {p:Str ×NameKind}(h:p∈(relabel scope env).names):∃q∈scope.names,p.1=q.1/\(p=q\/q.2=.free):=by
 obtain⟨q,hq,e⟩:=List.mem_map.mp h;obtain⟨n,k⟩:=q;refine⟨(n,k),hq,?_⟩;dsimp only at e;split at e
 ·rename_i hc;subst e;refine⟨rfl,.inr ?_⟩;have:=(Bool.and_eq_true _ _).mp ((Bool.and_eq_true _ _).mp hc).1;simpa using this.1
 ·subst e;exact⟨rfl,.inl rfl⟩
theorem zo.zero (kind:scope.kind=.function)(nf:∀y∈scope.names,y.2≠ .free)(nc:∀y∈scope.names,y.2≠ .cell)(nm:∀y∈scope.names,y.2=.local->scope.names.lookup y.1=some .local)(tgt:scope.names.lookup x=some .local):
  zo X x [] [] scope [] where
 clos:=closureFor_none nf
 kind:=kind
 nocell:=nc
 names:=nm
 tgt:=tgt
 nd:=by simp
 sub:=λp hp=>by simp at hp
 has:=λp hp hk=>by
  obtain⟨q,hq,e,h | h⟩:=zci hp
  ·subst h;rcases hk with hk | hk
   ·exact Je hk (nc _ hq)
   ·exact Je hk (nf _ hq)
  ·exact Je h (nf _ hq)
 fr:=λi y e=>by simp at e
 len:=rfl
theorem zo.one (clos:closureFor scope X.env=pure [(y,c)])(kind:scope.kind=.function)(nc:∀y∈scope.names,y.2≠ .cell)(nm:∀y∈scope.names,y.2=.local->scope.names.lookup y.1=some .local)(tgt:scope.names.lookup x=some .local)
  (ne:x≠y) (cell:X.env.cells.lookup y=some c) (only:∀q∈scope.names,q.2=.free->q.1=y) (hN:X.N[j]? =some y) (hk:X.env.kindOf y=some .cell\/X.env.kindOf y=some .free)
  (hk':(relabel scope X.env).names.lookup y=some .cell\/(relabel scope X.env).names.lookup y=some .free):zo X x [y] [j] scope [(y,c)] where
 clos:=clos
 kind:=kind
 nocell:=nc
 names:=nm
 tgt:=tgt
 nd:=by simp[ne]
 sub:=λp hp=>by cases List.mem_singleton.mp hp;exact cell
 has:=λp hp hk=>by
  obtain⟨q,hq,e,h | h⟩:=zci hp
  ·subst h;rcases hk with hk | hk
   ·exact Je hk (nc _ hq)
   ·simp[only _ hq hk]
  ·simp[e,only _ hq h]
 fr:=λi z e=>by
  cases i with
  | zero=>cases e;exact⟨j,rfl,hN,hk,hk'⟩
  | succ i=>simp at e
 len:=rfl
end
theorem ifT {c:Bool}{A:Prop}(h:c=true)(a:A):if c=true then A else B:=by rw[if_pos h];exact a
theorem ifF {c:Bool}{B:Prop}(h:c=false)(b:B):if c=true then A else B:=by rw[if_neg (by rw[h];exact Jc)];exact b
theorem ifB {c:Bool}{A B:Prop}(a:c=true->A)(b:c=false->B):if c=true then A else B:=by
 cases c with
 | true=>exact ifT rfl (a rfl)
 | false=>exact ifF rfl (b rfl)
theorem zu:decide (V.int i=V.int j)=decide (i=j):=by
 by_cases h:i=j
 ·subst h;simp
 ·rw[decide_eq_false h];exact decide_eq_false λz=>h (V.int.inj z)
end L2
namespace L2
open PySem PySem.Spec PyProof.Rows
section
variable {X:Cx}{K:QA}
theorem zkJ (h:X.K=K):IxR X (rIxT K):=h ▸ ze0
end
end L2
namespace L2
open PySem PySem.Spec PyProof.Rows
section
variable {X:Cx}{x:Str}{ps:QP}{sp:Sp}{k k':Nat}{p pos:Pos}
end
end L2
namespace L2
open PySem PySem.Spec PyProof.Rows Px
structure FnX (P:Program)(w:World)(K:QA)(mg:QB)(base:Heap)(x:Str)(k:Nat)(ps:QP)(sp:Sp):Prop where
 ex:∃f fd,FnOk P w K mg base (CX1 P w) k f fd ps sp/\Binds K fd ps []/\PySem.W.keepIn K (.ref f)=true/\mg x=some (.ref f)
structure Mdf (K:QA)(C:Addr)(m qual:Str)(st:Stmt)(ps:QP):Prop where
 ex:∃f fd,Fun K m qual st f fd/\Binds K fd ps []/\Meth K C m f
structure Mt (P:Program)(w:World)(K:QA)(mg:QB)(base:Heap)(CX:CXT)(C:Addr)(m:Str)(k:Nat)(ps:QP)(sp:Sp):Prop where
 ex:∃f fd,FnOk P w K mg base CX k f fd ps sp/\Binds K fd ps []/\Meth K C m f
structure Mkd (K:QA)(mg:QB)(x:Str)(C:Addr)(qual:Str)(st:Stmt)(ps:QP):Prop where
 ex:∃f fd,Fun K "__init__" qual st f fd/\Binds K fd ps []/\Mk K C f/\mg x=some (.ref C)
structure Mkr (P:Program)(w:World)(K:QA)(mg:QB)(base:Heap)(x:Str)(C:Addr)(k:Nat)(ps:QP)(sp:Sp):Prop where
 ex:∃f fd,FnOk P w K mg base CX0 k f fd ps sp/\Binds K fd ps []/\Mk K C f/\mg x=some (.ref C)
structure XId (K:QA)(mg:QB)(x:Str)(C:Addr)(qual:Str)(st:Stmt)(ps:QP):Prop where
 cl:XCls K C
 ex:∃f fd,Fun K "__init__" qual st f fd/\Binds K fd ps []/\PySem.W.findIn K (.ref C) "__init__" =some (some (.ref f))/\PySem.W.isFn K (.ref f)=true/\mg x=some (.ref C)
structure XI (P:Program)(w:World)(K:QA)(mg:QB)(base:Heap)(x:Str)(C:Addr)(k:Nat)(ps:QP)(sp:Sp):Prop where
 cl:XCls K C
 ex:∃f fd,FnOk P w K mg base CX0 k f fd ps sp/\Binds K fd ps []/\PySem.W.findIn K (.ref C) "__init__" =some (some (.ref f))/\PySem.W.isFn K (.ref f)=true/\mg x=some (.ref C)
structure XP (K:QA)(mg:QB)(x:Str)(C:Addr):Prop where
 cl:XCls K C
 ei:PySem.W.excIn K C bmV "ValueError.__new__" =true
 mg:mg x=some (.ref C)
section
variable {P:Program}{w:World}{K:QA}{mg:QB}{base:Heap}{x m qual:Str}{C:Addr}{st:Stmt}{ps N:QP}{sp sp':Sp}{k:Nat}{CX:CXT}
theorem FnX.mono (F:FnX P w K mg base x j ps sp)(h:j<=k):FnX P w K mg base x k ps sp:=by obtain⟨f,fd,a,b⟩:=F.ex;exact⟨f,fd,a.mono h,b⟩
noncomputable abbrev BdX (P:Program)(w:World)(K:QA)(mg:QB)(base:Heap)(N:QP)(q:Str)(st:Stmt)(k:Nat)(sp:Sp):Prop:=∀(f:Addr) (cdv:Value) (A:Around) (outer:List Env) (s:Shared) (H:Hp) (vs:QQ) (Q:VK) (E:XK),Room k (A.deeper (envOfC q (zq st) s.heap.objs.size f cdv))->sp vs H Q E->
 ∃t,PSs (cxOf (CX1 P w) P w K mg base N q (zq st) f cdv A outer s H E) (zH st) t/\t {nx:=λ_ H'=>Q .non H',rt:=Q} (start N vs) H
theorem Dfn.okX (D:Dfn K mg x st ps)(S:zaG N ps (zq st))(hbody:BdX P w K mg base N x st k sp)
  (len:∀vs H Q E,sp vs H Q E->vs.length=ps.length:=by intro vs H Q E h;cases h;subst_vars;rfl):FnX P w K mg base x (k+1) ps sp:=by
 obtain⟨f,fd,F,b,m⟩:=D.ex;exact⟨f,fd,F.okX S len (λcdv A outer s H vs Q E hr h=>hbody f cdv A outer s H vs Q E hr h),b,F.kp,m⟩
theorem Mdf.okX (D:Mdf K C m qual st ps)(S:zaG N ps (zq st))(hbody:BdX P w K mg base N qual st k sp)
  (len:∀vs H Q E,sp vs H Q E->vs.length=ps.length:=by intro vs H Q E h;cases h;subst_vars;rfl):Mt P w K mg base (CX1 P w) C m (k+1) ps sp:=by
 obtain⟨f,fd,F,b,me⟩:=D.ex;exact⟨f,fd,F.okX S len (λcdv A outer s H vs Q E hr h=>hbody f cdv A outer s H vs Q E hr h),b,me⟩
theorem Mkd.ok (D:Mkd K mg x C qual st ps)(S:zaG N ps (zq st))(hbody:Bd0 P w K mg base N qual st k sp)
  (len:∀vs H Q E,sp vs H Q E->vs.length=ps.length:=by intro vs H Q E h;cases h;subst_vars;rfl):Mkr P w K mg base x C (k+1) ps sp:=by
 obtain⟨f,fd,F,b,mk,mm⟩:=D.ex;exact⟨f,fd,F.ok S len (λcdv A outer s H vs Q E hr h=>hbody f cdv A outer s H vs Q E hr h),b,mk,mm⟩
theorem XId.ok (D:XId K mg x C qual st ps)(S:zaG N ps (zq st))(hbody:Bd0 P w K mg base N qual st k sp)
  (len:∀vs H Q E,sp vs H Q E->vs.length=ps.length:=by intro vs H Q E h;cases h;subst_vars;rfl):XI P w K mg base x C (k+1) ps sp:=by
 obtain⟨c,f,fd,F,b,i,n,mm⟩:=D;exact⟨c,f,fd,F.ok S len (λcdv A outer s H vs Q E hr h=>hbody f cdv A outer s H vs Q E hr h),b,i,n,mm⟩
end
section
variable {X:Cx}{CX:CXT}{x m:Str}{C:Addr}{ps:QP}{sp:Sp}{k k':Nat}{e o:Expr}{es:List Expr}{ta:TE}{t:TA}{p pos apos:Pos}{E:XK}{ES:St->XK}
theorem zhd (F:FnX X.prog X.w X.K X.mg X.base x k ps sp)(hr:Room k' X.A)(hx:zbp (CX1 X.prog X.w) X E)(ha:PA X (e::es) t)(hle:k<=k':=by omega)(hg:Gl X x:=by rfl)(hd:(x==("__debug__" :Str))=false:=by decide)
  (he:starEach (e::es) X.env=(false,eval e X.env)::starEach es X.env:=by rfl) (hpl:∀pos,(backTo pos (starEach es X.env)).any (·.1)=false:=by intro _;rfl):PE X (.Call (.Name x p) (e::es) [] pos) (zkA sp [] E t):=by
 obtain⟨f,fd,a,b,kp,m⟩:=F.ex;exact zku a (hr.mono hle) hg m kp b .nil hx ha hd he (hpl _)
theorem zrP (F:FnX X.prog X.w X.K X.mg X.base x k ps sp)(hr:Room k' X.A)(hx:zbL (CX1 X.prog X.w) X ES)(ha:PA X (e::es) t)(hle:k<=k':=by omega)(hg:Gl X x:=by rfl)(hd:(x==("__debug__" :Str))=false:=by decide)
  (he:starEach (e::es) X.env=(false,eval e X.env)::starEach es X.env:=by rfl) (hpl:∀pos,(backTo pos (starEach es X.env)).any (·.1)=false:=by intro _;rfl):PE X (.Call (.Name x p) (e::es) [] pos) (znL sp ES t):=by
 obtain⟨f,fd,a,b,kp,m⟩:=F.ex;exact zm9 a (hr.mono hle) hg m kp b hx ha hd he (hpl _)
theorem zth (he:PE X o ta)(c:Cls X.K C)(M:Mt X.prog X.w X.K X.mg X.base CX C m k ps sp)(hr:Room k' X.A)(hle:k<=k')(hx:zbp CX X E)(ha:PA X (e::es) t)
  (hst:starEach (e::es) X.env=(false,eval e X.env)::starEach es X.env:=by rfl) (hpl:∀pos,(backTo pos (starEach es X.env)).any (·.1)=false:=by intro _;rfl)
  (ht:eval (.Call (.Attribute o m apos) (e::es) [] pos) X.env=(do
   let ov<-eval o X.env
   standAt apos.atName
   let (f,first) <-holding [ov] (getMethod ov m pl)
   callWith pos f first (backTo pos (starEach (e::es) X.env)) (backToKw pos (keywordEach [] X.env))):=by rfl):
  PE X (.Call (.Attribute o m apos) (e::es) [] pos) (zqI C m sp [] E ta t):=by
 obtain⟨f,fd,a,b,me⟩:=M.ex;exact zpu he c me a (hr.mono hle) b .nil hx ha hst (hpl _) ht
theorem zpE (M:Mkr X.prog X.w X.K X.mg X.base x C k ps sp)(hr:Room k' X.A)(hle:k+1<=k':=by omega)(hg:Gl X x:=by rfl)(hd:(x==("__debug__" :Str))=false:=by decide):PE X (.Call (.Name x p) [] [] pos) (zqE C sp [] E0 tNil):=by obtain⟨f,fd,a,b,mk,mm⟩:=M.ex;exact znh mk a (hr.mono hle) hg mm b .nil zny hd
theorem ztA (M:XI X.prog X.w X.K X.mg X.base x C k ps sp)(hr:Room k' X.A)(ha:PA X (e::es) t)(hle:k+1<=k':=by omega)(hg:Gl X x:=by rfl)(hd:(x==("__debug__" :Str))=false:=by decide)
  (he:starEach (e::es) X.env=(false,eval e X.env)::starEach es X.env:=by rfl) (hpl:∀pos,(backTo pos (starEach es X.env)).any (·.1)=false:=by intro _;rfl):PE X (.Call (.Name x p) (e::es) [] pos) (zqW C sp t):=by
 obtain⟨c,f,fd,a,b,i,n,mm⟩:=M;exact zo3 c i n a (hr.mono hle) b hg mm ha hd he (hpl _)
theorem zsX (M:XP X.K X.mg x C)(hg:Gl X x)(ha:PA X (e::es) t)(hd:(x==("__debug__" :Str))=false:=by decide)
  (he:starEach (e::es) X.env=(false,eval e X.env)::starEach es X.env:=by rfl) (hpl:∀pos,(backTo pos (starEach es X.env)).any (·.1)=false:=by intro _;rfl):PE X (.Call (.Name x p) (e::es) [] pos) (tExc C t):=
 zq9 M.cl M.ei hg M.mg ha hd he (hpl _)
end
end L2
namespace L2
open PySem PySem.Spec PyProof.Rows
section
variable {P:Program}{W:World}{A:Around}{E:QC}{z:Shared}
theorem zfl {v:Value}{Q:QC}(hj:z.heap.IsTupleIter j t n)(ht:z.heap.IsTuple t us)(hv:us[n]? =some v)
  (q:∀g,g.IsTupleIter j t (n+1)->Heap.SameBut j z.heap g->Q v {z with heap:=g}):wpAny (model P W) A (Builtin.SmallTypes.nextOf (.ref j)) Q E z:=by
 obtain⟨oj,ej,cj,dj⟩:=id hj;obtain⟨ot,et,_,nt,dt⟩:=ht;unfold Builtin.SmallTypes.nextOf;refine Ja (wpAny_callSpecial?_slot (name:=Str.ofString "__next__") hj.typeIs F.slot_tuple_iterator_next (wpAny_call_entry F.slot_tuple_iterator_next hj.typeIs F.entry_tuple_iterator_next ?_ (F.args_tuple_iterator_next_1 _)));show wpAny _ _ (field (.ref j) 0 >>=_) _ _ z;refine Ja (wpAny_field ej dj (x:=.ref t) rfl ?_);show wpAny _ _ (if (Value.ref t==Value.none)=true then _ else _) _ _ z;rw[if_neg (show¬((Value.ref t==Value.none)=true) from Jc)];show wpAny _ _ (field (.ref j) 1 >>=_) _ _ z;refine Ja (wpAny_field ej dj (x:=.int n 0) rfl ?_);show wpAny _ _ (seqItems? (.ref t) >>=_) _ _ z;refine Ja (wpAny_seqItems et dt ?_);simp only[Int.toNat_natCast,hv];refine Ja (wpAny_setField ej dj (by simp) (wpAny_pure ⟨v,rfl,wpAny_pure (q _ ⟨_,Heap.get?_update_self _ ej (Obj.isFreed_of_fields (Obj.data_mapFields dj _)),(Obj.cls_mapFields ..).trans cj,by rw[Obj.data_mapFields dj];simp[rawInt]⟩ (Heap.SameBut.update ..))⟩))
theorem ziP (hh:A.handled=none)(hj:z.heap.IsTupleIter j t n)(ht:z.heap.IsTuple t us)(hv:us[n]? =none)
  (q:∀g e,Heap.ExtBut j z.heap g->(∃o,g.get? e=some o/\o.cls=.type "StopIteration")->E (.ref e) {z with heap:=g}):wpAny (model P W) A (Builtin.SmallTypes.nextOf (.ref j)) Q E z:=by
 obtain⟨oj,ej,cj,dj⟩:=id hj;obtain⟨ot,et,_,nt,dt⟩:=ht;unfold Builtin.SmallTypes.nextOf;refine Ja (wpAny_callSpecial?_slot (name:=Str.ofString "__next__") hj.typeIs F.slot_tuple_iterator_next (wpAny_call_entry F.slot_tuple_iterator_next hj.typeIs F.entry_tuple_iterator_next ?_ (F.args_tuple_iterator_next_1 _)));show wpAny _ _ (field (.ref j) 0 >>=_) _ _ z;refine Ja (wpAny_field ej dj (x:=.ref t) rfl ?_);show wpAny _ _ (if (Value.ref t==Value.none)=true then _ else _) _ _ z;rw[if_neg (show¬((Value.ref t==Value.none)=true) from Jc)];show wpAny _ _ (field (.ref j) 1 >>=_) _ _ z;refine Ja (wpAny_field ej dj (x:=.int n 0) rfl ?_);show wpAny _ _ (seqItems? (.ref t) >>=_) _ _ z;refine Ja (wpAny_seqItems et dt ?_);simp only[Int.toNat_natCast,hv];refine Ja (wpAny_rule (Ja (wpAny_setField ej dj (by simp) ?_)));show wpAny _ _ (newExc (.type "StopIteration") [] >>=_) _ _ _;refine Ja ?_;simp only[newExc,newTuple];refine Ja (wpAny_newObj_type ?_ (by size_fits));refine Ja (m:=firstArgMember _ _) (wpAny_of_eq (a:=Value.none) (by first | rfl | (simp only[firstArgMember];rfl)) ?_);refine wpAny_newObj_type ?_ (by size_fits);simp only[raiseNew];refine Ja (wpAny_handled ?_);first | rw[show A.in1.handled=none from hh] | rw[hh]
 refine Ja (wpAny_pure (wpAny_throw ?_));exact q _ _ (((Heap.SameBut.update ..).extBut.push _).push _) ⟨_,Heap.get?_push_size _ rfl,rfl⟩
structure ZSt (g:Heap)(y a o i k p q:Addr)(n:Nat)(xs us:Array Value)(f:Value):Prop where
 zp:IsZip g y a o f
 its:IsPair g a (.ref i) (.ref k)
 own:∃b c,IsPair g o b c
 i1:g.IsTupleIter i p n
 i2:g.IsTupleIter k q n
 t1:g.IsTuple p xs
 t2:g.IsTuple q us
theorem zog {u v:Value}{Q:Option Value->Shared->Prop}(D:ZipApart y a o i k p q)(S:ZSt z.heap y a o i k p q n xs us .none)(hu:xs[n]? =some u)(hv:us[n]? =some v)
  (fin:∀g,ZSt g y a o i k p q (n+1) xs us (rawInt z.heap.objs.size)->IsPair g z.heap.objs.size u v->g.objs.size=z.heap.objs.size+1->(∀c r,c≠y->c≠o->c≠i->c≠k->z.heap.get? c=some r->g.get? c=some r)->Q (some (.ref z.heap.objs.size)) {z with heap:=g}):
  wpAny (model P W) A (pyNext (.ref y)) Q E z:=by
 obtain⟨hz,ha,⟨b,c,ho⟩,hi,hk,hp,hq⟩:=S;have tz:z.TypeIs (.ref y) "zip" :=⟨_,hz,rfl⟩;have main:wpAny (model P W) A.in1 (Builtin.«zip.__next__» ⟨[.ref y],[]⟩) (λr s'=>∃v,r=.done (.ret v)/\Q (some v) s') (λe s'=>True/\False) z:=by
  show wpAny _ _ (field (.ref y) 2 >>=_) _ _ _;refine Ja (wpAny_field hz rfl (x:=.bool false) rfl ?_);show wpAny _ _ (field (.ref y) 3 >>=_) _ _ _;refine Ja (wpAny_field hz rfl (x:=.ref a) rfl ?_);refine Ja (wpAny_seqItems ha rfl ?_);show wpAny _ _ (Builtin.SmallTypes.ownedTupleIsFree (.ref y) >>=_) _ _ _;refine Ja ?_;unfold Builtin.SmallTypes.ownedTupleIsFree;refine Ja (wpAny_field hz rfl (x:=.none) rfl (wpAny_pure ?_));simp only[if_true];refine Ja (wpAny_rule ?_);refine Ja (wpAny_field hz rfl (x:=.ref o) rfl ?_);refine Ja (wpAny_setField_rec hz (by simp) λg1 hz1 s1=>?_);replace hz1:IsZip g1 y a o .ellipsis:=hz1;refine Ja ?_;simp only[List.zipIdx_cons,List.zipIdx_nil,List.forIn_cons,List.forIn_nil];refine Ja (Ja (wpAny_onRaise ?_));show wpAny _ _ (Builtin.SmallTypes.nextOf (.ref i) >>=_) _ _ _;refine Ja (zfl (hi.extBut s1.extBut D.i1z) (hp.extBut s1.extBut D.l1z) hu λg2 i2 s2=>wpAny_pure ?_);have ho2:IsPair g2 o b c:=s2.extBut _ _ D.TOi1 (s1.extBut _ _ D.TOz ho);refine Ja (wpAny_seqItems ho2 rfl ?_);refine Ja (wpAny_updateSeq_pair ho2 λg3 ho3 s3=>?_);replace ho3:IsPair g3 o u c:=ho3;refine Ja (wpAny_letGo (wpAny_pure ?_));refine Ja (Ja (wpAny_onRaise ?_));show wpAny _ _ (Builtin.SmallTypes.nextOf (.ref k) >>=_) _ _ _;refine Ja (zfl (((hk.extBut s1.extBut D.i2z).extBut s2.extBut D.i12.symm).extBut s3.extBut D.TOi2.symm) (((hq.extBut s1.extBut D.l2z).extBut s2.extBut D.l2i1).extBut s3.extBut D.l2TO) hv λg4 k4 s4=>wpAny_pure ?_);have ho4:IsPair g4 o u c:=s4.extBut _ _ D.TOi2 ho3;refine Ja (wpAny_seqItems ho4 rfl ?_);refine Ja (wpAny_updateSeq_pair ho4 λg5 ho5 s5=>?_);replace ho5:IsPair g5 o u v:=ho5;refine Ja (wpAny_letGo (wpAny_pure (wpAny_pure ?_)));refine Ja (wpAny_seqItems ho5 rfl ?_);refine Ja (wpAny_newTuple ?_);have sz:g5.objs.size=z.heap.objs.size:=by rw[s5.1,s4.1,s3.1,s2.1,s1.1]
  have hz5:IsZip g5 y a o .ellipsis:=s5.extBut _ _ D.TOz.symm (s4.extBut _ _ D.i2z.symm (s3.extBut _ _ D.TOz.symm (s2.extBut _ _ D.i1z.symm hz1)));have up5:∀c r,c≠y->c≠o->c≠i->c≠k->z.heap.get? c=some r->g5.get? c=some r:=λc r c1 c2 c3 c4 e=>s5.extBut _ _ c2 (s4.extBut _ _ c4 (s3.extBut _ _ c2 (s2.extBut _ _ c3 (s1.extBut _ _ c1 e))));have hi5:g5.IsTupleIter i p (n+1):=((i2.extBut s3.extBut D.TOi1.symm).extBut s4.extBut D.i12).extBut s5.extBut D.TOi1.symm;have hk5:g5.IsTupleIter k q (n+1):=k4.extBut s5.extBut D.TOi2.symm;have ly:y < g5.objs.size:=Heap.lt_size hz5;show wpAny _ _ (Builtin.SmallTypes.ownedTupleHandOut (.ref y) (.ref g5.objs.size) >>=_) _ _ _;refine Ja ?_;unfold Builtin.SmallTypes.ownedTupleHandOut;have hz6:IsZip (g5.push {cls:=.type "tuple",data:=.seq #[u,v]}) y a o .ellipsis:=Heap.get?_push_of_some _ hz5;refine Ja (wpAny_setField_rec hz6 (by simp) λg7 hz7 s7=>?_);replace hz7:IsZip g7 y a o (rawInt g5.objs.size):=hz7;refine wpAny_setField_rec hz7 (by simp) λg8 hz8 s8=>?_;replace hz8:IsZip g8 y a o (rawInt g5.objs.size):=hz8;have up:∀c r,c≠y->g5.get? c=some r->g8.get? c=some r:=λc r c1 e=>s8.extBut _ _ c1 (s7.extBut _ _ c1 (Heap.get?_push_of_some _ e));have new8:IsPair g8 g5.objs.size u v:=s8.extBut _ _ (Jy ly) (s7.extBut _ _ (Jy ly) (Heap.get?_push_size _ rfl));have sz8:g8.objs.size=g5.objs.size+1:=by rw[s8.1,s7.1,Heap.size_push]
  rw[sz] at hz8 new8 sz8;refine wpAny_pure ⟨_,rfl,?_⟩;show Q (some (.ref g5.objs.size)) _;rw[sz];have upz:∀c r,c≠y->c≠o->c≠i->c≠k->z.heap.get? c=some r->g8.get? c=some r:=λc r c1 c2 c3 c4 e=>up c r c1 (up5 c r c1 c2 c3 c4 e);refine fin g8 ⟨hz8,upz _ _ D.TIz D.TITO D.TIi1 D.TIi2 ha,⟨_,_,up _ _ D.TOz ho5⟩,?_,?_,?_,?_⟩ new8 sz8 upz
  ·obtain⟨r,e,x⟩:=hi5;exact⟨r,up _ r D.i1z e,x⟩
  ·obtain⟨r,e,x⟩:=hk5;exact⟨r,up _ r D.i2z e,x⟩
  ·obtain⟨r,e,x⟩:=hp;exact⟨r,upz _ r D.l1z D.l1TO D.l1i1 D.l1i2 e,x⟩
  ·obtain⟨r,e,x⟩:=hq;exact⟨r,upz _ r D.l2z D.l2TO D.l2i1 D.l2i2 e,x⟩
 unfold pyNext;exact Ja (wpAny_attempt (wpAny_callSpecial?_slot (name:=Str.ofString "__next__") tz F.slot_zip_next (wpAny_call_entry F.slot_zip_next tz F.entry_zip_next (wpAny_mono main (λr s' ⟨v,e,h⟩=>⟨v,e,wpAny_pure h⟩) λ_ _ x=>x.2.elim) (F.args_zip_next_1 _))))
theorem znJ {Q:Option Value->Shared->Prop}(hh:A.handled=none)(D:ZipApart y a o i k p q)(S:ZSt z.heap y a o i k p q n xs us .none)(he:xs[n]? =none\/us[n]? =none)
  (fin:∀g,(∀c r,c≠y->c≠o->c≠i->c≠k->z.heap.get? c=some r->g.get? c=some r)->Q none {z with heap:=g}):wpAny (model P W) A (pyNext (.ref y)) Q E z:=by
 obtain⟨hz,ha,⟨b,c,ho⟩,hi,hk,hp,hq⟩:=S;have tz:z.TypeIs (.ref y) "zip" :=⟨_,hz,rfl⟩;have main:wpAny (model P W) A.in1 (Builtin.«zip.__next__» ⟨[.ref y],[]⟩) (λ_ _=>False) (λe s'=>∃g x,e=.ref x/\s'={z with heap:=g}/\(∀c r,c≠y->c≠o->c≠i->c≠k->z.heap.get? c=some r->g.get? c=some r)/\∃r,g.get? x=some r/\r.cls=.type "StopIteration") z:=by
  show wpAny _ _ (field (.ref y) 2 >>=_) _ _ _;refine Ja (wpAny_field hz rfl (x:=.bool false) rfl ?_);show wpAny _ _ (field (.ref y) 3 >>=_) _ _ _;refine Ja (wpAny_field hz rfl (x:=.ref a) rfl ?_);refine Ja (wpAny_seqItems ha rfl ?_);show wpAny _ _ (Builtin.SmallTypes.ownedTupleIsFree (.ref y) >>=_) _ _ _;refine Ja ?_;unfold Builtin.SmallTypes.ownedTupleIsFree;refine Ja (wpAny_field hz rfl (x:=.none) rfl (wpAny_pure ?_));simp only[if_true];refine Ja (wpAny_rule ?_);refine Ja (wpAny_field hz rfl (x:=.ref o) rfl ?_);refine Ja (wpAny_setField_rec hz (by simp) λg1 hz1 s1=>?_);replace hz1:IsZip g1 y a o .ellipsis:=hz1;refine Ja ?_;simp only[List.zipIdx_cons,List.zipIdx_nil,List.forIn_cons,List.forIn_nil];refine Ja (Ja (wpAny_onRaise ?_));show wpAny _ _ (Builtin.SmallTypes.nextOf (.ref i) >>=_) _ _ _;cases hu:xs[n]? with
  | none=>
   refine Ja (ziP (A:=A.in1) (show A.in1.handled=none from hh) (hi.extBut s1.extBut D.i1z) (hp.extBut s1.extBut D.l1z) hu λg2 e s2 he2=>?_);obtain⟨r,er,cr⟩:=he2;have hz2:IsZip g2 y a o .ellipsis:=s2 _ _ D.i1z.symm hz1;have ne:e≠y:=λx=>by subst x;rw[hz2] at er;cases er;simp at cr
   exact wpAny_setField_rec hz2 (by simp) λg3 _ s3=>⟨g3,e,rfl,rfl,λc r c1 _ c3 _ x=>s3.extBut _ _ c1 (s2 _ _ c3 (s1.extBut _ _ c1 x)),r,s3.extBut _ _ ne er,cr⟩
  | some u=>
   have hv:us[n]? =none:=he.elim (λz=>by rw[hu] at z;cases z) id;refine Ja (zfl (hi.extBut s1.extBut D.i1z) (hp.extBut s1.extBut D.l1z) hu λg2 i2 s2=>wpAny_pure ?_);have ho2:IsPair g2 o b c:=s2.extBut _ _ D.TOi1 (s1.extBut _ _ D.TOz ho);refine Ja (wpAny_seqItems ho2 rfl ?_);refine Ja (wpAny_updateSeq_pair ho2 λg3 ho3 s3=>?_);refine Ja (wpAny_letGo (wpAny_pure ?_));refine Ja (Ja (wpAny_onRaise ?_));show wpAny _ _ (Builtin.SmallTypes.nextOf (.ref k) >>=_) _ _ _;refine Ja (ziP (A:=A.in1) (show A.in1.handled=none from hh) (((hk.extBut s1.extBut D.i2z).extBut s2.extBut D.i12.symm).extBut s3.extBut D.TOi2.symm) (((hq.extBut s1.extBut D.l2z).extBut s2.extBut D.l2i1).extBut s3.extBut D.l2TO) hv λg4 e s4 he4=>?_);obtain⟨r,er,cr⟩:=he4;have hz4:IsZip g4 y a o .ellipsis:=s4 _ _ D.i2z.symm (s3.extBut _ _ D.TOz.symm (s2.extBut _ _ D.i1z.symm hz1));have ne:e≠y:=λx=>by subst x;rw[hz4] at er;cases er;simp at cr
   exact wpAny_setField_rec hz4 (by simp) λg5 _ s5=>⟨g5,e,rfl,rfl,λc r c1 c2 c3 c4 x=>s5.extBut _ _ c1 (s4 _ _ c4 (s3.extBut _ _ c2 (s2.extBut _ _ c3 (s1.extBut _ _ c1 x)))),r,s5.extBut _ _ ne er,cr⟩
 unfold pyNext;refine Ja (wpAny_attempt (wpAny_callSpecial?_slot (name:=Str.ofString "__next__") tz F.slot_zip_next (wpAny_call_entry F.slot_zip_next tz F.entry_zip_next (wpAny_mono main (λ_ _ x=>x.elim) λe s' h=>?_) (F.args_zip_next_1 _))));obtain⟨g,x,rfl,rfl,up,r,er,cr⟩:=h;exact Ja (wpAny_isInstance (T:= "StopIteration") (b:=true) ⟨r,er,cr⟩ isSubtype_stop (wpAny_pure (fin _ up)))
noncomputable abbrev tz1 (g:Heap)(p:Addr):Heap:=g.push {cls:=.type "tuple_iterator",data:=.fields #[.ref p,.int 0 0]}
noncomputable abbrev tz2 (g:Heap)(p q:Addr):Heap:=(tz1 g p).push {cls:=.type "tuple_iterator",data:=.fields #[.ref q,.int 0 0]}
noncomputable abbrev tz3 (g:Heap)(p q:Addr):Heap:=(tz2 g p q).push {cls:=.type "tuple",data:=.seq #[.ref g.objs.size,.ref (tz1 g p).objs.size]}
noncomputable abbrev tz4 (g:Heap)(p q:Addr):Heap:=(tz3 g p q).push {cls:=.type "tuple",data:=.seq #[.none,.none]}
noncomputable abbrev tz5 (g:Heap)(p q:Addr):Heap:=(tz4 g p q).push {cls:=.type "zip",data:=.fields #[.none,.bool false,.bool false,.ref (tz2 g p q).objs.size,.ref (tz3 g p q).objs.size]}
theorem zmR {Q:QC}(hp:z.heap.IsTuple p xs)(hq:z.heap.IsTuple q us)
  (fin:∀g,ZSt g (z.heap.objs.size+4) (z.heap.objs.size+2) (z.heap.objs.size+3) z.heap.objs.size (z.heap.objs.size+1) p q 0 xs us .none->g.objs.size=z.heap.objs.size+5->(∀c r,z.heap.get? c=some r->g.get? c=some r)->Q (.ref (z.heap.objs.size+4)) {z with heap:=g}):
  wpAny (model P W) A (call (.type "zip") [.ref p,.ref q]) Q E z:=by
 have M:Meets (Builtin.«zip.__new__» ⟨[.type "zip",.ref p,.ref q],[]⟩) (λ_ R s=>s.heap.IsTuple p xs/\s.heap.IsTuple q us/\R (.ok (.ret (.ref (tz4 s.heap p q).objs.size))) {s with heap:=tz5 s.heap p q}):=
  .of_wp λprog w A R s h=>by
   obtain⟨hp0,g,d,tk,os⟩:=s;obtain⟨h1,h2,h⟩:=h;have hsub:=sub_zip;have L1:Heap.IsTuple (Shared.heap ⟨hp0,g,d,tk,os⟩) p xs:=h1;have L2:Heap.IsTuple (Shared.heap ⟨hp0.push {cls:=.type "tuple_iterator",data:=.fields #[.ref p,.int 0 0]},g,d,tk,os⟩) q us:=by obtain⟨r,e,x⟩:=h2;exact⟨r,Heap.get?_push_of_some _ e,x⟩
   wp_walk using wpAny_pyIter_tuple L1,wpAny_pyIter_tuple L2
   exact⟨_,rfl,h⟩
 have n1:(tz1 z.heap p).objs.size=z.heap.objs.size+1:=Heap.size_push ..;have n2:(tz2 z.heap p q).objs.size=z.heap.objs.size+2:=by rw[Heap.size_push,n1]
 have n3:(tz3 z.heap p q).objs.size=z.heap.objs.size+3:=by rw[Heap.size_push,n2]
 have n4:(tz4 z.heap p q).objs.size=z.heap.objs.size+4:=by rw[Heap.size_push,n3]
 have n5:(tz5 z.heap p q).objs.size=z.heap.objs.size+5:=by rw[Heap.size_push,n4]
 have a5:(tz5 z.heap p q).get? (tz4 z.heap p q).objs.size=some _:=Heap.get?_push_size _ rfl;have a4:(tz5 z.heap p q).get? (tz3 z.heap p q).objs.size=some _:=Heap.get?_push_of_some _ (Heap.get?_push_size _ rfl);have a3:(tz5 z.heap p q).get? (tz2 z.heap p q).objs.size=some _:=Heap.get?_push_of_some _ (Heap.get?_push_of_some _ (Heap.get?_push_size _ rfl));have a2:(tz5 z.heap p q).get? (tz1 z.heap p).objs.size=some _:=Heap.get?_push_of_some _ (Heap.get?_push_of_some _ (Heap.get?_push_of_some _ (Heap.get?_push_size _ rfl)));have a1:(tz5 z.heap p q).get? z.heap.objs.size=some _:=Heap.get?_push_of_some _ (Heap.get?_push_of_some _ (Heap.get?_push_of_some _ (Heap.get?_push_of_some _ (Heap.get?_push_size _ rfl))));have up:∀c r,z.heap.get? c=some r->(tz5 z.heap p q).get? c=some r:=λc r x=>Heap.get?_push_of_some _ (Heap.get?_push_of_some _ (Heap.get?_push_of_some _ (Heap.get?_push_of_some _ (Heap.get?_push_of_some _ x))));rw[n2,n3,n4] at a5;rw[n1,n2] at a3;rw[n3] at a4;rw[n1] at a2;refine callType_new F.called_zip (by decide) (F.typeCall_zip_2 _ _) (F.newCall_zip_2 _ _) (λobj=>F.args_object_init_3 obj _ _) F.entry_zip_new M ⟨hp,hq,?_⟩;show _/\_;rw[n4];refine⟨⟨_,a5,rfl⟩,fin _ ⟨a5,a3,⟨_,_,a4⟩,⟨_,a1,rfl,rfl⟩,⟨_,a2,rfl,rfl⟩,?_,?_⟩ n5 up⟩
 ·obtain⟨r,e,x⟩:=hp;exact⟨r,up _ _ e,x⟩
 ·obtain⟨r,e,x⟩:=hq;exact⟨r,up _ _ e,x⟩
end
structure ZI (g:Heap)(y a o i k p q:Addr)(n:Nat)(f:Value):Prop where
 zp:IsZip g y a o f
 its:IsPair g a (.ref i) (.ref k)
 own:∃b c,IsPair g o b c
 i1:g.IsTupleIter i p n
 i2:g.IsTupleIter k q n
theorem ZSt.zi (S:ZSt g y a o i k p q n xs us f):ZI g y a o i k p q n f:=⟨S.zp,S.its,S.own,S.i1,S.i2⟩
noncomputable def Itz (K:QA)(p q:Addr)(xs us:QQ):It:=
 ⟨λn H=>SqT K H p xs/\SqT K H q us/\n < min xs.length us.length,λn H v H'=>∃(T:Addr) (x u:V),H T=none/\xs[n]? =some x/\us[n]? =some u/\v=.ref T/\H'=upd H T (.tup [x,u]),λn H=>SqT K H p xs/\SqT K H q us/\min xs.length us.length<=n⟩
theorem zng {P:Program}{w:World}{K:QA}{elts:List Expr}{x1:Nat}{tpos:Pos}{y a o i k p q:Addr}{xs us:QQ}(D:ZipApart y a o i k p q):
  Turn P w K (.Tuple elts x1 tpos) (Itz K p q xs us) [y,a,o,i,k] y (λn h=>ZI h y a o i k p q n .none) where
 mem:=by simp
 obj:=λn h st b hb=>by
  obtain⟨hz,ha,⟨b1,b2,ho⟩,⟨r1,e1,_,d1⟩,⟨r2,e2,_,d2⟩⟩:=st;simp only[List.mem_cons,List.not_mem_nil,or_false] at hb;rcases hb with rfl | rfl | rfl | rfl | rfl
  ·exact⟨_,hz,λv z=>by cases z⟩
  ·exact⟨_,ha,λv z=>by cases z⟩
  ·exact⟨_,ho,λv z=>by cases z⟩
  ·exact⟨_,e1,λv z=>by rw[d1] at z;cases z⟩
  ·exact⟨_,e2,λv z=>by rw[d2] at z;cases z⟩
 keep:=λn h h' st kp=>by obtain⟨hz,ha,⟨b1,b2,ho⟩,⟨r1,e1,x1⟩,⟨r2,e2,x2⟩⟩:=st;exact⟨kp y (by simp) _ hz,kp a (by simp) _ ha,⟨b1,b2,kp o (by simp) _ ho⟩,⟨r1,kp i (by simp) _ e1,x1⟩,⟨r2,kp k (by simp) _ e2,x2⟩⟩
 item:=by
  intro X hP hw hK hc n pins s σ H E I hf st hg;subst hP hw hK;obtain⟨hp,hq,hn⟩:=hg;obtain⟨its,r1,T1,z1⟩:=I.tuple hp;obtain⟨jts,r2,T2,z2⟩:=I.tuple hq;have hx:xs[n]? =some xs[n]:=List.getElem?_eq_getElem (by omega);have hu:us[n]? =some us[n]:=List.getElem?_eq_getElem (by omega);obtain⟨v1,e1,q1⟩:=r1.get hx;obtain⟨v2,e2,q2⟩:=r2.get hu;have fy:=hf y (by simp);have fa:=hf a (by simp);have fo:=hf o (by simp);have fi:=hf i (by simp);have fk:=hf k (by simp);have S:ZSt s.heap y a o i k p q n its.toArray jts.toArray .none:=⟨st.zp,st.its,st.own,st.i1,st.i2,T1,T2⟩;refine zog D S (u:=v1) (v:=v2) (by simpa using e1) (by simpa using e2) λg Sg new sz up=>?_;have hT:H s.heap.objs.size=none:=I.hok.fresh (Jb _);have inch:∀{b:Addr},H b≠none->b≠y/\b≠o/\b≠i/\b≠k:=λ{b} h=>⟨λz=>h (by rw[z];exact fy.1),λz=>h (by rw[z];exact fo.1),λz=>h (by rw[z];exact fi.1),λz=>h (by rw[z];exact fk.1)⟩;have hok:HOk X.prog X.w (upd H s.heap.objs.size (.tup [xs[n],us[n]])) g:=λb u e=>by
   by_cases hb:b=s.heap.objs.size
   ·subst hb;rw[zc] at e;cases e;refine⟨⟨by simp only[List.length_cons,List.length_nil];rw[sizeLine_eq];decide,_,new,rfl⟩,[v1,v2],.cons q1 (.cons q2 .nil),⟨_,new,rfl,_,rfl⟩⟩
   ·rw[zg hb] at e;refine(I.hok b u e).stay (λc r hc q=>?_) (λc q=>by rw[zg (zj q hT)];exact q) λc ys q=>by rw[zg (zj q hT)];exact q
    have hne:H c≠none:=by
     rcases hc with rfl | hc
     ·rw[e];intro z;cases z
     ·rw[hc];intro z;cases z
    obtain⟨c1,c2,c3,c4⟩:=inch hne;exact up c r c1 c2 c3 c4 q
  have I1:Inv X pins σ (upd H s.heap.objs.size (.tup [xs[n],us[n]])) {s with heap:=g}:=by
   refine I.step (g':=s.gens) (d':=s.drawn) (t':=s.toks) (ch:=[y,o,i,k]) (λb hb=>?_) (λb r _ _ hc e _=>?_) (λb r _ _ hc e _=>⟨r.slots,?_⟩) (λb r hc e hn=>?_) (λb r hc e=>⟨r,?_⟩) (λb ys e=>by rw[zg (zj e hT)];exact e)
    (λb r ys e=>by rw[zg (zj e hT)];exact e) (λb ps e=>⟨#[],by rw[zg (zj e hT),e];simp⟩) (λm hm=>?_) hok I.bare
   ·simp only[List.mem_cons,List.not_mem_nil,or_false] at hb;rcases hb with rfl | rfl | rfl | rfl
    ·exact⟨fy.2.2.2.1,fy.2.1,fy.2.2.2.2.1,fy.2.2.2.2.2⟩
    ·exact⟨fo.2.2.2.1,fo.2.1,fo.2.2.2.2.1,fo.2.2.2.2.2⟩
    ·exact⟨fi.2.2.2.1,fi.2.1,fi.2.2.2.2.1,fi.2.2.2.2.2⟩
    ·exact⟨fk.2.2.2.1,fk.2.1,fk.2.2.2.2.1,fk.2.2.2.2.2⟩
   ·simp only[List.mem_cons,List.not_mem_nil,or_false,not_or] at hc;exact up b r hc.1 hc.2.1 hc.2.2.1 hc.2.2.2 e
   ·simp only[List.mem_cons,List.not_mem_nil,or_false,not_or] at hc;exact up b r hc.1 hc.2.1 hc.2.2.1 hc.2.2.2 e
   ·rw[zg (Jg (Heap.lt_size e))];exact hn
   ·simp only[List.mem_cons,List.not_mem_nil,or_false,not_or] at hc;exact up b r hc.1 hc.2.1 hc.2.2.1 hc.2.2.2 e
   ·obtain⟨r,es,ep,er,d⟩:=hm;exact⟨r,es,ep,up _ r (Ne.symm fy.2.1) (Ne.symm fo.2.1) (Ne.symm fi.2.1) (Ne.symm fk.2.1) er,d⟩
  have hfp:∀b∈ [y,a,o,i,k],upd H s.heap.objs.size (.tup [xs[n],us[n]]) b=none:=λb hb=>by
   have fb:=hf b hb;have lt:b < s.heap.objs.size:=by
    obtain⟨hz,ha,⟨b1,b2,ho⟩,⟨r1,e1,_⟩,⟨r2,e2,_⟩⟩:=st;simp only[List.mem_cons,List.not_mem_nil,or_false] at hb;rcases hb with rfl | rfl | rfl | rfl | rfl
    ·exact Heap.lt_size hz
    ·exact Heap.lt_size ha
    ·exact Heap.lt_size ho
    ·exact Heap.lt_size e1
    ·exact Heap.lt_size e2
   rw[zg (Jg lt)];exact fb.1
  refine⟨_,rfl,wpAny_letOwnedTupleGo_zip Sg.zp λg2 hz2 s2=>?_⟩;refine⟨.ref s.heap.objs.size,_,I1.turned (it:=y) (t':=s.toks) (λb r hb e=>s2.extBut _ _ hb e) (hfp y (by simp)) fy.2.1 fy.2.2.2.1 fy.2.2.2.2.1 fy.2.2.2.2.2,rfl,⟨_,_,_,hT,hx,hu,rfl,rfl⟩,⟨hz2,s2.extBut _ _ D.TIz Sg.its,?_,Sg.i1.extBut s2.extBut D.i1z,Sg.i2.extBut s2.extBut D.i2z⟩,hfp⟩;obtain⟨b1,b2,ho⟩:=Sg.own;exact⟨b1,b2,s2.extBut _ _ D.TOz ho⟩
 done:=by
  intro X hP hw hK hc n pins s σ H E I hf st hg;subst hP hw hK;obtain⟨hp,hq,hn⟩:=hg;obtain⟨its,r1,T1,z1⟩:=I.tuple hp;obtain⟨jts,r2,T2,z2⟩:=I.tuple hq;have fy:=hf y (by simp);have fo:=hf o (by simp);have fi:=hf i (by simp);have fk:=hf k (by simp);have S:ZSt s.heap y a o i k p q n its.toArray jts.toArray .none:=⟨st.zp,st.its,st.own,st.i1,st.i2,T1,T2⟩;have l1:=r1.length;have l2:=r2.length;have he:its.toArray[n]? =none\/jts.toArray[n]? =none:=by
   by_cases h:xs.length<=n
   ·exact .inl (by simp;omega)
   ·exact .inr (by simp;omega)
  refine znJ (I.ok.hd hc) D S he λg up=>⟨rfl,?_⟩;have inch:∀{b:Addr},H b≠none->b≠y/\b≠o/\b≠i/\b≠k:=λ{b} h=>⟨λz=>h (by rw[z];exact fy.1),λz=>h (by rw[z];exact fo.1),λz=>h (by rw[z];exact fi.1),λz=>h (by rw[z];exact fk.1)⟩;refine I.step (g':=s.gens) (d':=s.drawn) (t':=s.toks) (ch:=[y,o,i,k]) (λb hb=>?_) (λb r _ _ hc e _=>?_) (λb r _ _ hc e _=>⟨r.slots,?_⟩) (λb r hc e hn=>hn) (λb r hc e=>⟨r,?_⟩) (λb ys e=>e) (λb r ys e=>e) (λb ps e=>⟨#[],by rw[e];simp⟩) (λm hm=>?_) (λb u e=>?_) I.bare
  ·simp only[List.mem_cons,List.not_mem_nil,or_false] at hb;rcases hb with rfl | rfl | rfl | rfl
   ·exact⟨fy.2.2.2.1,fy.2.1,fy.2.2.2.2.1,fy.2.2.2.2.2⟩
   ·exact⟨fo.2.2.2.1,fo.2.1,fo.2.2.2.2.1,fo.2.2.2.2.2⟩
   ·exact⟨fi.2.2.2.1,fi.2.1,fi.2.2.2.2.1,fi.2.2.2.2.2⟩
   ·exact⟨fk.2.2.2.1,fk.2.1,fk.2.2.2.2.1,fk.2.2.2.2.2⟩
  ·simp only[List.mem_cons,List.not_mem_nil,or_false,not_or] at hc;exact up b r hc.1 hc.2.1 hc.2.2.1 hc.2.2.2 e
  ·simp only[List.mem_cons,List.not_mem_nil,or_false,not_or] at hc;exact up b r hc.1 hc.2.1 hc.2.2.1 hc.2.2.2 e
  ·simp only[List.mem_cons,List.not_mem_nil,or_false,not_or] at hc;exact up b r hc.1 hc.2.1 hc.2.2.1 hc.2.2.2 e
  ·obtain⟨r,es,ep,er,d⟩:=hm;exact⟨r,es,ep,up _ r (Ne.symm fy.2.1) (Ne.symm fo.2.1) (Ne.symm fi.2.1) (Ne.symm fk.2.1) er,d⟩
  ·refine(I.hok b u e).stay (λc r hc q=>?_) (λ_ q=>q) λ_ _ q=>q;have hne:H c≠none:=by
    rcases hc with rfl | hc
    ·rw[e];intro z;cases z
    ·rw[hc];intro z;cases z
   obtain⟨c1,c2,c3,c4⟩:=inch hne;exact up c r c1 c2 c3 c4 q
 self:=λ_ _ _ _ _ st h=>wpAny_pyIter_zip st.zp h
theorem zrr (n p q:Nat)(h1:p < n)(h2:q < n):ZipApart (n+4) (n+2) (n+3) n (n+1) p q where
 TIz:=show(n+2:Nat)≠n+4 by omega
 TOz:=show(n+3:Nat)≠n+4 by omega
 i1z:=show(n:Nat)≠n+4 by omega
 i2z:=show(n+1:Nat)≠n+4 by omega
 TITO:=show(n+2:Nat)≠n+3 by omega
 TIi1:=show(n+2:Nat)≠n by omega
 TIi2:=show(n+2:Nat)≠n+1 by omega
 TOi1:=show(n+3:Nat)≠n by omega
 TOi2:=show(n+3:Nat)≠n+1 by omega
 i12:=show(n:Nat)≠n+1 by omega
 l1z:=show(p:Nat)≠n+4 by omega
 l1TO:=show(p:Nat)≠n+3 by omega
 l1i1:=show(p:Nat)≠n by omega
 l1i2:=show(p:Nat)≠n+1 by omega
 l2z:=show(q:Nat)≠n+4 by omega
 l2TO:=show(q:Nat)≠n+3 by omega
 l2i1:=show(q:Nat)≠n by omega
 l2i2:=show(q:Nat)≠n+1 by omega
section
variable {X:Cx}
noncomputable def iZip (K:QA)(ta:TA):TI:=fun σ H R=>ta σ H λvs H1=>∃(p q:Addr) (xs us:QQ),vs=[.ref p,.ref q]/\SqT K H1 p xs/\SqT K H1 q us/\R (Itz K p q xs us) H1
theorem zrj {elts:List Expr}{x1:Nat}{tpos:Pos}{a b:Expr}{p pos:Pos}(hg:Gl X "zip") (hm:X.mg "zip" =none) (ha:PA X [a,b] ta) (hs:starEach [a,b] X.env=[(false,eval a X.env),(false,eval b X.env)]:=by rfl) (hs2:starEach [b] X.env=[(false,eval b X.env)]:=by rfl):
  PI X (.Tuple elts x1 tpos) (.Call (.Name "zip" p) [a,b] [] pos) (iZip X.K ta):=by
 intro pins s σ H R I h;refine Call_ (zbo I hg hm (u:=.type "zip") (by rfl) (PyProof.Rows.callWith_type1 (thn (ha pos pins s σ H _ I h) λus s1 ⟨vs,H1,I1,r1,q1⟩=>?_) (by rw[hs,hs2]) (by rw[hs2];rfl)));obtain⟨p1,p2,xs,ys,rfl,hp,hq,q⟩:=q1;obtain⟨u,w',rfl,ru,rw'⟩:=vals2 r1;cases (show u=Value.ref _ from ru);cases (show w'=Value.ref _ from rw');obtain⟨its,r1,T1,z1⟩:=I1.tuple hp;obtain⟨jts,r2,T2,z2⟩:=I1.tuple hq;refine zmR T1 T2 λg S sz up=>wpAny_pyIter_zip S.zp ?_;have lt1:p1 < s1.heap.objs.size:=by obtain⟨r,e,_⟩:=T1;exact Heap.lt_size e
 have lt2:p2 < s1.heap.objs.size:=by obtain⟨r,e,_⟩:=T2;exact Heap.lt_size e
 refine⟨_,_,_,_,H1,rfl,I1.kept (t':=s1.toks) up,zng (zrr _ _ _ lt1 lt2),S.zi,λb hb=>?_,q⟩;have hb':s1.heap.objs.size<=b:=by
  simp only[List.mem_cons,List.not_mem_nil,or_false] at hb;rcases hb with rfl | rfl | rfl | rfl | rfl
  ·exact Nat.le_add_right _ _
  ·exact Nat.le_add_right _ _
  ·exact Nat.le_add_right _ _
  ·exact Jb _
  ·exact Nat.le_add_right _ _
 exact I1.fpOk hb' (I1.hok.fresh hb')
theorem zpy {K:QA}{p q:Addr}{xs us:QQ}{g:TG}{tb:TS}{D:Ends}{σ:St}{H:Hp}(Pv:Nat->St->Hp->Prop)(h0:Pv 0 σ H)(hl:∀i σ H,Pv i σ H->SqT K H p xs/\SqT K H q us)
  (hs:∀i x u T σ H,xs[i]? =some x->us[i]? =some u->H T=none->Pv i σ H->g (.ref T) σ (upd H T (.tup [x,u])) fun σ2 H2=>tb {D with nx:=Pv (i+1),ct:=Pv (i+1),bk:=D.nx} σ2 H2) (hd:∀σ H,Pv (min xs.length us.length) σ H->D.nx σ H):
  ∃W:Nat->Nat->St->Hp->Prop,(∃m,W 0 m σ H)/\∀i m σ H,W i m σ H->
   ((Itz K p q xs us).stop i H/\D.nx σ H)\/((Itz K p q xs us).go i H/\∃N:St->Hp->Prop,(∀σ' H',N σ' H'->∃m',m' < m/\W (i+1) m' σ' H')/\∀x H',(Itz K p q xs us).yld i H x H'->g x σ H' fun σ2 H2=>tb {D with nx:=N,ct:=N,bk:=D.nx} σ2 H2):=by
 refine⟨λi m σ H=>m=min xs.length us.length - i/\i<=min xs.length us.length/\Pv i σ H,⟨_,rfl,Nat.zero_le _,h0⟩,?_⟩;rintro i m σ H ⟨rfl,hi,p⟩;have q:=hl i σ H p;by_cases hlt:i < min xs.length us.length
 ·refine .inr ⟨⟨q.1,q.2,hlt⟩,Pv (i+1),fun σ' H' p'=>⟨_,by omega,rfl,hlt,p'⟩,λx H' y=>?_⟩;obtain⟨T,a,b,hT,e1,e2,rfl,rfl⟩:=y;exact hs i a b T σ H e1 e2 hT p
 ·have e:i=min xs.length us.length:=by omega
  subst e;exact .inl ⟨⟨q.1,q.2,Jb _⟩,hd σ H p⟩
end
end L2
namespace Pv
open PySem L2
mutual
noncomputable def eqT:Th->Th->Bool
 | .non,.non=>true
 | .int a,.int b=>a==b
 | .str a,.str b=>a==b
 | .tup a,.tup b=>eqL a b
 | _,_=>false
noncomputable def eqL:List Th->List Th->Bool
 | [],[]=>true
 | t::r,u::q=>eqT t u && eqL r q
 | _,_=>false
end
mutual
theorem zS:∀t u:Th,eqT t u=true↔t=u
 | .non,.non=>by simp[eqT]
 | .non,.int _=>by simp[eqT]
 | .non,.str _=>by simp[eqT]
 | .non,.tup _=>by simp[eqT]
 | .int _,.non=>by simp[eqT]
 | .int a,.int b=>by simp[eqT]
 | .int _,.str _=>by simp[eqT]
 | .int _,.tup _=>by simp[eqT]
 | .str _,.non=>by simp[eqT]
 | .str _,.int _=>by simp[eqT]
 | .str a,.str b=>by simp[eqT]
 | .str _,.tup _=>by simp[eqT]
 | .tup _,.non=>by simp[eqT]
 | .tup _,.int _=>by simp[eqT]
 | .tup _,.str _=>by simp[eqT]
 | .tup a,.tup b=>by have:=zks a b;simp[eqT,this]
theorem zks:∀a b:List Th,eqL a b=true↔a=b
 | [],[]=>by simp[eqL]
 | [],_::_=>by simp[eqL]
 | _::_,[]=>by simp[eqL]
 | t::r,u::q=>by have h1:=zS t u;have h2:=zks r q;simp[eqL,h1,h2]
end
theorem zb4 (t:Th):eqT t t=true:=(zS t t).mpr rfl
theorem zdX:∀a b:List Th,eqL a b=((List.range (min a.length b.length)).all (λj=>eqT (a[j]?.getD .non) (b[j]?.getD .non)) && a.length==b.length)
 | [],[]=>rfl
 | [],_::_=>by simp[eqL]
 | _::_,[]=>by simp[eqL]
 | t::r,u::q=>by
  have h:=zdX r q;show(eqT t u && eqL r q)=_;rw[h,List.length_cons,List.length_cons,Nat.succ_min_succ,List.range_succ_eq_map,List.all_cons,List.all_map];have e:(λj=>eqT ((t::r)[j]?.getD .non) ((u::q)[j]?.getD .non)) ∘ Nat.succ=λj=>eqT (r[j]?.getD .non) (q[j]?.getD .non):=by funext j;simp
  rw[e];have e2:(r.length+1==q.length+1)=(r.length==q.length):=by rw[Bool.eq_iff_iff];simp
  rw[e2,Bool.and_assoc]
  rfl
theorem Rep.inj (r:Rep H t v)(q:Rep H u v):t=u:=by
 induction r generalizing u with
 | non=>cases q;rfl
 | int i=>cases q;rfl
 | str x=>cases q;rfl
 | @tup a xs ts e l h ih=>
  cases q with
  | @tup _ ys us e' l' h'=>
   rw[e] at e';cases e';refine congrArg Th.tup (List.ext_getElem? λi=>?_);by_cases hi:i < xs.length
   ·have h1:ts[i]? =some ts[i]:=List.getElem?_eq_getElem (by omega);have h2:us[i]? =some us[i]:=List.getElem?_eq_getElem (by omega);rw[h1,h2,ih i xs[i] ts[i] (List.getElem?_eq_getElem hi) h1 (h' i xs[i] us[i] (List.getElem?_eq_getElem hi) h2)]
   ·rw[List.getElem?_eq_none (by omega),List.getElem?_eq_none (by omega)]
open PySem.SeqAt in
section
variable {X:Cx}{pins:QE}{σ:L2.St}{H:Hp}{s:Shared}
theorem zh7 (I:Inv X pins σ H s){xs ys:QQ}{ts us:List Th}{A:Around}(e:H a=some (.tup xs))(e':H b=some (.tup ys))(l:xs.length=ts.length)(l':ys.length=us.length)
  (ih:∀(j:Nat) (x y:V) (t u:Th) (vx vy:Value),xs[j]? =some x->ys[j]? =some y->ts[j]? =some t->us[j]? =some u->RelV x vx->RelV y vy->EqAt A.in1 s vx vy (eqT t u)):
  ∃its jts:List Value,s.heap.IsTuple a its.toArray/\s.heap.IsTuple b jts.toArray/\its.length=ts.length/\jts.length=us.length/\
   ∀j (h1:j < its.toArray.size) (h2:j < jts.toArray.size),EqAt A.in1 s its.toArray[j] jts.toArray[j] (eqT (ts[j]?.getD .non) (us[j]?.getD .non)):=by
 obtain⟨its,r1,T1,_⟩:=I.tuple (SqT.of e);obtain⟨jts,r2,T2,_⟩:=I.tuple (SqT.of e');have n1:=r1.length;have n2:=r2.length;refine⟨its,jts,T1,T2,by omega,by omega,λj h1 h2=>?_⟩;have h1':j < its.length:=by simpa using h1
 have h2':j < jts.length:=by simpa using h2
 obtain⟨vx,ex,rx⟩:=r1.get (List.getElem?_eq_getElem (show j < xs.length by omega));obtain⟨vy,ey,ry⟩:=r2.get (List.getElem?_eq_getElem (show j < ys.length by omega));have g1:ts[j]? =some ts[j]:=List.getElem?_eq_getElem (by omega);have g2:us[j]? =some us[j]:=List.getElem?_eq_getElem (by omega);have q:=ih j _ _ _ _ vx vy (List.getElem?_eq_getElem (show j < xs.length by omega)) (List.getElem?_eq_getElem (show j < ys.length by omega)) g1 g2 rx ry;rw[g1,g2];have z1:its.toArray[j]=vx:=by have:its[j]? =some its[j]:=List.getElem?_eq_getElem h1';rw[this] at ex;simpa using Option.some.inj ex
 have z2:jts.toArray[j]=vy:=by have:jts[j]? =some jts[j]:=List.getElem?_eq_getElem h2';rw[this] at ey;simpa using Option.some.inj ey
 rw[z1,z2];exact q
theorem zsf (I:Inv X pins σ H s)(r:Rep H t x):∀{u:Th} {y:V} {vx vy:Value} {A:Around},Rep H u y->RelV x vx->RelV y vy->A.units+dep t+1 < cLine->EqAt A s vx vy (eqT t u):=by
 induction r with
 | non=>
  intro u y vx vy A q rx ry hu;cases (show vx=Value.none from rx);cases q with
  | non=>cases (show vy=Value.none from ry);exact EqAt.same _
  | int i=>obtain⟨k,rfl⟩:=ry;exact EqAt.none_int i k
  | str z=>obtain⟨k,rfl⟩:=ry;exact EqAt.none_str z k
  | tup e l h=>cases (show vy=Value.ref _ from ry);obtain⟨its,_,T,_⟩:=I.tuple (SqT.of e);exact EqAt.none_tuple T (by omega)
 | int a=>
  intro u y vx vy A q rx ry hu;obtain⟨k1,rfl⟩:=rx;cases q with
  | non=>cases (show vy=Value.none from ry);exact EqAt.int_none a k1
  | int i=>obtain⟨k,rfl⟩:=ry;exact EqAt.int_int a k1 i k
  | str z=>obtain⟨k,rfl⟩:=ry;exact EqAt.int_str a k1 z k
  | tup e l h=>cases (show vy=Value.ref _ from ry);obtain⟨its,_,T,_⟩:=I.tuple (SqT.of e);exact EqAt.int_tuple a k1 T (by omega)
 | str a=>
  intro u y vx vy A q rx ry hu;obtain⟨k1,rfl⟩:=rx;cases q with
  | non=>cases (show vy=Value.none from ry);exact EqAt.str_none a k1
  | int i=>obtain⟨k,rfl⟩:=ry;exact EqAt.str_int a k1 i k
  | str z=>obtain⟨k,rfl⟩:=ry;exact EqAt.str_str a k1 z k
  | tup e l h=>cases (show vy=Value.ref _ from ry);obtain⟨its,_,T,_⟩:=I.tuple (SqT.of e);exact EqAt.str_tuple a k1 T (by omega)
 | @tup a xs ts e l h ih=>
  intro u y vx vy A q rx ry hu;cases (show vx=Value.ref a from rx);cases q with
  | non=>cases (show vy=Value.none from ry);obtain⟨its,_,T,_⟩:=I.tuple (SqT.of e);exact EqAt.tuple_none T (by omega)
  | int i=>obtain⟨k,rfl⟩:=ry;obtain⟨its,_,T,_⟩:=I.tuple (SqT.of e);exact EqAt.tuple_int i k T (by omega)
  | str z=>obtain⟨k,rfl⟩:=ry;obtain⟨its,_,T,_⟩:=I.tuple (SqT.of e);exact EqAt.tuple_str z k T (by omega)
  | @tup b ys us e' l' h'=>
   cases (show vy=Value.ref b from ry);by_cases hab:a=b
   ·subst hab;have z:=Rep.inj (Rep.tup e l h) (Rep.tup e' l' h');rw[<-z,zb4];exact EqAt.same _
   ·have hd:dep (.tup ts)=depL ts+1:=rfl;obtain⟨its,jts,T1,T2,n1,n2,q⟩:=zh7 (A:=A) I e e' l l' λj x y t u vx vy h1 h2 h3 h4 rx ry=>ih j x t h1 h3 (h' j y u h2 h4) rx ry (by
     have:=zcg h3;show A.units+1+dep t+1 < cLine;omega)
    have R:=RcAt.tuples T1 T2 (show A.units < cLine by omega) q;have e3:((List.range (min its.toArray.size jts.toArray.size)).all (λj=>eqT (ts[j]?.getD .non) (us[j]?.getD .non)) && its.toArray.size==jts.toArray.size)=eqT (.tup ts) (.tup us):=by show _=eqL ts us;rw[zdX,List.size_toArray,List.size_toArray,n1,n2]
    rw[e3] at R;exact EqAt.of_refs hab R
theorem rc_T (I:Inv X pins σ H s){A:Around}(r:Rep H t x)(q:Rep H u y)(rx:RelV x vx)(ry:RelV y vy)(hu:A.units+dep t+1 < cLine):RcAt A s vx vy (eqT t u)/\RcNeAt A s vx vy (!eqT t u):=by
 cases r with
 | non=>
  cases (show vx=Value.none from rx);cases q with
  | non=>cases (show vy=Value.none from ry);exact⟨RcAt.none_none,RcNeAt.none_none⟩
  | int i=>obtain⟨k,rfl⟩:=ry;exact⟨RcAt.none_int i k,RcNeAt.none_int i k⟩
  | str z=>obtain⟨k,rfl⟩:=ry;exact⟨RcAt.none_str z k,RcNeAt.none_str z k⟩
  | tup e l h=>cases (show vy=Value.ref _ from ry);obtain⟨its,_,T,_⟩:=I.tuple (SqT.of e);exact⟨RcAt.none_tuple T (by omega),RcNeAt.none_tuple T (by omega)⟩
 | int a=>
  obtain⟨k1,rfl⟩:=rx;cases q with
  | non=>cases (show vy=Value.none from ry);exact⟨RcAt.int_none a k1,RcNeAt.int_none a k1⟩
  | int i=>obtain⟨k,rfl⟩:=ry;exact⟨RcAt.int_int a k1 i k,RcNeAt.int_int a k1 i k⟩
  | str z=>obtain⟨k,rfl⟩:=ry;exact⟨RcAt.int_str a k1 z k,RcNeAt.int_str a k1 z k⟩
  | tup e l h=>cases (show vy=Value.ref _ from ry);obtain⟨its,_,T,_⟩:=I.tuple (SqT.of e);exact⟨RcAt.int_tuple a k1 T (by omega),RcNeAt.int_tuple a k1 T (by omega)⟩
 | str a=>
  obtain⟨k1,rfl⟩:=rx;cases q with
  | non=>cases (show vy=Value.none from ry);exact⟨RcAt.str_none a k1,RcNeAt.str_none a k1⟩
  | int i=>obtain⟨k,rfl⟩:=ry;exact⟨RcAt.str_int a k1 i k,RcNeAt.str_int a k1 i k⟩
  | str z=>obtain⟨k,rfl⟩:=ry;exact⟨RcAt.str_str a k1 z k,RcNeAt.str_str a k1 z k⟩
  | tup e l h=>cases (show vy=Value.ref _ from ry);obtain⟨its,_,T,_⟩:=I.tuple (SqT.of e);exact⟨RcAt.str_tuple a k1 T (by omega),RcNeAt.str_tuple a k1 T (by omega)⟩
 | @tup a xs ts e l h=>
  cases (show vx=Value.ref a from rx);cases q with
  | non=>cases (show vy=Value.none from ry);obtain⟨its,_,T,_⟩:=I.tuple (SqT.of e);exact⟨RcAt.tuple_none T (by omega),RcNeAt.tuple_none T (by omega)⟩
  | int i=>obtain⟨k,rfl⟩:=ry;obtain⟨its,_,T,_⟩:=I.tuple (SqT.of e);exact⟨RcAt.tuple_int i k T (by omega),RcNeAt.tuple_int i k T (by omega)⟩
  | str z=>obtain⟨k,rfl⟩:=ry;obtain⟨its,_,T,_⟩:=I.tuple (SqT.of e);exact⟨RcAt.tuple_str z k T (by omega),RcNeAt.tuple_str z k T (by omega)⟩
  | @tup b ys us e' l' h'=>
   cases (show vy=Value.ref b from ry);have hd:dep (.tup ts)=depL ts+1:=rfl;obtain⟨its,jts,T1,T2,n1,n2,q⟩:=zh7 (A:=A) I e e' l l' λj x y t u vx vy h1 h2 h3 h4 rx ry=>zsf I (h j x t h1 h3) (h' j y u h2 h4) rx ry (by
     have:=zcg h3;show A.units+1+dep t+1 < cLine;omega)
   have e3:((List.range (min its.toArray.size jts.toArray.size)).all (λj=>eqT (ts[j]?.getD .non) (us[j]?.getD .non)) && its.toArray.size==jts.toArray.size)=eqT (.tup ts) (.tup us):=by show _=eqL ts us;rw[zdX,List.size_toArray,List.size_toArray,n1,n2]
   have R:=RcAt.tuples T1 T2 (show A.units < cLine by omega) q;have R':=RcNeAt.tuples T1 T2 (show A.units < cLine by omega) q;rw[e3] at R R';exact⟨R,R'⟩
end
section
variable {X:Cx}
theorem zeB (hr:Room k X.A):OpR X (compareOp .Eq) (λx y H Q=>∃t u,Rep H t x/\Rep H u y/\dep t<=50/\Q (.bl (eqT t u)) H):=by intro pins s σ H x y v w Q I rx ry h;obtain⟨t,u,r1,r2,hd,q⟩:=h;have hu:=hr.units;exact(rc_T I r1 r2 rx ry (by omega)).1 _ _ _ _ ⟨.bl _,H,I,rfl,q⟩
theorem zdf (hr:Room k X.A):OpR X (compareOp .NotEq) (λx y H Q=>∃t u,Rep H t x/\Rep H u y/\dep t<=50/\Q (.bl (!eqT t u)) H):=by intro pins s σ H x y v w Q I rx ry h;obtain⟨t,u,r1,r2,hd,q⟩:=h;have hu:=hr.units;exact(rc_T I r1 r2 rx ry (by omega)).2 _ _ _ _ ⟨.bl _,H,I,rfl,q⟩
end
end Pv
namespace L2
open PySem PySem.Spec PyProof.Rows
section
open PySem.SeqAt
open PySem.AutoSeq1 (wpAny_loadPart')
open PySem.MeetsSeq PySem.MeetsSeq2 PySem.MeetsSeq3
end
section
variable {X:Cx}
end
end L2
namespace L2
open PySem PySem.Spec PyProof.Rows
section
open PySem.AutoSeq1 (wpAny_loadPart')
end
section
variable {X:Cx}
end
end L2
namespace Pv
open PySem L2
theorem szL {n:Nat}(h:n<=100000):n<=sizeLine:=Ji h (by rw[sizeLine_eq];decide)
theorem zkx {J:It}{n:Nat}{tt:TT}{Q:VK}(Pv:Nat->List V->Hp->Prop)(h0:Pv 0 [] (upd H1 p (.lst [])))
  (hg:∀i acc H,i < n->Pv i acc H->J.go i H) (ht:∀acc H,Pv n acc H->J.stop n H)
  (hs:∀i acc H x H',i < n->Pv i acc H->J.yld i H x H'->tt (some x::frees σ js) H' λok H2=>
   if ok=true then te (some x::frees σ js) H2 λy H3=>H3 p=some (.lst acc)/\acc.length < sizeLine/\∃m',m' < n - i/\(m'=n - (i+1)/\i+1<=n/\Pv (i+1) (acc++ [y]) (upd H3 p (.lst (acc++ [y]))))
   else∃m',m' < n - i/\(m'=n - (i+1)/\i+1<=n/\Pv (i+1) acc H2)) (hd:∀acc H,Pv n acc H->Q (.ref p) H):
  zfH J p σ js tt te H1 Q:=by
 refine⟨λi m acc H=>m=n - i/\i<=n/\Pv i acc H,⟨n,by simp,Nat.zero_le _,h0⟩,?_⟩;rintro i m acc H ⟨rfl,hi,p⟩;by_cases hlt:i < n
 ·exact .inr ⟨hg i acc H hlt p,λx H' y=>hs i acc H x H' hlt p y⟩
 ·have e:i=n:=by omega
  subst e;exact .inl ⟨ht acc H p,hd acc H p⟩
theorem nxt {i n:Nat}{C:Prop}(h:i < n)(c:C):∃m',m' < n - i/\(m'=n - (i+1)/\i+1<=n/\C):=⟨_,by omega,rfl,h,c⟩
noncomputable def numOf (l:List Nat):Int:=l.foldl (λ(n:Int) (c:Nat)=>n * 128+(c:Int)) 0
theorem zjE (l:List Nat)(c:Nat):numOf (l++ [c])=numOf l * 128+c:=by unfold numOf;rw[List.foldl_append];rfl
noncomputable def chunk (x:Str)(k:Nat):List Nat:=(x.cps.toList.drop (7 * k)).take 7
noncomputable def zhk (x:Str)(k:Nat):Str:=⟨(chunk x k).toArray⟩
noncomputable def zaW (x:Str):Nat:=(x.length+6) / 7
noncomputable def zdV (x:Str):List Int:=(List.range (zaW x)).map λk=>numOf (chunk x k)
mutual
noncomputable def zan:Th->List Int
 | .non=>[1]
 | .int n=>[2,(n+10 ^ 30) / 10 ^ 15,(n+10 ^ 30) % 10 ^ 15]
 | .str x=>[3,(x.length:Int)]++zdV x
 | .tup ts=>[4,(ts.length:Int)]++zac ts
noncomputable def zac:List Th->List Int
 | []=>[]
 | t::r=>zan t++zac r
end
theorem zel:∀(ts:List Th) (t:Th),zac (ts++ [t])=zac ts++zan t
 | [],t=>by simp[zac]
 | u::r,t=>by have:=zel r t;show zan u++zac (r++ [t])=zan u++zac r++zan t;rw[this,List.append_assoc]
theorem ziQ {ts:List Th}{i:Nat}{t:Th}(h:ts[i]? =some t):zac (ts.take (i+1))=zac (ts.take i)++zan t:=by rw[List.take_add_one,h];exact zel _ _
mutual
theorem zdP:∀t:Th,Wf t->(zan t).length<=11 * nodes t
 | .non,_=>by show 1<=11 * 1;omega
 | .int n,_=>by show 3<=11 * 1;omega
 | .str x,h=>by
  have h1:x.length<=60:=h.1;show([3,(x.length:Int)]++zdV x).length<=11 * 1;have h2:(zdV x).length=zaW x:=by unfold zdV;rw[List.length_map,List.length_range]
  rw[List.length_append,h2];show 2+zaW x<=11;unfold zaW;omega
 | .tup ts,h=>by have:=zcT ts h.2;show([4,(ts.length:Int)]++zac ts).length<=11 * (1+zV ts);rw[List.length_append];show 2+(zac ts).length<=_;omega
theorem zcT:∀ts:List Th,WfL ts->(zac ts).length<=11 * zV ts
 | [],_=>by show 0<=_;omega
 | t::r,h=>by have h1:=zdP t h.1;have h2:=zcT r h.2;show(zan t++zac r).length<=11 * (nodes t+zV r);rw[List.length_append];omega
end
theorem zbY:∀(ts:List Th) (i:Nat),(zac (ts.take i)).length<=(zac ts).length
 | [],i=>by rw[List.take_nil];exact Jb _
 | t::r,0=>by show 0<=_;omega
 | t::r,i+1=>by have:=zbY r i;show(zan t++zac (r.take i)).length<=(zan t++zac r).length;rw[List.length_append,List.length_append];omega
theorem zlo {k:Nat}(h:k < zaW x):cutS x (some (0+(k:Int) * 7)) (some (0+(k:Int) * 7+7))=zhk x k:=by
 unfold zaW at h;have e1:(0+(k:Int) * 7)=((7 * k:Nat):Int):=by omega
 have e2:(0+(k:Int) * 7+7)=((7 * k+7:Nat):Int):=by omega
 unfold cutS zhk chunk;rw[e2,e1,HT.sIx_nat,HT.sIx_nat];have hl:x.cps.toList.length=x.length:=Array.length_toList;have a1:min (7 * k) x.length=7 * k:=by omega
 rw[a1];refine congrArg (λl=>(⟨List.toArray l⟩:Str)) ?_;by_cases hb:7 * k+7<=x.length
 ·rw[show min (7 * k+7) x.length - 7 * k=7 by omega]
 ·rw[Jm (by rw[List.length_drop];omega),Jm (by rw[List.length_drop];omega)]
theorem zlb {x:Str}:(((x.length:Int)+7 - 1) / 7).toNat=zaW x:=by unfold zaW;omega
noncomputable def zdn (l:List Int):Int:=l.foldl (λh c=>(h * 1234567890123456789+c) % 2305843009213693951) 7
noncomputable def zm (t:Th):Int:=zdn (zan t)+1
theorem zfP (l:List Int)(c:Int):zdn (l++ [c])=(zdn l * 1234567890123456789+c) % 2305843009213693951:=by unfold zdn;rw[List.foldl_append];rfl
theorem zjO {l:List Int}{i:Nat}{c:Int}(h:l[i]? =some c):zdn (l.take (i+1))=(zdn (l.take i) * 1234567890123456789+c) % 2305843009213693951:=by rw[List.take_add_one,h];exact zfP _ _
theorem zeo (l:List Int):0<=zdn l/\zdn l < 2305843009213693951:=by
 rcases List.eq_nil_or_concat l with rfl | ⟨r,c,rfl⟩
 ·exact⟨by decide,by decide⟩
 ·rw[List.concat_eq_append,zfP];exact⟨Int.emod_nonneg _ (by decide),Int.emod_lt_of_pos _ (by decide)⟩
end Pv
namespace Pv
theorem zfr:∀{ts:List Th} {i:Nat} {t:Th},ts[i]? =some t->nodes t<=zV ts
 | [],_,_,e=>by simp at e
 | u::r,0,t,e=>by simp at e;subst e;exact Nat.le_add_right _ _
 | u::r,i+1,t,e=>Ji (zfr (i:=i) (by simpa using e)) (Nat.le_add_left _ _)
end Pv
namespace Pv
open L2
theorem tt1 {σ:L2.St}{H:Hp}{A B:Hp->Prop}(h:A H):zc6 σ H λok H2=>if ok=true then A H2 else B H2:=by
 show if true=true then A H else B H
 rw[if_pos rfl];exact h
end Pv
namespace Pv
open PySem L2
noncomputable def zao:Th->Int
 | .non=>0
 | .int _=>1
 | .str _=>2
 | .tup _=>3
mutual
noncomputable def zd:Th->Th->Bool
 | .non,.non=>false
 | .int a,.int b=>decide (a < b)
 | .str a,.str b=>decide (a.cps.toList < b.cps.toList)
 | .tup a,.tup b=>zaE a b
 | t,u=>decide (zao t < zao u)
noncomputable def zaE:List Th->List Th->Bool
 | [],[]=>false
 | [],_::_=>true
 | _::_,[]=>false
 | t::r,u::q=>if eqT t u=true then zaE r q else zd t u
end
mutual
noncomputable def rowT:Th->List Int
 | .non=>[0]
 | .int a=>[1,a]
 | .str x=>[2]++x.cps.toList.map (λ(c:Nat)=>(c:Int))++ [-1]
 | .tup ts=>[3]++rowL ts++ [-1]
noncomputable def rowL:List Th->List Int
 | []=>[]
 | t::r=>rowT t++rowL r
end
theorem zhC:∀(p a b:List Int),HT.lexLt (p++a) (p++b)=HT.lexLt a b
 | [],_,_=>rfl
 | x::r,a,b=>by rw[List.cons_append,List.cons_append,HT.lexLt_cons,if_pos rfl];exact zhC r a b
theorem za3 {x y:Int}(h:x≠y)(a b:List Int):HT.lexLt (x::a) (y::b)=decide (x < y):=by rw[HT.lexLt_cons,if_neg h]
theorem zj9:∀(x y:List Nat) (a b:List Int),x≠y->HT.lexLt (x.map (λ(c:Nat)=>(c:Int))++ -1::a) (y.map (λ(c:Nat)=>(c:Int))++ -1::b)=decide (x < y)
 | [],[],_,_,h=>Je rfl h
 | [],d::y,a,b,_=>by show HT.lexLt (-1::a) ((d:Int)::_)=_;rw[za3 (by omega),decide_eq_true (by omega)];exact(decide_eq_true (List.nil_lt_cons d y)).symm
 | c::x,[],a,b,_=>by show HT.lexLt ((c:Int)::_) (-1::b)=_;rw[za3 (by omega),decide_eq_false (by omega)];exact(decide_eq_false (List.not_lt_nil _)).symm
 | c::x,d::y,a,b,h=>by
  show HT.lexLt ((c:Int)::_) ((d:Int)::_)=_;by_cases e:c=d
  ·subst e;rw[HT.lexLt_cons,if_pos rfl];have:=zj9 x y a b (λz=>h (by rw[z]));refine Eq.trans this ?_;rw[Bool.eq_iff_iff];simp[List.cons_lt_cons_iff]
  ·rw[za3 (by omega)];rw[Bool.eq_iff_iff];simp[List.cons_lt_cons_iff,e]
theorem zdz (t:Th):∃r,rowT t=zao t::r:=by
 cases t with
 | non=>exact⟨[],rfl⟩
 | int a=>exact⟨[a],rfl⟩
 | str x=>exact⟨_,rfl⟩
 | tup ts=>exact⟨_,rfl⟩
theorem zkg (t:Th):0<=zao t:=by
 cases t with
 | non=>exact(by decide:(0:Int)<=0)
 | int _=>exact(by decide:(0:Int)<=1)
 | str _=>exact(by decide:(0:Int)<=2)
 | tup _=>exact(by decide:(0:Int)<=3)
theorem zr5 {x y:Str}(h:x≠y):x.cps.toList≠y.cps.toList:=λz=>h (by
 rcases x with ⟨a⟩;rcases y with ⟨b⟩;have:a=b:=Array.toList_inj.mp z;rw[this])
theorem zZ (h:zao t≠zao u)(a b:List Int):HT.lexLt (rowT t++a) (rowT u++b)=decide (zao t < zao u):=by obtain⟨r,e⟩:=zdz t;obtain⟨q,e'⟩:=zdz u;rw[e,e',List.cons_append,List.cons_append];exact za3 h _ _
mutual
theorem zkh:∀(t u:Th) (a b:List Int),t≠u->HT.lexLt (rowT t++a) (rowT u++b)=zd t u
 | .non,.non,_,_,h=>Je rfl h
 | .non,.int _,a,b,_=>zZ (t:=.non) (u:=.int _) (by show(0:Int)≠1;decide) a b
 | .non,.str _,a,b,_=>zZ (t:=.non) (u:=.str _) (by show(0:Int)≠2;decide) a b
 | .non,.tup _,a,b,_=>zZ (t:=.non) (u:=.tup _) (by show(0:Int)≠3;decide) a b
 | .int _,.non,a,b,_=>zZ (t:=.int _) (u:=.non) (by show(1:Int)≠0;decide) a b
 | .int x,.int y,a,b,h=>by show HT.lexLt (1::x::a) (1::y::b)=decide (x < y);rw[HT.lexLt_cons,if_pos rfl];exact za3 (λz=>h (by rw[z])) _ _
 | .int _,.str _,a,b,_=>zZ (t:=.int _) (u:=.str _) (by show(1:Int)≠2;decide) a b
 | .int _,.tup _,a,b,_=>zZ (t:=.int _) (u:=.tup _) (by show(1:Int)≠3;decide) a b
 | .str _,.non,a,b,_=>zZ (t:=.str _) (u:=.non) (by show(2:Int)≠0;decide) a b
 | .str _,.int _,a,b,_=>zZ (t:=.str _) (u:=.int _) (by show(2:Int)≠1;decide) a b
 | .str x,.str y,a,b,h=>by
  have e:∀(z:Str) (w:List Int),rowT (.str z)++w=2::(z.cps.toList.map (λ(c:Nat)=>(c:Int))++ -1::w):=λz w=>by show([2]++_++ [-1])++w=_;simp
  rw[e,e,HT.lexLt_cons,if_pos rfl];exact zj9 _ _ a b (zr5 λz=>h (by rw[z]))
 | .str _,.tup _,a,b,_=>zZ (t:=.str _) (u:=.tup _) (by show(2:Int)≠3;decide) a b
 | .tup _,.non,a,b,_=>zZ (t:=.tup _) (u:=.non) (by show(3:Int)≠0;decide) a b
 | .tup _,.int _,a,b,_=>zZ (t:=.tup _) (u:=.int _) (by show(3:Int)≠1;decide) a b
 | .tup _,.str _,a,b,_=>zZ (t:=.tup _) (u:=.str _) (by show(3:Int)≠2;decide) a b
 | .tup x,.tup y,a,b,h=>by
  have e:∀(z:List Th) (w:List Int),rowT (.tup z)++w=3::(rowL z++ -1::w):=λz w=>by show([3]++_++ [-1])++w=_;simp
  rw[e,e,HT.lexLt_cons,if_pos rfl];exact zqS x y a b (λz=>h (by rw[z]))
theorem zqS:∀(x y:List Th) (a b:List Int),x≠y->HT.lexLt (rowL x++ -1::a) (rowL y++ -1::b)=zaE x y
 | [],[],_,_,h=>Je rfl h
 | [],u::q,a,b,_=>by obtain⟨r,e⟩:=zdz u;have:=zkg u;show HT.lexLt (-1::a) ((rowT u++rowL q)++ -1::b)=true;rw[e,List.cons_append,List.cons_append,za3 (by omega),decide_eq_true (by omega)]
 | t::r,[],a,b,_=>by obtain⟨r',e⟩:=zdz t;have:=zkg t;show HT.lexLt ((rowT t++rowL r)++ -1::a) (-1::b)=false;rw[e,List.cons_append,List.cons_append,za3 (by omega),decide_eq_false (by omega)]
 | t::r,u::q,a,b,h=>by
  show HT.lexLt ((rowT t++rowL r)++ -1::a) ((rowT u++rowL q)++ -1::b)=if eqT t u=true then zaE r q else zd t u
  rw[List.append_assoc,List.append_assoc];by_cases e:t=u
  ·subst e;rw[zhC,if_pos (zb4 t)];exact zqS r q a b (λz=>h (by rw[z]))
  ·rw[if_neg (λz=>e ((zS t u).mp z))];exact zkh t u _ _ e
end
theorem zc9:∀l:List Int,HT.lexLt l l=false
 | []=>rfl
 | x::r=>by rw[HT.lexLt_cons,if_pos rfl];exact zc9 r
mutual
theorem zT:∀t:Th,zd t t=false
 | .non=>rfl
 | .int a=>by show decide (a < a)=false;exact decide_eq_false (by omega)
 | .str x=>by show decide (x.cps.toList < x.cps.toList)=false;exact decide_eq_false (List.lt_irrefl _)
 | .tup ts=>zcK ts
theorem zcK:∀ts:List Th,zaE ts ts=false
 | []=>rfl
 | t::r=>by show(if eqT t t=true then zaE r r else zd t t)=false;rw[if_pos (zb4 t)];exact zcK r
end
theorem zaF (t u:Th):HT.lexLt (rowT t) (rowT u)=zd t u:=by
 by_cases h:t=u
 ·subst h;rw[zc9,zT]
 ·have:=zkh t u [] [] h;rwa[List.append_nil,List.append_nil] at this
theorem zh8 (h:zao t≠zao u):zd t u=decide (zao t < zao u):=by have:=zZ h [] [];rwa[List.append_nil,List.append_nil,zaF] at this
noncomputable abbrev _root_.Js:=@List.drop_eq_getElem_cons
theorem zh6 {ts us:List Th}{i:Nat}(h1:i < ts.length)(h2:i < us.length):zaE (ts.drop i) (us.drop i)=if eqT ts[i] us[i]=true then zaE (ts.drop (i+1)) (us.drop (i+1)) else zd ts[i] us[i]:=by
 rw[Js h1,Js h2]
 rfl
noncomputable abbrev _root_.Jw:=@Nat.min_eq_left
theorem zja (ts us:List Th):zaE (ts.drop (min ts.length us.length)) (us.drop (min ts.length us.length))=decide (ts.length < us.length):=by
 by_cases h:ts.length < us.length
 ·rw[Jw (by omega),List.drop_length,Js h,decide_eq_true h]
  rfl
 ·rw[Nat.min_eq_right (by omega),List.drop_length,decide_eq_false h];cases e:ts.drop us.length <;> rfl
end Pv
namespace L2
open PySem PySem.Spec PyProof.Rows Px
noncomputable def clsV:V->Value
 | .ty n=>.type n
 | .ref a=>.ref a
 | _=>.none
noncomputable def Clss (ts:QQ):Prop:=∀v∈ts,(∃n,v=.ty n)\/∃a,v=.ref a
theorem zgn:∀{ts:QQ} {us:QN},Clss ts->Vals ts us->us=ts.map clsV
 | _,_,_,.nil=>rfl
 | t::ts,u::us,h,.cons r q=>by
  rw[List.map_cons,<-zgn (λv hv=>h v (.tail _ hv)) q];congr 1;rcases h t (.head _) with ⟨n,e⟩ | ⟨a,e⟩
  ·subst e;exact r
  ·subst e;exact r
section
variable {X:Cx}{pins:QE}{σ:St}{H:Hp}{s:Shared}
end
section
variable {X:Cx}
end
end L2
namespace L2
open PySem PySem.Spec PyProof.Rows Px
section
variable {K:QA}{h:Heap}{mg:QB}{C f:Addr}{x m qual:Str}{st:Stmt}{ps:QP}{od an:QM}{sl:QJ}{oc kV dc pm cd ct:Value}
theorem zr7 (a:PySem.W.findIn K (.ref C) m=some (some (.ref f)))(fn:PySem.W.isFn K (.ref f)=true)(l:K.lookup f=some ⟨oc,od,.func (PySem.W.fnOf m qual (z8 st) (zH st) (zq st) .none kV dc pm an cd ct),sl⟩)(c:PySem.W.codeIn K cd qual=true)(k:PySem.W.keepIn K (.ref f)=true)
  (b:∀(kV doc pm:Value) (an:QM) (cdv ct:Value) (us:QN),us.length=ps.length->bindArgs (PySem.W.fnOf m qual (z8 st) (zH st) (zq st) .none kV doc pm an cdv ct) ⟨us,[]⟩=pure (ps.zip us)):Mdf K C m qual st ps:=
 ⟨_,_,zbJ l c k,(zbJ l c k).binds b,⟨a,fn,k⟩⟩
theorem zra (pg:PySem.W.plainGet K C Str.empty=true)(hd:PySem.W.hasDictIn K C=true)(po:PySem.W.plainOver K C=true)(sa:PySem.W.findIn K (.ref C) "__setattr__" =some (some (.builtin "object.__setattr__"))):Cls K C:=⟨pg,hd,po,sa⟩
theorem zrC (X:K.In h)(G:h.Ns mainGlobals mg)(n:PySem.W.nsIn K mainGlobals x=some (some (.ref C)))(mk:PySem.W.makesIn K C=true)(a:PySem.W.findIn K (.ref C) "__init__" =some (some (.ref f))) (fn:PySem.W.isFn K (.ref f)=true)
  (l:K.lookup f=some ⟨oc,od,.func (PySem.W.fnOf "__init__" qual (z8 st) (zH st) (zq st) .none kV dc pm an cd ct),sl⟩) (c:PySem.W.codeIn K cd qual=true) (k:PySem.W.keepIn K (.ref f)=true) (kc:PySem.W.keepIn K (.ref C)=true)
  (b:∀(kV doc pm:Value) (an:QM) (cdv ct:Value) (us:QN),us.length=ps.length->bindArgs (PySem.W.fnOf "__init__" qual (z8 st) (zH st) (zq st) .none kV doc pm an cdv ct) ⟨us,[]⟩=pure (ps.zip us)):Mkd K mg x C qual st ps:=
 ⟨_,_,zbJ l c k,(zbJ l c k).binds b,⟨mk,a,fn,kc⟩,PySem.W.mg_of X G n⟩
theorem zeC (q:xIn K C=true)(ov:zdc K C=true)(sa:PySem.W.findIn K (.ref C) "__setattr__" =some (some (.builtin "object.__setattr__"))) (ga:PySem.W.findIn K (.ref C) "__getattribute__" =some (some (.builtin "BaseException.__getattribute__"))) (gn:PySem.W.findIn K (.ref C) "__getattr__" =some none)
  (kp:PySem.W.keepIn K (.ref C)=true):XCls K C:=⟨q,ov,sa,ga,gn,kp⟩
theorem zrO (X:K.In h)(G:h.Ns mainGlobals mg)(n:PySem.W.nsIn K mainGlobals x=some (some (.ref C)))(cl:XCls K C)(a:PySem.W.findIn K (.ref C) "__init__" =some (some (.ref f))) (fn:PySem.W.isFn K (.ref f)=true)
  (l:K.lookup f=some ⟨oc,od,.func (PySem.W.fnOf "__init__" qual (z8 st) (zH st) (zq st) .none kV dc pm an cd ct),sl⟩) (c:PySem.W.codeIn K cd qual=true) (k:PySem.W.keepIn K (.ref f)=true)
  (b:∀(kV doc pm:Value) (an:QM) (cdv ct:Value) (us:QN),us.length=ps.length->bindArgs (PySem.W.fnOf "__init__" qual (z8 st) (zH st) (zq st) .none kV doc pm an cdv ct) ⟨us,[]⟩=pure (ps.zip us)):XId K mg x C qual st ps:=
 ⟨cl,_,_,zbJ l c k,(zbJ l c k).binds b,a,fn,PySem.W.mg_of X G n⟩
theorem zai {R:Addr->Prop}(X:K.In h)(n:PySem.W.nsIn K mainGlobals x=some (some (.ref C)))(r:R C):∃C,R C:=⟨C,r⟩
end
end L2
namespace Px
open PySem PySem.W PySem.Builtin PySem.Builtin.ObjectAttr
theorem zoT {a g:Value}(hc:(clsIn K C).isSome=true)(ha:findIn K (.ref C) name=some (some a))(hg:specialIn K a "__get__" =some (some g))
  (ht:takesIn K a=some true):findObj K C od name=some (.bind g a):=by
 obtain⟨c,e⟩:=Option.isSome_iff_exists.mp hc;unfold findObj;rw[e,Option.bind_some,ha,Option.bind_some];simp[hg,ht]
section
variable {prog:Program}{w:World}{A:Around}{E:QC}{s:Shared}{K:Frag}{x D:Addr}{ox:Obj}{od:Option Obj}
theorem zn5 {Q:Option Value->Shared->Prop}(X:K.In s.heap)(I:InstAt s.heap x ox D od)(hp:zdc K D=true)
  (hga:findIn K (.ref D) "__getattribute__" =some (some (.builtin "BaseException.__getattribute__"))) (hgn:findIn K (.ref D) "__getattr__" =some none)
  (ha:findIn K (.ref D) "__class__" =some (some (.builtin "object.__class__"))) (hn:specialIn K (.builtin "object.__class__") "__get__" =some (some (.builtin "getset_descriptor.__get__")))
  (htk:takesIn K (.builtin "object.__class__")=some true) (hm:mroIn K D (.type "object")=some true) (h:Q (some (.ref D)) {s with toks:=s.toks+1}):wpAny (model prog w) A (getAttr? (.ref x) "__class__") Q E s:=by
 have isB:=zjl (M:=model prog w) (T:= "BaseException") X I hp (by decide);have cd:(clsIn K D).isSome=true:=by obtain⟨c,hc,_⟩:=any_some hp;rw[hc];rfl
 have hf:findObj K D od "__class__" =some (.bind (.builtin "getset_descriptor.__get__") (.builtin "object.__class__")):=zoT cd ha hn htk;obtain⟨hp',g,d,t,os⟩:=s;have L0:=I.type (M:=model prog w);have L1:=looks_findIn (M:=model prog w) X hga;have L2:=looks_findIn (M:=model prog w) X hgn;have L3:=looks_find (M:=model prog w) X I hf;have FB:=PySem.F.attrBase_ValueError;have bi:=FB.ga.bind (.ref x);have kd:builtinKind "BaseException.__getattribute__" =some .slot:=by decide+kernel
 have sp:splitId "BaseException.__getattribute__" =some ("BaseException","__getattribute__"):=by decide+kernel
 unfold getAttr? getAttrBy? getAttrBy;refine Ja (wpAny_mkText (Ja (wpAny_attempt (wpAny_holding (Ja (L0.at (Ja (L1.at ?_))))))));have nb:(onTheHeap (Value.ref D) && Value.builtin "BaseException.__getattribute__" ==Value.builtin "object.__getattribute__")=false:=by rw[show(Value.builtin "BaseException.__getattribute__" ==Value.builtin "object.__getattribute__")=false from by decide+kernel,Bool.and_false]
 dsimp only;rw[nb,if_neg Jc];unfold getAttrByItsOwn;refine Ja ?_;show wpAny _ _ (typeLookup (.ref D) "__getattr__") _ _ _;refine L2.at ?_;unfold callGetattribute;rw[Bool.false_and,if_neg Jc];unfold boundAndCalled;refine Ja (wpAny_attempt (wpAny_holding ?_));rw[bi];refine Ja (wpAny_pure ?_);refine wpAny_call (codeAny_call_builtin FB.ga.plain PySem.F.entry_bexc_ga (@check_slot (model prog w) _ _ _ "BaseException.__getattribute__" "BaseException" "__getattribute__" (.ref x) [.str "__class__" t] [] _ kd sp isB (PySem.F.args_bexc_ga _ _) ?_));unfold Builtin.«object.__getattribute__»
 repeat (any_goals (first | assumption | with_reducible refine Ja (L0.at ?_) | with_reducible refine Ja (L3.at ?_) | wp_step))
 refine class_get X I hm ?_;show wpAny _ _ (ret (.ref D)) _ _ _;refine wpAny_pure ?_;show wpAny _ _ (handedOut (.ref D)) _ _ _;exact wpAny_pure (wpAny_pure h)
theorem zh1 {x:Addr}(hp:zdc K D=true)
  (hga:findIn K (.ref D) "__getattribute__" =some (some (.builtin "BaseException.__getattribute__"))) (hgn:findIn K (.ref D) "__getattr__" =some none)
  (ha:findIn K (.ref D) "__class__" =some (some (.builtin "object.__class__"))) (hn:specialIn K (.builtin "object.__class__") "__get__" =some (some (.builtin "getset_descriptor.__get__")))
  (htk:takesIn K (.builtin "object.__class__")=some true) (hm:mroIn K D (.type "object")=some true):KitX K (.ref x) (.ref D) (λh=>InstAt h x ox D od) where
 ty:=λ_ _ _ I=>I.type
 it:=λ_ _ X _=>by
  obtain⟨c,hc,_⟩:=any_some hp;unfold clsIn at hc;split at hc
  ·rename_i ho;intro A' Q' E' s' k q;unfold isType loadHead;exact Ja (wpAny_loadPart (k _ _ (X _ _ ho)) (wpAny_pure q))
  ·cases hc
 ne:=λh tp dd its n sl X ht=>by
  obtain⟨c,hc,_⟩:=any_some hp;refine Bool.eq_false_iff.mpr λq=>?_;have e:D=tp:=Value.ref.inj (beq_iff_eq.mp q);subst e;unfold clsIn at hc;split at hc
  ·rename_i ho;have z:=(X _ _ ho).symm.trans ht;cases z
  ·cases hc
 ca:=λX I k=>zn5 X I hp hga hgn ha hn htk hm k
end
end Px
namespace L2
open PySem PySem.Spec PyProof.Rows Px
structure zkD (K:QA)(C:Addr):Prop where
 cl:XCls K C
 ha:PySem.W.findIn K (.ref C) "__class__" =some (some (.builtin "object.__class__"))
 hn:PySem.W.specialIn K (.builtin "object.__class__") "__get__" =some (some (.builtin "getset_descriptor.__get__"))
 ht:PySem.W.takesIn K (.builtin "object.__class__")=some true
 hm:PySem.W.mroIn K C (.type "object")=some true
section
variable {X:Cx}{pins:QE}{σ:St}{H:Hp}{s:Shared}{a C:Addr}{od:QM}{fr:Bool}
theorem zoY (I:Inv X pins σ H s)(e:H a=some (exO a C od fr))(k:zkD X.K C)(hd:∀d,od=some d->∃l,H d=some (xdO d l)):∃Z:Heap->Prop,PySem.W.KitX X.K (.ref a) (.ref C) Z/\Z s.heap:=by
 obtain⟨vs,sl,ge,_⟩:=zbe I.hok e;cases od with
 | none=>exact⟨_,zh1 (od:=none) k.cl.ov k.cl.ga k.cl.gn k.ha k.hn k.ht k.hm,⟨ge,rfl,rfl,trivial⟩⟩
 | some d=>obtain⟨l,ed⟩:=hd d rfl;obtain⟨mA,ns,_,_⟩:=zhg I.hok ed;obtain⟨ob,hob,_⟩:=zd4 ns;exact⟨_,zh1 (od:=some ob) k.cl.ov k.cl.ga k.cl.gn k.ha k.hn k.ht k.hm,⟨ge,rfl,rfl,hob⟩⟩
noncomputable def zmQ (K:QA):List V->Hp->VK->Prop:=λxs H Q=>∃a C od fr y b,xs=[.ref a,y]/\H a=some (exO a C od fr)/\zkD K C/\(∀d,od=some d->∃l,H d=some (xdO d l))/\Q (.bl b) H/\
 ((∃c,(y=.ty c/\PySem.W.kitOne K (.ref C) (.type c)=some b))\/(∃c,(y=.ref c/\PySem.W.kitOne K (.ref C) (.ref c)=some b))\/∃p ts,y=.ref p/\H p=some (.tup ts)/\Clss ts/\PySem.W.kitAny K (.ref C) (ts.map clsV)=some b)
theorem zdq:zab X (.builtin "isinstance") (zmQ X.K):=by
 intro pins s σ H xs us Q I r h;obtain⟨a,C,od,fr,y,b,rfl,ea,k,hd,q,hy⟩:=h;obtain⟨u,w',rfl,ru,rw'⟩:=vals2 r;cases (show u=Value.ref a from ru);obtain⟨Z,kx,z⟩:=zoY I ea k hd;rcases hy with ⟨c,rfl,e⟩ | ⟨c,rfl,e⟩ | ⟨p,ts,rfl,ep,cl,e⟩
 ·cases (show w'=Value.type c from rw');exact PySem.W.kia_one kx I.kIn z e (λy=>nomatch y) λtk=>⟨.bl b,H,I.tok tk,rfl,q⟩
 ·cases (show w'=Value.ref c from rw');exact PySem.W.kia_one kx I.kIn z e (λy=>nomatch y) λtk=>⟨.bl b,H,I.tok tk,rfl,q⟩
 ·cases (show w'=Value.ref p from rw');obtain⟨_,its,vs,o,h1,h2,n,h3⟩:=(show zF X.prog X.w H s.heap p (.tup ts) from I.hok p _ ep);have ei:=zgn cl vs;obtain⟨c0,d0,dt,sl⟩:=o;dsimp only at h2 h3;subst h2;subst h3;exact PySem.W.kia_tup kx I.kIn z h1 (by rw[ei];exact e) (λy=>nomatch y) λtk=>⟨.bl b,H,I.tok tk,rfl,q⟩
end
section
variable {X:Cx}{x n:Str}{cv:Value}{body suite:List Stmt}{b₀:Stmt}{np hpos pos:Pos}{tb:(St->XK)->TS}{ts:TS}
theorem zpV (hst:X.stack=X.env::X.outer)(hfm:X.env.frame=some X.env.locals)(hg:Gl X x)(hm:X.mg x=some cv)
  (hb:∀xe pn E,zbL (CX1 X.prog X.w) (X.tried xe pn) E->PSs (X.tried xe pn) body (tb E)) (hs:∀e,PSs (X.suite e) (b₀::suite) ts) (hdb:(x==("__debug__" :Str))=false:=by decide):
  PS X (.Try body [.ExceptHandler (some (.Name x np)) none (b₀::suite) hpos] [] [] pos) (ztb X.K cv tb ts):=by
 intro pins s σ H D I h;have key:zbL (CX1 X.prog X.w) (X.tried (λe s₁=>wpAny (model X.prog X.w) X.A (noteFrame e X.env) (λ_ s₂=>wpAny (model X.prog X.w) X.A (setFlight e none) (λ_ s₃=>
   wpAny (model X.prog X.w) X.A (handleBy e X.env [.ExceptHandler (some (.Name x np)) none (b₀::suite) hpos]) (SP X pins D) X.xe s₃) X.xe s₂) X.xe s₁) (X.pn++pins)) (zmo X.K cv ts D):=by
  intro pins' σ' H1 s1 e s2 I1 hc;obtain⟨ea,cls,od,H',T,rfl,os,bare,un,hok,tb',old,nT,u1,u2,C,rfl,em,q⟩:=hc;have J0:Inv X pins σ' H1 s1:=I1.untried;have J:=J0.call' os un hok bare (λb z=>nomatch z);show wpAny _ _ (noteFrame (.ref ea) X.env) _ _ s2;refine zqK (base:=X.base) (by rw[<-hst];exact J.ok.frames) (by rw[<-hst];exact J.stack) hfm tb' λh3 T' z t3 c3=>?_;rw[show(X.env::X.outer).filterMap (·.frame)=frs X.stack from by rw[hst];rfl] at c3;have c3':Chg2 (frs X.stack) (λb=>b=ea\/b=T\/b=T') s2.heap h3:=c3.mono λb y=>y.elim .inl λy=>.inr (.inl y);have J3:=J0.caught os bare un hok old nT u1 u2 z c3' t3;have LT:PySem.W.Looks (model X.prog X.w) h3 (typeOf (.ref ea)) (.ref C):=by obtain⟨vs,sl,ge,_⟩:=zbe J3.hok zc;exact(PySem.W.Looks.ld ge).andThen .now
  refine wpAny_handleBy_cons (codeAny_handlers_test (zbg (X:=X.suite ea) (J3.suite ea) hg hm ?_ hdb)) (by intro y;cases y);refine(PySem.W.exm_one J3.kIn LT em).here (s:={s2 with heap:=h3}) ?_;refine codeAny_handlers_suite ?_;refine zdS (s:={s2 with heap:=h3}) (fs:=frs X.stack) t3 λh4 t4 c4 k4=>?_;have J4:=J0.caught os bare un hok old nT u1 u2 z (c3'.trans (c4.two (own:=λb=>b=ea\/b=T\/b=T') (.inl rfl) (.inl (.inr (.inr rfl))))) t4;refine wpAny_mono (hs ea pins {s2 with heap:=h4} _ _ D (J4.suite ea) (q ea u1)) (λf s6 q6=>?_) λ_ _ y=>y.elim;cases f with
  | next=>obtain⟨σ6,H6,J6,y⟩:=q6;exact⟨_,_,J6.unsuite J0.ok,y⟩
  | brk=>obtain⟨σ6,H6,J6,y⟩:=q6;exact⟨_,_,J6.unsuite J0.ok,y⟩
  | cont=>obtain⟨σ6,H6,J6,y⟩:=q6;exact⟨_,_,J6.unsuite J0.ok,y⟩
  | ret u=>obtain⟨v6,σ6,H6,J6,rv,y⟩:=q6;exact⟨_,_,_,J6.unsuite J0.ok,rv,y⟩
 refine wpAny_Try_except (wpAny_mono (hb _ (X.pn++pins) _ key [] s σ H D (I.tried _) h) (λf s₁ q=>?_) λ_ _ y=>y);cases f with
 | next=>obtain⟨σ',H',I',y⟩:=q;exact wpAny_execs_nil ⟨σ',H',I'.untried,y⟩
 | brk=>obtain⟨σ',H',I',y⟩:=q;exact⟨σ',H',I'.untried,y⟩
 | cont=>obtain⟨σ',H',I',y⟩:=q;exact⟨σ',H',I'.untried,y⟩
 | ret u=>obtain⟨v,σ',H',I',rv,y⟩:=q;exact⟨v,σ',H',I'.untried,rv,y⟩
end
end L2
namespace L2
open PySem PySem.Spec PyProof.Rows
section
variable {X:Cx}{x y1 y2:Str}{scope:Scope}{j1 j2:Nat}{c1 c2:Addr}
theorem zo.two (clos:closureFor scope X.env=pure [(y1,c1),(y2,c2)])(kind:scope.kind=.function)(nc:∀y∈scope.names,y.2≠ .cell)(nm:∀y∈scope.names,y.2=.local->scope.names.lookup y.1=some .local)(tgt:scope.names.lookup x=some .local)
  (n1:x≠y1) (n2:x≠y2) (n12:y1≠y2) (e1:X.env.cells.lookup y1=some c1) (e2:X.env.cells.lookup y2=some c2) (only:∀q∈scope.names,q.2=.free->q.1=y1\/q.1=y2) (h1:X.N[j1]? =some y1) (h2:X.N[j2]? =some y2)
  (k1:X.env.kindOf y1=some .cell\/X.env.kindOf y1=some .free) (k2:X.env.kindOf y2=some .cell\/X.env.kindOf y2=some .free)
  (r1:(relabel scope X.env).names.lookup y1=some .cell\/(relabel scope X.env).names.lookup y1=some .free) (r2:(relabel scope X.env).names.lookup y2=some .cell\/(relabel scope X.env).names.lookup y2=some .free):
  zo X x [y1,y2] [j1,j2] scope [(y1,c1),(y2,c2)] where
 clos:=clos
 kind:=kind
 nocell:=nc
 names:=nm
 tgt:=tgt
 nd:=by simp[n1,n2,n12]
 sub:=λp hp=>by
  rcases List.mem_cons.mp hp with z | z
  ·rw[z];exact e1
  ·rw[List.mem_singleton.mp z];exact e2
 has:=λp hp hk=>by
  have key:∀q:Str ×NameKind,q∈scope.names->q.2=.free->q.1∈ [(y1,c1),(y2,c2)].map (·.1):=λq hq z=>by rcases only q hq z with z | z <;> simp[z]
  obtain⟨q,hq,e,h | h⟩:=zci hp
  ·subst h;rcases hk with hk | hk
   ·exact Je hk (nc _ hq)
   ·exact key _ hq hk
  ·rw[e];exact key _ hq h
 fr:=λi z e=>by
  match i,e with
  | 0,e=>cases e;exact⟨j1,rfl,h1,k1,r1⟩
  | 1,e=>cases e;exact⟨j2,rfl,h2,k2,r2⟩
  | i+2,e=>simp at e
 len:=rfl
end
end L2
namespace L2
open PySem PySem.Spec PyProof.Rows
noncomputable def zkk (kvs:QG):List Int:=kvs.filterMap λp=>match p.1 with | .inl n=>some n | .inr _=>none
noncomputable def IntKeys (kvs:QG):Prop:=kvs.map (·.1)=(zkk kvs).map Sum.inl
theorem KV.at {kvs:QG}{vs:List (Key ×Value)}(r:KV kvs vs):kvs.length=vs.length/\kvs.map (·.1)=vs.map (·.1):=by
 unfold KV at r
 induction r with
 | nil=>exact⟨rfl,rfl⟩
 | cons h _ ih=>exact⟨by simp[ih.1],by simp[ih.2,h.1]⟩
section
variable {X:Cx}
theorem gathered {A:Around}{s:Shared}{R:List Value->Shared->Prop}
  (src:PySem.W.KdlSrc P w T a d n F G) (calm:A.handled=none) (g:G s.heap) (le:n<=sizeLine)
  (h:∀(h':Heap) (k:Nat) (xs:Array Value),(∀b o,s.heap.get? b=some o->h'.get? b=some o)->s.heap.objs.size < h'.objs.size->PySem.ItemsOf F xs n->R xs.toList {s with heap:=h',toks:=k}):
  wpAny (model P w) A (collect (.ref a)) R E s:=by
 obtain⟨lt1,lt2⟩:=src.there _ g;unfold collect;refine Ja (wpAny_runValue (codeAny_builtin entry_proto_collect' ?_));rw[Around.under_plainId PySem.F.plain_proto_collect _];refine Ja (m:=newList []) (wpAny_newObj_type (wpAny_pure ⟨plainId_quiet PySem.F.plain_list_iadd _,codeAny_builtin entry_list_iadd' ?_⟩));rw[Around.under_plainId PySem.F.plain_list_iadd _];refine wpAny_mono (PySem.W.kdl_extend (A:=A) (s:={s with heap:=s.heap.push {cls:=.type "list",data:=.seq ([]:QN).toArray}})
  (R:=λq s'=>∃h' k xs c,q=.ok (.ret (.ref s.heap.objs.size))/\s'={s with heap:=h',toks:=k}/\(∀b o,s.heap.get? b=some o->h'.get? b=some o)/\h'.get? s.heap.objs.size=some {cls:=.type "list",dict:=none,data:=.seq xs c,slots:= #[]}/\PySem.ItemsOf F xs n)
  src calm (src.keep _ _ g λb _ o e=>Heap.get?_push_of_some _ e) s.heap.objs.size (Jy lt1) (Jy lt2) (.ref s.heap.objs.size) 0 (Heap.get?_push_size _ rfl)
  (λh' k xs c kk hS hx=>⟨h',k,xs,c,rfl,rfl,λb o e=>kk b o (Jg (Heap.lt_size e)) (Heap.get?_push_of_some _ e),hS,hx⟩) le) (λfin s' x=>?_) (λe s' x=>?_)
 ·cases fin with
  | done f=>obtain⟨h',k,xs,c,e,rfl,kk,hS,hx⟩:=x;cases e;exact Ja (m:=load s.heap.objs.size) (wpAny_load hS (wpAny_pure (h h' k xs kk (Heap.lt_size hS) hx)))
  | again c₁=>refine⟨x.1,codeAny_mono x.2 λq s₂ y=>?_⟩;obtain⟨h',k,xs,c,rfl,rfl,kk,hS,hx⟩:=y;exact Ja (m:=load s.heap.objs.size) (wpAny_load hS (wpAny_pure (h h' k xs kk (Heap.lt_size hS) hx)))
 ·obtain⟨_,_,_,_,e',_⟩:=x;cases e'
theorem zcR:zab X (.builtin "len") (λxs H Q=>∃(d:Addr) (kvs:QG),xs=[.ref d]/\H d=some (.dK kvs)/\Q (.int kvs.length) H):=by intro pins s σ H xs us Q I r h;obtain⟨d,kvs,rfl,hd,q⟩:=h;obtain⟨u,rfl,ru⟩:=vals1 r;cases (show u=Value.ref d from ru);obtain⟨hz,lo,vs,rel,hD⟩:=I.hok d _ hd;have hl:=rel.at.1;have hs:sizeLine=16777216:=sizeLine_eq;refine call_len_dict lo hD (by omega) ?_;rw[<-hl];exact⟨.int kvs.length,H,I.tok _,⟨_,rfl⟩,q⟩
end
end L2
namespace Pv
open PySem L2
inductive RepL (H:Hp):List Th->List V->Prop where
 | nil:RepL H [] []
 | cons {t:Th} {v:V} {ts:List Th} {vs:QQ} (h:Rep H t v) (r:RepL H ts vs):RepL H (t::ts) (v::vs)
theorem RepL.len:∀{ts:List Th} {vs:QQ},RepL H ts vs->vs.length=ts.length
 | _,_,.nil=>rfl
 | _,_,.cons _ r=>by rw[List.length_cons,List.length_cons,r.len]
theorem RepL.at:∀{ts:List Th} {vs:QQ},RepL H ts vs->∀(i:Nat) (x:V) (t:Th),vs[i]? =some x->ts[i]? =some t->Rep H t x
 | _,_,.nil,i,x,t,e,_=>by simp at e
 | _,_,.cons h r,0,x,t,e1,e2=>by simp at e1 e2;subst e1;subst e2;exact h
 | _,_,.cons h r,i+1,x,t,e1,e2=>r.at i x t (by simpa using e1) (by simpa using e2)
theorem RepL.keep (k:Tups H H'):∀{ts:List Th} {vs:QQ},RepL H ts vs->RepL H' ts vs
 | _,_,.nil=>.nil
 | _,_,.cons h r=>.cons (h.keep k) (r.keep k)
theorem RepL.new {p:Addr}(r:RepL H ts vs)(hp:H p=none):Rep (upd H p (.tup vs)) (.tup ts) (.ref p):=
 .tup zc r.len λi x t e1 e2=>(r.at i x t e1 e2).keep (Tups.new hp)
theorem RepL.of:∀{ts:List Th} {vs:QQ},vs.length=ts.length->(∀(i:Nat) (x:V) (t:Th),vs[i]? =some x->ts[i]? =some t->Rep H t x)->RepL H ts vs
 | [],[],_,_=>.nil
 | t::ts,v::vs,l,h=>.cons (h 0 v t rfl rfl) (RepL.of (by simpa using l) λi x u e1 e2=>h (i+1) x u (by simpa using e1) (by simpa using e2))
 | [],_::_,l,_=>by simp at l
 | _::_,[],l,_=>by simp at l
theorem Rep.list {ts:List Th}(r:Rep H (.tup ts) v):∃a xs,v=.ref a/\H a=some (.tup xs)/\RepL H ts xs:=by
 cases r with
 | @tup a xs _ e l h=>exact⟨a,xs,rfl,e,RepL.of l h⟩
theorem RepL.snoc (h:Rep H t v):∀{ts:List Th} {vs:QQ},RepL H ts vs->RepL H (ts++ [t]) (vs++ [v])
 | _,_,.nil=>.cons h .nil
 | _,_,.cons h' r=>.cons h' (r.snoc h)
section
variable {X:Cx}
end
end Pv
namespace Pv
open PySem L2
noncomputable abbrev _root_.QF:=List (Int ×Th)
noncomputable def zl (cs:QF)(n:Int):Option Th:=(cs.find? λp=>decide (p.1=n)).map (·.2)
inductive DRep (H:Hp):List (Int ×Th)->List (Key ×V)->Prop where
 | nil:DRep H [] []
 | cons {n:Int} {t:Th} {v:V} {cs:QF} {kvs:QG} (h:Rep H t v) (r:DRep H cs kvs):DRep H ((n,t)::cs) ((.inl n,v)::kvs)
theorem DRep.len {H:Hp}{cs:QF}{kvs:QG}(r:DRep H cs kvs):kvs.length=cs.length:=by
 induction r with
 | nil=>rfl
 | cons _ _ ih=>rw[List.length_cons,List.length_cons,ih]
theorem DRep.keep {H H':Hp}(k:Tups H H'){cs:QF}{kvs:QG}(r:DRep H cs kvs):DRep H' cs kvs:=by
 induction r with
 | nil=>exact .nil
 | cons h _ ih=>exact .cons (h.keep k) ih
theorem DRep.keys {H:Hp}{cs:QF}{kvs:QG}(r:DRep H cs kvs):zkk kvs=cs.map (·.1)/\L2.IntKeys kvs:=by
 induction r with
 | nil=>exact⟨rfl,rfl⟩
 | @cons n t v cs kvs _ _ ih=>have e:zkk ((.inl n,v)::kvs)=n::zkk kvs:=rfl;refine⟨by rw[e,ih.1];rfl,?_⟩;unfold L2.IntKeys;rw[e,List.map_cons,List.map_cons];exact congrArg _ ih.2
theorem zK {n:Int}{t:Th}{cs:QF}:zl ((n,t)::cs) m=if n=m then some t else zl cs m:=by
 unfold zl;rw[List.find?_cons];by_cases e:n=m
 ·rw[if_pos e,decide_eq_true e];rfl
 ·rw[if_neg e,decide_eq_false e]
theorem ze4 {n m:Int}{v:V}{kvs:QG}:valV ((Sum.inl n,v)::kvs) (Sum.inl m:Key)=if n=m then some v else valV kvs (.inl m):=by
 by_cases e:n=m
 ·rw[if_pos e];exact zY (by rw[e])
 ·rw[if_neg e];unfold valV;rw[List.find?_cons];rw[decide_eq_false (λz=>e (Sum.inl.inj z))]
theorem DRep.none {H:Hp}{cs:QF}{kvs:QG}(r:DRep H cs kvs){n:Int}(h:zl cs n=.none):valV kvs (.inl n)=.none:=by
 induction r with
 | nil=>rfl
 | @cons m t v cs kvs _ _ ih=>
  rw[zK] at h;rw[ze4];by_cases e:m=n
  ·rw[if_pos e] at h;cases h
  ·rw[if_neg e] at h ⊢;exact ih h
theorem DRep.some {H:Hp}{cs:QF}{kvs:QG}(r:DRep H cs kvs){n:Int}{t:Th}(h:zl cs n=.some t):∃v,valV kvs (.inl n)=.some v/\Rep H t v:=by
 induction r with
 | nil=>cases h
 | @cons m u v cs kvs hv _ ih=>
  rw[zK] at h;rw[ze4];by_cases e:m=n
  ·rw[if_pos e] at h ⊢;cases h;exact⟨v,rfl,hv⟩
  ·rw[if_neg e] at h ⊢;exact ih h
theorem DRep.back {H:Hp}{cs:QF}{kvs:QG}(r:DRep H cs kvs){n:Int}{v:V}(h:valV kvs (.inl n)=.some v):∃t,zl cs n=.some t/\Rep H t v:=by
 cases e:zl cs n with
 | none=>rw[r.none e] at h;cases h
 | some t=>obtain⟨v',e',rv⟩:=r.some e;rw[h] at e';cases e';exact⟨t,rfl,rv⟩
theorem DRep.snoc {H:Hp}{cs:QF}{kvs:QG}{n:Int}{t:Th}{v:V}(h:Rep H t v)(r:DRep H cs kvs):DRep H (cs++ [(n,t)]) (kvs++ [(.inl n,v)]):=by
 induction r with
 | nil=>exact .cons h .nil
 | cons h' _ ih=>exact .cons h' ih
theorem DRep.put {H:Hp}{cs:QF}{kvs:QG}{n:Int}{t:Th}{v:V}(r:DRep H cs kvs)(h:Rep H t v)(hn:zl cs n=.none):DRep H (cs++ [(n,t)]) (putK kvs (.inl n) v):=by rw[zdo v (r.none hn)];exact r.snoc h
noncomputable abbrev _root_.Jn:=@List.mem_map_of_mem
theorem DRep.again {H:Hp}{cs:QF}{kvs:QG}{n:Int}{t:Th}{v:V}(r:DRep H cs kvs)(h:Rep H t v)(hn:zl cs n=.some t)(nd:(cs.map (·.1)).Nodup):DRep H cs (putK kvs (.inl n) v):=by
 have ha:(kvs.any λkv=>decide (kv.1=(Sum.inl n:Key)))=true:=by
  obtain⟨v',e,_⟩:=r.some hn;unfold valV at e;cases z:kvs.find? λkv=>decide (kv.1=(Sum.inl n:Key)) with
  | none=>rw[z] at e;cases e
  | some p=>exact List.any_eq_true.mpr ⟨p,List.mem_of_find?_eq_some z,by have:=List.find?_some z;exact this⟩
 unfold putK;rw[if_pos ha];clear ha
 induction r with
 | nil=>exact .nil
 | @cons m u v' cs kvs h' r' ih=>
  have nd':=List.nodup_cons.mp nd;rw[List.map_cons];by_cases e:m=n
  ·subst e;rw[if_pos rfl];rw[zK,if_pos rfl] at hn;cases hn;have rest:kvs.map (λkv=>if kv.1=(Sum.inl m:Key) then(kv.1,v) else kv)=kvs:=by
    have:∀kv∈kvs,(if kv.1=(Sum.inl m:Key) then(kv.1,v) else kv)=kv:=λkv hkv=>by
     refine if_neg λz=>nd'.1 ?_;have e1:=r'.keys;have m1:(Sum.inl m:Key)∈kvs.map (·.1):=by rw[<-z];exact Jn hkv
     rw[e1.2,List.mem_map] at m1;obtain⟨i,hi,ei⟩:=m1;cases ei;rw[<-e1.1];exact hi
    rw[List.map_congr_left this,List.map_id']
   rw[rest];exact .cons h r'
  ·rw[if_neg (λz=>e (Sum.inl.inj z))];rw[zK,if_neg e] at hn;exact .cons h' (ih hn nd'.2)
theorem zga {cs:QF}{n:Int}{t:Th}(h:zl cs n=some t):(n,t)∈cs:=by
 induction cs with
 | nil=>cases h
 | cons p cs ih=>
  obtain⟨m,u⟩:=p;rw[zK] at h;by_cases e:m=n
  ·rw[if_pos e] at h;cases h;subst e;exact List.mem_cons_self
  ·rw[if_neg e] at h;exact Jd _ (ih h)
theorem zlk {cs:QF}{n:Int}(h:n∈cs.map (·.1)):∃t,zl cs n=some t:=by
 induction cs with
 | nil=>cases h
 | cons p cs ih=>
  obtain⟨m,u⟩:=p;rw[zK];by_cases e:m=n
  ·exact⟨u,if_pos e⟩
  ·rw[if_neg e];rw[List.map_cons,List.mem_cons] at h;exact ih (h.resolve_left λz=>e z.symm)
theorem zjD {cs:QF}{n:Int}(h:zl cs n=none):n∉cs.map (·.1):=λz=>by obtain⟨t,e⟩:=zlk z;rw[h] at e;cases e
theorem zcQ {cs:QF}{n:Int}{t:Th}:zl (cs++ [(n,t)]) m=match zl cs m with | some u=>some u | none=>if n=m then some t else none:=by
 induction cs with
 | nil=>rw[List.nil_append,zK];rfl
 | cons p cs ih=>
  obtain⟨k,u⟩:=p;rw[List.cons_append,zK,zK];by_cases e:k=m
  ·rw[if_pos e,if_pos e]
  ·rw[if_neg e,if_neg e,ih]
end Pv
namespace L2
open PySem PySem.Spec PyProof.Rows Px
structure ClsM (K:QA)(mg:QB)(x:Str)(V:Addr)(mc:Value)(m:Str)(f:Addr):Prop where
 mg:mg x=some (.ref V)
 sp:PySem.W.specialIn K (.ref V) "__getattribute__" =some (some (.builtin "type.__getattribute__"))
 rd:PySem.W.readsIn K V mc=true
 fc:PySem.W.findCls K (.ref V) mc m=some (.val (.ref f))
 kp:PySem.W.keepIn K (.ref f)=true
structure Kdf (K:QA)(mg:QB)(x m qual:Str)(st:Stmt)(ps:QP):Prop where
 ex:∃f fd V mc,Fun K m qual st f fd/\Binds K fd ps []/\ClsM K mg x V mc m f
structure Kfn (P:Program)(w:World)(K:QA)(mg:QB)(base:Heap)(x m:Str)(k:Nat)(ps:QP)(sp:Sp):Prop where
 ex:∃f fd V mc,FnOk P w K mg base CX0 k f fd ps sp/\Binds K fd ps []/\ClsM K mg x V mc m f
section
variable {P:Program}{w:World}{K:QA}{mg:QB}{base:Heap}{x m qual:Str}{st:Stmt}{ps N:QP}{sp:Sp}{k:Nat}
variable {f V:Addr}{mc:Value}{od an:QM}{sl:QJ}{oc kV dc pm cd ct:Value}{h:Heap}
end
section
variable {X:Cx}{x m:Str}{ps:QP}{sp:Sp}{k k':Nat}{e:Expr}{es:List Expr}{t:TA}{p pos apos:Pos}
end
end L2
namespace L2
open PySem PySem.Spec PyProof.Rows
section
variable {X:Cx}{x x2:Str}{scope:Scope}{pins:QE}{σ:St}{H:Hp}{s:Shared}
variable {iter elt:Expr}{ifs:List Expr}{px px2 tpos pos:Pos}{kt:Nat}{wi:TI}{tt:TT}{te:TE}
end
end L2
namespace L2
open PySem PySem.Spec PyProof.Rows
end L2
namespace L2
open PySem PySem.Spec PyProof.Rows Px
structure MkrX (P:Program)(w:World)(K:QA)(mg:QB)(base:Heap)(x:Str)(C:Addr)(k:Nat)(ps:QP)(sp:Sp):Prop where
 ex:∃f fd,FnOk P w K mg base (CX1 P w) k f fd ps sp/\Binds K fd ps []/\Mk K C f/\mg x=some (.ref C)
section
variable {P:Program}{w:World}{K:QA}{mg:QB}{base:Heap}{x qual:Str}{C:Addr}{st:Stmt}{ps N:QP}{sp:Sp}{k:Nat}
end
section
variable {X:Cx}{CX:CXT}{x:Str}{C f:Addr}{fd:FuncData}{ps:QP}{sp:Sp}{k k':Nat}{e:Expr}{es:List Expr}{t:TA}{p pos:Pos}{E:XK}{ES:St->XK}
end
section
variable {X:Cx}{K:QA}{o e:Expr}{es:List Expr}{to:TE}{t:TA}{name:Str}{apos cpos:Pos}{T id:String}{r:V->List V->Hp->VK->Prop}
theorem zap (h:X.K=K):zab X (.builtin "isinstance") (zmQ K):=h ▸ zdq
end
end L2
namespace L2
open PySem
noncomputable def ndS:List Str->Bool
 | []=>true
 | x::r=>!r.contains x && ndS r
theorem zb8:∀{l:QP},ndS l=true->l.Nodup
 | [],_=>List.nodup_nil
 | x::r,h=>by have h:(!r.contains x && ndS r)=true:=h;rw[Bool.and_eq_true,Bool.not_eq_true'] at h;refine List.nodup_cons.mpr ⟨λhx=>?_,zb8 h.2⟩;rw[List.contains_iff_mem.mpr hx] at h;exact Je h.1 (by decide)
section
variable {X:Cx}{pos:Pos}{x:Str}
theorem setA (i:Nat){pos':Pos}(hi:X.N[i]? =some x)(he:PE X e te)(hN:ndS X.N=true:=by rfl)(hx:Loc X.env.scope x:=by first | exact Or.inl rfl | exact Or.inr rfl)(hs:swapsWith e (some (.Name x pos')) pos.line X.env=pure false:=by rfl)(hf:X.fn x=true\/X.env.scope.names.lookup x=some .local:=by first | exact .inl rfl | exact .inr rfl | assumption):
  PS X (.Assign [.Name x pos'] e pos) (tAsg te (zaM i)):=zhw (zb8 hN) hi hx he hs hf
theorem nameA (i:Nat)(hi:X.N[i]? =some x:=by rfl)(hN:ndS X.N=true:=by rfl)(hx:Loc X.env.scope x:=by first | exact Or.inl rfl | exact Or.inr rfl)(hf:X.fn x=true\/X.env.scope.names.lookup x=some .local:=by first | exact .inl rfl | exact .inr rfl | assumption):PG X (.Name x pos) (zaM i):=zdk (zb8 hN) hi hx hf
theorem zsU {n:Int}{t:Tok}(m:X.mg x=some (.int n t))(h:Gl X x:=by rfl)(hd:(x==("__debug__" :Str))=false:=by decide):PE X (.Name x pos) (tC (.int n)):=zkr h m ⟨_,rfl⟩ hd
theorem ztz {a:Addr}(m:X.mg x=some (.ref a))(h:Gl X x:=by rfl)(hd:(x==("__debug__" :Str))=false:=by decide):PE X (.Name x pos) (tC (.ref a)):=zkr h m rfl hd
theorem bltT {T:String}(m:X.mg x=none)(h:Gl X x:=by rfl)(hb:bootBuiltins x=some (.type T):=by rfl)(h1:x≠("__name__" :Str):=by decide) (hd:(x==("__debug__" :Str))=false:=by decide):PE X (.Name x pos) (tC (.ty T)):=zpW h m hb rfl h1 hd
end
end L2
namespace Pv
open PySem L2
noncomputable abbrev _root_.Jj:=@List.getElem_mem
theorem zb9 {xs:List α}{r:Int}(h0:0<=r)(h1:r < (xs.length:Int)):∃x∈xs,atI xs r=some x:=by
 have hl:r.toNat < xs.length:=by omega
 have er:r=((r.toNat:Nat):Int):=by omega
 have q:atI xs ((r.toNat:Nat):Int)=some xs[r.toNat]:=zkG (List.getElem?_eq_getElem hl);rw[<-er] at q;exact⟨_,Jj hl,q⟩
end Pv
namespace L2
open PySem PySem.Spec PyProof.Rows
section
variable {X:Cx}{e:Expr}{es:List Expr}{te:TE}{pos:Pos}
theorem zcC:OpR X (compareOp .LtE) (λx y H Q=>∃i j,x=.str i/\y=.str j/\Q (.bl (!decide (j.cps.toList < i.cps.toList))) H):=by intro pins s σ H x y v u Q I rx ry h;obtain⟨i,j,rfl,rfl,q⟩:=h;obtain⟨t,rfl⟩:=rx;obtain⟨t',rfl⟩:=ry;exact PySem.P.le_str (zC I q rfl)
end
end L2
namespace Pv
open PySem L2 PyProof.Rows PySem.NumText
noncomputable def tx (l:List Nat):Str:=⟨l.toArray⟩
theorem zqX (x:Str):tx x.cps.toList=x:=by cases x;rfl
theorem zre (l:List Nat):(tx l).length=l.length:=by show l.toArray.size=_;simp
theorem zsa (a b:List Nat):tx a++tx b=tx (a++b):=by show(⟨a.toArray++b.toArray⟩:Str)=⟨(a++b).toArray⟩;simp
noncomputable def numL (i:Int):List Nat:=(Str.ofString (toString i)).cps.toList
mutual
noncomputable def wrT:Th->List Nat
 | .non=>[111]
 | .int i=>110::(numL i++ [59])
 | .str x=>116::(numL x.length++58::x.cps.toList)
 | .tup ts=>40::(wrL ts++ [41])
noncomputable def wrL:List Th->List Nat
 | []=>[]
 | t::r=>wrT t++wrL r
end
end Pv
namespace Pv
open PySem L2 PyProof.Rows PySem.NumText
theorem zkz:∀a b:List Int,HT.lexLt a b=false->HT.lexLt b a=false->a=b
 | [],[],_,_=>rfl
 | [],_::_,h,_=>by cases h
 | _::_,[],_,h=>by cases h
 | x::a,y::b,h1,h2=>by
  rw[HT.lexLt_cons] at h1 h2;by_cases e:x=y
  ·rw[if_pos e] at h1;rw[if_pos e.symm] at h2;rw[e,zkz a b h1 h2]
  ·rw[if_neg e] at h1;rw[if_neg (λz=>e z.symm)] at h2;have:=of_decide_eq_false h1;have:=of_decide_eq_false h2;omega
noncomputable abbrev _root_.Jl:=@of_decide_eq_true
theorem zkv:∀a b c:List Int,HT.lexLt a c=true->HT.lexLt a b=true\/HT.lexLt b c=true
 | [],[],[],h=>by cases h
 | [],[],_::_,_=>.inr rfl
 | [],_::_,_,_=>.inl rfl
 | _::_,_,[],h=>by cases h
 | _::_,[],_::_,_=>.inr rfl
 | x::a,y::b,z::c,h=>by
  rw[HT.lexLt_cons] at h;rw[HT.lexLt_cons,HT.lexLt_cons];by_cases e1:x=y
  ·by_cases e2:y=z
   ·rw[if_pos (e1.trans e2)] at h;rw[if_pos e1,if_pos e2];exact zkv a b c h
   ·rw[if_neg (λq=>e2 (e1.symm.trans q))] at h;rw[if_neg e2];have:=Jl h;exact .inr (decide_eq_true (by omega))
  ·by_cases e2:y=z
   ·rw[if_neg (λq=>e1 (q.trans e2.symm))] at h;rw[if_neg e1];have:=Jl h;exact .inl (decide_eq_true (by omega))
   ·rw[if_neg e1,if_neg e2];by_cases hx:x < y
    ·exact .inl (decide_eq_true hx)
    ·refine .inr (decide_eq_true ?_);by_cases e3:x=z
     ·omega
     ·rw[if_neg e3] at h;have:=Jl h;omega
theorem zpF (h:rowT t=rowT u):t=u:=by refine Classical.byContradiction λne=>?_;have e1:=zkh t u [0] [1] ne;have e2:=zkh t u [1] [0] ne;rw[h,zhC] at e1 e2;rw[<-e1] at e2;exact Je e2 (by decide)
theorem zlg (h1:zd t u=false)(h2:zd u t=false):t=u:=zpF (zkz _ _ (by rw[zaF];exact h1) (by rw[zaF];exact h2))
theorem zJ (h:zd t u=true):zd u t=false:=by
 cases e:zd u t with
 | false=>rfl
 | true=>
  rw[<-zaF] at h e;have:∀a b:List Int,HT.lexLt a b=true->HT.lexLt b a=true->False:=λa b=>by
   induction a generalizing b with
   | nil=>intro p q;cases b <;> cases q
   | cons x a ih=>
    intro p q;cases b with
    | nil=>cases p
    | cons y b=>
     rw[HT.lexLt_cons] at p q;by_cases z:x=y
     ·rw[if_pos z] at p;rw[if_pos z.symm] at q;exact ih b p q
     ·rw[if_neg z] at p;rw[if_neg (λk=>z k.symm)] at q;have:=Jl p;have:=Jl q;omega
  exact(this _ _ h e).elim
end Pv
namespace Pv
open PySem L2
theorem zlN (b:Th)(h:zd a c=true):zd a b=true\/zd b c=true:=by rw[<-zaF] at h;rw[<-zaF,<-zaF];exact zkv _ _ _ h
theorem zR (h1:zd a b=true)(h2:zd b c=true):zd a c=true:=by
 rcases zlN c h1 with h | h
 ·exact h
 ·rw[zJ h2] at h;cases h
theorem zcj (h:zd a b=false)(n:a≠b):zd b a=true:=by
 cases e:zd b a with
 | true=>rfl
 | false=>exact Je (zlg h e) n
noncomputable def zcn (t:Th):Int:=zm (.tup [.str ("rank" :Str),t])
noncomputable def zbR (t u:Th):Bool:=if zcn t=zcn u then zd t u else decide (zcn u < zcn t)
noncomputable abbrev zbd (k wo:Th)(l r c:Int):Th:=.tup [k,wo,.int l,.int r,.int c]
theorem zh5 (t:Th):1<=zm t/\zm t<=2305843009213693951:=by have:=zeo (zan t);unfold zm;omega
structure KeyT (t:Th):Prop where
 wf:Wf t
 dp:dep t<=3
 nd:nodes t<=20
 ne:t≠ .non
noncomputable instance decTh:DecidableEq Th:=λt u=>decidable_of_iff _ (zS t u)
inductive Tr where
 | nil:Tr
 | node (l:Tr) (k w:Th) (r:Tr):Tr
namespace Tr
noncomputable def ps:Tr->List (Th ×Th)
 | nil=>[]
 | node l k w r=>l.ps++(k,w)::r.ps
noncomputable def root:Tr->Int
 | nil=>0
 | node l k w r=>zm (zbd k w l.root r.root (((l.ps++(k,w)::r.ps).length:Nat):Int))
noncomputable abbrev cnt (T:Tr):Nat:=T.ps.length
noncomputable def thing:Tr->Th
 | nil=>.non
 | node l k w r=>zbd k w l.root r.root (((l.ps++(k,w)::r.ps).length:Nat):Int)
noncomputable def InV (cs:QF):Tr->Prop
 | nil=>True
 | node l k w r=>zl cs (node l k w r).root=some (node l k w r).thing/\l.InV cs/\r.InV cs
noncomputable def kid (x:Th):Tr->Tr
 | nil=>nil
 | node l k _ r=>if zd k x=true then r else l
noncomputable def down (x:Th):Nat->Tr->Tr
 | 0,T=>T
 | n+1,T=>down x n (T.kid x)
noncomputable def plug (x:Th):Nat->Tr->Tr->Tr
 | 0,_,S=>S
 | _+1,nil,_=>nil
 | n+1,node l k w r,S=>if zd k x=true then node l k w (plug x n r S) else node (plug x n l S) k w r
noncomputable def spl (x:Th):Nat->Tr->Tr ×Tr
 | 0,T=>(T,nil)
 | _+1,nil=>(nil,nil)
 | n+1,node l k w r=>if zd k x=true then(node l k w (spl x n r).1,(spl x n r).2) else((spl x n l).1,node (spl x n l).2 k w r)
noncomputable def wl (x:Th):Tr->Nat
 | nil=>0
 | node l k _ r=>if k=x then 1 else(if zd k x=true then r.wl x else l.wl x)+1
noncomputable def own (x:Th):Tr->Tr
 | nil=>nil
 | node l k w r=>if k=x then node l k w r else if zd k x=true then r.own x else l.own x
end Tr
open Tr
theorem zf5 (l:Tr)(k w:Th)(r:Tr):(node l k w r).root=zm (node l k w r).thing:=rfl
theorem zd0 {T:Tr}:T.root=0↔T=nil:=by
 cases T with
 | nil=>exact⟨λ_=>rfl,λ_=>rfl⟩
 | node l k w r=>refine⟨λh=>?_,λh=>by cases h⟩;have:=(zh5 (node l k w r).thing).1;rw[zf5] at h;omega
theorem za2 (T:Tr):0<=T.root/\T.root<=2305843009213693951:=by
 cases T with
 | nil=>exact⟨Int.le_refl 0,by decide⟩
 | node l k w r=>have:=zh5 (node l k w r).thing;rw[zf5];omega
theorem zB (l:Tr)(k w:Th)(r:Tr):(node l k w r).cnt=l.cnt+r.cnt+1:=by show(l.ps++(k,w)::r.ps).length=_;rw[List.length_append,List.length_cons];show l.ps.length+(r.ps.length+1)=l.ps.length+r.ps.length+1;omega
noncomputable def Sub (cs cs':QF):Prop:=∀n t,zl cs n=some t->zl cs' n=some t
theorem Sub.refl (cs:QF):Sub cs cs:=λ_ _ h=>h
theorem Sub.trans (h:Sub a b)(h':Sub b c):Sub a c:=λn t e=>h' n t (h n t e)
theorem InV.mono {cs cs':QF}(s:Sub cs cs'):∀{T:Tr},T.InV cs->T.InV cs'
 | nil,_=>trivial
 | node _ _ _ _,h=>⟨s _ _ h.1,InV.mono s h.2.1,InV.mono s h.2.2⟩
noncomputable abbrev _root_.QH:=List (Th ×Th)
noncomputable def Srt (ps:QH):Prop:=ps.Pairwise λp q=>zd p.1 q.1=true
theorem zbC {l:Tr}{r:Tr}(h:Srt (node l k w r).ps):Srt l.ps/\Srt r.ps/\(∀p∈l.ps,zd p.1 k=true)/\(∀p∈r.ps,zd k p.1=true):=by have h':Srt (l.ps++(k,w)::r.ps):=h;obtain⟨h1,h2,h3⟩:=List.pairwise_append.mp h';obtain⟨h4,h5⟩:=List.pairwise_cons.mp h2;exact⟨h1,h5,λp hp=>h3 p hp _ List.mem_cons_self,λp hp=>h4 p hp⟩
noncomputable def lo (ps:QH)(x:Th):List (Th ×Th):=ps.filter λp=>zd p.1 x
noncomputable def hi (ps:QH)(x:Th):List (Th ×Th):=ps.filter λp=>zd x p.1
noncomputable def hiE (ps:QH)(x:Th):List (Th ×Th):=ps.filter λp=>!zd p.1 x
noncomputable def insP (ps:QH)(x w:Th):List (Th ×Th):=lo ps x++(x,w)::hi ps x
theorem zcx (a b:QH)(x:Th):lo (a++b) x=lo a x++lo b x:=List.filter_append ..
theorem zdW (a b:QH)(x:Th):hi (a++b) x=hi a x++hi b x:=List.filter_append ..
theorem zjw (a b:QH)(x:Th):hiE (a++b) x=hiE a x++hiE b x:=List.filter_append ..
theorem zg9 {a:QH}(h:∀p∈a,zd p.1 x=true):lo a x=a:=List.filter_eq_self.mpr h
theorem znf {a:QH}(h:∀p∈a,zd x p.1=true):hi a x=a:=List.filter_eq_self.mpr h
theorem zkB {a:QH}(h:∀p∈a,zd p.1 x=false):hiE a x=a:=List.filter_eq_self.mpr λp hp=>by rw[h p hp];rfl
theorem zeR {a:QH}(h:∀p∈a,zd p.1 x=false):lo a x=[]:=List.filter_eq_nil_iff.mpr λp hp=>by rw[h p hp];exact Jc
theorem zkW {a:QH}(h:∀p∈a,zd x p.1=false):hi a x=[]:=List.filter_eq_nil_iff.mpr λp hp=>by rw[h p hp];exact Jc
theorem ziL {a:QH}(h:∀p∈a,zd p.1 x=true):hiE a x=[]:=List.filter_eq_nil_iff.mpr λp hp=>by rw[h p hp];exact Jc
theorem ztc {p:Th ×Th}{a:QH}(h:zd p.1 x=true):lo (p::a) x=p::lo a x:=List.filter_cons_of_pos h
theorem zms {p:Th ×Th}{a:QH}(h:zd p.1 x=false):lo (p::a) x=lo a x:=List.filter_cons_of_neg (by rw[h];exact Jc)
theorem zs5 {p:Th ×Th}{a:QH}(h:zd x p.1=false):hi (p::a) x=hi a x:=List.filter_cons_of_neg (by rw[h];exact Jc)
theorem zn7 {p:Th ×Th}{a:QH}(h:zd p.1 x=false):hiE (p::a) x=p::hiE a x:=List.filter_cons_of_pos (by rw[h];rfl)
theorem zrL {p:Th ×Th}{a:QH}(h:zd p.1 x=true):hiE (p::a) x=hiE a x:=List.filter_cons_of_neg (by rw[h];exact Jc)
theorem zj4 {A M B:QH}{w:Th}(hA:∀p∈A,zd p.1 x=true)(hB:∀p∈B,zd x p.1=true):insP (A++M++B) x w=A++insP M x w++B:=by unfold insP;rw[zcx,zcx,zdW,zdW,zg9 hA,znf hB,zkW (a:=A) λp hp=>zJ (hA p hp),zeR (a:=B) λp hp=>zJ (hB p hp)];simp
theorem zgo {l r:QH}{w w':Th}(hl:∀p∈l,zd p.1 k=true)(hr:∀p∈r,zd k p.1=true):insP (l++(k,w)::r) k w'=l++(k,w')::r:=by unfold insP;rw[zcx,zdW,zg9 hl,zms (zT k),zs5 (zT k),znf hr,zeR (a:=r) λp hp=>zJ (hr p hp),zkW (a:=l) λp hp=>zJ (hl p hp)];simp
theorem zmU {a:QH}{x:Th}(h:∀p∈a,p.1≠x):hi a x=hiE a x:=by
 unfold hi hiE;refine List.filter_congr λp hp=>?_;cases e:zd p.1 x with
 | true=>rw[zJ e];rfl
 | false=>rw[zcj e (h p hp)];rfl
noncomputable def Up (x:Th):Nat->Tr->Prop
 | 0,_=>True
 | _+1,nil=>False
 | n+1,node l k _ r=>k≠x/\Up x n (if zd k x=true then r else l)
theorem zdl:∀{n:Nat} {T:Tr},Srt T.ps->Up x n T->∃A B:List (Th ×Th),(∀S,(plug x n T S).ps=A++S.ps++B)/\T.ps=A++(down x n T).ps++B/\(∀p∈A,zd p.1 x=true)/\(∀p∈B,zd x p.1=true)
 | 0,T,_,_=>⟨[],[],λS=>(List.append_nil _).symm,(List.append_nil _).symm,λp h=>(nomatch h),λp h=>(nomatch h)⟩
 | n+1,nil,_,h=>h.elim
 | n+1,node l k w r,hs,h=>by
  obtain⟨h1,h2,h3,h4⟩:=zbC hs;obtain⟨ne,h⟩:=h;by_cases c:zd k x=true
  ·rw[if_pos c] at h;obtain⟨A,B,e1,e2,e3,e4⟩:=zdl h2 h;refine⟨l.ps++(k,w)::A,B,λS=>?_,?_,λp hp=>?_,e4⟩
   ·show(if zd k x=true then node l k w (plug x n r S) else node (plug x n l S) k w r).ps=_;rw[if_pos c];show l.ps++(k,w)::(plug x n r S).ps=_;rw[e1 S];simp
   ·show l.ps++(k,w)::r.ps=(l.ps++(k,w)::A)++(down x n (if zd k x=true then r else l)).ps++B;rw[if_pos c,e2];simp
   ·rcases List.mem_append.mp hp with hp | hp
    ·exact zR (h3 p hp) c
    ·rcases List.mem_cons.mp hp with rfl | hp
     ·exact c
     ·exact e3 p hp
  ·rw[if_neg c] at h;have c':zd k x=false:=by cases z:zd k x with | true=>exact Je z c | false=>rfl
   have xk:=zcj c' ne;obtain⟨A,B,e1,e2,e3,e4⟩:=zdl h1 h;refine⟨A,B++(k,w)::r.ps,λS=>?_,?_,e3,λp hp=>?_⟩
   ·show(if zd k x=true then node l k w (plug x n r S) else node (plug x n l S) k w r).ps=_;rw[if_neg c];show(plug x n l S).ps++(k,w)::r.ps=_;rw[e1 S];simp
   ·show l.ps++(k,w)::r.ps=A++(down x n (if zd k x=true then r else l)).ps++(B++(k,w)::r.ps);rw[if_neg c,e2];simp
   ·rcases List.mem_append.mp hp with hp | hp
    ·exact e4 p hp
    ·rcases List.mem_cons.mp hp with rfl | hp
     ·exact xk
     ·exact zR xk (h4 p hp)
noncomputable abbrev _root_.Jx:=@Nat.succ_lt_succ
theorem zeT:∀{n:Nat} {T S:Tr},(∀m,m < n->down x m T≠nil)->(plug x n T S).cnt+(down x n T).cnt=T.cnt+S.cnt
 | 0,T,S,_=>Nat.add_comm _ _
 | n+1,nil,S,h=>Je rfl (h 0 (Nat.zero_lt_succ _))
 | n+1,node l k w r,S,h=>by
  show(if zd k x=true then node l k w (plug x n r S) else node (plug x n l S) k w r).cnt+(down x n (if zd k x=true then r else l)).cnt=_;have h':∀m,m < n->down x m (if zd k x=true then r else l)≠nil:=λm hm=>h (m+1) (Jx hm);by_cases c:zd k x=true
  ·rw[if_pos c] at h' ⊢;rw[if_pos c];have:=zeT (S:=S) h';rw[zB,zB];omega
  ·rw[if_neg c] at h' ⊢;rw[if_neg c];have:=zeT (S:=S) h';rw[zB,zB];omega
theorem up_down:∀{n:Nat} {T:Tr},Up x n T->∀m,m < n->down x m T≠nil
 | 0,_,_,m,hm=>Je hm (Nat.not_lt_zero m)
 | n+1,nil,h,_,_=>h.elim
 | n+1,node l k w r,h,0,_=>λz=>by cases z
 | n+1,node l k w r,h,m+1,hm=>up_down (T:=if zd k x=true then r else l) h.2 m (Nat.lt_of_succ_lt_succ hm)
theorem zfc:∀(n m:Nat) (T:Tr),down x (n+m) T=down x m (down x n T)
 | 0,m,T=>by rw[Nat.zero_add];rfl
 | n+1,m,T=>by rw[Nat.succ_add];exact zfc n m (T.kid x)
theorem zha:∀{n m:Nat} {T:Tr},Up x n T->m<=n->Up x m T
 | _,0,_,_,_=>trivial
 | 0,m+1,_,_,h=>Je h (Nat.not_succ_le_zero m)
 | n+1,m+1,nil,h,_=>h.elim
 | n+1,m+1,node l k w r,h,hm=>⟨h.1,zha h.2 (Nat.le_of_succ_le_succ hm)⟩
theorem zdb:∀{T:Tr},own x T=nil->Up x (wl x T) T/\down x (wl x T) T=nil
 | nil,_=>⟨trivial,rfl⟩
 | node l k w r,h=>by
  unfold own at h;by_cases e:k=x
  ·rw[if_pos e] at h;cases h
  ·rw[if_neg e] at h;unfold wl;rw[if_neg e];by_cases c:zd k x=true
   ·rw[if_pos c] at h ⊢;obtain⟨a,b⟩:=zdb h;refine⟨⟨e,?_⟩,?_⟩
    ·rw[if_pos c];exact a
    ·show down x _ (if zd k x=true then r else l)=nil;rw[if_pos c];exact b
   ·rw[if_neg c] at h ⊢;obtain⟨a,b⟩:=zdb h;refine⟨⟨e,?_⟩,?_⟩
    ·rw[if_neg c];exact a
    ·show down x _ (if zd k x=true then r else l)=nil;rw[if_neg c];exact b
theorem zde:∀{T l' r':Tr} {k' w':Th},own x T=node l' k' w' r'->k'=x/\∃n,wl x T=n+1/\Up x n T/\down x n T=node l' k' w' r'
 | nil,_,_,_,_,h=>by cases h
 | node l k w r,l',r',k',w',h=>by
  unfold own at h;by_cases e:k=x
  ·rw[if_pos e] at h;cases h;unfold wl;rw[if_pos e];exact⟨e,0,rfl,trivial,rfl⟩
  ·rw[if_neg e] at h;unfold wl;rw[if_neg e];by_cases c:zd k x=true
   ·rw[if_pos c] at h ⊢;obtain⟨a,n,b,d,f⟩:=zde h;refine⟨a,n+1,by rw[b],⟨e,?_⟩,?_⟩
    ·rw[if_pos c];exact d
    ·show down x n (if zd k x=true then r else l)=_;rw[if_pos c];exact f
   ·rw[if_neg c] at h ⊢;obtain⟨a,n,b,d,f⟩:=zde h;refine⟨a,n+1,by rw[b],⟨e,?_⟩,?_⟩
    ·rw[if_neg c];exact d
    ·show down x n (if zd k x=true then r else l)=_;rw[if_neg c];exact f
theorem zpA:∀{n:Nat},Up x n T->wl x T=n+wl x (down x n T):=by
 intro n
 induction n generalizing T with
 | zero=>intro _;rw[Nat.zero_add];rfl
 | succ n ih=>
  intro h;cases T with
  | nil=>exact h.elim
  | node l k w r=>
   obtain⟨e,h⟩:=h;have:=ih h;show(if k=x then 1 else(if zd k x=true then r.wl x else l.wl x)+1)=n+1+wl x (down x n (if zd k x=true then r else l));rw[if_neg e];by_cases c:zd k x=true
   ·rw[if_pos c] at this ⊢;rw[if_pos c];omega
   ·rw[if_neg c] at this ⊢;rw[if_neg c];omega
theorem zmF:∀T:Tr,wl x T<=T.cnt
 | nil=>Jb _
 | node l k w r=>by
  rw[zB];unfold wl;have h1:=zmF (x:=x) l;have h2:=zmF (x:=x) r;split
  ·omega
  ·split <;> omega
theorem zdh:∀{n:Nat} {T:Tr},Srt T.ps->Srt (down x n T).ps
 | 0,_,h=>h
 | n+1,T,h=>zdh (n:=n) (T:=T.kid x) (by
  cases T with
  | nil=>exact List.Pairwise.nil
  | node l k w r=>
   obtain⟨h1,h2,_,_⟩:=zbC h;show Srt (if zd k x=true then r else l).ps;split
   ·exact h2
   ·exact h1)
theorem zjK:∀{T:Tr},Srt T.ps->(spl x (wl x T) T).1.ps=lo T.ps x/\(spl x (wl x T) T).2.ps=hiE T.ps x
 | nil,_=>⟨rfl,rfl⟩
 | node l k w r,h=>by
  obtain⟨h1,h2,h3,h4⟩:=zbC h;show(spl x (if k=x then 1 else(if zd k x=true then r.wl x else l.wl x)+1) (node l k w r)).1.ps=lo (l.ps++(k,w)::r.ps) x/\(spl x (if k=x then 1 else(if zd k x=true then r.wl x else l.wl x)+1) (node l k w r)).2.ps=hiE (l.ps++(k,w)::r.ps) x;rw[zcx,zjw];by_cases e:k=x
  ·subst e;rw[if_pos rfl];have c:=zT k;show(if zd k k=true then(node l k w r,nil) else(l,node nil k w r)).1.ps=_/\(if zd k k=true then(node l k w r,nil) else(l,node nil k w r)).2.ps=_;rw[c,zg9 h3,zms c,zn7 c,zeR λp hp=>zJ (h4 p hp),ziL h3,zkB λp hp=>zJ (h4 p hp)];exact⟨(List.append_nil _).symm,rfl⟩
  ·rw[if_neg e];by_cases c:zd k x=true
   ·obtain⟨i1,i2⟩:=zjK (x:=x) h2;rw[if_pos c];show(if zd k x=true then(node l k w (spl x (r.wl x) r).1,(spl x (r.wl x) r).2) else _).1.ps=_/\(if zd k x=true then(node l k w (spl x (r.wl x) r).1,(spl x (r.wl x) r).2) else _).2.ps=_;rw[if_pos c,zg9 λp hp=>zR (h3 p hp) c,ztc c,ziL λp hp=>zR (h3 p hp) c,zrL c];refine⟨?_,by rw[List.nil_append];exact i2⟩;show l.ps++(k,w)::(spl x (r.wl x) r).1.ps=_;rw[i1]
   ·have c':zd k x=false:=by cases z:zd k x with | true=>exact Je z c | false=>rfl
    have xk:=zcj c' e;obtain⟨i1,i2⟩:=zjK (x:=x) h1;rw[if_neg c];show(if zd k x=true then _ else((spl x (l.wl x) l).1,node (spl x (l.wl x) l).2 k w r)).1.ps=_/\(if zd k x=true then _ else((spl x (l.wl x) l).1,node (spl x (l.wl x) l).2 k w r)).2.ps=_;have hr:∀p∈r.ps,zd p.1 x=false:=λp hp=>zJ (zR xk (h4 p hp));rw[if_neg c,zms c',zn7 c',zeR hr,zkB hr];refine⟨by rw[List.append_nil];exact i1,?_⟩;show(spl x (l.wl x) l).2.ps++(k,w)::r.ps=_;rw[i2]
noncomputable def Tr.plc (x:Th):Tr->Nat
 | nil=>0
 | node l k _ r=>if zbR x k=true then 0 else(if zd k x=true then r.plc x else l.plc x)+1
theorem zhm:∀{T:Tr},own x T=nil->plc x T<=wl x T
 | nil,_=>Jb _
 | node l k w r,h=>by
  unfold own at h;by_cases e:k=x
  ·rw[if_pos e] at h;cases h
  ·rw[if_neg e] at h;unfold plc wl;rw[if_neg e];split
   ·exact Nat.zero_le _
   ·by_cases c:zd k x=true
    ·rw[if_pos c] at h;rw[if_pos c,if_pos c];exact Nat.succ_le_succ (zhm h)
    ·rw[if_neg c] at h;rw[if_neg c,if_neg c];exact Nat.succ_le_succ (zhm h)
theorem zmC:∀{n:Nat} {T:Tr},Up x n T->own x (down x n T)=own x T
 | 0,_,_=>rfl
 | n+1,nil,h=>h.elim
 | n+1,node l k w r,h=>by
  show own x (down x n (if zd k x=true then r else l))=own x (node l k w r);rw[zmC h.2]
  conv=>rhs;unfold own
  rw[if_neg h.1];split <;> rfl
theorem zhu:∀{T:Tr},Srt T.ps->own x T=nil->∀p∈T.ps,p.1≠x
 | nil,_,_,p,hp=>by cases hp
 | node l k w r,hs,h,p,hp=>by
  obtain⟨h1,h2,h3,h4⟩:=zbC hs;unfold own at h;by_cases e:k=x
  ·rw[if_pos e] at h;cases h
  ·rw[if_neg e] at h;by_cases c:zd k x=true
   ·rw[if_pos c] at h;rcases List.mem_append.mp hp with hp | hp
    ·intro z;have:=zR (h3 p hp) c;rw[z,zT] at this;cases this
    ·rcases List.mem_cons.mp hp with rfl | hp
     ·exact e
     ·exact zhu h2 h p hp
   ·rw[if_neg c] at h;have c':zd k x=false:=by cases z:zd k x with | true=>exact Je z c | false=>rfl
    have xk:=zcj c' e;rcases List.mem_append.mp hp with hp | hp
    ·exact zhu h1 h p hp
    ·rcases List.mem_cons.mp hp with rfl | hp
     ·exact e
     ·intro z;have:=zR xk (h4 p hp);rw[z,zT] at this;cases this
noncomputable def Tr.putT (x w:Th)(T:Tr):Tr:=
 match own x T with
 | node l _ _ r=>plug x (wl x T - 1) T (node l x w r)
 | nil=>plug x (plc x T) T (node (spl x (wl x T - plc x T) (down x (plc x T) T)).1 x w (spl x (wl x T - plc x T) (down x (plc x T) T)).2)
theorem zX {T:Tr}(hs:Srt T.ps):(putT x w T).ps=insP T.ps x w:=by
 unfold putT;cases h:own x T with
 | nil=>
  obtain⟨u,d⟩:=zdb h;have hp:=zhm h;have u':=zha u hp;obtain⟨A,B,e1,e2,e3,e4⟩:=zdl hs u';have hd:=zpA u';have ew:wl x T - plc x T=wl x (down x (plc x T) T):=by omega
  have s1:=zjK (x:=x) (zdh (x:=x) (n:=plc x T) hs);show(plug x (plc x T) T (node (spl x (wl x T - plc x T) (down x (plc x T) T)).1 x w (spl x (wl x T - plc x T) (down x (plc x T) T)).2)).ps=_;rw[ew,e1]
  conv=>rhs;rw[e2]
  rw[zj4 e3 e4];show A++((spl x (wl x (down x (plc x T) T)) (down x (plc x T) T)).1.ps++(x,w)::(spl x (wl x (down x (plc x T) T)) (down x (plc x T) T)).2.ps)++B=_;rw[s1.1,s1.2];unfold insP;rw[zmU (zhu (zdh hs) (by rw[zmC u',h]))]
 | node l k' w' r=>
  obtain⟨rfl,n,ew,u,d⟩:=zde h;show(plug k' (wl k' T - 1) T (node l k' w r)).ps=_;rw[ew,Nat.add_sub_cancel];obtain⟨A,B,e1,e2,e3,e4⟩:=zdl hs u;rw[e1]
  conv=>rhs;rw[e2]
  rw[zj4 e3 e4,d];obtain⟨_,_,h3,h4⟩:=zbC (d ▸ zdh hs);show A++(l.ps++(k',w)::r.ps)++B=A++insP (l.ps++(k',w')::r.ps) k' w++B;rw[zgo h3 h4]
theorem zeW {ps:QH}(h:Srt ps)(f:Th ×Th->Bool):Srt (ps.filter f):=List.Pairwise.filter f h
theorem zpp {ps:QH}{x w:Th}(h:Srt ps):Srt (insP ps x w):=by
 refine List.pairwise_append.mpr ⟨zeW h _,List.pairwise_cons.mpr ⟨λp hp=>(Jo.mp hp).2,zeW h _⟩,λp hp q hq=>?_⟩;have a:=(Jo.mp hp).2;rcases List.mem_cons.mp hq with rfl | hq
 ·exact a
 ·exact zR a (Jo.mp hq).2
theorem zpe {ps:QH}{x w:Th}:(insP ps x w).length<=ps.length+1:=by
 unfold insP lo hi;rw[List.length_append,List.length_cons];have:∀qs:List (Th ×Th),(qs.filter λp=>zd p.1 x).length+(qs.filter λp=>zd x p.1).length<=qs.length:=λqs=>by
  induction qs with
  | nil=>exact Jb _
  | cons q qs ih=>
   rw[List.filter_cons,List.filter_cons];cases a:zd q.1 x with
   | true=>rw[zJ a];show(q::qs.filter _).length+(qs.filter _).length<=_;rw[List.length_cons,List.length_cons];omega
   | false=>
    show(qs.filter _).length+(if zd x q.1=true then q::qs.filter _ else qs.filter _).length<=_;split
    ·rw[List.length_cons,List.length_cons];omega
    ·rw[List.length_cons];omega
 have:=this ps;omega
theorem zpC {ps:QH}{x w:Th}{p:Th ×Th}(h:p∈insP ps x w):p∈ps\/p=(x,w):=by
 rcases List.mem_append.mp h with h | h
 ·exact .inl (Jo.mp h).1
 ·rcases List.mem_cons.mp h with h | h
  ·exact .inr h
  ·exact .inl (Jo.mp h).1
end Pv
namespace L2
open PySem PySem.Spec PyProof.Rows
structure PEw (X:Cx)(e:Expr)(t:TE):Prop where
 h:PE X e t
structure PAw (X:Cx)(es:List Expr)(t:TA):Prop where
 h:PA X es t
structure PPw (X:Cx)(pos:Pos)(keys:List (Option Expr))(values:List Expr)(trs:List (TE ×TE)):Prop where
 h:PPs X pos keys values trs
structure PSw (X:Cx)(st:Stmt)(t:TS):Prop where
 h:PS X st t
structure PSq (X:Cx)(st:List Stmt)(t:TS):Prop where
 h:PSs X st t
section
variable {X:Cx}
end
end L2
namespace L2
open PySem PySem.Spec PyProof.Rows
section
variable {X:Cx}{pins:QE}{σ:St}{H:Hp}{s:Shared}{d:Addr}{kvs:QG}{o:Obj}
theorem Inv.freeze (I:Inv X pins σ H s)(e:H d=some (.dK kvs))(eo:s.heap.get? d=some o):Inv X pins σ (upd H d (.frz o (.dK kvs))) s:=by have q:zF X.prog X.w H s.heap d (.dK kvs):=I.hok d _ e;exact I.write (h':=s.heap) (t':=s.toks) (by rw[e];exact True.intro) (.inl rfl) (λb u _ h=>h) ⟨o,eo⟩ ⟨eo,q⟩
theorem Inv.thaw (I:Inv X pins σ H s)(e:H d=some (.frz o (.dK kvs)))(n0:∀ob u,X.H₀ d≠some (.frz ob u)):Inv X pins σ (upd H d (.dK kvs)) s:=by
 have nd:∀b,H b=none->b≠d:=λb hb z=>by rw[z,e] at hb;cases hb
 refine⟨I.ok,I.os,I.bare,⟨I.base.keep,I.base.slot,λb ob h1 h2 h3=>?_,I.base.there,λb xs h=>?_,λb ob u h=>?_,λb ps h=>?_⟩,I.loc,I.cell,?_,λx c h=>?_,λp hp=>?_,λa u h=>?_,I.len⟩
 ·have:=I.base.free b ob h1 h2 h3;rw[zg (nd b this)];exact this
 ·have:=I.base.tups b xs h;rw[zg (zal this e (by intro z;cases z))];exact this
 ·have:=I.base.frzs b ob u h;have bd:b≠d:=λz=>n0 ob u (by rw[<-z];exact h);rw[zg bd];exact this
 ·obtain⟨more,this⟩:=I.base.tbls b ps h;exact⟨more,by rw[zg (zal this e (by intro z;cases z))];exact this⟩
 ·rw[zg (nd _ I.free)];exact I.free
 ·rw[zg (nd _ (I.freeC x c h))];exact I.freeC x c h
 ·obtain⟨a,b,c⟩:=I.pin p hp;exact⟨a,by rw[zg (nd _ b)];exact b,c⟩
 ·by_cases z:a=d
  ·subst z;rw[zc] at h;cases h;obtain⟨_,q⟩:=I.hok a _ e;exact q
  ·rw[zg z] at h;exact(I.hok a u h).stay (λb v _ q=>q) (λb q=>by rw[zg (zal q e (by intro z;cases z))];exact q) λb xs q=>by rw[zg (zal q e (by intro z;cases z))];exact q
end
section
variable {X:Cx}{tg:Expr}
noncomputable def Ends.thaw (D:Ends)(H:Hp):Ends where
 nx:=fun σ H'=>∃d o kvs,H d=some (.dK kvs)/\H' d=some (.frz o (.dK kvs))/\D.nx σ (upd H' d (.dK kvs))
 rt:=λv H'=>∃d o kvs,H d=some (.dK kvs)/\H' d=some (.frz o (.dK kvs))/\D.rt v (upd H' d (.dK kvs))
noncomputable def ztf (t:TS):TS:=λD σ H=>t (D.thaw H) σ H
theorem zkd {st:Stmt}{t:TS}(h:PS X st t):PS X st (ztf t):=by
 intro pins s σ H D I q;refine thn (h pins s σ H _ I q) λf s' sp=>?_;have n0:∀{d:Addr} {kvs:QG},H d=some (.dK kvs)->∀ob u,X.H₀ d≠some (.frz ob u):=λe ob u z=>by have:=I.base.frzs _ ob u z;rw[e] at this;cases this
 cases f with
 | next=>obtain⟨σ',H',I',d,o,kvs,e,e',q'⟩:=sp;exact⟨σ',_,I'.thaw e' (n0 e),q'⟩
 | brk=>obtain⟨σ',H',I',q'⟩:=sp;exact q'.elim
 | cont=>obtain⟨σ',H',I',q'⟩:=sp;exact q'.elim
 | ret u=>obtain⟨v,σ',H',I',r,d,o,kvs,e,e',q'⟩:=sp;exact⟨v,σ',_,I'.thaw e' (n0 e),r,q'⟩
end
end L2
namespace L2
open PySem PySem.Spec PyProof.Rows PySem.W
section
variable {P:Program}{w:World}{A:Around}{E:QC}{s:Shared}{R:Result->Shared->Prop}{I l S:Addr}{items:Array Value}
end
section
variable {P:Program}{w:World}{A:Around}{E:QC}{s:Shared}{I l:Addr}{items:Array Value}
end
section
variable {X:Cx}{e:Expr}{te:TE}{p1 p2 q1 q2:Pos}
end
end L2
namespace L2
open PySem PySem.Spec PyProof.Rows PySem.W
noncomputable def Itv (K:QA)(p:Addr)(xs:QQ):It:=
 ⟨λn H=>SqL K H p xs/\n < xs.length,λn H v H'=>H'=H/\xs.reverse[n]? =some v,λn H=>SqL K H p xs/\xs.length<=n⟩
theorem zmP {P:Program}{w:World}{K:QA}{tg:Expr}{xs:QQ}(p it:Addr):Turn P w K tg (Itv K p xs) [it] it (λi h=>i<=xs.length/\h.IsRevIter it p ((xs.length:Int) - 1 - (i:Nat))) where
 mem:=by simp
 obj:=λi h st b hb=>by
  have e:b=it:=by simpa using hb
  subst e;obtain⟨_,o,e,c,d⟩:=st;exact⟨o,e,λv z=>by rw[d] at z;cases z⟩
 keep:=λi h h' st k=>⟨st.1,st.2.at λo e=>k it (by simp) o e⟩
 item:=by
  intro X hP hw hK hc i pins s σ H E I hf st hg;subst hP hw hK;obtain⟨hq,hi⟩:=hg;obtain⟨_,st⟩:=st;obtain⟨its,rv,p',hz⟩:=I.list hq;have hn:xs.length - 1 - i < xs.length:=by omega
  have hx:xs[xs.length - 1 - i]? =some xs[xs.length - 1 - i]:=List.getElem?_eq_getElem hn;obtain⟨u,hu,ru⟩:=rv.get hx;obtain⟨f0,f1,f2,f3,f4,f5⟩:=hf it (by simp);have en:(xs.length:Int) - 1 - (i:Nat)=((xs.length - 1 - i:Nat):Int):=by omega
  rw[en] at st;refine wpAny_pyNext_rev_item st p'.isList (x:=u) (by simpa using hu) λh' st' sb=>?_;have I1:Inv X pins σ H {s with heap:=h'}:=I.turned (t':=s.toks) (λb o hb e=>(sb.2 b hb).trans e) f0 f1 f3 f4 f5;obtain⟨o,e,c,d⟩:=id st';have en2:((xs.length - 1 - i:Nat):Int) - 1=(xs.length:Int) - 1 - ((i+1:Nat):Int):=by omega
  rw[en2] at st';exact⟨u,rfl,zfN (s:={s with heap:=h'}) e c d (by decide) ⟨_,H,I1,ru,⟨rfl,by rw[List.getElem?_reverse hi];exact hx⟩,⟨hi,st'⟩,λb hb=>(hf b hb).1⟩⟩
 done:=by
  intro X hP hw hK hc i pins s σ H E I hf st hg;subst hP hw hK;obtain⟨hq,hx⟩:=hg;obtain⟨hi,st⟩:=st;obtain⟨f0,f1,f2,f3,f4,f5⟩:=hf it (by simp);have en:(xs.length:Int) - 1 - (i:Nat)= -1:=by omega
  rw[en] at st;exact wpAny_pyNext_rev_end (I.ok.hd hc) st λh' eb=>⟨rfl,I.turned (t':=s.toks) (λb o hb e=>eb b o hb e) f0 f1 f3 f4 f5⟩
 self:=λ_ _ _ _ _ st h=>wpAny_pyIter_revIter st.2 h
section
variable {X:Cx}
noncomputable def iRev (K:QA)(te:TE):TI:=fun σ H R=>te σ H λx H1=>∃(p:Addr) (xs:QQ),x=.ref p/\SqL K H1 p xs/\R (Itv K p xs) H1
theorem zrt {p pos:Pos}(hg:Gl X "reversed") (hm:X.mg "reversed" =none) (he:PE X a te) (hs:starEach [a] X.env=[(false,eval a X.env)]:=by rfl):
  PI X tg (.Call (.Name "reversed" p) [a] [] pos) (iRev X.K te):=by
 intro pins s σ H R I h;refine wpAny_Call_Name_kw (zbo I hg hm (show bootBuiltins "reversed" =some (.type "reversed") from by rfl) ?_ (by decide) (by decide));refine PyProof.Rows.callWith_type1 ?_ hs rfl;rw[hs];show wpAny _ _ (spliced ((false,eval a X.env)::[])) _ _ s;refine Calls.spliced_cons (thn (he pins s σ H _ I h) λu t1 ⟨x,H1,I1,r1,p,ys,ex,hq,q⟩=>Calls.spliced_nil ?_);subst ex;cases (show u=Value.ref p from r1);obtain⟨its,rv,pl,hz⟩:=I1.list hq;have hlen:=rv.length;refine call_reversed_list pl.isList ?_;have hri:(t1.heap.push (revObj p ((its.toArray.size:Int) - 1))).IsRevIter t1.heap.objs.size p ((ys.length:Int) - 1 - ((0:Nat):Int)):=⟨_,Heap.get?_push_size _ rfl,rfl,by rw[List.size_toArray,<-hlen];simp[revObj]⟩;refine wpAny_pyIter_revIter (s:={t1 with heap:=t1.heap.push (revObj p ((its.toArray.size:Int) - 1))}) hri ?_;refine⟨t1.heap.objs.size,[t1.heap.objs.size],_,_,H1,rfl,I1.kept (t':=t1.toks) λb o e=>Heap.get?_push_of_some _ e,zmP p _,⟨Nat.zero_le _,hri⟩,λb hb=>?_,q⟩;have e:b=t1.heap.objs.size:=by simpa using hb
 subst e;exact I1.fpOk (Jb _) (I1.hok.fresh (Jb _))
theorem zko {K:QA}{p:Addr}{xs:QQ}{g:TG}{tb:TS}{D:Ends}{σ:St}{H:Hp}(Pv:Nat->St->Hp->Prop)(h0:Pv 0 σ H)(hl:∀i σ H,Pv i σ H->SqL K H p xs)
  (hs:∀i x σ H,i < xs.length->xs.reverse[i]? =some x->Pv i σ H->g x σ H fun σ2 H2=>tb {D with nx:=Pv (i+1),ct:=Pv (i+1),bk:=D.nx} σ2 H2) (hd:∀σ H,Pv xs.length σ H->D.nx σ H):
  ∃W:Nat->Nat->St->Hp->Prop,(∃m,W 0 m σ H)/\∀i m σ H,W i m σ H->
   ((Itv K p xs).stop i H/\D.nx σ H)\/((Itv K p xs).go i H/\∃N:St->Hp->Prop,(∀σ' H',N σ' H'->∃m',m' < m/\W (i+1) m' σ' H')/\∀x H',(Itv K p xs).yld i H x H'->g x σ H' fun σ2 H2=>tb {D with nx:=N,ct:=N,bk:=D.nx} σ2 H2):=by
 refine⟨λi m σ H=>m=xs.length - i/\i<=xs.length/\Pv i σ H,⟨_,rfl,Nat.zero_le _,h0⟩,?_⟩;rintro i m σ H ⟨rfl,hi,p⟩;have q:=hl i σ H p;by_cases hlt:i < xs.length
 ·refine .inr ⟨⟨q,hlt⟩,Pv (i+1),fun σ' H' p'=>⟨_,by omega,rfl,hlt,p'⟩,λx H' y=>?_⟩;obtain⟨rfl,e1⟩:=y;exact hs i x σ _ hlt e1 p
 ·have e:i=xs.length:=by omega
  subst e;exact .inl ⟨⟨q,Jb _⟩,hd σ H p⟩
end
end L2
namespace L2
open PySem PySem.Spec PyProof.Rows
noncomputable def Ite (K:QA)(p:Addr)(xs:QQ):It:=
 ⟨λn H=>SqL K H p xs/\n < xs.length,λn H v H'=>∃(T:Addr) (x:V),H T=none/\xs[n]? =some x/\v=.ref T/\H'=upd H T (.tup [.int n,x]),λn H=>SqL K H p xs/\xs.length<=n⟩
theorem zlO {P:Program}{w:World}{K:QA}{elts:List Expr}{x1:Nat}{tpos:Pos}{e i p:Addr}{xs:QQ}(D:e≠i):
  Turn P w K (.Tuple elts x1 tpos) (Ite K p xs) [e,i] e (λn h=>(∃old,IsEnum h e i (n:Int) old)/\h.IsListIter i p n) where
 mem:=by simp
 obj:=λn h st b hb=>by
  obtain⟨⟨old,he⟩,⟨r1,e1,_,d1⟩⟩:=st;simp only[List.mem_cons,List.not_mem_nil,or_false] at hb;rcases hb with rfl | rfl
  ·exact⟨_,he,λv z=>by cases z⟩
  ·exact⟨_,e1,λv z=>by rw[d1] at z;cases z⟩
 keep:=λn h h' st kp=>by obtain⟨⟨old,he⟩,⟨r1,e1,x1⟩⟩:=st;exact⟨⟨old,kp e (by simp) _ he⟩,⟨r1,kp i (by simp) _ e1,x1⟩⟩
 item:=by
  intro X hP hw hK hc n pins s σ H E I hf st hg;subst hP hw hK;obtain⟨hp,hn⟩:=hg;obtain⟨⟨old,he⟩,hi⟩:=st;obtain⟨its,r1,T1,z1⟩:=I.list hp;have hx:xs[n]? =some xs[n]:=List.getElem?_eq_getElem hn;obtain⟨v1,e1,q1⟩:=r1.get hx;have fe:=hf e (by simp);have fi:=hf i (by simp);refine wpAny_pyNext_enum_item he hi T1.isList (x:=v1) (by simpa using e1) D λg eo ig new sz up=>?_;have hT:H s.heap.objs.size=none:=I.hok.fresh (Jb _);have inch:∀{b:Addr},H b≠none->b≠e/\b≠i:=λ{b} h=>⟨λz=>h (by rw[z];exact fe.1),λz=>h (by rw[z];exact fi.1)⟩;have hok:HOk X.prog X.w (upd H s.heap.objs.size (.tup [.int n,xs[n]])) g:=λb u e=>by
   by_cases hb:b=s.heap.objs.size
   ·subst hb;rw[zc] at e;cases e;refine⟨⟨by simp only[List.length_cons,List.length_nil];rw[sizeLine_eq];decide,_,new,rfl⟩,[.int n s.toks,v1],.cons ⟨_,rfl⟩ (.cons q1 .nil),⟨_,new,rfl,_,rfl⟩⟩
   ·rw[zg hb] at e;refine(I.hok b u e).stay (λc r hc q=>?_) (λc q=>by rw[zg (zj q hT)];exact q) λc ys q=>by rw[zg (zj q hT)];exact q
    have hne:H c≠none:=by
     rcases hc with rfl | hc
     ·rw[e];intro z;cases z
     ·rw[hc];intro z;cases z
    obtain⟨c1,c2⟩:=inch hne;exact up c r c1 c2 q
  have I1:Inv X pins σ (upd H s.heap.objs.size (.tup [.int n,xs[n]])) {s with heap:=g,toks:=s.toks+1}:=by
   refine I.step (g':=s.gens) (d':=s.drawn) (t':=s.toks+1) (ch:=[e,i]) (λb hb=>?_) (λb r _ _ hc e _=>?_) (λb r _ _ hc e _=>⟨r.slots,?_⟩) (λb r hc e hn=>?_) (λb r hc e=>⟨r,?_⟩) (λb ys e=>by rw[zg (zj e hT)];exact e)
    (λb r ys e=>by rw[zg (zj e hT)];exact e) (λb ps e=>⟨#[],by rw[zg (zj e hT),e];simp⟩) (λm hm=>?_) hok I.bare
   ·simp only[List.mem_cons,List.not_mem_nil,or_false] at hb;rcases hb with rfl | rfl
    ·exact⟨fe.2.2.2.1,fe.2.1,fe.2.2.2.2.1,fe.2.2.2.2.2⟩
    ·exact⟨fi.2.2.2.1,fi.2.1,fi.2.2.2.2.1,fi.2.2.2.2.2⟩
   ·simp only[List.mem_cons,List.not_mem_nil,or_false,not_or] at hc;exact up b r hc.1 hc.2 e
   ·simp only[List.mem_cons,List.not_mem_nil,or_false,not_or] at hc;exact up b r hc.1 hc.2 e
   ·rw[zg (Jg (Heap.lt_size e))];exact hn
   ·simp only[List.mem_cons,List.not_mem_nil,or_false,not_or] at hc;exact up b r hc.1 hc.2 e
   ·obtain⟨r,es,ep,er,d⟩:=hm;exact⟨r,es,ep,up _ r (Ne.symm fe.2.1) (Ne.symm fi.2.1) er,d⟩
  have le:e < s.heap.objs.size:=Heap.lt_size he;have hfp:∀b∈ [e,i],upd H s.heap.objs.size (.tup [.int n,xs[n]]) b=none:=λb hb=>by
   have fb:=hf b hb;have lt:b < s.heap.objs.size:=by
    obtain⟨r1,e1,_⟩:=hi;simp only[List.mem_cons,List.not_mem_nil,or_false] at hb;rcases hb with rfl | rfl
    ·exact le
    ·exact Heap.lt_size e1
   rw[zg (Jg lt)];exact fb.1
  refine⟨_,rfl,wpAny_letOwnedTupleGo_enum eo λg2 e2 s2=>?_⟩;refine⟨.ref s.heap.objs.size,_,I1.turned (it:=e) (t':=s.toks+1) (λb r hb q=>s2.extBut _ _ hb q) (hfp e (by simp)) fe.2.1 fe.2.2.2.1 fe.2.2.2.2.1 fe.2.2.2.2.2,rfl,⟨_,_,hT,hx,rfl,rfl⟩,⟨⟨_,e2⟩,ig.extBut s2.extBut (Ne.symm D)⟩,hfp⟩
 done:=by intro X hP hw hK hc n pins s σ H E I hf st hg;subst hP hw hK;obtain⟨hp,hn⟩:=hg;obtain⟨⟨old,he⟩,hi⟩:=st;obtain⟨its,r1,T1,z1⟩:=I.list hp;have fi:=hf i (by simp);have l1:=r1.length;refine wpAny_pyNext_enum_end (I.ok.hd hc) he hi T1.isList (by simp;omega) λg up=>⟨rfl,?_⟩;exact I.turned (it:=i) (t':=s.toks) up fi.1 fi.2.1 fi.2.2.2.1 fi.2.2.2.2.1 fi.2.2.2.2.2
 self:=λ_ _ _ _ _ st h=>by obtain⟨⟨old,he⟩,hi⟩:=st;exact wpAny_pyIter_enum he h
section
variable {X:Cx}
noncomputable def zs6 (K:QA)(ta:TA):TI:=fun σ H R=>ta σ H λvs H1=>∃(p:Addr) (xs:QQ),vs=[.ref p]/\SqL K H1 p xs/\R (Ite K p xs) H1
theorem zpq {elts:List Expr}{x1:Nat}{tpos:Pos}{a:Expr}{p pos:Pos}(hg:Gl X "enumerate") (hm:X.mg "enumerate" =none) (ha:PA X [a] ta) (hs:starEach [a] X.env=[(false,eval a X.env)]:=by rfl):
  PI X (.Tuple elts x1 tpos) (.Call (.Name "enumerate" p) [a] [] pos) (zs6 X.K ta):=by
 intro pins s σ H R I h;refine Call_ (zbo I hg hm (u:=.type "enumerate") (by rfl) (PyProof.Rows.callWith_type1 (thn (ha pos pins s σ H _ I h) λus s1 ⟨vs,H1,I1,r1,q1⟩=>?_) (by rw[hs];rfl) rfl));obtain⟨p1,xs,rfl,hp,q⟩:=q1;obtain⟨u,rfl,ru⟩:=Vals.one r1;cases (show u=Value.ref _ from ru);obtain⟨its,r1,T1,z1⟩:=I1.list hp;refine call_enumerate_list T1.isList λg eg ig sz up=>wpAny_pyIter_enum eg ?_;refine⟨_,_,_,_,H1,rfl,I1.kept (t':=s1.toks) up,zlO (show s1.heap.objs.size+1≠s1.heap.objs.size by omega),⟨⟨_,eg⟩,ig⟩,λb hb=>?_,q⟩;have hb':s1.heap.objs.size<=b:=by
  simp only[List.mem_cons,List.not_mem_nil,or_false] at hb;rcases hb with rfl | rfl
  ·exact Nat.le_add_right _ _
  ·exact Jb _
 exact I1.fpOk hb' (I1.hok.fresh hb')
theorem ziy {K:QA}{p:Addr}{xs:QQ}{g:TG}{tb:TS}{D:Ends}{σ:St}{H:Hp}(Pv:Nat->St->Hp->Prop)(h0:Pv 0 σ H)(hl:∀i σ H,Pv i σ H->SqL K H p xs)
  (hs:∀i x T σ H,xs[i]? =some x->H T=none->Pv i σ H->g (.ref T) σ (upd H T (.tup [.int i,x])) fun σ2 H2=>tb {D with nx:=Pv (i+1),ct:=Pv (i+1),bk:=D.nx} σ2 H2) (hd:∀σ H,Pv xs.length σ H->D.nx σ H):
  ∃W:Nat->Nat->St->Hp->Prop,(∃m,W 0 m σ H)/\∀i m σ H,W i m σ H->
   ((Ite K p xs).stop i H/\D.nx σ H)\/((Ite K p xs).go i H/\∃N:St->Hp->Prop,(∀σ' H',N σ' H'->∃m',m' < m/\W (i+1) m' σ' H')/\∀x H',(Ite K p xs).yld i H x H'->g x σ H' fun σ2 H2=>tb {D with nx:=N,ct:=N,bk:=D.nx} σ2 H2):=by
 refine⟨λi m σ H=>m=xs.length - i/\i<=xs.length/\Pv i σ H,⟨_,rfl,Nat.zero_le _,h0⟩,?_⟩;rintro i m σ H ⟨rfl,hi,p⟩;have q:=hl i σ H p;by_cases hlt:i < xs.length
 ·refine .inr ⟨⟨q,hlt⟩,Pv (i+1),fun σ' H' p'=>⟨_,by omega,rfl,hlt,p'⟩,λx H' y=>?_⟩;obtain⟨T,a,hT,e1,rfl,rfl⟩:=y;exact hs i a T σ H e1 hT p
 ·have e:i=xs.length:=by omega
  subst e;exact .inl ⟨⟨q,Jb _⟩,hd σ H p⟩
end
end L2
namespace Pv
open PySem L2
open Tr
noncomputable def inR (a b:Th)(p:Th ×Th):Bool:=(decide (a=.non) || !zd p.1 a) && (decide (b=.non) || zd p.1 b)
noncomputable def rng (a b:Th)(ps:QH):List (Th ×Th):=ps.filter (inR a b)
noncomputable def zfw (a b:Th):Bool:= !decide (a=.non) && (!decide (b=.non) && !zd a b)
noncomputable def zbw (a k:Th):Bool:=decide (a=.non) || zd a k
noncomputable def zbu (b k:Th):Bool:=decide (b=.non) || zd k b
end Pv
namespace Pv
open PySem L2
open Tr
end Pv
namespace L2
open PySem PySem.Spec PyProof.Rows
section
variable {X:Cx}
end
end L2
namespace L2
open PySem PySem.Spec PyProof.Rows
section
variable {X:Cx}
end
end L2
namespace Px
open PySem PySem.W PySem.Builtin
section
variable {prog:Program}{w:World}{A:Around}{E:QC}{s:Shared}{K:Frag}{x D:Addr}{ox:Obj}{od:Option Obj}
end
end Px
namespace L2
open PySem PySem.Spec PyProof.Rows Px
section
variable {X:Cx}
end
end L2
namespace Pv
open PySem L2
inductive Ob where
 | non | bl (b:Bool) | int (i:Int) | str (x:Str) | tup (ts:List Ob) | odd (k:Nat)
inductive RepO (CN:Addr) (H:Hp):Ob->V->Prop where
 | non:RepO CN H .non .non
 | bl (b:Bool):RepO CN H (.bl b) (.bl b)
 | int (i:Int):RepO CN H (.int i) (.int i)
 | str (x:Str):RepO CN H (.str x) (.str x)
 | tup {a:Addr} {xs:QQ} {ts:List Ob} (e:H a=some (.tup xs)) (l:xs.length=ts.length) (h:∀(i:Nat) (x:V) (t:Ob),xs[i]? =some x->ts[i]? =some t->RepO CN H t x):RepO CN H (.tup ts) (.ref a)
 | lst {a:Addr} {xs:QQ} (e:H a=some (.lst xs)):RepO CN H (.odd 0) (.ref a)
 | dic {a:Addr} {kvs:QG} (e:H a=some (.dK kvs)):RepO CN H (.odd 1) (.ref a)
 | exc {a:Addr} (e:H a=some (exO a CN none true)):RepO CN H (.odd 2) (.ref a)
mutual
noncomputable def ofT:Th->Ob
 | .non=>.non
 | .int i=>.int i
 | .str x=>.str x
 | .tup ts=>.tup (ofL ts)
noncomputable def ofL:List Th->List Ob
 | []=>[]
 | t::r=>ofT t::ofL r
end
theorem zc5:∀ts:List Th,(ofL ts).length=ts.length
 | []=>rfl
 | _::r=>by show(ofL r).length+1=_;rw[zc5 r];rfl
theorem zeD:∀(ts:List Th) (i:Nat),(ofL ts)[i]? =ts[i]?.map ofT
 | [],i=>by simp[ofL]
 | t::r,0=>rfl
 | t::r,i+1=>by show(ofL r)[i]? =_;rw[zeD r i];simp
theorem Rep.toO (r:Rep H t v):RepO CN H (ofT t) v:=by
 induction r with
 | non=>exact .non
 | int i=>exact .int i
 | str x=>exact .str x
 | tup e l h ih=>refine RepO.tup e (by rw[zc5];exact l) λi x t e1 e2=>?_;rw[zeD] at e2;obtain⟨u,e3,rfl⟩:=Jq.mp e2;exact ih i x u e1 e3
mutual
noncomputable def zsS:Ob->Nat
 | .tup ts=>zmV ts+1
 | _=>0
noncomputable def zmV:List Ob->Nat
 | []=>0
 | t::r=>max (zsS t) (zmV r)
end
mutual
noncomputable def OkO:Ob->Prop
 | .str x=>x.length<=900/\∀c∈x.cps.toList,c≠37
 | .tup ts=>ts.length<=900/\OkOL ts
 | _=>True
noncomputable def OkOL:List Ob->Prop
 | []=>True
 | t::r=>OkO t/\OkOL r
end
noncomputable def zaN (c:Nat):Bool:=decide (32<=c) && decide (c<=126) && !decide (c=37)
noncomputable def absB (i:Int):Bool:=decide ((if i < 0 then -i else i)<=(10:Int) ^ (30:Int).toNat)
mutual
noncomputable def within:Ob->Nat->Bool
 | .non,_=>true
 | .bl _,_=>false
 | .int i,_=>absB i
 | .str x,_=>decide (x.length<=60) && x.cps.toList.all zaN
 | .tup ts,d=>match d with | 0=>false | d+1=>decide (ts.length<=40) && zkM ts d
 | .odd _,_=>false
noncomputable def zkM:List Ob->Nat->Bool
 | [],_=>true
 | t::r,d=>within t d && zkM r d
end
mutual
noncomputable def ztr:Ob->Bool
 | .non=>true
 | .bl _=>false
 | .int i=>absB i
 | .str x=>decide (x.length < 61) && x.cps.toList.all λc=>!(decide (c < 32) || decide (126 < c))
 | .tup ts=>decide (ts.length<=40) && zm6 ts
 | .odd _=>false
noncomputable def zm6:List Ob->Bool
 | []=>true
 | t::r=>ztr t && zm6 r
end
inductive Kd where | tuple | str | int | bool | list
noncomputable def Kd.nm:Kd->String
 | .tuple=> "tuple" | .str=> "str" | .int=> "int" | .bool=> "bool" | .list=> "list"
noncomputable def zet:Ob->Kd->Bool
 | .bl _,.bool=>true
 | .bl _,.int=>true
 | .int _,.int=>true
 | .str _,.str=>true
 | .tup _,.tuple=>true
 | .odd 0,.list=>true
 | _,_=>false
structure NTk (K:QA)(CN:Addr):Prop where
 kd:zkD K CN
 k1:PySem.W.kitOne K (.ref CN) (.type "tuple")=some false
 k2:PySem.W.kitOne K (.ref CN) (.type "str")=some false
 k3:PySem.W.kitOne K (.ref CN) (.type "int")=some false
 k4:PySem.W.kitOne K (.ref CN) (.type "bool")=some false
 k5:PySem.W.kitOne K (.ref CN) (.type "list")=some false
 he:PySem.W.findIn K (.ref CN) "__eq__" =some (some (.builtin "object.__eq__"))
noncomputable def zrf (CN:Addr):List V->Hp->VK->Prop:=λxs H Q=>∃(t:Ob) (v:V) (c:Kd),xs=[v,.ty c.nm]/\RepO CN H t v/\Q (.bl (zet t c)) H
section
variable {X:Cx}{CN:Addr}
theorem zaZ (nt:NTk X.K CN):zab X (.builtin "isinstance") (zrf CN):=by
 intro pins s σ H xs us Q I r h;obtain⟨t,v,c,rfl,rv,q⟩:=h;cases rv with
 | non=>exact z6 pins s σ H _ us Q I r ⟨_,_,_,false,rfl,.non,by cases c <;> rfl,by cases c <;> exact q⟩
 | bl b=>exact z6 pins s σ H _ us Q I r ⟨_,_,_,zet (.bl b) c,rfl,.bl b,by cases c <;> rfl,q⟩
 | int i=>exact z6 pins s σ H _ us Q I r ⟨_,_,_,zet (.int i) c,rfl,.int i,by cases c <;> rfl,q⟩
 | str x=>exact z6 pins s σ H _ us Q I r ⟨_,_,_,zet (.str x) c,rfl,.str x,by cases c <;> rfl,q⟩
 | @tup a xs ts e l h=>exact z6 pins s σ H _ us Q I r ⟨_,_,_,zet (.tup ts) c,rfl,.tup e,by cases c <;> rfl,q⟩
 | lst e=>exact z6 pins s σ H _ us Q I r ⟨_,_,_,zet (.odd 0) c,rfl,.lst e,by cases c <;> rfl,q⟩
 | dic e=>exact z6 pins s σ H _ us Q I r ⟨_,_,_,zet (.odd 1) c,rfl,.dK e,by cases c <;> rfl,q⟩
 | exc e=>exact zdq pins s σ H _ us Q I r ⟨_,CN,none,true,_,zet (.odd 2) c,rfl,e,nt.kd,(λd z=>nomatch z),q,.inl ⟨_,rfl,by cases c <;> first | exact nt.k1 | exact nt.k2 | exact nt.k3 | exact nt.k4 | exact nt.k5⟩⟩
end
end Pv
namespace L2
open PySem PySem.Spec PyProof.Rows
section
variable {X:Cx}
end
end L2
namespace Pv
noncomputable def pw:Nat->List Nat->List Nat->Option (List (List Nat))
 | 0,w,[]=>if w=[] then none else some [w]
 | 0,w,c::r=>if c=32 then(if w=[] then none else(pw 0 [] r).map (w:: ·)) else if c=39 then(if w=[] then pw 1 [39] r else none) else pw 0 (w++ [c]) r
 | 1,_,[]=>none
 | 1,w,c::r=>if c=39 then pw 2 (w++ [39]) r else pw 1 (w++ [c]) r
 | _,w,[]=>some [w]
 | _,w,c::r=>if c=32 then(pw 0 [] r).map (w:: ·) else none
noncomputable def joined:List Nat->List (List Nat)->List Nat
 | p,[]=>p
 | p,q::qs=>p++32::joined q qs
open PySem
end Pv
namespace Pv
open PySem PySem.NumText
end Pv
namespace Px
open PySem PySem.W PySem.Builtin
open PySem.AutoSeq1 (wpAny_loadPart')
section
variable {prog:Program}{w:World}{A:Around}{E:QC}{s:Shared}
end
end Px
namespace L2
open PySem PySem.Spec PyProof.Rows Px
section
variable {X:Cx}{e:Expr}{ta:TA}{p1 p2 q1 q2:Pos}
end
end L2
namespace L2
open PySem PySem.Spec PyProof.Rows PySem.SeqAt
section
variable {X:Cx}
noncomputable abbrev _root_.Jk:=@List.all_eq_true
theorem zs8 (I:Inv X pins σ H s){xs:QQ}{A:Around}(e:SqL X.K H a xs)(e':SqL X.K H b xs)(h:∀x∈xs,za4 x=true/\eqV x x=true)(hu:A.units+60 < cLine):
  RcAt A s (.ref a) (.ref b) true/\RcNeAt A s (.ref a) (.ref b) false:=by
 obtain⟨its,r1,T1,_⟩:=I.list e;obtain⟨jts,r2,T2,_⟩:=I.list e';have n1:=r1.length;have n2:=r2.length;have key:∀j (h1:j < its.toArray.size) (h2:j < jts.toArray.size),EqAt A.in1 s its.toArray[j] jts.toArray[j] true:=λj h1 h2=>by
  have h1':j < its.length:=by simpa using h1
  have h2':j < jts.length:=by simpa using h2
  have hx:xs[j]? =some xs[j]:=List.getElem?_eq_getElem (show j < xs.length by omega);obtain⟨vx,ex,rx⟩:=r1.get hx;obtain⟨vy,ey,ry⟩:=r2.get hx;have z1:its.toArray[j]=vx:=by rw[List.getElem?_eq_getElem h1'] at ex;simpa using Option.some.inj ex
  have z2:jts.toArray[j]=vy:=by rw[List.getElem?_eq_getElem h2'] at ey;simpa using Option.some.inj ey
  rw[z1,z2];obtain⟨f1,f2⟩:=h xs[j] (Jj (show j < xs.length by omega));have:=znA (A:=A.in1) (s:=s) rx ry f1 f1;rw[f2] at this;exact this
 have hsz:its.toArray.size=jts.toArray.size:=by rw[List.size_toArray,List.size_toArray];omega
 have R:=RcAt.lists (e:=λ_=>true) T1.isList T2.isList hsz (show A.units < cLine by omega) key;have R':=RcNeAt.lists (e:=λ_=>true) T1.isList T2.isList hsz (show A.units < cLine by omega) key;have e3:(List.range its.toArray.size).all (λ_=>true)=true:=Jk.mpr λ_ _=>rfl;rw[e3] at R R';exact⟨R,R'⟩
theorem zpO (hr:Room k X.A):OpR X (compareOp .Eq) (λx y H Q=>∃a b xs,x=.ref a/\y=.ref b/\SqL X.K H a xs/\SqL X.K H b xs/\(∀x∈xs,za4 x=true/\eqV x x=true)/\Q (.bl true) H):=by intro pins s σ H x y v w Q I rx ry h;obtain⟨a,b,xs,rfl,rfl,e1,e2,hf,q⟩:=h;cases (show v=Value.ref a from rx);cases (show w=Value.ref b from ry);have hu:=hr.units;exact(zs8 I e1 e2 hf (by omega)).1 _ _ _ _ ⟨.bl _,H,I,rfl,q⟩
end
end L2
namespace L2
open PySem PySem.Spec PyProof.Rows
section
variable {X:Cx}
theorem znY (hr:Room k X.A):OpR X (compareOp .NotEq) (λx y H Q=>∃a b xs,x=.ref a/\y=.ref b/\SqL X.K H a xs/\SqL X.K H b []/\Q (.bl (!xs.isEmpty)) H):=by
 intro pins s σ H x y v w Q I rx ry h;obtain⟨a,b,xs,rfl,rfl,e,e',q⟩:=h;cases (show v=Value.ref a from rx);cases (show w=Value.ref b from ry);have hu:=hr.units;obtain⟨its,r1,T1,_⟩:=I.list e;obtain⟨jts,r2,T2,_⟩:=I.list e';have n1:=r1.length;have n2:=r2.length;cases xs with
 | nil=>
  have z1:its=[]:=by cases its with | nil=>rfl | cons=>simp at n1
  have z2:jts=[]:=by cases jts with | nil=>rfl | cons=>simp at n2
  subst z1 z2;exact(PySem.SeqAt.RcNeAt.lists (e:=λ_=>true) T1.isList T2.isList rfl (by omega) (λj h1=>Je h1 (Nat.not_lt_zero _))) _ _ _ _ ⟨.bl _,H,I,rfl,q⟩
 | cons c xs=>
  have z2:jts=[]:=by cases jts with | nil=>rfl | cons=>simp at n2
  subst z2;have hsz:(its.toArray.size != (#[]:Array Value).size)=true:=by rw[List.size_toArray,bne_iff_ne,<-n1,List.length_cons];exact Nat.succ_ne_zero _
  exact(PySem.SeqAt.RcNeAt.lists_lengths T1.isList T2.isList hsz (by omega)) _ _ _ _ ⟨.bl _,H,I,rfl,q⟩
end
end L2
namespace Px
open PySem PySem.Spec PyProof.Rows
section
variable {prog:Program}{w:World}{A:Around}{K:Type} [DecidableEq K]{knd:KeyKind prog w K}
theorem fill {R:Result->Shared->Prop}{I S:Addr}{fp wr:QO}{G:Array GenState->Array GenState->Prop}{n:Nat}{P:Nat->Value->Prop}{St:Nat->Shared->Prop}(W:WalksS prog w A.in1 I fp wr G n P St)(hS:S∉fp){val:Nat->K}{F:Nat->K->Bool}{c:Nat->Nat}
  (hF:∀i,i < n->∀k,F (i+1) k=(F i k || decide (k=val i))) (hc:∀i,c (i+1)=if F i (val i) then c i else c i+1) (hv:∀i v,P i v->knd.is (val i) v=true/\v.scannable=true) (hb:∀i,i<=n->c i+1 < scanBound):
  ∀(k i:Nat) (s:Shared),i+k=n->St i s->s.heap.SetOf knd S (F i) (c i)->(∀s',Moved (S::wr) G s s'->s'.heap.SetOf knd S (F n) (c n)->R (.ok (.ret .none)) s')->codeAny (model prog w) A (.builtin "set.update.loop" ⟨[.ref S,.ref I],[]⟩) R s:=by
 have nw:S∉wr:=λh=>hS (W.sub _ h);intro k
 induction k with
 | zero=>intro i s e st so hR;obtain rfl:i=n:=e;refine codeAny_builtin PyProof.Rows.F.entry_set_update_loop ?_;rw[Around.under_plainId PyProof.Rows.F.plain_set_update_loop _];refine Ja (m:=pyNext (.ref I)) (W.done s _ _ st λs' mv=>wpAny_pure (hR s' (mv.mono λb h=>Jd _ h) ?_));obtain⟨o,es,ep,t,ho,r⟩:=so;exact⟨o,es,ep,t,mv.heap S _ nw ho,r⟩
 | succ k ih=>
  intro i s e st so hR;refine codeAny_builtin PyProof.Rows.F.entry_set_update_loop ?_;rw[Around.under_plainId PyProof.Rows.F.plain_set_update_loop _];refine Ja (m:=pyNext (.ref I)) (W.item i s _ _ (by omega) st λv s' hp st' mv=>?_);obtain⟨h1,h2⟩:=hv i v hp;have so':s'.heap.SetOf knd S (F i) (c i):=by obtain⟨o,es,ep,t,ho,r⟩:=so;exact⟨o,es,ep,t,mv.heap S _ nw ho,r⟩
  show wpAny _ A.in1 (holding [v] (setAdd S v) >>=_) _ _ s';refine Ja (wpAny_holding ?_);unfold setAdd;refine wpAny_holding (Ja (knd.pyHash h1 ?_));refine wpAny_setAddHashed_of (s:={s' with toks:=s'.toks+1}) h1 h2 so' (hb i (by omega)) λh' sb so2=>?_;have so3:h'.SetOf knd S (F (i+1)) (c (i+1)):=by rw[hc,show F (i+1)=λk'=>F i k' || decide (k'=val i) from funext λk'=>hF i (by omega) k'];exact so2
  refine wpAny_pure ⟨plainId_quiet PyProof.Rows.F.plain_set_update_loop _,ih (i+1) _ (by omega) (W.frame _ s' _ _ st' (Nat.le_succ _) λb h o q=>?_) so3 λs'' m2 so4=>hR s'' (Moved.trans W.gtrans ((mv.mono λb h=>Jd _ h).then_heap (Nat.le_succ _) λb o h q=>?_) m2) so4⟩
  ·rw[sb.2 b (λz=>hS (z ▸ h))];exact q
  ·rw[sb.2 b (λz=>h (z ▸ List.mem_cons_self))];exact q
end
section
variable {prog:Program}{w:World}{A:Around}{E:QC}{s:Shared}
noncomputable abbrev so0 (led:Bool):Obj:={cls:=.type "set",dict:=none,data:=.set #[] 0 (.fresh 0 0 led)}
theorem tkc {ts:QP}{i:Nat}(hi:i < ts.length)(k d:Str):(ts.take (i+1)).contains k=((ts.take i).contains k || decide (k=ts.getD i d)):=by have e:ts[i]? =some ts[i]:=List.getElem?_eq_getElem hi;rw[List.take_add_one,List.getD_eq_getElem?_getD,e,Bool.eq_iff_iff,Bool.or_eq_true,List.contains_iff_mem,List.contains_iff_mem,List.mem_append,decide_eq_true_iff];show _\/k∈ [ts[i]]↔_\/k=ts[i];rw[List.mem_singleton]
noncomputable def cD (ts:QP):Nat->Nat
 | 0=>0
 | i+1=>if (ts.take i).contains (ts.getD i ⟨#[]⟩) then cD ts i else cD ts i+1
theorem zgd (ts:QP):∀i,cD ts i<=i
 | 0=>Jb _
 | i+1=>by
  unfold cD;split
  ·exact Nat.le_succ_of_le (zgd ts i)
  ·exact Nat.succ_le_succ (zgd ts i)
noncomputable def MyS (prog:Program)(w:World)(ts:QP)(a:Addr)(n:Nat)(h:Heap):Prop:=h.SetOf (strKind prog w) a (λk=>(ts.take n).contains k) (cD ts n)
end
section
variable {prog:Program}{w:World}{A:Around}{E:QC}{s:Shared}
set_option maxHeartbeats 8000000 in
theorem zh2 {ts:QP}{Q:QC}(hh:A.handled=none)(hl:s.heap.IsList l items)(hi:∀(i:Nat) (v:Value),items[i]? =some v->∃t,v=.str (ts.getD i ⟨#[]⟩) t)(hz:ts.length=items.size)(hb:items.size+1 < scanBound)
  (h:∀(h':Heap) (tk:Nat),MyS prog w ts s.heap.objs.size items.size h'->(∀b o,b < s.heap.objs.size->s.heap.get? b=some o->h'.get? b=some o)->Q (.ref s.heap.objs.size) {s with heap:=h',toks:=tk}):wpAny (model prog w) A (call (.type "set") [.ref l]) Q E s:=by
 obtain⟨c,tl,hmro⟩:=F.called_set.mro;have hmade:=F.called_set.made;have hsub:=F.called_set.sub;refine wpAny_call (codeAny_of_tree ?_);show wpAny _ _ (callAny (.type "set") _) _ _ _;refine wpAny_pure ⟨Code.quiet_builtin _ (by decide+kernel),codeAny_builtin F.entry_type_call ?_⟩;rw[Around.under_plain (weight_type_call_type "set" [.ref l] []) rfl];have h1:=F.called_set.notType;have h2:=F.called_set.canCreate;have hct:=F.typeCall_set_1 (.ref l)
 repeat (any_goals (first | assumption | wp_step))
 refine codeAny_mono (code_set_new_1 (.ref l) (E:=E) (Q₁:=λob s₁=>∃led,ob=.ref s.heap.objs.size/\s₁={s with heap:=s.heap.push (so0 led)}) λled=>⟨led,rfl,rfl⟩) λr s₁ hr=>?_;cases r with
 | error e=>exact hr
 | ok fl=>
  cases fl with
  | ret ob=>
   obtain⟨led,rfl,rfl⟩:=hr;have hS:(s.heap.push (so0 led)).get? s.heap.objs.size=some (so0 led):=Heap.get?_push_size _ rfl;have hT:Shared.TypeIs {s with heap:=s.heap.push (so0 led)} (.ref s.heap.objs.size) "set" :=⟨_,hS,rfl⟩;have hli:=F.called_set.init.lookup;have hbi:=F.called_set.init.bind (.ref s.heap.objs.size)
   repeat (any_goals (first | assumption | wp_step))
   refine codeAny_mono (codeAny_call_builtin (R:=wants (λr s₂=>r=.none/\∃h' tk,s₂={s with heap:=h',toks:=tk}/\MyS prog w ts s.heap.objs.size items.size h'/\∀b o,b < s.heap.objs.size->s.heap.get? b=some o->h'.get? b=some o) E) F.called_set.init.plain F.entry_set_init (check_set_init_1 hT ?_)) λr₂ s₂ hr₂=>?_
   ·obtain⟨ol,hol,hcl,nl,hdl⟩:=id hl;obtain⟨ocls,odict,odata,oslots⟩:=ol;simp only at hcl hdl;subst hcl;subst hdl;have hol':=Heap.get?_push_of_some (so0 led) hol;have k1:=F.sub_list_set;have k2:=F.sub_list_frozenset;have k3:(Value.type "list" ==Value.type "dict")=false:=by decide
    have hl1:(s.heap.push (so0 led)).IsList l items:=⟨_,hol',rfl,nl,rfl⟩;unfold Builtin.«set.__init__» noKeywords Builtin.Frozenset.updateFrom;generalize hPI:pyIter=PI
    wp_walk
    subst hPI;refine wpAny_pyIter_list hl1 ?_;refine Ja (wpAny_runValue ?_);have lS:l < s.heap.objs.size:=Heap.lt_size hol;have h3:A.in1.in1.in1.handled=none:=by simp[hh]
    have sz:(s.heap.push (so0 led)).objs.size=s.heap.objs.size+1:=Heap.size_push _ _;refine fill (knd:=strKind prog w) (F:=λi k=>(ts.take i).contains k) (c:=cD ts) (val:=λi=>ts.getD i ⟨#[]⟩) ((Walks.list h3 _ l (by rw[sz];exact Jg (Jr lS)) items).toS) (by rw[sz];simp only[List.mem_cons,List.not_mem_nil,or_false,not_or];exact⟨Jg (Jt _),Jy lS⟩) ?f1 (λi=>rfl) ?f2 (λi hi=>by have:=zgd ts i;omega) items.size 0 _ (Nat.zero_add _) ⟨⟨_,Heap.get?_push_size _ rfl,rfl,rfl⟩,hl1.push _⟩ ?f3 ?f4
    case f1=>exact λi hi k=>tkc (by omega) k _
    case f2=>intro i v hv;obtain⟨t,rfl⟩:=hi i v hv;exact⟨PySem.strKind_is _ _ _ _,rfl⟩
    case f3=>exact SetOf_congr ((setObjOf_fresh (knd:=strKind prog w) led).setOf (Heap.get?_push_of_some _ hS) (by unfold scanBound;omega)) (λ_=>rfl) rfl
    case f4=>rintro⟨h',g',d',tk',os'⟩ hm hS';have eg:g'=s.gens:=hm.gens;have ed:d'=s.drawn:=hm.drawn;have eo:os'=s.os:=hm.os;subst eg;subst ed;subst eo;refine wpAny_pure ?_;show wpAny _ _ (ret Value.none) _ _ _;refine wpAny_pure ⟨rfl,h',tk',rfl,hS',λb o hb e=>hm.heap b o ?_ (Heap.get?_push_of_some _ (Heap.get?_push_of_some _ e))⟩;rw[sz];simp only[List.mem_cons,List.not_mem_nil,or_false,not_or];exact⟨Jg hb,Jg (Jr hb)⟩
   ·cases r₂ with
    | error e=>exact hr₂
    | ok fl₂=>
     cases fl₂ with
     | ret r=>
      obtain⟨rfl,h',tk,rfl,hS',hk'⟩:=hr₂
      repeat (any_goals (first | assumption | wp_step))
      exact h _ _ hS' hk'
     | _=>exact hr₂.elim
  | _=>exact hr.elim
end
section
variable {prog:Program}{w:World}{A:Around}{E:QC}{s:Shared}
set_option maxHeartbeats 8000000 in
theorem zgT {ts:QP}{Q:QC}(hh:A.handled=none)(hl:s.heap.IsTuple l items)(hi:∀(i:Nat) (v:Value),items[i]? =some v->∃t,v=.str (ts.getD i ⟨#[]⟩) t)(hz:ts.length=items.size)(hb:items.size+1 < scanBound)
  (h:∀(h':Heap) (tk:Nat),MyS prog w ts s.heap.objs.size items.size h'->(∀b o,b < s.heap.objs.size->s.heap.get? b=some o->h'.get? b=some o)->Q (.ref s.heap.objs.size) {s with heap:=h',toks:=tk}):wpAny (model prog w) A (call (.type "set") [.ref l]) Q E s:=by
 obtain⟨c,tl,hmro⟩:=F.called_set.mro;have hmade:=F.called_set.made;have hsub:=F.called_set.sub;refine wpAny_call (codeAny_of_tree ?_);show wpAny _ _ (callAny (.type "set") _) _ _ _;refine wpAny_pure ⟨Code.quiet_builtin _ (by decide+kernel),codeAny_builtin F.entry_type_call ?_⟩;rw[Around.under_plain (weight_type_call_type "set" [.ref l] []) rfl];have h1:=F.called_set.notType;have h2:=F.called_set.canCreate;have hct:=F.typeCall_set_1 (.ref l)
 repeat (any_goals (first | assumption | wp_step))
 refine codeAny_mono (code_set_new_1 (.ref l) (E:=E) (Q₁:=λob s₁=>∃led,ob=.ref s.heap.objs.size/\s₁={s with heap:=s.heap.push (so0 led)}) λled=>⟨led,rfl,rfl⟩) λr s₁ hr=>?_;cases r with
 | error e=>exact hr
 | ok fl=>
  cases fl with
  | ret ob=>
   obtain⟨led,rfl,rfl⟩:=hr;have hS:(s.heap.push (so0 led)).get? s.heap.objs.size=some (so0 led):=Heap.get?_push_size _ rfl;have hT:Shared.TypeIs {s with heap:=s.heap.push (so0 led)} (.ref s.heap.objs.size) "set" :=⟨_,hS,rfl⟩;have hli:=F.called_set.init.lookup;have hbi:=F.called_set.init.bind (.ref s.heap.objs.size)
   repeat (any_goals (first | assumption | wp_step))
   refine codeAny_mono (codeAny_call_builtin (R:=wants (λr s₂=>r=.none/\∃h' tk,s₂={s with heap:=h',toks:=tk}/\MyS prog w ts s.heap.objs.size items.size h'/\∀b o,b < s.heap.objs.size->s.heap.get? b=some o->h'.get? b=some o) E) F.called_set.init.plain F.entry_set_init (check_set_init_1 hT ?_)) λr₂ s₂ hr₂=>?_
   ·obtain⟨ol,hol,hcl,nl,hdl⟩:=id hl;obtain⟨ocls,odict,odata,oslots⟩:=ol;simp only at hcl hdl;subst hcl;subst hdl;have hol':=Heap.get?_push_of_some (so0 led) hol;have k1:=F.sub_tuple_set;have k2:=F.sub_tuple_frozenset;have k3:(Value.type "tuple" ==Value.type "dict")=false:=by decide
    have hl1:(s.heap.push (so0 led)).IsTuple l items:=⟨_,hol',rfl,nl,rfl⟩;unfold Builtin.«set.__init__» noKeywords Builtin.Frozenset.updateFrom;generalize hPI:pyIter=PI
    wp_walk
    subst hPI;refine wpAny_pyIter_tuple hl1 ?_;refine Ja (wpAny_runValue ?_);have lS:l < s.heap.objs.size:=Heap.lt_size hol;have h3:A.in1.in1.in1.handled=none:=by simp[hh]
    have sz:(s.heap.push (so0 led)).objs.size=s.heap.objs.size+1:=Heap.size_push _ _;refine fill (knd:=strKind prog w) (F:=λi k=>(ts.take i).contains k) (c:=cD ts) (val:=λi=>ts.getD i ⟨#[]⟩) ((Walks.tuple h3 _ l (by rw[sz];exact Jg (Jr lS)) items).toS) (by rw[sz];simp only[List.mem_cons,List.not_mem_nil,or_false,not_or];exact⟨Jg (Jt _),Jy lS⟩) ?f1 (λi=>rfl) ?f2 (λi hi=>by have:=zgd ts i;omega) items.size 0 _ (Nat.zero_add _) ⟨⟨_,Heap.get?_push_size _ rfl,rfl,rfl⟩,hl1.push _⟩ ?f3 ?f4
    case f1=>exact λi hi k=>tkc (by omega) k _
    case f2=>intro i v hv;obtain⟨t,rfl⟩:=hi i v hv;exact⟨PySem.strKind_is _ _ _ _,rfl⟩
    case f3=>exact SetOf_congr ((setObjOf_fresh (knd:=strKind prog w) led).setOf (Heap.get?_push_of_some _ hS) (by unfold scanBound;omega)) (λ_=>rfl) rfl
    case f4=>rintro⟨h',g',d',tk',os'⟩ hm hS';have eg:g'=s.gens:=hm.gens;have ed:d'=s.drawn:=hm.drawn;have eo:os'=s.os:=hm.os;subst eg;subst ed;subst eo;refine wpAny_pure ?_;show wpAny _ _ (ret Value.none) _ _ _;refine wpAny_pure ⟨rfl,h',tk',rfl,hS',λb o hb e=>hm.heap b o ?_ (Heap.get?_push_of_some _ (Heap.get?_push_of_some _ e))⟩;rw[sz];simp only[List.mem_cons,List.not_mem_nil,or_false,not_or];exact⟨Jg hb,Jg (Jr hb)⟩
   ·cases r₂ with
    | error e=>exact hr₂
    | ok fl₂=>
     cases fl₂ with
     | ret r=>
      obtain⟨rfl,h',tk,rfl,hS',hk'⟩:=hr₂
      repeat (any_goals (first | assumption | wp_step))
      exact h _ _ hS' hk'
     | _=>exact hr₂.elim
  | _=>exact hr.elim
end
end Px
namespace L2
open PySem PySem.Spec PyProof.Rows Px
section
variable {X:Cx}{e:Expr}{ta:TA}{p1 p2 q1 q2:Pos}
theorem znt {ts:QP}(r:Vals (ts.map V.str) its)(i:Nat)(v:Value)(h:its.toArray[i]? =some v):∃t,v=.str (ts.getD i ⟨#[]⟩) t:=by have hl:=r.length;rw[List.length_map] at hl;rw[List.getElem?_toArray] at h;have hi:i < its.length:=(List.getElem?_eq_some_iff.mp h).1;have ht:ts[i]? =some ts[i]:=List.getElem?_eq_getElem (by omega);obtain⟨v',e',q⟩:=r.get (i:=i) (x:=V.str ts[i]) (by rw[List.getElem?_map,ht];rfl);rw[h] at e';cases e';obtain⟨t,rfl⟩:=(show∃t,v=Value.str ts[i] t from q);exact⟨t,by rw[List.getD_eq_getElem?_getD,ht];rfl⟩
theorem zgB (hc:X.calm=true)(ha:PA X [e] ta)(g1:Gl X "len") (m1:X.mg "len" =none) (g2:Gl X "set") (m2:X.mg "set" =none)
  (s1:starEach [.Call (.Name "set" p2) [e] [] q2] X.env=[(false,eval (.Call (.Name "set" p2) [e] [] q2) X.env)]:=by rfl) (s2:starEach [e] X.env=[(false,eval e X.env)]:=by rfl):
  PE X (.Call (.Name "len" p1) [.Call (.Name "set" p2) [e] [] q2] [] q1) (fun σ H Q=>ta σ H λvs H1=>∃(a:Addr) (ts:QP),vs=[.ref a]/\(SqL X.K H1 a (ts.map V.str)\/SqT X.K H1 a (ts.map V.str))/\ts.length<=1000/\Q (.int (cD ts ts.length:Nat)) H1):=by
 intro pins s σ H Q I h;refine wpAny_Call_Name_kw (zbo I g1 m1 (show bootBuiltins "len" =some (.builtin "len") from by rfl) ?_ (by decide) (by decide));refine PyProof.Rows.callWith_builtin1 ?_ s1 rfl;rw[s1];show wpAny _ _ (spliced ((false,eval (.Call (.Name "set" p2) [e] [] q2) X.env)::[])) _ _ s;refine Calls.spliced_cons ?_;refine wpAny_Call_Name_kw (zbo I g2 m2 (show bootBuiltins "set" =some (.type "set") from by rfl) ?_ (by decide) (by decide));refine PyProof.Rows.callWith_type1 (thn (ha q2 pins s σ H _ I h) λus t1 ⟨vs,H1,I1,r1,a,ts,ev,hq,hl,q⟩=>?_) s2 rfl;subst ev;obtain⟨u,rfl,ru⟩:=vals1 r1;obtain rfl:u=Value.ref a:=ru;have sb:∀n,n<=1000->n+1 < scanBound:=λn hn=>by unfold scanBound;omega
 have fin:∀(h':Heap) (tk:Nat),MyS X.prog X.w ts t1.heap.objs.size ts.length h'->(∀b o,b < t1.heap.objs.size->t1.heap.get? b=some o->h'.get? b=some o)->wpAny (model X.prog X.w) X.A (call (.builtin "len") [.ref t1.heap.objs.size]) (EP X pins σ Q) X.xe {t1 with heap:=h',toks:=tk}:=λh' tk ms fr=>by obtain⟨o,es,ep,t,ho,hex,hd,hel,hmem,hb,hf,hn⟩:=ms;have le:=zgd ts ts.length;refine call_len_set (s:={t1 with heap:=h',toks:=tk}) ho hex hd hf (by rw[hn];omega) ?_;refine⟨.int (cD ts ts.length:Nat),H1,I1.kept (t':=tk+1+1) (λb u e=>fr b u (Heap.lt_size e) e),⟨_,by rw[hn]⟩,q⟩
 rcases hq with hq | hq
 ·obtain⟨its,r,T,_⟩:=I1.list hq;have hz:ts.length=its.toArray.size:=by have:=r.length;rw[List.length_map] at this;simpa using this
  refine Px.zh2 (I1.ok.hd hc) T.isList (znt r) hz (by rw[<-hz];exact sb _ hl) λh' tk ms fr=>Calls.spliced_nil ?_;rw[<-hz] at ms;exact fin h' tk ms fr
 ·obtain⟨its,r,T,_⟩:=I1.tuple hq;have hz:ts.length=its.toArray.size:=by have:=r.length;rw[List.length_map] at this;simpa using this
  refine Px.zgT (I1.ok.hd hc) T (znt r) hz (by rw[<-hz];exact sb _ hl) λh' tk ms fr=>Calls.spliced_nil ?_;rw[<-hz] at ms;exact fin h' tk ms fr
end
end L2
namespace L2
open PySem PySem.Spec PyProof.Rows Px
section
variable {M:Model}{A:Around}{E:QC}{s:Shared}{base:Heap}{env:Env}{outer:List Env}{L e T:Addr}{cls fl:Value}{od:QM}
theorem ztd {Q:QD}(hfr:A.frames=some (env::outer))(hl:s.heap.FunFrames base (env::outer))(hf:env.frame=some L)
  (t:Tb s.heap e cls od T fl)
  (h:∀h' T',(T'=T\/s.heap.objs.size<=T')->Tb h' e cls od T' (rawInt L)->Chg2 ((env::outer).filterMap (·.frame)) (λb=>b=e\/b=T) s.heap h'->Q () {s with heap:=h'}):
  wpAny M A (noteFrame (.ref e) env) Q E s:=by
 obtain⟨oe,vs,oT,ts,he,hc,ho,hd,h1,hTe,hT,hdT,h3⟩:=t;unfold noteFrame;simp only[hf];refine Ja (wpAny_field he hd h1 ?_);rw[if_pos (show(Value.ref T !=Value.none)=true from by simp)];refine Ja (wpAny_field hT hdT h3 ?_);by_cases q:(fl==rawInt L)=true
 ·rw[if_pos q];rw[eq_of_beq q] at h3;exact wpAny_pure (h s.heap T (.inl rfl) ⟨oe,vs,oT,ts,he,hc,ho,hd,h1,hTe,hT,hdT,h3⟩ ⟨Jb _,λ_ _ q _ _=>q,λ_ o q _ _=>⟨o.slots,q⟩⟩)
 rw[if_neg q];refine Ja (wpAny_setField hT hdT (Array.getElem?_eq_some_iff.mp h3).1 ?_);have oth:∀b,b≠T->(s.heap.update T (Obj.mapFields (·.setIfInBounds 3 Value.none))).get? b=s.heap.get? b:=λb hb=>Heap.get?_update_other _ _ (Ne.symm hb);have apart:∀b o,s.heap.get? b=some o->(∀vs,o.data≠ .fields vs)->b≠T:=λb o hb hn q=>by subst q;exact hn ts (by rw[<-Option.some.inj (hT.symm.trans hb)];exact hdT)
 refine entry (s:={s with heap:=s.heap.update T (Obj.mapFields (·.setIfInBounds 3 Value.none))}) hfr
  (hl.of_keeps λb o hb hn=>⟨o,(oth b (apart b o hb hn)).trans hb,rfl⟩) hf ((oth e (Ne.symm hTe)).trans he) hd (Array.getElem?_eq_some_iff.mp h1).1 λh' T' z1 z2 z3=>?_
 have z1':s.heap.objs.size<=T':=by rw[<-Heap.size_after_update s.heap T (Obj.mapFields (·.setIfInBounds 3 Value.none))];exact z1
 rw[hc,ho] at z2;have nT':∀b o,s.heap.get? b=some o->b≠T':=λb o q1 q=>Je (Heap.lt_size q1) (Nat.not_lt.mpr (q ▸ z1'));refine h h' T' (.inr z1') z2 ⟨?_,λb o q1 q2 q3=>?_,λb o q1 q2 q3=>?_⟩
 ·rw[<-Heap.size_after_update s.heap T (Obj.mapFields (·.setIfInBounds 3 Value.none))];exact z3.size
 ·exact z3.keep b o ((oth b λy=>q3 (.inr y)).trans q1) q2 (λy=>q3 (.inl y)) (nT' b o q1)
 ·exact z3.slot b o ((oth b λy=>q3 (.inr y)).trans q1) q2 (λy=>q3 (.inl y)) (nT' b o q1)
theorem zrz {Q:QD}(hfr:A.frames=some (env::outer))(hl:s.heap.FunFrames base (env::outer))(hf:env.frame=some L)
  (t:Tb s.heap e cls od T fl)
  (h:∀h' T',(T'=T\/s.heap.objs.size<=T')->Tb h' e cls od T' .none->Chg2 ((env::outer).filterMap (·.frame)) (λb=>b=e\/b=T) s.heap h'->Q () {s with heap:=h'}):
  wpAny M A (leaving env (.ref e)) Q E s:=by
 unfold leaving;refine Ja (ztd hfr hl hf t λg T' z t1 c=>?_);refine zdS (s:={s with heap:=g}) (fs:=(env::outer).filterMap (·.frame)) t1 λh' t' c' k=>h h' T' z t' ?_;have bT:∀b o,s.heap.get? b=some o->¬(b=e\/b=T)->b≠T':=λb o q m y=>by
  rcases z with z | z
  ·exact m (.inr (y.trans z))
  ·subst y;rw[Heap.get?_none_of_le z] at q;cases q
 refine⟨Ji c.size c'.size,λb o q a m=>?_,λb o q a m=>?_⟩
 ·exact k b o (c.keep b o q a m) (bT b o q m)
 ·obtain⟨sl,y⟩:=c.slot b o q a m;exact⟨sl,k b _ y (bT b o q m)⟩
theorem zpg {α:Type}{Q:α->Shared->Prop}(t:Tb s.heap e cls od T fl)
  (h:∀h' fl',Tb h' e cls od T fl'->s.heap.objs.size<=h'.objs.size->(∀b o,s.heap.get? b=some o->b≠T->h'.get? b=some o)->E (.ref e) {s with heap:=h'}):wpAny M A (passOn what (.ref e) env:Sem α) Q E s:=by
 obtain⟨oe,vs,oT,ts,he,hc,ho,hd,h1,hTe,hT,hdT,h3⟩:=t;have z3:3 < ts.size:=(Array.getElem?_eq_some_iff.mp h3).1;unfold PySem.passOn;refine Ja (wpAny_field he hd h1 ?_);rw[if_neg (show¬(Value.ref T==Value.none)=true from by simp)];refine Ja ?_;unfold setFlight;refine Ja (wpAny_field he hd h1 ?_);rw[if_pos (show(Value.ref T !=Value.none)=true from by simp)];generalize env.frame.elim Value.none (λf=>rawInt f)=fl';have oth:∀b,b≠T->(s.heap.update T (Obj.mapFields (·.setIfInBounds 3 fl'))).get? b=s.heap.get? b:=λb hb=>Heap.get?_update_other _ _ (Ne.symm hb);have dd:=Obj.data_mapFields hdT (·.setIfInBounds 3 fl');refine wpAny_setField hT hdT z3 (wpAny_throw (h _ fl' ⟨oe,vs,_,_,(oth e (Ne.symm hTe)).trans he,hc,ho,hd,h1,hTe,Heap.get?_update_self _ hT (Obj.isFreed_of_fields dd),dd,by simp[z3]⟩ ?_ λb o q1 q4=>(oth b q4).trans q1));rw[Heap.size_after_update];exact Jb _
end
theorem Un.chgE (u:Un fs ex H H' h h')(c:Chg2 fs' own h' h2)(hfs:∀b ob,h.get? b=some ob->b∈fs'->b∈fs)
  (nw:∀b,own b->b∈ex\/h.get? b=none\/(H b≠none/\∃o',h2.get? b=some o')):Un fs ex H H' h h2:=by
 have no:∀b ob,h.get? b=some ob->H b=none->b∉ex->¬own b:=λb ob q n x z=>by
  rcases nw b z with y | y | y
  ·exact x y
  ·rw[y] at q;cases q
  ·exact y.1 n
 refine⟨λb ob q n hb hx=>c.keep b ob (u.keep b ob q n hb hx) (λz=>hb (hfs b ob q z)) (no b ob q n hx),λb ob q n hb hx=>?_,u.free,λb ob q hx=>?_,u.tups,u.frzs,u.tbls⟩
 ·obtain⟨sl,e⟩:=u.slot b ob q n hb hx;by_cases z:b∈fs'
  ·obtain⟨s2,e2⟩:=c.slot b _ e z (no b ob q n hx);exact⟨s2,e2⟩
  ·exact⟨sl,c.keep b _ e z (no b ob q n hx)⟩
 ·obtain⟨o',e⟩:=u.there b ob q hx;by_cases y:own b
  ·rcases nw b y with z | z | z
   ·exact Je z hx
   ·rw[z] at q;cases q
   ·exact z.2
  ·by_cases z:b∈fs'
   ·obtain⟨s2,e2⟩:=c.slot b _ e z y;exact⟨_,e2⟩
   ·exact⟨_,c.keep b _ e z y⟩
noncomputable def zeN (X:Cx)(E:XK):Prop:=∀(pins:QE) (σ:St) (H:Hp) (s:Shared) (ea:Addr) (cls:Value) (od:QM) (T:Addr) (fl:Value),Inv X pins σ H s->Tb s.heap ea cls od T fl->(X.s₀.heap.get? ea=none\/X.H₀ ea≠none)->X.s₀.heap.get? T=none->H ea=none->H T=none->E cls od H->X.xe (.ref ea) s
section
variable {P:Program}{w:World}{K:QA}{mg:QB}{base:Heap}{N:QP}{qual:Str}{scope:Scope}{f:Addr}{cd:Value}{A:Around}{outer:List Env}{s₀:Shared}{H₀:Hp}{E:XK}
theorem znT:zeN (cxOf (CX1 P w) P w K mg base N qual scope f cd A outer s₀ H₀ E) E:=by
 intro pins σ H s ea cls od T fl I tb old nT u1 u2 q;show wpAny (model P w) (A.deeper _) (leaving _ (.ref ea)) _ _ s;refine zrz (base:=base) I.ok.frames I.stack rfl tb λh' T' z tb' c=>?_;have te:∃o',h'.get? ea=some o':=let ⟨oe,_,_,_,y,_⟩:=tb';⟨oe,y⟩;have nT':s₀.heap.get? T'=none:=by
  rcases z with z | z
  ·rw[z];exact nT
  ·exact zaj I.base (by intro z;cases z) (Heap.get?_none_of_le z)
 refine⟨ea,cls,od,H,T',rfl,I.os,I.bare,?_,?_,tb',old,nT',u1,?_,q⟩
 ·refine I.base.chg (fs':=frs (envOfC qual scope s₀.heap.objs.size f cd::outer)) c (λb ob q1 q2=>?_) λb y=>?_
  ·have lt:=Heap.lt_size q1;rcases List.mem_cons.mp (I.stkSub b q2) with y | y
   ·exact Je lt (by rw[y];exact Nat.not_lt.mpr (Jb _))
   ·exact y
  ·rcases y with y | y
   ·subst y;rcases old with y | y
    ·exact .inl y
    ·exact .inr ⟨y,te⟩
   ·subst y;exact .inl nT
 ·refine I.hok.chg c (λb y=>?_) I.stkFree;rcases y with y | y
  ·rw[y];exact u1
  ·rw[y];exact u2
 ·rcases z with z | z
  ·rw[z];exact u2
  ·exact I.hok.fresh z
end
noncomputable def xeC (E:XK)(X:Cx)(N:QP)(scope:Scope)(cl:List (Str ×Addr))(s₀:Shared)(H₀:Hp)(ex:QO):Value->Shared->Prop:=λe s=>
 ∃(pins:QE) (σ:St) (H:Hp) (ea:Addr) (cls:Value) (od:QM) (T:Addr),e=.ref ea/\Inv (cxC X N scope cl s₀ H₀ ex) pins σ H s/\Tb s.heap ea cls od T .none/\(ea∉ex->s₀.heap.get? ea=none\/H₀ ea≠none)/\
  (T∉ex->s₀.heap.get? T=none)/\H ea=none/\H T=none/\E cls od H
noncomputable abbrev cxE (E:XK)(X:Cx)(N:QP)(scope:Scope)(cl:List (Str ×Addr))(s₀:Shared)(H₀:Hp)(ex:QO):Cx:=(cxC X N scope cl s₀ H₀ ex).wish (xeC E X N scope cl s₀ H₀ ex)
theorem ztn {X:Cx}:zbp (CX1 X.prog X.w) (cxE E X N scope cl s₀ H₀ ex) E:=by
 intro pins σ H s e s' I0 hc;obtain⟨ea,cls,od,H',T,rfl,os,bare,un,hok,tb,old,nT,u1,u2,q⟩:=hc;have I:=I0.call' os un hok bare (λb z=>nomatch z);refine⟨pins,σ,H',ea,cls,od,T,rfl,I.unwish,tb,λhx=>?_,λhx=>zaj I0.base hx nT,u1,u2,q⟩;cases q1:s₀.heap.get? ea with
 | none=>exact .inl rfl
 | some ob=>
  refine .inr λn=>?_;rcases old with y | y
  ·have y':s₀.heap.get? ea=none:=zaj I0.base hx y;rw[y'] at q1;cases q1
  ·exact y (I0.base.free ea ob q1 n hx)
noncomputable def zqG (X:Cx)(H2:Hp)(s2:Shared)(fp:QO)(E:XK)(C ea:Addr)(s':Shared):Prop:=∃(H':Hp) (cls:Value) (od:QM) (T:Addr) (fl:Value) (m:QB),s2.heap.objs.size<=C/\s'.heap.Ns C m/\H' C=none/\s'.os=s2.os/\AllBare s'.gens/\
 Un (frs X.stack) fp H2 H' s2.heap s'.heap/\HOk X.prog X.w H' s'.heap/\Tb s'.heap ea cls od T fl/\(X.s₀.heap.get? ea=none\/X.H₀ ea≠none)/\s2.heap.objs.size<=T/\H' ea=none/\H' T=none/\(∀b∈frs X.stack,H' b=none)/\E cls od H'
section
variable {X:Cx}{x:Str}{ys:QP}{js:List Nat}{scope:Scope}{cl:List (Str ×Addr)}{pins:QE}{σ:St}{H:Hp}{s:Shared}{E:XK}
theorem zoP {fp:QO}(hN:zeN X E)(I2:Inv X pins σ H2 s2)(f2:∀b∈fp,FpOk X pins H2 b)(h:zqG X H2 s2 fp E C ea s'):
  compPost (model X.prog X.w) X.A X.xe use Q acc C (.error (.ref ea)) s':=by
 obtain⟨H',cls,od,T,fl,m,hC,hn,fC,os,bare,U,hok,tb,old,hT,u1,u2,fr,q⟩:=h
 suffices g:∃m,s'.heap.Ns C m/\∀h',Heap.SameBut C s'.heap h'->∀cenv:Env,cenv.locals=C->wpAny (model X.prog X.w) X.A (passOn "comprehension.variables-let-go" (.ref ea) cenv:Sem Value) (λ_ _=>False) X.xe {s' with heap:=h'} by cases use <;> exact g
 refine⟨m,hn,λh' hb cenv _=>?_⟩;obtain⟨oC,es,ep,ho,hd,_⟩:=hn;obtain⟨oe,vs,oT,ts,he,hc,hod,hde,h1,hTe,gT,hdT,h3⟩:=tb;have nC:∀{b:Addr} {o:Obj} {vs:Array Value},s'.heap.get? b=some o->o.data=.fields vs->b≠C:=λ{b o vs} q1 q2 z=>by subst z;rw[ho] at q1;cases q1;rw[hd] at q2;cases q2
 have tb':Tb h' ea cls od T fl:=⟨oe,vs,oT,ts,hb.extBut _ _ (nC he hde) he,hc,hod,hde,h1,hTe,hb.extBut _ _ (nC gT hdT) gT,hdT,h3⟩;refine zpg (s:={s' with heap:=h'}) tb' λh4 fl' t4 z4 k4=>?_;have c:Chg2 (frs X.stack) (λb=>b=C\/b=T) s'.heap h4:=
  ⟨Ji (Nat.le_of_eq hb.1.symm) z4,λb o q _ n=>k4 b o (hb.extBut b o (λy=>n (.inl y)) q) λy=>n (.inr y),λb o q _ n=>⟨o.slots,k4 b o (hb.extBut b o (λy=>n (.inl y)) q) λy=>n (.inr y)⟩⟩
 have U':Un (frs X.stack) fp H2 H' s2.heap h4:=U.chgE c (λ_ _ _ y=>y) λb y=>.inr (.inl (by
  rcases y with y | y
  ·rw[y];exact Heap.get?_none_of_le hC
  ·rw[y];exact Heap.get?_none_of_le hT))
 have O:HOk X.prog X.w H' h4:=hok.chg c (λb y=>by
  rcases y with y | y
  ·rw[y];exact fC
  ·rw[y];exact u2) fr
 have I4:Inv X pins σ H' {s' with heap:=h4}:=I2.call' (s':={s' with heap:=h4}) os U' O bare λb hb=>⟨(f2 b hb).2.2.2.1,(f2 b hb).2.1,(f2 b hb).2.2.2.2.1,(f2 b hb).2.2.2.2.2⟩;exact hN pins σ H' _ ea cls od T fl' I4 t4 old (Heap.get?_none_of_le (Ji I2.sz hT)) u1 u2 q
theorem zoa {fp:QO}{s' s3:Shared}{R:Result->Shared->Prop}(hst:X.stack=X.env::X.outer)(hfm:X.env.frame=some X.env.locals)(hex:X.ex=[])
  (I2:Inv X pins σ H2 s2) (f2:∀b∈fp,FpOk X pins H2 b) (o3:s3.os=s2.os) (U0:Un (frs X.stack) fp H2 (upd H2 p (.lst [])) s2.heap s3.heap) (hp:s2.heap.objs.size<=p) (k3:∀b o,s2.heap.get? b=some o->s3.heap.get? b=some o) (z3:s2.heap.objs.size<=s3.heap.objs.size)
  (h:xeC E X N scope cl s3 (upd H2 p (.lst [])) fp e s') (hR:∀ea s'',zqG X H2 s2 fp E s3.heap.objs.size ea s''->R (.error (.ref ea)) s''):
  notedBy (model X.prog X.w) X.A (compEnvC scope cl s3.heap.objs.size X.env) (λe s'=>R (.error e) s') e s':=by
 obtain⟨pins',σ',H',ea,cls,od,T,rfl,J,tb,old,nT,u1,u2,q⟩:=h;have I':Inv X pins σ H' s':=zid I2 f2 U0 o3 J;show wpAny _ X.A (noteFrame (.ref ea) X.env) _ _ s';refine znu (base:=X.base) (by rw[<-hst];exact I'.ok.frames) (by rw[<-hst];exact I'.stack) hfm tb λh4 T' z t4 c=>?_;rw[show(X.env::X.outer).filterMap (·.frame)=frs X.stack from by rw[hst];rfl] at c;have U1:Un (frs X.stack) fp (upd H2 p (.lst [])) H' s3.heap s'.heap:=J.base;have U:Un (frs X.stack) fp H2 H' s2.heap s'.heap:=U0.trans U1;have sz:s2.heap.objs.size<=s'.heap.objs.size:=Ji z3 J.sz;have te:∃o',h4.get? ea=some o':=let ⟨oe,_,_,_,y,_⟩:=t4;⟨oe,y⟩;have old2:ea∈fp\/s2.heap.get? ea=none\/H2 ea≠none:=by
  by_cases hx:ea∈fp
  ·exact .inl hx
  ·refine .inr ?_;rcases old hx with y | y
   ·refine .inl ?_;cases q1:s2.heap.get? ea with
    | none=>rfl
    | some o=>rw[k3 _ _ q1] at y;cases y
   ·by_cases he:ea=p
    ·rw[he];exact .inl (Heap.get?_none_of_le hp)
    ·rw[zg he] at y;exact .inr y
 have nT2:T∈fp\/s2.heap.get? T=none:=by
  by_cases hx:T∈fp
  ·exact .inl hx
  ·refine .inr ?_;cases q1:s2.heap.get? T with
   | none=>rfl
   | some o=>have y:=nT hx;rw[k3 _ _ q1] at y;cases y
 have old0:X.s₀.heap.get? ea=none\/X.H₀ ea≠none:=by
  cases q1:X.s₀.heap.get? ea with
  | none=>exact .inl rfl
  | some ob=>
   have nx:∀{b},b∉X.ex:=by rw[hex];intro b y;cases y
   refine .inr λn=>?_;rcases old2 with y | y | y
   ·rcases(f2 ea y).2.2.2.1 with w | w
    ·exact nx w
    ·exact Je (Heap.lt_size q1) (Nat.not_lt.mpr w)
   ·rw[zaj I2.base nx y] at q1;cases q1
   ·exact y (I2.base.free ea ob q1 n nx)
 obtain⟨m,⟨oC,es,ep,ho,hd,r⟩,_⟩:=J.loc;have hC:s2.heap.objs.size<=s3.heap.objs.size:=z3;have nfr:s3.heap.objs.size∉frs X.stack:=λy=>by
  rcases List.mem_cons.mp (I2.stkSub _ y) with w | w
  ·exact Je I2.lt (Nat.not_lt.mpr (w ▸ hC))
  ·exact I2.nofs hC w
 have nE:s3.heap.objs.size≠ea:=λy=>by obtain⟨oe,vs,_,_,he,_,_,hde,_⟩:=tb;have e':=ho.symm.trans (show s'.heap.get? s3.heap.objs.size=some oe from by rw[y];exact he);cases e';rw[hd] at hde;cases hde
 have nTC:s3.heap.objs.size≠T:=λy=>by obtain⟨oe,vs,oT,ts,_,_,_,_,_,_,gT,hdT,_⟩:=tb;have e':=ho.symm.trans (show s'.heap.get? s3.heap.objs.size=some oT from by rw[y];exact gT);cases e';rw[hd] at hdT;cases hdT
 have c2:Chg2 (frs X.stack) (λb=>b=ea\/b=T) s'.heap h4:=c.two (.inl rfl) (.inl (.inr rfl));refine hR ea _ ⟨H',cls,od,T',_,m,hC,⟨oC,es,ep,c.keep _ _ ho nfr nE nTC,hd,r⟩,J.free,J.os.trans o3,J.bare,?_,?_,t4,old0,Ji sz z,u1,J.hok.fresh z,I'.stkFree,q⟩
 ·refine U.chgE c2 (λ_ _ _ y=>y) λb y=>?_;rcases y with y | y
  ·subst y;rcases old2 with w | w | w
   ·exact .inl w
   ·exact .inr (.inl w)
   ·exact .inr (.inr ⟨w,te⟩)
  ·subst y;rcases nT2 with w | w
   ·exact .inl w
   ·exact .inr (.inl w)
 ·refine J.hok.chg c2 (λb y=>?_) I'.stkFree;rcases y with y | y
  ·rw[y];exact u1
  ·rw[y];exact u2
variable {iter elt:Expr}{ifs:List Expr}{px pos:Pos}{wi:TI}{tt:TT}{te:TE}
theorem zr6 {zs:QP}{Cw:It->Addr->St->Hp->VK->Prop}(hC:∀J p σ H1 Q,Cw J p σ H1 Q->zkF zs.length g J p σ js tt te H1 Q)(hst:X.stack=X.env::X.outer)(hfm:X.env.frame=some X.env.locals)(hex:X.ex=[])(hN:zeN X E)(S:zo X x ys js scope cl)(hc:X.calm=true)(G:∀s₀ H₀ ex,PG (cxC X (zs++ys) scope cl s₀ H₀ ex) tg g)(ht:∀s₀ H₀ ex,PTs (cxC X (zs++ys) scope cl s₀ H₀ ex) ifs tt)(he:∀s₀ H₀ ex,PE (cxE E X (zs++ys) scope cl s₀ H₀ ex) elt te):CRun X tg Cw iter elt ifs scope cl pos:=
 λI2 T st2 f2 _ q _ _ hR=>zgu (W:=λs₀ H₀ ex=>xeC E X (zs++ys) scope cl s₀ H₀ ex) S hc G ht he I2 T st2 f2 (λp hp=>hC _ _ _ _ _ (q p hp)) hR λ_ _ e'=>
  zoa hst hfm hex I2 f2 (by rfl) (Un.laid (λb u e=>Heap.get?_push_of_some _ e) (Jb _) (I2.hok.fresh (Jb _))) (Jb _) (λb o q=>Heap.get?_push_of_some _ q) (by rw[Heap.size_push];exact Nat.le_succ _) e' λea s'' h=>zoP hN I2 f2 h
end
end L2
namespace L2
open PySem PySem.Spec PyProof.Rows
noncomputable def zhj (K:QA)(J:It)(p:Addr)(σ:St)(js:List Nat)(tt:TT)(te:TE)(H1:Hp)(Q:VK):Prop:=
 ∃W:Nat->Nat->List V->Hp->Prop,(∃m,W 0 m [] (upd H1 p (.lst [])))/\∀i m acc H,W i m acc H->
  (J.stop i H/\Q (.ref p) H)\/(J.go i H/\∀x H',J.yld i H x H'->∃a y z,x=.ref a/\SqT K H' a [y,z]/\tt (some y::some z::frees σ js) H' λok H2=>
   if ok=true then te (some y::some z::frees σ js) H2 λv H3=>H3 p=some (.lst acc)/\acc.length < sizeLine/\∃m',m' < m/\W (i+1) m' (acc++ [v]) (upd H3 p (.lst (acc++ [v])))
   else∃m',m' < m/\W (i+1) m' acc H2)
noncomputable def zsd (K:QA)(wi:TI)(js:List Nat)(tt:TT)(te:TE):TE:=fun σ H Q=>wi σ H λJ H1=>∀p,H1 p=none->zhj K J p σ js tt te H1 Q
theorem zhj.g {K:QA}{J:It}{p:Addr}{σ:St}{js:List Nat}{tt:TT}{te:TE}{H1:Hp}{Q:VK}(h:zhj K J p σ js tt te H1 Q):zkF 2 (gTup K 2 (zio (zaM 0) (zio (zaM 1) gNil))) J p σ js tt te H1 Q:=by
 obtain⟨W,w0,f⟩:=h;refine⟨W,w0,λi m acc H w=>?_⟩;rcases f i m acc H w with z | ⟨z,y⟩
 ·exact .inl z
 ·refine .inr ⟨z,λx H' e=>?_⟩;obtain⟨a,u,v,ex,et,r⟩:=y x H' e;refine⟨[some u,some v],rfl,fun σ0 R l q=>?_,r⟩
  match σ0,l with
  | [o1,o2],_=>exact⟨a,[u,v],ex,et,rfl,u,[v],rfl,v,[],rfl,rfl,q⟩
section
variable {X:Cx}{E:XK}{x x2:Str}{ys:QP}{js:List Nat}{scope:Scope}{cl:List (Str ×Addr)}{iter elt:Expr}{ifs:List Expr}{px px2 tpos pos:Pos}{kt:Nat}{wi:TI}{tt:TT}{te:TE}
theorem tg3 (S:zo X x ys js scope cl)(tg2:scope.names.lookup x2=some .local)(nd2:(x::x2::ys).Nodup)(hc:X.calm=true):PG (cxC X (x::x2::ys) scope cl s₀ H₀ ex) (.Tuple [.Name x px,.Name x2 px2] kt tpos) (gTup X.K 2 (zio (zaM 0) (zio (zaM 1) gNil))):=
 znn hc (zfB (zdk nd2 rfl (.inl (lookup_relabel_local S.tgt)) (.inr (lookup_relabel_local S.tgt))) (zfB (zdk nd2 rfl (.inl (lookup_relabel_local tg2)) (.inr (lookup_relabel_local tg2))) zkI))
theorem zi9 (hst:X.stack=X.env::X.outer)(hfm:X.env.frame=some X.env.locals)(hex:X.ex=[])(hN:zeN X E)(S:zo X x ys js scope cl)(tg2:scope.names.lookup x2=some .local)(nd2:(x::x2::ys).Nodup)(hc:X.calm=true)(hi:PI X (.Tuple [.Name x px,.Name x2 px2] kt tpos) iter wi)(ht:∀s₀ H₀ ex,PTs (cxC X (x::x2::ys) scope cl s₀ H₀ ex) ifs tt)(he:∀s₀ H₀ ex,PE (cxE E X (x::x2::ys) scope cl s₀ H₀ ex) elt te)
  (hs:∀x,foldedSetIterable iter X.env x=pure x:=by intro _;rfl):PE X (.ListComp elt [⟨.Tuple [.Name x px,.Name x2 px2] kt tpos,iter,ifs,0⟩] scope pos) (zsd X.K wi js tt te):=
 zf9 (zr6 (zs:=[x,x2]) (λ_ _ _ _ _ h=>zhj.g h) hst hfm hex hN S hc (λ_ _ _=>tg3 S tg2 nd2 hc) ht he) S hi hs
end
theorem za6:PE X e (λ_ _ _=>False):=λ_ _ _ _ _ _ h=>h.elim
theorem zda {J:It}{Q:VK}(h:J.stop 0 (upd H1 p (.lst [])))(q:Q (.ref p) (upd H1 p (.lst []))):zfH J p σ js tt te H1 Q:=
 ⟨λi m acc H=>i=0/\H=upd H1 p (.lst []),⟨0,rfl,rfl⟩,by rintro i m acc H ⟨rfl,rfl⟩;exact .inl ⟨h,q⟩⟩
end L2
namespace Pv
open PySem L2
inductive TV (h:Heap):Th->Value->Prop
 | non:TV h .non .none
 | int (i:Int) (t:Tok):TV h (.int i) (.int i t)
 | str (x:Str) (t:Tok):TV h (.str x) (.str x t)
 | tup {a:Addr} {o:Obj} {items:Array Value} {n:Nat} {ts:List Th} (ho:h.get? a=some o) (hc:o.cls=.type "tuple") (hd:o.data=.seq items n) (l:items.size=ts.length)
   (k:∀(i:Nat) (u:Value) (t:Th),items[i]? =some u->ts[i]? =some t->TV h t u):TV h (.tup ts) (.ref a)
noncomputable def hsh (w:World):Th->Int
 | .non=>0xFCA86420
 | .int i=>hashInt i
 | .str x=>hashStr w x
 | .tup ts=>reduceHash (Builtin.Tuple.tupleHashOf (hshL w ts))
where hshL (w:World):List Th->List Int
 | []=>[]
 | t::ts=>hsh w t::hshL w ts
section
variable {prog:Program}{w:World}{A:Around}{E:QC}{s:Shared}
end
end Pv
set_option maxHeartbeats 400000
namespace Pv
open PySem L2 PySem.Spec PyProof.Rows
open Classical in
noncomputable def isT (h:Heap)(t:Th)(u:Value):Bool:=decide (TV h t u)
section
variable {X:Cx}
end
end Pv
namespace L2
open PySem PySem.Spec PyProof.Rows
section
variable {X:Cx}{pos:Pos}
end
end L2
namespace Pv
open PySem L2 PySem.Spec PyProof.Rows
section
variable {X:Cx}
end
end Pv
set_option maxHeartbeats 4000000
namespace L2
open PySem PySem.Spec PyProof.Rows PySem.SeqAt
theorem zhh {s:Shared}{β:Type}(f:Nat->β->Sem (ForInStep β))(I:List Nat->β->Shared->Prop)(Q:β->Shared->Prop)
  (turn:∀x rest b s,I (x::rest) b s->wpAny M A (f x b) (λr s'=>match r with | .yield b'=>I rest b' s' | .done b'=>Q b' s') E s)
  (fin:∀b s,I [] b s->Q b s) (n:Nat) (b:β) (h:I (List.range' 0 n) b s):wpAny M A (forIn [:n] b f) Q E s:=by
 rw[Std.Legacy.Range.forIn_eq_forIn_range'];simp only[Std.Legacy.Range.size,Nat.sub_zero,Nat.add_sub_cancel,Nat.div_one];exact wpAny_forIn_list f I Q turn fin _ b h
theorem zfZ (l:Addr)(items:Array Value)(n:Nat)(dd:QM)(sl:QJ)(x:Value)(e:Value->Bool)(j:Nat)(hj:j < items.size)
  (hit:e items[j]=true) (hno:∀m (hm:m < items.size),m < j->e items[m]=false):
  Meets (Builtin.«tuple.index» ⟨[.ref l,x],[]⟩)
   (λA R s=>s.heap.get? l=some {cls:=.type "tuple",dict:=dd,data:=.seq items n,slots:=sl}/\(∀y,y∈items->EqAt A.in1 s y x (e y))/\R (.ok (.ret (.int j s.toks))) {s with toks:=s.toks+1}):=
 .of_wp λprog w A R s h=>by
  obtain⟨hp,g,d,tk,os⟩:=s;obtain⟨hl,he,h⟩:=h
  wp_walk using wpAny_loadPart' hl,zhh _ (λrest b s'=>b.1=none/\s'=⟨hp,g,d,tk,os⟩/\∃i,i<=j/\rest=List.range' i (items.size - i)) _
  case turn=>
   rintro y rest b s' ⟨hb,rfl,i,hi,hr⟩;have e1:items.size - i=(items.size - (i+1))+1:=by omega
   rw[e1,List.range'_succ] at hr;injection hr with h1 h2
   subst h1;have lt:y < items.size:=by omega
   rw[Array.getElem?_eq_getElem lt];dsimp only;refine Ja (he _ (Array.getElem_mem lt) prog w _ _ ?_);by_cases hy:y=j
   ·subst hy;rw[hit]
    wp_walk
    exact⟨_,rfl,h⟩
   ·rw[hno y lt (by omega)]
    wp_walk
    exact⟨rfl,rfl,y+1,by omega,h2⟩
  case fin=>
   rintro⟨b1,b2⟩ s' ⟨hb,rfl,i,hi,hr⟩;have e1:items.size - i=(items.size - (i+1))+1:=by omega
   rw[e1,List.range'_succ] at hr;cases hr
  case h=>refine⟨rfl,rfl,0,Nat.zero_le _,?_⟩;rw[Nat.min_self];rfl
section
variable {X:Cx}
theorem zlR:MtR X "tuple.index" (λx vs H Q=>∃(l:Addr) (xs:QQ) (z:V) (j:Nat),x=.ref l/\vs=[z]/\SqT X.K H l xs/\za4 z=true/\xs.all za4=true/\(∃y,xs[j]? =some y/\eqV y z=true)/\(∀m y,m < j->xs[m]? =some y->eqV y z=false)/\Q (.int (j:Nat)) H):=by
 intro pins s σ H x vs v us Q I rx rv h;obtain⟨l,xs,z,j,rfl,rfl,hq,fz,fs,⟨y,hy,ey⟩,hno,q⟩:=h;cases rx;obtain⟨u,rfl,ru⟩:=rv.one;obtain⟨its,r,pl,hz⟩:=I.tuple hq;obtain⟨⟨cls,dd,data,sl⟩,ho,hc,n,hd⟩:=pl;simp only at hc hd;subst hc hd;have fall:∀y∈xs,za4 y=true:=Jk.mp fs;have lj:j < its.toArray.size:=by show j < its.length;rw[<-r.length];exact(List.getElem?_eq_some_iff.mp hy).1
 have at':∀(m:Nat) (hm:m < its.toArray.size),∃y,xs[m]? =some y/\eqU z its.toArray[m]=eqV y z:=λm hm=>by
  have hm':m < xs.length:=by rw[r.length];exact hm
  refine⟨xs[m],List.getElem?_eq_getElem hm',?_⟩;obtain⟨u',h1,h2⟩:=r.get (List.getElem?_eq_getElem hm');have e:its.toArray[m]=u':=Option.some.inj ((List.getElem?_eq_getElem (show m < its.length from hm)).symm.trans h1);rw[e];exact zjH h2 (fall _ (Jj hm'))
 refine call_meets PySem.F.slot_tuple_index ⟨_,ho,rfl⟩ PySem.F.entry_tuple_index (PySem.F.args_tuple_index_2 _ _)
  (zfZ l its.toArray n dd sl u (eqU z) j lj ?_ ?_) ⟨ho,λy hy=>zdx ru fz r fs y (by simpa using hy),⟨.int _,H,I.tok _,⟨_,rfl⟩,q⟩⟩
 ·obtain⟨y',h1,h2⟩:=at' j lj;rw[hy] at h1;cases h1;rw[h2];exact ey
 ·intro m hm lt;obtain⟨y',h1,h2⟩:=at' m hm;rw[h2];exact hno m y' lt h1
noncomputable def tBMT (r:V->List V->Hp->VK->Prop)(to:TE)(t:TA):TE:=fun σ H Q=>to σ H λx H1=>(∃p xs,x=.ref p/\H1 p=some (.tup xs))/\t σ H1 λxs H2=>r x xs H2 Q
variable {o e:Expr}{es:List Expr}{to:TE}{t:TA}{name:Str}{apos cpos:Pos}{id:String}{r:V->List V->Hp->VK->Prop}
theorem zsl (slot:Slot "tuple" name id) (hty:typeOf (.builtin id)=pure (.type "method_descriptor")) (hm:MtR X id r) (ho:PE X o to) (ha:PA X (e::es) t)
  (hbase:attributeBase o name X.env (eval o X.env)=eval o X.env:=by rfl)
  (hfew:((backTo cpos (starEach (e::es) X.env)).all (λx=>!x.1) && (backToKw cpos (keywordEach [] X.env)).all (λx=>x.1.isSome)
   && decide ((e::es).length+([]:List Keyword).length+(if ([]:List Keyword).isEmpty then 0 else 1) < 30))=true:=by rfl)
  (hline:(apos.endLine==cpos.line)=true:=by rfl) (hs:starEach (e::es) X.env=(false,eval e X.env)::starEach es X.env:=by rfl) (hplain:(backTo cpos (starEach es X.env)).any (·.1)=false:=by rfl):
  PE X (.Call (.Attribute o name apos) (e::es) [] cpos) (tBMT r to t):=by
 intro pins s σ H Q I h;refine wpAny_Call_method_late hbase hfew hline rfl (thn (ho pins s σ H _ I h) λv s1 ⟨x,H1,I1,r1,ty,q1⟩=>?_);obtain⟨p,xs,rfl,hp⟩:=ty;cases r1;obtain⟨⟨_,ob,e1,d1⟩,its,_,T⟩:=I1.hok p _ hp;refine⟨"tuple",id,PySem.F.plainAttrs_tuple,slot,hty,T.typeIs,λa e=>by cases e;exact⟨ob,e1,d1⟩,?_⟩;have hA:=ha cpos pins s1 σ H1 _ I1 q1;rw[hs] at hA ⊢;refine Calls.callWith_builtin (by show(false || (backTo cpos (starEach es X.env)).any (·.1))=false;rw[hplain] <;> rfl) (Calls.evalArgs_plain ?_);exact thn hA λus s2 ⟨vs,H2,I2,r2,q2⟩=>hm pins s2 σ H2 (.ref p) vs (.ref p) us Q I2 rfl r2 q2
noncomputable def iSeq (K:QA)(tl:TE):TI:=fun σ H R=>tl σ H λx H1=>∃a,x=.ref a/\(((∃xs,SqL K H1 a xs)/\R (Itl K a) H1)\/((∃xs,SqT K H1 a xs)/\R (Itt K a) H1))
theorem znB (hl:PE X l tl):PI X tg l (iSeq X.K tl):=by
 intro pins s σ H R I h;refine thn (hl pins s σ H _ I h) λv s1 ⟨x,H1,I1,r1,q1⟩=>?_;obtain⟨a,e,⟨⟨xs,hq⟩,q⟩ | ⟨⟨xs,hq⟩,q⟩⟩:=q1
 ·subst e;cases r1;obtain⟨its,rv,p,hz⟩:=I1.list hq;refine wpAny_pyIter_list p.isList ?_;refine⟨s1.heap.objs.size,[s1.heap.objs.size],_,_,H1,rfl,I1.kept (t':=s1.toks) λb o e=>Heap.get?_push_of_some _ e,zgx a _,⟨_,Heap.get?_push_size _ rfl,rfl,rfl⟩,λb hb=>?_,q⟩;have e:b=s1.heap.objs.size:=by simpa using hb
  subst e;exact I1.fpOk (Jb _) (I1.hok.fresh (Jb _))
 ·subst e;cases r1;obtain⟨its,rv,p,hz⟩:=I1.tuple hq;refine wpAny_pyIter_tuple (show s1.heap.IsTuple a its.toArray from p) ?_;refine⟨s1.heap.objs.size,[s1.heap.objs.size],_,_,H1,rfl,I1.kept (t':=s1.toks) λb o e=>Heap.get?_push_of_some _ e,zfq a _,⟨_,Heap.get?_push_size _ rfl,rfl,rfl⟩,λb hb=>?_,q⟩;have e:b=s1.heap.objs.size:=by simpa using hb
  subst e;exact I1.fpOk (Jb _) (I1.hok.fresh (Jb _))
end
end L2
namespace L2
open PySem PySem.Spec PyProof.Rows
section
variable {prog:Program}{w:World}{A:Around}{E:QC}{s:Shared}
theorem out1 (v:Value):((arrOf (SortSt.mk' general' ((#[v]:Array Value).zip #[v]) #[] 7 none)).map (·.2)).toList=[v]:=by
 show(((#[v]:Array Value).zip #[v]).map (·.2)).toList=[v];rw[Array.toList_map,Array.toList_zip]
 rfl
theorem zjf {v:Value}{P:Fin->Shared->Prop}(ho:s.heap.get? a=some (seqObj "list" [v].toArray n))
  (h:∀out:Array Value,out.toList=[v]->P (.done (.ret .none)) {s with heap:=sortedHeap s.heap a [v] out}):
  wpAny (model prog w) A (Builtin.«list.sort» ⟨[.ref a],[]⟩) P E s:=by
 rw[list_sort_plain];have ha:a < s.heap.objs.size:=Heap.lt_size ho;refine Ja (listItems_at ho rfl ?_);refine Ja (listUpdate_at ho rfl ?_ (hsz:=by show 1<=sizeLine;rw[sizeLine_eq];decide));obtain⟨e1,ho1⟩:∃e1,(s.heap.update a (Obj.mapSeq λ_=> #[])).get? a=some (seqObj "list" #[] e1):=⟨_,get?_update_seq ho (λ_=> #[])⟩;refine Ja (seqEpoch_at ho1 rfl ?_);refine Ja (wpAny_newTuple ?_ (by show 1<=sizeLine;rw[sizeLine_eq];decide));refine Ja (wpAny_newList ?_);refine wpAny_holding ?_;have ho6:(((s.heap.update a (Obj.mapSeq λ_=> #[])).push (seqObj "tuple" [v].toArray 0)).push (seqObj "list" #[] 0)).get? a=some (seqObj "list" #[] e1):=Heap.get?_push_of_some _ (Heap.get?_push_of_some _ ho1);show wpAny (model prog w) A _ P E {s with heap:=((s.heap.update a (Obj.mapSeq λ_=> #[])).push (seqObj "tuple" [v].toArray 0)).push (seqObj "list" #[] 0)};dsimp only;have hn2: #[v].size < 2:=show 1 < 2 by decide
 rw[if_pos hn2,if_pos hn2];refine Ja (wpAny_pure ?_);rw[StateT.run_pure];refine Ja (wpAny_pure ?_);dsimp only;refine Ja (seqEpoch_at ho6 rfl ?_);refine Ja (listUpdate_at ho6 rfl ?_ (hsz2:=by rw[<-Array.length_toList,out1];show 1<=sizeLine+1;omega));simp only[bne_self_eq_false,Bool.false_eq_true,if_false];exact wpAny_pure (h _ (out1 v))
end
section
variable {X:Cx}
theorem zgR:zab X (.builtin "sorted") (λxs H Q=>∃(l:Addr) (x:V),xs=[.ref l]/\H l=some (.lst [x])/\∀r,H r=none->Q (.ref r) (upd H r (.lst [x]))):=by
 intro pins s σ H xs us Q I r h;obtain⟨l,x,rfl,hl,q⟩:=h;obtain⟨u,rfl,ru⟩:=vals1 r;cases (show u=Value.ref l from ru);obtain⟨its,rv,pl,hz⟩:=I.list (SqL.of hl);cases rv with
 | @cons _ b0 _ _ rb0 rv=>
 cases rv with
 | nil=>
 refine Calls.call_function_entry kind_sorted plain_sorted entry_sorted (args_sorted1 _) ?_;unfold Builtin.«sorted»;refine Ja (m:=checkCount "sorted" 1 1 _) (wpAny_pure ?_);refine Ja (collect_list pl.isList ?_ (by show 1<=_;rw[sizeLine_eq];decide));refine Ja (wpAny_newList ?_ (by show 1<=_;rw[sizeLine_eq];decide));have hsz:((s.heap.push (seqObj "list" #[] 0)).update s.heap.objs.size (Obj.mapSeq (· ++ [b0].toArray))).objs.size=s.heap.objs.size+1:=by rw[Heap.size_update,size_push']
 have hk:∀b o,s.heap.get? b=some o->((s.heap.push (seqObj "list" #[] 0)).update s.heap.objs.size (Obj.mapSeq (· ++ [b0].toArray))).get? b=some o:=λb o q=>by have hlt:b < s.heap.objs.size:=Heap.lt_size q;rw[Heap.get?_update_ne _ _ _ _ (Jg hlt),Heap.get?_push_ne _ _ _ (Jg hlt)];exact q
 generalize((s.heap.push (seqObj "list" #[] 0)).update s.heap.objs.size (Obj.mapSeq (· ++ [b0].toArray)))=h' at hsz hk;have hoL:(h'.push (seqObj "list" [b0].toArray 0)).get? h'.objs.size=some (seqObj "list" [b0].toArray 0):=Heap.get?_push_size _ rfl;refine Ja (wpAny_holding (wpAny_call_entry slot_list_sort ⟨_,hoL,rfl⟩ entry_list_sort (zjf hoL λout ho=>⟨_,rfl,?_⟩) (args_list_sort _)));refine wpAny_pure ⟨_,rfl,?_⟩;have sz:s.heap.objs.size<=h'.objs.size:=by omega
 have kk:∀b u,s.heap.get? b=some u->(sortedHeap (h'.push (seqObj "list" [b0].toArray 0)) h'.objs.size [b0] out).get? b=some u:=λb u e=>by have e1:=hk b u e;have lt:=Heap.lt_size e1;rw[sortedHeap_old (Jg lt) (by rw[size_push'];exact Jr lt)];exact Heap.get?_push_of_some _ e1
 obtain⟨e,he⟩:=sortedHeap_at (out:=out) hoL;have hn:H h'.objs.size=none:=I.hok.fresh sz;refine⟨.ref h'.objs.size,_,I.laid (o:=.lst [x]) kk sz ⟨by show 1<=_;rw[sizeLine_eq];decide,out.toList,e,by rw[ho];exact .cons rb0 .nil,he⟩,rfl,q _ hn⟩
end
end L2
namespace L2
open PySem PySem.Spec PyProof.Rows
theorem zld (hk:zfA k v=true):RelV (kV k) v:=by
 cases k with
 | inl n=>exact Value.isInt_shape (k:=n) (v:=v) hk
 | inr x=>exact Value.isStrOf_shape (x:=x) (v:=v) hk
noncomputable def Itk (d:Addr)(o:Obj)(kvs:QG):It:=⟨λi H=>H d=some (.frz o (.dK kvs))/\i < kvs.length,λi H x H'=>H'=H/\∃p,kvs[i]? =some p/\x=kV p.1,λi H=>H d=some (.frz o (.dK kvs))/\kvs.length<=i⟩
theorem zoU {P:Program}{w:World}{K:QA}{tg:Expr}{d it:Addr}{o:Obj}{kvs:QG}{vs:List (Key ×Value)}{ep:Nat}(rel:KV kvs vs)(at':∀h:Heap,h.get? d=some o->h.DictAt (z7 P w) d vs ep):
  Turn P w K tg (Itk d o kvs) [it] it (λi h=>h.IsKeyIter it d i vs.length ep) where
 mem:=by simp
 obj:=λi h st b hb=>by
  have e:b=it:=by simpa using hb
  subst e;obtain⟨o,e,c,dd⟩:=st;exact⟨o,e,λv z=>by rw[dd] at z;cases z⟩
 keep:=λi h h' st k=>st.at λo e=>k it (by simp) o e
 item:=by
  intro X hP hw hK hc i pins s σ H E I hf st hg;subst hP hw hK;obtain⟨hd,hi⟩:=hg;obtain⟨eo,_⟩:=I.hok d _ hd;have hl:=rel.at.1;have hiv:i < vs.length:=by omega
  obtain⟨f0,f1,f2,f3,f4,f5⟩:=hf it (by simp);refine wpAny_pyNext_dict_item st (at' _ eo) (k:=vs[i].1) (v:=vs[i].2) (List.getElem?_eq_getElem hiv) λkey h' hk st' sb=>?_;have I1:Inv X pins σ H {s with heap:=h'}:=I.turned (t':=s.toks) (λb ob hb e=>(sb.2 b hb).trans e) f0 f1 f3 f4 f5;obtain⟨ob,e,c,dd⟩:=id st';have ek:(kvs.map (·.1))[i]? =some vs[i].1:=by rw[rel.at.2,List.getElem?_map,List.getElem?_eq_getElem hiv];rfl
  rw[List.getElem?_map,List.getElem?_eq_getElem hi] at ek;have ek:kvs[i].1=vs[i].1:=Option.some.inj ek;have rk:RelV (kV kvs[i].1) key:=by rw[ek];exact zld hk
  exact⟨_,rfl,zfN (s:={s with heap:=h'}) e c dd (by decide) ⟨_,H,I1,rk,⟨rfl,_,List.getElem?_eq_getElem hi,rfl⟩,st',λb hb=>(hf b hb).1⟩⟩
 done:=by intro X hP hw hK hc i pins s σ H E I hf st hg;subst hP hw hK;obtain⟨hd,hi⟩:=hg;obtain⟨eo,_⟩:=I.hok d _ hd;have hl:=rel.at.1;obtain⟨f0,f1,f2,f3,f4,f5⟩:=hf it (by simp);exact wpAny_pyNext_dict_end (I.ok.hd hc) st (at' _ eo) (List.getElem?_eq_none (by omega)) λh' eb=>⟨rfl,I.turned (t':=s.toks) (λb ob hb e=>eb b ob hb e) f0 f1 f3 f4 f5⟩
 self:=λ_ _ _ _ _ st h=>wpAny_pyIter_keyiter st h
section
variable {X:Cx}{tg:Expr}
noncomputable def iKk (tl:TE):TI:=fun σ H R=>tl σ H λx H1=>∃d kvs,x=.ref d/\H1 d=some (.dK kvs)/\∀o,R (Itk d o kvs) (upd H1 d (.frz o (.dK kvs)))
theorem zqO (hl:PE X l tl):PI X tg l (iKk tl):=by
 intro pins s σ H R I h;refine thn (hl pins s σ H _ I h) λv s1 ⟨x,H1,I1,r1,q1⟩=>?_;obtain⟨d,kvs,e,ed,q⟩:=q1;subst e;cases r1;obtain⟨hz,lo,vs,rel,hD⟩:=I1.hok d _ ed;obtain⟨ep,hat⟩:=hD.dictAt;obtain⟨o,es,eo,r⟩:=id hat;refine wpAny_pyIter_dict lo hat ?_;have I2:=I1.freeze ed eo;have I3:=I2.kept (h':=s1.heap.push {cls:=.type "dict_keyiterator",data:=.fields #[.ref d,.int 0 0,.int vs.length 0,.int ep 0]}) (t':=s1.toks) λb ob e=>Heap.get?_push_of_some _ e;refine⟨s1.heap.objs.size,[s1.heap.objs.size],_,_,_,rfl,I3,zoU rel (λh e=>⟨o,es,e,r⟩),⟨_,Heap.get?_push_size _ rfl,rfl,rfl⟩,λb hb=>?_,q o⟩;have e:b=s1.heap.objs.size:=by simpa using hb
 subst e;exact I1.fpOk (Jb _) (by rw[zg (Jy (I1.hok.lt ed))];exact I1.hok.fresh (Jb _))
theorem zmu {d:Addr}{o:Obj}{kvs:QG}{g:TG}{tb:TS}{D:Ends}{σ:St}{H:Hp}(Pv:Nat->St->Hp->Prop)(h0:Pv 0 σ H)(hl:∀i σ H,Pv i σ H->H d=some (.frz o (.dK kvs)))
  (hs:∀i p σ H,kvs[i]? =some p->Pv i σ H->g (kV p.1) σ H fun σ2 H2=>tb {D with nx:=Pv (i+1),ct:=Pv (i+1),bk:=D.nx} σ2 H2) (hd:∀σ H,Pv kvs.length σ H->D.nx σ H):
  ∃W:Nat->Nat->St->Hp->Prop,(∃m,W 0 m σ H)/\∀i m σ H,W i m σ H->
   ((Itk d o kvs).stop i H/\D.nx σ H)\/((Itk d o kvs).go i H/\∃N:St->Hp->Prop,(∀σ' H',N σ' H'->∃m',m' < m/\W (i+1) m' σ' H')/\∀x H',(Itk d o kvs).yld i H x H'->g x σ H' fun σ2 H2=>tb {D with nx:=N,ct:=N,bk:=D.nx} σ2 H2):=by
 refine⟨λi m σ H=>m=kvs.length - i/\i<=kvs.length/\Pv i σ H,⟨_,rfl,Nat.zero_le _,h0⟩,?_⟩;rintro i m σ H ⟨rfl,hi,p⟩;have q:=hl i σ H p;by_cases hlt:i < kvs.length
 ·refine .inr ⟨⟨q,hlt⟩,Pv (i+1),fun σ' H' p'=>⟨kvs.length - (i+1),by omega,rfl,hlt,p'⟩,λx H' y=>?_⟩;obtain⟨e,n,en,ex⟩:=y;subst e;subst ex;exact hs i n σ _ en p
 ·have e:i=kvs.length:=by omega
  subst e;exact .inl ⟨⟨q,Jb _⟩,hd σ H p⟩
end
end L2
namespace L2
open PySem PySem.Spec PyProof.Rows
theorem zd9:∀{us:QN} {ns:QP},us.length=ns.length->(∀(j:Nat) (v:Value) (n:Str),us[j]? =some v->ns[j]? =some n->∃t,v=.str n t)->StrsAre us ns
 | [],[],_,_=>.nil
 | v::us,n::ns,hl,h=>by obtain⟨t,e⟩:=h 0 v n rfl rfl;subst e;exact .cons n t (zd9 (by simpa using hl) λj v n e e'=>h (j+1) v n e e')
 | [],_::_,hl,_=>by simp at hl
 | _::_,[],hl,_=>by simp at hl
theorem zfG:∀{us:QN} {ns:QP},StrsAre us ns->Vals (ns.map V.str) us
 | _,_,.nil=>.nil
 | _,_,.cons x t r=>.cons ⟨t,rfl⟩ (zfG r)
theorem zjM (h:sortedS l=true):l.Pairwise λa b=>¬b.cps.toList < a.cps.toList:=by
 cases l with
 | nil=>exact .nil
 | cons p r=>
  have:∀(r:QP) (p:Str),risingS p r=true->(p::r).Pairwise λa b=>a.cps.toList<=b.cps.toList:=by
   intro r
   induction r with
   | nil=>intro p _;exact List.pairwise_singleton _ _
   | cons x r ih=>
    intro p h;have h:(!ltCps x.cps.toList p.cps.toList && risingS x r)=true:=h;rw[Bool.and_eq_true,ltCps_eq] at h;have hp:p.cps.toList<=x.cps.toList:=λz=>by rw[decide_eq_true z] at h;cases h.1
    have hr:=ih x h.2;refine List.pairwise_cons.mpr ⟨λy hy=>?_,hr⟩;rcases List.mem_cons.mp hy with rfl | hy
    ·exact hp
    ·exact List.le_trans hp ((List.pairwise_cons.mp hr).1 y hy)
  exact this r p h
theorem znF {a b:QP}(p:a.Perm b)(h1:a.Pairwise λa b=>¬b.cps.toList < a.cps.toList)(h2:b.Pairwise λa b=>¬b.cps.toList < a.cps.toList):a=b:=
 p.eq_of_pairwise (le:=λa b:Str=>¬b.cps.toList < a.cps.toList) (λx y _ _ u v=>by
  have e:x.cps.toList=y.cps.toList:=List.le_antisymm u v;cases x;cases y;exact congrArg Str.mk (Array.toList_inj.mp e)) h1 h2
section
variable {X:Cx}
theorem zbO (hc:X.calm=true):zab X (.builtin "sorted") (λxs H Q=>∃(d:Addr) (kvs:QG) (ss:QP),xs=[.ref d]/\H d=some (.dK kvs)/\kvs.map (·.1)=ss.map Sum.inr/\ss.length < 64/\
  ∀(l:Addr) (ns:QP),H l=none->ns.Perm ss->ns.Pairwise (λa b=>¬b.cps.toList < a.cps.toList)->Q (.ref l) (upd H l (.lst (ns.map V.str)))):=by
 intro pins s σ H xs us Q I r h;obtain⟨d,kvs,ss,rfl,hd,hi,h64,q⟩:=h;obtain⟨u,rfl,ru⟩:=vals1 r;cases (show u=Value.ref d from ru);obtain⟨hz,lo,vs,rel,hD⟩:=I.hok d _ hd;obtain⟨ep,hat⟩:=hD.dictAt;have hl:=rel.at.1;have hkl:kvs.length=ss.length:=by have:=congrArg List.length hi;simpa using this
 refine Calls.call_function_entry kind_sorted plain_sorted entry_sorted (args_sorted1 _) ?_;unfold Builtin.«sorted»;refine Ja (m:=checkCount "sorted" 1 1 _) (wpAny_pure ?_);refine Ja (gathered (A:=X.A.in1) (PySem.W.kdl_dict (knd:=z7 X.prog X.w) (kvs:=vs) (ep:=ep) lo) (show X.A.in1.handled=none from I.ok.hd hc) hat (by rw[<-hl];exact hz) λh' tk acc hk hlt hacc=>?_);have la:acc.toList.length=vs.length:=by rw[Array.length_toList];exact hacc.1
 refine Ja (wpAny_newList ?_ (by rw[la,<-hl];exact hz));have hS:StrsAre acc.toList ss:=zd9 (by omega) λj v n e en=>by
  obtain⟨k,x,e1,e2⟩:=hacc.2 j v (by rw[<-Array.getElem?_toList];exact e);have h1:(vs.map (·.1))[j]? =some k:=by rw[List.getElem?_map,e1];rfl
  rw[<-rel.at.2,hi,List.getElem?_map,en] at h1;have h2:k=Sum.inr n:=(Option.some.inj h1).symm;subst h2;obtain⟨t,e'⟩:=Value.isStrOf_shape (x:=n) (v:=v) e2;exact⟨t,e'⟩
 have hoL:(h'.push (seqObj "list" acc.toList.toArray 0)).get? h'.objs.size=some (seqObj "list" acc.toList.toArray 0):=Heap.get?_push_size _ rfl;refine Ja (wpAny_holding (wpAny_call_entry slot_list_sort ⟨_,hoL,rfl⟩ entry_list_sort (list_sort_treeK strKind_oneLt hoL hS.keysOf (λv₁ v₂ rest e=>keyKind_strs (by rw[<-e];exact hS)) (by omega) λst' hp hs=>⟨_,rfl,?_⟩) (args_list_sort _)));obtain⟨ns',a1,a2,a3⟩:=sorted_out_str hS hp hs;refine wpAny_pure ⟨_,rfl,?_⟩;have sz:s.heap.objs.size<=h'.objs.size:=Nat.le_of_lt hlt;generalize(arrOf st').map (·.2)=out at a1;have kk:∀b u,s.heap.get? b=some u->(sortedHeap (h'.push (seqObj "list" acc.toList.toArray 0)) h'.objs.size acc.toList out).get? b=some u:=λb u e=>by have e1:=hk b u e;have lt:=Heap.lt_size e1;rw[sortedHeap_old (Jg lt) (by rw[size_push'];exact Jr lt)];exact Heap.get?_push_of_some _ e1
 obtain⟨e,he⟩:=sortedHeap_at (out:=out) hoL;have hn:H h'.objs.size=none:=I.hok.fresh sz;refine⟨.ref h'.objs.size,_,I.laid (o:=.lst (ns'.map V.str)) kk sz ⟨?_,out.toList,e,zfG a1,he⟩,rfl,q _ ns' hn a2 (zjM a3)⟩;rw[List.length_map,a2.length_eq,<-hkl];exact hz
end
end L2
set_option hygiene false
local macro_rules | `(tactic| infer_instance)=> `(tactic| first | assumption | rfl | exact Or.inl rfl | exact Or.inr rfl | exact Or.inr (Or.inl rfl) | exact Or.inr (Or.inr rfl) | exact zeF | exact ztn | exact zny | exact PassesOwn.leaving | exact PassesOwn.never | exact zco | exact λ_=>rfl | exact λ_ _=>rfl | exact zfd (by assumption) | omega | decide)
local macro_rules | `(tactic| ac_rfl)=> `(tactic| first
 | (show PE _ _ _;first | (show PE _ (.Name _ _) _;first | apply pv 0 | apply pv 1 | apply pv 2 | apply pv 3 | apply pv 4 | apply pv 5 | apply pv 6 | apply pv 7 | apply pv 8 | apply pv 9 | apply pv 10 | apply pv 11 | apply pv 12 | apply pv 13 | apply pv 14 | (apply zsU <;> ac_rfl) | (apply bltT <;> ac_rfl) | (apply ztz <;> ac_rfl)) | (show PE _ (.Constant _ _ _) _;first | apply zbm | apply zcW | apply zmI | apply zs4) | (show PE _ (.Call (.Name _ _) _ _ _) _;first | (apply zj6;assumption) <;> ac_rfl | (apply zhd;assumption) <;> ac_rfl | (apply zrP;assumption) <;> ac_rfl | (first | (apply zD;case hv=>rfl) | (apply zcw;case hv=>rfl)) <;> ac_rfl | (apply zsX <;> ac_rfl) | (apply zpE <;> ac_rfl) | (apply ztA <;> ac_rfl)) | (show PE _ (.Call _ _ _ _) _;first | ((first | apply zth | apply pe_mt0);case M=>assumption) <;> ac_rfl | (apply zqF PySem.F.plainAttrs_list PySem.F.slot_list_append PySem.F.type_list_append zgv <;> ac_rfl) | (apply zqF PySem.F.plainAttrs_list PySem.F.slot_list_extend PySem.F.type_list_extend zlH <;> ac_rfl) | (apply zrZ PySem.F.plainAttrs_list PySem.F.slot_list_pop PySem.F.type_list_pop zrg <;> ac_rfl)) | (show PE _ (.Subscript _ _ _) _;first | (apply zeZ <;> ac_rfl) | (apply pe_slice3 <;> ac_rfl) | (show PE _ (.Subscript (.Attribute _ _ _) _ _) _;apply zc1 <;> ac_rfl) | (apply zbA <;> ac_rfl)) | (show PE _ (.Compare _ _ _ _) _;first | (show PE _ (.Compare _ _ [.Constant _ _ _] _) _;apply zaf <;> ac_rfl) | ((have:=θ;first | apply zaf (zeB (by assumption)) | apply zaf (zdf (by assumption))) <;> ac_rfl) | ((apply pe_cmp;first | apply znp | apply zgG) <;> ac_rfl) | (apply zaf <;> ac_rfl) | (apply zm0 <;> ac_rfl)) | (apply zn1 <;> ac_rfl) | (apply zjp <;> ac_rfl) | (apply zdu <;> ac_rfl) | (apply zrU <;> ac_rfl) | (apply zfC <;> ac_rfl) | (apply zts <;> ac_rfl) | (apply znZ <;> ac_rfl) | (apply zcd <;> ac_rfl) | (apply za1 <;> ac_rfl) | (apply zte <;> ac_rfl) | apply zmx)
 | (show PA _ _ _;first | apply zam | (apply zA <;> ac_rfl))
 | (show PS _ _ _;first | (show PS _ (.Assign _ _ _) _;first | (apply setA 0;rfl) <;> ac_rfl | (apply setA 1;rfl) <;> ac_rfl | (apply setA 2;rfl) <;> ac_rfl | (apply setA 3;rfl) <;> ac_rfl | (apply setA 4;rfl) <;> ac_rfl | (apply setA 5;rfl) <;> ac_rfl | (apply setA 6;rfl) <;> ac_rfl | (apply setA 7;rfl) <;> ac_rfl | (apply setA 8;rfl) <;> ac_rfl | (apply setA 9;rfl) <;> ac_rfl | (apply setA 10;rfl) <;> ac_rfl | (apply setA 11;rfl) <;> ac_rfl | (apply setA 12;rfl) <;> ac_rfl | (apply setA 13;rfl) <;> ac_rfl | (apply setA 14;rfl) <;> ac_rfl | (show PS _ (.Assign [.Subscript (.Attribute _ _ _) _ _] _ _) _;apply zhc <;> ac_rfl) | (apply zry <;> ac_rfl) | (apply zrW <;> ac_rfl)) | (apply zad <;> ac_rfl) | (apply zpf <;> ac_rfl) | (apply zaA <;> ac_rfl) | (apply zaC <;> ac_rfl) | (apply zmz <;> ac_rfl) | (apply zch <;> ac_rfl))
 | (show PSs _ _ _;first | apply zM | (apply zx <;> ac_rfl) | (apply zf <;> ac_rfl))
 | (show PT _ _ _;first | (show PT _ (.Compare _ _ _ _) _;first | (show PT _ (.Compare _ _ [.Constant _ _ _] _) _;apply zaH <;> ac_rfl) | ((have:=θ;first | apply zaH (zeB (by assumption)) | apply zaH (zdf (by assumption))) <;> ac_rfl) | ((apply zrs;first | apply znp | apply zgG) <;> ac_rfl) | (apply zaH <;> ac_rfl) | (apply zdr <;> ac_rfl)) | (apply zfy <;> ac_rfl) | ((apply PW.pt;first | apply zfs | apply zkw) <;> ac_rfl) | (apply zhx <;> ac_rfl))
 | (show PW _ _ _;first | (apply zeS <;> ac_rfl) | (apply zi6 <;> ac_rfl) | (apply zfs <;> ac_rfl) | (apply zkw <;> ac_rfl))
 | (show OpR _ _ _;first | assumption | apply zrX | apply zr1 | apply zmp | apply zn9 | apply zqH | apply zkU | apply ztq | apply zty | apply zsi | apply zpd | apply zrG | apply zm1 | apply zrh | apply zsg)
 | (show PI _ _ _ _;first | (apply zlG <;> ac_rfl) | (apply zf8 <;> ac_rfl) | (apply zrt <;> ac_rfl) | (apply zpq <;> ac_rfl) | (apply zrj <;> ac_rfl) | (apply zo1 <;> ac_rfl))
 | (show PG _ _ _;first | apply nameA 0 | apply nameA 1 | apply nameA 2 | apply nameA 3 | apply nameA 4 | apply nameA 5 | apply nameA 6 | apply nameA 7 | apply nameA 8 | apply nameA 9 | apply nameA 10 | apply nameA 11 | apply nameA 12 | apply nameA 13 | apply nameA 14 | (apply znn <;> ac_rfl) | (apply zrD <;> ac_rfl))
 | (show PGs _ _ _;first | apply zkI | (apply zfB <;> ac_rfl))
 | (show zab _ _ _;first | apply za0 | apply z6 | apply zmS | apply znN | apply zgA | apply zbq | apply zlT rfl)
 | (show PO _ _ _;first | apply zkl | (apply zeQ <;> ac_rfl))
 | (show _=_;first | rfl | assumption | exact zat _)
 | (show IxR _ _;first | (have:=ι;apply ze0) | apply zbI)
 | apply zpI
 | apply zrl
 | apply set_list
 | infer_instance)
set_option hygiene true
seal L2.PE L2.PT L2.PW L2.PA L2.PS L2.PSs L2.PC L2.PG L2.PGs L2.PSet L2.PI L2.OpR L2.UnR L2.zab L2.PO L2.SlR L2.IxR L2.PTs
namespace Pv
open PySem L2
theorem szl {n:Nat}(h:n<=1000):n<=sizeLine:=Nat.le_of_lt (zcA h)
noncomputable instance decSign (c:Nat):Decidable (Sign c):=inferInstanceAs (Decidable (32<=c/\c<=126/\c≠37))
theorem zh {p:Addr}(sm:Same H H1)(h:H1 p=none):Same H (upd H1 p o):=λb u q=>by have q':=sm b u q;rw[zg (zj q' h)];exact q'
theorem zfO {p:Addr}(sm:Same H H1)(h:H p=none):Same H (upd H1 p o):=λb u q=>by rw[zg (zj q h)];exact sm b u q
theorem zy {t u:TS}{D:L2.Ends}{σ:L2.St}{H:Hp}(Pq:L2.St->Hp->Prop)(a:∀N:L2.St->Hp->Prop,(∀σ H,Pq σ H->N σ H)->t {D with nx:=N} σ H)(rest:∀σ H,Pq σ H->u D σ H):tSeq t u D σ H:=a (u D) rest
theorem not1 {a b:Addr}(h:a≠b):a∉ [b]:=λz=>h (List.mem_singleton.mp z)
theorem zhl {p:Addr}(f:Frm ws H H1)(h:H1 p=none):Frm ws H (upd H1 p o):=f.trans (Frm.new h)
theorem zc8 {p:Addr}(f:Frm ws H H1)(h:H p=none):Frm ws H (upd H1 p o):=λb u n q=>by rw[zg (zj q h)];exact f b u n q
end Pv
namespace Pv
open PySem L2
noncomputable abbrev zqP:Stmt:=top 28
noncomputable abbrev zmN:Stmt:=top 29
noncomputable abbrev zfi:Stmt:=top 30
inductive zhv (vs:QQ) (H:Hp) (Q:L2.VK) (_E:XK):Prop
 | mk (x:Str) (_:vs=[.str x]) (_:Q (.int (numOf x.cps.toList)) H):zhv vs H Q _E
inductive zg2 (n:Nat) (vs:QQ) (H:Hp) (Q:L2.VK) (_E:XK):Prop
 | mk (t:Th) (v:V) (_:vs=[v]) (_:Rep H t v) (_:Wf t) (_:dep t < n) (_:nodes t<=100) (_:∀(r:Addr) (H':Hp),Same H H'->H' r=some (.lst ((zan t).map V.int))->Q (.ref r) H'):zg2 n vs H Q _E
inductive zfe (vs:QQ) (H:Hp) (Q:L2.VK) (_E:XK):Prop
 | mk (t:Th) (v:V) (_:vs=[v]) (_:Rep H t v) (_:Wf t) (_:dep t < 10) (_:nodes t<=100) (_:∀(H':Hp),Same H H'->Q (.int (zm t)) H'):zfe vs H Q _E
section
variable {P:Program}{w:World}{K:QA}{mg:QB}{base:Heap}
theorem zhD (D:Dfn K mg "number_of" zfi ["signs"]) (m_ord:mg "ord" =none):Fn P w K mg base "number_of" 1 ["signs"] zhv:=by
 refine D.ok (k:=0) (L2.fsN ["signs","number","sign"]) (λf cdv A outer s H vs Q E hr h=>?_);obtain⟨x,rfl,q⟩:=h;refine⟨_,(zf (by ac_rfl)
 (zf (zaC PassesOwn.never rfl (zjQ (pv 0)) (by ac_rfl)
 (by ac_rfl))
 (by ac_rfl))),?_⟩
 refine⟨_,rfl,x,rfl,?_⟩;refine zg8 (z:=x) (λi σ H'=>H'=H/\∃kk,σ=[some (.str x),some (.int (numOf (x.cps.toList.take i))),kk]) ⟨rfl,_,rfl⟩ ?_ ?_
 ·rintro i c σ H' hc ⟨rfl,kk,rfl⟩;refine⟨_,rfl,_,_,rfl,rfl,.inr ⟨by decide,by decide⟩,_,rfl,_,rfl,rfl,_,_,rfl,rfl,rfl,some (.str ⟨#[c]⟩),?_⟩;have e:x.cps.toList.take (i+1)=x.cps.toList.take i++ [c]:=by rw[List.take_add_one,Array.getElem?_toList,hc];rfl
  rw[e,zjE]
  rfl
 ·rintro σ H' ⟨rfl,kk,rfl⟩;refine⟨_,rfl,?_⟩;have e:x.cps.toList.take x.cps.size=x.cps.toList:=Jm (by simp);rw[e];exact q
theorem ziw (D:Dfn K mg "codes" zmN ["thing"]) (ziR:Fn P w K mg base "number_of" 1 ["signs"] zhv) (zk:mg "isinstance" =none) (zb1:mg "int" =none) (zdA:mg "str" =none) (zaK:mg "range" =none) (zt:mg "len" =none):
  ∀n:Nat,Fn P w K mg base "codes" (n+2) ["thing"] (zg2 n)
 | 0=>D.never λvs H Q E h=>by obtain⟨t,v,_,_,_,h1,_⟩:=h;omega
 | n+1=>by
  have zp7:=ziw D ziR zk zb1 zdA zaK zt n;refine D.ok (k:=n+2) (L2.fsN ["thing","raised","sevens","row","part"]) (λf cdv A outer s H vs Q E hr h=>?_);obtain⟨t,v,rfl,hrep,hwf,hdep,hnod,q⟩:=h;have hlen:=zdP t hwf;refine⟨_,(zf (by ac_rfl)
 (zf (by ac_rfl)
 (zf (zaA (by ac_rfl)
 (zf (zfm (i:=2) (zo.one (y:= "thing") (j:=0) (c:=s.heap.objs.size+1) (by rfl) (by rfl) (by decide+kernel) (by decide+kernel) (by rfl) (by decide+kernel) (by rfl) (by decide+kernel) (by rfl) (by first | exact Or.inl rfl | exact Or.inr rfl) (by first | exact Or.inl rfl | exact Or.inr rfl)) rfl (zf8 rfl zaK (zA zbm (zA (zD (zab.or za0 zah) (by rfl) zt (by rfl) (by ac_rfl)) (zA zbm zam)))) (λ_ _ _=>zbH) (λ_ _ _=>(zeZ zr4 (pv 1) (zeQ (pv 0)) (zeQ (by ac_rfl)))) (zb8 rfl) rfl (Or.inl rfl) (by rfl))
 (zx (zad (zdu zcS (zjp (zA zbm (zA (zD (zab.or za0 zah) (by rfl) zt (by rfl) (by ac_rfl)) zam))) (zdw (zo.zero (by rfl) (by decide+kernel) (by decide+kernel) (by decide+kernel) (by rfl)) rfl (by ac_rfl) (λ_ _ _=>zbH) (λ_ _ _=>(by ac_rfl)))))))
 zM)
 (zf (setA 3 rfl (zjp (zA zbm (zA (zD (zab.or za0 zah) (by rfl) zt (by rfl) (by ac_rfl)) zam))))
 (zf (zaC PassesOwn.never rfl (zdQ (pv 0)) (by ac_rfl)
 (by ac_rfl))
 (by ac_rfl)))))),?_⟩
  refine⟨_,rfl,rfl,_,rfl,?_⟩;cases hrep with
  | non=>refine ifT (by decide) ?_;refine⟨szl (show 1<=1000 by decide),λp hp=>?_⟩;exact q p _ (Frm.new hp).same zc
  | int i=>refine ifF (by rfl) ?_;refine⟨_,rfl,_,_,_,_,rfl,.int i,rfl,_,rfl,?_⟩;refine ifT rfl ?_;refine⟨_,rfl,_,_,rfl,rfl,⟨by decide,by decide,by decide⟩,_,_,rfl,rfl,?_⟩;refine⟨_,rfl,_,_,rfl,rfl,⟨by decide,by decide,by decide⟩,_,_,rfl,rfl,⟨by decide+kernel,by decide+kernel⟩,_,rfl,_,_,rfl,rfl,⟨by decide,by decide,by decide⟩,_,_,rfl,rfl,(show(0:Int) < 10 ^ (15:Int).toNat by decide+kernel),szl (show 3<=1000 by decide),λp hp=>?_⟩;exact q p _ (Frm.new hp).same zc
  | str x=>
   have hx:x.length<=60:=hwf.1;refine ifF (by rfl) ?_;refine⟨_,rfl,_,_,_,_,rfl,.str x,rfl,_,rfl,?_⟩;refine ifF rfl ?_;refine⟨_,rfl,_,_,_,_,rfl,.str x,rfl,_,rfl,?_⟩;refine ifT rfl ?_;refine⟨_,rfl,.inr ⟨x,rfl,szl (by omega),?_⟩⟩;refine⟨_,_,rfl,by omega,by omega,by decide,by decide,λp hp=>?_⟩;rw[zlb];refine zkx (J:=Itrs 0 7 (zaW x)) (n:=zaW x) (λi acc H'=>acc=(List.range i).map (λk=>V.str (zhk x k))/\H'=upd H p (.lst acc)) ⟨rfl,rfl⟩ (by exact λi acc H' hi _=>hi) (by exact λacc H' _=>Jb _) ?_ ?_
   ·rintro i acc H' y H'' hi ⟨ha,rfl⟩ ⟨e1,e2⟩;subst e1 e2;refine tt1 ?_;refine⟨_,rfl,_,rfl,_,rfl,_,rfl,_,_,rfl,rfl,_,rfl,x,rfl,szl (by omega),?_⟩;have hal:acc.length=i:=by rw[ha,List.length_map,List.length_range]
    refine⟨zc,Jf (show acc.length < 1000 by unfold zaW at hi;omega) (szl (Jb _)),nxt hi ⟨?_,zky⟩⟩;rw[List.range_succ,List.map_append,ha,zlo hi]
    rfl
   ·rintro acc H' ⟨ha,rfl⟩;refine⟨_,rfl,.inr ⟨x,rfl,szl (by omega),szl (show 2<=1000 by decide),λp2 hp2=>?_⟩⟩;have np:p≠p2:=λz=>by rw[<-z,zc] at hp2;cases hp2
    have ep:upd (upd H p (.lst acc)) p2 (.lst [.int 3,.int (x.length:Nat)]) p=some (.lst acc):=by rw[zg np];exact zc
    have hal:acc.length=zaW x:=by rw[ha,List.length_map,List.length_range]
    refine⟨_,rfl,p,rfl,⟨_,SqL.of ep⟩,λp3 hp3=>?_⟩;have np3:p≠p3:=(zj ep hp3);have np23:p2≠p3:=(zj zc hp3);refine zkx (n:=zaW x) (λi acc' H'=>acc'=(List.range i).map (λk=>V.int (numOf (chunk x k)))/\H'=upd (upd (upd H p (.lst acc)) p2 (.lst [.int 3,.int (x.length:Nat)])) p3 (.lst acc')) ⟨rfl,rfl⟩ ?_ ?_ ?_ ?_
    ·rintro i acc' H' hi ⟨_,rfl⟩;exact⟨acc,acc[i],SqL.of (by rw[zg np3];exact ep),by rw[List.getElem?_eq_getElem]⟩
    ·rintro acc' H' ⟨_,rfl⟩;exact⟨acc,SqL.of (by rw[zg np3];exact ep),by omega⟩
    ·rintro i acc' H' y H'' hi ⟨ha',rfl⟩ ⟨e1,e2⟩;subst e1;have ey:=e2 acc (SqL.of (by rw[zg np3];exact ep));have ey2:y=V.str (zhk x i):=by rw[ha,List.getElem?_map,List.getElem?_range hi] at ey;exact(Option.some.inj ey).symm
     subst ey2;refine tt1 ?_;refine⟨_,rfl,_,rfl,zc,?_,nxt hi ⟨?_,zky⟩⟩
     ·have:acc'.length=i:=by rw[ha',List.length_map,List.length_range]
      exact Jf (show acc'.length < 1000 by unfold zaW at hi;omega) (szl (Jb _))
     ·rw[List.range_succ,List.map_append,ha']
      rfl
    ·rintro acc' H' ⟨ha',rfl⟩;have hal':acc'.length=zaW x:=by rw[ha',List.length_map,List.length_range]
     refine⟨p2,p3,[.int 3,.int (x.length:Nat)],acc',rfl,rfl,by rw[zg np23];exact zc,zc,szl (show 2+acc'.length<=1000 by unfold zaW at hal';omega),λr hr'=>?_⟩
     refine q r _ (λb o hb=>?_) ?_
     ·have n1:=zj hb hp;have e1:upd H p (.lst acc) b=some o:=by rw[zg n1];exact hb
      have n2:=zj e1 hp2;have e2:upd (upd H p (.lst acc)) p2 (.lst [.int 3,.int (x.length:Nat)]) b=some o:=by rw[zg n2];exact e1
      have n3:=zj e2 hp3;have e3:upd (upd (upd H p (.lst acc)) p2 (.lst [.int 3,.int (x.length:Nat)])) p3 (.lst acc') b=some o:=by rw[zg n3];exact e2
      rw[zg (zj e3 hr')];exact e3
     ·rw[zc,ha'];show some (HO.lst ([V.int 3,V.int (x.length:Nat)]++_))=some (HO.lst (([3,(x.length:Int)]++zdV x).map V.int));rw[List.map_append];unfold zdV;rw[List.map_map]
      rfl
  | @tup a xs ts e hl hrs=>
   have hw:ts.length<=40:=hwf.1;refine ifF (by rfl) ?_;refine⟨_,rfl,_,_,_,_,rfl,.tup e,rfl,_,rfl,?_⟩;refine ifF rfl ?_;refine⟨_,rfl,_,_,_,_,rfl,.tup e,rfl,_,rfl,?_⟩;refine ifF rfl ?_;refine⟨_,rfl,.inl ⟨a,_,rfl,.inr (SqT.of e),szl (show 2<=1000 by decide),λrw hrw=>?_⟩⟩;have nra:a≠rw:=zj e hrw;have keepT:∀{H':Hp},Same H H'->Tups H H':=λz=>Same.tups z;refine⟨_,rfl,a,rfl,⟨_,SqT.of (by rw[zg nra];exact e)⟩,?_⟩;refine zeM (xs:=xs) (λi σ H'=>∃kk,σ=[some (.ref a),none,none,some (.ref rw),kk]/\Same H H'/\H' rw=some (.lst (([4,(ts.length:Int)]++zac (ts.take i)).map V.int))) ⟨_,rfl,(Frm.new hrw).same,?_⟩ ?_ ?_ ?_
   ·rw[zc,hl]
    rfl
   ·rintro i σ H' hi ⟨kk,rfl,sm,er⟩;exact SqT.of (sm _ _ e)
   ·rintro i x σ H' hx ⟨kk,rfl,sm,er⟩;have hil:i < ts.length:=by rw[<-hl];exact(List.getElem?_eq_some_iff.mp hx).1
    have ht:ts[i]? =some ts[i]:=List.getElem?_eq_getElem hil;have hcl:=zcT ts hwf.2;have hcl':=zbY ts i;have hcn:1+zV ts<=100:=hnod;have hsub:nodes ts[i]<=zV ts:=zfr ht;refine⟨_,rfl,.inl ⟨rfl,_,SqL.of er⟩,_,rfl,ts[i],x,rfl,(hrs i x _ hx ht).keep (keepT sm),hwf.2.get ht,?_,by omega,λr H2 sm2 er2=>?_⟩
    ·have:=zcg ht;have:depL ts+1 < n+1:=hdep;omega
    have hc1:=zdP ts[i] (hwf.2.get ht);refine⟨rw,r,_,_,rfl,rfl,sm2 _ _ er,er2,szL ?_,?_⟩
    ·simp only[List.length_map,List.length_append,List.length_cons,List.length_nil];omega
    ·refine⟨_,rfl,λb o hb=>?_,?_⟩
     ·rw[zg (zj hb hrw)];exact sm2 _ _ (sm _ _ hb)
     ·rw[zc,ziQ ht];simp only[List.map_append,List.append_assoc]
   ·rintro σ H' ⟨kk,rfl,sm,er⟩;refine⟨_,rfl,q rw H' sm ?_⟩;rw[er,hl,List.take_length]
    rfl
theorem zp4 (D:Dfn K mg "seal" zqP ["thing"]) (zp7:Fn P w K mg base "codes" 12 ["thing"] (zg2 10)):Fn P w K mg base "seal" 13 ["thing"] zfe:=by
 refine D.ok (k:=12) (L2.fsN ["thing","folded","code"]) (λf cdv A outer s H vs Q E hr h=>?_);obtain⟨t,v,rfl,hrep,hwf,hdep,hnod,q⟩:=h;refine⟨_,(by ac_rfl),?_⟩;refine⟨_,rfl,t,v,rfl,hrep,hwf,hdep,hnod,λr H1 sm er=>?_⟩;refine⟨r,rfl,⟨_,SqL.of er⟩,?_⟩;refine za5 (xs:=(zan t).map V.int) (λi σ H'=>H'=H1/\∃kk,σ=[some v,some (.int (zdn ((zan t).take i))),kk]) ⟨rfl,_,rfl⟩ ?_ ?_ ?_
 ·rintro i σ H' _ ⟨rfl,_⟩;exact SqL.of er
 ·rintro i x σ H' hx ⟨rfl,kk,rfl⟩;rw[List.getElem?_map] at hx;obtain⟨c,hc,rfl⟩:=Jq.mp hx;have rg:=zeo ((zan t).take i);have e61:(2:Int) ^ (61:Int).toNat - 1=2305843009213693951:=by decide+kernel
  refine⟨_,rfl,_,_,rfl,rfl,.inl ⟨by omega,by omega⟩,_,rfl,_,_,rfl,rfl,_,_,rfl,rfl,⟨by decide,by decide,by decide⟩,_,_,rfl,rfl,_,_,rfl,rfl,(show(0:Int) < 2 ^ (61:Int).toNat - 1 by decide+kernel),rfl,some (.int c),?_⟩;rw[zjO hc,<-e61]
  rfl
 ·rintro σ H' ⟨rfl,kk,rfl⟩;refine⟨_,rfl,_,_,rfl,rfl,?_⟩;rw[List.length_map,List.take_length];exact q _ sm
end
end Pv
namespace Pv
open PySem L2
noncomputable abbrev ziA:Stmt:=top 18
noncomputable abbrev znm:Stmt:=top 19
noncomputable abbrev zaQ:Stmt:=top 20
inductive zjm (vs:QQ) (H:Hp) (Q:L2.VK) (_E:XK):Prop
 | mk (t:Th) (v:V) (_:vs=[v]) (_:Rep H t v) (_:Q (.int (zao t)) H):zjm vs H Q _E
inductive zaY (n:Nat) (vs:QQ) (H:Hp) (Q:L2.VK) (_E:XK):Prop
 | mk (t u:Th) (v w:V) (_:vs=[v,w]) (_:Rep H t v) (_:Rep H u w) (_:dep t < n) (_:dep t<=40) (_:∀H':Hp,Same H H'->Q (.bl (zd t u)) H'):zaY n vs H Q _E
inductive zie (n:Nat) (vs:QQ) (H:Hp) (Q:L2.VK) (_E:XK):Prop
 | mk (ts us:List Th) (v w:V) (_:vs=[v,w]) (_:Rep H (.tup ts) v) (_:Rep H (.tup us) w) (_:depL ts < n) (_:depL ts<=39) (_:∀H':Hp,Same H H'->Q (.bl (zaE ts us)) H'):zie n vs H Q _E
section
variable {P:Program}{w:World}{K:QA}{mg:QB}{base:Heap}
theorem zp6 (D:Dfn K mg "kind_of" ziA ["thing"]) (zk:mg "isinstance" =none) (zb1:mg "int" =none) (zdA:mg "str" =none):Fn P w K mg base "kind_of" 1 ["thing"] zjm:=by
 refine D.ok (k:=0) (L2.fsN ["thing"]) (λf cdv A outer s H vs Q E hr h=>?_);obtain⟨t,v,rfl,rt,q⟩:=h;refine⟨_,(by ac_rfl),?_⟩;refine⟨_,rfl,rfl,_,rfl,?_⟩;cases rt with
 | non=>exact ifT (by decide) q
 | int i=>refine ifF (by rfl) ?_;refine⟨_,rfl,_,_,_,_,rfl,.int i,rfl,_,rfl,?_⟩;exact ifT rfl q
 | str x=>refine ifF (by rfl) ?_;refine⟨_,rfl,_,_,_,_,rfl,.str x,rfl,_,rfl,?_⟩;refine ifF rfl ?_;refine⟨_,rfl,_,_,_,_,rfl,.str x,rfl,_,rfl,?_⟩;exact ifT rfl q
 | tup e l h=>refine ifF (by rfl) ?_;refine⟨_,rfl,_,_,_,_,rfl,.tup e,rfl,_,rfl,?_⟩;refine ifF rfl ?_;refine⟨_,rfl,_,_,_,_,rfl,.tup e,rfl,_,rfl,?_⟩;exact ifF rfl q
theorem zlP {n:Nat}(D:Dfn K mg "is_tuple_ahead" zaQ ["one","other"]) (zcD:Fn P w K mg base "ahead" (2 * n+2) ["one","other"] (zaY n)) (ziS:mg "zip" =none) (zt:mg "len" =none):Fn P w K mg base "is_tuple_ahead" (2 * n+3) ["one","other"] (zie n):=by
 refine D.ok (k:=2 * n+2) (L2.fsN ["one","other","mine","its"]) (λf cdv A outer s H vs Q E hr h=>?_);obtain⟨ts,us,v,w,rfl,r1,r2,hd,hd40,q⟩:=h;cases r1 with
 | @tup a xs _ e1 l1 h1=>
 cases r2 with
 | @tup b ys _ e2 l2 h2=>
 refine⟨_,(by have θ:=0;ac_rfl),?_⟩;refine⟨_,rfl,_,rfl,a,b,xs,ys,rfl,SqT.of e1,SqT.of e2,?_⟩;refine zpy (K:=K) (p:=a) (q:=b) (xs:=xs) (us:=ys) (λi σ H'=>∃k2 k3,σ=[some (.ref a),some (.ref b),k2,k3]/\Same H H'/\zaE ts us=zaE (ts.drop i) (us.drop i)) ⟨_,_,rfl,Same.refl _,rfl⟩ ?_ ?_ ?_
 ·rintro i σ H1 ⟨k2,k3,rfl,sm,_⟩;exact⟨SqT.of (sm _ _ e1),SqT.of (sm _ _ e2)⟩
 ·rintro i x u T σ H1 hx hu hT ⟨k2,k3,rfl,sm,ea⟩;have hi:i < ts.length:=by rw[<-l1];exact(List.getElem?_eq_some_iff.mp hx).1
  have hj:i < us.length:=by rw[<-l2];exact(List.getElem?_eq_some_iff.mp hu).1
  have ht:ts[i]? =some ts[i]:=List.getElem?_eq_getElem hi;have hv:us[i]? =some us[i]:=List.getElem?_eq_getElem hj;have tk:Tups H (upd H1 T (.tup [x,u])):=(Same.tups sm).trans (Tups.new hT);have ra:=(h1 i x _ hx ht).keep tk;have rb:=(h2 i u _ hu hv).keep tk;have hdi:=zcg ht;refine⟨T,_,rfl,SqT.of zc,rfl,_,_,rfl,_,_,rfl,rfl,?_⟩;refine⟨_,rfl,_,rfl,ts[i],us[i],ra,rb,by omega,_,rfl,?_⟩;have sm':Same H (upd H1 T (.tup [x,u])):=λc o hc=>by rw[zg (zj (sm _ _ hc) hT)];exact sm _ _ hc
  rw[zh6 hi hj] at ea;refine ifB (λc=>?_) (λc=>?_)
  ·have ne:¬eqT ts[i] us[i]=true:=by intro z;rw[z] at c;cases c
   rw[if_neg ne] at ea;refine⟨_,rfl,_,rfl,ts[i],us[i],_,_,rfl,ra,rb,by omega,by omega,λH2 s2=>?_⟩;rw[<-ea];exact q H2 (sm'.trans s2)
  ·have eq:eqT ts[i] us[i]=true:=by
    cases z:eqT ts[i] us[i] with
    | true=>rfl
    | false=>rw[z] at c;cases c
   rw[if_pos eq] at ea;exact⟨_,_,rfl,sm',ea⟩
 ·rintro σ H1 ⟨k2,k3,rfl,sm,ea⟩;refine⟨_,rfl,a,_,rfl,.inr (SqT.of (sm _ _ e1)),_,rfl,b,_,rfl,.inr (SqT.of (sm _ _ e2)),_,_,rfl,rfl,?_⟩;rw[l1,l2,zja] at ea;have ed:decide ((xs.length:Int) < (ys.length:Int))=zaE ts us:=by rw[ea,l1,l2];rw[Bool.eq_iff_iff];simp
  show Q (.bl (decide ((xs.length:Int) < (ys.length:Int)))) H1;rw[ed];exact q H1 sm
theorem zh3 (Da:Dfn K mg "ahead" znm ["one","other"]) (Dt:Dfn K mg "is_tuple_ahead" zaQ ["one","other"]) (zlZ:Fn P w K mg base "kind_of" 1 ["thing"] zjm) (ziS:mg "zip" =none) (zt:mg "len" =none) (zk:mg "isinstance" =none) (zE:mg "tuple" =none):
  ∀n:Nat,Fn P w K mg base "ahead" (2 * n+2) ["one","other"] (zaY n)
 | 0=>Da.never λvs H Q E h=>by obtain⟨t,u,v,w,_,_,_,h1,_⟩:=h;omega
 | n+1=>by
  have zl0:=zlP Dt (zh3 Da Dt zlZ ziS zt zk zE n) ziS zt;refine Da.ok (k:=2 * n+3) (L2.fsN ["one","other","kind"]) (λf cdv A outer s H vs Q E hr h=>?_);obtain⟨t,u,v,w,rfl,r1,r2,hd,hd40,q⟩:=h;refine⟨_,(zf (by ac_rfl)
 (zf (by ac_rfl)
 (zf (by ac_rfl)
 (zf (by ac_rfl)
 (zx (zad (zaf (OpR.or zqH zli) (pv 0) (pv 1) (zat _)))))))),?_⟩
  refine⟨_,rfl,t,v,rfl,r1,?_⟩;refine⟨_,rfl,_,rfl,u,w,rfl,r2,rfl,_,rfl,?_⟩;rw[zu];refine ifB (λc=>?_) (λc=>?_)
  ·have ne:zao t≠zao u:=λz=>by rw[decide_eq_true z] at c;cases c
   refine⟨_,rfl,_,rfl,u,w,rfl,r2,_,_,rfl,rfl,?_⟩;show Q (.bl (decide (zao t < zao u))) H;rw[<-zh8 ne];exact q H (Same.refl _)
  ·have eq:zao t=zao u:=by
    by_cases z:zao t=zao u
    ·exact z
    ·rw[decide_eq_false z] at c;cases c
   refine⟨_,rfl,rfl,_,rfl,?_⟩;cases r1 with
   | non=>
    refine ifT (by decide) ?_;cases r2 with
    | non=>exact q H (Same.refl _)
    | int i=>exact Je eq (by show(0:Int)≠1;decide)
    | str x=>exact Je eq (by show(0:Int)≠2;decide)
    | tup e l h=>exact Je eq (by show(0:Int)≠3;decide)
   | int i=>
    refine ifF (by rfl) ?_;refine⟨_,rfl,_,_,_,_,rfl,.int i,rfl,_,rfl,?_⟩;refine ifF rfl ?_;cases r2 with
    | non=>exact Je eq (by show(1:Int)≠0;decide)
    | int j=>exact⟨_,rfl,_,rfl,.inl ⟨_,_,rfl,rfl,q H (Same.refl _)⟩⟩
    | str x=>exact Je eq (by show(1:Int)≠2;decide)
    | tup e l h=>exact Je eq (by show(1:Int)≠3;decide)
   | str x=>
    refine ifF (by rfl) ?_;refine⟨_,rfl,_,_,_,_,rfl,.str x,rfl,_,rfl,?_⟩;refine ifF rfl ?_;cases r2 with
    | non=>exact Je eq (by show(2:Int)≠0;decide)
    | int j=>exact Je eq (by show(2:Int)≠1;decide)
    | str y=>exact⟨_,rfl,_,rfl,.inr ⟨_,_,rfl,rfl,q H (Same.refl _)⟩⟩
    | tup e l h=>exact Je eq (by show(2:Int)≠3;decide)
   | @tup a xs ts e l h=>
    refine ifF (by rfl) ?_;refine⟨_,rfl,_,_,_,_,rfl,.tup e,rfl,_,rfl,?_⟩;refine ifT rfl ?_;cases r2 with
    | non=>exact Je eq (by show(3:Int)≠0;decide)
    | int j=>exact Je eq (by show(3:Int)≠1;decide)
    | str y=>exact Je eq (by show(3:Int)≠2;decide)
    | @tup b ys us e' l' h'=>have hd':depL ts+1 < n+1:=hd;have hd'':depL ts+1<=40:=hd40;exact⟨_,rfl,_,rfl,ts,us,_,_,rfl,.tup e l h,.tup e' l' h',by omega,by omega,λH2 s2=>q H2 s2⟩
end
end Pv
namespace Pv
open PySem L2
noncomputable abbrev zbZ:Stmt:=inClass (top 96) 0
noncomputable abbrev zaX:Stmt:=inClass (top 96) 1
noncomputable abbrev zeY:Stmt:=inClass (top 96) 2
noncomputable abbrev zds:Stmt:=inClass (top 96) 3
noncomputable abbrev zaS:Stmt:=inClass (top 4) 0
structure Good (t:Th):Prop where
 wf:Wf t
 dp:dep t<=8
 nd:nodes t<=80
structure Flds (fs:List (Str ×V))(d:Addr):Prop where
 la:fs.lookup ("laid" :Str)=some (V.ref d)
 n1:fs.lookup ("refuse_clash" :Str)=none
 n2:fs.lookup ("lay" :Str)=none
 n3:fs.lookup ("thing" :Str)=none
 n4:fs.lookup ("things" :Str)=none
 n5:fs.lookup ("paper" :Str)=none
theorem ztk (d:Addr):Flds [("laid",.ref d)] d:=⟨rfl,rfl,rfl,rfl,rfl,rfl⟩
structure VOk (H:Hp)(C a d:Addr)(kvs:QG):Prop where
 ob:∃dx fs,H a=some (.ins C dx fs)/\Flds fs d
 di:H d=some (.dK kvs)
theorem VOk.keep (v:VOk H C a d kvs)(s:Same H H'):VOk H' C a d kvs:=by obtain⟨⟨dx,fs,e,f⟩,e2⟩:=v;exact⟨⟨dx,fs,s _ _ e,f⟩,s _ _ e2⟩
noncomputable def zd2 (H:Hp)(kvs:QG):Prop:=∀(n:Int) (v:V),valV kvs (.inl n)=some v->∃t,Rep H t v/\Good t/\zm t=n
theorem zd2.keep (l:zd2 H kvs)(s:Tups H H'):zd2 H' kvs:=λn v e=>by obtain⟨t,r,g⟩:=l n v e;exact⟨t,r.keep s,g⟩
noncomputable def zkf (E:XK)(CC:Addr)(H:Hp)(t1 t2:Th)(v1 v2:V):Prop:=∀(H':Hp) (x:Addr),Same H H'->H' x=some (xdO x [("one",v1),("other",v2)])->E (.ref CC) (some x) H'
inductive zeP (C:Addr) (vs:QQ) (H:Hp) (Q:L2.VK) (_E:XK):Prop
 | mk (a dx:Addr) (_:vs=[.ref a]) (_:H a=some (.ins C dx [])) (_:∀d,H d=none->Q .non (upd (upd H d (.dK [])) a (.ins C dx [("laid",.ref d)]))):zeP C vs H Q _E
inductive zgP (CC:Addr) (vs:QQ) (H:Hp) (Q:L2.VK) (_E:XK):Prop
 | mk (x:Addr) (v1 v2:V) (_:vs=[.ref x,v1,v2]) (_:H x=some (exO x CC none true)) (_:∀d,H d=none->d≠x->Q .non (upd (upd (upd H d (xdO d [("one",v1)])) x (exO x CC (some d) true)) d (xdO d [("one",v1),("other",v2)]))):zgP CC vs H Q _E
inductive zfI (C CC:Addr) (vs:QQ) (H:Hp) (Q:L2.VK) (E:XK):Prop
 | mk (a d:Addr) (kvs:QG) (n:Int) (t:Th) (v:V) (_:vs=[.ref a,.int n,v]) (_:VOk H C a d kvs) (_:zd2 H kvs) (_:Rep H t v) (_:Good t) (_:zm t=n) (_:((∀t1 v1,valV kvs (.inl n)=some v1->Rep H t1 v1->t1=t)->Q .non H)) (_:(∀t1 v1,valV kvs (.inl n)=some v1->Rep H t1 v1->Good t1->zm t1=zm t->t1≠t->zkf E CC H t1 t v1 v)):zfI C CC vs H Q E
inductive znl (C CC:Addr) (vs:QQ) (H:Hp) (Q:L2.VK) (E:XK):Prop
 | mk (a d:Addr) (kvs:QG) (t:Th) (v:V) (_:vs=[.ref a,v]) (_:VOk H C a d kvs) (_:zd2 H kvs) (_:kvs.length<=1000000) (_:Rep H t v) (_:Good t) (_:(∀H',Same H H'->(∀t1 v1,valV kvs (.inl (zm t))=some v1->Rep H t1 v1->t1=t)->Q (.int (zm t)) (upd H' d (.dK (putK kvs (.inl (zm t)) v))))) (_:(∀t1 v1 H',Same H H'->valV kvs (.inl (zm t))=some v1->Rep H' t1 v1->Good t1->zm t1=zm t->t1≠t->zkf E CC H' t1 t v1 v)):znl C CC vs H Q E
inductive znX (C:Addr) (vs:QQ) (H:Hp) (Q:L2.VK) (_E:XK):Prop
 | mk (a d:Addr) (kvs:QG) (n:Int) (v:V) (_:vs=[.ref a,.int n]) (_:VOk H C a d kvs) (_:valV kvs (.inl n)=some v) (_:Q v H):znX C vs H Q _E
inductive ze7 (C CN:Addr) (vs:QQ) (H:Hp) (Q:L2.VK) (E:XK):Prop
 | mk (a d:Addr) (kvs:QG) (n:Int) (_:vs=[.ref a,.int n]) (_:VOk H C a d kvs) (_:(∀v,valV kvs (.inl n)=some v->Q v H)) (_:(valV kvs (.inl n)=none->E (.ref CN) none H)):ze7 C CN vs H Q E
theorem DRep.laidOk {cs:QF}(r:DRep H cs kvs)(g:∀p∈cs,Good p.2/\zm p.2=p.1):zd2 H kvs:=λn v e=>by obtain⟨t,e1,rv⟩:=r.back e;obtain⟨g1,g2⟩:=g _ (zga e1);exact⟨t,rv,g1,g2⟩
theorem zn3 (v1 v2:V):putF ("other" :Str) v2 [(("one" :Str),v1)]=[(("one" :Str),v1),(("other" :Str),v2)]:=by
 unfold putF;rw[if_neg (by decide)]
 rfl
theorem Rep.uniq (r:Rep H t v):Rep H u v->t=u:=by
 induction r generalizing u with
 | non=>intro q;cases q;rfl
 | int i=>intro q;cases q;rfl
 | str x=>intro q;cases q;rfl
 | @tup a xs ts e l h ih=>
  intro q;cases q with
  | @tup _ ys us e' l' h'=>
   rw[e] at e';cases e';congr 1;apply List.ext_getElem?;intro i;by_cases hi:i < ts.length
   ·have h1:ts[i]? =some ts[i]:=List.getElem?_eq_getElem hi;have h2:us[i]? =some us[i]:=List.getElem?_eq_getElem (by omega);have h3:xs[i]? =some xs[i]:=List.getElem?_eq_getElem (by omega);rw[h1,h2,ih i _ _ h3 h1 (h' i _ _ h3 h2)]
   ·rw[List.getElem?_eq_none (by omega),List.getElem?_eq_none (by omega)]
section
variable {P:Program}{w:World}{K:QA}{mg:QB}{base:Heap}{C CC:Addr}{x:Str}
theorem zm8 (D:Mkd K mg x C "Vault.__init__" zbZ ["self"]) (c:Cls K C) (nl:zO K C "laid"):Mkr P w K mg base x C 1 ["self"] (zeP C):=by refine D.ok (k:=0) (L2.fsN ["self"]) (λf cdv A outer s H vs Q E hr h=>?_);obtain⟨a,dx,rfl,ea,q⟩:=h;refine⟨_,(by ac_rfl),?_⟩;intro d hd;exact⟨_,rfl,a,C,dx,[],rfl,by rw[zg (zj ea hd)];exact ea,c,nl,by decide,q d hd⟩
theorem zmJ (D:XId K mg "Clash" CC "Clash.__init__" zaS ["self","one","other"]) (n1:zO K CC "one") (n2:zO K CC "other"):XI P w K mg base "Clash" CC 1 ["self","one","other"] (zgP CC):=by
 have c:=D.cl;refine D.ok (k:=0) (L2.fsN ["self","one","other"]) (λf cdv A outer s H vs Q E hr h=>?_);obtain⟨x,v1,v2,rfl,ex,q⟩:=h;refine⟨_,(zf (zr2 (pv 0) (pv 1) (by rfl))
 (zx (zrx (pv 0) (pv 2) (by rfl)))),?_⟩
 refine⟨_,rfl,_,rfl,x,CC,true,rfl,ex,c,n1,λd hd hdx=>?_⟩;refine⟨_,rfl,_,rfl,x,CC,true,d,[("one",v1)],rfl,zc,by rw[zg hdx];exact zc,hdx,c,n2,(show(1:Nat) < 1000 by decide),?_⟩;show Q .non (upd _ d (xdO d (putF "other" v2 [("one",v1)])));rw[zn3];exact q d hd hdx
theorem zlB (D:Mdf K C "refuse_clash" "Vault.refuse_clash" zaX ["self","number","thing"]) (zp8:XI P w K mg base "Clash" CC 1 ["self","one","other"] (zgP CC)) (c:Cls K C) (nl:zO K C "laid"):
  Mt P w K mg base (CX1 P w) C "refuse_clash" 3 ["self","number","thing"] (zfI C CC):=by
 refine D.okX (k:=2) (L2.fsN ["self","number","thing"]) (λf cdv A outer s H vs Q E hr h=>?_);obtain⟨a,d,kvs,n,t,v,rfl,vo,lo,rt,gt,sn,q,qe⟩:=h;obtain⟨⟨dx,fs,eo,fl⟩,ed⟩:=vo;refine⟨_,(by have θ:=0;ac_rfl),?_⟩;refine⟨_,rfl,_,rfl,a,C,dx,_,_,rfl,eo,c,nl,fl.la,d,_,rfl,DGet.k (k:=Sum.inl n) ed,_,rfl,?_⟩;cases ev:valV kvs (Sum.inl n) with
 | none=>exact ifF rfl (ifF rfl (q λt1 v1 e=>by rw[ev] at e;cases e))
 | some v1=>
  obtain⟨t1,r1,g1,s1⟩:=lo n v1 ev;have gd:=g1.dp;have dg:DGet H d (.int n) (some v1):=by rw[<-ev];exact DGet.k (k:=Sum.inl n) ed
  refine ifT rfl ?_;refine⟨_,rfl,a,C,dx,_,_,rfl,eo,c,nl,fl.la,_,rfl,d,v1,rfl,dg,_,rfl,t1,t,r1,rt,by omega,_,rfl,?_⟩;refine ifB (λcc=>?_) (λcc=>?_)
  ·have ne:t1≠t:=λz=>by rw[z,zb4] at cc;cases cc
   refine⟨_,rfl,a,C,dx,_,_,rfl,eo,c,nl,fl.la,_,rfl,d,v1,rfl,dg,_,rfl,szl (show 2<=1000 by decide),λx hx=>?_⟩;refine⟨x,v1,v,rfl,zc,λd' hd' hdx=>⟨rfl,?_⟩⟩;have hd2:H d'=none:=by rw[zg hdx] at hd';exact hd'
   refine⟨x,CC,some d',rfl,by rw[zg (Ne.symm hdx)];exact zc,zp8.cl.q,?_⟩;refine qe t1 v1 ev r1 g1 (s1.trans sn.symm) ne _ d' (λb o hb=>?_) ?_
   ·have b1:b≠x:=zj hb hx;have b2:b≠d':=zj hb hd2;rw[za9 b1,zg b2,zg b1,zg b2,zg b1];exact hb
   ·rw[za9 hdx];exact zc
  ·have eq:t1=t:=(zS t1 t).mp (by cases z:eqT t1 t with | true=>rfl | false=>rw[z] at cc;cases cc);exact q λt2 v2 e r2=>by rw[ev] at e;cases e;exact(r2.uniq r1).trans eq
theorem zsh (D:Mdf K C "lay" "Vault.lay" zeY ["self","thing"]) (zom:Mt P w K mg base (CX1 P w) C "refuse_clash" 3 ["self","number","thing"] (zfI C CC)) (zon:Fn P w K mg base "seal" 13 ["thing"] zfe) (c_K:Cls K C) (nl:zO K C "laid"):
  Mt P w K mg base (CX1 P w) C "lay" 14 ["self","thing"] (znl C CC):=by
 refine D.okX (k:=13) (L2.fsN ["self","thing","number"]) (λf cdv A outer s H vs Q E hr h=>?_);obtain⟨a,d,kvs,t,v,rfl,vo,lo,hl,rt,gt,q,qe⟩:=h;have gd:=gt.dp;have gn:=gt.nd;refine⟨_,(by ac_rfl),?_⟩;refine⟨_,rfl,t,v,rfl,rt,gt.wf,by omega,by omega,λH1 s1=>?_⟩;have vo1:=vo.keep s1;obtain⟨⟨dx,fs,eo,fl⟩,ed⟩:=id vo1;have rt1:=rt.keep (Same.tups s1);refine⟨_,rfl,a,dx,_,rfl,eo,fl.n1,_,rfl,_,rfl,a,d,kvs,_,t,v,rfl,vo1,lo.keep (Same.tups s1),rt1,gt,rfl,λsame=>?_,λt1 v1 ev r1 g1 sn ne=>qe t1 v1 H1 s1 ev r1 g1 sn ne⟩;refine⟨_,rfl,_,rfl,a,C,dx,_,_,rfl,eo,c_K,nl,fl.la,_,rfl,d,_,rfl,DPut.k (k:=Sum.inl (zm t)) ed (Nat.lt_of_le_of_lt hl (by decide+kernel)),?_⟩;exact⟨_,rfl,q H1 s1 λt1 v1 e r=>same t1 v1 e (r.keep (Same.tups s1))⟩
theorem zlv (D:Mdf K C "thing" "Vault.thing" zds ["self","number"]) (zl1:XP K mg "NoPaper" CN) (c:Cls K C) (nl:zO K C "laid"):Mt P w K mg base (CX1 P w) C "thing" 1 ["self","number"] (ze7 C CN):=by
 refine D.okX (k:=0) (L2.fsN ["self","number"]) (λf cdv A outer s H vs Q E hr h=>?_);obtain⟨a,d,kvs,n,rfl,⟨⟨dx,fs,eo,fl⟩,ed⟩,q,qe⟩:=h;refine⟨_,(by ac_rfl),?_⟩;refine⟨_,rfl,_,rfl,a,C,dx,_,_,rfl,eo,c,nl,fl.la,d,_,rfl,DGet.k (k:=Sum.inl n) ed,_,rfl,?_⟩;cases ev:valV kvs (Sum.inl n) with
 | none=>refine ifT rfl ⟨szl (show 1<=1000 by decide),λe he=>⟨e,CN,none,rfl,zc,zl1.cl.q,?_⟩⟩;rw[zbi he];exact qe ev
 | some v=>
  have dg:DGet H d (.int n) (some v):=by rw[<-ev];exact DGet.k (k:=Sum.inl n) ed
  refine ifF rfl ?_;exact⟨_,rfl,a,C,dx,_,_,rfl,eo,c,nl,fl.la,_,rfl,d,v,rfl,dg,q v ev⟩
end
end Pv
namespace Pv
open PySem L2
noncomputable def addT (cs:QF)(n:Int)(t:Th):List (Int ×Th):=match zl cs n with | none=>cs++ [(n,t)] | some _=>cs
noncomputable def Fits (cs:QF)(n:Int)(t:Th):Prop:=zl cs n=none\/zl cs n=some t
structure GoodC (cs:QF):Prop where
 nd:(cs.map (·.1)).Nodup
 gd:∀p∈cs,Good p.2/\zm p.2=p.1
theorem zbB {cs:QF}{n:Int}{t:Th}(h:zl cs n=none):addT cs n t=cs++ [(n,t)]:=by unfold addT;rw[h]
theorem zbD {cs:QF}{n:Int}{t u:Th}(h:zl cs n=some u):addT cs n t=cs:=by unfold addT;rw[h]
theorem zmW (cs:QF)(n:Int)(t:Th):(addT cs n t).length<=cs.length+1:=by
 cases e:zl cs n with
 | none=>rw[zbB e,List.length_append];exact Jb _
 | some u=>rw[zbD e];omega
theorem DRep.add {H:Hp}{cs:QF}{kvs:QG}{n:Int}{t:Th}{v:V}(r:DRep H cs kvs)(h:Rep H t v)(f:Fits cs n t)(nd:(cs.map (·.1)).Nodup):DRep H (addT cs n t) (putK kvs (.inl n) v):=by
 rcases f with f | f
 ·rw[zbB f];exact r.put h f
 ·rw[zbD f];exact r.again h f nd
theorem GoodC.add {cs:QF}{n:Int}{t:Th}(g:GoodC cs)(gt:Good t)(sn:zm t=n):GoodC (addT cs n t):=by
 cases e:zl cs n with
 | some u=>rw[zbD e];exact g
 | none=>
  rw[zbB e];refine⟨?_,λp hp=>?_⟩
  ·rw[List.map_append,List.nodup_append];refine⟨g.nd,by simp,λa ha b hb=>?_⟩;cases List.mem_singleton.mp hb;exact λz=>zjD e (by have z':a=n:=z;rw[<-z'];exact ha)
  ·rcases List.mem_append.mp hp with h | h
   ·exact g.gd p h
   ·cases List.mem_singleton.mp h;exact⟨gt,sn⟩
theorem GoodC.nil:GoodC []:=⟨List.nodup_nil,λp h=>by cases h⟩
theorem GoodC.dep {cs:QF}{n:Int}{t:Th}(g:GoodC cs)(e:zl cs n=some t):Good t/\zm t=n:=g.gd _ (zga e)
theorem zlc {cs:QF}{n m:Int}{t u:Th}(e:zl cs m=some u):zl (addT cs n t) m=some u:=by
 cases z:zl cs n with
 | some y=>rw[zbD z];exact e
 | none=>rw[zbB z,zcQ,e]
theorem zea {cs:QF}{n:Int}{t:Th}(f:Fits cs n t):zl (addT cs n t) n=some t:=by
 rcases f with f | f
 ·rw[zbB f,zcQ,f];exact if_pos rfl
 ·rw[zbD f];exact f
theorem zfx {cs:QF}{n m:Int}{t u:Th}(e:zl (addT cs n t) m=some u):zl cs m=some u\/(m=n/\u=t):=by
 cases z:zl cs n with
 | some y=>rw[zbD z] at e;exact .inl e
 | none=>
  rw[zbB z,zcQ] at e;cases y:zl cs m with
  | some w=>rw[y] at e;exact .inl e
  | none=>
   rw[y] at e;by_cases q:n=m
   ·have e':(if n=m then some t else none)=some u:=e;rw[if_pos q] at e';cases e';exact .inr ⟨q.symm,rfl⟩
   ·have e':(if n=m then some t else none)=some u:=e;rw[if_neg q] at e';cases e'
end Pv
namespace Pv
open PySem L2
noncomputable abbrev zd1:Stmt:=top 16
noncomputable abbrev ziB:Stmt:=top 41
noncomputable abbrev ziz:Stmt:=top 40
noncomputable abbrev zcJ:Stmt:=top 39
noncomputable abbrev zcI:Stmt:=top 42
noncomputable abbrev zqD:Stmt:=top 43
noncomputable abbrev zoc:Stmt:=top 44
open Tr
theorem Mt.imp {P:Program}{w:World}{K:QA}{mg:QB}{base:Heap}{CX:CXT}{C:Addr}{m:Str}{k:Nat}{ps:QP}{sp sp':Sp}(F:Mt P w K mg base CX C m k ps sp)(h:∀vs H Q E,sp' vs H Q E->sp vs H Q E):Mt P w K mg base CX C m k ps sp':=by obtain⟨f,fd,a,b⟩:=F.ex;exact⟨f,fd,a.imp h,b⟩
structure VS (H:Hp)(C a d:Addr)(cs:QF):Prop where
 vo:∃kv,VOk H C a d kv/\DRep H cs kv
 gc:GoodC cs
noncomputable def Fr1 (d:Addr)(H H':Hp):Prop:=∀b o,b≠d->H b=some o->H' b=some o
noncomputable def Cl (CC:Addr)(E:XK):Prop:=∀(t1 t2:Th) (v1 v2:V) (H:Hp) (x:Addr),Rep H t1 v1->Rep H t2 v2->Good t1->Good t2->t1≠t2->zm t1=zm t2->H x=some (xdO x [("one",v1),("other",v2)])->E (.ref CC) (some x) H
inductive zrJ (C CC:Addr) (vs:QQ) (H:Hp) (Q:L2.VK) (E:XK):Prop
 | mk (a d:Addr) (cs:QF) (t:Th) (v:V) (_:vs=[.ref a,v]) (_:VS H C a d cs) (_:cs.length<=1000000) (_:Rep H t v) (_:Good t) (_:Cl CC E) (_:∀H',Fr1 d H H'->Fits cs (zm t) t->VS H' C a d (addT cs (zm t) t)->Q (.int (zm t)) H'):zrJ C CC vs H Q E
inductive zmB (C:Addr) (vs:QQ) (H:Hp) (Q:L2.VK) (_E:XK):Prop
 | mk (a d:Addr) (cs:QF) (n:Int) (t:Th) (_:vs=[.ref a,.int n]) (_:VS H C a d cs) (_:zl cs n=some t) (_:∀v,Rep H t v->Q v H):zmB C vs H Q _E
structure NodeOk (k wo:Th)(l r c:Int):Prop where
 k0:k≠ .non
 w0:wo≠ .non
 l0:0<=l
 r0:0<=r
 c1:1<=c
 c2:c<=300
inductive zrV (vs:QQ) (H:Hp) (Q:L2.VK) (_E:XK):Prop
 | mk (i:Int) (_:vs=[.int i]) (_:0<=i) (_:Q (.bl true) H):zrV vs H Q _E
inductive zmv (vs:QQ) (H:Hp) (Q:L2.VK) (_E:XK):Prop
 | mk (v:V) (k wo:Th) (l r c:Int) (_:vs=[v]) (_:Rep H (zbd k wo l r c) v) (_:NodeOk k wo l r c) (_:Q (.bl true) H):zmv vs H Q _E
structure TOk (cs:QF)(T:Tr):Prop where
 iv:T.InV cs
 ky:∀p∈T.ps,KeyT p.1/\KeyT p.2
 ct:T.cnt<=300
theorem TOk.mono {cs cs':QF}{T:Tr}(t:TOk cs T)(s:Sub cs cs'):TOk cs' T:=⟨InV.mono s t.iv,t.ky,t.ct⟩
theorem TOk.nil {cs:QF}:TOk cs Tr.nil:=⟨trivial,λp h=>(nomatch h),Nat.zero_le _⟩
theorem TOk.l {cs:QF}{l r:Tr}{k w:Th}(t:TOk cs (node l k w r)):TOk cs l:=⟨t.iv.2.1,λp h=>t.ky p (Jp _ h),by have:=t.ct;rw[zB] at this;omega⟩
theorem TOk.r {cs:QF}{l r:Tr}{k w:Th}(t:TOk cs (node l k w r)):TOk cs r:=⟨t.iv.2.2,λp h=>t.ky p (Jh _ (Jd _ h)),by have:=t.ct;rw[zB] at this;omega⟩
theorem TOk.kw {cs:QF}{l r:Tr}{k w:Th}(t:TOk cs (node l k w r)):KeyT k/\KeyT w:=t.ky (k,w) (Jh _ List.mem_cons_self)
theorem TOk.kid {cs:QF}{T:Tr}{x:Th}(t:TOk cs T):TOk cs (T.kid x):=by
 cases T with
 | nil=>exact .nil
 | node l k w r=>
  show TOk cs (if zd k x=true then r else l);split
  ·exact t.r
  ·exact t.l
theorem TOk.down {cs:QF}{x:Th}:∀{n:Nat} {T:Tr},TOk cs T->TOk cs (down x n T)
 | 0,_,t=>t
 | n+1,_,t=>TOk.down (n:=n) t.kid
theorem KeyT.good (k:KeyT t):Good t:=⟨k.wf,Ji k.dp (by decide),Ji k.nd (by decide)⟩
theorem zk7 {l r c:Int}(hk:KeyT k)(hw:KeyT wo)(l0:0<=l)(l1:l<=10 ^ 30)(r0:0<=r)(r1:r<=10 ^ 30)(c0:1<=c)(c1:c<=300):NodeOk k wo l r c/\Good (zbd k wo l r c):=by
 refine⟨⟨hk.ne,hw.ne,l0,r0,c0,c1⟩,⟨⟨by show(5:Nat)<=40;decide,hk.wf,hw.wf,⟨by omega,l1⟩,⟨by omega,r1⟩,⟨by omega,by omega⟩,trivial⟩,?_,?_⟩⟩
 ·have h1:=hk.dp;have h2:=hw.dp;show max (dep k) (max (dep wo) (max 0 (max 0 (max 0 0))))+1<=8;omega
 ·have h1:=hk.nd;have h2:=hw.nd;show 1+(nodes k+(nodes wo+(1+(1+(1+0)))))<=80;omega
theorem zbS (hk:KeyT k)(hw:KeyT w)(h:(node l k w r).cnt<=300):NodeOk k w l.root r.root (((l.ps++(k,w)::r.ps).length:Nat):Int)/\Good (node l k w r).thing:=by have h1:=za2 l;have h2:=za2 r;have h3:(l.ps++(k,w)::r.ps).length=(node l k w r).cnt:=rfl;have h4:=zB l k w r;exact zk7 hk hw h1.1 (by omega) h2.1 (by omega) (by omega) (by omega)
inductive ztg (C:Addr) (vs:QQ) (H:Hp) (Q:L2.VK) (_E:XK):Prop
 | mk (a d:Addr) (cs:QF) (l r:Tr) (k w:Th) (m:Int) (_:vs=[.ref a,.int (node l k w r).root,.int m]) (_:VS H C a d cs) (_:TOk cs (node l k w r)) (_:((node l k w r).cnt:Int) < m) (_:∀v,Rep H (node l k w r).thing v->Q v H):ztg C vs H Q _E
inductive zpY (C:Addr) (vs:QQ) (H:Hp) (Q:L2.VK) (_E:XK):Prop
 | mk (a d:Addr) (cs:QF) (T:Tr) (_:vs=[.ref a,.int T.root]) (_:VS H C a d cs) (_:TOk cs T) (_:Q (.int (T.cnt:Int)) H):zpY C vs H Q _E
inductive zm2 (C:Addr) (vs:QQ) (H:Hp) (Q:L2.VK) (_E:XK):Prop
 | mk (a d:Addr) (cs:QF) (T:Tr) (m:Int) (_:vs=[.ref a,.int T.root,.int m]) (_:VS H C a d cs) (_:TOk cs T) (_:(T.cnt:Int) < m) (_:Q (.int (T.cnt:Int)) H):zm2 C vs H Q _E
inductive zjF (vs:QQ) (H:Hp) (Q:L2.VK) (_E:XK):Prop
 | mk (t:Th) (v:V) (_:vs=[v]) (_:Rep H t v) (_:Good t) (_:∀H',Same H H'->Q (.int (zcn t)) H'):zjF vs H Q _E
inductive zg0 (vs:QQ) (H:Hp) (Q:L2.VK) (_E:XK):Prop
 | mk (t u:Th) (v w:V) (_:vs=[v,w]) (_:Rep H t v) (_:Rep H u w) (_:Good t) (_:Good u) (_:∀H',Same H H'->Q (.bl (zbR t u)) H'):zg0 vs H Q _E
theorem zlJ (g:Good t):Wf (.tup [.str ("rank" :Str),t])/\dep (.tup [.str ("rank" :Str),t]) < 10/\nodes (.tup [.str ("rank" :Str),t])<=100:=by
 have h1:=g.dp;have h2:=g.nd;refine⟨⟨by show(2:Nat)<=40;decide,⟨by decide+kernel,by decide+kernel⟩,g.wf,trivial⟩,?_,?_⟩
 ·show max 0 (max (dep t) 0)+1 < 10;omega
 ·show 1+(1+(nodes t+0))<=100;omega
theorem zv (rep:Rep H (zbd k wo l r c) v):∃a vk vw,v=.ref a/\H a=some (.tup [vk,vw,.int l,.int r,.int c])/\Rep H k vk/\Rep H wo vw:=by
 obtain⟨a,xs,e,ea,r1⟩:=rep.list;cases r1 with
 | cons h1 r2=>
 cases r2 with
 | cons h2 r3=>
 cases r3 with
 | cons h3 r4=>
 cases r4 with
 | cons h4 r5=>
 cases r5 with
 | cons h5 r6=>
 cases r6 with
 | nil=>
 cases h3;cases h4;cases h5;exact⟨a,_,_,e,ea,h1,h2⟩
section
variable {P:Program}{w:World}{K:QA}{mg:QB}{base:Heap}{C CC:Addr}{x:Str}{t1 t2 t3 t4 t5 t6 t7:Tok}
theorem zo6 (D:Dfn K mg "rank" zqD ["key"]) (zon:Fn P w K mg base "seal" 13 ["thing"] zfe):Fn P w K mg base "rank" 14 ["key"] zjF:=by refine D.ok (k:=13) (L2.fsN ["key"]) (λf cdv A outer s H vs Q E hr h=>?_);obtain⟨t,v,rfl,rt,gt,q⟩:=h;obtain⟨g1,g2,g3⟩:=zlJ gt;refine⟨_,(by ac_rfl),?_⟩;refine⟨_,rfl,szl (show 2<=1000 by decide),λp hp=>?_⟩;exact⟨_,_,rfl,(RepL.cons (.str _) (.cons rt .nil)).new hp,g1,g2,g3,λH' s'=>q H' ((zh (Same.refl H) hp).trans s')⟩
theorem znc (D:Dfn K mg "above" zoc ["key","other"]) (ztN:Fn P w K mg base "rank" 14 ["key"] zjF) (zcD:Fn P w K mg base "ahead" 20 ["one","other"] (zaY 9)):Fn P w K mg base "above" 21 ["key","other"] zg0:=by
 refine D.ok (k:=20) (L2.fsN ["key","other","mine","its"]) (λf cdv A outer s H vs Q E hr h=>?_);obtain⟨t,u,v,w,rfl,rt,ru,gt,gu,q⟩:=h;refine⟨_,(by ac_rfl),?_⟩;refine⟨_,rfl,t,v,rfl,rt,gt,λH1 s1=>?_⟩;refine⟨_,rfl,u,w,rfl,ru.keep (Same.tups s1),gu,λH2 s2=>?_⟩;have s12:=s1.trans s2;have gd:=gt.dp;refine⟨_,rfl,_,rfl,rfl,_,rfl,?_⟩;rw[zu];refine ifB (λc=>?_) (λc=>?_)
 ·have ne:zcn t≠zcn u:=λz=>by rw[decide_eq_true z] at c;cases c
  refine⟨_,rfl,_,rfl,_,_,rfl,rfl,?_⟩;have:=q H2 s12;unfold zbR at this;rw[if_neg ne] at this;exact this
 ·have eq:zcn t=zcn u:=by
   by_cases z:zcn t=zcn u
   ·exact z
   ·rw[decide_eq_false z] at c;cases c
  refine⟨_,rfl,_,rfl,t,u,v,w,rfl,rt.keep (Same.tups s12),ru.keep (Same.tups s12),by omega,by omega,λH3 s3=>?_⟩;have:=q H3 (s12.trans s3);unfold zbR at this;rw[if_pos eq] at this;exact this
end
end Pv
namespace Pv
open PySem L2
theorem zaJ (r:Rep H t v):decide (v=V.non)=decide (t=.non):=by
 cases r with
 | non=>rfl
 | int i=>exact(decide_eq_false (by intro z;cases z)).trans (decide_eq_false (by intro z;cases z)).symm
 | str x=>exact(decide_eq_false (by intro z;cases z)).trans (decide_eq_false (by intro z;cases z)).symm
 | tup e l h=>exact(decide_eq_false (by intro z;cases z)).trans (decide_eq_false (by intro z;cases z)).symm
structure Nd where
 k:Th
 w:Th
 l:Int
 r:Int
 c:Int
noncomputable abbrev Nd.th (n:Nd):Th:=zbd n.k n.w n.l n.r n.c
noncomputable def isW:Th->Bool
 | .int _=>true
 | _=>false
noncomputable def isR:Th->Bool
 | .int i=>decide (0<=i)
 | _=>false
noncomputable def zn6:Th->Bool
 | .int i=>decide (1<=i) && decide (i<=300)
 | _=>false
noncomputable def isN:Th->Bool
 | .tup [k,w,l,r,c]=>!decide (k=.non) && (!decide (w=.non) && (isR l && (isR r && zn6 c)))
 | _=>false
noncomputable def ndOf:Th->Option Nd
 | .tup [k,w,.int l,.int r,.int c]=>if isN (.tup [k,w,.int l,.int r,.int c])=true then some ⟨k,w,l,r,c⟩ else none
 | _=>none
theorem zj5 {ts:List Th}(h:ts.length≠5):isN (.tup ts)=false:=by
 match ts,h with
 | [],_=>rfl
 | [_],_=>rfl
 | [_,_],_=>rfl
 | [_,_,_],_=>rfl
 | [_,_,_,_],_=>rfl
 | [_,_,_,_,_],h=>exact Je rfl h
 | _::_::_::_::_::_::_,_=>rfl
theorem zsc {nd:Nd}(h:NodeOk nd.k nd.w nd.l nd.r nd.c):isN nd.th=true:=by
 show(!decide (nd.k=.non) && (!decide (nd.w=.non) && (decide (0<=nd.l) && (decide (0<=nd.r) && (decide (1<=nd.c) && decide (nd.c<=300))))))=true;rw[decide_eq_false h.k0,decide_eq_false h.w0,decide_eq_true h.l0,decide_eq_true h.r0,decide_eq_true h.c1,decide_eq_true h.c2]
 rfl
theorem zod {nd:Nd}(h:isN nd.th=true):NodeOk nd.k nd.w nd.l nd.r nd.c:=by have h':(!decide (nd.k=.non) && (!decide (nd.w=.non) && (decide (0<=nd.l) && (decide (0<=nd.r) && (decide (1<=nd.c) && decide (nd.c<=300))))))=true:=h;simp only[Bool.and_eq_true,Bool.not_eq_true',decide_eq_false_iff_not,decide_eq_true_eq] at h';obtain⟨a,b,c,d,e,f⟩:=h';exact⟨a,b,c,d,e,f⟩
theorem zkL {nd:Nd}(h:isN nd.th=true):ndOf nd.th=some nd:=by show(if isN nd.th=true then some nd else none)=some nd;rw[if_pos h]
theorem zkq (h:isR t=true):∃i,t=.int i:=by
 cases t with
 | int i=>exact⟨i,rfl⟩
 | non=>cases h
 | str x=>cases h
 | tup ts=>cases h
theorem zrd (h:isN t=true):∃nd:Nd,t=nd.th:=by
 cases t with
 | non=>cases h
 | int i=>cases h
 | str x=>cases h
 | tup ts=>
  by_cases hl:ts.length=5
  ·match ts,hl,h with
   | [k,w,l,r,c],_,h=>
    have h':(!decide (k=.non) && (!decide (w=.non) && (isR l && (isR r && zn6 c))))=true:=h;simp only[Bool.and_eq_true] at h';obtain⟨_,_,h3,h4,h5⟩:=h';obtain⟨l',rfl⟩:=zkq h3;obtain⟨r',rfl⟩:=zkq h4;cases c with
    | int c'=>exact⟨⟨k,w,l',r',c'⟩,rfl⟩
    | non=>cases h5
    | str x=>cases h5
    | tup ts=>cases h5
  ·rw[zj5 hl] at h;cases h
theorem zdL {nd:Nd}(h:ndOf t=some nd):t=nd.th/\isN t=true:=by
 unfold ndOf at h;split at h
 ·rename_i k w l r c;split at h
  ·rename_i z;cases h;exact⟨rfl,z⟩
  ·cases h
 ·cases h
theorem zlM (h:ndOf t=none):isN t=false:=by
 cases z:isN t with
 | false=>rfl
 | true=>obtain⟨nd,rfl⟩:=zrd z;rw[zkL z] at h;cases h
inductive zcb (vs:QQ) (H:Hp) (Q:L2.VK) (_E:XK):Prop
 | mk (t:Th) (v:V) (_:vs=[v]) (_:Rep H t v) (_:Q (.bl (isW t)) H):zcb vs H Q _E
inductive zc0 (vs:QQ) (H:Hp) (Q:L2.VK) (_E:XK):Prop
 | mk (t:Th) (v:V) (_:vs=[v]) (_:Rep H t v) (_:Q (.bl (isR t)) H):zc0 vs H Q _E
inductive znd (vs:QQ) (H:Hp) (Q:L2.VK) (_E:XK):Prop
 | mk (t:Th) (v:V) (_:vs=[v]) (_:Rep H t v) (_:Q (.bl (isN t)) H):znd vs H Q _E
section
variable {P:Program}{w:World}{K:QA}{mg:QB}{base:Heap}{x:Str}{t1 t2 t3 t4 t5 t6 t7:Tok}
theorem zlU (D:Dfn K mg "is_whole" zd1 ["value"]) (zk:mg "isinstance" =none) (zb1:mg "int" =none) (zhE:mg "bool" =none):Fn P w K mg base "is_whole" 1 ["value"] zcb:=by
 refine D.ok (k:=0) (L2.fsN ["value"]) (λf cdv A outer s H vs Q E hr h=>?_);obtain⟨t,v,rfl,rt,q⟩:=h;refine⟨_,(by ac_rfl),?_⟩;cases rt with
 | non=>exact⟨_,rfl,_,_,_,_,rfl,.non,rfl,_,rfl,ifF rfl q⟩
 | int i=>refine⟨_,rfl,_,_,_,_,rfl,.int i,rfl,_,rfl,ifT rfl ?_⟩;exact⟨_,rfl,_,_,_,_,rfl,.int i,rfl,_,rfl,q⟩
 | str x=>exact⟨_,rfl,_,_,_,_,rfl,.str x,rfl,_,rfl,ifF rfl q⟩
 | tup e l h=>exact⟨_,rfl,_,_,_,_,rfl,.tup e,rfl,_,rfl,ifF rfl q⟩
theorem zmX (D:Dfn K mg "is_root" ziB ["thing"]) (zcY:Fn P w K mg base "is_whole" 1 ["value"] zcb):Fn P w K mg base "is_root" 2 ["thing"] zc0:=by
 refine D.ok (k:=1) (L2.fsN ["thing"]) (λf cdv A outer s H vs Q E hr h=>?_);obtain⟨t,v,rfl,rt,q⟩:=h;refine⟨_,(by ac_rfl),?_⟩;refine⟨_,rfl,t,v,rfl,rt,_,rfl,?_⟩;cases rt with
 | non=>exact ifF rfl q
 | int i=>exact ifT rfl ⟨_,rfl,_,_,rfl,rfl,q⟩
 | str x=>exact ifF rfl q
 | tup e l h=>exact ifF rfl q
theorem zlS (D:Dfn K mg "is_node" ziz ["thing"]) (zgH:Fn P w K mg base "is_root" 2 ["thing"] zc0) (zcY:Fn P w K mg base "is_whole" 1 ["value"] zcb) (zk:mg "isinstance" =none) (zE:mg "tuple" =none) (zt:mg "len" =none)
  (zaB:mg "KEY" =some (.int 0 t1)) (zbk:mg "WORTH" =some (.int 1 t2)) (zaw:mg "LEFT" =some (.int 2 t3)) (zag:mg "RIGHT" =some (.int 3 t4)) (zN:mg "COUNT" =some (.int 4 t5)) (zdB:mg "MOST_NODES" =some (.int 300 t6)):
  Fn P w K mg base "is_node" 3 ["thing"] znd:=by
 refine D.ok (k:=2) (L2.fsN ["thing"]) (λf cdv A outer s H vs Q E hr h=>?_);obtain⟨t,v,rfl,rt,q⟩:=h;refine⟨_,(by have ι:=0;ac_rfl),?_⟩;cases rt with
 | non=>exact⟨_,rfl,_,_,_,_,rfl,.non,rfl,_,rfl,ifT rfl (ifT rfl q)⟩
 | int i=>exact⟨_,rfl,_,_,_,_,rfl,.int i,rfl,_,rfl,ifT rfl (ifT rfl q)⟩
 | str x=>exact⟨_,rfl,_,_,_,_,rfl,.str x,rfl,_,rfl,ifT rfl (ifT rfl q)⟩
 | @tup a xs ts ea l0 h0=>
  refine⟨_,rfl,_,_,_,_,rfl,.tup ea,rfl,_,rfl,ifF rfl ?_⟩;refine⟨_,rfl,a,_,rfl,.inr (SqT.of ea),rfl,_,rfl,?_⟩;rw[zu];by_cases hl:ts.length=5
  ·have rep:Rep H (.tup ts) (.ref a):=.tup ea l0 h0
   match ts,hl,rep,q with
   | [k,wo,l,r,c],_,rep,q=>
   obtain⟨a',xs',e,ea',r1⟩:=rep.list;cases e;rw[ea] at ea';cases ea';cases r1 with
   | cons rk r2=>
   cases r2 with
   | cons rw' r3=>
   cases r3 with
   | cons rl r4=>
   cases r4 with
   | cons rr r5=>
   cases r5 with
   | cons rc r6=>
   cases r6 with
   | nil=>
   refine ifF (by rfl) ?_;rename_i vk vw vl vr vc;have et:SqT K H a [vk,vw,vl,vr,vc]:=SqT.of ea;have q':Q (.bl (!decide (k=.non) && (!decide (wo=.non) && (isR l && (isR r && zn6 c))))) H:=q;refine⟨_,rfl,a,_,_,_,rfl,rfl,et,rfl,rfl,_,rfl,?_⟩;rw[zaJ rk];cases z1:decide (k=.non) with
   | true=>rw[z1] at q';exact ifT rfl (ifT rfl q')
   | false=>
   rw[z1] at q';refine ifF rfl ?_;refine⟨_,rfl,a,_,_,_,rfl,rfl,et,rfl,rfl,_,rfl,?_⟩;rw[zaJ rw'];cases z2:decide (wo=.non) with
   | true=>rw[z2] at q';exact ifT rfl q'
   | false=>
   rw[z2] at q';refine ifF rfl ?_;refine⟨_,rfl,a,_,_,_,rfl,rfl,et,rfl,l,_,rfl,rl,_,rfl,?_⟩;cases z3:isR l with
   | false=>rw[z3] at q';exact ifT rfl (ifT rfl q')
   | true=>
   rw[z3] at q';refine ifF rfl ?_;refine⟨_,rfl,a,_,_,_,rfl,rfl,et,rfl,r,_,rfl,rr,_,rfl,?_⟩;cases z4:isR r with
   | false=>rw[z4] at q';exact ifT rfl q'
   | true=>
   rw[z4] at q';refine ifF rfl ?_;refine⟨_,rfl,a,_,_,_,rfl,rfl,et,rfl,c,_,rfl,rc,_,rfl,?_⟩;cases rc with
   | non=>exact ifF rfl q'
   | str x=>exact ifF rfl q'
   | tup e l h=>exact ifF rfl q'
   | int i=>
    refine ifT rfl ?_;refine⟨_,rfl,a,_,_,_,rfl,rfl,et,rfl,_,_,rfl,rfl,_,rfl,?_⟩;have q2:Q (.bl (decide (1<=i) && decide (i<=300))) H:=q';cases z5:decide (1<=i) with
    | false=>rw[z5] at q2;exact ifF rfl q2
    | true=>rw[z5] at q2;exact ifT rfl ⟨_,_,rfl,rfl,q2⟩
  ·rw[zj5 hl] at q;refine ifT (by rw[l0];rw[decide_eq_false (show¬((ts.length:Nat):Int)=5 by omega)];rfl) q
end
end Pv
namespace Pv
open PySem L2
inductive Er where
 | bad
 | lacks
 | clash (u t:Th)
structure Vst where
 own:List (Int ×Th)
 kp:List (Int ×Th)
 nt:List (Int ×Th)
 n:Nat
noncomputable def Vst.all (s:Vst):List (Int ×Th):=s.own++s.kp
noncomputable def Vst.look (s:Vst)(n:Int):Option (Th ×Vst):=
 match zl s.own n with
 | some t=>some (t,{s with n:=s.n - 1})
 | none=>match zl s.kp n with
  | some t=>some (t,{s with nt:=addT s.nt n t,n:=s.n - 1})
  | none=>none
noncomputable def Vst.add (s:Vst)(t:Th):Vst:={s with own:=addT s.own (zm t) t,n:=s.n - 1}
noncomputable def Vst.stop (s:Vst)(t:Th):Option Th:=match zl s.all (zm t) with
 | none=>none
 | some u=>if u=t then none else some u
inductive Pg (α:Type) where
 | ret (x:α)
 | bad
 | rd (n:Int) (k:Th->Pg α)
 | lay (t:Th) (k:Pg α)
noncomputable def Pg.bind {α β:Type}:Pg α->(α->Pg β)->Pg β
 | .ret x,f=>f x
 | .bad,_=>.bad
 | .rd n k,f=>.rd n λt=>(k t).bind f
 | .lay t k,f=>.lay t (k.bind f)
noncomputable def Pg.wp {α:Type}:Pg α->Vst->(α->Vst->Prop)->(Er->Vst->Prop)->Prop
 | .ret x,s,q,_=>q x s
 | .bad,s,_,e=>e .bad s
 | .rd n k,s,q,e=>0 < s.n/\(∀t s',s.look n=some (t,s')->(k t).wp s' q e)/\(s.look n=none->e .lacks s)
 | .lay t k,s,q,e=>0 < s.n/\Good t/\(s.stop t=none->k.wp (s.add t) q e)/\(∀u,s.stop t=some u->e (.clash u t) s)
theorem Pg.wp_bind {α:Type}{f:α->Pg β}{q:β->Vst->Prop}{e:Er->Vst->Prop}:∀{p:Pg α} {s:Vst},(p.bind f).wp s q e=p.wp s (λx s'=>(f x).wp s' q e) e
 | .ret x,s=>rfl
 | .bad,s=>rfl
 | .rd n k,s=>by show(0 < s.n/\(∀t s',s.look n=some (t,s')->((k t).bind f).wp s' q e)/\(s.look n=none->e .lacks s))=(0 < s.n/\(∀t s',s.look n=some (t,s')->(k t).wp s' (λx s'=>(f x).wp s' q e) e)/\(s.look n=none->e .lacks s));rw[show(∀t s',s.look n=some (t,s')->((k t).bind f).wp s' q e)=(∀t s',s.look n=some (t,s')->(k t).wp s' (λx s'=>(f x).wp s' q e) e) from forall_congr λt=>forall_congr λs'=>by rw[wp_bind (p:=k t)]]
 | .lay t k,s=>by show(0 < s.n/\Good t/\(s.stop t=none->(k.bind f).wp (s.add t) q e)/\(∀u,s.stop t=some u->e (.clash u t) s))=(0 < s.n/\Good t/\(s.stop t=none->k.wp (s.add t) (λx s'=>(f x).wp s' q e) e)/\(∀u,s.stop t=some u->e (.clash u t) s));rw[wp_bind (p:=k)]
theorem Pg.wp_mono {α:Type}{q q':α->Vst->Prop}{e e':Er->Vst->Prop}(hq:∀x s,q x s->q' x s)(he:∀r s,e r s->e' r s):∀{p:Pg α} {s:Vst},p.wp s q e->p.wp s q' e'
 | .ret x,s,h=>hq x s h
 | .bad,s,h=>he _ s h
 | .rd n k,s,⟨h0,h,h2⟩=>⟨h0,λt s' z=>wp_mono hq he (h t s' z),λz=>he _ s (h2 z)⟩
 | .lay t k,s,⟨h0,hg,h,h2⟩=>⟨h0,hg,λz=>wp_mono hq he (h z),λu z=>he _ s (h2 u z)⟩
noncomputable def NL (H H':Hp):Prop:=∀b o,(∀xs,o≠ .lst xs)->H b=some o->H' b=some o
theorem Same.nl (s:Same H H'):NL H H':=λb o _ e=>s b o e
theorem NL.lst {H:Hp}{p:Addr}{xs ys:QQ}(e:H p=some (.lst xs)):NL H (upd H p (.lst ys)):=λb o h q=>by rw[zg (λz=>by rw[z,e] at q;cases q;exact h xs rfl)];exact q
noncomputable abbrev VRT:=Hp->Addr->List Addr->Vst->Prop
structure VI (C:Addr)(VR:VRT):Prop where
 ins:∀{H a D s},VR H a D s->∃dx fs,H a=some (.ins C dx fs)/\fs.lookup ("thing" :Str)=none/\fs.lookup ("lay" :Str)=none
 dic:∀{H a D s},VR H a D s->∀d∈D,∃kv,H d=some (.dK kv)
 nl:∀{H H' a D s},VR H a D s->NL H H'->VR H' a D s
theorem VI.same (I:VI C VR){H:Hp}{a:Addr}{D:QO}{s:Vst}(v:VR H a D s)(sm:Same H H'):VR H' a D s:=I.nl v (Same.nl sm)
theorem VI.not (I:VI C VR){H:Hp}{a b:Addr}{D:QO}{s:Vst}{o:HO}(v:VR H a D s)(e:H b=some o)(h:∀kv,o≠ .dK kv):b∉D:=λz=>by obtain⟨kv,ek⟩:=I.dic v b z;rw[ek] at e;cases e;exact h kv rfl
theorem VI.tups (I:VI C VR){H:Hp}{a:Addr}{D:QO}{s:Vst}(v:VR H a D s)(f:Frm D H H'):Tups H H':=λb xs e=>f b _ (I.not v e (by intro kv z;cases z)) e
theorem VI.lst {C:Addr}{VR:VRT}(I:VI C VR){H H':Hp}{a b:Addr}{D:QO}{s:Vst}{xs:QQ}(v:VR H a D s)(f:Frm D H H')(e:H b=some (.lst xs)):H' b=some (.lst xs):=f b _ (I.not v e (by intro kv z;cases z)) e
noncomputable def OutE (VR:VRT)(CN CB CC a:Addr)(D:QO)(H:Hp)(E:XK):Er->Vst->Prop
 | .bad,s=>∀H',Frm D H H'->VR H' a D s->E (.ref CB) none H'
 | .lacks,s=>∀H',Frm D H H'->VR H' a D s->E (.ref CN) none H'
 | .clash u t,s=>∀(x:Addr) (v1 v2:V) (H':Hp),Frm D H H'->VR H' a D s->Rep H' u v1->Rep H' t v2->Good u->Good t->u≠t->zm u=zm t->H' x=some (xdO x [("one",v1),("other",v2)])->E (.ref CC) (some x) H'
theorem OutE.on (f:Frm D H H1):∀r s,OutE VR CN CB CC a D H E r s->OutE VR CN CB CC a D H1 E r s
 | .bad,s,h=>λH' f' v=>h H' (f.trans f') v
 | .lacks,s,h=>λH' f' v=>h H' (f.trans f') v
 | .clash u t,s,h=>λx v1 v2 H' f' v=>h x v1 v2 H' (f.trans f') v
noncomputable def OutQ {α:Type}(VR:VRT)(a:Addr)(D:QO)(rp:Hp->α->V->Prop)(H:Hp)(Q:V->Hp->Prop)(x:α)(s:Vst):Prop:=∀v H',Frm D H H'->VR H' a D s->rp H' x v->Q v H'
theorem OutQ.on {α:Type}{rp:Hp->α->V->Prop}(f:Frm D H H1)(x:α)(s:Vst)(h:OutQ VR a D rp H Q x s):OutQ VR a D rp H1 Q x s:=λv H' f'=>h v H' (f.trans f')
noncomputable abbrev Out {α:Type}(VR:VRT)(CN CB CC a:Addr)(D:QO)(p:Pg α)(s:Vst)(rp:Hp->α->V->Prop)(H:Hp)(Q:V->Hp->Prop)(E:XK):Prop:=p.wp s (OutQ VR a D rp H Q) (OutE VR CN CB CC a D H E)
inductive zfg (VR:VRT) (CN:Addr) (vs:QQ) (H:Hp) (Q:L2.VK) (E:XK):Prop
 | mk (a:Addr) (D:QO) (s:Vst) (n:Int) (_:vs=[.ref a,.int n]) (_:VR H a D s) (_:0 < s.n) (_:(∀t s' v H',s.look n=some (t,s')->Frm D H H'->VR H' a D s'->Rep H' t v->Good t->Q v H')) (_:(∀H',s.look n=none->Frm D H H'->VR H' a D s->E (.ref CN) none H')):zfg VR CN vs H Q E
inductive zff (VR:VRT) (CC:Addr) (vs:QQ) (H:Hp) (Q:L2.VK) (E:XK):Prop
 | mk (a:Addr) (D:QO) (s:Vst) (t:Th) (v:V) (_:vs=[.ref a,v]) (_:VR H a D s) (_:0 < s.n) (_:Rep H t v) (_:Good t) (_:(∀H',s.stop t=none->Frm D H H'->VR H' a D (s.add t)->Q (.int (zm t)) H')) (_:(∀(u:Th) (x:Addr) (v1 v2:V) (H':Hp),s.stop t=some u->Frm D H H'->VR H' a D s->Rep H' u v1->Rep H' t v2->Good u->Good t->u≠t->zm u=zm t->H' x=some (xdO x [("one",v1),("other",v2)])->E (.ref CC) (some x) H')):zff VR CC vs H Q E
noncomputable def NdR (H:Hp)(nd:Nd)(v:V):Prop:=Rep H nd.th v/\Good nd.th
noncomputable def benK (m:Int)(t:Th):Pg Nd:=match ndOf t with
 | none=>.bad
 | some nd=>if nd.c < m then .ret nd else .bad
theorem zdM (h:ndOf t=none):benK m t=.bad:=by unfold benK;rw[h]
theorem zcv {nd:Nd}(h:ndOf t=some nd):benK m t=if nd.c < m then .ret nd else .bad:=by unfold benK;rw[h]
noncomputable def benP (n m:Int):Pg Nd:=.rd n (benK m)
theorem ztm {s:Vst}{q:Nd->Vst->Prop}{e:Er->Vst->Prop}(h:(benP n m).wp s q e):(benP n m).wp s (λnd s'=>(1<=nd.c/\nd.c < m)/\q nd s') e:=by
 refine⟨h.1,λt s' z=>?_,h.2.2⟩;have h1:=h.2.1 t s' z;cases y:ndOf t with
 | none=>rw[zdM y] at h1 ⊢;exact h1
 | some nd=>
  rw[zcv y] at h1 ⊢;obtain⟨rfl,zz⟩:=zdL y;by_cases hc:nd.c < m
  ·rw[if_pos hc] at h1 ⊢;exact⟨⟨(zod zz).c1,hc⟩,h1⟩
  ·rw[if_neg hc] at h1 ⊢;exact h1
noncomputable def zcO (n m:Int):Pg Int:=if n=0 then .ret 0 else(benP n m).bind λnd=>.ret nd.c
noncomputable def IntR (_:Hp)(i:Int)(v:V):Prop:=v=.int i
noncomputable def NonR (_:Hp)(_:Unit)(v:V):Prop:=v=.non
noncomputable def sumP (nd:Nd):Pg Unit:=(zcO nd.l nd.c).bind λx=>(zcO nd.r nd.c).bind λy=>if x+y+1=nd.c then .ret () else .bad
inductive ze1 (VR:VRT) (CN CB CC:Addr) (vs:QQ) (H:Hp) (Q:L2.VK) (E:XK):Prop
 | mk (a:Addr) (D:QO) (s:Vst) (n m:Int) (_:vs=[.ref a,.int n,.int m]) (_:VR H a D s) (_:Out VR CN CB CC a D (benP n m) s NdR H Q E):ze1 VR CN CB CC vs H Q E
inductive zfn (VR:VRT) (CN CB CC:Addr) (vs:QQ) (H:Hp) (Q:L2.VK) (E:XK):Prop
 | mk (a:Addr) (D:QO) (s:Vst) (n m:Int) (_:vs=[.ref a,.int n,.int m]) (_:VR H a D s) (_:Out VR CN CB CC a D (zcO n m) s IntR H Q E):zfn VR CN CB CC vs H Q E
inductive zp0 (VR:VRT) (CN CB CC:Addr) (vs:QQ) (H:Hp) (Q:L2.VK) (E:XK):Prop
 | mk (a:Addr) (D:QO) (s:Vst) (n:Int) (_:vs=[.ref a,.int n]) (_:VR H a D s) (_:Out VR CN CB CC a D (zcO n 301) s IntR H Q E):zp0 VR CN CB CC vs H Q E
inductive zjP (VR:VRT) (CN CB CC:Addr) (vs:QQ) (H:Hp) (Q:L2.VK) (E:XK):Prop
 | mk (a:Addr) (D:QO) (s:Vst) (nd:Nd) (v:V) (_:vs=[.ref a,v]) (_:VR H a D s) (_:NdR H nd v) (_:Out VR CN CB CC a D (sumP nd) s NonR H Q E):zjP VR CN CB CC vs H Q E
section
variable {P:Program}{w:World}{K:QA}{mg:QB}{base:Heap}{VR:VRT}{C CC CN CB:Addr}{x:Str}{t1 t2 t3 t4 t5 t6 t7:Tok}
theorem zo9 (I:VI C VR)(D:Dfn K mg "node_beneath" zcJ ["vault","root","count"]) (ztK:Mt P w K mg base (CX1 P w) C "thing" 2 ["self","number"] (zfg VR CN)) (c_K:Cls K C) (zsN:Fn P w K mg base "is_node" 3 ["thing"] znd) (zU:XP K mg "BadThing" CB) (zN:mg "COUNT" =some (.int 4 t5)):
  FnX P w K mg base "node_beneath" 4 ["vault","root","count"] (ze1 VR CN CB CC):=by
 refine D.okX (k:=3) (L2.fsN ["vault","root","count","node"]) (λf cdv A outer s H vs Q E hr h=>?_);obtain⟨a,D,s,n,m,rfl,vs,h⟩:=h;obtain⟨h0,h1,h2⟩:=h;obtain⟨dx,fs,eo,n1,n2⟩:=I.ins vs;refine⟨_,(by have ι:=0;ac_rfl),?_⟩;refine⟨_,rfl,a,dx,_,rfl,eo,n1,_,rfl,a,D,s,n,rfl,vs,h0,λt s' v H1 lt f1 vs1 rep gt=>?_,λH1 ln f1 vs1=>h2 ln H1 f1 vs1⟩;have h3:=h1 t s' lt;refine⟨_,rfl,t,v,rfl,rep,_,rfl,?_⟩;cases z:ndOf t with
 | none=>rw[zdM z] at h3;rw[zlM z];refine ifT rfl (ifT rfl ⟨szl (show 1<=1000 by decide),λe he=>⟨e,CB,none,rfl,zc,zU.cl.q,?_⟩⟩);rw[zbi he];exact h3 H1 f1 vs1
 | some nd=>
  rw[zcv z] at h3;obtain⟨rfl,zz⟩:=zdL z;rw[zz];obtain⟨p,vk,vw,rfl,ea,rk,rw'⟩:=zv rep;have et:SqT K H1 p [vk,vw,.int nd.l,.int nd.r,.int nd.c]:=SqT.of ea;refine ifF rfl ⟨_,rfl,p,_,_,_,rfl,rfl,et,rfl,_,rfl,_,_,rfl,rfl,_,rfl,?_⟩;by_cases hc:nd.c < m
  ·rw[if_pos hc] at h3;exact ifF (decide_eq_false (Int.not_le.mpr hc)) ⟨_,rfl,h3 _ H1 f1 vs1 ⟨rep,gt⟩⟩
  ·rw[if_neg hc] at h3;refine ifT (decide_eq_true (Int.not_lt.mp hc)) ⟨szl (show 1<=1000 by decide),λe he=>⟨e,CB,none,rfl,zc,zU.cl.q,?_⟩⟩;rw[zbi he];exact h3 H1 f1 vs1
theorem zln (I:VI C VR)(D:Dfn K mg "size_beneath" zcI ["vault","root","count"]) (zcq:FnX P w K mg base "node_beneath" 4 ["vault","root","count"] (ze1 VR CN CB CC)) (zN:mg "COUNT" =some (.int 4 t5)):
  FnX P w K mg base "size_beneath" 5 ["vault","root","count"] (zfn VR CN CB CC):=by
 refine D.okX (k:=4) (L2.fsN ["vault","root","count"]) (λf cdv A outer s H vs Q E hr h=>?_);obtain⟨a,D,s,n,m,rfl,vs,h⟩:=h;refine⟨_,(by have ι:=0;ac_rfl),?_⟩;refine⟨_,rfl,rfl,_,rfl,?_⟩;rw[zu];unfold zcO Out at h;by_cases h0:n=0
 ·rw[if_pos h0] at h;exact ifT (decide_eq_true h0) (h _ H (Frm.of (Same.refl H)) vs rfl)
 ·rw[if_neg h0,Pg.wp_bind] at h;refine ifF (decide_eq_false h0) ?_;refine⟨_,rfl,_,rfl,_,rfl,a,D,s,n,m,rfl,vs,Pg.wp_mono (λnd s' q v H1 f1 vs1 rn=>?_) (λ_ _ z=>z) h⟩;obtain⟨p,vk,vw,rfl,ea,rk,rw'⟩:=zv rn.1;exact⟨p,_,_,_,rfl,rfl,SqT.of ea,rfl,q _ H1 f1 vs1 rfl⟩
end
end Pv
namespace Pv
open PySem L2
noncomputable abbrev ziI:Stmt:=top 46
noncomputable abbrev zfM:Stmt:=top 55
noncomputable abbrev zkC:Stmt:=top 47
noncomputable abbrev zh9:Stmt:=top 48
noncomputable abbrev znR:Stmt:=top 49
theorem zc7 {xs:QQ}{v:V}:atI (xs++ [v]) (-1)=some v:=by
 unfold atI ixN;rw[if_neg (by decide),if_pos (by simp only[List.length_append,List.length_singleton];omega)];show(xs++ [v])[((-1:Int)+(((xs++ [v]).length:Nat):Int)).toNat]? =_;rw[show((-1:Int)+(((xs++ [v]).length:Nat):Int)).toNat=xs.length by simp only[List.length_append,List.length_singleton];omega,List.getElem?_append_right (Jb _),Nat.sub_self]
 rfl
theorem RepL.unsnoc {t:Th}:∀{ts:List Th} {vs:QQ},RepL H (ts++ [t]) vs->∃us v,vs=us++ [v]/\RepL H ts us/\Rep H t v
 | [],_,.cons h .nil=>⟨[],_,rfl,.nil,h⟩
 | u::ts,_,.cons h r=>by obtain⟨us,v,e,r',h'⟩:=RepL.unsnoc r;exact⟨_::us,v,by rw[e];rfl,.cons h r',h'⟩
theorem zcs {nd:Nd}(g:Good nd.th):dep nd.k<=7/\dep nd.w<=7:=by have h:max (dep nd.k) (max (dep nd.w) (max 0 (max 0 (max 0 0))))+1<=8:=Ji g.dp (by decide);omega
noncomputable def zb0 (k x:Th):Int:=if zd k x=true then 3 else 2
noncomputable def kidI (nd:Nd)(x:Th):Int:=if zd nd.k x=true then nd.r else nd.l
noncomputable def wayP (x:Th):Nat->Int->Int->Pg (List Nd)
 | 0,_,_=>.bad
 | f+1,n,m=>if n=0 then .ret [] else(benP n m).bind λnd=>if nd.k=x then .ret [nd] else(wayP x f (kidI nd x) nd.c).bind λns=>.ret (nd::ns)
noncomputable def WayR (H:Hp)(ns:List Nd)(v:V):Prop:=∃pw ws,v=.ref pw/\H pw=some (.lst ws)/\RepL H (ns.map Nd.th) ws/\(∀nd∈ns,Good nd.th)/\ns.length<=301
noncomputable def zen (ns:List Nd)(x:Th):Bool:=match ns.getLast? with
 | none=>false
 | some nd=>eqT nd.k x
noncomputable def endW (ns:List Nd)(x:Th):Th:=match ns.getLast? with
 | none=>.non
 | some nd=>if nd.k=x then nd.w else .non
noncomputable def zgZ (n:Int)(x:Th):Pg Th:=(wayP x 301 n 301).bind λns=>.ret (endW ns x)
noncomputable def ThR (H:Hp)(t:Th)(v:V):Prop:=Rep H t v
inductive zdt (vs:QQ) (H:Hp) (Q:L2.VK) (_E:XK):Prop
 | mk (v vx:V) (nd:Nd) (x:Th) (_:vs=[v,vx]) (_:Rep H nd.th v) (_:Rep H x vx) (_:dep nd.k<=7) (_:∀H',Same H H'->Q (.int (zb0 nd.k x)) H'):zdt vs H Q _E
noncomputable def zak (nd:Nd)(s n m:Int):Nd:=if s=2 then⟨nd.k,nd.w,n,nd.r,m⟩ else⟨nd.k,nd.w,nd.l,n,m⟩
inductive zeL (vs:QQ) (H:Hp) (Q:L2.VK) (_E:XK):Prop
 | mk (v:V) (nd:Nd) (i n m:Int) (_:vs=[v,.int i,.int n,.int m]) (_:Rep H nd.th v) (_:∀p H',Same H H'->Rep H' (zak nd i n m).th (.ref p)->Q (.ref p) H'):zeL vs H Q _E
inductive zhB (VR:VRT) (CN CB CC:Addr) (vs:QQ) (H:Hp) (Q:L2.VK) (E:XK):Prop
 | mk (a:Addr) (D:QO) (s:Vst) (n:Int) (x:Th) (vx:V) (_:vs=[.ref a,.int n,vx]) (_:VR H a D s) (_:Rep H x vx) (_:dep x<=8) (_:Out VR CN CB CC a D (wayP x 301 n 301) s WayR H Q E):zhB VR CN CB CC vs H Q E
inductive zeJ (K:QA) (vs:QQ) (H:Hp) (Q:L2.VK) (_E:XK):Prop
 | mk (pw:Addr) (ws:QQ) (ns:List Nd) (x:Th) (vx:V) (_:vs=[.ref pw,vx]) (_:SqL K H pw ws) (_:RepL H (ns.map Nd.th) ws) (_:(∀nd∈ns,Good nd.th)) (_:Rep H x vx) (_:Q (.bl (zen ns x)) H):zeJ K vs H Q _E
inductive zc3 (VR:VRT) (CN CB CC:Addr) (vs:QQ) (H:Hp) (Q:L2.VK) (E:XK):Prop
 | mk (a:Addr) (D:QO) (s:Vst) (n:Int) (x:Th) (vx:V) (_:vs=[.ref a,.int n,vx]) (_:VR H a D s) (_:Rep H x vx) (_:dep x<=8) (_:Out VR CN CB CC a D (zgZ n x) s ThR H Q E):zc3 VR CN CB CC vs H Q E
theorem zjk {t u:Th}(h:t=u):eqT t u=true:=by rw[h,zb4]
theorem znM {t u:Th}(h:t≠u):eqT t u=false:=by
 cases z:eqT t u with
 | true=>exact Je ((zS _ _).mp z) h
 | false=>rfl
section
variable {P:Program}{w:World}{K:QA}{mg:QB}{base:Heap}{VR:VRT}{C CC CN CB:Addr}{x:Str}{t1 t2 t3 t4 t5 t6 t7:Tok}
theorem zmn (D:Dfn K mg "side_of" ziI ["node","key"]) (zcD:Fn P w K mg base "ahead" 20 ["one","other"] (zaY 9)) (zaB:mg "KEY" =some (.int 0 t1)) (zaw:mg "LEFT" =some (.int 2 t3)) (zag:mg "RIGHT" =some (.int 3 t4)):Fn P w K mg base "side_of" 21 ["node","key"] zdt:=by
 refine D.ok (k:=20) (L2.fsN ["node","key"]) (λf cdv A outer s H vs Q E hr h=>?_);obtain⟨v,vx,nd,x,rfl,rn,rx,kd,q⟩:=h;obtain⟨p,vk,vw,rfl,ea,rk,rw'⟩:=zv rn;have et:SqT K H p [vk,vw,.int nd.l,.int nd.r,.int nd.c]:=SqT.of ea;refine⟨_,(by have ι:=0;ac_rfl),?_⟩;refine⟨_,rfl,p,_,_,_,rfl,rfl,et,rfl,_,rfl,nd.k,x,_,_,rfl,rk,rx,by omega,by omega,λH1 s1=>⟨_,rfl,?_⟩⟩;have q1:=q H1 s1;unfold zb0 at q1;cases z:zd nd.k x with
 | true=>rw[if_pos z] at q1;exact ifT rfl q1
 | false=>rw[if_neg (by rw[z];exact Jc)] at q1;exact ifF rfl q1
theorem zmT (D:Dfn K mg "with_tree" zfM ["node","side","root","count"]) (zaB:mg "KEY" =some (.int 0 t1)) (zbk:mg "WORTH" =some (.int 1 t2)) (zaw:mg "LEFT" =some (.int 2 t3)) (zag:mg "RIGHT" =some (.int 3 t4)):Fn P w K mg base "with_tree" 1 ["node","side","root","count"] zeL:=by
 refine D.ok (k:=0) (L2.fsN ["node","side","root","count"]) (λf cdv A outer s H vs Q E hr h=>?_);obtain⟨v,nd,i,n,m,rfl,rn,q⟩:=h;obtain⟨p,vk,vw,rfl,ea,rk,rw'⟩:=zv rn;have et:SqT K H p [vk,vw,.int nd.l,.int nd.r,.int nd.c]:=SqT.of ea;refine⟨_,(by have ι:=0;ac_rfl),?_⟩;refine⟨_,rfl,rfl,_,rfl,?_⟩;rw[zu];unfold zak at q;by_cases z:i=2
 ·refine ifT (decide_eq_true z) ?_;refine⟨_,rfl,p,_,_,_,rfl,rfl,et,rfl,_,rfl,p,_,_,_,rfl,rfl,et,rfl,_,rfl,_,rfl,p,_,_,_,rfl,rfl,et,rfl,_,rfl,szl (show 5<=1000 by decide),λp' hp'=>?_⟩;refine q p' _ (zh (Same.refl H) hp') ?_;rw[if_pos z];exact(RepL.cons rk (.cons rw' (.cons (.int _) (.cons (.int _) (.cons (.int _) .nil))))).new hp'
 ·refine ifF (decide_eq_false z) ?_;refine⟨_,rfl,p,_,_,_,rfl,rfl,et,rfl,_,rfl,p,_,_,_,rfl,rfl,et,rfl,_,rfl,p,_,_,_,rfl,rfl,et,rfl,_,rfl,_,rfl,szl (show 5<=1000 by decide),λp' hp'=>?_⟩;refine q p' _ (zh (Same.refl H) hp') ?_;rw[if_neg z];exact(RepL.cons rk (.cons rw' (.cons (.int _) (.cons (.int _) (.cons (.int _) .nil))))).new hp'
theorem zpz (I:VI C VR)(D:Dfn K mg "way_to" zkC ["vault","root","key"]) (zcq:FnX P w K mg base "node_beneath" 4 ["vault","root","count"] (ze1 VR CN CB CC)) (zgI:Fn P w K mg base "side_of" 21 ["node","key"] zdt) (zaB:mg "KEY" =some (.int 0 t1)) (zN:mg "COUNT" =some (.int 4 t5)) (zax:mg "BENEATH_NONE" =some (.int 301 t7)):
  FnX P w K mg base "way_to" 22 ["vault","root","key"] (zhB VR CN CB CC):=by
 refine D.okX (k:=21) (L2.fsN ["vault","root","key","way","count","node"]) (λf cdv A outer s H vs Q E hr h=>?_);obtain⟨a,D,s,n,x,vx,rfl,vs,rx,dx,h⟩:=h;refine⟨_,(by have ι:=0;have θ:=0;ac_rfl),?_⟩;refine⟨szl (show 0<=1000 by decide),λpw hpw=>?_⟩;have s0:=zh (o:=.lst []) (Same.refl H) hpw;have e0:upd H pw (.lst []) pw=some (.lst []):=zc;generalize upd H pw (.lst [])=H0 at s0 e0;refine⟨λm σ H'=>∃(s1:Vst) (n c:Int) (done:List Nd) (ws:QQ) (k5:Option V),(wayP x m n c).wp s1 (λrest s'=>OutQ VR a D WayR H Q (done++rest) s') (OutE VR CN CB CC a D H E)/\1<=c/\c<=(m:Int)/\done.length+m<=301/\σ=[some (.ref a),some (.int n),some vx,some (.ref pw),some (.int c),k5]/\Frm D H H'/\VR H' a D s1/\H' pw=some (.lst ws)/\RepL H' (done.map Nd.th) ws/\(∀nd∈done,Good nd.th),⟨301,s,n,301,[],[],_,h,by decide,by decide,by decide,rfl,Frm.of s0,I.same vs s0,e0,.nil,λnd z=>by cases z⟩,?_⟩;clear h;rintro m σ H1 ⟨s1,n,c,done,ws,k5,h,hc1,hcm,hdm,rfl,f1,vs1,e1,r1,gd⟩;refine⟨_,rfl,rfl,_,rfl,?_⟩;rw[zu];obtain⟨m,rfl⟩:∃j,m=j+1:=⟨m - 1,by omega⟩;unfold wayP at h;by_cases hn:n=0
 ·rw[if_pos hn] at h;refine ifF (by rw[decide_eq_true hn];rfl) ⟨_,rfl,h _ H1 f1 vs1 ⟨pw,ws,rfl,e1,?_,?_,?_⟩⟩
  ·rw[List.append_nil];exact r1
  ·rw[List.append_nil];exact gd
  ·rw[List.append_nil];omega
 rw[if_neg hn,Pg.wp_bind] at h;refine ifT (by rw[decide_eq_false hn];rfl) ⟨_,fun σ' H' h=>h,?_⟩;refine⟨_,rfl,_,rfl,_,rfl,a,D,s1,n,c,rfl,vs1,?_⟩;have hb:(benP n c).wp s1 (λnd s'=>(1<=nd.c/\nd.c < c)/\(if nd.k=x then Pg.ret [nd] else(wayP x m (kidI nd x) nd.c).bind λns=>.ret (nd::ns)).wp s' (λrest s'=>OutQ VR a D WayR H Q (done++rest) s') (OutE VR CN CB CC a D H E)) (OutE VR CN CB CC a D H E):=ztm h;refine Pg.wp_mono (λnd s2 h2 v H2 f2 vs2 rn=>?_) (OutE.on f1) hb;obtain⟨⟨c1,c2⟩,h2⟩:=h2;obtain⟨rn,gn⟩:=rn;obtain⟨p,vk,vw,rfl,ea,rk,rw'⟩:=zv rn;have gd':∀nd'∈done++ [nd],Good nd'.th:=λnd' z=>by
  rcases List.mem_append.mp z with z | z
  ·exact gd nd' z
  ·rw[List.mem_singleton.mp z];exact gn
 have e2:=I.lst vs1 f2 e1;have hlw:ws.length=done.length:=by rw[r1.len,List.length_map]
 refine⟨_,rfl,.inl ⟨rfl,_,SqL.of e2⟩,_,rfl,pw,ws,_,rfl,rfl,e2,Jf (show ws.length < 1000 by omega) (szl (Jb _)),?_⟩;have tk1:Tups H2 (upd H2 pw (.lst (ws++ [.ref p]))):=Tups.upd λxs z=>by rw[e2] at z;cases z
 have e3:upd H2 pw (.lst (ws++ [.ref p])) pw=some (.lst (ws++ [.ref p])):=zc;have f3:Frm D H (upd H2 pw (.lst (ws++ [.ref p]))):=zc8 (f1.trans f2) hpw;have vs3:VR (upd H2 pw (.lst (ws++ [.ref p]))) a D s2:=I.nl vs2 (NL.lst e2);have r3:RepL (upd H2 pw (.lst (ws++ [.ref p]))) ((done++ [nd]).map Nd.th) (ws++ [.ref p]):=by rw[List.map_append];exact((r1.keep (I.tups vs1 f2)).keep tk1).snoc (rn.keep tk1)
 have rn3:=rn.keep tk1;have ea3:=tk1 _ _ ea;have rk3:=rk.keep tk1;have rx3:=(rx.keep ((I.tups vs (f1.trans f2)).trans tk1));generalize upd H2 pw (.lst (ws++ [.ref p]))=H3 at tk1 e3 f3 vs3 r3 rn3 ea3 rk3 rx3;have et:SqT K H3 p _:=SqT.of ea3;have kd:=(zcs gn).1;refine⟨_,rfl,p,_,_,_,rfl,rfl,et,rfl,_,rfl,nd.k,x,rk3,rx3,by omega,_,rfl,?_⟩;by_cases ek:nd.k=x
 ·rw[if_pos ek] at h2;exact ifT (zjk ek) ⟨_,rfl,h2 _ H3 f3 vs3 ⟨pw,_,rfl,e3,r3,gd',by rw[List.length_append];show done.length+1<=301;omega⟩⟩
 ·rw[if_neg ek,Pg.wp_bind] at h2;refine ifF (znM ek) ?_;refine⟨_,rfl,_,rfl,_,rfl,_,_,nd,x,rfl,rn3,rx3,kd,λH4 s4=>?_⟩;have et4:SqT K H4 p _:=SqT.of (s4 _ _ ea3);have ix:atI [vk,vw,.int nd.l,.int nd.r,.int nd.c] (zb0 nd.k x)=some (.int (kidI nd x)):=by
   unfold zb0 kidI;by_cases y:zd nd.k x=true
   ·rw[if_pos y,if_pos y];rfl
   ·rw[if_neg y,if_neg y];rfl
  refine⟨p,_,_,_,rfl,rfl,et4,ix,?_⟩;refine⟨_,rfl,p,_,_,_,rfl,rfl,et4,rfl,?_⟩;refine⟨m,Jt m,s2,_,_,done++ [nd],_,_,Pg.wp_mono (λns s' z=>?_) (λ_ _ z=>z) h2,c1,by omega,by rw[List.length_append];show done.length+1+m<=301;omega,rfl,f3.trans (Frm.of s4),I.same vs3 s4,s4 _ _ e3,r3.keep (Same.tups s4),gd'⟩;have z':OutQ VR a D WayR H Q (done++(nd::ns)) s':=z;rw[List.append_assoc];exact z'
theorem znv (D:Dfn K mg "ends_at" zh9 ["way","key"]) (zaB:mg "KEY" =some (.int 0 t1)) (zt:mg "len" =none):Fn P w K mg base "ends_at" 1 ["way","key"] (zeJ K):=by
 refine D.ok (k:=0) (L2.fsN ["way","key"]) (λf cdv A outer s H vs Q E hr h=>?_);obtain⟨pw,ws,ns,x,vx,rfl,hs,rw,kt,rx,q⟩:=h;have hl:ws.length=ns.length:=by rw[rw.len,List.length_map]
 refine⟨_,(zx (zad (za1 (by ac_rfl) (zcd (zaf (zeB hr) (zbA ze0 (by ac_rfl) (by ac_rfl) (λ_ _=>rfl)) (pv 1) (zat _)))))),?_⟩;refine⟨_,rfl,pw,_,rfl,.inl hs,_,_,rfl,rfl,_,rfl,?_⟩;rcases List.eq_nil_or_concat ns with e | ⟨pre,nd,e⟩
 ·subst e;refine ifF (by show decide ((0:Int) < ((ws.length:Nat):Int))=false;rw[hl];rfl) q
 ·rw[List.concat_eq_append] at e;subst e;have kd:=(zcs (kt nd (by simp))).1;rw[List.map_append] at rw;obtain⟨us,v,rfl,rus,rn⟩:=rw.unsnoc;obtain⟨p,vk,vw,rfl,ea,rk,_⟩:=zv rn;refine ifT (decide_eq_true (show(0:Int) < (((us++ [V.ref p]).length:Nat):Int) by simp only[List.length_append,List.length_singleton];omega)) ?_;have q':Q (.bl (eqT nd.k x)) H:=by unfold zen at q;rw[List.getLast?_concat] at q;exact q
  exact⟨_,rfl,_,rfl,pw,_,_,_,rfl,rfl,hs,zc7,p,_,_,_,rfl,rfl,SqT.of ea,rfl,_,rfl,nd.k,x,rk,rx,by omega,q'⟩
theorem zlY (I:VI C VR)(D:Dfn K mg "found" znR ["vault","root","key"]) (zoo:FnX P w K mg base "way_to" 22 ["vault","root","key"] (zhB VR CN CB CC)) (zl2:Fn P w K mg base "ends_at" 1 ["way","key"] (zeJ K)) (zbk:mg "WORTH" =some (.int 1 t2)):FnX P w K mg base "found" 23 ["vault","root","key"] (zc3 VR CN CB CC):=by
 refine D.okX (k:=22) (L2.fsN ["vault","root","key","way"]) (λf cdv A outer s H vs Q E hr h=>?_);obtain⟨a,D,s,n,x,vx,rfl,vs,rx,dx,h⟩:=h;refine⟨_,(zf (by ac_rfl)
 (zx (zad (zfC (by ac_rfl) (zbA ze0 (by ac_rfl) (by ac_rfl) (λ_ _=>rfl)) zmI)))),?_⟩
 unfold Out zgZ at h;rw[Pg.wp_bind] at h;refine⟨_,rfl,_,rfl,_,rfl,a,D,s,n,x,vx,rfl,vs,rx,dx,Pg.wp_mono (λns s1 h1 v H1 f1 vs1 rn=>?_) (λ_ _ z=>z) h⟩;obtain⟨pw,ws,rfl,ew,rwy,gd,hl⟩:=rn;refine⟨_,rfl,_,rfl,pw,ws,ns,x,vx,rfl,SqL.of ew,rwy,gd,rx.keep (I.tups vs f1),_,rfl,?_⟩;have h2:OutQ VR a D ThR H Q (endW ns x) s1:=h1;rcases List.eq_nil_or_concat ns with e | ⟨pre,nd,e⟩
 ·subst e;exact ifF rfl (h2 _ H1 f1 vs1 .non)
 ·rw[List.concat_eq_append] at e;subst e;have eb:zen (pre++ [nd]) x=eqT nd.k x:=by unfold zen;rw[List.getLast?_concat]
  have ew':endW (pre++ [nd]) x=if nd.k=x then nd.w else .non:=by unfold endW;rw[List.getLast?_concat]
  rw[ew'] at h2;rw[eb];by_cases ek:nd.k=x
  ·rw[if_pos ek] at h2;rw[List.map_append] at rwy;obtain⟨us,v,rfl,rus,rn⟩:=rwy.unsnoc;obtain⟨p,vk,vw,rfl,ea,rk,rw'⟩:=zv rn;exact ifT (zjk ek) ⟨_,rfl,_,rfl,pw,_,_,_,rfl,rfl,SqL.of ew,zc7,p,_,_,_,rfl,rfl,SqT.of ea,rfl,h2 vw H1 f1 vs1 rw'⟩
  ·rw[if_neg ek] at h2;exact ifF (znM ek) (h2 _ H1 f1 vs1 .non)
end
end Pv
namespace Pv
open PySem L2
noncomputable abbrev zqU:Stmt:=top 56
noncomputable abbrev zkS:Stmt:=top 57
noncomputable abbrev zge:Stmt:=top 58
noncomputable abbrev sput:Stmt:=top 59
theorem RepL.take:∀{ts:List Th} {vs:QQ} (n:Nat),RepL H ts vs->RepL H (ts.take n) (vs.take n)
 | _,_,0,_=>by rw[List.take_zero,List.take_zero];exact .nil
 | _,_,n+1,.nil=>by rw[List.take_nil,List.take_nil];exact .nil
 | _,_,n+1,.cons h r=>.cons h (RepL.take n r)
theorem RepL.drop:∀{ts:List Th} {vs:QQ} (n:Nat),RepL H ts vs->RepL H (ts.drop n) (vs.drop n)
 | _,_,0,r=>r
 | _,_,n+1,.nil=>by rw[List.drop_nil,List.drop_nil];exact .nil
 | _,_,n+1,.cons h r=>RepL.drop n r
theorem zsW {xs:QQ}{n:Nat}(h:n<=xs.length):cutV xs none (some (n:Int))=xs.take n:=by
 unfold cutV;rw[HT.sIx_none,HT.sIx_nat,Jw h]
 rfl
theorem zp2 {xs:QQ}{n:Nat}(h:n<=xs.length):cutV xs (some (n:Int)) none=xs.drop n:=by unfold cutV;rw[HT.sIx_none,HT.sIx_nat,Jw h];exact Jm (by rw[List.length_drop];exact Jb _)
theorem zpP {xs:QQ}{n:Nat}(h:xs.length=n+1):cutV xs none (some (-1))=xs.take n:=by unfold cutV;rw[HT.sIx_none];show(xs.drop 0).take (HT.sIx xs.length xs.length (some (-1)) - 0)=_;rw[List.drop_zero,Nat.sub_zero,h];congr 1;unfold HT.sIx;simp;omega
theorem joinM {c:Bool}{A B N:Prop}(a:c=true->N->A)(b:c=false->N->B)(rest:N):if c=true then A else B:=ifB (λh=>a h rest) (λh=>b h rest)
theorem znG {nd:Nd}(g:Good nd.th):Good nd.k/\Good nd.w:=by have h1:max (dep nd.k) (max (dep nd.w) (max 0 (max 0 (max 0 0))))+1<=dep nd.th:=Jb _;have h4:=g.dp;have h2:1+(nodes nd.k+(nodes nd.w+(1+(1+(1+0)))))<=80:=g.nd;have h3:Wf nd.k/\Wf nd.w:=⟨g.wf.2.1,g.wf.2.2.1⟩;exact⟨⟨h3.1,by omega,by omega⟩,⟨h3.2,by omega,by omega⟩⟩
noncomputable def zbj (x:Th)(more:Int):List Nd->Int->Pg Int
 | [],n=>.ret n
 | nd::r,n=>.lay (zak nd (zb0 nd.k x) n (nd.c+more)).th (zbj x more r (zm (zak nd (zb0 nd.k x) n (nd.c+more)).th))
noncomputable def zeu (x:Th):List Nd->Int->Int->Int->Int->Pg (Int ×Int)
 | [],l,_,r,_=>.ret (l,r)
 | nd::t,l,lc,r,rc=>if zd nd.k x=true then .lay (zak nd 3 l (nd.c - rc)).th (zeu x t (zm (zak nd 3 l (nd.c - rc)).th) (nd.c - rc) r rc)
  else .lay (zak nd 2 r (nd.c - lc)).th (zeu x t l lc (zm (zak nd 2 r (nd.c - lc)).th) (nd.c - lc))
noncomputable def zas (x:Th):List Nd->Nat
 | []=>0
 | nd::r=>if zbR x nd.k=true then 0 else zas x r+1
theorem zf3 (x:Th):∀ns:List Nd,zas x ns<=ns.length
 | []=>Jb _
 | nd::r=>by
  unfold zas;split
  ·exact Nat.zero_le _
  ·exact Nat.succ_le_succ (zf3 x r)
noncomputable def zdi (ns:List Nd)(i:Nat):Int:=match ns[i]? with
 | some nd=>nd.c
 | none=>0
noncomputable def putN (x wo:Th)(ns:List Nd):Pg Int:=(zeu x (ns.drop (zas x ns)).reverse 0 0 0 0).bind λlr=>
 .lay (Nd.mk x wo lr.1 lr.2 (zdi ns (zas x ns)+1)).th (zbj x 1 (ns.take (zas x ns)).reverse (zm (Nd.mk x wo lr.1 lr.2 (zdi ns (zas x ns)+1)).th))
noncomputable def putO (x wo:Th)(ns:List Nd)(own:Nd):Pg Int:=.lay (Nd.mk x wo own.l own.r own.c).th (zbj x 0 ns.dropLast.reverse (zm (Nd.mk x wo own.l own.r own.c).th))
noncomputable def zc2 (x wo:Th)(ns:List Nd):Pg Int:=match ns.getLast? with
 | none=>putN x wo ns
 | some own=>if own.k=x then putO x wo ns own else putN x wo ns
noncomputable def putP (n:Int)(x wo:Th):Pg Int:=(wayP x 301 n 301).bind (zc2 x wo)
noncomputable def zqV (H:Hp)(y:Int ×Int)(v:V):Prop:=∃p,v=.ref p/\H p=some (.tup [.int y.1,.int y.2])
inductive zhn (VR:VRT) (CN CB CC:Addr) (vs:QQ) (H:Hp) (Q:L2.VK) (E:XK):Prop
 | mk (a pw:Addr) (D:QO) (s:Vst) (ws:QQ) (ns:List Nd) (x:Th) (vx:V) (n more:Int) (_:vs=[.ref a,.ref pw,vx,.int n,.int more]) (_:VR H a D s) (_:H pw=some (.lst ws)) (_:RepL H (ns.map Nd.th) ws) (_:(∀nd∈ns,Good nd.th)) (_:Rep H x vx) (_:Out VR CN CB CC a D (zbj x more ns.reverse n) s IntR H Q E):zhn VR CN CB CC vs H Q E
inductive zdT (VR:VRT) (CN CB CC:Addr) (vs:QQ) (H:Hp) (Q:L2.VK) (E:XK):Prop
 | mk (a pw:Addr) (D:QO) (s:Vst) (ws:QQ) (ns:List Nd) (x:Th) (vx:V) (n m:Int) (_:vs=[.ref a,.ref pw,vx,.int n,.int m]) (_:VR H a D s) (_:H pw=some (.lst ws)) (_:RepL H (ns.map Nd.th) ws) (_:(∀nd∈ns,Good nd.th)) (_:Rep H x vx) (_:Out VR CN CB CC a D (zeu x ns.reverse n m 0 0) s zqV H Q E):zdT VR CN CB CC vs H Q E
inductive zfh (vs:QQ) (H:Hp) (Q:L2.VK) (_E:XK):Prop
 | mk (pw:Addr) (ws:QQ) (ns:List Nd) (x:Th) (vx:V) (_:vs=[.ref pw,vx]) (_:H pw=some (.lst ws)) (_:RepL H (ns.map Nd.th) ws) (_:(∀nd∈ns,Good nd.th)) (_:Good x) (_:Rep H x vx) (_:∀H',Same H H'->Q (.int (zas x ns:Int)) H'):zfh vs H Q _E
inductive zbF (VR:VRT) (CN CB CC:Addr) (vs:QQ) (H:Hp) (Q:L2.VK) (E:XK):Prop
 | mk (a:Addr) (D:QO) (s:Vst) (n:Int) (x wo:Th) (vx vw:V) (_:vs=[.ref a,.int n,vx,vw]) (_:VR H a D s) (_:Rep H x vx) (_:Good x) (_:Rep H wo vw) (_:Out VR CN CB CC a D (putP n x wo) s IntR H Q E):zbF VR CN CB CC vs H Q E
theorem znW {α:Type}{f:α->Th}{ns:List α}{j:Nat}{y:V}(r:RepL H (ns.map f) ws)(hj:j < ws.length)(hy:ws.reverse[j]? =some y):∃nd,nd∈ns/\ns.reverse.drop j=nd::ns.reverse.drop (j+1)/\Rep H (f nd) y:=by
 have hl:ws.length=ns.length:=by rw[r.len,List.length_map]
 have hr:j < ns.reverse.length:=by rw[List.length_reverse];omega
 rw[List.getElem?_reverse hj] at hy;have hn:ns[ns.length - 1 - j]? =some (ns[ns.length - 1 - j]'(by omega)):=List.getElem?_eq_getElem (by omega);refine⟨ns[ns.length - 1 - j]'(by omega),Jj _,?_,r.at (ws.length - 1 - j) _ _ hy (by rw[hl,List.getElem?_map,hn];rfl)⟩;rw[Js hr,List.getElem_reverse]
section
variable {P:Program}{w:World}{K:QA}{mg:QB}{base:Heap}{VR:VRT}{C CC CN CB:Addr}{x:Str}{t1 t2 t3 t4 t5 t6 t7:Tok}
theorem zoh (I:VI C VR)(D:Dfn K mg "hung" zqU ["vault","way","key","root","more"]) (zqY:Mt P w K mg base (CX1 P w) C "lay" 14 ["self","thing"] (zff VR CC)) (c_C:Cls K C) (ziT:Fn P w K mg base "with_tree" 1 ["node","side","root","count"] zeL) (zgI:Fn P w K mg base "side_of" 21 ["node","key"] zdt) (zN:mg "COUNT" =some (.int 4 t5)) (zbV:mg "reversed" =none):
  FnX P w K mg base "hung" 22 ["vault","way","key","root","more"] (zhn VR CN CB CC):=by
 refine D.okX (k:=21) (L2.fsN ["vault","way","key","root","more","node"]) (λf cdv A outer s H vs Q E hr h=>?_);obtain⟨a,pw,D,s,ws,ns,x,vx,n,more,rfl,vs,ew,rw,gd,rx,h⟩:=h;have hl:ws.length=ns.length:=by rw[rw.len,List.length_map]
 refine⟨_,(by have ι:=0;ac_rfl),?_⟩;refine⟨_,rfl,pw,ws,rfl,SqL.of ew,?_⟩;refine zko (λj σ H'=>∃(s1:Vst) (n:Int) (k5:Option V),(zbj x more (ns.reverse.drop j) n).wp s1 (OutQ VR a D IntR H Q) (OutE VR CN CB CC a D H E)/\σ=[some (.ref a),some (.ref pw),some vx,some (.int n),some (.int more),k5]/\Frm D H H'/\VR H' a D s1) ⟨s,n,_,h,rfl,Frm.refl,vs⟩ ?_ ?_ ?_
 ·rintro j σ H' ⟨s1,n,k5,_,rfl,fr,_⟩;exact SqL.of (I.lst vs fr ew)
 ·rintro j y σ H' hj hy ⟨s1,n,k5,h,rfl,fr,vs1⟩;obtain⟨nd,hm,ed,rl⟩:=znW rw hj hy;have gn:=gd nd hm;rw[ed] at h;obtain⟨h0,gN,h1,h2⟩:=h;have tk:=I.tups vs fr;have rl':=rl.keep tk;obtain⟨p,vk,vw,rfl,ea,rk,rw'⟩:=zv rl';obtain⟨dx,fs,eo,_,n2⟩:=I.ins vs1;refine⟨_,rfl,a,dx,fs,rfl,eo,n2,_,rfl,_,rfl,_,rfl,_,_,nd,x,rfl,rl',rx.keep tk,(zcs gn).1,λH1 s1'=>?_⟩;refine⟨_,rfl,_,rfl,p,_,_,_,rfl,rfl,SqT.of (s1' _ _ ea),rfl,_,rfl,_,_,rfl,rfl,_,nd,_,_,_,rfl,rl'.keep (Same.tups s1'),λp2 H2 s2 r2=>?_⟩;have s12:Same H' H2:=λb o e=>s2 b o (s1' b o e);have f12:=fr.trans (Frm.of s12);exact⟨a,D,s1,_,_,rfl,I.same vs1 s12,h0,r2,gN,λH3 st f3 vs3=>⟨_,_,_,h1 st,rfl,f12.trans f3,vs3⟩,λu x' v1 v2 H3 st f3=>h2 u st x' v1 v2 H3 (f12.trans f3)⟩
 ·rintro σ H' ⟨s1,n,k5,h,rfl,fr,vs1⟩;rw[List.drop_of_length_le (by rw[List.length_reverse];omega)] at h;exact⟨_,rfl,h _ H' fr vs1 rfl⟩
theorem zjg (I:VI C VR)(D:Dfn K mg "parted" zkS ["vault","way","key","root","count"]) (zqY:Mt P w K mg base (CX1 P w) C "lay" 14 ["self","thing"] (zff VR CC)) (c_C:Cls K C) (ziT:Fn P w K mg base "with_tree" 1 ["node","side","root","count"] zeL) (zgI:Fn P w K mg base "side_of" 21 ["node","key"] zdt) (zN:mg "COUNT" =some (.int 4 t5)) (zaw:mg "LEFT" =some (.int 2 t3)) (zag:mg "RIGHT" =some (.int 3 t4)) (zbV:mg "reversed" =none):
  FnX P w K mg base "parted" 22 ["vault","way","key","root","count"] (zdT VR CN CB CC):=by
 refine D.okX (k:=21) (L2.fsN ["vault","way","key","root","count","left","left_count","right","right_count","node"]) (λf cdv A outer s H vs Q E hr h=>?_);obtain⟨a,pw,D,s,ws,ns,x,vx,n,m,rfl,vs,ew,rw,gd,rx,h⟩:=h;have hl:ws.length=ns.length:=by rw[rw.len,List.length_map]
 refine⟨_,(by have ι:=0;ac_rfl),?_⟩;refine⟨_,rfl,_,rfl,_,rfl,pw,ws,rfl,SqL.of ew,?_⟩;refine zko (λj σ H'=>∃(s1:Vst) (l lc r rc:Int) (k9:Option V),(zeu x (ns.reverse.drop j) l lc r rc).wp s1 (OutQ VR a D zqV H Q) (OutE VR CN CB CC a D H E)/\σ=[some (.ref a),some (.ref pw),some vx,some (.int n),some (.int m),some (.int l),some (.int lc),some (.int r),some (.int rc),k9]/\Frm D H H'/\VR H' a D s1) ⟨s,n,m,0,0,_,h,rfl,Frm.refl,vs⟩ ?_ ?_ ?_
 ·rintro j σ H' ⟨s1,l,lc,r,rc,k9,_,rfl,fr,_⟩;exact SqL.of (I.lst vs fr ew)
 ·rintro j y σ H' hj hy ⟨s1,l,lc,r,rc,k9,h,rfl,fr,vs1⟩;obtain⟨nd,hm,ed,rl⟩:=znW rw hj hy;have gn:=gd nd hm;rw[ed] at h;unfold zeu at h;have tk:=I.tups vs fr;have rl':=rl.keep tk;obtain⟨p,vk,vw,rfl,ea,rk,rw'⟩:=zv rl';refine⟨_,rfl,_,rfl,_,_,nd,x,rfl,rl',rx.keep tk,(zcs gn).1,λH1 s1'=>⟨rfl,_,rfl,?_⟩⟩;rw[zu];have vs2:=I.same vs1 s1';obtain⟨dx,fs,eo,_,n2⟩:=I.ins vs2;by_cases c:zd nd.k x=true
  ·have e3:zb0 nd.k x=3:=if_pos c;rw[if_pos c] at h;obtain⟨h0,gN,h1,h2⟩:=h;refine ifT (decide_eq_true e3) ?_;refine⟨_,rfl,p,_,_,_,rfl,rfl,SqT.of (s1' _ _ ea),rfl,_,rfl,_,_,rfl,rfl,?_⟩;refine⟨_,rfl,a,dx,fs,rfl,eo,n2,_,rfl,_,rfl,_,rfl,_,nd,_,_,_,rfl,rl'.keep (Same.tups s1'),λp2 H2 s2 r2=>?_⟩;have f12:Frm D H H2:=fr.trans ((Frm.of s1').trans (Frm.of s2));exact⟨a,D,s1,_,_,rfl,I.same vs2 s2,h0,r2,gN,λH3 st f3 vs3=>⟨_,_,_,_,_,_,h1 st,rfl,f12.trans f3,vs3⟩,λu x' v1 v2 H3 st f3=>h2 u st x' v1 v2 H3 (f12.trans f3)⟩
  ·have e3:zb0 nd.k x=2:=if_neg c;rw[if_neg c] at h;obtain⟨h0,gN,h1,h2⟩:=h;refine ifF (decide_eq_false (by rw[e3];decide)) ?_;refine⟨_,rfl,p,_,_,_,rfl,rfl,SqT.of (s1' _ _ ea),rfl,_,rfl,_,_,rfl,rfl,?_⟩;refine⟨_,rfl,a,dx,fs,rfl,eo,n2,_,rfl,_,rfl,_,rfl,_,nd,_,_,_,rfl,rl'.keep (Same.tups s1'),λp2 H2 s2 r2=>?_⟩;have f12:Frm D H H2:=fr.trans ((Frm.of s1').trans (Frm.of s2));exact⟨a,D,s1,_,_,rfl,I.same vs2 s2,h0,r2,gN,λH3 st f3 vs3=>⟨_,_,_,_,_,_,h1 st,rfl,f12.trans f3,vs3⟩,λu x' v1 v2 H3 st f3=>h2 u st x' v1 v2 H3 (f12.trans f3)⟩
 ·rintro σ H' ⟨s1,l,lc,r,rc,k9,h,rfl,fr,vs1⟩;rw[List.drop_of_length_le (by rw[List.length_reverse];omega)] at h;refine⟨_,rfl,_,rfl,szl (show 2<=1000 by decide),λp hp=>?_⟩;have s2:=zh (o:=.tup [.int l,.int r]) (Same.refl H') hp;exact h _ _ (fr.trans (Frm.of s2)) (I.same vs1 s2) ⟨p,rfl,zc⟩
theorem zlW (D:Dfn K mg "place_in" zge ["way","key"]) (ztL:Fn P w K mg base "above" 21 ["key","other"] zg0) (zaB:mg "KEY" =some (.int 0 t1)) (zbl:mg "enumerate" =none) (zt:mg "len" =none):Fn P w K mg base "place_in" 22 ["way","key"] zfh:=by
 refine D.ok (k:=21) (L2.fsN ["way","key","number","node"]) (λf cdv A outer s H vs Q E hr h=>?_);obtain⟨pw,ws,ns,x,vx,rfl,ew,rw,gd,gx,rx,q⟩:=h;have hl:ws.length=ns.length:=by rw[rw.len,List.length_map]
 refine⟨_,(by have ι:=0;ac_rfl),?_⟩;refine⟨_,rfl,pw,ws,rfl,SqL.of ew,?_⟩;refine ziy (λi σ H'=>∃k2 k3,σ=[some (.ref pw),some vx,k2,k3]/\Same H H'/\zas x ns=i+zas x (ns.drop i)) ⟨_,_,rfl,Same.refl _,by rw[Nat.zero_add];rfl⟩ ?_ ?_ ?_
 ·rintro i σ H' ⟨k2,k3,rfl,sm,_⟩;exact SqL.of (sm _ _ ew)
 ·rintro i y U σ H' hy hU ⟨k2,k3,rfl,sm,hp⟩;have hi:i < ws.length:=(List.getElem?_eq_some_iff.mp hy).1;have hn:ns[i]? =some (ns[i]'(by omega)):=List.getElem?_eq_getElem (by omega);have rl:=rw.at i y _ hy (by rw[List.getElem?_map,hn];rfl);have gn:=gd _ (Jj (show i < ns.length by omega));have ed:ns.drop i=ns[i]'(by omega)::ns.drop (i+1):=Js (by omega);generalize ns[i]'(by omega)=nd at rl gn ed;have sm':Same H (upd H' U (.tup [.int i,y])):=zh sm hU;have eU:upd H' U (.tup [.int i,y]) U=some (.tup [.int i,y]):=zc;generalize upd H' U (.tup [.int i,y])=H1 at sm' eU;obtain⟨p,vk,vw,rfl,ea,rk,_⟩:=zv rl;refine⟨U,_,rfl,SqT.of eU,rfl,_,_,rfl,_,_,rfl,rfl,?_⟩;refine⟨_,rfl,_,rfl,p,_,_,_,rfl,rfl,SqT.of (sm' _ _ ea),rfl,x,nd.k,_,_,rfl,rx.keep (Same.tups sm'),rk.keep (Same.tups sm'),gx,(znG gn).1,λH2 s2=>⟨_,rfl,?_⟩⟩;have s02:Same H H2:=λb o e=>s2 b o (sm' b o e);have e0:zas x (ns.drop i)=if zbR x nd.k=true then 0 else zas x (ns.drop (i+1))+1:=by rw[ed];rfl
  cases z:zbR x nd.k with
  | true=>rw[if_pos z] at e0;refine ifT rfl ⟨_,rfl,?_⟩;have:=q H2 s02;rw[hp,e0] at this;exact this
  | false=>rw[if_neg (by rw[z];exact Jc)] at e0;exact ifF rfl ⟨_,_,rfl,s02,by omega⟩
 ·rintro σ H' ⟨k2,k3,rfl,sm,hp⟩;refine⟨_,rfl,pw,_,rfl,.inl (SqL.of (sm _ _ ew)),?_⟩;rw[List.drop_of_length_le (by omega)] at hp;have:=q H' sm;rw[hp] at this;exact this
theorem zoX (I:VI C VR)(D:Dfn K mg "put" sput ["vault","root","key","worth"]) (zoo:FnX P w K mg base "way_to" 22 ["vault","root","key"] (zhB VR CN CB CC)) (zl2:Fn P w K mg base "ends_at" 1 ["way","key"] (zeJ K)) (zqY:Mt P w K mg base (CX1 P w) C "lay" 14 ["self","thing"] (zff VR CC)) (c_C:Cls K C) (ztO:FnX P w K mg base "hung" 22 ["vault","way","key","root","more"] (zhn VR CN CB CC)) (ztB:FnX P w K mg base "parted" 22 ["vault","way","key","root","count"] (zdT VR CN CB CC))
  (zsm:Fn P w K mg base "place_in" 22 ["way","key"] zfh) (zN:mg "COUNT" =some (.int 4 t5)) (zaw:mg "LEFT" =some (.int 2 t3)) (zag:mg "RIGHT" =some (.int 3 t4)) (zt:mg "len" =none):FnX P w K mg base "put" 23 ["vault","root","key","worth"] (zbF VR CN CB CC):=by
 refine D.okX (k:=22) (L2.fsN ["vault","root","key","worth","way","own","new","place","trees","count"]) (λf cdv A outer s H vs Q E hr h=>?_);obtain⟨a,D,s,n,x,wo,vx,vw,rfl,vs,rx,gx,rw0,h⟩:=h;unfold Out putP at h;rw[Pg.wp_bind] at h;have ι:=0;refine⟨_,(zf (by ac_rfl)
 (zf (zaA (by ac_rfl)
 (zf (setA 5 rfl (zbA zbI (pv 4) (by ac_rfl) (λ_ _=>rfl)))
 (by ac_rfl))
 zM)
 (zf (by ac_rfl)
 (zf (by ac_rfl)
 (zf (setA 9 rfl (zfC (by ac_rfl) (zbA ze0 (zbA zbI (pv 4) (pv 7) (λ_ _=>rfl)) (by ac_rfl) (λ_ _=>rfl)) zbm))
 (by ac_rfl)))))),?_⟩
 refine⟨_,rfl,_,rfl,_,rfl,a,D,s,n,x,vx,rfl,vs,rx,(Ji gx.dp (by decide)),Pg.wp_mono (λns s1 h1 v H1 f1 vs1 rn=>?_) (λ_ _ z=>z) h⟩;clear h;obtain⟨pw,ws,rfl,ew,rwy,gd,hl3⟩:=rn;have hl:ws.length=ns.length:=by rw[rwy.len,List.length_map]
 have rx1:=rx.keep (I.tups vs f1);have rw1:=rw0.keep (I.tups vs f1);refine⟨_,rfl,_,rfl,pw,ws,ns,x,vx,rfl,SqL.of ew,rwy,gd,rx1,_,rfl,?_⟩;have new:zen ns x=false->(putN x wo ns).wp s1 (OutQ VR a D IntR H Q) (OutE VR CN CB CC a D H E):=λz=>by
  have h2:(zc2 x wo ns).wp s1 (OutQ VR a D IntR H Q) (OutE VR CN CB CC a D H E):=h1;unfold zc2 at h2;unfold zen at z;cases y:ns.getLast? with
  | none=>rw[y] at h2;exact h2
  | some own=>
   rw[y] at h2 z;have z2:eqT own.k x=false:=z;have z':own.k≠x:=λe=>by rw[zjk e] at z2;cases z2
   have h3:(if own.k=x then putO x wo ns own else putN x wo ns).wp s1 (OutQ VR a D IntR H Q) (OutE VR CN CB CC a D H E):=h2;rw[if_neg z'] at h3;exact h3
 cases z:zen ns x with
 | true=>
  refine ifT rfl ?_;rcases List.eq_nil_or_concat ns with e | ⟨pre,nd,e⟩
  ·subst e;cases z
  rw[List.concat_eq_append] at e;subst e;have ek:nd.k=x:=by unfold zen at z;rw[List.getLast?_concat] at z;exact(zS _ _).mp z
  have h2:(zc2 x wo (pre++ [nd])).wp s1 (OutQ VR a D IntR H Q) (OutE VR CN CB CC a D H E):=h1;unfold zc2 at h2;rw[List.getLast?_concat] at h2;have h3:(if nd.k=x then putO x wo (pre++ [nd]) nd else putN x wo (pre++ [nd])).wp s1 (OutQ VR a D IntR H Q) (OutE VR CN CB CC a D H E):=h2;rw[if_pos ek] at h3;obtain⟨h0,gN,h4,h5⟩:=h3;rw[List.dropLast_concat] at h4;rw[List.map_append] at rwy;obtain⟨us,v,rfl,rus,rnd⟩:=rwy.unsnoc;obtain⟨p,vk,vw',rfl,ea,rk,_⟩:=zv rnd;have et:SqT K H1 p _:=SqT.of ea;obtain⟨dx,fs,eo,_,n2⟩:=I.ins vs1;refine⟨_,rfl,_,rfl,pw,_,_,_,rfl,rfl,SqL.of ew,zc7,?_⟩;refine⟨_,rfl,a,dx,fs,rfl,eo,n2,_,rfl,_,rfl,_,rfl,p,_,_,_,rfl,rfl,et,rfl,_,rfl,p,_,_,_,rfl,rfl,et,rfl,_,rfl,p,_,_,_,rfl,rfl,et,rfl,szl (show 5<=1000 by decide),λp2 hp2=>?_⟩;have r2:Rep (upd H1 p2 (.tup [vx,vw,.int nd.l,.int nd.r,.int nd.c])) (Nd.mk x wo nd.l nd.r nd.c).th (.ref p2):=(RepL.cons rx1 (.cons rw1 (.cons (.int _) (.cons (.int _) (.cons (.int _) .nil))))).new hp2;have s12:=zh (o:=.tup [vx,vw,.int nd.l,.int nd.r,.int nd.c]) (Same.refl H1) hp2;generalize upd H1 p2 (.tup [vx,vw,.int nd.l,.int nd.r,.int nd.c])=H2 at r2 s12;have vs2:=I.same vs1 s12;have f2:=f1.trans (Frm.of s12);refine⟨a,D,s1,_,_,rfl,vs2,h0,r2,gN,λH3 st f3 vs3=>?_,λu x' v1 v2 H3 st f3=>h5 u st x' v1 v2 H3 (f2.trans f3)⟩;have ew3:=I.lst vs2 f3 (s12 _ _ ew);have tk3:Tups H1 H3:=(Same.tups s12).trans (I.tups vs2 f3);refine⟨_,rfl,_,rfl,_,rfl,_,rfl,pw,_,rfl,SqL.of ew3,λpc hpc=>?_⟩;rw[zpP (n:=us.length) (by simp),List.take_left];have s34:=zh (o:=.lst us) (Same.refl H3) hpc;have ec:upd H3 pc (.lst us) pc=some (.lst us):=zc;generalize upd H3 pc (.lst us)=H4 at s34 ec;have f4:=(f2.trans f3).trans (Frm.of s34);have tk4:=tk3.trans (Same.tups s34);exact⟨_,rfl,_,rfl,a,pc,D,_,us,pre,x,vx,_,0,rfl,I.same vs3 s34,ec,rus.keep tk4,λy hy=>gd y (Jp _ hy),rx1.keep tk4,Pg.wp_mono (OutQ.on f4) (OutE.on f4) (h4 st)⟩
 | false=>
  have h2:=new z;refine ifF rfl ?_;clear new h1;unfold putN at h2;rw[Pg.wp_bind] at h2;have hpl:=zf3 x ns;refine⟨_,rfl,_,rfl,pw,ws,ns,x,vx,rfl,ew,rwy,gd,gx,rx1,λH2 s2=>?_⟩;generalize zas x ns=pl at hpl h2;have vs2:=I.same vs1 s2;have ew2:=s2 _ _ ew;have rwy2:=rwy.keep (Same.tups s2);have rx2:=rx1.keep (Same.tups s2);have rw2:=rw1.keep (Same.tups s2);refine⟨_,rfl,_,rfl,_,rfl,_,rfl,pw,_,rfl,SqL.of ew2,λpc hpc=>?_⟩;rw[zp2 (by omega)];have s23:=zh (o:=.lst (ws.drop pl)) (Same.refl H2) hpc;have ec:upd H2 pc (.lst (ws.drop pl)) pc=some (.lst (ws.drop pl)):=zc;generalize upd H2 pc (.lst (ws.drop pl))=H3 at s23 ec;have rd:=(rwy2.keep (Same.tups s23)).drop pl;rw[<-List.map_drop] at rd;have vs3:=I.same vs2 s23;have f3:Frm D H H3:=f1.trans ((Frm.of s2).trans (Frm.of s23));refine⟨_,rfl,a,pc,D,s1,ws.drop pl,ns.drop pl,x,vx,0,0,rfl,vs3,ec,rd,λy hy=>gd y (List.mem_of_mem_drop hy),rx2.keep (Same.tups s23),Pg.wp_mono (λlr s4 h4 v H4 f4 vs4 rp=>?_) (OutE.on f3) h2⟩;obtain⟨pt,rfl,et⟩:=rp;have ew4:=I.lst vs3 f4 (s23 _ _ ew2);have tk24:Tups H2 H4:=(Same.tups s23).trans (I.tups vs3 f4);have rwy4:=rwy2.keep tk24;obtain⟨h0,gN,h5,h6⟩:=h4;refine⟨_,rfl,_,rfl,pw,_,rfl,.inl (SqL.of ew4),_,_,rfl,rfl,_,rfl,?_⟩;have key:pl < ns.length->∃p xs,atI ws (pl:Int)=some (.ref p)/\H4 p=some (.tup xs)/\atI xs 4=some (.int (zdi ns pl)):=λhlt=>by have hv:ws[pl]? =some (ws[pl]'(by omega)):=List.getElem?_eq_getElem (by omega);have hn:ns[pl]? =some (ns[pl]'hlt):=List.getElem?_eq_getElem hlt;have rl:=rwy4.at pl _ _ hv (by rw[List.getElem?_map,hn];rfl);obtain⟨p,vk,vw',ev,ea,rk,_⟩:=zv rl;refine⟨p,_,by rw[zkG hv,ev],ea,?_⟩;unfold zdi;rw[hn];rfl
  refine' joinM (λc hn=>?ja) (λc hn=>?jb) ?jr
  case ja=>have c':(pl:Int) < ((ws.length:Nat):Int):=Jl c;obtain⟨p,xs,e1,e2,e3⟩:=key (by clear hn;omega);exact⟨_,rfl,_,rfl,pw,_,_,_,rfl,rfl,SqL.of ew4,e1,p,_,_,_,rfl,rfl,SqT.of e2,e3,hn⟩
  case jb=>
   have c':¬(pl:Int) < ((ws.length:Nat):Int):=of_decide_eq_false c;have hz:zdi ns pl=0:=by unfold zdi;rw[List.getElem?_eq_none (by clear hn;omega)]
   rw[hz] at hn;exact hn
  have et4:SqT K H4 pt [.int lr.1,.int lr.2]:=SqT.of et;obtain⟨dx4,fs4,eo4,_,n4⟩:=I.ins vs4;have rx4:=rx2.keep tk24;have rw4:=rw2.keep tk24;generalize zdi ns pl=cn at gN h5 h6;refine⟨_,rfl,a,dx4,fs4,rfl,eo4,n4,_,rfl,_,rfl,_,rfl,pt,_,_,_,rfl,rfl,et4,rfl,_,rfl,pt,_,_,_,rfl,rfl,et4,rfl,_,rfl,_,_,rfl,rfl,szl (show 5<=1000 by decide),λp2 hp2=>?_⟩;have r5:Rep (upd H4 p2 (.tup [vx,vw,.int lr.1,.int lr.2,.int (cn+1)])) (Nd.mk x wo lr.1 lr.2 (cn+1)).th (.ref p2):=(RepL.cons rx4 (.cons rw4 (.cons (.int _) (.cons (.int _) (.cons (.int _) .nil))))).new hp2;have s45:=zh (o:=.tup [vx,vw,.int lr.1,.int lr.2,.int (cn+1)]) (Same.refl H4) hp2;generalize upd H4 p2 (.tup [vx,vw,.int lr.1,.int lr.2,.int (cn+1)])=H5 at r5 s45;have vs5:=I.same vs4 s45;have f5:Frm D H H5:=f3.trans (f4.trans (Frm.of s45));refine⟨a,D,s4,_,_,rfl,vs5,h0,r5,gN,λH6 st f6 vs6=>?_,λu x' v1 v2 H6 st f6=>h6 u st x' v1 v2 H6 (f5.trans f6)⟩;have ew6:=I.lst vs5 f6 (s45 _ _ ew4);have tk46:Tups H4 H6:=(Same.tups s45).trans (I.tups vs5 f6);refine⟨_,rfl,_,rfl,_,rfl,_,rfl,pw,_,rfl,SqL.of ew6,λpq hpq=>?_⟩;rw[zsW (by omega)];have s67:=zh (o:=.lst (ws.take pl)) (Same.refl H6) hpq;have eq7:upd H6 pq (.lst (ws.take pl)) pq=some (.lst (ws.take pl)):=zc;generalize upd H6 pq (.lst (ws.take pl))=H7 at s67 eq7;have rt:=(rwy4.keep (tk46.trans (Same.tups s67))).take pl;rw[<-List.map_take] at rt;have f7:=(f5.trans f6).trans (Frm.of s67);exact⟨_,rfl,_,rfl,a,pq,D,_,ws.take pl,ns.take pl,x,vx,_,1,rfl,I.same vs6 s67,eq7,rt,λy hy=>gd y (List.mem_of_mem_take hy),(rx4.keep tk46).keep (Same.tups s67),Pg.wp_mono (OutQ.on f7) (OutE.on f7) (h5 st)⟩
end
end Pv
namespace Pv
open PySem L2
theorem Mt.mono {P:Program}{w:World}{K:QA}{mg:QB}{base:Heap}{CX:CXT}{C:Addr}{m:Str}{j k:Nat}{ps:QP}{sp:Sp}(F:Mt P w K mg base CX C m j ps sp)(h:j<=k):Mt P w K mg base CX C m k ps sp:=by obtain⟨f,fd,a,b⟩:=F.ex;exact⟨f,fd,a.mono h,b⟩
theorem NL.tups (n:NL H H'):Tups H H':=λb xs e=>n b _ (by intro ys z;cases z) e
theorem VOk.nl (v:VOk H C a d kvs)(n:NL H H'):VOk H' C a d kvs:=by obtain⟨⟨dx,fs,e,f⟩,e2⟩:=v;exact⟨⟨dx,fs,n _ _ (by intro ys z;cases z) e,f⟩,n _ _ (by intro ys z;cases z) e2⟩
theorem VS.nl {H H':Hp}{C a d:Addr}{cs:QF}(v:VS H C a d cs)(n:NL H H'):VS H' C a d cs:=by obtain⟨kv,vo,dr⟩:=v.vo;exact⟨⟨kv,vo.nl n,dr.keep n.tups⟩,v.gc⟩
theorem zct {a b:QF}:zl (a++b) n=(zl a n).or (zl b n):=by
 induction a with
 | nil=>rfl
 | cons p r ih=>
  obtain⟨k,u⟩:=p;rw[List.cons_append,zK,zK];by_cases h:k=n
  ·rw[if_pos h,if_pos h];rfl
  ·rw[if_neg h,if_neg h];exact ih
theorem Vst.all_own {s:Vst}{n:Int}{t:Th}(h:zl s.own n=some t):zl s.all n=some t:=by unfold Vst.all;rw[zct,h];rfl
theorem Vst.all_kp {s:Vst}{n:Int}(h:zl s.own n=none):zl s.all n=zl s.kp n:=by unfold Vst.all;rw[zct,h];rfl
theorem zla {s:Vst}{t:Th}(h:s.stop t=none):zl s.all (zm t)=none\/zl s.all (zm t)=some t:=by
 unfold Vst.stop at h;cases z:zl s.all (zm t) with
 | none=>exact .inl rfl
 | some u=>
  rw[z] at h;have h':(if u=t then none else some u)=(none:Option Th):=h;by_cases e:u=t
  ·rw[e];exact .inr rfl
  ·rw[if_neg e] at h';cases h'
theorem zpk {s:Vst}(h:zl s.all (zm t)=none\/zl s.all (zm t)=some t):s.stop t=none:=by
 unfold Vst.stop;rcases h with h | h
 ·rw[h]
 ·rw[h];exact if_pos rfl
theorem zlC {s:Vst}{u:Th}(h:zl s.all (zm t)=some u)(n:u≠t):s.stop t=some u:=by unfold Vst.stop;rw[h];exact if_neg n
structure VK (C:Addr)(H:Hp)(a:Addr)(D:QO)(s:Vst):Prop where
 vs:∃d,D=[d]/\VS H C a d s.own
 kp:s.kp=[]
 rm:s.own.length+s.n<=1000000
theorem vi_K (C:Addr):VI C (VK C) where
 ins:=λv=>by obtain⟨d,_,vs⟩:=v.vs;obtain⟨kv,⟨⟨dx,fs,e,f⟩,_⟩,_⟩:=vs.vo;exact⟨dx,fs,e,f.n3,f.n2⟩
 dic:=λv b hb=>by obtain⟨d,e,vs⟩:=v.vs;obtain⟨kv,vo,_⟩:=vs.vo;subst e;rw[List.mem_singleton.mp hb];exact⟨kv,vo.di⟩
 nl:=λv n=>by obtain⟨d,e,vs⟩:=v.vs;exact⟨⟨d,e,vs.nl n⟩,v.kp,v.rm⟩
theorem Vst.look_own {s:Vst}{n:Int}{t:Th}(h:zl s.own n=some t):s.look n=some (t,{s with n:=s.n - 1}):=by unfold Vst.look;rw[h]
theorem Vst.look_kp {s:Vst}{n:Int}{t:Th}(h:zl s.own n=none)(k:zl s.kp n=some t):s.look n=some (t,{s with nt:=addT s.nt n t,n:=s.n - 1}):=by unfold Vst.look;rw[h];show(match zl s.kp n with | some t=>_ | none=>_)=_;rw[k]
theorem Vst.look_no {s:Vst}{n:Int}(h:zl s.own n=none)(k:zl s.kp n=none):s.look n=none:=by unfold Vst.look;rw[h];show(match zl s.kp n with | some t=>_ | none=>_)=_;rw[k]
section
variable {P:Program}{w:World}{K:QA}{mg:QB}{base:Heap}{R C CC CN kp dk:Addr}{x:Str}
theorem zpv (M:Mt P w K mg base (CX1 P w) C "thing" 1 ["self","number"] (ze7 C CN)):Mt P w K mg base (CX1 P w) C "thing" 2 ["self","number"] (zfg (VK C) CN):=Mt.mono (Mt.imp M λvs H Q E h=>by
 obtain⟨a,D,s,n,rfl,vk,h0,q,qe⟩:=h;obtain⟨d,rfl,vs⟩:=id vk.vs;obtain⟨kv,vo,dr⟩:=vs.vo;refine⟨a,d,kv,n,rfl,vo,λv ev=>?_,λev=>?_⟩
 ·obtain⟨t,e1,rv⟩:=dr.back ev;exact q t _ v H (Vst.look_own e1) Frm.refl ⟨⟨d,rfl,vs⟩,vk.kp,by have:=vk.rm;show s.own.length+(s.n - 1)<=1000000;omega⟩ rv (vs.gc.dep e1).1
 ·refine qe H (Vst.look_no ?_ (by rw[vk.kp];rfl)) Frm.refl vk;cases z:zl s.own n with
  | none=>rfl
  | some t=>
   obtain⟨y,ey,_⟩:=dr.some z;rw[ev] at ey;cases ey) (by decide)
theorem zs0 (M:Mt P w K mg base (CX1 P w) C "lay" 14 ["self","thing"] (znl C CC)):Mt P w K mg base (CX1 P w) C "lay" 14 ["self","thing"] (zff (VK C) CC):=Mt.imp M λvs H Q E h=>by
 obtain⟨a,D,s,t,v,rfl,vk,h0,rt,gt,q,qe⟩:=h;obtain⟨d,rfl,vs⟩:=id vk.vs;obtain⟨kv,vo,dr⟩:=vs.vo;have rm:=vk.rm;have eall:∀n,zl s.all n=zl s.own n:=λn=>by unfold Vst.all;rw[vk.kp,List.append_nil]
 refine⟨a,d,kv,t,v,rfl,vo,dr.laidOk vs.gc.gd,by rw[dr.len];omega,rt,gt,λH' sm alike=>?_,λt1 v1 H' sm e1 r1 g1 se ne H2 x s2 ex=>?_⟩
 ·have ft:Fits s.own (zm t) t:=by
   cases z:zl s.own (zm t) with
   | none=>exact .inl z
   | some u=>obtain⟨y,ey,ry⟩:=dr.some z;rw[alike u y ey ry] at z;exact .inr z
  have ed':=sm _ _ vo.di;have tk:Tups H (upd H' d (.dK (putK kv (.inl (zm t)) v))):=(Same.tups sm).trans (Tups.upd λxs z=>by rw[ed'] at z;cases z);have fr:Frm [d] H (upd H' d (.dK (putK kv (.inl (zm t)) v))):=λb o n e=>by rw[zg (λz=>n (by rw[z];exact List.mem_singleton.mpr rfl))];exact sm b o e
  obtain⟨⟨dx,fs,eo,fl⟩,ed⟩:=id vo;have hal:=zmW s.own (zm t) t;have had:a∉ [d]:=λz=>zal eo ed (by intro y;cases y) (List.mem_singleton.mp z);exact q _ (zpk (by rw[eall];exact ft)) fr ⟨⟨d,rfl,⟨⟨_,⟨⟨dx,fs,fr _ _ had eo,fl⟩,zc⟩,(dr.keep tk).add (rt.keep tk) ft vs.gc.nd⟩,vs.gc.add gt rfl⟩⟩,vk.kp,by show(addT s.own (zm t) t).length+(s.n - 1)<=1000000;omega⟩
 ·obtain⟨t2,e2,r2⟩:=dr.back e1;have e12:t2=t1:=(r2.keep (Same.tups sm)).uniq r1;subst e12;exact qe t2 x v1 v H2 (zlC (by rw[eall];exact e2) ne) (Frm.of λb o z=>s2 b o (sm b o z)) ((vi_K C).same vk λb o z=>s2 b o (sm b o z)) (r1.keep (Same.tups s2)) (rt.keep ((Same.tups sm).trans (Same.tups s2))) g1 gt ne se ex
end
end Pv
namespace Pv
open PySem L2
open Tr
theorem zdj:∀{n:Nat} {T:Tr},(down x n T).cnt<=T.cnt
 | 0,_=>Jb _
 | n+1,nil=>zdj (n:=n) (T:=nil)
 | n+1,node l k w r=>by
  have h:=zdj (x:=x) (n:=n) (T:=if zd k x=true then r else l);show(down x n (if zd k x=true then r else l)).cnt<=_;rw[zB];by_cases c:zd k x=true
  ·rw[if_pos c] at h ⊢;omega
  ·rw[if_neg c] at h ⊢;omega
theorem zeH:∀{n:Nat} {T:Tr},(∀m,m < n->down x m T≠nil)->(spl x n T).1.cnt+(spl x n T).2.cnt=T.cnt
 | 0,T,_=>rfl
 | n+1,nil,h=>Je rfl (h 0 (Nat.zero_lt_succ _))
 | n+1,node l k w r,h=>by
  have h':∀m,m < n->down x m (if zd k x=true then r else l)≠nil:=λm hm=>h (m+1) (Jx hm);show(if zd k x=true then(node l k w (spl x n r).1,(spl x n r).2) else((spl x n l).1,node (spl x n l).2 k w r)).1.cnt+(if zd k x=true then(node l k w (spl x n r).1,(spl x n r).2) else((spl x n l).1,node (spl x n l).2 k w r)).2.cnt=_;by_cases c:zd k x=true
  ·rw[if_pos c] at h' ⊢;have:=zeH h';show(node l k w (spl x n r).1).cnt+(spl x n r).2.cnt=_;rw[zB,zB];omega
  ·rw[if_neg c] at h' ⊢;have:=zeH h';show(spl x n l).1.cnt+(node (spl x n l).2 k w r).cnt=_;rw[zB,zB];omega
structure Go (A:Th->Prop)(j:Nat)(s s':Vst):Prop where
 kp:s'.kp=s.kp
 al:Sub s.all s'.all
 nt:∀n t,zl s'.nt n=some t->zl s.nt n=some t\/A t
 n:s.n<=s'.n+j
theorem Go.refl (s:Vst):Go A 0 s s:=⟨rfl,Sub.refl _,λ_ _ h=>.inl h,Jb _⟩
theorem Go.trans (g:Go A i s s')(g':Go A j s' s''):Go A (i+j) s s'':=
 ⟨g'.kp.trans g.kp,g.al.trans g'.al,λn t h=>by
  rcases g'.nt n t h with h | h
  ·exact g.nt n t h
  ·exact .inr h,by have:=g.n;have:=g'.n;omega⟩
theorem Go.mono {j:Nat}(g:Go A i s s')(h:i<=j):Go A j s s':=⟨g.kp,g.al,g.nt,by have:=g.n;omega⟩
theorem znD {s:Vst}{t:Th}{A:Th->Prop}(h:zl s.all n=some t)(hA:A t)(h0:0 < s.n):∃s',s.look n=some (t,s')/\Go A 1 s s'/\s'.own=s.own:=by
 cases z:zl s.own n with
 | some u=>rw[Vst.all_own z] at h;cases h;exact⟨_,Vst.look_own z,⟨rfl,Sub.refl _,λ_ _ h=>.inl h,by show s.n<=s.n - 1+1;omega⟩,rfl⟩
 | none=>
  rw[Vst.all_kp z] at h;refine⟨_,Vst.look_kp z h,⟨rfl,Sub.refl _,λm u y=>?_,by show s.n<=s.n - 1+1;omega⟩,rfl⟩;rcases zfx y with y | ⟨_,rfl⟩
  ·exact .inl y
  ·exact .inr hA
noncomputable def ndT (l:Tr)(k w:Th)(r:Tr):Nd:=⟨k,w,l.root,r.root,(((l.ps++(k,w)::r.ps).length:Nat):Int)⟩
theorem zrB {m:Int}(kw:KeyT k/\KeyT w)(c3:(node l k w r).cnt<=300)(hm:((node l k w r).cnt:Int) < m):benK m (node l k w r).thing=.ret (ndT l k w r):=by have ok:=(zbS kw.1 kw.2 c3).1;have e:ndOf (node l k w r).thing=some (ndT l k w r):=zkL (nd:=ndT l k w r) (zsc (nd:=ndT l k w r) ok);rw[zcv e,if_pos (show(ndT l k w r).c < m from hm)]
theorem zgS {A:Th->Prop}{m:Int}{s:Vst}{q:Nd->Vst->Prop}{e:Er->Vst->Prop}(tk:TOk s.all (node l k w r))(hm:((node l k w r).cnt:Int) < m)(h0:0 < s.n)(hA:A (node l k w r).thing)(h:∀s',Go A 1 s s'->s'.own=s.own->q (ndT l k w r) s'):(benP (node l k w r).root m).wp s q e:=by
 obtain⟨s',e1,g,eo⟩:=znD tk.iv.1 hA h0;refine⟨h0,λt s2 z=>?_,λz=>?_⟩
 ·rw[e1] at z;cases z;rw[zrB tk.kw tk.ct hm];exact h _ g eo
 ·rw[e1] at z;cases z
noncomputable def wayN (x:Th):Tr->List Nd
 | nil=>[]
 | node l k w r=>ndT l k w r::(if k=x then[] else if zd k x=true then wayN x r else wayN x l)
theorem zeG {x:Th}{k:Th}(h:k≠x):wayN x (node l k w r)=ndT l k w r::wayN x ((node l k w r).kid x):=by
 show ndT l k w r::(if k=x then[] else if zd k x=true then wayN x r else wayN x l)=ndT l k w r::wayN x (if zd k x=true then r else l);rw[if_neg h];by_cases c:zd k x=true
 ·rw[if_pos c,if_pos c]
 ·rw[if_neg c,if_neg c]
theorem zj7 {x:Th}:((node l k w r).kid x).cnt+1<=(node l k w r).cnt:=by have:=zB l k w r;show(if zd k x=true then r else l).cnt+1<=_;split <;> omega
theorem znS:kidI (ndT l k w r) x=((node l k w r).kid x).root:=by show(if zd k x=true then r.root else l.root)=(if zd k x=true then r else l).root;split <;> rfl
theorem TOk.go {s:Vst}(t:TOk s.all T)(g:Go A j s s'):TOk s'.all T:=t.mono g.al
theorem zjN {A:Th->Prop}{x:Th}{e:Er->Vst->Prop}:∀{T:Tr} {f:Nat} {m:Int} {s:Vst} {q:List Nd->Vst->Prop},TOk s.all T->T.cnt < f->(T.cnt:Int) < m->T.cnt<=s.n->(∀nd∈wayN x T,A nd.th)->(∀s',Go A T.cnt s s'->s'.own=s.own->q (wayN x T) s')->(wayP x f T.root m).wp s q e:=by
 intro T f
 induction f generalizing T with
 | zero=>intro m s q _ h;exact Je h (Nat.not_lt_zero _)
 | succ f ih=>
 intro m s q tk hf hm hn hA h;cases T with
 | nil=>unfold wayP;rw[if_pos (show(Tr.nil).root=0 from rfl)];exact h s (Go.refl s) rfl
 | node l k w r=>
  have kc:=zj7 (x:=x) (l:=l) (r:=r) (k:=k) (w:=w);unfold wayP;rw[if_neg (λz=>by cases zd0.mp z),Pg.wp_bind];refine zgS (A:=A) tk hm (by omega) (hA _ List.mem_cons_self) λs1 g1 o1=>?_;by_cases ek:k=x
  ·rw[if_pos (show(ndT l k w r).k=x from ek)];have e1:wayN x (node l k w r)=[ndT l k w r]:=by show _::(if k=x then[] else _)=_;rw[if_pos ek]
   rw[e1] at h;exact h s1 (g1.mono (by omega)) o1
  ·rw[if_neg (show¬(ndT l k w r).k=x from ek),Pg.wp_bind,znS];rw[zeG ek] at hA h;have gn:=g1.n;refine ih (T:=(node l k w r).kid x) (tk.go g1).kid (by omega) (by show _ < (((l.ps++(k,w)::r.ps).length:Nat):Int);have:(l.ps++(k,w)::r.ps).length=(node l k w r).cnt:=rfl;omega) (by omega) (λnd hnd=>hA nd (Jd _ hnd)) λs2 g2 o2=>?_;exact h s2 ((g1.trans g2).mono (by omega)) (o2.trans o1)
theorem zpZ {s:Vst}{t:Th}(h:s.stop t=none):Sub s.all (s.add t).all/\zl (s.add t).all (zm t)=some t:=by
 have h':=zla h;have key:zl (s.add t).all (zm t)=some t:=by
  show zl (addT s.own (zm t) t++s.kp) (zm t)=some t;rw[zct];cases z:zl s.own (zm t) with
  | none=>rw[zea (.inl z)];rfl
  | some u=>
   rw[Vst.all_own z] at h';rcases h' with h' | h'
   ·cases h'
   ·cases h';rw[zea (.inr z)];rfl
 refine⟨λn u e=>?_,key⟩;show zl (addT s.own (zm t) t++s.kp) n=some u;rw[zct];cases z:zl s.own n with
 | some v=>rw[Vst.all_own z] at e;cases e;rw[zlc z];rfl
 | none=>
  rw[Vst.all_kp z] at e;cases y:zl (addT s.own (zm t) t) n with
  | none=>exact e
  | some v=>
   rcases zfx y with y | ⟨rfl,rfl⟩
   ·rw[z] at y;cases y
   ·rw[Vst.all_kp z,e] at h';rcases h' with h' | h'
    ·cases h'
    ·exact h'.symm
theorem zcy {t:Th}{k:Pg α}{s:Vst}{q:α->Vst->Prop}{e:Er->Vst->Prop}(h0:0 < s.n)(g:Good t)(hc:∀u t s',e (.clash u t) s')(h:∀s',Go A 1 s s'->zl s'.all (zm t)=some t->k.wp s' q e):(Pg.lay t k).wp s q e:=by refine⟨h0,g,λz=>?_,λu _=>hc u t s⟩;obtain⟨a,b⟩:=zpZ z;exact h _ ⟨rfl,a,λ_ _ h=>.inl h,by show s.n<=s.n - 1+1;omega⟩ b
noncomputable def wayT (x:Th):Nat->Tr->List Nd
 | 0,_=>[]
 | _+1,nil=>[]
 | n+1,node l k w r=>ndT l k w r::wayT x n ((node l k w r).kid x)
theorem zb6:∀{T:Tr},wayN x T=wayT x (wl x T) T
 | nil=>rfl
 | node l k w r=>by
  by_cases ek:k=x
  ·have e1:wl x (node l k w r)=1:=by show(if k=x then 1 else _)=1;rw[if_pos ek]
   rw[e1];show _::(if k=x then[] else _)=_;rw[if_pos ek];rfl
  ·have e1:wl x (node l k w r)=wl x ((node l k w r).kid x)+1:=by show(if k=x then 1 else(if zd k x=true then r.wl x else l.wl x)+1)=wl x (if zd k x=true then r else l)+1;rw[if_neg ek];split <;> rfl
   rw[e1,zeG ek];show _=ndT l k w r::wayT x (wl x ((node l k w r).kid x)) ((node l k w r).kid x);congr 1;show wayN x (if zd k x=true then r else l)=wayT x (wl x (if zd k x=true then r else l)) (if zd k x=true then r else l);by_cases c:zd k x=true
   ·rw[if_pos c];exact zb6
   ·rw[if_neg c];exact zb6
theorem zgj:∀{m n:Nat} {T:Tr},m<=n->(wayT x n T).take m=wayT x m T
 | 0,_,_,_=>by rw[List.take_zero];rfl
 | m+1,0,_,h=>Je h (Nat.not_succ_le_zero m)
 | m+1,n+1,nil,_=>rfl
 | m+1,n+1,node l k w r,h=>congrArg (ndT l k w r:: ·) (zgj (Nat.le_of_succ_le_succ h))
theorem zf2:∀{m n:Nat} {T:Tr},m<=n->(wayT x n T).drop m=wayT x (n - m) (down x m T)
 | 0,n,_,_=>rfl
 | m+1,0,_,h=>Je h (Nat.not_succ_le_zero m)
 | m+1,n+1,nil,h=>by
  have e:wayT x (n+1) nil=[]:=rfl;rw[e,List.drop_nil];have:∀(j i:Nat),wayT x i (down x j nil)=[]:=λj=>by
   induction j with
   | zero=>intro i;cases i <;> rfl
   | succ j ih=>exact ih
  exact(this (m+1) _).symm
 | m+1,n+1,node l k w r,h=>by show(wayT x n ((node l k w r).kid x)).drop m=wayT x (n+1 - (m+1)) (down x m ((node l k w r).kid x));rw[zf2 (Nat.le_of_succ_le_succ h),Nat.succ_sub_succ]
theorem zgp:∀{a b:List Nd} {n:Int},zbj x more (a++b) n=(zbj x more a n).bind (zbj x more b)
 | [],_,_=>rfl
 | nd::a,b,n=>by show Pg.lay _ (zbj x more (a++b) _)=Pg.lay _ ((zbj x more a _).bind _);rw[zgp]
theorem zhr {e:Er->Vst->Prop}(hc:∀u t s',e (.clash u t) s'){more:Int}:∀{n:Nat} {T S:Tr} {s:Vst} {q:Int->Vst->Prop},TOk s.all T->S.InV s.all->(∀m,m < n->down x m T≠nil)->T.cnt+S.cnt<=300+(down x n T).cnt->more=(S.cnt:Int) - ((down x n T).cnt:Int)->n<=s.n->
  (∀s',Go A n s s'->(plug x n T S).InV s'.all->q (plug x n T S).root s')->(zbj x more (wayT x n T).reverse S.root).wp s q e
 | 0,T,S,s,q,_,iS,_,_,_,_,h=>h s (Go.refl s) iS
 | n+1,nil,_,_,_,_,_,nn,_,_,_,_=>Je rfl (nn 0 (Nat.zero_lt_succ _))
 | n+1,node l k w r,S,s,q,tk,iS,nn,h3,hm,hn,h=>by
  have kc:=zj7 (x:=x) (l:=l) (r:=r) (k:=k) (w:=w);show(zbj x more (ndT l k w r::wayT x n ((node l k w r).kid x)).reverse S.root).wp s q e;have hd:down x (n+1) (node l k w r)=down x n ((node l k w r).kid x):=rfl;rw[hd] at h3 hm;rw[List.reverse_cons,zgp,Pg.wp_bind];refine zhr (A:=A) hc (n:=n) (T:=(node l k w r).kid x) tk.kid iS (λm hm=>nn (m+1) (Jx hm)) (by omega) hm (by omega) λs1 g1 i1=>?_;have pc:=zeT (x:=x) (n:=n) (T:=(node l k w r).kid x) (S:=S) (λm hm=>nn (m+1) (Jx hm));have tk1:=tk.go g1;have gn:=g1.n;have cn:=zB l k w r;generalize hP:plug x n ((node l k w r).kid x) S=Pj at pc i1;have hnew:plug x (n+1) (node l k w r) S=if zd k x=true then node l k w Pj else node Pj k w r:=by
   show(if zd k x=true then node l k w (plug x n r S) else node (plug x n l S) k w r)=_;by_cases c:zd k x=true
   ·have e1:(node l k w r).kid x=r:=if_pos c;rw[e1] at hP;rw[if_pos c,if_pos c,hP]
   ·have e1:(node l k w r).kid x=l:=if_neg c;rw[e1] at hP;rw[if_neg c,if_neg c,hP]
  rw[hnew] at h;have hlen:(l.ps++(k,w)::r.ps).length=(node l k w r).cnt:=rfl;by_cases c:zd k x=true
  ·rw[if_pos c] at h;have e1:(node l k w r).kid x=r:=if_pos c;rw[e1] at pc h3 hm;have cn2:=zB l k w Pj;have et:(zak (ndT l k w r) (zb0 (ndT l k w r).k x) Pj.root ((ndT l k w r).c+more)).th=(node l k w Pj).thing:=by have e3:zb0 (ndT l k w r).k x=3:=if_pos c;rw[e3];show zbd k w l.root Pj.root ((((l.ps++(k,w)::r.ps).length:Nat):Int)+more)=zbd k w l.root Pj.root (((l.ps++(k,w)::Pj.ps).length:Nat):Int);have:(l.ps++(k,w)::Pj.ps).length=(node l k w Pj).cnt:=rfl;rw[show(((l.ps++(k,w)::r.ps).length:Nat):Int)+more=(((l.ps++(k,w)::Pj.ps).length:Nat):Int) by omega]
   show(Pg.lay _ (Pg.ret _)).wp s1 q e;rw[et];refine zcy (A:=A) (by omega) (zbS tk.kw.1 tk.kw.2 (by omega)).2 hc λs2 g2 e2=>?_;exact h s2 ((g1.trans g2).mono (Jb _)) ⟨e2,(tk1.go g2).l.iv,InV.mono g2.al i1⟩
  ·rw[if_neg c] at h;have e1:(node l k w r).kid x=l:=if_neg c;rw[e1] at pc h3 hm;have cn2:=zB Pj k w r;have et:(zak (ndT l k w r) (zb0 (ndT l k w r).k x) Pj.root ((ndT l k w r).c+more)).th=(node Pj k w r).thing:=by have e3:zb0 (ndT l k w r).k x=2:=if_neg c;rw[e3];show zbd k w Pj.root r.root ((((l.ps++(k,w)::r.ps).length:Nat):Int)+more)=zbd k w Pj.root r.root (((Pj.ps++(k,w)::r.ps).length:Nat):Int);have:(Pj.ps++(k,w)::r.ps).length=(node Pj k w r).cnt:=rfl;rw[show(((l.ps++(k,w)::r.ps).length:Nat):Int)+more=(((Pj.ps++(k,w)::r.ps).length:Nat):Int) by omega]
   show(Pg.lay _ (Pg.ret _)).wp s1 q e;rw[et];refine zcy (A:=A) (by omega) (zbS tk.kw.1 tk.kw.2 (by omega)).2 hc λs2 g2 e2=>?_;exact h s2 ((g1.trans g2).mono (Jb _)) ⟨e2,InV.mono g2.al i1,(tk1.go g2).r.iv⟩
noncomputable def zby (x:Th):List Nd->Int->Int->Int->Int->Pg (Int ×Int ×Int ×Int)
 | [],l,lc,r,rc=>.ret (l,lc,r,rc)
 | nd::t,l,lc,r,rc=>if zd nd.k x=true then .lay (zak nd 3 l (nd.c - rc)).th (zby x t (zm (zak nd 3 l (nd.c - rc)).th) (nd.c - rc) r rc)
  else .lay (zak nd 2 r (nd.c - lc)).th (zby x t l lc (zm (zak nd 2 r (nd.c - lc)).th) (nd.c - lc))
theorem zfF:∀{a:List Nd} {l lc r rc:Int},zeu x a l lc r rc=(zby x a l lc r rc).bind λy=>.ret (y.1,y.2.2.1)
 | [],_,_,_,_=>rfl
 | nd::a,l,lc,r,rc=>by
  unfold zeu zby;split
  ·show Pg.lay _ _=Pg.lay _ _;rw[zfF]
  ·show Pg.lay _ _=Pg.lay _ _;rw[zfF]
theorem ziM {nd:Nd}{a:List Nd}(h:zd nd.k x=true):zby x (nd::a) l lc r rc=.lay (zak nd 3 l (nd.c - rc)).th (zby x a (zm (zak nd 3 l (nd.c - rc)).th) (nd.c - rc) r rc):=if_pos h
theorem zib {nd:Nd}{a:List Nd}(h:¬zd nd.k x=true):zby x (nd::a) l lc r rc=.lay (zak nd 2 r (nd.c - lc)).th (zby x a l lc (zm (zak nd 2 r (nd.c - lc)).th) (nd.c - lc)):=if_neg h
theorem zdN:∀{a b:List Nd} {l lc r rc:Int},zby x (a++b) l lc r rc=(zby x a l lc r rc).bind λy=>zby x b y.1 y.2.1 y.2.2.1 y.2.2.2
 | [],_,_,_,_,_=>rfl
 | nd::a,b,l,lc,r,rc=>by
  by_cases c:zd nd.k x=true
  ·rw[List.cons_append,ziM c,ziM c,zdN];rfl
  ·rw[List.cons_append,zib c,zib c,zdN];rfl
theorem zki {e:Er->Vst->Prop}(hc:∀u t s',e (.clash u t) s'):∀{n:Nat} {T:Tr} {s:Vst} {q:Int ×Int ×Int ×Int->Vst->Prop},TOk s.all T->(∀m,m < n->down x m T≠nil)->n<=s.n->
  (∀s',Go A n s s'->(spl x n T).1.InV s'.all->(spl x n T).2.InV s'.all->q ((spl x n T).1.root,((spl x n T).1.cnt:Int),(spl x n T).2.root,((spl x n T).2.cnt:Int)) s')->(zby x (wayT x n T).reverse (down x n T).root ((down x n T).cnt:Int) 0 0).wp s q e
 | 0,T,s,q,tk,_,_,h=>h s (Go.refl s) tk.iv trivial
 | n+1,nil,_,_,_,nn,_,_=>Je rfl (nn 0 (Nat.zero_lt_succ _))
 | n+1,node l k w r,s,q,tk,nn,hn,h=>by
  have hd:down x (n+1) (node l k w r)=down x n ((node l k w r).kid x):=rfl;rw[hd];show(zby x (ndT l k w r::wayT x n ((node l k w r).kid x)).reverse _ _ 0 0).wp s q e;rw[List.reverse_cons,zdN,Pg.wp_bind];have sc:=zeH (x:=x) (n:=n) (T:=(node l k w r).kid x) (λm hm=>nn (m+1) (Jx hm));refine zki (A:=A) hc (n:=n) (T:=(node l k w r).kid x) tk.kid (λm hm=>nn (m+1) (Jx hm)) (by omega) λs1 g1 i1 i2=>?_;have tk1:=tk.go g1;have gn:=g1.n;have cn:=zB l k w r;have ct:=tk.ct;have hlen:(l.ps++(k,w)::r.ps).length=(node l k w r).cnt:=rfl;have hnew:spl x (n+1) (node l k w r)=if zd k x=true then(node l k w (spl x n ((node l k w r).kid x)).1,(spl x n ((node l k w r).kid x)).2) else((spl x n ((node l k w r).kid x)).1,node (spl x n ((node l k w r).kid x)).2 k w r):=by
   show(if zd k x=true then(node l k w (spl x n r).1,(spl x n r).2) else((spl x n l).1,node (spl x n l).2 k w r))=_;by_cases c:zd k x=true
   ·have e1:(node l k w r).kid x=r:=if_pos c;rw[e1,if_pos c,if_pos c]
   ·have e1:(node l k w r).kid x=l:=if_neg c;rw[e1,if_neg c,if_neg c]
  rw[hnew] at h;generalize(spl x n ((node l k w r).kid x)).1=L at sc i1 h ⊢;generalize(spl x n ((node l k w r).kid x)).2=R at sc i2 h ⊢;show(if zd k x=true then Pg.lay (zak (ndT l k w r) 3 L.root ((ndT l k w r).c - (R.cnt:Int))).th (Pg.ret (_,_,R.root,(R.cnt:Int))) else Pg.lay (zak (ndT l k w r) 2 R.root ((ndT l k w r).c - (L.cnt:Int))).th (Pg.ret (L.root,(L.cnt:Int),_,_))).wp s1 q e;by_cases c:zd k x=true
  ·rw[if_pos c] at h ⊢;have e1:(node l k w r).kid x=r:=if_pos c;rw[e1] at sc;have cn2:=zB l k w L;have hl2:(l.ps++(k,w)::L.ps).length=(node l k w L).cnt:=rfl;have ec:(ndT l k w r).c - (R.cnt:Int)=((node l k w L).cnt:Int):=by show(((l.ps++(k,w)::r.ps).length:Nat):Int) - _=_;omega
   rw[ec];have et:(zak (ndT l k w r) 3 L.root ((node l k w L).cnt:Int)).th=(node l k w L).thing:=rfl;rw[et];refine zcy (A:=A) (by omega) (zbS tk.kw.1 tk.kw.2 (by omega)).2 hc λs2 g2 e2=>?_;exact h s2 (g1.trans g2) ⟨e2,(tk1.go g2).l.iv,InV.mono g2.al i1⟩ (InV.mono g2.al i2)
  ·rw[if_neg c] at h ⊢;have e1:(node l k w r).kid x=l:=if_neg c;rw[e1] at sc;have cn2:=zB R k w r;have hl2:(R.ps++(k,w)::r.ps).length=(node R k w r).cnt:=rfl;have ec:(ndT l k w r).c - (L.cnt:Int)=((node R k w r).cnt:Int):=by show(((l.ps++(k,w)::r.ps).length:Nat):Int) - _=_;omega
   rw[ec];have et:(zak (ndT l k w r) 2 R.root ((node R k w r).cnt:Int)).th=(node R k w r).thing:=rfl;rw[et];refine zcy (A:=A) (by omega) (zbS tk.kw.1 tk.kw.2 (by omega)).2 hc λs2 g2 e2=>?_;exact h s2 (g1.trans g2) (InV.mono g2.al i1) ⟨e2,InV.mono g2.al i2,(tk1.go g2).r.iv⟩
end Pv
namespace Pv
open PySem L2
open Tr
theorem zgb:∀{n:Nat} {T l r:Tr} {k w:Th},down x n T=node l k w r->(∀m,m < n->down x m T≠nil)->wayT x (n+1) T=wayT x n T++ [ndT l k w r]
 | 0,node l' k' w' r',l,r,k,w,e,_=>by cases e;rfl
 | 0,nil,_,_,_,_,e,_=>by cases e
 | n+1,nil,_,_,_,_,_,h=>Je rfl (h 0 (Nat.zero_lt_succ _))
 | n+1,node l' k' w' r',l,r,k,w,e,h=>congrArg (ndT l' k' w' r':: ·) (zgb (n:=n) (T:=(node l' k' w' r').kid x) e λm hm=>h (m+1) (Jx hm))
theorem zft {x:Th}:∀{T:Tr},own x T=nil->∀nd∈wayN x T,nd.k≠x
 | nil,_,nd,h=>by cases h
 | node l k w r,h,nd,hn=>by
  unfold own at h;by_cases e:k=x
  ·rw[if_pos e] at h;cases h
  ·rw[if_neg e] at h;have hn':nd∈ndT l k w r::(if k=x then[] else if zd k x=true then wayN x r else wayN x l):=hn;rw[if_neg e] at hn';rcases List.mem_cons.mp hn' with rfl | hn'
   ·exact e
   ·by_cases c:zd k x=true
    ·rw[if_pos c] at h hn';exact zft h nd hn'
    ·rw[if_neg c] at h hn';exact zft h nd hn'
theorem zdU:∀{T:Tr},own x T=nil->zas x (wayN x T)=plc x T
 | nil,_=>rfl
 | node l k w r,h=>by
  unfold own at h;by_cases e:k=x
  ·rw[if_pos e] at h;cases h
  ·rw[if_neg e] at h;show(if zbR x k=true then 0 else zas x (if k=x then[] else if zd k x=true then wayN x r else wayN x l)+1)=(if zbR x k=true then 0 else(if zd k x=true then r.plc x else l.plc x)+1);rw[if_neg e];by_cases c:zd k x=true
   ·rw[if_pos c] at h;rw[if_pos c,if_pos c,zdU h]
   ·rw[if_neg c] at h;rw[if_neg c,if_neg c,zdU h]
theorem zob:∀{n i:Nat} {T:Tr},i<=n->(∀m,m < n->down x m T≠nil)->down x n T=nil->zdi (wayT x n T) i=((down x i T).cnt:Int)
 | 0,0,T,_,_,e=>by have e':T=nil:=e;subst e';rfl
 | 0,i+1,_,h,_,_=>Je h (Nat.not_succ_le_zero i)
 | n+1,_,nil,_,h,_=>Je rfl (h 0 (Nat.zero_lt_succ _))
 | n+1,0,node l k w r,_,_,_=>rfl
 | n+1,i+1,node l k w r,hi,h,e=>zob (n:=n) (i:=i) (T:=(node l k w r).kid x) (Nat.le_of_succ_le_succ hi) (λm hm=>h (m+1) (Jx hm)) e
theorem zbT {A:Th->Prop}{x:Th}{e:Er->Vst->Prop}(hc:∀u t s',e (.clash u t) s'){T:Tr}{s:Vst}{q:Int->Vst->Prop}(tk:TOk s.all T)(c9:T.cnt<=299)(kx:KeyT x)(kw:KeyT wo)(hn:1000<=s.n)(hA:∀nd∈wayN x T,A nd.th)(h:∀s',Go A 1000 s s'->(putT x wo T).InV s'.all->q (putT x wo T).root s'):(putP T.root x wo).wp s q e:=by
 unfold putP;rw[Pg.wp_bind];refine zjN (A:=A) tk (by omega) (by omega) (by omega) hA λs1 g1 _=>?_;have tk1:=tk.go g1;have gn:=g1.n;have hwl:=zmF (x:=x) T;cases z:own x T with
 | node l k w r=>
  obtain⟨rfl,n,ewl,up,ed⟩:=zde z;have ew:wayN k T=wayT k n T++ [ndT l k w r]:=by rw[zb6,ewl,zgb ed (up_down up)]
  have ek:zc2 k wo (wayN k T)=putO k wo (wayN k T) (ndT l k w r):=by unfold zc2;rw[ew,List.getLast?_concat];exact if_pos rfl
  rw[ek];unfold putO;rw[ew,List.dropLast_concat];have hlen:(l.ps++(k,w)::r.ps).length=(l.ps++(k,wo)::r.ps).length:=by simp
  have et:(Nd.mk k wo (ndT l k w r).l (ndT l k w r).r (ndT l k w r).c).th=(node l k wo r).thing:=by show zbd k wo l.root r.root (((l.ps++(k,w)::r.ps).length:Nat):Int)=zbd k wo l.root r.root (((l.ps++(k,wo)::r.ps).length:Nat):Int);rw[hlen]
  rw[et];have hcn:(node l k wo r).cnt=(node l k w r).cnt:=by rw[zB,zB]
  have hdc:(node l k w r).cnt<=T.cnt:=by rw[<-ed];exact zdj
  have td:=tk1.down (x:=k) (n:=n);rw[ed] at td;refine zcy (A:=A) (by omega) (zbS kx kw (by omega)).2 hc λs2 g2 e2=>?_;have gn2:=g2.n;have ep:putT k wo T=plug k n T (node l k wo r):=by unfold putT;rw[z,ewl,Nat.add_sub_cancel]
  rw[ep] at h;exact zhr (A:=A) hc (S:=node l k wo r) (tk1.go g2) ⟨e2,(td.go g2).l.iv,(td.go g2).r.iv⟩ (up_down up) (by rw[ed,hcn];omega) (by rw[ed,hcn];omega) (by omega) λs3 g3 i3=>h s3 ((g1.trans (g2.trans g3)).mono (by omega)) i3
 | nil=>
  obtain⟨up,dn⟩:=zdb z;have hpl:=zhm z;have ek:zc2 x wo (wayN x T)=putN x wo (wayN x T):=by
   unfold zc2;cases y:(wayN x T).getLast? with
   | none=>rfl
   | some nd=>exact if_neg (zft z nd (List.mem_of_getLast? y))
  rw[ek];unfold putN;rw[zdU z,zfF];generalize hp:plc x T=pl at hpl;have hdn:down x (wl x T - pl) (down x pl T)=nil:=by rw[<-zfc,show pl+(wl x T - pl)=wl x T by omega];exact dn
  have hnn:∀m,m < wl x T - pl->down x m (down x pl T)≠nil:=λm hm=>by rw[<-zfc];exact up_down up _ (by omega)
  have ecn:zdi (wayN x T) pl=((down x pl T).cnt:Int):=by rw[zb6];exact zob hpl (up_down up) dn
  rw[ecn,zb6,zf2 hpl,zgj hpl,Pg.wp_bind,Pg.wp_bind];have hdc:(down x pl T).cnt<=T.cnt:=zdj;have hsc:=zeH hnn;have key:=zki (A:=A) (x:=x) (e:=e) hc (n:=wl x T - pl) (T:=down x pl T) (s:=s1) (q:=λy s'=>(Pg.ret (y.1,y.2.2.1)).wp s' (λlr s'=>(Pg.lay (Nd.mk x wo lr.1 lr.2 (((down x pl T).cnt:Int)+1)).th (zbj x 1 (wayT x pl T).reverse (zm (Nd.mk x wo lr.1 lr.2 (((down x pl T).cnt:Int)+1)).th))).wp s' q e) e) tk1.down hnn (by omega);rw[hdn] at key;refine key λs2 g2 i1 i2=>?_;clear key;have gn2:=g2.n;have hpq:putT x wo T=plug x pl T (node (spl x (wl x T - pl) (down x pl T)).1 x wo (spl x (wl x T - pl) (down x pl T)).2):=by unfold putT;rw[z,hp]
  rw[hpq] at h;generalize(spl x (wl x T - pl) (down x pl T)).1=L at i1 hsc h ⊢;generalize(spl x (wl x T - pl) (down x pl T)).2=R at i2 hsc h ⊢;have hcn:=zB L x wo R;have et:(Nd.mk x wo L.root R.root (((down x pl T).cnt:Int)+1)).th=(node L x wo R).thing:=by show zbd x wo L.root R.root (((down x pl T).cnt:Int)+1)=zbd x wo L.root R.root (((L.ps++(x,wo)::R.ps).length:Nat):Int);have:(L.ps++(x,wo)::R.ps).length=(node L x wo R).cnt:=rfl;rw[show((down x pl T).cnt:Int)+1=(((L.ps++(x,wo)::R.ps).length:Nat):Int) by omega]
  show(Pg.lay (Nd.mk x wo L.root R.root (((down x pl T).cnt:Int)+1)).th (zbj x 1 (wayT x pl T).reverse (zm (Nd.mk x wo L.root R.root (((down x pl T).cnt:Int)+1)).th))).wp s2 q e;rw[et];refine zcy (A:=A) (by omega) (zbS kx kw (by omega)).2 hc λs3 g3 e3=>?_;have gn3:=g3.n;exact zhr (A:=A) hc (S:=node L x wo R) ((tk1.go g2).go g3) ⟨e3,InV.mono g3.al i1,InV.mono g3.al i2⟩ (up_down (zha up hpl)) (by omega) (by omega) (by omega) λs4 g4 i4=>h s4 ((g1.trans (g2.trans (g3.trans g4))).mono (by omega)) i4
end Pv
namespace Pv
open PySem L2
noncomputable abbrev zgg:Stmt:=top 50
noncomputable abbrev zfJ (p:Th ×Th):Th:=.tup [p.1,p.2]
inductive zfa (vs:QQ) (H:Hp) (Q:L2.VK) (_E:XK):Prop
 | mk (a b:Th) (va vb:V) (_:vs=[va,vb]) (_:Rep H a va) (_:Rep H b vb) (_:dep a<=8) (_:∀H',Same H H'->Q (.bl (zfw a b)) H'):zfa vs H Q _E
section
variable {P:Program}{w:World}{K:QA}{mg:QB}{base:Heap}{VR:VRT}{C CC CN CB:Addr}{x:Str}{t1 t2 t3 t4 t5 t6 t7:Tok}
theorem zle (D:Dfn K mg "is_empty" zgg ["low","high"]) (zcD:Fn P w K mg base "ahead" 20 ["one","other"] (zaY 9)):Fn P w K mg base "is_empty" 21 ["low","high"] zfa:=by
 refine D.ok (k:=20) (L2.fsN ["low","high"]) (λf cdv A outer s H vs Q E hr h=>?_);obtain⟨a,b,va,vb,rfl,ra,rb,hd,q⟩:=h;refine⟨_,(by ac_rfl),?_⟩;have e1:=zaJ ra;have e2:=zaJ rb;refine⟨_,rfl,rfl,_,rfl,?_⟩;rw[e1];unfold zfw at q;cases z:decide (a=.non) with
 | true=>rw[z] at q;exact ifF rfl (q H (Same.refl H))
 | false=>
  rw[z] at q;refine ifT rfl ⟨_,rfl,rfl,_,rfl,?_⟩;rw[e2];cases y:decide (b=.non) with
  | true=>rw[y] at q;exact ifF rfl (q H (Same.refl H))
  | false=>rw[y] at q;refine ifT rfl ⟨_,rfl,_,rfl,a,b,_,_,rfl,ra,rb,by omega,by omega,λH1 s1=>⟨_,rfl,q H1 s1⟩⟩
end
end Pv
namespace Pv
open PySem L2
noncomputable abbrev zfK:Stmt:=top 51
noncomputable abbrev zep:Stmt:=top 52
noncomputable abbrev zei:Stmt:=top 53
noncomputable abbrev ziC:Stmt:=top 54
noncomputable def inB (lo hi:Th)(nd:Nd):Bool:=zbu hi nd.k && (decide (lo=.non) || !zd nd.k lo)
noncomputable def strL (lo hi:Th):Nat->Int->Int->List Nd->List (Th ×Th)->Pg (List (Th ×Th))
 | 0,_,_,_,_=>.bad
 | f+1,n,c,st,ps=>if n=0 then(match st with
   | []=>.ret ps
   | nd::st'=>strL lo hi f (if zbu hi nd.k=true then nd.r else 0) nd.c st' (if inB lo hi nd=true then ps++ [(nd.k,nd.w)] else ps))
  else(benP n c).bind λnd=>(if (zbw lo nd.k && zbu hi nd.k)=true then sumP nd else .ret ()).bind λ_=>strL lo hi f (if zbw lo nd.k=true then nd.l else 0) nd.c (nd::st) ps
noncomputable def strP (n:Int)(lo hi:Th):Pg (List (Th ×Th)):=if zfw lo hi=true then .ret [] else strL lo hi 700 n 301 [] []
noncomputable def zse (H:Hp)(ps:QH)(v:V):Prop:=∃pp xs,v=.ref pp/\H pp=some (.lst xs)/\RepL H (ps.map zfJ) xs/\ps.length<=700
noncomputable def zcU (H0 H:Hp)(ps:QH)(v:V):Prop:=zse H ps v/\∀pp,v=.ref pp->H0 pp=none
noncomputable def cntA (al:QF)(n:Int):Nat:=if n=0 then 0 else match zl al n with
 | none=>0
 | some t=>match ndOf t with
  | none=>0
  | some nd=>nd.c.toNat
noncomputable def wgt (al:QF)(n c:Int):Nat:=2 * min (cntA al n) (c.toNat - 1)
noncomputable def stkW (al:QF)(hi:Th):List Nd->Nat
 | []=>0
 | nd::st=>1+(if zbu hi nd.k=true then wgt al nd.r nd.c else 0)+stkW al hi st
theorem zlA {s s':Vst}{n:Int}{t:Th}(h:s.look n=some (t,s')):zl s.all n=some t/\s'.own=s.own/\s'.kp=s.kp:=by
 cases z:zl s.own n with
 | some u=>rw[Vst.look_own z] at h;cases h;exact⟨Vst.all_own z,rfl,rfl⟩
 | none=>
  cases y:zl s.kp n with
  | some u=>rw[Vst.look_kp z y] at h;cases h;exact⟨by rw[Vst.all_kp z];exact y,rfl,rfl⟩
  | none=>rw[Vst.look_no z y] at h;cases h
theorem zp3 {n:Int}{nd:Nd}{t:Th}(h0:n≠0)(h:zl al n=some t)(e:ndOf t=some nd):cntA al n=nd.c.toNat:=by unfold cntA;rw[if_neg h0,h];show(match ndOf t with | none=>0 | some nd=>nd.c.toNat)=_;rw[e]
theorem ziE {n:Int}{s:Vst}{q:Nd->Vst->Prop}{e:Er->Vst->Prop}(h0:n≠0)(h:(benP n m).wp s q e):(benP n m).wp s (λnd s'=>(cntA s.all n=nd.c.toNat/\1<=nd.c/\nd.c < m)/\(s'.own=s.own/\s'.kp=s.kp)/\q nd s') e:=by
 refine⟨h.1,λt s' z=>?_,h.2.2⟩;have h1:=h.2.1 t s' z;obtain⟨a,b⟩:=zlA z;cases y:ndOf t with
 | none=>rw[zdM y] at h1 ⊢;exact h1
 | some nd=>
  rw[zcv y] at h1 ⊢;obtain⟨rfl,zz⟩:=zdL y;by_cases hc:nd.c < m
  ·rw[if_pos hc] at h1 ⊢;exact⟨⟨zp3 h0 a y,(zod zz).c1,hc⟩,b,h1⟩
  ·rw[if_neg hc] at h1 ⊢;exact h1
theorem zgh {s:Vst}{q:Int->Vst->Prop}{e:Er->Vst->Prop}(h:(zcO n m).wp s q e):(zcO n m).wp s (λx s'=>x=(cntA s.all n:Int)/\(s'.own=s.own/\s'.kp=s.kp)/\q x s') e:=by
 unfold zcO at h ⊢;by_cases h0:n=0
 ·rw[if_pos h0] at h ⊢;have e0:cntA s.all n=0:=by unfold cntA;rw[if_pos h0]
  exact⟨by rw[e0];rfl,⟨rfl,rfl⟩,h⟩
 ·rw[if_neg h0,Pg.wp_bind] at h ⊢;refine Pg.wp_mono (λnd s' z=>?_) (λ_ _ z=>z) (ziE h0 h);obtain⟨⟨z1,z2,_⟩,z4,z5⟩:=z;exact⟨by omega,z4,z5⟩
theorem znU {s:Vst}{q:Unit->Vst->Prop}{e:Er->Vst->Prop}(h:(sumP nd).wp s q e):(sumP nd).wp s (λu s'=>(cntA s.all nd.l:Int)+(cntA s.all nd.r:Int)+1=nd.c/\(s'.own=s.own/\s'.kp=s.kp)/\q u s') e:=by
 unfold sumP at h ⊢;rw[Pg.wp_bind] at h ⊢;refine Pg.wp_mono (λx s1 z=>?_) (λ_ _ z=>z) (zgh h);obtain⟨e1,⟨o1,k1⟩,h1⟩:=z;rw[Pg.wp_bind] at h1 ⊢;refine Pg.wp_mono (λy s2 z=>?_) (λ_ _ z=>z) (zgh h1);obtain⟨e2,⟨o2,k2⟩,h2⟩:=z;have ea:s1.all=s.all:=by unfold Vst.all;rw[o1,k1]
 rw[ea] at e2;by_cases hs:x+y+1=nd.c
 ·rw[if_pos hs] at h2 ⊢;exact⟨by omega,⟨o2.trans o1,k2.trans k1⟩,h2⟩
 ·rw[if_neg hs] at h2 ⊢;exact h2
inductive zeU (vs:QQ) (H:Hp) (Q:L2.VK) (_E:XK):Prop
 | mk (v va:V) (nd:Nd) (a:Th) (_:vs=[v,va]) (_:Rep H nd.th v) (_:Rep H a va) (_:dep a<=8) (_:∀H',Same H H'->Q (.bl (zbw a nd.k)) H'):zeU vs H Q _E
inductive zfz (vs:QQ) (H:Hp) (Q:L2.VK) (_E:XK):Prop
 | mk (v va:V) (nd:Nd) (a:Th) (_:vs=[v,va]) (_:Rep H nd.th v) (_:Rep H a va) (_:dep nd.k<=8) (_:∀H',Same H H'->Q (.bl (zbu a nd.k)) H'):zfz vs H Q _E
inductive zgU (VR:VRT) (CN CB CC:Addr) (vs:QQ) (H:Hp) (Q:L2.VK) (E:XK):Prop
 | mk (a:Addr) (D:QO) (s:Vst) (n:Int) (lo hi:Th) (vl vh:V) (_:vs=[.ref a,.int n,vl,vh]) (_:VR H a D s) (_:Rep H lo vl) (_:Rep H hi vh) (_:dep lo<=8) (_:dep hi<=8) (_:Out VR CN CB CC a D (strP n lo hi) s (zcU H) H Q E):zgU VR CN CB CC vs H Q E
structure SX (D:QO)(H0 H:Hp)(pp pb:Addr)(st:List Nd)(ps:QH):Prop where
 fr:Frm D H0 H
 xs:∃xs,H pp=some (.lst xs)/\RepL H (ps.map zfJ) xs
 bs:∃bs,H pb=some (.lst bs)/\RepL H (st.reverse.map Nd.th) bs
theorem SX.go (I:VI C VR){a:Addr}{s:Vst}(i:SX D H0 H pp pb st ps)(v:VR H a D s)(f:Frm D H H'):SX D H0 H' pp pb st ps:=by obtain⟨xs,e1,r1⟩:=i.xs;obtain⟨bs,e2,r2⟩:=i.bs;exact⟨i.fr.trans f,⟨xs,I.lst v f e1,r1.keep (I.tups v f)⟩,⟨bs,I.lst v f e2,r2.keep (I.tups v f)⟩⟩
theorem SX.setB {st':List Nd}(i:SX D H0 H pp pb st ps)(np:pp≠pb)(hb:H0 pb=none)(r:RepL H (st'.reverse.map Nd.th) bs'):SX D H0 (upd H pb (.lst bs')) pp pb st' ps:=by
 obtain⟨xs,e1,r1⟩:=i.xs;obtain⟨bs,e2,r2⟩:=i.bs;have tk:Tups H (upd H pb (.lst bs')):=Tups.upd λxs z=>by rw[e2] at z;cases z
 exact⟨zc8 i.fr hb,⟨xs,by rw[zg np];exact e1,r1.keep tk⟩,⟨_,zc,r.keep tk⟩⟩
theorem SX.setP {ps':QH}(i:SX D H0 H pp pb st ps)(np:pp≠pb)(hb:H0 pp=none)(r:RepL H (ps'.map zfJ) xs'):SX D H0 (upd H pp (.lst xs')) pp pb st ps':=by
 obtain⟨xs,e1,r1⟩:=i.xs;obtain⟨bs,e2,r2⟩:=i.bs;have tk:Tups H (upd H pp (.lst xs')):=Tups.upd λxs z=>by rw[e1] at z;cases z
 exact⟨zc8 i.fr hb,⟨_,zc,r.keep tk⟩,⟨bs,by rw[zg (Ne.symm np)];exact e2,r2.keep tk⟩⟩
section
variable {P:Program}{w:World}{K:QA}{mg:QB}{base:Heap}{VR:VRT}{C CC CN CB:Addr}{x:Str}{t1 t2 t3 t4 t5 t6 t7:Tok}
theorem zls (D:Dfn K mg "goes_left" zfK ["node","low"]) (zcD:Fn P w K mg base "ahead" 20 ["one","other"] (zaY 9)) (zaB:mg "KEY" =some (.int 0 t1)):Fn P w K mg base "goes_left" 21 ["node","low"] zeU:=by
 refine D.ok (k:=20) (L2.fsN ["node","low"]) (λf cdv A outer s H vs Q E hr h=>?_);obtain⟨v,va,nd,a,rfl,rn,ra,hd,q⟩:=h;obtain⟨p,vk,vw,rfl,ea,rk,rw'⟩:=zv rn;refine⟨_,(by have ι:=0;ac_rfl),?_⟩;refine⟨_,rfl,rfl,_,rfl,?_⟩;rw[zaJ ra];unfold zbw at q;cases z:decide (a=.non) with
 | true=>rw[z] at q;exact ifT rfl (q H (Same.refl H))
 | false=>rw[z] at q;exact ifF rfl ⟨_,rfl,_,rfl,p,_,_,_,rfl,rfl,SqT.of ea,rfl,a,nd.k,_,_,rfl,ra,rk,by omega,by omega,λH1 s1=>q H1 s1⟩
theorem zlf (D:Dfn K mg "goes_right" zep ["node","high"]) (zcD:Fn P w K mg base "ahead" 20 ["one","other"] (zaY 9)) (zaB:mg "KEY" =some (.int 0 t1)):Fn P w K mg base "goes_right" 21 ["node","high"] zfz:=by
 refine D.ok (k:=20) (L2.fsN ["node","high"]) (λf cdv A outer s H vs Q E hr h=>?_);obtain⟨v,va,nd,a,rfl,rn,ra,hd,q⟩:=h;obtain⟨p,vk,vw,rfl,ea,rk,rw'⟩:=zv rn;refine⟨_,(by have ι:=0;ac_rfl),?_⟩;refine⟨_,rfl,rfl,_,rfl,?_⟩;rw[zaJ ra];unfold zbu at q;cases z:decide (a=.non) with
 | true=>rw[z] at q;exact ifT rfl (q H (Same.refl H))
 | false=>rw[z] at q;exact ifF rfl ⟨_,rfl,p,_,_,_,rfl,rfl,SqT.of ea,rfl,_,rfl,nd.k,a,_,_,rfl,rk,ra,by omega,by omega,λH1 s1=>q H1 s1⟩
theorem zpT (I:VI C VR)(D:Dfn K mg "refuse_sum" zei ["vault","node"]) (zop:FnX P w K mg base "size_beneath" 5 ["vault","root","count"] (zfn VR CN CB CC)) (zU:XP K mg "BadThing" CB) (zaw:mg "LEFT" =some (.int 2 t3)) (zag:mg "RIGHT" =some (.int 3 t4)) (zN:mg "COUNT" =some (.int 4 t5)):FnX P w K mg base "refuse_sum" 6 ["vault","node"] (zjP VR CN CB CC):=by
 refine D.okX (k:=5) (L2.fsN ["vault","node","left","right"]) (λf cdv A outer s H vs Q E hr h=>?_);obtain⟨a,D,s,nd,v,rfl,vs,rn,h⟩:=h;obtain⟨p,vk,vw,rfl,ea,rk,rw'⟩:=zv rn.1;have et:SqT K H p [vk,vw,.int nd.l,.int nd.r,.int nd.c]:=SqT.of ea;unfold Out sumP at h;rw[Pg.wp_bind] at h;refine⟨_,(by have ι:=0;ac_rfl),?_⟩;refine⟨_,rfl,_,rfl,p,_,_,_,rfl,rfl,et,rfl,_,rfl,p,_,_,_,rfl,rfl,et,rfl,a,D,s,nd.l,nd.c,rfl,vs,Pg.wp_mono (λx s1 h1 v H1 f1 vs1 ev=>?_) (λ_ _ z=>z) h⟩;have ev':v=.int x:=ev;subst ev';rw[Pg.wp_bind] at h1;have ea1:=I.tups vs f1 _ _ ea;have et1:SqT K H1 p _:=SqT.of ea1;refine⟨_,rfl,_,rfl,p,_,_,_,rfl,rfl,et1,rfl,_,rfl,p,_,_,_,rfl,rfl,et1,rfl,a,D,s1,nd.r,nd.c,rfl,vs1,Pg.wp_mono (λy s2 h2 v H2 f2 vs2 ev=>?_) (OutE.on f1) h1⟩;have ev':v=.int y:=ev;subst ev';have et2:SqT K H2 p _:=SqT.of (I.tups vs1 f2 _ _ ea1);refine⟨_,rfl,_,rfl,_,_,rfl,rfl,_,_,rfl,rfl,_,rfl,p,_,_,_,rfl,rfl,et2,rfl,rfl,_,rfl,?_⟩;rw[zu];by_cases hs:x+y+1=nd.c
 ·rw[if_pos hs] at h2;exact ifF (by rw[decide_eq_true hs];rfl) (h2 _ H2 (f1.trans f2) vs2 rfl)
 ·rw[if_neg hs] at h2;refine ifT (by rw[decide_eq_false hs];rfl) ⟨szl (show 1<=1000 by decide),λe he=>⟨e,CB,none,rfl,zc,zU.cl.q,?_⟩⟩;rw[zbi he];exact h2 H2 (f1.trans f2) vs2
theorem zoZ (I:VI C VR)(D:Dfn K mg "stretch" ziC ["vault","root","low","high"]) (zsn:Fn P w K mg base "is_empty" 21 ["low","high"] zfa) (zcq:FnX P w K mg base "node_beneath" 4 ["vault","root","count"] (ze1 VR CN CB CC)) (zqZ:Fn P w K mg base "goes_left" 21 ["node","low"] zeU) (zp9:Fn P w K mg base "goes_right" 21 ["node","high"] zfz) (zqa:FnX P w K mg base "refuse_sum" 6 ["vault","node"] (zjP VR CN CB CC)) (zcD:Fn P w K mg base "ahead" 20 ["one","other"] (zaY 9))
  (zaB:mg "KEY" =some (.int 0 t1)) (zbk:mg "WORTH" =some (.int 1 t2)) (zaw:mg "LEFT" =some (.int 2 t3)) (zag:mg "RIGHT" =some (.int 3 t4)) (zN:mg "COUNT" =some (.int 4 t5)) (zax:mg "BENEATH_NONE" =some (.int 301 t7)) (zt:mg "len" =none):FnX P w K mg base "stretch" 22 ["vault","root","low","high"] (zgU VR CN CB CC):=by
 refine D.okX (k:=21) (L2.fsN ["vault","root","low","high","pairs","begun","count","node"]) (λf cdv A outer s H vs Q E hr h=>?_);obtain⟨a,D,s,n,lo,hi,vx,vy,rfl,vs,rx,ry,dx,dy,h⟩:=h;refine⟨_,(by have ι:=0;ac_rfl),?_⟩;refine⟨szl (show 0<=1000 by decide),λpp hpp=>?_⟩;have s1:=zh (o:=.lst []) (Same.refl H) hpp;have e1:upd H pp (.lst []) pp=some (.lst []):=zc;generalize upd H pp (.lst [])=H1 at s1 e1;refine⟨_,rfl,_,rfl,lo,hi,vx,vy,rfl,rx.keep (Same.tups s1),ry.keep (Same.tups s1),dx,λH2 s2=>⟨_,rfl,?_⟩⟩;have s02:Same H H2:=λb o e=>s2 b o (s1 b o e);have e2:=s2 _ _ e1;unfold Out strP at h;cases ze:zfw lo hi with
 | true=>rw[if_pos ze] at h;exact ifT rfl ⟨_,rfl,h _ H2 (Frm.of s02) (I.same vs s02) ⟨⟨pp,[],rfl,e2,.nil,by decide⟩,λ_ z=>by cases z;exact hpp⟩⟩
 | false=>
 rw[if_neg (by rw[ze];exact Jc)] at h;refine ifF rfl ?_;refine⟨szl (show 0<=1000 by decide),λpb hpb=>?_⟩;have s3:=zh (o:=.lst []) (Same.refl H2) hpb;have e3:upd H2 pb (.lst []) pb=some (.lst []):=zc;have nb:pp≠pb:=zj e2 hpb;have hpb0:H pb=none:=by
  cases y:H pb with
  | none=>rfl
  | some o=>rw[s02 _ _ y] at hpb;cases hpb
 generalize upd H2 pb (.lst [])=H3 at s3 e3;have w0:wgt s.all n 301 < 700:=by unfold wgt;have:min (cntA s.all n) ((301:Int).toNat - 1)<=300:=Nat.min_le_right _ _;omega
 refine⟨λm σ H'=>∃(s1:Vst) (n c:Int) (st:List Nd) (ps:QH) (k7:Option V),(strL lo hi m n c st ps).wp s1 (OutQ VR a D (zcU H) H Q) (OutE VR CN CB CC a D H E)/\wgt s.all n c+stkW s.all hi st < m/\s1.all=s.all/\st.length+m<=700/\ps.length+m<=700/\σ=[some (.ref a),some (.int n),some vx,some vy,some (.ref pp),some (.ref pb),some (.int c),k7]/\SX D H H' pp pb st ps/\VR H' a D s1/\∀nd∈st,Good nd.th,
  ⟨700,s,n,301,[],[],_,h,w0,rfl,by decide,by decide,rfl,⟨(Frm.of s02).trans (Frm.of s3),⟨[],s3 _ _ e2,.nil⟩,⟨[],e3,.nil⟩⟩,I.same (I.same vs s02) s3,λnd z=>by cases z⟩,?_⟩
 clear h w0;rintro m σ H4 ⟨s4,n,c,st,ps,k7,h,hw,hal,hb1,hb2,rfl,si,vs4,gd⟩;obtain⟨m,rfl⟩:∃j,m=j+1:=⟨m - 1,by omega⟩;have t04:=I.tups vs si.fr;have rx4:=rx.keep t04;have ry4:=ry.keep t04;obtain⟨xs,ex,rxs⟩:=si.xs;obtain⟨bs,eb,rbs⟩:=si.bs;have hxs:xs.length<=700:=by rw[rxs.len,List.length_map];omega
 have hbl:bs.length=st.length:=by rw[rbs.len,List.length_map,List.length_reverse]
 unfold strL at h;refine⟨_,rfl,rfl,_,rfl,?_⟩;rw[zu];by_cases hn:n=0
 ·subst hn;rw[if_pos rfl] at h;refine ifF rfl ?_;refine⟨_,rfl,pb,_,rfl,.inl (SqL.of eb),_,_,rfl,rfl,_,rfl,?_⟩;cases st with
  | nil=>
   refine ifF (by show decide ((0:Int) < ((bs.length:Nat):Int))=false;rw[hbl];rfl) ?_
   exact⟨_,rfl,h _ H4 si.fr vs4 ⟨⟨pp,xs,rfl,ex,rxs,by omega⟩,λ_ z=>by cases z;exact hpp⟩⟩
  | cons nd st'=>
   replace h:(strL lo hi m (if zbu hi nd.k=true then nd.r else 0) nd.c st' (if inB lo hi nd=true then ps++ [(nd.k,nd.w)] else ps)).wp s4 (OutQ VR a D (zcU H) H Q) (OutE VR CN CB CC a D H E):=h;have gn:=gd nd List.mem_cons_self;have kd:=(zcs gn).1;have hsl:(nd::st').length=st'.length+1:=rfl;have hw':wgt s.all 0 c+(1+(if zbu hi nd.k=true then wgt s.all nd.r nd.c else 0)+stkW s.all hi st') < m+1:=hw;refine ifT (decide_eq_true (show(0:Int) < ((bs.length:Nat):Int) by omega)) ⟨_,fun σ' H' h=>h,?_⟩;rw[List.reverse_cons,List.map_append] at rbs;obtain⟨us,v,rfl,rus,rn⟩:=rbs.unsnoc;have si5:=si.setB (st':=st') nb hpb0 (bs':=us) rus;have vs5:VR (upd H4 pb (.lst us)) a D s4:=I.nl vs4 (NL.lst eb);refine zy (fun σ H'=>∃(n':Int) (ps':QH) (v:V),σ=[some (.ref a),some (.int n'),some vx,some vy,some (.ref pp),some (.ref pb),some (.int c),some v]/\SX D H H' pp pb st' ps'/\(strL lo hi m n' nd.c st' ps').wp s4 (OutQ VR a D (zcU H) H Q) (OutE VR CN CB CC a D H E)/\wgt s.all n' nd.c+stkW s.all hi st' < m/\ps'.length+m<=700/\Rep H' nd.th v/\VR H' a D s4) (λN kN=>?_) ?_
   ·refine⟨_,rfl,rfl,_,rfl,?_⟩;rw[zu];refine ifF rfl ?_;refine⟨_,rfl,.inl ⟨rfl,_,SqL.of eb⟩,pb,_,v,rfl,rfl,eb,by rw[List.length_append,List.getElem?_append_right (by simp)];simp,?_⟩;rw[List.dropLast_concat];have tk5:Tups H4 (upd H4 pb (.lst us)):=Tups.upd λxs z=>by rw[eb] at z;cases z
    have rn5:=rn.keep tk5;have rx5:=rx4.keep tk5;have ry5:=ry4.keep tk5;generalize upd H4 pb (.lst us)=H5 at si5 tk5 rn5 rx5 ry5 vs5;refine⟨_,rfl,_,rfl,v,vy,nd,hi,rfl,rn5,ry5,by omega,λH6 s6=>⟨_,rfl,?_⟩⟩;have si6:=si5.go I vs5 (Frm.of s6);have vs6:=I.same vs5 s6;have rn6:=rn5.keep (Same.tups s6);have rx6:=rx5.keep (Same.tups s6);have w00:wgt s.all 0 nd.c=0:=by unfold wgt cntA;rw[if_pos rfl,Nat.zero_min]
    cases z1:zbu hi nd.k with
    | false=>
     have hin:inB lo hi nd=false:=by unfold inB;rw[z1];rfl
     rw[z1,hin,if_neg Jc,if_neg Jc] at h;rw[z1,if_neg Jc] at hw';exact ifF rfl (kN _ _ ⟨0,ps,v,rfl,si6,h,by omega,by omega,rn6,vs6⟩)
    | true=>
     rw[z1,if_pos rfl] at h hw';refine ifT rfl ?_;refine zy (fun σ H'=>∃ps',σ=[some (.ref a),some (.int 0),some vx,some vy,some (.ref pp),some (.ref pb),some (.int c),some v]/\SX D H H' pp pb st' ps'/\Rep H' nd.th v/\(strL lo hi m nd.r nd.c st' ps').wp s4 (OutQ VR a D (zcU H) H Q) (OutE VR CN CB CC a D H E)/\ps'.length<=ps.length+1/\VR H' a D s4) (λN2 k2=>?_) ?_
     ·obtain⟨p,vk,vw,rfl,ea,rk,rw'⟩:=zv rn6;obtain⟨xs6,ex6,rxs6⟩:=si6.xs;have hx6:xs6.length<=700:=by rw[rxs6.len,List.length_map];omega
      have hinB:∀b,(decide (lo=.non) || !zd nd.k lo)=b->inB lo hi nd=b:=λb e=>by unfold inB;rw[z1,e];rfl
      have app:∀(H7:Hp) (s67:Same H6 H7) (h:inB lo hi nd=true) (p2:Addr),H7 p2=none->N2 [some (.ref a),some (.int 0),some vx,some vy,some (.ref pp),some (.ref pb),some (.int c),some (.ref p)] (upd (upd H7 p2 (.tup [vk,vw])) pp (.lst (xs6++ [.ref p2]))):=λH7 s67 hin p2 hp2=>by
       have rp:=(RepL.cons (rk.keep (Same.tups s67)) (.cons (rw'.keep (Same.tups s67)) .nil)).new hp2;have s78:=zh (o:=.tup [vk,vw]) (Same.refl H7) hp2;generalize upd H7 p2 (.tup [vk,vw])=H8 at rp s78;have s68:Same H6 H8:=λb o e=>s78 b o (s67 b o e);have si8:=si6.go I vs6 (Frm.of s68);have ex8:=s68 _ _ ex6;have rxs8:=rxs6.keep (Same.tups s68);have tk9:Tups H8 (upd H8 pp (.lst (xs6++ [.ref p2]))):=Tups.upd λxs z=>by rw[ex8] at z;cases z
       rw[hin,if_pos rfl] at h;refine k2 _ _ ⟨ps++ [(nd.k,nd.w)],rfl,si8.setP nb hpp ?_,(rn6.keep (Same.tups s68)).keep tk9,h,by simp,I.nl (I.same vs6 s68) (NL.lst ex8)⟩;rw[List.map_append];exact rxs8.snoc rp
      refine⟨_,rfl,rfl,_,rfl,?_⟩;rw[zaJ rx6];cases z2:decide (lo=.non) with
      | true=>have hin:=hinB true (by rw[z2];rfl);refine ifT rfl (ifT rfl ?_);exact⟨_,rfl,.inl ⟨rfl,_,SqL.of ex6⟩,_,rfl,p,_,_,_,rfl,rfl,SqT.of ea,rfl,_,rfl,p,_,_,_,rfl,rfl,SqT.of ea,rfl,szl (show 2<=1000 by decide),λp2 hp2=>⟨pp,xs6,_,rfl,rfl,by rw[zg (zj ex6 hp2)];exact ex6,Jf (show xs6.length < 1000 by omega) (szl (Jb _)),app H6 (Same.refl _) hin p2 hp2⟩⟩
      | false=>
       refine ifF rfl ⟨_,rfl,p,_,_,_,rfl,rfl,SqT.of ea,rfl,_,rfl,nd.k,lo,_,_,rfl,rk,rx6,by omega,by omega,λH7 s7=>⟨_,rfl,?_⟩⟩;have ex7:=s7 _ _ ex6;have ea7:=s7 _ _ ea;cases z3:zd nd.k lo with
       | true=>have hin:=hinB false (by rw[z2,z3];rfl);rw[hin,if_neg Jc] at h;exact ifF rfl (k2 _ _ ⟨ps,rfl,si6.go I vs6 (Frm.of s7),rn6.keep (Same.tups s7),h,by omega,I.same vs6 s7⟩)
       | false=>have hin:=hinB true (by rw[z2,z3];rfl);refine ifT rfl ?_;exact⟨_,rfl,.inl ⟨rfl,_,SqL.of ex7⟩,_,rfl,p,_,_,_,rfl,rfl,SqT.of ea7,rfl,_,rfl,p,_,_,_,rfl,rfl,SqT.of ea7,rfl,szl (show 2<=1000 by decide),λp2 hp2=>⟨pp,xs6,_,rfl,rfl,by rw[zg (zj ex7 hp2)];exact ex7,Jf (show xs6.length < 1000 by omega) (szl (Jb _)),app H7 s7 hin p2 hp2⟩⟩
     ·rintro σ H7 ⟨ps',rfl,si7,rn7,h7,hl7,vs7⟩;obtain⟨p,vk,vw,rfl,ea,rk,rw'⟩:=zv rn7;exact⟨_,rfl,p,_,_,_,rfl,rfl,SqT.of ea,rfl,kN _ _ ⟨nd.r,ps',_,rfl,si7,h7,by omega,by omega,rn7,vs7⟩⟩
   ·rintro σ H5 ⟨n',ps',v',rfl,si',h',hw2,hp',rn',vs'⟩;obtain⟨p,vk,vw,rfl,ea,rk,rw'⟩:=zv rn';exact⟨_,rfl,p,_,_,_,rfl,rfl,SqT.of ea,rfl,m,Jt m,s4,n',_,st',ps',_,h',hw2,hal,by omega,by omega,rfl,si',vs',λy hy=>gd y (Jd _ hy)⟩
 ·rw[if_neg hn,Pg.wp_bind] at h;refine ifT (by rw[decide_eq_false hn];rfl) (ifT rfl ⟨_,fun σ' H' h=>h,?_⟩);refine zy (fun σ H'=>∃(s5:Vst) (nd:Nd) (v:V),σ=[some (.ref a),some (.int (if zbw lo nd.k=true then nd.l else 0)),some vx,some vy,some (.ref pp),some (.ref pb),some (.int c),some v]/\SX D H H' pp pb (nd::st) ps/\(strL lo hi m (if zbw lo nd.k=true then nd.l else 0) nd.c (nd::st) ps).wp s5 (OutQ VR a D (zcU H) H Q) (OutE VR CN CB CC a D H E)/\wgt s.all (if zbw lo nd.k=true then nd.l else 0) nd.c+stkW s.all hi (nd::st) < m/\s5.all=s.all/\Rep H' nd.th v/\Good nd.th/\VR H' a D s5) (λN kN=>?_) ?_
  ·refine⟨_,rfl,rfl,_,rfl,?_⟩;rw[zu];refine ifT (by rw[decide_eq_false hn];rfl) ?_;refine⟨_,rfl,_,rfl,_,rfl,a,D,s4,n,c,rfl,vs4,Pg.wp_mono (λnd s5 h5 v H5 f5 vs5 rn=>?_) (OutE.on si.fr) (ziE hn h)⟩;obtain⟨⟨c1,c2,c3⟩,⟨o5,k5⟩,h5⟩:=h5;obtain⟨rn,gn⟩:=rn;have kd:=(zcs gn).1;have ea5:s5.all=s.all:=by rw[<-hal];unfold Vst.all;rw[o5,k5]
   rw[hal] at c1;have si5:=si.go I vs4 f5;have t45:=I.tups vs4 f5;have rx5:=rx4.keep t45;have ry5:=ry4.keep t45;rw[Pg.wp_bind] at h5;have wn:wgt s.all n c=2 * nd.c.toNat:=by unfold wgt;rw[c1,Jw (by omega)]
   have wk:∀k,wgt s.all k nd.c<=2 * (nd.c.toNat - 1):=λk=>by unfold wgt;have:=Nat.min_le_right (cntA s.all k) (nd.c.toNat - 1);omega
   have w00:wgt s.all 0 nd.c=0:=by unfold wgt cntA;rw[if_pos rfl,Nat.zero_min]
   dsimp only[zaM];refine zy (fun σ H'=>∃s6:Vst,σ=[some (.ref a),some (.int n),some vx,some vy,some (.ref pp),some (.ref pb),some (.int c),some v]/\Frm D H5 H'/\VR H' a D s6/\s6.all=s.all/\(strL lo hi m (if zbw lo nd.k=true then nd.l else 0) nd.c (nd::st) ps).wp s6 (OutQ VR a D (zcU H) H Q) (OutE VR CN CB CC a D H E)/\wgt s.all (if zbw lo nd.k=true then nd.l else 0) nd.c+(if zbu hi nd.k=true then wgt s.all nd.r nd.c else 0)+1 < wgt s.all n c) (λN2 k2=>?_) ?_
   ·refine⟨_,rfl,_,rfl,v,vx,nd,lo,rfl,rn,rx5,dx,λH6 s6=>⟨_,rfl,?_⟩⟩;cases z1:zbw lo nd.k with
    | false=>rw[z1] at h5 k2;rw[if_neg (by rw[Bool.false_and];exact Jc)] at h5;refine ifF rfl (ifF rfl (k2 _ _ ⟨s5,rfl,Frm.of s6,I.same vs5 s6,ea5,h5,?_⟩));rw[if_neg Jc,w00];have:=wk nd.r;split <;> omega
    | true=>
     rw[z1] at h5 k2;refine ifT rfl ⟨_,rfl,_,rfl,v,vy,nd,hi,rfl,rn.keep (Same.tups s6),ry5.keep (Same.tups s6),by omega,λH7 s7=>⟨_,rfl,?_⟩⟩;have s57:Same H5 H7:=λb o e=>s7 b o (s6 b o e);have wl:=wk nd.l;cases z2:zbu hi nd.k with
     | false=>rw[z2] at h5 k2;rw[if_neg (by exact Jc)] at h5;refine ifF rfl (k2 _ _ ⟨s5,rfl,Frm.of s57,I.same vs5 s57,ea5,h5,?_⟩);rw[if_pos rfl,if_neg Jc];omega
     | true=>
      rw[z2] at h5 k2;rw[if_pos (by rfl)] at h5;refine ifT rfl ⟨_,rfl,_,rfl,a,D,s5,nd,v,rfl,I.same vs5 s57,⟨rn.keep (Same.tups s57),gn⟩,Pg.wp_mono (λu s6' h6 v6 H8 f8 vs8 ev=>?_) (OutE.on ((si.fr.trans f5).trans (Frm.of s57))) (znU h5)⟩;obtain⟨he,⟨o6,k6⟩,h6⟩:=h6;have ea6:s6'.all=s.all:=by rw[<-ea5];unfold Vst.all;rw[o6,k6]
      rw[ea5] at he;refine k2 _ _ ⟨s6',rfl,(Frm.of s57).trans f8,vs8,ea6,h6,?_⟩;rw[if_pos rfl,if_pos rfl];have h1:wgt s.all nd.l nd.c<=2 * cntA s.all nd.l:=by unfold wgt;have:=Nat.min_le_left (cntA s.all nd.l) (nd.c.toNat - 1);omega
      have h2:wgt s.all nd.r nd.c<=2 * cntA s.all nd.r:=by unfold wgt;have:=Nat.min_le_left (cntA s.all nd.r) (nd.c.toNat - 1);omega
      omega
   ·rintro σ H7 ⟨s7,rfl,f7,vs7,ea7,h7,hw7⟩;have si7:=si5.go I vs5 f7;have t57:=I.tups vs5 f7;have eb7:=I.lst vs5 f7 (I.lst vs4 f5 eb);have rbs7:=(rbs.keep t45).keep t57;have rn7:=rn.keep t57;refine⟨_,rfl,.inl ⟨rfl,_,SqL.of eb7⟩,_,rfl,pb,bs,_,rfl,rfl,eb7,Jf (show bs.length < 1000 by omega) (szl (Jb _)),?_⟩;have si8:=si7.setB (st':=nd::st) nb hpb0 (bs':=bs++ [v]) (by rw[List.reverse_cons,List.map_append];exact rbs7.snoc rn7);have tk8:Tups H7 (upd H7 pb (.lst (bs++ [v]))):=Tups.upd λxs z=>by rw[eb7] at z;cases z
    have rn8:=rn7.keep tk8;have rx8:=(rx5.keep t57).keep tk8;have vs8:VR (upd H7 pb (.lst (bs++ [v]))) a D s7:=I.nl vs7 (NL.lst eb7);generalize upd H7 pb (.lst (bs++ [v]))=H8 at si8 tk8 rn8 rx8 vs8;refine⟨_,rfl,_,rfl,v,vx,nd,lo,rfl,rn8,rx8,dx,λH9 s9=>⟨_,rfl,?_⟩⟩;have si9:=si8.go I vs8 (Frm.of s9);have rn9:=rn8.keep (Same.tups s9);have hws:wgt s.all (if zbw lo nd.k=true then nd.l else 0) nd.c+stkW s.all hi (nd::st) < m:=by show _+(1+(if zbu hi nd.k=true then wgt s.all nd.r nd.c else 0)+stkW s.all hi st) < m;omega
    cases z1:zbw lo nd.k with
    | true=>obtain⟨p,vk,vw,rfl,ea,rk,rw'⟩:=zv rn9;refine ifT rfl ⟨_,rfl,p,_,_,_,rfl,rfl,SqT.of ea,rfl,kN _ _ ⟨s7,nd,_,?_,si9,h7,hws,ea7,rn9,gn,I.same vs8 s9⟩⟩;rw[z1];rfl
    | false=>refine ifF rfl (kN _ _ ⟨s7,nd,v,?_,si9,h7,hws,ea7,rn9,gn,I.same vs8 s9⟩);rw[z1];rfl
  ·rintro σ H5 ⟨s5,nd,v,rfl,si',h',hw',ea',rn,gn,vs'⟩;obtain⟨p,vk,vw,rfl,ea,rk,rw'⟩:=zv rn;refine⟨_,rfl,p,_,_,_,rfl,rfl,SqT.of ea,rfl,m,Jt m,s5,_,_,nd::st,ps,_,h',hw',ea',by show st.length+1+m<=700;omega,by omega,rfl,si',vs',λy hy=>?_⟩;rcases List.mem_cons.mp hy with rfl | hy
   ·exact gn
   ·exact gd y hy
end
end Pv
namespace Pv
open PySem L2
noncomputable abbrev zaL:Stmt:=top 17
noncomputable abbrev zaO:Stmt:=top 26
noncomputable abbrev zf7:Stmt:=top 25
noncomputable abbrev zir:Stmt:=top 24
theorem lt1 (c k:Nat):decide ([c] < [k])=decide (c < k):=by
 by_cases h:c < k
 ·rw[decide_eq_true h];exact decide_eq_true (by simp[List.cons_lt_cons_iff,h])
 ·rw[decide_eq_false h];exact decide_eq_false (by simp[List.cons_lt_cons_iff];omega)
noncomputable def zr9:Ob->Bool
 | .int _=>true
 | _=>false
noncomputable def letB (c:Nat):Bool:=decide (97<=c) && decide (c<=122)
noncomputable def zW (l:List Nat):Bool:=decide (1<=l.length) && decide (l.length<=8) && l.all letB
noncomputable def valT (t:List Nat):Bool:=decide (t.length<=20) && t.all zaN && !decide (39∈t) && !decide (59∈t)
noncomputable def zav:Ob->Bool
 | .str x=>zW x.cps.toList
 | _=>false
noncomputable def valO:Ob->Bool
 | .int i=>decide (i.natAbs<=10 ^ 12)
 | .str x=>valT x.cps.toList
 | _=>false
noncomputable def TxO:Ob->Prop
 | .str x=>x.length<=900
 | _=>True
inductive zfk (CN:Addr) (vs:QQ) (H:Hp) (Q:L2.VK) (_E:XK):Prop
 | mk (t:Ob) (v:V) (_:vs=[v]) (_:RepO CN H t v) (_:Q (.bl (zr9 t)) H):zfk CN vs H Q _E
inductive ze6 (vs:QQ) (H:Hp) (Q:L2.VK) (_E:XK):Prop
 | mk (x:Str) (_:vs=[.str x]) (_:Q (.bl (x.cps.toList.all zaN)) H):ze6 vs H Q _E
inductive spSV (vs:QQ) (H:Hp) (Q:L2.VK) (_E:XK):Prop
 | mk (x:Str) (_:vs=[.str x]) (_:Q (.bl (x.cps.toList.all zaN && !decide (39∈x.cps.toList) && !decide (59∈x.cps.toList))) H):spSV vs H Q _E
inductive zbK (CN:Addr) (vs:QQ) (H:Hp) (Q:L2.VK) (_E:XK):Prop
 | mk (t:Ob) (v:V) (_:vs=[v]) (_:RepO CN H t v) (_:TxO t) (_:Q (.bl (zav t)) H):zbK CN vs H Q _E
inductive zgV (CN:Addr) (vs:QQ) (H:Hp) (Q:L2.VK) (_E:XK):Prop
 | mk (t:Ob) (v:V) (_:vs=[v]) (_:RepO CN H t v) (_:TxO t) (_:Q (.bl (valO t)) H):zgV CN vs H Q _E
theorem zsT (i:Int):(decide ((if i < 0 then -i else i)<=(10:Int) ^ (12:Int).toNat))=decide (i.natAbs<=10 ^ 12):=by
 have e:(10:Int) ^ (12:Int).toNat=1000000000000:=by decide
 rw[e];apply decide_eq_decide.mpr;split <;> omega
theorem str_len (x:Str):x.cps.toList.length=x.length:=by simp[Str.length]
section
variable {P:Program}{w:World}{K:QA}{mg:QB}{base:Heap}{t1 t2 t3 t4 t5:Tok}{CN:Addr}
theorem zlr (nt:NTk K CN)(D:Dfn K mg "is_whole" zd1 ["value"]) (zk:mg "isinstance" =none) (zb1:mg "int" =none) (zhE:mg "bool" =none):Fn P w K mg base "is_whole" 1 ["value"] (zfk CN):=by
 refine D.ok (k:=0) (L2.fsN ["value"]) (λf cdv A outer s H vs Q E hr h=>?_);obtain⟨t,v,rfl,rv,q⟩:=h;refine⟨_,(zx (zad (za1 (zD (zaZ nt) (by rfl) zk (by rfl) (by ac_rfl)) (zcd (znZ (zD (zaZ nt) (by rfl) zk (by rfl) (by ac_rfl))))))),?_⟩;refine⟨_,rfl,t,v,.int,rfl,rv,_,rfl,?_⟩;cases rv with
 | int i=>exact ifT rfl ⟨_,rfl,.int i,_,.bool,rfl,.int i,_,rfl,q⟩
 | bl b=>exact ifT rfl ⟨_,rfl,.bl b,_,.bool,rfl,.bl b,_,rfl,q⟩
 | non=>exact ifF rfl q
 | str x=>exact ifF rfl q
 | tup e l h=>exact ifF rfl q
 | lst e=>exact ifF rfl q
 | dic e=>exact ifF rfl q
 | exc e=>exact ifF rfl q
theorem ziG {l:List Nat}{p:Nat->Bool}{i c:Nat}(e:l[i]? =some c)(h:(l.take i).all p=true):(l.take (i+1)).all p=p c:=by rw[List.take_add_one,e,List.all_append,h];simp
theorem zcf {l:List Nat}{p:Nat->Bool}{i c:Nat}(e:l[i]? =some c)(h:p c=false):l.all p=false:=by
 cases z:l.all p with
 | false=>rfl
 | true=>have:=Jk.mp z c (List.mem_of_getElem? e);rw[h] at this;cases this
theorem zll (D:Dfn K mg "has_signs_of_things" zaL ["text"]) (m_ord:mg "ord" =none) (zgJ:mg "PERCENT" =some (.int 37 t5)):Fn P w K mg base "has_signs_of_things" 1 ["text"] ze6:=by
 refine D.ok (k:=0) (L2.fsN ["text","sign"]) (λf cdv A outer s H vs Q E hr h=>?_);obtain⟨x,rfl,q⟩:=h;refine⟨_,(zf (zaC PassesOwn.never rfl (zjQ (pv 0)) (by ac_rfl)
 (zx (zaA (PW.pt (zkw (zfy (zdr zcC zcC zcW (pv 1) zcW)) (zi6 (by ac_rfl))))
 (by ac_rfl)
 zM)))
 (by ac_rfl)),?_⟩
 refine⟨_,rfl,x,rfl,?_⟩;refine zg8 (z:=x) (λi σ H'=>∃k,σ=[some (.str x),k]/\H'=H/\(x.cps.toList.take i).all zaN=true) ⟨_,rfl,rfl,rfl⟩ ?_ ?_
 ·rintro i c σ H' hc ⟨k,rfl,rfl,ha⟩;have hc':x.cps.toList[i]? =some c:=(Array.getElem?_toList (xs:=x.cps) (i:=i)).trans hc;refine⟨_,rfl,_,_,rfl,rfl,_,rfl,?_⟩;by_cases h1:32<=c
  ·have e1:(!decide ((⟨#[c]⟩:Str).cps.toList < (Str.ofString " ").cps.toList))=true:=by show(!decide ([c] < [32]))=true;rw[lt1,decide_eq_false (by omega)];rfl
   refine ifT e1 ?_;refine⟨_,_,rfl,rfl,_,rfl,?_⟩;by_cases h2:c<=126
   ·have e2:(!decide ((Str.ofString "~").cps.toList < (⟨#[c]⟩:Str).cps.toList))=true:=by show(!decide ([126] < [c]))=true;rw[lt1,decide_eq_false (by omega)];rfl
    refine ifF (by rw[e2];rfl) ?_;refine⟨_,rfl,_,rfl,rfl,rfl,_,rfl,?_⟩;rw[zu];by_cases h3:c=37
    ·refine ifT (decide_eq_true (by show(c:Int)=37;omega)) ?_;rw[zcf hc' (by unfold zaN;rw[h3];rfl)] at q;exact q
    ·refine ifF (decide_eq_false ?_) ⟨_,rfl,rfl,?_⟩
     ·show¬((c:Int)=37);omega
     ·rw[ziG hc' ha];unfold zaN;rw[decide_eq_true h1,decide_eq_true h2,decide_eq_false h3];rfl
   ·have e2:(!decide ((Str.ofString "~").cps.toList < (⟨#[c]⟩:Str).cps.toList))=false:=by show(!decide ([126] < [c]))=false;rw[lt1,decide_eq_true (by omega)];rfl
    refine ifT (by rw[e2];rfl) ?_;rw[zcf hc' (by unfold zaN;rw[decide_eq_false h2,Bool.and_false,Bool.false_and])] at q;exact q
  ·have e1:(!decide ((⟨#[c]⟩:Str).cps.toList < (Str.ofString " ").cps.toList))=false:=by show(!decide ([c] < [32]))=false;rw[lt1,decide_eq_true (by omega)];rfl
   refine ifF e1 ⟨_,rfl,ifT rfl ?_⟩;rw[zcf hc' (by unfold zaN;rw[decide_eq_false h1,Bool.false_and,Bool.false_and])] at q;exact q
 ·rintro σ H' ⟨k,rfl,rfl,ha⟩;have:x.cps.size=x.cps.toList.length:=by simp
  rw[show x.cps.toList.all zaN=true by rw[<-ha];congr 1;exact(Jm (by first | exact Jb _ | simp[Str.length])).symm] at q
  exact q
theorem zqQ (l:List Nat)(c:Nat):(!(Builtin.Str.occurrences (tx l) (tx [c]) 0 (tx l).length 1).isEmpty)=decide (c∈l):=by
 rcases StrLaws.occ_head (tx l) (tx [c]) 1 (by omega) with ⟨e,no⟩ | ⟨i,r,e,hi,_⟩
 ·rw[e,decide_eq_false]
  ·rfl
  intro h;obtain⟨i,hi⟩:=List.getElem?_of_mem h;exact no i ((StrLaws.subAt_one (tx l) c i).mpr hi)
 ·have m:c∈l:=List.mem_of_getElem? ((StrLaws.subAt_one (tx l) c i).mp hi);rw[e,decide_eq_true m];rfl
theorem p12:CPow 10 12:=by unfold CPow;decide
theorem zs1 (D:Dfn K mg "has_signs_of_values" zaO ["text"]) (zhY:Fn P w K mg base "has_signs_of_things" 1 ["text"] ze6):Fn P w K mg base "has_signs_of_values" 2 ["text"] spSV:=by
 refine D.ok (k:=1) (L2.fsN ["text"]) (λf cdv A outer s H vs Q E hr h=>?_);obtain⟨x,rfl,q⟩:=h;obtain⟨l,rfl⟩:∃l,x=tx l:=⟨_,(zqX x).symm⟩;have el:(tx l).cps.toList=l:=rfl;rw[el] at q;refine⟨_,(zx (zad (za1 (by ac_rfl) (za1 (zaf zdv zcW (pv 0) (by rfl)) (zcd (zaf zdv zcW (pv 0) (by rfl))))))),?_⟩;refine⟨_,rfl,tx l,rfl,_,rfl,?_⟩;by_cases h1:l.all zaN=true
 ·refine ifT h1 ?_;rw[h1,Bool.true_and] at q;refine⟨_,rfl,tx [39],tx l,rfl,rfl,_,rfl,?_⟩;rw[zqQ];by_cases h2:39∈l
  ·refine ifF (by rw[decide_eq_true h2];rfl) ?_;rw[decide_eq_true h2,Bool.not_true,Bool.false_and] at q;exact q
  ·refine ifT (by rw[decide_eq_false h2];rfl) ?_;rw[decide_eq_false h2,Bool.not_false,Bool.true_and] at q;refine⟨_,rfl,tx [59],tx l,rfl,rfl,?_⟩;rw[zqQ];exact q
 ·have h1':l.all zaN=false:=by cases z:l.all zaN with | true=>exact Je z h1 | false=>rfl
  refine ifF h1' ?_;rw[h1',Bool.false_and,Bool.false_and] at q;exact q
theorem zrc (nt:NTk K CN)(D:Dfn K mg "is_value" zf7 ["thing"]) (zcY:Fn P w K mg base "is_whole" 1 ["value"] (zfk CN)) (zhZ:Fn P w K mg base "has_signs_of_values" 2 ["text"] spSV) (zk:mg "isinstance" =none) (zdA:mg "str" =none) (zt:mg "len" =none) (zq0:mg "abs" =none) (zdC:mg "MOST_SIGNS" =some (.int 20 t1)):Fn P w K mg base "is_value" 3 ["thing"] (zgV CN):=by
 refine D.ok (k:=2) (L2.fsN ["thing"]) (λf cdv A outer s H vs Q E hr h=>?_);obtain⟨t,v,rfl,rv,tx',q⟩:=h;refine⟨_,(zf (by ac_rfl)
 (zx (zad (za1 (zD (zaZ nt) (by rfl) zk (by rfl) (by ac_rfl)) (za1 (zaf zkU (zD (zah) (by rfl) zt (by rfl) (by ac_rfl)) (by ac_rfl) (zat _)) (zcd (by ac_rfl))))))),?_⟩
 refine⟨_,rfl,t,v,rfl,rv,_,rfl,?_⟩;cases rv with
 | int i=>refine ifT rfl ?_;refine⟨_,rfl,i,rfl,?_⟩;refine⟨_,_,rfl,rfl,p12,_,_,rfl,rfl,?_⟩;show Q (V.bl (decide ((if i < 0 then -i else i)<=(10:Int) ^ (12:Int).toNat))) H;rw[zsT];exact q
 | str x=>
  refine ifF rfl ?_;refine⟨_,rfl,.str x,_,.str,rfl,.str x,_,rfl,ifT rfl ?_⟩;have hl:x.length<=900:=tx';have q:Q (.bl (valT x.cps.toList)) H:=q;unfold valT at q;rw[str_len] at q;refine⟨_,rfl,x,rfl,szl (by omega),_,_,rfl,rfl,_,rfl,?_⟩;by_cases h1:x.length<=20
  ·refine ifT (decide_eq_true (by omega)) ?_;rw[decide_eq_true h1,Bool.true_and] at q;exact⟨_,rfl,x,rfl,q⟩
  ·refine ifF (decide_eq_false (by omega)) ?_;rw[decide_eq_false h1,Bool.false_and,Bool.false_and,Bool.false_and] at q;exact q
 | bl b=>exact ifF rfl ⟨_,rfl,.bl b,_,.str,rfl,.bl b,_,rfl,ifF rfl q⟩
 | non=>exact ifF rfl ⟨_,rfl,.non,_,.str,rfl,.non,_,rfl,ifF rfl q⟩
 | tup e l h=>exact ifF rfl ⟨_,rfl,_,_,.str,rfl,.tup e l h,_,rfl,ifF rfl q⟩
 | lst e=>exact ifF rfl ⟨_,rfl,_,_,.str,rfl,.lst e,_,rfl,ifF rfl q⟩
 | dic e=>exact ifF rfl ⟨_,rfl,_,_,.str,rfl,.dic e,_,rfl,ifF rfl q⟩
 | exc e=>exact ifF rfl ⟨_,rfl,_,_,.str,rfl,.exc e,_,rfl,ifF rfl q⟩
theorem znP (nt:NTk K CN)(D:Dfn K mg "is_name" zir ["thing"]) (zk:mg "isinstance" =none) (zdA:mg "str" =none) (zt:mg "len" =none) (zcr:mg "MOST_LETTERS" =some (.int 8 t2)):Fn P w K mg base "is_name" 1 ["thing"] (zbK CN):=by
 refine D.ok (k:=0) (L2.fsN ["thing","sign"]) (λf cdv A outer s H vs Q E hr h=>?_);obtain⟨t,v,rfl,rv,tx',q⟩:=h;refine⟨_,(zf (zaA (PW.pt (zkw (zfy (zhx (zD (zaZ nt) (by rfl) zk (by rfl) (by ac_rfl)))) (zi6 (zfy (zdr zkU zkU zbm (zD (zah) (by rfl) zt (by rfl) (by ac_rfl)) (by ac_rfl))))))
 (by ac_rfl)
 zM)
 (zf (zaC PassesOwn.never rfl (zjQ (pv 0)) (by ac_rfl)
 (zx (zaA (zfy (zdr zcC zcC zcW (pv 1) zcW))
 (by ac_rfl)
 zM)))
 (by ac_rfl))),?_⟩
 refine⟨_,rfl,t,v,.str,rfl,rv,_,rfl,?_⟩;cases rv with
 | str x=>
  have hl:x.length<=900:=tx';have q:Q (.bl (zW x.cps.toList)) H:=q;unfold zW at q;rw[str_len] at q;refine ifF rfl ?_;refine⟨_,rfl,x,rfl,szl (by omega),?_⟩;refine⟨_,_,rfl,rfl,_,rfl,?_⟩;by_cases h1:1<=x.length
  ·refine ifT (decide_eq_true (by omega)) ?_;refine⟨_,_,rfl,rfl,_,rfl,?_⟩;rw[decide_eq_true h1,Bool.true_and] at q;by_cases h2:x.length<=8
   ·have e2:decide ((x.length:Int)<=8)=true:=decide_eq_true (by omega);refine ifF (by rw[e2];rfl) ?_;rw[decide_eq_true h2,Bool.true_and] at q;refine⟨_,rfl,x,rfl,?_⟩;refine zg8 (z:=x) (λi σ H'=>∃k,σ=[some (.str x),k]/\H'=H/\(x.cps.toList.take i).all letB=true) ⟨_,rfl,rfl,rfl⟩ ?_ ?_
    ·rintro i c σ H' hc ⟨k,rfl,rfl,ha⟩;have hc':x.cps.toList[i]? =some c:=(Array.getElem?_toList (xs:=x.cps) (i:=i)).trans hc;refine⟨_,rfl,_,_,rfl,rfl,_,rfl,?_⟩;by_cases h1:97<=c
     ·have e1:(!decide ((⟨#[c]⟩:Str).cps.toList < (Str.ofString "a").cps.toList))=true:=by show(!decide ([c] < [97]))=true;rw[lt1,decide_eq_false (by omega)];rfl
      refine ifT e1 ?_;refine⟨_,_,rfl,rfl,_,rfl,?_⟩;by_cases h2:c<=122
      ·have e2:(!decide ((Str.ofString "z").cps.toList < (⟨#[c]⟩:Str).cps.toList))=true:=by show(!decide ([122] < [c]))=true;rw[lt1,decide_eq_false (by omega)];rfl
       refine ifF (by rw[e2];rfl) ⟨_,rfl,rfl,?_⟩;rw[ziG hc' ha];unfold letB;rw[decide_eq_true h1,decide_eq_true h2];rfl
      ·have e2:(!decide ((Str.ofString "z").cps.toList < (⟨#[c]⟩:Str).cps.toList))=false:=by show(!decide ([122] < [c]))=false;rw[lt1,decide_eq_true (by omega)];rfl
       refine ifT (by rw[e2];rfl) ?_;rw[zcf hc' (by unfold letB;rw[decide_eq_false h2,Bool.and_false])] at q;exact q
     ·have e1:(!decide ((⟨#[c]⟩:Str).cps.toList < (Str.ofString "a").cps.toList))=false:=by show(!decide ([c] < [97]))=false;rw[lt1,decide_eq_true (by omega)];rfl
      refine ifF e1 ⟨_,rfl,ifT rfl ?_⟩;rw[zcf hc' (by unfold letB;rw[decide_eq_false h1,Bool.false_and])] at q;exact q
    ·rintro σ H' ⟨k,rfl,rfl,ha⟩;have:x.cps.size=x.cps.toList.length:=by simp
     rw[show x.cps.toList.all letB=true by rw[<-ha];congr 1;exact(Jm (by first | exact Jb _ | simp[Str.length])).symm] at q
     exact q
   ·have e2:decide ((x.length:Int)<=8)=false:=decide_eq_false (by omega);refine ifT (by rw[e2];rfl) ?_;rw[decide_eq_false h2,Bool.false_and] at q;exact q
  ·refine ifF (decide_eq_false (by omega)) ⟨_,rfl,ifT rfl ?_⟩;rw[decide_eq_false h1,Bool.false_and,Bool.false_and] at q;exact q
 | bl b=>exact ifT rfl q
 | non=>exact ifT rfl q
 | int i=>exact ifT rfl q
 | tup e l h=>exact ifT rfl q
 | lst e=>exact ifT rfl q
 | dic e=>exact ifT rfl q
 | exc e=>exact ifT rfl q
end
end Pv
namespace Pv
open PySem L2
noncomputable abbrev ze2:Stmt:=top 99
noncomputable abbrev zfv:Stmt:=top 100
noncomputable abbrev zfD:Stmt:=top 101
noncomputable abbrev zer:Stmt:=top 102
noncomputable def zr (H:Hp)(r:Addr):Prop:=∃a b m:Int,H r=some (.lst [.int a,.int b,.int m])/\0<=b/\b < 4294967296
inductive zjv (K:QA) (vs:QQ) (H:Hp) (Q:L2.VK) (_E:XK):Prop
 | mk (a:Addr) (ns:List Int) (c k:Int) (_:vs=[.ref a,.int c,.int k]) (_:SqL K H a (ns.map V.int)) (_:ns.length<=63) (_:∀(r:Addr) (H':Hp),Same H H'->zr H' r->H r=none->Q (.ref r) H'):zjv K vs H Q _E
inductive zaR (vs:QQ) (H:Hp) (Q:L2.VK) (_E:XK):Prop
 | mk (row:Addr) (many:Int) (_:vs=[.ref row,.int many]) (_:zr H row) (_:0 < many) (_:many < 10 ^ 100) (_:∀(r:Int) (H':Hp),0<=r->r < many->Frm [row] H H'->zr H' row->Q (.int r) H'):zaR vs H Q _E
inductive znK (vs:QQ) (H:Hp) (Q:L2.VK) (_E:XK):Prop
 | mk (row:Addr) (most:Int) (_:vs=[.ref row,.int most]) (_:zr H row) (_:0<=most) (_:most<=20) (_:∀(l:List Nat) (H':Hp),valT l=true->Frm [row] H H'->zr H' row->Q (.str (tx l)) H'):znK vs H Q _E
inductive zgC (vs:QQ) (H:Hp) (Q:L2.VK) (_E:XK):Prop
 | mk (row:Addr) (_:vs=[.ref row]) (_:zr H row) (_:(∀(l:List Nat) (H':Hp),valT l=true->Frm [row] H H'->zr H' row->Q (.str (tx l)) H')) (_:(∀(i:Int) (H':Hp),i.natAbs<=10 ^ 12->Frm [row] H H'->zr H' row->Q (.int i) H')):zgC vs H Q _E
theorem zr.new {p:Addr}(r:zr H row)(h:H p=none):zr (upd H p o) row:=by obtain⟨a,b,m,e,x⟩:=r;exact⟨a,b,m,by rw[zg (zj e h)];exact e,x⟩
theorem zr.ne {p:Addr}(r:zr H row)(h:H p=none):p≠row:=λz=>by obtain⟨a,b,m,e,x⟩:=r;rw[z,e] at h;cases h
theorem zr.keep (r:zr H row)(s:Same H H'):zr H' row:=by obtain⟨a,b,m,e,x⟩:=r;exact⟨a,b,m,s _ _ e,x⟩
noncomputable abbrev SO:Str:=Str.ofString "abcdefghijklmnopqrstuvwxyz ABCDEFGHIJKLMNOPQRSTUVWXYZ0123456789!\"#$&()*+,-./:<=>?\x40[\\]^_`{|}~"
theorem zr3:0 < SO.length/\SO.length<=100:=by decide+kernel
theorem zrQ {x:Str}{r:Int}(h0:0<=r)(h1:r < (x.length:Int)):∃c,c∈x.cps.toList/\atI x.cps.toList r=some c:=by obtain⟨c,m,e⟩:=zb9 (xs:=x.cps.toList) h0 (by rw[Array.length_toList];exact h1);exact⟨c,m,e⟩
noncomputable def vsB (c:Nat):Bool:=zaN c && !decide (c=39) && !decide (c=59)
theorem ztu:∀c∈SO.cps.toList,vsB c=true:=by decide+kernel
theorem zps {l:List Nat}(h:l.length<=20)(v:l.all vsB=true):valT l=true:=by
 have hv:∀c∈l,(zaN c=true/\c≠39)/\c≠59:=λc hc=>by have:=Jk.mp v c hc;unfold vsB at this;simpa only [Bool.and_eq_true,Bool.not_eq_true',decide_eq_false_iff_not] using this
 unfold valT;simp only[Bool.and_eq_true,Bool.not_eq_true',decide_eq_false_iff_not,decide_eq_true_eq];exact⟨⟨⟨h,Jk.mpr λc hc=>(hv c hc).1.1⟩,λm=>(hv _ m).1.2 rfl⟩,λm=>(hv _ m).2 rfl⟩
theorem zpK (l:List Nat)(c:Nat):tx l++(⟨#[c]⟩:Str)=tx (l++ [c]):=zsa l [c]
section
variable {P:Program}{w:World}{K:QA}{mg:QB}{base:Heap}
theorem zpn (D:Dfn K mg "_law_draw" zfv ["hand","limit"]):Fn P w K mg base "_law_draw" 1 ["hand","limit"] zaR:=by
 refine D.ok (k:=0) (L2.fsN ["hand","limit","got"]) (λf cdv A outer s H vs Q E hr h=>?_);obtain⟨row,many,rfl,⟨a,b,m,e,b0,b1⟩,h0,h1,q⟩:=h;refine⟨_,(by ac_rfl),?_⟩;refine⟨_,rfl,row,_,_,_,rfl,rfl,SqL.of e,rfl,rfl,_,rfl,?_⟩;rw[zu];refine ifB (λc=>?_) (λc=>?_)
 ·refine⟨_,rfl,row,_,_,_,rfl,rfl,SqL.of e,rfl,_,rfl,_,_,rfl,rfl,h0,?_⟩;refine⟨_,rfl,row,_,_,_,rfl,rfl,SqL.of e,rfl,_,rfl,_,_,rfl,rfl,⟨h0,h1⟩,_,rfl,row,_,_,_,rfl,rfl,e,rfl,?_⟩;exact⟨_,rfl,q _ _ (Int.emod_nonneg _ (by omega)) (Int.emod_lt_of_pos _ h0) (Frm.upd (by simp)) ⟨_,_,_,zc,b0,b1⟩⟩
 ·refine⟨_,rfl,row,_,_,_,rfl,rfl,SqL.of e,rfl,_,rfl,row,_,_,_,rfl,rfl,SqL.of e,rfl,_,_,rfl,rfl,.inl ⟨by omega,by omega⟩,_,_,rfl,rfl,(show(0:Int) < 2147483629 by decide),_,_,rfl,rfl,_,rfl,row,_,_,_,rfl,rfl,e,rfl,?_⟩;have g0:0<=b * b % 2147483629:=Int.emod_nonneg _ (by decide);have g1:b * b % 2147483629 < 2147483629:=Int.emod_lt_of_pos _ (by decide);refine⟨_,rfl,row,_,_,_,rfl,rfl,SqL.of zc,rfl,_,_,rfl,rfl,.inr ⟨by decide,by decide⟩,_,_,rfl,rfl,(show(0:Int) < 2147483563 by decide),_,_,rfl,rfl,⟨by decide,by decide⟩,_,rfl,_,_,rfl,rfl,h0,?_⟩;exact q _ _ (Int.emod_nonneg _ (by omega)) (Int.emod_lt_of_pos _ h0) (Frm.upd (by simp)) ⟨_,_,_,zc,by omega,by omega⟩
theorem zoV (D:Dfn K mg "_law_hand" ze2 ["script","cell","k"]) (zq1:mg "sum" =none):Fn P w K mg base "_law_hand" 1 ["script","cell","k"] (zjv K):=by
 refine D.ok (k:=0) (L2.fsN ["script","cell","k","way"]) (λf cdv A outer s H vs Q E hr h=>?_);obtain⟨a,ns,c,k,rfl,hS,hl,q⟩:=h;refine⟨_,(zf (by ac_rfl)
 (zf (zaA (zaH (znY hr) (pv 0) (by ac_rfl) (zat _))
 (by ac_rfl)
 zM)
 (by ac_rfl))),?_⟩
 refine zy (fun σ H'=>σ=[some (.ref a),some (.int c),some (.int k),some (.int 0)]/\H'=H) (λN n=>n _ _ ⟨rfl,rfl⟩) ?_;rintro σ H0 ⟨rfl,hH⟩;rw[hH];clear hH H0;refine zy (fun σ H'=>∃m:Int,σ=[some (.ref a),some (.int c),some (.int k),some (.int m)]/\Same H H') (λN n=>?_) ?_
 ·refine⟨_,rfl,szl (show 0<=1000 by decide),λp hp=>?_⟩;have s0:Same H (upd H p (.lst [])):=zh (Same.refl H) hp;have e0:upd H p (.lst []) p=some (.lst []):=zc;generalize upd H p (.lst [])=H0 at s0 e0;refine⟨a,p,_,rfl,rfl,s0.seq hS,SqL.of e0,_,rfl,ifB (λ_=>?_) (λ_=>?_)⟩
  ·exact⟨_,rfl,a,ns,rfl,s0.seq hS,_,_,rfl,rfl,(show(0:Int) < 2 by decide),n _ _ ⟨_,rfl,s0⟩⟩
  ·exact n _ _ ⟨_,rfl,s0⟩
 rintro σ H' ⟨m,rfl,sm⟩;refine⟨_,rfl,_,rfl,_,_,rfl,rfl,(show(0:Int) < 2147483629 by decide),_,rfl,_,_,rfl,rfl,.inl ⟨by decide,by decide⟩,_,_,rfl,rfl,_,_,rfl,rfl,_,_,rfl,rfl,.inr ⟨by decide,by decide⟩,_,_,rfl,rfl,(show(0:Int) < 2147483647 by decide),_,rfl,szl (show 3<=1000 by decide),λr hr=>?_⟩;have g0:0<=(c % 2147483629+7919 * k+1) * 48271 % 2147483647:=Int.emod_nonneg _ (by decide);have g1:(c % 2147483629+7919 * k+1) * 48271 % 2147483647 < 2147483647:=Int.emod_lt_of_pos _ (by decide);refine q r _ (zh sm hr) ⟨_,_,_,zc,g0,?_⟩ (sm.free hr);generalize(c % 2147483629+7919 * k+1) * 48271 % 2147483647=z at g1;omega
theorem zsj (D:Dfn K mg "_law_text" zfD ["hand","most"]) (zL:Fn P w K mg base "_law_draw" 1 ["hand","limit"] zaR) (zaK:mg "range" =none) (zt:mg "len" =none):Fn P w K mg base "_law_text" 2 ["hand","most"] znK:=by
 refine D.ok (k:=1) (L2.fsN ["hand","most","some","text","k"]) (λf cdv A outer s H vs Q E hr h=>?_);obtain⟨row,most,rfl,hd,h0,h1,q⟩:=h;refine⟨_,(zf (by ac_rfl)
 (zf (by ac_rfl)
 (zf (zaC PassesOwn.never rfl (by ac_rfl) (by ac_rfl)
 (zx (setA 3 rfl (zdu zjs (pv 3) (zbA zrk (pv 2) (zj6 zL hr (zA (pv 0) (zA (zD (zah) (by rfl) zt (by rfl) (by ac_rfl)) zam))) (λ_ _=>rfl))))))
 (by ac_rfl)))),?_⟩
 refine⟨_,rfl,_,rfl,_,_,rfl,rfl,row,_,rfl,hd,by omega,by omega,λr H1 r0 r1 f1 hd1=>?_⟩;refine⟨_,rfl,by omega,by omega,?_⟩;obtain⟨o0,o1⟩:=zr3;refine zdO (n:=r.toNat) (λi σ H'=>∃(l:List Nat) (kk:Option V),σ=[some (.ref row),some (.int most),some (.str SO),some (.str (tx l)),kk]/\(l.length=i/\l.all vsB=true)/\Frm [row] H H'/\zr H' row) ⟨[],_,rfl,⟨rfl,rfl⟩,f1,hd1⟩ ?_ ?_
 ·rintro i σ H' hi ⟨l,kk,rfl,⟨hl,hv⟩,f3,R3⟩;refine⟨_,rfl,_,rfl,_,rfl,_,rfl,SO,rfl,szl (by omega),row,_,rfl,R3,by omega,by omega,λu H4 u0 u1 f4 R4=>?_⟩;obtain⟨c,mc,ec⟩:=zrQ u0 u1;refine⟨SO,_,c,rfl,rfl,szl (by omega),ec,?_⟩;refine⟨_,_,rfl,rfl,szl (show(tx l).length+1<=1000 by rw[zre];omega),l++ [c],some (.int (0+(i:Int))),?_,⟨by rw[List.length_append,hl];rfl,by rw[List.all_append,hv];show(true && (vsB c && true))=true;rw[ztu c mc];rfl⟩,f3.trans f4,R4⟩;rw[zpK];rfl
 ·rintro σ H' ⟨l,kk,rfl,⟨hl,hv⟩,f3,R3⟩;exact⟨_,rfl,q l H' (zps (by omega) hv) f3 R3⟩
end
noncomputable def strB:V->Bool
 | .str y=>valT y.cps.toList
 | _=>false
noncomputable def intB:V->Bool
 | .int i=>decide (i.natAbs<=1000000000000)
 | _=>false
theorem zo4 {xs:QQ}{x:V}(h:xs.all strB=true)(m:x∈xs):∃y:Str,x=.str y/\valT y.cps.toList=true:=by
 have:=Jk.mp h x m;cases x with
 | str y=>exact⟨y,rfl,this⟩
 | _=>cases this
theorem zo7 {xs:QQ}{x:V}(h:xs.all intB=true)(m:x∈xs):∃i:Int,x=.int i/\i.natAbs<=10 ^ 12:=by
 have:=Jk.mp h x m;cases x with
 | int y=>exact⟨y,rfl,Jl this⟩
 | _=>cases this
theorem zns {p:Addr}{xs:QQ}{r:Int}(h:xs.all strB=true)(hl:xs.length=8)(hd:zr H1 row)(hp:H1 p=none)(f2:Frm [row] (upd H1 p (.lst xs)) H2)(r0:0<=r)(r1:r < 8):∃y:Str,atI xs r=some (.str y)/\valT y.cps.toList=true/\H2 p=some (.lst xs):=by obtain⟨x,mx,ex⟩:=zb9 (xs:=xs) r0 (by rw[hl];exact r1);obtain⟨y,rfl,hy⟩:=zo4 h mx;exact⟨y,ex,hy,f2.at zc (not1 (hd.ne hp))⟩
theorem zn4 {p:Addr}{xs:QQ}{r:Int}(h:xs.all intB=true)(hl:xs.length=8)(hd:zr H1 row)(hp:H1 p=none)(f2:Frm [row] (upd H1 p (.lst xs)) H2)(r0:0<=r)(r1:r < 8):∃i:Int,atI xs r=some (.int i)/\i.natAbs<=10 ^ 12/\H2 p=some (.lst xs):=by obtain⟨x,mx,ex⟩:=zb9 (xs:=xs) r0 (by rw[hl];exact r1);obtain⟨y,rfl,hy⟩:=zo7 h mx;exact⟨y,ex,hy,f2.at zc (not1 (hd.ne hp))⟩
section
variable {P:Program}{w:World}{K:QA}{mg:QB}{base:Heap}
theorem zsk (D:Dfn K mg "_law_value" zer ["hand"]) (zL:Fn P w K mg base "_law_draw" 1 ["hand","limit"] zaR) (zso:Fn P w K mg base "_law_text" 2 ["hand","most"] znK):Fn P w K mg base "_law_value" 3 ["hand"] zgC:=by
 refine D.ok (k:=2) (L2.fsN ["hand","kind"]) (λf cdv A outer s H vs Q E hr h=>?_);obtain⟨row,rfl,hd,q1,q2⟩:=h;refine⟨_,(by ac_rfl),?_⟩;have q1':∀(y:Str) (H':Hp),valT y.cps.toList=true->Frm [row] H H'->zr H' row->Q (.str y) H':=λy H' a b c=>by have:=q1 y.cps.toList H' a b c;rw[zqX] at this;exact this
 refine⟨_,rfl,row,_,rfl,hd,(show(0:Int) < 5 by decide),(by decide+kernel),λkind H1 k0 k1 f1 hd1=>?_⟩;refine⟨_,rfl,rfl,_,rfl,ifB (λ_=>?_) (λ_=>?_)⟩
 ·refine⟨_,rfl,_,_,rfl,rfl,p12,_,_,rfl,rfl,.inl ⟨by decide,by decide⟩,_,_,rfl,rfl,row,_,rfl,hd1,(by decide+kernel),(by decide+kernel),λr H2 r0 r1 f2 hd2=>?_⟩;refine⟨_,_,rfl,rfl,p12,_,_,rfl,rfl,q2 _ _ ?_ (f1.trans f2) hd2⟩;rw[show(10:Int) ^ (12:Int).toNat=1000000000000 from rfl] at *;show(r - 1000000000000).natAbs<=10 ^ 12;omega
 refine⟨_,rfl,rfl,_,rfl,ifB (λ_=>?_) (λ_=>?_)⟩
 ·refine⟨_,rfl,szl (show 2<=1000 by decide),λp hp=>?_⟩;have hd1':=hd1.new (o:=.lst [.int 3,.int 20]) hp;refine⟨_,rfl,row,_,rfl,hd1',(show(0:Int) < 2 by decide),(by decide+kernel),λr H2 r0 r1 f2 hd2=>?_⟩;obtain⟨x,mx,ex⟩:=zb9 (xs:=[V.int 3,.int 20]) r0 r1;have hx:∃m:Int,x=.int m/\0<=m/\m<=20:=by simp only[List.mem_cons,List.not_mem_nil,or_false] at mx;rcases mx with rfl | rfl <;> exact⟨_,rfl,by decide,by decide⟩
  obtain⟨m,rfl,m0,m1⟩:=hx;refine⟨p,_,_,_,rfl,rfl,SqL.of (f2.at zc (not1 (hd1.ne hp))),ex,?_⟩;exact⟨row,m,rfl,hd2,m0,m1,λl H3 hl f3 hd3=>q1 l H3 hl ((zhl f1 hp).trans (f2.trans f3)) hd3⟩
 refine⟨_,rfl,rfl,_,rfl,ifB (λ_=>?_) (λ_=>?_)⟩
 ·refine⟨szl (show 8<=1000 by decide),λp hp=>?_⟩;refine⟨_,rfl,row,_,rfl,hd1.new hp,(show(0:Int) < 8 by decide),(by decide+kernel),λr H2 r0 r1 f2 hd2=>?_⟩;obtain⟨y,ey,hy,ep⟩:=zns (by decide+kernel) rfl hd1 hp f2 r0 r1;exact⟨p,_,_,_,rfl,rfl,SqL.of ep,ey,q1' y _ hy ((zhl f1 hp).trans f2) hd2⟩
 ·refine⟨_,rfl,_,rfl,_,_,rfl,rfl,p12,_,_,rfl,rfl,p12,_,_,rfl,rfl,szl (show 8<=1000 by decide),λp hp=>?_⟩;refine⟨_,rfl,row,_,rfl,hd1.new hp,(show(0:Int) < 8 by decide),(by decide+kernel),λr H2 r0 r1 f2 hd2=>?_⟩;obtain⟨y,ey,hy,ep⟩:=zn4 (by decide+kernel) rfl hd1 hp f2 r0 r1;exact⟨p,_,_,_,rfl,rfl,SqL.of ep,ey,q2 y _ hy ((zhl f1 hp).trans f2) hd2⟩
end
end Pv
namespace Pv
open PySem L2
noncomputable abbrev zbP:Stmt:=top 69
noncomputable def zae:List Ob->List Str
 | []=>[]
 | .str x::r=>x::zae r
 | _::r=>zae r
noncomputable def zbh (ts:List Ob):Bool:=decide (1<=ts.length) && decide (ts.length<=6) && ts.all zav && decide (zae ts).Nodup
inductive zhA (K:QA) (CN:Addr) (vs:QQ) (H:Hp) (Q:L2.VK) (_E:XK):Prop
 | mk (a:Addr) (ys:QQ) (ts:List Ob) (_:vs=[.ref a]) (_:SqL K H a ys) (_:ys.length=ts.length) (_:ts.length<=100) (_:(∀(i:Nat) (x:V) (t:Ob),ys[i]? =some x->ts[i]? =some t->RepO CN H t x)) (_:(∀t∈ts,TxO t)) (_:Q (.bl (zbh ts)) H):zhA K CN vs H Q _E
inductive zhz (K:QA) (CN:Addr) (vs:QQ) (H:Hp) (Q:L2.VK) (_E:XK):Prop
 | mk (a:Addr) (ys:QQ) (ts:List Ob) (_:vs=[.ref a]) (_:SqT K H a ys) (_:ys.length=ts.length) (_:ts.length<=100) (_:(∀(i:Nat) (x:V) (t:Ob),ys[i]? =some x->ts[i]? =some t->RepO CN H t x)) (_:(∀t∈ts,TxO t)) (_:Q (.bl (zbh ts)) H):zhz K CN vs H Q _E
theorem strs_map:∀{ts:List Ob},(∀t∈ts,zav t=true)->ts=(zae ts).map Ob.str:=by
 intro ts
 induction ts with
 | nil=>intro _;rfl
 | cons t r ih=>
  intro h;have h0:=h t List.mem_cons_self;have e:=ih λu hu=>h u (Jd _ hu);cases t with
  | str x=>show _=Ob.str x::_;rw[<-e]
  | _=>cases h0
theorem zgD {ys:QQ}{ts:List Ob}(hl:ys.length=ts.length)(rp:∀(i:Nat) (x:V) (t:Ob),ys[i]? =some x->ts[i]? =some t->RepO CN H t x)(eo:ts=(zae ts).map Ob.str):ys=(zae ts).map V.str:=by
 have hs:(zae ts).length=ts.length:=by rw[<-List.length_map (f:=Ob.str),<-eo]
 apply List.ext_getElem?;intro i;by_cases hi:i < ys.length
 ·have hy:ys[i]? =some ys[i]:=List.getElem?_eq_getElem hi;have hu:(zae ts)[i]? =some ((zae ts)[i]'(by omega)):=List.getElem?_eq_getElem (by omega);have ht:ts[i]? =some (Ob.str ((zae ts)[i]'(by omega))):=(congrArg (λl:List Ob=>l[i]?) eo).trans (by show(List.map Ob.str (zae ts))[i]? =_;rw[List.getElem?_map,hu];rfl);have r:=rp i _ _ hy ht;rw[hy,List.getElem?_map,hu];generalize(zae ts)[i]'(by omega)=x at r;generalize ys[i]=v at r;cases r
  rfl
 ·rw[List.getElem?_eq_none (by omega),List.getElem?_eq_none (by rw[List.length_map];omega)]
theorem znQ {us:QP}:∀i,i<=us.length->(Px.cD us i=i↔(us.take i).Nodup)
 | 0,_=>by simp[Px.cD]
 | i+1,h=>by
  have ih:=znQ (us:=us) i (by omega);have hu:us[i]? =some us[i]:=List.getElem?_eq_getElem (by omega);have le:=Px.zgd us i;have ed:us.getD i ⟨#[]⟩=us[i]:=by rw[List.getD_eq_getElem?_getD,hu];rfl
  rw[List.take_add_one,hu];show Px.cD us (i+1)=i+1↔(us.take i++ [us[i]]).Nodup;rw[List.nodup_append];unfold Px.cD;rw[ed];by_cases c:us[i]∈us.take i
  ·rw[if_pos (List.contains_iff_mem.mpr c)];constructor
   ·intro z;omega
   ·intro z;exact Je rfl (z.2.2 _ c _ (List.mem_singleton.mpr rfl))
  ·rw[if_neg (λz=>c (List.contains_iff_mem.mp z))];constructor
   ·intro z;exact⟨ih.mp (by omega),by simp,λa ha b hb=>by rw[List.mem_singleton.mp hb];exact λz=>c (z ▸ ha)⟩
   ·intro z;have:=ih.mpr z.1;omega
section
variable {P:Program}{w:World}{K:QA}{mg:QB}{base:Heap}{t1 t2 t3 t4 t5:Tok}{CN:Addr}
theorem zmm (D:Dfn K mg "are_columns" zbP ["given"]) (zcE:Fn P w K mg base "is_name" 1 ["thing"] (zbK CN)) (zt:mg "len" =none) (zgK:mg "set" =none) (zay:mg "MOST_COLUMNS" =some (.int 6 t3)):Fn P w K mg base "are_columns" 2 ["given"] (zhA K CN):=by
 refine D.ok (k:=1) (L2.fsN ["given","column"]) (λf cdv A outer s H vs Q E hr h=>?_);obtain⟨a,ys,ts,rfl,sq,hl,h100,rp,tx',q⟩:=h;refine⟨_,(zf (by ac_rfl)
 (zf (by ac_rfl)
 (zx (zad (zaf zmp (zgB rfl (by ac_rfl) (by rfl) zt (by rfl) zgK) (by ac_rfl) (zat _)))))),?_⟩
 unfold zbh at q;refine⟨_,rfl,a,ys,rfl,.inl sq,?_⟩;refine⟨_,_,rfl,rfl,_,rfl,?_⟩;by_cases h1:1<=ts.length
 ·refine ifT (decide_eq_true (by omega)) ?_;refine⟨_,_,rfl,rfl,_,rfl,?_⟩;rw[decide_eq_true h1,Bool.true_and] at q;by_cases h2:ts.length<=6
  ·have e2:decide ((ys.length:Int)<=6)=true:=decide_eq_true (by omega);refine ifF (by rw[e2];rfl) ?_;rw[decide_eq_true h2,Bool.true_and] at q;refine⟨_,rfl,a,rfl,⟨_,sq⟩,?_⟩;refine za5 (xs:=ys) (λi σ H'=>∃k,σ=[some (.ref a),k]/\H'=H/\(ts.take i).all zav=true) ⟨_,rfl,rfl,rfl⟩ ?_ ?_ ?_
   ·rintro i σ H' _ ⟨k,rfl,rfl,_⟩;exact sq
   ·rintro i y σ H' hy ⟨k,rfl,rfl,ha⟩;have hi:i < ts.length:=by rw[<-hl];exact(List.getElem?_eq_some_iff.mp hy).1
    have ht:ts[i]? =some ts[i]:=List.getElem?_eq_getElem hi;refine⟨_,rfl,ts[i],y,rfl,rp i y _ hy ht,tx' _ (Jj hi),?_⟩;cases z:zav ts[i] with
    | true=>refine⟨_,rfl,ifF rfl ⟨_,rfl,rfl,?_⟩⟩;rw[List.take_add_one,ht,List.all_append,ha];show(true && (zav ts[i] && true))=true;rw[z];rfl
    | false=>
     refine⟨_,rfl,ifT rfl ?_⟩;have:ts.all zav=false:=by
      cases y:ts.all zav with
      | false=>rfl
      | true=>rw[Jk.mp y _ (Jj hi)] at z;cases z
     rw[this,Bool.false_and] at q;exact q
   ·rintro σ H' ⟨k,rfl,rfl,ha⟩;rw[hl,List.take_length] at ha;rw[ha,Bool.true_and] at q;have eo:=strs_map (Jk.mp ha);have ey:=zgD hl rp eo;have hs:(zae ts).length=ts.length:=by rw[<-List.length_map (f:=Ob.str),<-eo]
    refine⟨_,rfl,a,zae ts,rfl,.inl (ey ▸ sq),by omega,?_⟩;refine⟨_,rfl,a,ys,rfl,.inl sq,?_⟩;refine⟨rfl,?_⟩;show Q (.bl (decide (V.int _=V.int _))) _;rw[zu];have nd:=znQ (us:=zae ts) _ (Jb _);rw[List.take_length] at nd;have e:decide ((Px.cD (zae ts) (zae ts).length:Int)=(ys.length:Int))=decide (zae ts).Nodup:=decide_eq_decide.mpr ⟨λz=>nd.mp (by omega),λz=>by have:=nd.mpr z;omega⟩;rw[e];exact q
  ·have e2:decide ((ys.length:Int)<=6)=false:=decide_eq_false (by omega);refine ifT (by rw[e2];rfl) ?_;rw[decide_eq_false h2,Bool.false_and,Bool.false_and] at q;exact q
 ·refine ifF (decide_eq_false (by omega)) ⟨_,rfl,ifT rfl ?_⟩;rw[decide_eq_false h1,Bool.false_and,Bool.false_and,Bool.false_and] at q;exact q
theorem zni (D:Dfn K mg "are_columns" zbP ["given"]) (zcE:Fn P w K mg base "is_name" 1 ["thing"] (zbK CN)) (zt:mg "len" =none) (zgK:mg "set" =none) (zay:mg "MOST_COLUMNS" =some (.int 6 t3)):Fn P w K mg base "are_columns" 2 ["given"] (zhz K CN):=by
 refine D.ok (k:=1) (L2.fsN ["given","column"]) (λf cdv A outer s H vs Q E hr h=>?_);obtain⟨a,ys,ts,rfl,sq,hl,h100,rp,tx',q⟩:=h;refine⟨_,(zf (by ac_rfl)
 (zf (zaC PassesOwn.never rfl (zdQ (pv 0)) (by ac_rfl)
 (by ac_rfl))
 (zx (zad (zaf zmp (zgB rfl (by ac_rfl) (by rfl) zt (by rfl) zgK) (by ac_rfl) (zat _)))))),?_⟩
 unfold zbh at q;refine⟨_,rfl,a,ys,rfl,.inr sq,?_⟩;refine⟨_,_,rfl,rfl,_,rfl,?_⟩;by_cases h1:1<=ts.length
 ·refine ifT (decide_eq_true (by omega)) ?_;refine⟨_,_,rfl,rfl,_,rfl,?_⟩;rw[decide_eq_true h1,Bool.true_and] at q;by_cases h2:ts.length<=6
  ·have e2:decide ((ys.length:Int)<=6)=true:=decide_eq_true (by omega);refine ifF (by rw[e2];rfl) ?_;rw[decide_eq_true h2,Bool.true_and] at q;refine⟨_,rfl,a,rfl,⟨_,sq⟩,?_⟩;refine zeM (xs:=ys) (λi σ H'=>∃k,σ=[some (.ref a),k]/\H'=H/\(ts.take i).all zav=true) ⟨_,rfl,rfl,rfl⟩ ?_ ?_ ?_
   ·rintro i σ H' _ ⟨k,rfl,rfl,_⟩;exact sq
   ·rintro i y σ H' hy ⟨k,rfl,rfl,ha⟩;have hi:i < ts.length:=by rw[<-hl];exact(List.getElem?_eq_some_iff.mp hy).1
    have ht:ts[i]? =some ts[i]:=List.getElem?_eq_getElem hi;refine⟨_,rfl,ts[i],y,rfl,rp i y _ hy ht,tx' _ (Jj hi),?_⟩;cases z:zav ts[i] with
    | true=>refine⟨_,rfl,ifF rfl ⟨_,rfl,rfl,?_⟩⟩;rw[List.take_add_one,ht,List.all_append,ha];show(true && (zav ts[i] && true))=true;rw[z];rfl
    | false=>
     refine⟨_,rfl,ifT rfl ?_⟩;have:ts.all zav=false:=by
      cases y:ts.all zav with
      | false=>rfl
      | true=>rw[Jk.mp y _ (Jj hi)] at z;cases z
     rw[this,Bool.false_and] at q;exact q
   ·rintro σ H' ⟨k,rfl,rfl,ha⟩;rw[hl,List.take_length] at ha;rw[ha,Bool.true_and] at q;have eo:=strs_map (Jk.mp ha);have ey:=zgD hl rp eo;have hs:(zae ts).length=ts.length:=by rw[<-List.length_map (f:=Ob.str),<-eo]
    refine⟨_,rfl,a,zae ts,rfl,.inr (ey ▸ sq),by omega,?_⟩;refine⟨_,rfl,a,ys,rfl,.inr sq,?_⟩;refine⟨rfl,?_⟩;show Q (.bl (decide (V.int _=V.int _))) _;rw[zu];have nd:=znQ (us:=zae ts) _ (Jb _);rw[List.take_length] at nd;have e:decide ((Px.cD (zae ts) (zae ts).length:Int)=(ys.length:Int))=decide (zae ts).Nodup:=decide_eq_decide.mpr ⟨λz=>nd.mp (by omega),λz=>by have:=nd.mpr z;omega⟩;rw[e];exact q
  ·have e2:decide ((ys.length:Int)<=6)=false:=decide_eq_false (by omega);refine ifT (by rw[e2];rfl) ?_;rw[decide_eq_false h2,Bool.false_and,Bool.false_and] at q;exact q
 ·refine ifF (decide_eq_false (by omega)) ⟨_,rfl,ifT rfl ?_⟩;rw[decide_eq_false h1,Bool.false_and,Bool.false_and,Bool.false_and] at q;exact q
end
end Pv
namespace Pv
open PySem L2
open Tr
theorem zdR (k:Th):zd k k=false:=by
 cases e:zd k k with
 | false=>rfl
 | true=>have:=zJ e;rw[e] at this;cases this
theorem zgr {nd:Nd}{ns:List Nd}{x:Th}(h:nd.k≠x):endW (nd::ns) x=endW ns x:=by
 cases ns with
 | nil=>show(if nd.k=x then nd.w else .non)=.non;rw[if_neg h]
 | cons a r=>unfold endW;rw[List.getLast?_cons_cons]
theorem zw {x w:Th}:∀{T:Tr},Srt T.ps->(x,w)∈T.ps->endW (wayN x T) x=w:=by
 intro T
 induction T with
 | nil=>intro _ h;cases h
 | node l k v r il ir=>
  intro hs h;obtain⟨s1,s2,s3,s4⟩:=zbC hs;have h:(x,w)∈l.ps++(k,v)::r.ps:=h;by_cases e:k=x
  ·subst e;have ew:endW (wayN k (node l k v r)) k=v:=by unfold wayN;rw[if_pos rfl];show(if k=k then v else .non)=v;rw[if_pos rfl]
   rw[ew];rcases List.mem_append.mp h with h | h
   ·exact Je (s3 _ h) (by show¬zd k k=true;rw[zdR];decide)
   ·rcases List.mem_cons.mp h with h | h
    ·cases h;rfl
    ·exact Je (s4 _ h) (by show¬zd k k=true;rw[zdR];decide)
  ·rw[zeG e,zgr (show(ndT l k v r).k≠x from e)];show endW (wayN x (if zd k x=true then r else l)) x=w;rcases List.mem_append.mp h with h | h
   ·have a:=s3 _ h;rw[if_neg (λz=>by have:=zR (show zd x k=true from a) z;rw[zdR] at this;cases this)];exact il s1 h
   ·rcases List.mem_cons.mp h with h | h
    ·cases h;exact Je rfl e
    ·rw[if_pos (s4 _ h)];exact ir s2 h
theorem zkb {x:Th}:∀{T:Tr},(∀p∈T.ps,p.1≠x)->endW (wayN x T) x=.non:=by
 intro T
 induction T with
 | nil=>intro _;rfl
 | node l k v r il ir=>
  intro h;have e:k≠x:=h (k,v) (Jh _ List.mem_cons_self);rw[zeG e,zgr (show(ndT l k v r).k≠x from e)];show endW (wayN x (if zd k x=true then r else l)) x=.non;split
  ·exact ir λp hp=>h p (Jh _ (Jd _ hp))
  ·exact il λp hp=>h p (Jp _ hp)
end Pv
namespace Pv
open PySem L2
open Tr
theorem ziu {e:Er->Vst->Prop}{m:Int}{s:Vst}{q:Int->Vst->Prop}(tk:TOk s.all T)(hm:(T.cnt:Int) < m)(h0:0 < s.n)(h:∀s',Go (λ_=>True) 1 s s'->s'.own=s.own->q (T.cnt:Int) s'):(zcO T.root m).wp s q e:=by
 unfold zcO;cases T with
 | nil=>rw[if_pos (show(nil:Tr).root=0 from rfl)];exact h s ((Go.refl s).mono (by omega)) rfl
 | node l k w r=>rw[if_neg (λz=>by cases zd0.mp z),Pg.wp_bind];exact zgS (A:=λ_=>True) tk hm h0 trivial λs1 g o=>h s1 g o
theorem zpR {e:Er->Vst->Prop}:∀{T:Tr} {f:Nat} {m:Int} {st:List Nd} {ps:QH} {s:Vst} {q:List (Th ×Th)->Vst->Prop},TOk s.all T->(T.cnt:Int) < m->2 * T.cnt<=f->3 * T.cnt<=s.n->
  (∀f' c s',f<=f'+2 * T.cnt->Go (λ_=>True) (3 * T.cnt) s s'->s'.own=s.own->(strL .non .non f' 0 c st (ps++T.ps)).wp s' q e)->(strL .non .non f T.root m st ps).wp s q e:=by
 intro T
 induction T with
 | nil=>intro f m st ps s q _ _ _ _ h;have:=h f m s (Jb _) (Go.refl s) rfl;rw[show(nil:Tr).ps=[] from rfl,List.append_nil] at this;exact this
 | node l k w r il ir=>
  intro f m st ps s q tk hm hf hn h;have cn:=zB l k w r;have hc:(ndT l k w r).c=((node l k w r).cnt:Int):=rfl;have hlen:(l.ps++(k,w)::r.ps).length=(node l k w r).cnt:=rfl;obtain⟨f,rfl⟩:∃f0,f=f0+1:=⟨f - 1,by omega⟩;unfold strL;rw[if_neg (λz=>by cases zd0.mp z),Pg.wp_bind];refine zgS (A:=λ_=>True) tk hm (by omega) trivial λs1 g1 o1=>?_;have n1:=g1.n;rw[Pg.wp_bind,if_pos (show(zbw .non (ndT l k w r).k && zbu .non (ndT l k w r).k)=true from rfl)];unfold sumP;rw[Pg.wp_bind];refine ziu (T:=l) (tk.go g1).l (by omega) (by omega) λs2 g2 o2=>?_;have n2:=g2.n;rw[Pg.wp_bind];refine ziu (T:=r) ((tk.go g1).go g2).r (by omega) (by omega) λs3 g3 o3=>?_;have n3:=g3.n;rw[if_pos (by omega)];have g03:=g1.trans (g2.trans g3);show(strL .non .non f l.root (ndT l k w r).c (ndT l k w r::st) ps).wp s3 q e;refine il (tk.go g03).l (by omega) (by omega) (by omega) λf' c s4 hf' g4 o4=>?_;have n4:=g4.n;obtain⟨f',rfl⟩:∃f0,f'=f0+1:=⟨f' - 1,by omega⟩;unfold strL;rw[if_pos rfl];show(strL .non .non f' r.root (ndT l k w r).c st (ps++l.ps++ [(k,w)])).wp s4 q e;refine ir ((tk.go g03).go g4).r (by omega) (by omega) (by omega) λf2 c2 s5 hf2 g5 o5=>?_;have:=h f2 c2 s5 (by omega) ((g03.trans (g4.trans g5)).mono (by omega)) (o5.trans (o4.trans (o3.trans (o2.trans o1))));rw[show ps++l.ps++ [(k,w)]++r.ps=ps++(node l k w r).ps from by
   show _=ps++(l.ps++(k,w)::r.ps);simp]
  exact this
theorem zkQ {e:Er->Vst->Prop}{s:Vst}{q:List (Th ×Th)->Vst->Prop}(tk:TOk s.all T)(hn:1000<=s.n)(h:∀s',Go (λ_=>True) 1000 s s'->s'.own=s.own->q T.ps s'):(strP T.root .non .non).wp s q e:=by have ct:=tk.ct;unfold strP;rw[if_neg (show¬zfw .non .non=true by decide)];refine zpR tk (by omega) (by omega) (by omega) λf c s' hf g o=>?_;obtain⟨f,rfl⟩:∃f0,f=f0+1:=⟨f - 1,by omega⟩;unfold strL;rw[if_pos rfl,List.nil_append];exact h s' (g.mono (by omega)) o
end Pv
namespace Pv
open PySem L2
noncomputable abbrev zgc:Stmt:=top 71
noncomputable abbrev zeq:Stmt:=top 70
noncomputable abbrev zgf:Stmt:=top 72
noncomputable abbrev zce:Stmt:=top 73
noncomputable abbrev zkT:Stmt:=top 74
noncomputable def ordB:Th->Bool
 | .tup [n,r]=>isW n && isR r
 | _=>false
noncomputable def zaT (many:Int):Int->List Th->Bool
 | _,[]=>true
 | last,.tup [.int n,r]::os=>isR r && (decide (last < n) && (decide (n < many) && zaT many n os))
 | _,_::_=>false
noncomputable def zik (many:Int):Th->Bool
 | .tup os=>zaT many 0 os
 | _=>false
noncomputable def zif:Th->Bool
 | .tup cs=>zbh (ofL cs)
 | _=>false
noncomputable def lenB:Th->Nat
 | .tup cs=>cs.length
 | _=>0
noncomputable def tabB:Th->Bool
 | .tup [c,r,o]=>zif c && (isR r && zik (lenB c) o)
 | _=>false
noncomputable def valB (t:Th):Bool:=valO (ofT t)
noncomputable def rowB (n:Nat)(k:Th):Th->Bool
 | .tup vs=>decide (vs.length=n) && (vs.all valB && eqT (vs.headD .non) k)
 | _=>false
theorem znH {ts:List Th}(h:ts.length≠3):tabB (.tup ts)=false:=by
 match ts,h with
 | [],_=>rfl
 | [_],_=>rfl
 | [_,_],_=>rfl
 | [_,_,_],h=>exact Je rfl h
 | _::_::_::_::_,_=>rfl
theorem zmr {ts:List Th}(h:ts.length≠2):ordB (.tup ts)=false:=by
 match ts,h with
 | [],_=>rfl
 | [_],_=>rfl
 | [_,_],h=>exact Je rfl h
 | _::_::_::_,_=>rfl
theorem zfE {t:Th}{os:List Th}:zaT many last (t::os)=true↔∃n r,t=.tup [.int n,r]/\isR r=true/\last < n/\n < many/\zaT many n os=true:=by
 constructor
 ·intro h
  match t,h with
  | .tup [.int n,r],h=>have h:(isR r && (decide (last < n) && (decide (n < many) && zaT many n os)))=true:=h;simp only[Bool.and_eq_true,decide_eq_true_eq] at h;exact⟨n,r,rfl,h.1,h.2.1,h.2.2.1,h.2.2.2⟩
 ·rintro⟨n,r,rfl,h1,h2,h3,h4⟩;show(isR r && (decide (last < n) && (decide (n < many) && zaT many n os)))=true;rw[h1,decide_eq_true h2,decide_eq_true h3,h4];rfl
theorem zlD (h:ordB t=true):∃n r,t=.tup [.int n,r]/\isR r=true:=by
 match t,h with
 | .tup [n,r],h=>
  have h:(isW n && isR r)=true:=h;rw[Bool.and_eq_true] at h
  match n,h with
  | .int n,h=>exact⟨n,r,rfl,h.2⟩
inductive zi7 (vs:QQ) (H:Hp) (Q:L2.VK) (_E:XK):Prop
 | mk (t:Th) (v:V) (_:vs=[v]) (_:Rep H t v) (_:Q (.bl (ordB t)) H):zi7 vs H Q _E
inductive zhs (vs:QQ) (H:Hp) (Q:L2.VK) (_E:XK):Prop
 | mk (t:Th) (v:V) (m:Int) (_:vs=[v,.int m]) (_:Rep H t v) (_:Q (.bl (zik m t)) H):zhs vs H Q _E
inductive zrE (vs:QQ) (H:Hp) (Q:L2.VK) (_E:XK):Prop
 | mk (t:Th) (v:V) (_:vs=[v]) (_:Rep H t v) (_:Wf t) (_:Q (.bl (tabB t)) H):zrE vs H Q _E
section
variable {P:Program}{w:World}{K:QA}{mg:QB}{base:Heap}{t1 t2 t3 t4 t5:Tok}{CN:Addr}
theorem zpl (D:Dfn K mg "is_order" zgc ["thing"]) (zcY:Fn P w K mg base "is_whole" 1 ["value"] zcb) (zgH:Fn P w K mg base "is_root" 2 ["thing"] zc0) (zk:mg "isinstance" =none) (zE:mg "tuple" =none) (zt:mg "len" =none) (zaq:mg "NUMBER" =some (.int 0 t1)) (zhF:mg "TREE" =some (.int 1 t2)):Fn P w K mg base "is_order" 3 ["thing"] zi7:=by
 refine D.ok (k:=2) (L2.fsN ["thing"]) (λf cdv A outer s H vs Q E hr h=>?_);obtain⟨t,v,rfl,rt,q⟩:=h;refine⟨_,(by have ι:=0;ac_rfl),?_⟩;cases rt with
 | non=>exact⟨_,rfl,_,_,_,_,rfl,.non,rfl,_,rfl,ifF rfl q⟩
 | int i=>exact⟨_,rfl,_,_,_,_,rfl,.int i,rfl,_,rfl,ifF rfl q⟩
 | str x=>exact⟨_,rfl,_,_,_,_,rfl,.str x,rfl,_,rfl,ifF rfl q⟩
 | @tup p xs ts e l h=>
  refine⟨_,rfl,_,_,_,_,rfl,.tup e,rfl,_,rfl,ifT rfl ?_⟩;refine⟨_,rfl,p,xs,rfl,.inr (SqT.of e),rfl,_,rfl,?_⟩;by_cases h2:ts.length=2
  rotate_left
  ·rw[zmr h2] at q;refine ifF ?_ q;show decide (V.int (xs.length:Int)=V.int 2)=false;rw[zu];exact decide_eq_false (by omega)
  refine ifT ?_ ?_
  ·show decide (V.int (xs.length:Int)=V.int 2)=true;rw[zu];exact decide_eq_true (by omega)
  have r:=RepL.of l h
  match ts,h2,r with
  | [t0,t1'],_,.cons r0 (.cons r1 .nil)=>
   refine⟨_,rfl,p,_,_,_,rfl,rfl,SqT.of e,rfl,t0,_,rfl,r0,_,rfl,?_⟩;have q:Q (.bl (isW t0 && isR t1')) H:=q;cases z:isW t0 with
   | false=>rw[z] at q;exact ifF rfl q
   | true=>rw[z] at q;exact ifT rfl ⟨_,rfl,p,_,_,_,rfl,rfl,SqT.of e,rfl,t1',_,rfl,r1,q⟩
theorem znV (D:Dfn K mg "are_orders" zeq ["thing","many"]) (zsp:Fn P w K mg base "is_order" 3 ["thing"] zi7) (zk:mg "isinstance" =none) (zE:mg "tuple" =none) (zaq:mg "NUMBER" =some (.int 0 t1)):Fn P w K mg base "are_orders" 4 ["thing","many"] zhs:=by
 refine D.ok (k:=3) (L2.fsN ["thing","many","last","order"]) (λf cdv A outer s H vs Q E hr h=>?_);obtain⟨t,v,m,rfl,rt,q⟩:=h;have ι:=0;refine⟨_,(zf (by ac_rfl)
 (zf (by ac_rfl)
 (zf (zaC PassesOwn.never rfl (zdQ (pv 0)) (by ac_rfl)
 (by ac_rfl))
 (by ac_rfl)))),?_⟩
 cases rt with
 | non=>exact⟨_,rfl,_,_,_,_,rfl,.non,rfl,_,rfl,ifT rfl q⟩
 | int i=>exact⟨_,rfl,_,_,_,_,rfl,.int i,rfl,_,rfl,ifT rfl q⟩
 | str x=>exact⟨_,rfl,_,_,_,_,rfl,.str x,rfl,_,rfl,ifT rfl q⟩
 | @tup p xs ts e l h=>
  have q:Q (.bl (zaT m 0 ts)) H:=q;refine⟨_,rfl,_,_,_,_,rfl,.tup e,rfl,_,rfl,ifF rfl ?_⟩;refine⟨_,rfl,p,rfl,⟨_,SqT.of e⟩,?_⟩;refine zeM (xs:=xs) (λi σ H'=>∃(last:Int) (k:Option V),σ=[some (.ref p),some (.int m),some (.int last),k]/\H'=H/\zaT m 0 ts=zaT m last (ts.drop i)) ⟨0,_,rfl,rfl,rfl⟩ ?_ ?_ ?_
  ·rintro i σ H' _ ⟨last,k,rfl,rfl,_⟩;exact SqT.of e
  ·rintro i y σ H' hy ⟨last,k,rfl,rfl,ha⟩;have hi:i < ts.length:=by rw[<-l];exact(List.getElem?_eq_some_iff.mp hy).1
   have ht:ts[i]? =some ts[i]:=List.getElem?_eq_getElem hi;have ry:=h i y _ hy ht;have ed:ts.drop i=ts[i]::ts.drop (i+1):=Js hi;rw[ed] at ha;generalize ts[i]=t at ry ha;have bad:zaT m last (t::ts.drop (i+1))=false->Q (.bl false) H':=λz=>by rw[ha,z] at q;exact q
   have no:(¬∃n r,t=.tup [.int n,r]/\isR r=true/\last < n/\n < m/\zaT m n (ts.drop (i+1))=true)->zaT m last (t::ts.drop (i+1))=false:=λz=>by
    cases y:zaT m last (t::ts.drop (i+1)) with
    | false=>rfl
    | true=>exact Je (zfE.mp y) z
   refine⟨_,rfl,t,y,rfl,ry,_,rfl,?_⟩;cases z:ordB t with
   | false=>refine ifT rfl (ifT rfl (bad (no ?_)));rintro⟨n,r,rfl,h1,_⟩;have z:(true && isR r)=false:=z;rw[h1] at z;cases z
   | true=>
    obtain⟨n,r,rfl,hR⟩:=zlD z;obtain⟨b,ys,rfl,eb,rb⟩:=Rep.list ry;cases rb with
    | cons r0 rb=>
    cases r0;cases rb with
    | cons r1 rb=>
    cases rb;refine ifF rfl ?_;refine⟨_,rfl,_,rfl,b,_,_,_,rfl,rfl,SqT.of eb,rfl,_,_,rfl,rfl,_,rfl,?_⟩;by_cases h1:last < n
    rotate_left
    ·refine ifF (decide_eq_false h1) ⟨_,rfl,ifT rfl (bad (no ?_))⟩;rintro⟨n',r',e',_,h2,_⟩;cases e';exact h1 h2
    refine ifT (decide_eq_true h1) ⟨_,rfl,_,_,rfl,rfl,_,rfl,?_⟩;by_cases h2:n < m
    rotate_left
    ·refine ifT (by rw[decide_eq_false h2];rfl) (bad (no ?_));rintro⟨n',r',e',_,_,h3,_⟩;cases e';exact h2 h3
    refine ifF (by rw[decide_eq_true h2];rfl) ⟨_,rfl,b,_,_,_,rfl,rfl,SqT.of eb,rfl,n,_,rfl,rfl,?_⟩;rw[ha];show(isR r && (decide (last < n) && (decide (n < m) && zaT m n (ts.drop (i+1)))))=_;rw[hR,decide_eq_true h1,decide_eq_true h2];rfl
  ·rintro σ H' ⟨last,k,rfl,rfl,ha⟩;rw[l,List.drop_length] at ha;rw[ha] at q;exact q
end
end Pv
namespace Pv
open PySem L2
theorem zg6 (h:Wf t):TxO (ofT t):=by
 cases t with
 | str x=>have h:znz x:=h;show x.length<=900;have:=h.1;omega
 | _=>exact trivial
theorem zgQ {ts:List Th}(h:WfL ts):∀t∈ts,Wf t:=by
 induction ts with
 | nil=>intro t ht;cases ht
 | cons u r ih=>
  intro t ht;rcases List.mem_cons.mp ht with rfl | ht
  ·exact h.1
  ·exact ih h.2 t ht
inductive zjI (CN:Addr) (vs:QQ) (H:Hp) (Q:L2.VK) (_E:XK):Prop
 | mk (t:Th) (v:V) (_:vs=[v]) (_:Rep H t v) (_:Wf t) (_:Q (.bl (tabB t)) H):zjI CN vs H Q _E
inductive zhp (K:QA) (vs:QQ) (H:Hp) (Q:L2.VK) (_E:XK):Prop
 | mk (a:Addr) (xs:QQ) (ts:List Th) (m:Int) (_:vs=[.ref a,.int m]) (_:SqL K H a xs) (_:RepL H ts xs) (_:WfL ts) (_:Q (.bl (decide ((ts.length:Int)=m) && ts.all valB)) H):zhp K vs H Q _E
inductive zhb (K:QA) (vs:QQ) (H:Hp) (Q:L2.VK) (_E:XK):Prop
 | mk (a:Addr) (xs:QQ) (ts:List Th) (m:Int) (_:vs=[.ref a,.int m]) (_:SqT K H a xs) (_:RepL H ts xs) (_:WfL ts) (_:Q (.bl (decide ((ts.length:Int)=m) && ts.all valB)) H):zhb K vs H Q _E
inductive zeO (CB:Addr) (vs:QQ) (H:Hp) (Q:L2.VK) (E:XK):Prop
 | mk (cs:List Th) (r o k wo:Th) (vt vk vw:V) (_:vs=[vt,vk,vw]) (_:Rep H (.tup [.tup cs,r,o]) vt) (_:Rep H k vk) (_:Rep H wo vw) (_:Wf wo) (_:dep wo<=40) (_:1<=cs.length) (_:(rowB cs.length k wo=true->Q vw H)) (_:(rowB cs.length k wo=false->E (.ref CB) none H)):zeO CB vs H Q E
theorem zcV {ts:List Th}(r:RepL H ts xs){i:Nat}{y:V}(hy:xs[i]? =some y):∃h:i < ts.length,Rep H ts[i] y/\ts.take (i+1)=ts.take i++ [ts[i]]:=by
 have hi:i < ts.length:=by rw[<-r.len];exact(List.getElem?_eq_some_iff.mp hy).1
 have ht:ts[i]? =some ts[i]:=List.getElem?_eq_getElem hi;exact⟨hi,r.at i y _ hy ht,by rw[List.take_add_one,ht];rfl⟩
theorem znr {ts:List Th}{f:Th->Bool}{i:Nat}(hi:i < ts.length)(z:f ts[i]=false):ts.all f=false:=by
 cases y:ts.all f with
 | false=>rfl
 | true=>rw[Jk.mp y _ (Jj hi)] at z;cases z
section
variable {P:Program}{w:World}{K:QA}{mg:QB}{base:Heap}{t1 t2 t3 t4 t5:Tok}{CN CB:Addr}
theorem znj (D:Dfn K mg "are_values" zce ["given","many"]) (zjT:Fn P w K mg base "is_value" 3 ["thing"] (zgV CN)) (zt:mg "len" =none):Fn P w K mg base "are_values" 4 ["given","many"] (zhp K):=by
 refine D.ok (k:=3) (L2.fsN ["given","many","value"]) (λf cdv A outer s H vs Q E hr h=>?_);obtain⟨a,xs,ts,m,rfl,sq,r,wf,q⟩:=h;refine⟨_,(by ac_rfl),?_⟩;have hl:=r.len;refine⟨_,rfl,a,xs,rfl,.inl sq,_,rfl,rfl,_,rfl,?_⟩;rw[zu];by_cases hm:(ts.length:Int)=m
 rotate_left
 ·rw[decide_eq_false hm] at q;exact ifT (by rw[decide_eq_false (by omega)];rfl) q
 rw[decide_eq_true hm,Bool.true_and] at q;refine ifF (by rw[decide_eq_true (by omega)];rfl) ?_;refine⟨_,rfl,a,rfl,⟨_,sq⟩,?_⟩;refine za5 (xs:=xs) (λi σ H'=>∃k,σ=[some (.ref a),some (.int m),k]/\H'=H/\(ts.take i).all valB=true) ⟨_,rfl,rfl,rfl⟩ ?_ ?_ ?_
 ·rintro i σ H' _ ⟨k,rfl,rfl,_⟩;exact sq
 ·rintro i y σ H' hy ⟨k,rfl,rfl,ha⟩;obtain⟨hi,ry,et⟩:=zcV r hy;refine⟨_,rfl,ofT ts[i],y,rfl,ry.toO,zg6 (zgQ wf _ (Jj hi)),?_⟩;cases z:valO (ofT ts[i]) with
  | true=>refine⟨_,rfl,ifF rfl ⟨_,rfl,rfl,?_⟩⟩;rw[et,List.all_append,ha];show(true && (valO (ofT ts[i]) && true))=true;rw[z];rfl
  | false=>rw[znr hi (show valB ts[i]=false from z)] at q;exact⟨_,rfl,ifT rfl q⟩
 ·rintro σ H' ⟨k,rfl,rfl,ha⟩;rw[hl,List.take_length] at ha;rw[ha] at q;exact q
theorem znq (D:Dfn K mg "are_values" zce ["given","many"]) (zjT:Fn P w K mg base "is_value" 3 ["thing"] (zgV CN)) (zt:mg "len" =none):Fn P w K mg base "are_values" 4 ["given","many"] (zhb K):=by
 refine D.ok (k:=3) (L2.fsN ["given","many","value"]) (λf cdv A outer s H vs Q E hr h=>?_);obtain⟨a,xs,ts,m,rfl,sq,r,wf,q⟩:=h;refine⟨_,(zf (by ac_rfl)
 (zf (zaC PassesOwn.never rfl (zdQ (pv 0)) (by ac_rfl)
 (by ac_rfl))
 (by ac_rfl))),?_⟩
 have hl:=r.len;refine⟨_,rfl,a,xs,rfl,.inr sq,_,rfl,rfl,_,rfl,?_⟩;rw[zu];by_cases hm:(ts.length:Int)=m
 rotate_left
 ·rw[decide_eq_false hm] at q;exact ifT (by rw[decide_eq_false (by omega)];rfl) q
 rw[decide_eq_true hm,Bool.true_and] at q;refine ifF (by rw[decide_eq_true (by omega)];rfl) ?_;refine⟨_,rfl,a,rfl,⟨_,sq⟩,?_⟩;refine zeM (xs:=xs) (λi σ H'=>∃k,σ=[some (.ref a),some (.int m),k]/\H'=H/\(ts.take i).all valB=true) ⟨_,rfl,rfl,rfl⟩ ?_ ?_ ?_
 ·rintro i σ H' _ ⟨k,rfl,rfl,_⟩;exact sq
 ·rintro i y σ H' hy ⟨k,rfl,rfl,ha⟩;obtain⟨hi,ry,et⟩:=zcV r hy;refine⟨_,rfl,ofT ts[i],y,rfl,ry.toO,zg6 (zgQ wf _ (Jj hi)),?_⟩;cases z:valO (ofT ts[i]) with
  | true=>refine⟨_,rfl,ifF rfl ⟨_,rfl,rfl,?_⟩⟩;rw[et,List.all_append,ha];show(true && (valO (ofT ts[i]) && true))=true;rw[z];rfl
  | false=>rw[znr hi (show valB ts[i]=false from z)] at q;exact⟨_,rfl,ifT rfl q⟩
 ·rintro σ H' ⟨k,rfl,rfl,ha⟩;rw[hl,List.take_length] at ha;rw[ha] at q;exact q
theorem zpm (D:Dfn K mg "is_table" zgf ["thing"]) (zf0:Fn P w K mg base "are_columns" 2 ["given"] (zhz K CN)) (zgH:Fn P w K mg base "is_root" 2 ["thing"] zc0) (zqb:Fn P w K mg base "are_orders" 4 ["thing","many"] zhs) (zk:mg "isinstance" =none) (zE:mg "tuple" =none) (zt:mg "len" =none)
  (zP:mg "COLUMNS" =some (.int 0 t1)) (zbs:mg "ROWS" =some (.int 1 t2)) (zaP:mg "ORDERS" =some (.int 2 t3)):Fn P w K mg base "is_table" 5 ["thing"] (zjI CN):=by
 refine D.ok (k:=4) (L2.fsN ["thing","columns"]) (λf cdv A outer s H vs Q E hr h=>?_);obtain⟨t,v,rfl,rt,wf,q⟩:=h;refine⟨_,(by have ι:=0;ac_rfl),?_⟩;cases rt with
 | non=>exact⟨_,rfl,_,_,_,_,rfl,.non,rfl,_,rfl,ifT rfl (ifT rfl q)⟩
 | int i=>exact⟨_,rfl,_,_,_,_,rfl,.int i,rfl,_,rfl,ifT rfl (ifT rfl q)⟩
 | str x=>exact⟨_,rfl,_,_,_,_,rfl,.str x,rfl,_,rfl,ifT rfl (ifT rfl q)⟩
 | @tup p xs ts e l h=>
  refine⟨_,rfl,_,_,_,_,rfl,.tup e,rfl,_,rfl,ifF rfl ?_⟩;refine⟨_,rfl,p,xs,rfl,.inr (SqT.of e),rfl,_,rfl,?_⟩;show if (!decide (V.int (xs.length:Int)=V.int 3))=true then _ else _
  rw[zu];by_cases h3:ts.length=3
  rotate_left
  ·rw[znH h3] at q;exact ifT (by rw[decide_eq_false (by omega)];rfl) q
  refine ifF (by rw[decide_eq_true (by omega)];rfl) ?_;have r:=RepL.of l h
  match ts,h3,r,wf with
  | [c,t1',o],_,.cons r0 (.cons r1 (.cons r2 .nil)),wf=>
   have q:Q (.bl (zif c && (isR t1' && zik (lenB c) o))) H:=q;refine⟨_,rfl,p,_,_,_,rfl,rfl,SqT.of e,rfl,?_⟩;cases r0 with
   | non=>exact⟨_,rfl,_,_,_,_,rfl,.non,rfl,_,rfl,ifT rfl (ifT rfl q)⟩
   | int i=>exact⟨_,rfl,_,_,_,_,rfl,.int i,rfl,_,rfl,ifT rfl (ifT rfl q)⟩
   | str x=>exact⟨_,rfl,_,_,_,_,rfl,.str x,rfl,_,rfl,ifT rfl (ifT rfl q)⟩
   | @tup b ys cs eb lb hb=>
    have wc:Wf (.tup cs):=wf.2.1;refine⟨_,rfl,_,_,_,_,rfl,.tup eb,rfl,_,rfl,ifF rfl ?_⟩;refine⟨_,rfl,b,ys,ofL cs,rfl,SqT.of eb,by rw[zc5];exact lb,by rw[zc5];have:=wc.1;omega,λi x u h1 h2=>?_,λu hu=>?_,?_⟩
    ·rw[zeD] at h2;obtain⟨u',hu',rfl⟩:=Jq.mp h2;exact(hb i x u' h1 hu').toO
    ·obtain⟨i,hi⟩:=List.getElem?_of_mem hu;rw[zeD] at hi;obtain⟨u',hu',rfl⟩:=Jq.mp hi;exact zg6 (zgQ wc.2 _ (List.mem_of_getElem? hu'))
    have q:Q (.bl (zbh (ofL cs) && (isR t1' && zik cs.length o))) H:=q;cases z:zbh (ofL cs) with
    | false=>rw[z] at q;exact⟨_,rfl,ifT rfl q⟩
    | true=>
     rw[z,Bool.true_and] at q;refine⟨_,rfl,ifF rfl ?_⟩;refine⟨_,rfl,p,_,_,_,rfl,rfl,SqT.of e,rfl,t1',_,rfl,r1,_,rfl,?_⟩;cases z2:isR t1' with
     | false=>rw[z2] at q;exact ifF rfl q
     | true=>rw[z2,Bool.true_and] at q;refine ifT rfl ⟨_,rfl,p,_,_,_,rfl,rfl,SqT.of e,rfl,_,rfl,b,ys,rfl,.inr (SqT.of eb),o,_,_,rfl,r2,?_⟩;rw[lb];exact q
theorem znb (D:Dfn K mg "row_of" zkT ["table","key","worth"]) (zhG:Fn P w K mg base "are_values" 4 ["given","many"] (zhb K)) (zU:XP K mg "BadThing" CB) (zk:mg "isinstance" =none) (zE:mg "tuple" =none) (zt:mg "len" =none) (zP:mg "COLUMNS" =some (.int 0 t1)):FnX P w K mg base "row_of" 21 ["table","key","worth"] (zeO CB):=by
 refine D.okX (k:=20) (L2.fsN ["table","key","worth"]) (λf cdv A outer s H vs Q E hr h=>?_);obtain⟨cs,r,o,k,wo,vt,vk,vw,rfl,rt,rk,rw',wf,dw,h1,q,qe⟩:=h;refine⟨_,(by have ι:=0;have θ:=0;ac_rfl),?_⟩;have raise:rowB cs.length k wo=false->_:=λz=>qe z;have up:E (.ref CB) none H->_:=λz=>(⟨szl (show 1<=1000 by decide),λe he=>⟨e,CB,none,rfl,zc,zU.cl.q,by rw[zbi he];exact z⟩⟩:_/\∀e,H e=none->∃e' C od,V.ref e=.ref e'/\upd H e (exO e CB none true) e'=some (exO e' C od true)/\Px.xIn K C=true/\E (.ref C) od (del (upd H e (exO e CB none true)) e'));obtain⟨p,xs,rfl,ep,rr⟩:=Rep.list rt;cases rr with
 | cons r0 rr=>
 cases rr with
 | cons r1 rr=>
 cases rr with
 | cons r2 rr=>
 cases rr;obtain⟨b,ys,rfl,eb,rb⟩:=Rep.list r0;have lb:=rb.len;cases rw' with
 | non=>exact⟨_,rfl,_,_,_,_,rfl,.non,rfl,_,rfl,ifT rfl (ifT rfl (up (raise rfl)))⟩
 | int i=>exact⟨_,rfl,_,_,_,_,rfl,.int i,rfl,_,rfl,ifT rfl (ifT rfl (up (raise rfl)))⟩
 | str x=>exact⟨_,rfl,_,_,_,_,rfl,.str x,rfl,_,rfl,ifT rfl (ifT rfl (up (raise rfl)))⟩
 | @tup a zs vs e l h=>
  refine⟨_,rfl,_,_,_,_,rfl,.tup e,rfl,_,rfl,ifF rfl ?_⟩;have rv:=RepL.of l h;refine⟨_,rfl,_,rfl,p,_,_,_,rfl,rfl,SqT.of ep,rfl,b,ys,rfl,.inr (SqT.of eb),a,zs,vs,_,rfl,SqT.of e,rv,wf.2,?_⟩;rw[lb];have rb':rowB cs.length k (.tup vs)=(decide (vs.length=cs.length) && (vs.all valB && eqT (vs.headD .non) k)):=rfl;have ed:decide ((vs.length:Int)=(cs.length:Int))=decide (vs.length=cs.length):=decide_eq_decide.mpr ⟨λz=>by omega,λz=>by omega⟩;rw[ed];rw[rb'] at q qe;by_cases hn:vs.length=cs.length
  rotate_left
  ·rw[decide_eq_false hn] at qe ⊢;exact⟨_,rfl,ifT rfl (up (qe rfl))⟩
  rw[decide_eq_true hn,Bool.true_and] at q qe ⊢;cases za:vs.all valB with
  | false=>rw[za] at qe;exact⟨_,rfl,ifT rfl (up (qe rfl))⟩
  | true=>
  rw[za,Bool.true_and] at q qe;refine⟨_,rfl,ifF rfl ?_⟩;obtain⟨v0,vr,rfl⟩:∃v0 vr,vs=v0::vr:=by
   cases vs with
   | nil=>rw[List.length_nil] at hn;omega
   | cons v0 vr=>exact⟨v0,vr,rfl⟩
  cases rv with
  | @cons _ u _ us ru rus=>
  have du:dep v0<=50:=by have:max (dep v0) (depL vr)+1<=40:=dw;omega
  refine⟨_,rfl,a,_,_,u,rfl,rfl,SqT.of e,by unfold atI ixN;rw[if_pos (by decide),if_pos (by rw[List.length_cons];omega)];rfl,_,rfl,v0,k,ru,rk,du,_,rfl,?_⟩
  cases ze:eqT v0 k with
  | true=>exact ifF rfl ⟨_,rfl,q ze⟩
  | false=>exact ifT rfl (up (qe ze))
end
end Pv
namespace Pv
open PySem L2
open Tr
noncomputable abbrev zf4:Stmt:=top 76
noncomputable abbrev zed:Stmt:=top 77
noncomputable abbrev zic:Stmt:=top 79
noncomputable abbrev zkE:Stmt:=top 80
noncomputable abbrev zih:Stmt:=top 81
noncomputable abbrev zkO:Stmt:=top 82
theorem Frm.none {D:QO}{p:Addr}(f:Frm D H H')(hD:∀d∈D,H' d≠none)(h:H' p=none):H p=none:=by
 cases z:H p with
 | none=>rfl
 | some o=>
  by_cases m:p∈D
  ·exact Je h (hD p m)
  ·rw[f p o m z] at h;cases h
theorem VI.none (I:VI C VR){H':Hp}{a p:Addr}{D:QO}{s:Vst}(v:VR H' a D s)(f:Frm D H H')(h:H' p=none):H p=none:=
 f.none (λd hd=>by obtain⟨kv,e⟩:=I.dic v d hd;rw[e];intro z;cases z) h
structure Rdd (VR:VRT)(a:Addr)(D:QO)(s:Vst)(H H':Hp)(j:Nat)(s':Vst):Prop where
 f:Frm D H H'
 v:VR H' a D s'
 g:Go (λ_=>True) j s s'
 o:s'.own=s.own
theorem Rdd.trans (x:Rdd VR a D s H H1 i s1)(y:Rdd VR a D s1 H1 H2 j s2):Rdd VR a D s H H2 (i+j) s2:=⟨x.f.trans y.f,y.v,x.g.trans y.g,y.o.trans x.o⟩
theorem Rdd.same (I:VI C VR)(x:Rdd VR a D s H H1 i s1)(m:Same H1 H2):Rdd VR a D s H H2 i s1:=⟨x.f.trans (Frm.of m),I.same x.v m,x.g,x.o⟩
theorem Rdd.mono {j:Nat}(x:Rdd VR a D s H H1 i s1)(h:i<=j):Rdd VR a D s H H1 j s1:=⟨x.f,x.v,x.g.mono h,x.o⟩
theorem zd5 (h:tabB t=true):∃cs r os,t=.tup [.tup cs,.int r,.tup os]/\zbh (ofL cs)=true/\0<=r/\zaT cs.length 0 os=true:=by
 match t,h with
 | .tup [c,r,o],h=>
  have h:(zif c && (isR r && zik (lenB c) o))=true:=h;rw[Bool.and_eq_true,Bool.and_eq_true] at h
  match c,r,o,h with
  | .tup cs,.int r,.tup os,h=>exact⟨cs,r,os,rfl,h.1,Jl h.2.1,h.2.2⟩
theorem zh0 {cs:List Th}(h:zbh (ofL cs)=true):1<=cs.length/\cs.length<=6:=by unfold zbh at h;simp only[Bool.and_eq_true,decide_eq_true_eq,zc5] at h;exact h.1.1
inductive zaD (VR:VRT) (CT CB:Addr) (vs:QQ) (H:Hp) (Q:L2.VK) (E:XK):Prop
 | mk (a:Addr) (D:QO) (s:Vst) (T:Tr) (x:Str) (_:vs=[.ref a,.int T.root,.str x]) (_:VR H a D s) (_:TOk s.all T) (_:Srt T.ps) (_:1000<=s.n) (_:zW x.cps.toList=true) (_:x.length<=900) (_:(∀wo,(.str x,wo)∈T.ps->tabB wo=true->∀v H' s',Rdd VR a D s H H' 1000 s'->Rep H' wo v->Q v H')) (_:(∀wo,(.str x,wo)∈T.ps->tabB wo=false->∀H' s',Rdd VR a D s H H' 1000 s'->E (.ref CB) none H')) (_:((∀p∈T.ps,p.1≠ .str x)->∀H' s',Rdd VR a D s H H' 1000 s'->E (.ref CT) none H')):zaD VR CT CB vs H Q E
inductive zhe (VR:VRT) (CT CB:Addr) (vs:QQ) (H:Hp) (Q:L2.VK) (E:XK):Prop
 | mk (a:Addr) (D:QO) (s:Vst) (T:Tr) (x:Str) (wo:Th) (_:vs=[.ref a,.int T.root,.str x]) (_:VR H a D s) (_:TOk s.all T) (_:Srt T.ps) (_:1000<=s.n) (_:zW x.cps.toList=true) (_:x.length<=900) (_:(.str x,wo)∈T.ps) (_:(∀cs r o,wo=.tup [cs,r,o]->tabB wo=true->∀v H' s',Rdd VR a D s H H' 1000 s'->Rep H' cs v->Q v H')) (_:(tabB wo=false->∀H' s',Rdd VR a D s H H' 1000 s'->E (.ref CB) none H')):zhe VR CT CB vs H Q E
noncomputable def zca (n:Nat)(R:Tr):Prop:=∀p∈R.ps,rowB n p.1 p.2=true
inductive zeE (VR:VRT) (CB:Addr) (vs:QQ) (H:Hp) (Q:L2.VK) (E:XK):Prop
 | mk (a:Addr) (D:QO) (s:Vst) (v:V) (cs:List Th) (R:Tr) (o:Th) (_:vs=[.ref a,v]) (_:VR H a D s) (_:TOk s.all R) (_:1000<=s.n) (_:Rep H (.tup [.tup cs,.int R.root,o]) v) (_:1<=cs.length) (_:(zca cs.length R->∀l xs H' s',Rdd VR a D s H H' 1000 s'->H' l=some (.lst xs)->RepL H' (R.ps.map (·.2)) xs->H l=none->Q (.ref l) H')) (_:(¬zca cs.length R->∀H' s',Rdd VR a D s H H' 1000 s'->E (.ref CB) none H')):zeE VR CB vs H Q E
inductive ze8 (VR:VRT) (CB:Addr) (vs:QQ) (H:Hp) (Q:L2.VK) (E:XK):Prop
 | mk (a:Addr) (D:QO) (s:Vst) (v vk:V) (cs:List Th) (R:Tr) (o k:Th) (_:vs=[.ref a,v,vk]) (_:VR H a D s) (_:TOk s.all R) (_:Srt R.ps) (_:1000<=s.n) (_:Rep H (.tup [.tup cs,.int R.root,o]) v) (_:Rep H k vk) (_:dep k<=8) (_:1<=cs.length) (_:(∀wo,(k,wo)∈R.ps->rowB cs.length k wo=true->∀v H' s',Rdd VR a D s H H' 1000 s'->Rep H' wo v->Q v H')) (_:(∀wo,(k,wo)∈R.ps->rowB cs.length k wo=false->∀H' s',Rdd VR a D s H H' 1000 s'->E (.ref CB) none H')) (_:((∀p∈R.ps,p.1≠k)->∀H' s',Rdd VR a D s H H' 1000 s'->Q .non H')):ze8 VR CB vs H Q E
section
variable {P:Program}{w:World}{K:QA}{mg:QB}{base:Heap}{t1 t2 t3 t4 t5:Tok}{VR:VRT}{C CN CB CC CT CNA:Addr}
theorem zpH (I:VI C VR)(D:Dfn K mg "table_at" zf4 ["vault","root","name"]) (zqc:FnX P w K mg base "found" 23 ["vault","root","key"] (zc3 VR CN CB CC)) (zcE:Fn P w K mg base "is_name" 1 ["thing"] (zbK CNA)) (zsq:Fn P w K mg base "is_table" 5 ["thing"] (zjI CNA)) (zl3:XP K mg "NoTable" CT) (zU:XP K mg "BadThing" CB):FnX P w K mg base "table_at" 24 ["vault","root","name"] (zaD VR CT CB):=by
 refine D.okX (k:=23) (L2.fsN ["vault","root","name","worth"]) (λf cdv A outer s0 H vs Q E hr h=>?_);obtain⟨a,Ds,st,T,x,rfl,vr,tk,so,hn,nx,lx,q1,q2,q3⟩:=h;refine⟨_,(by ac_rfl),?_⟩;have ct:=tk.ct;refine⟨_,rfl,_,rfl,_,rfl,a,Ds,st,T.root,.str x,.str x,rfl,vr,.str x,Nat.zero_le _,?_⟩;unfold Out zgZ;rw[Pg.wp_bind];refine zjN (A:=λ_=>True) tk (by omega) (by omega) (by omega) (λ_ _=>trivial) λs1 g1 o1=>?_;intro v H1 f1 v1 r1;have r1:Rep H1 (endW (wayN (.str x) T) (.str x)) v:=r1;have rd:Rdd VR a Ds st H H1 1000 s1:=⟨f1,v1,g1.mono (by omega),o1⟩;by_cases hx:∃wo,(Th.str x,wo)∈T.ps
 ·obtain⟨wo,hw⟩:=hx;have kw:=(tk.ky _ hw).2;rw[zw so hw] at r1;refine⟨_,rfl,rfl,_,rfl,?_⟩;rw[zaJ r1];refine ifF (decide_eq_false kw.ne) ?_;refine⟨_,rfl,.str x,.str x,rfl,.str x,lx,?_⟩;rw[show zav (.str x)=true from nx];refine⟨_,rfl,ifF rfl ?_⟩;refine⟨_,rfl,wo,v,rfl,r1,kw.wf,_,rfl,?_⟩;cases z:tabB wo with
  | true=>exact ifF rfl ⟨_,rfl,q1 wo hw z v H1 s1 rd r1⟩
  | false=>refine ifT rfl ⟨szl (show 1<=1000 by decide),λe he=>⟨e,CB,none,rfl,zc,zU.cl.q,?_⟩⟩;rw[zbi he];exact q2 wo hw z H1 s1 rd
 ·have no:∀p∈T.ps,p.1≠ .str x:=λp hp e=>hx ⟨p.2,by rw[<-e];exact hp⟩;rw[zkb no] at r1;cases r1;refine⟨_,rfl,rfl,_,rfl,ifT rfl ⟨szl (show 1<=1000 by decide),λe he=>⟨e,CT,none,rfl,zc,zl3.cl.q,?_⟩⟩⟩;rw[zbi he];exact q3 no H1 s1 rd
end
end Pv
namespace Pv
open PySem L2
open Tr
theorem Rep.three {a b c:Th}(r:Rep H (.tup [a,b,c]) v):∃p x y z,v=.ref p/\H p=some (.tup [x,y,z])/\Rep H a x/\Rep H b y/\Rep H c z:=by
 obtain⟨p,xs,rfl,e,rr⟩:=Rep.list r;cases rr with
 | cons r0 rr=>
 cases rr with
 | cons r1 rr=>
 cases rr with
 | cons r2 rr=>
 cases rr;exact⟨p,_,_,_,rfl,e,r0,r1,r2⟩
theorem Rep.two {a b:Th}(r:Rep H (.tup [a,b]) v):∃p x y,v=.ref p/\H p=some (.tup [x,y])/\Rep H a x/\Rep H b y:=by
 obtain⟨p,xs,rfl,e,rr⟩:=Rep.list r;cases rr with
 | cons r0 rr=>
 cases rr with
 | cons r1 rr=>
 cases rr;exact⟨p,_,_,rfl,e,r0,r1⟩
inductive zcB (VR:VRT) (CB:Addr) (vs:QQ) (H:Hp) (Q:L2.VK) (E:XK):Prop
 | mk (a:Addr) (D:QO) (s:Vst) (T:Tr) (x:Str) (wo:Th) (_:vs=[.ref a,.int T.root,.str x]) (_:VR H a D s) (_:TOk s.all T) (_:Srt T.ps) (_:2000<=s.n) (_:zW x.cps.toList=true) (_:x.length<=900) (_:(.str x,wo)∈T.ps) (_:(tabB wo=true->∃cs R o,wo=.tup [.tup cs,.int (Tr.root R),o]/\TOk s.all R/\(zca cs.length R->∀l xs H' s',Rdd VR a D s H H' 2000 s'->H' l=some (.lst xs)->RepL H' (R.ps.map (·.2)) xs->H l=none->Q (.ref l) H')/\(¬zca cs.length R->∀H' s',Rdd VR a D s H H' 2000 s'->E (.ref CB) none H'))) (_:(tabB wo=false->∀H' s',Rdd VR a D s H H' 2000 s'->E (.ref CB) none H')):zcB VR CB vs H Q E
inductive zdg (VR:VRT) (CB:Addr) (vs:QQ) (H:Hp) (Q:L2.VK) (E:XK):Prop
 | mk (a:Addr) (D:QO) (s:Vst) (T:Tr) (x:Str) (wo k:Th) (vk:V) (_:vs=[.ref a,.int T.root,.str x,vk]) (_:VR H a D s) (_:TOk s.all T) (_:Srt T.ps) (_:2000<=s.n) (_:zW x.cps.toList=true) (_:x.length<=900) (_:(.str x,wo)∈T.ps) (_:Rep H k vk) (_:dep k<=8) (_:(tabB wo=true->∃cs R o,wo=.tup [.tup cs,.int (Tr.root R),o]/\TOk s.all R/\Srt R.ps/\(∀w1,(k,w1)∈R.ps->rowB cs.length k w1=true->∀v H' s',Rdd VR a D s H H' 2000 s'->Rep H' w1 v->Q v H')/\(∀w1,(k,w1)∈R.ps->rowB cs.length k w1=false->∀H' s',Rdd VR a D s H H' 2000 s'->E (.ref CB) none H')/\((∀p∈R.ps,p.1≠k)->∀H' s',Rdd VR a D s H H' 2000 s'->Q .non H'))) (_:(tabB wo=false->∀H' s',Rdd VR a D s H H' 2000 s'->E (.ref CB) none H')):zdg VR CB vs H Q E
section
variable {P:Program}{w:World}{K:QA}{mg:QB}{base:Heap}{t1 t2 t3 t4 t5:Tok}{VR:VRT}{C CN CB CC CT CNA:Addr}
theorem zpU (D:Dfn K mg "columns_of" zed ["vault","root","name"]) (zG:FnX P w K mg base "table_at" 24 ["vault","root","name"] (zaD VR CT CB)) (zP:mg "COLUMNS" =some (.int 0 t1)):FnX P w K mg base "columns_of" 25 ["vault","root","name"] (zhe VR CT CB):=by
 refine D.okX (k:=24) (L2.fsN ["vault","root","name"]) (λf cdv A outer s0 H vs Q E hr h=>?_);obtain⟨a,Ds,st,T,x,wo,rfl,vr,tk,so,hn,nx,lx,hw,q1,q2⟩:=h;refine⟨_,(by have ι:=0;ac_rfl),?_⟩;have one:∀w',(.str x,w')∈T.ps->w'=wo:=λw' h=>by rw[<-zw so h,zw so hw]
 refine⟨_,rfl,_,rfl,_,rfl,a,Ds,st,T,x,rfl,vr,tk,so,hn,nx,lx,λw' h z v H' s' rd r=>?_,λw' h z H' s' rd=>?_,λno=>Je rfl (no _ hw)⟩
 ·rw[one w' h] at z r;obtain⟨cs,i,os,rfl,_⟩:=zd5 z;obtain⟨p,y0,y1,y2,rfl,ep,r0,_⟩:=r.three;exact⟨p,_,_,_,rfl,rfl,SqT.of ep,rfl,q1 _ _ _ rfl z _ H' s' rd r0⟩
 ·rw[one w' h] at z;exact q2 z H' s' rd
theorem zol (I:VI C VR)(D:Dfn K mg "row_in" zkE ["vault","table","value"]) (zqc:FnX P w K mg base "found" 23 ["vault","root","key"] (zc3 VR CN CB CC)) (zoq:FnX P w K mg base "row_of" 21 ["table","key","worth"] (zeO CB)) (zbs:mg "ROWS" =some (.int 1 t1)):FnX P w K mg base "row_in" 24 ["vault","table","value"] (ze8 VR CB):=by
 refine D.okX (k:=23) (L2.fsN ["vault","table","value","worth"]) (λf cdv A outer s0 H vs Q E hr h=>?_);obtain⟨a,Ds,st,v,vk,cs,R,o,k,rfl,vr,tk,so,hn,rv,rk,dk,h1,q1,q2,q3⟩:=h;refine⟨_,(by have ι:=0;ac_rfl),?_⟩;have ct:=tk.ct;obtain⟨p,y0,y1,y2,rfl,ep,r0,r1,r2⟩:=rv.three;cases r1;refine⟨_,rfl,_,rfl,p,_,_,_,rfl,rfl,SqT.of ep,rfl,_,rfl,a,Ds,st,R.root,k,vk,rfl,vr,rk,dk,?_⟩;unfold Out zgZ;rw[Pg.wp_bind];refine zjN (A:=λ_=>True) tk (by omega) (by omega) (by omega) (λ_ _=>trivial) λs1 g1 o1=>?_;intro v1 H1 f1 vr1 rw1;have rw1:Rep H1 (endW (wayN k R) k) v1:=rw1;have rd:Rdd VR a Ds st H H1 1000 s1:=⟨f1,vr1,g1.mono (by omega),o1⟩;have tk1:=I.tups vr f1;by_cases hx:∃wo,(k,wo)∈R.ps
 ·obtain⟨wo,hw⟩:=hx;have kw:=(tk.ky _ hw).2;rw[zw so hw] at rw1;refine⟨_,rfl,rfl,_,rfl,?_⟩;rw[zaJ rw1];refine ifF (decide_eq_false kw.ne) ?_;have dw:dep wo<=3:=kw.dp;refine⟨_,rfl,_,rfl,_,rfl,cs,.int R.root,o,k,wo,.ref p,vk,v1,rfl,rv.keep tk1,rk.keep tk1,rw1,kw.wf,by omega,h1,λz=>q1 wo hw z v1 H1 s1 rd rw1,λz=>q2 wo hw z H1 s1 rd⟩
 ·have no:∀p∈R.ps,p.1≠k:=λp hp e=>hx ⟨p.2,by rw[<-e];exact hp⟩;rw[zkb no] at rw1;cases rw1;exact⟨_,rfl,rfl,_,rfl,ifT rfl (q3 no H1 s1 rd)⟩
theorem zne (I:VI C VR)(D:Dfn K mg "rows_in" zic ["vault","table"]) (zl4:FnX P w K mg base "stretch" 22 ["vault","root","low","high"] (zgU VR CN CB CC)) (zoq:FnX P w K mg base "row_of" 21 ["table","key","worth"] (zeO CB)) (zbs:mg "ROWS" =some (.int 1 t1)):FnX P w K mg base "rows_in" 23 ["vault","table"] (zeE VR CB):=by
 refine D.okX (k:=22) (L2.fsN ["vault","table"]) (λf cdv A outer s H vs Q E hr h=>?_);obtain⟨a,Ds,st,v,cs,R,o,rfl,vr,tk,hn,rv,h1,q1,q2⟩:=h;have ι:=0;refine⟨_,(zx (zad (zi9 (E:=E) (by rfl) (by rfl) (by rfl) znT (zo.one (y:= "table") (j:=1) (c:=s.heap.objs.size+1) (by rfl) (by rfl) (by decide+kernel) (by decide+kernel) (by rfl) (by decide+kernel) (by rfl) (by decide+kernel) (by rfl) (by first | exact Or.inl rfl | exact Or.inr rfl) (by first | exact Or.inl rfl | exact Or.inr rfl)) (by rfl) (by decide+kernel) rfl (by ac_rfl) (λ_ _ _=>zbH) (λ_ _ _=>(by ac_rfl))))),?_⟩;have ct:=tk.ct;obtain⟨p,y0,y1,y2,rfl,ep,r0,r1,r2⟩:=rv.three;cases r1;refine⟨_,rfl,_,rfl,p,_,_,_,rfl,rfl,SqT.of ep,rfl,a,Ds,st,R.root,.non,.non,.non,.non,rfl,vr,.non,.non,Nat.zero_le _,Nat.zero_le _,?_⟩;refine zkQ tk hn λs1 g1 o1=>?_;intro v' H1 f1 v1 rp;obtain⟨⟨pp,xs,rfl,epp,rx,_⟩,np⟩:=rp;have rd:Rdd VR a Ds st H H1 1000 s1:=⟨f1,v1,g1,o1⟩;have rv1:=rv.keep (I.tups vr f1);refine⟨pp,rfl,⟨_,SqL.of epp⟩,λl hl=>?_⟩;have hxl:xs.length=R.ps.length:=by rw[rx.len,List.length_map]
 have hl0:=I.none v1 f1 hl;have hct:R.ps.length<=300:=ct;refine⟨λi m acc H'=>m=xs.length - i/\i<=xs.length/\Same H1 H'/\H' l=some (.lst acc)/\RepL H' ((R.ps.take i).map (·.2)) acc/\∀u∈R.ps.take i,rowB cs.length u.1 u.2=true,⟨_,rfl,Nat.zero_le _,zh (Same.refl H1) hl,zc,.nil,λu hu=>by cases hu⟩,?_⟩;rintro i m acc H2 ⟨rfl,hi,s2,el,ra,good⟩;by_cases hlt:i < xs.length
 ·have ev:xs[i]? =some xs[i]:=List.getElem?_eq_getElem hlt;have hip:i < R.ps.length:=by omega
  have epi:R.ps[i]? =some R.ps[i]:=List.getElem?_eq_getElem hip;have mem:R.ps[i]∈R.ps:=Jj hip;refine .inr ⟨⟨xs,xs[i],SqL.of (s2 _ _ epp),ev⟩,λy H' hy=>?_⟩;obtain⟨rfl,hy⟩:=hy;have ey:y=xs[i]:=by have:=hy xs (SqL.of (s2 _ _ epp));rw[ev] at this;exact(Option.some.inj this).symm
  subst ey;have rp:=(rx.at i _ _ ev (by rw[List.getElem?_map,epi];rfl)).keep (Same.tups s2);have et:R.ps.take (i+1)=R.ps.take i++ [R.ps[i]]:=by rw[List.take_add_one,epi];rfl
  generalize R.ps[i]=pr at rp et mem;obtain⟨b,vk,vw,eb,hb,rk,rw'⟩:=Rep.two (show Rep H' (.tup [pr.1,pr.2]) _ from rp);have kw:=tk.ky _ mem;have dw:dep pr.2<=3:=kw.2.dp;have hal:acc.length<=300:=by rw[ra.len,List.length_map,List.length_take];omega
  refine⟨b,vk,vw,eb,SqT.of hb,?_⟩;dsimp only[zc6];rw[if_pos rfl];refine⟨_,rfl,_,rfl,_,rfl,cs,.int R.root,o,pr.1,pr.2,.ref p,vk,vw,rfl,rv1.keep (Same.tups s2),rk,rw',kw.2.wf,by omega,h1,λz=>?_,λz=>?_⟩
  ·refine⟨el,zcA (by omega),_,by omega,rfl,hlt,zfO s2 hl,zc,?_,λu hu=>?_⟩
   ·have tk3:Tups H' (upd H' l (.lst (acc++ [vw]))):=Tups.upd λxs z=>by rw[el] at z;cases z
    rw[et,List.map_append];exact(ra.keep tk3).snoc (rw'.keep tk3)
   ·rw[et] at hu;rcases List.mem_append.mp hu with hu | hu
    ·exact good u hu
    ·rw[List.mem_singleton.mp hu];exact z
  ·refine q2 (λok=>?_) H' s1 (rd.same I s2);rw[ok pr mem] at z;cases z
 ·have:i=R.ps.length:=by omega
  subst this;rw[List.take_length] at ra good;exact .inl ⟨⟨xs,SqL.of (s2 _ _ epp),by omega⟩,q1 good l acc H2 s1 (rd.same I s2) el ra hl0⟩
theorem zjB (I:VI C VR)(D:Dfn K mg "rows_of" zih ["vault","root","name"]) (zG:FnX P w K mg base "table_at" 24 ["vault","root","name"] (zaD VR CT CB)) (zl5:FnX P w K mg base "rows_in" 23 ["vault","table"] (zeE VR CB)):FnX P w K mg base "rows_of" 25 ["vault","root","name"] (zcB VR CB):=by
 refine D.okX (k:=24) (L2.fsN ["vault","root","name"]) (λf cdv A outer s0 H vs Q E hr h=>?_);obtain⟨a,Ds,st,T,x,wo,rfl,vr,tk,so,hn,nx,lx,hw,q1,q2⟩:=h;refine⟨_,(by ac_rfl),?_⟩;have one:∀w',(.str x,w')∈T.ps->w'=wo:=λw' h=>by rw[<-zw so h,zw so hw]
 refine⟨_,rfl,_,rfl,_,rfl,_,rfl,a,Ds,st,T,x,rfl,vr,tk,so,by omega,nx,lx,λw' h z v H' s' rd r=>?_,λw' h z H' s' rd=>?_,λno=>Je rfl (no _ hw)⟩
 ·rw[one w' h] at z r;obtain⟨cs,R,o,e,tR,g1,g2⟩:=q1 z;have gn:=rd.g.n;have hc:1<=cs.length:=by rw[e] at z;obtain⟨cs',r',os',e',hc,_⟩:=zd5 z;cases e';exact(zh0 hc).1
  rw[e] at r;exact⟨a,Ds,s',v,cs,R,o,rfl,rd.v,tR.go rd.g,by omega,r,hc,λok l xs H2 s2 rd2 el rl hl=>g1 ok l xs H2 s2 ((rd.trans rd2).mono (by omega)) el rl (I.none rd.v rd.f hl),λno H2 s2 rd2=>g2 no H2 s2 ((rd.trans rd2).mono (by omega))⟩
 ·rw[one w' h] at z;exact q2 z H' s' (rd.mono (by omega))
theorem zlz (I:VI C VR)(D:Dfn K mg "row_at" zkO ["vault","root","name","value"]) (zG:FnX P w K mg base "table_at" 24 ["vault","root","name"] (zaD VR CT CB)) (zfQ:FnX P w K mg base "row_in" 24 ["vault","table","value"] (ze8 VR CB)):FnX P w K mg base "row_at" 25 ["vault","root","name","value"] (zdg VR CB):=by
 refine D.okX (k:=24) (L2.fsN ["vault","root","name","value"]) (λf cdv A outer s0 H vs Q E hr h=>?_);obtain⟨a,Ds,st,T,x,wo,k,vk,rfl,vr,tk,so,hn,nx,lx,hw,rk,dk,q1,q2⟩:=h;refine⟨_,(by ac_rfl),?_⟩;have one:∀w',(.str x,w')∈T.ps->w'=wo:=λw' h=>by rw[<-zw so h,zw so hw]
 refine⟨_,rfl,_,rfl,_,rfl,_,rfl,a,Ds,st,T,x,rfl,vr,tk,so,by omega,nx,lx,λw' h z v H' s' rd r=>?_,λw' h z H' s' rd=>?_,λno=>Je rfl (no _ hw)⟩
 ·rw[one w' h] at z r;obtain⟨cs,R,o,e,tR,sR,g1,g2,g3⟩:=q1 z;have gn:=rd.g.n;have hc:1<=cs.length:=by rw[e] at z;obtain⟨cs',r',os',e',hc,_⟩:=zd5 z;cases e';exact(zh0 hc).1
  rw[e] at r;exact⟨_,rfl,a,Ds,s',v,vk,cs,R,o,k,rfl,rd.v,tR.go rd.g,sR,by omega,r,rk.keep (I.tups vr rd.f),dk,hc,λw1 h1 z1 v1 H2 s2 rd2 r1=>g1 w1 h1 z1 v1 H2 s2 ((rd.trans rd2).mono (by omega)) r1,λw1 h1 z1 H2 s2 rd2=>g2 w1 h1 z1 H2 s2 ((rd.trans rd2).mono (by omega)),λno H2 s2 rd2=>g3 no H2 s2 ((rd.trans rd2).mono (by omega))⟩
 ·rw[one w' h] at z;exact q2 z H' s' (rd.mono (by omega))
end
end Pv
namespace Pv
open PySem L2
open Tr
noncomputable abbrev zno:Stmt:=top 75
noncomputable abbrev zkc:Stmt:=top 84
noncomputable abbrev zek:Stmt:=top 83
noncomputable def zgk (cs:QP):Prop:=zbh (cs.map Ob.str)=true/\∀x∈cs,x.length<=900
noncomputable def tabG (cs:QP)(r:Int)(os:List Th):Th:=.tup [.tup (cs.map Th.str),.int r,.tup os]
theorem z9 {x:Str}(h:zW x.cps.toList=true):znz x:=by unfold zW at h;simp only[Bool.and_eq_true,decide_eq_true_eq] at h;rw[str_len] at h;refine⟨by omega,λc hc=>?_⟩;have:=Jk.mp h.2 c hc;unfold letB at this;simp only[Bool.and_eq_true,decide_eq_true_eq] at this;exact⟨by omega,by omega,by omega⟩
theorem zcX {cs:QP}(h:zbh (cs.map Ob.str)=true):cs.length<=6/\∀x∈cs,zW x.cps.toList=true:=by unfold zbh at h;simp only[Bool.and_eq_true,decide_eq_true_eq,List.length_map] at h;exact⟨h.1.1.2,λx hx=>Jk.mp h.1.2 (.str x) (Jn hx)⟩
theorem zml:∀{cs:QP},(∀x∈cs,zW x.cps.toList=true)->WfL (cs.map Th.str)/\depL (cs.map Th.str)=0/\zV (cs.map Th.str)=cs.length:=by
 intro cs
 induction cs with
 | nil=>intro _;exact⟨trivial,rfl,rfl⟩
 | cons x r ih=>
  intro h;obtain⟨a,b,c⟩:=ih λy hy=>h y (Jd _ hy);refine⟨⟨z9 (h x List.mem_cons_self),a⟩,?_,?_⟩
  ·show max (dep (.str x)) (depL (r.map Th.str))=0;rw[b];rfl
  ·show nodes (.str x)+zV (r.map Th.str)=r.length+1;rw[c];show 1+r.length=r.length+1;omega
theorem zba {x:Str}(h:zW x.cps.toList=true):KeyT (.str x):=⟨z9 h,Nat.zero_le _,(by decide:1<=20),by intro z;cases z⟩
noncomputable def One (os:List Th):Prop:=os=[]\/∃i o:Int,os=[.tup [.int i,.int o]]/\Wf (.int i)/\Wf (.int o)
theorem zbN {cs:QP}(ok:zgk cs){r:Int}(hr:Wf (.int r)){os:List Th}(h:One os):KeyT (tabG cs r os):=by
 obtain⟨h6,hn⟩:=zcX ok.1;obtain⟨a,b,c⟩:=zml hn;have z:Wf (.tup os)/\depL os<=1/\zV os<=3:=by
  rcases h with rfl | ⟨i,o,rfl,h1,h2⟩
  ·exact⟨⟨by decide,trivial⟩,Nat.zero_le _,Nat.zero_le _⟩
  ·exact⟨⟨by show 1<=40;decide,⟨by show 2<=40;decide,h1,h2,trivial⟩,trivial⟩,Jb 1,Jb 3⟩
 refine⟨⟨(by show 3<=40;decide),⟨by rw[List.length_map];omega,a⟩,hr,z.1,trivial⟩,?_,?_,by intro z;cases z⟩
 ·show max (depL (cs.map Th.str)+1) (max 0 (max (depL os+1) 0))+1<=3;rw[b];omega
 ·show 1+((1+zV (cs.map Th.str))+(1+((1+zV os)+0)))<=20;rw[c];omega
theorem zly {l p:Addr}{te:TE}{H1:Hp}{Q:L2.VK}{ps:QH}{xs:QQ}(e1:H1 l=some (.lst xs))(r:RepL H1 (ps.map zfJ) xs)(hp1:H1 p=none)(h300:ps.length<=300)
  (te_ok:∀(v:V) (pr:Th ×Th) (H':Hp) (Z:L2.VK),Rep H' (zfJ pr) v->(∀u,Rep H' pr.1 u->Z u H')->te (some v::frees σ js) H' Z) (q:∀H' acc,Same H1 H'->H' p=some (.lst acc)->RepL H' (ps.map (·.1)) acc->Q (.ref p) H'):zfH (Itl K l) p σ js zc6 te H1 Q:=by
 have hxl:xs.length=ps.length:=by rw[r.len,List.length_map]
 refine⟨λi m acc H=>m=xs.length - i/\i<=xs.length/\Same H1 H/\H p=some (.lst acc)/\RepL H ((ps.take i).map (·.1)) acc,⟨_,rfl,Nat.zero_le _,zh (Same.refl H1) hp1,zc,.nil⟩,?_⟩;rintro i m acc H ⟨rfl,hi,sm,ep,ra⟩;by_cases hlt:i < xs.length
 ·have ev:xs[i]? =some xs[i]:=List.getElem?_eq_getElem hlt;have hip:i < ps.length:=by omega
  have epi:ps[i]? =some ps[i]:=List.getElem?_eq_getElem hip;refine .inr ⟨⟨xs,xs[i],SqL.of (sm _ _ e1),ev⟩,λy H' hy=>?_⟩;obtain⟨rfl,hy⟩:=hy;have ey:y=xs[i]:=by have:=hy xs (SqL.of (sm _ _ e1));rw[ev] at this;exact(Option.some.inj this).symm
  subst ey;have rp:=(r.at i _ _ ev (by rw[List.getElem?_map,epi];rfl)).keep (Same.tups sm);have et:ps.take (i+1)=ps.take i++ [ps[i]]:=by rw[List.take_add_one,epi];rfl
  have hal:acc.length<=300:=by rw[ra.len,List.length_map,List.length_take];omega
  dsimp only[zc6];rw[if_pos rfl];refine te_ok _ ps[i] _ _ rp λu ru=>?_;refine⟨ep,Jf (show acc.length < 1000 by omega) (szl (Jb _)),_,by omega,rfl,hlt,zfO sm hp1,zc,?_⟩;have tk:Tups H' (upd H' p (.lst (acc++ [u]))):=Tups.upd λxs z=>by rw[ep] at z;cases z
  rw[et,List.map_append];exact(ra.keep tk).snoc (ru.keep tk)
 ·have:i=xs.length:=by omega
  subst this;rw[hxl,List.take_length] at ra;exact .inl ⟨⟨xs,SqL.of (sm _ _ e1),Jb _⟩,q H acc sm ep ra⟩
structure Nms (T:Tr)(ns:QP):Prop where
 ks:T.ps.map (·.1)=ns.map Th.str
 nm:∀x∈ns,zW x.cps.toList=true/\x.length<=900
theorem zgF:∀{ns:QP} {vs:QQ},RepL H (ns.map Th.str) vs->vs=ns.map V.str:=by
 intro ns
 induction ns with
 | nil=>intro vs r;cases r;rfl
 | cons x r ih=>
  intro vs h;cases h with
  | cons h1 h2=>cases h1;rw[ih h2];rfl
theorem zho (H:Hp):∀cs:List Str,RepL H (cs.map Th.str) (cs.map V.str)
 | []=>.nil
 | y::r=>.cons (.str y) (zho H r)
theorem Rep.tupL {H:Hp}{p:Addr}{vs:QQ}(e:H p=some (.tup vs))(r:RepL H ts vs):Rep H (.tup ts) (.ref p):=.tup e r.len r.at
noncomputable def zcH (t:Th):Bool:=zav (ofT t)
theorem zlK:∀{l:List Th},(∀t∈l,zcH t=true)->∃ns:List Str,l=ns.map Th.str/\∀x∈ns,zW x.cps.toList=true:=by
 intro l
 induction l with
 | nil=>intro _;exact⟨[],rfl,λx hx=>by cases hx⟩
 | cons t r ih=>
  intro h;obtain⟨ns,rfl,hn⟩:=ih λu hu=>h u (Jd _ hu);have ht:=h t List.mem_cons_self;cases t with
  | str x=>
   refine⟨x::ns,rfl,λy hy=>?_⟩;rcases List.mem_cons.mp hy with rfl | hy
   ·exact ht
   ·exact hn y hy
  | _=>cases ht
inductive zdp (VR:VRT) (CB:Addr) (vs:QQ) (H:Hp) (Q:L2.VK) (E:XK):Prop
 | mk (a:Addr) (D:QO) (s:Vst) (T:Tr) (_:vs=[.ref a,.int T.root]) (_:VR H a D s) (_:TOk s.all T) (_:1000<=s.n) (_:(∀ns,Nms T ns->∀l H' s',Rdd VR a D s H H' 1000 s'->H' l=some (.lst (ns.map V.str))->H l=none->Q (.ref l) H')) (_:(∀p∈T.ps,zcH p.1=false->∀H' s',Rdd VR a D s H H' 1000 s'->E (.ref CB) none H')):zdp VR CB vs H Q E
section
variable {P:Program}{w:World}{K:QA}{mg:QB}{base:Heap}{t1 t2 t3 t4 t5:Tok}{VR:VRT}{C CN CB CC CT CNA CNM:Addr}
theorem zlt (I:VI C VR)(D:Dfn K mg "names" zno ["vault","root"]) (zl4:FnX P w K mg base "stretch" 22 ["vault","root","low","high"] (zgU VR CN CB CC)) (zcE:Fn P w K mg base "is_name" 1 ["thing"] (zbK CNA)) (zU:XP K mg "BadThing" CB):FnX P w K mg base "names" 23 ["vault","root"] (zdp VR CB):=by
 refine D.okX (k:=22) (L2.fsN ["vault","root","told","name"]) (λf cdv A outer s H vs Q E hr h=>?_);obtain⟨a,Ds,st,T,rfl,vr,tk,hn,q1,q2⟩:=h;refine⟨_,(zf (zfm (i:=2) (zo.zero (by rfl) (by decide+kernel) (by decide+kernel) (by decide+kernel) (by rfl)) rfl (by ac_rfl) (λ_ _ _=>zbH) (λ_ _ _=>(zbA (zkJ (K:=K) rfl) (pv 0) zbm (λ_ _=>rfl))) (zb8 rfl) rfl (Or.inl rfl) (by rfl))
 (by ac_rfl)),?_⟩
 have ct:=tk.ct;refine⟨_,rfl,_,rfl,a,Ds,st,T.root,.non,.non,.non,.non,rfl,vr,.non,.non,Nat.zero_le _,Nat.zero_le _,?_⟩;refine zkQ tk hn λs' g o=>?_;intro v' H1 f1 v1 r1;obtain⟨⟨pp,ys,rfl,epp,ry,_⟩,np⟩:=r1;refine⟨pp,rfl,⟨_,SqL.of epp⟩,λl hl=>?_⟩;refine zly epp ry hl ct (λv pr H' Z rp z=>?_) λH2 acc s2 ea ra=>?_
 ·obtain⟨p,y0,y1,rfl,ep,r0,r1⟩:=Rep.two (show Rep H' (.tup [pr.1,pr.2]) v from rp);exact⟨_,rfl,p,_,_,_,rfl,rfl,SqT.of ep,rfl,z _ r0⟩
 have rd:Rdd VR a Ds st H H2 1000 s':=Rdd.same I ⟨f1,v1,g,o⟩ s2;have hl0:=I.none v1 f1 hl;refine⟨_,rfl,l,rfl,⟨_,SqL.of ea⟩,?_⟩;refine za5 (xs:=acc) (λi σ H'=>∃k,σ=[some (.ref a),some (.int T.root),some (.ref l),k]/\H'=H2/\((T.ps.map (·.1)).take i).all zcH=true) ⟨_,rfl,rfl,rfl⟩ ?_ ?_ ?_
 ·rintro i σ H' _ ⟨k,rfl,rfl,_⟩;exact SqL.of ea
 ·rintro i y σ H' hy ⟨k,rfl,rfl,ha⟩;obtain⟨hi,ry,et⟩:=zcV ra hy;have mem:(T.ps.map (·.1))[i]∈T.ps.map (·.1):=Jj hi;obtain⟨pr,hpr,epr⟩:=List.mem_map.mp mem;have wf:Wf (T.ps.map (·.1))[i]:=by rw[<-epr];exact(tk.ky _ hpr).1.wf
  refine⟨_,rfl,ofT (T.ps.map (·.1))[i],y,rfl,ry.toO,zg6 wf,?_⟩;cases z:zav (ofT (T.ps.map (·.1))[i]) with
  | true=>refine⟨_,rfl,ifF rfl ⟨_,rfl,rfl,?_⟩⟩;rw[et,List.all_append,ha];show(true && (zav (ofT (T.ps.map (·.1))[i]) && true))=true;rw[z];rfl
  | false=>refine⟨_,rfl,ifT rfl ⟨szl (show 1<=1000 by decide),λe he=>⟨e,CB,none,rfl,zc,zU.cl.q,?_⟩⟩⟩;rw[zbi he];exact q2 pr hpr (by show zav (ofT pr.1)=false;rw[epr];exact z) H' s' rd
 ·rintro σ H' ⟨k,rfl,rfl,ha⟩;rw[ra.len,List.take_length] at ha;obtain⟨ns,en,hn'⟩:=zlK (Jk.mp ha);rw[en] at ra;have e:=zgF ra;subst e;refine⟨_,rfl,q1 ns ⟨en,λx hx=>⟨hn' x hx,?_⟩⟩ l _ s' rd ea hl0⟩;have:=(z9 (hn' x hx)).1;omega
inductive zdK (VR:VRT) (vs:QQ) (H:Hp) (Q:L2.VK) (_E:XK):Prop
 | mk (a:Addr) (D:QO) (s:Vst) (T:Tr) (x:Str) (_:vs=[.ref a,.int T.root,.str x]) (_:VR H a D s) (_:TOk s.all T) (_:Srt T.ps) (_:1000<=s.n) (_:zW x.cps.toList=true) (_:x.length<=900) (_:(∀p∈T.ps,p.1≠ .str x)) (_:(∀H' s',Rdd VR a D s H H' 1000 s'->Q (.bl false) H')):zdK VR vs H Q _E
theorem zjo (I:VI C VR)(D:Dfn K mg "stands" zkc ["vault","root","name"]) (zG:FnX P w K mg base "table_at" 24 ["vault","root","name"] (zaD VR CT CB)) (zbE:mg "NoTable" =some (.ref CT)) (em:PySem.W.exmOne K (.ref CT) (.ref CT)=some true):Fn P w K mg base "stands" 25 ["vault","root","name"] (zdK VR):=by
 refine D.ok (k:=24) (L2.fsN ["vault","root","name"]) (λf cdv A outer s0 H vs Q E hr h=>?_);obtain⟨a,Ds,st,T,x,rfl,vr,tk,so,hn,nx,lx,no,q⟩:=h;refine⟨_,(zf (zpV rfl rfl (by rfl) zbE (λxe pn E hx=>(by ac_rfl)) (λe=>(by ac_rfl)))
 (by ac_rfl)),?_⟩
 refine⟨_,rfl,_,rfl,_,rfl,a,Ds,st,T,x,rfl,vr,tk,so,hn,nx,lx,λwo hw=>Je rfl (no _ hw),λwo hw=>Je rfl (no _ hw),λ_ H' s' rd=>⟨CT,rfl,em,λe he=>?_⟩⟩;have sm:Same H' (upd H' e (exO e CT none false)):=zh (Same.refl H') he;exact q _ s' (rd.same I sm)
inductive zgW (VR:VRT) (CN CB CC:Addr) (vs:QQ) (H:Hp) (Q:L2.VK) (E:XK):Prop
 | mk (a:Addr) (D:QO) (s:Vst) (T:Tr) (x:Str) (cl:Addr) (cs:QP) (_:vs=[.ref a,.int T.root,.str x,.ref cl]) (_:VR H a D s) (_:TOk s.all T) (_:Srt T.ps) (_:T.cnt<=299) (_:4000<=s.n) (_:zW x.cps.toList=true) (_:H cl=some (.lst (cs.map V.str))) (_:zgk cs) (_:(∀p∈T.ps,p.1≠ .str x)) (_:(∀u t s',OutE VR CN CB CC a D H E (.clash u t) s')) (_:(∀H' s',Frm D H H'->VR H' a D s'->Go (λ_=>True) 4000 s s'->(putT (.str x) (tabG cs 0 []) T).InV s'.all->Q (.int (putT (.str x) (tabG cs 0 []) T).root) H')):zgW VR CN CB CC vs H Q E
theorem zmt (I:VI C VR)(D:Dfn K mg "make_table" zek ["vault","root","name","columns"]) (zcE:Fn P w K mg base "is_name" 1 ["thing"] (zbK CNA)) (zf0:Fn P w K mg base "are_columns" 2 ["given"] (zhA K CNA)) (ztC:Fn P w K mg base "stands" 25 ["vault","root","name"] (zdK VR)) (zgL:FnX P w K mg base "put" 24 ["vault","root","key","worth"] (zbF VR CN CB CC)) (zE:mg "tuple" =none):FnX P w K mg base "make_table" 26 ["vault","root","name","columns"] (zgW VR CN CB CC):=by
 refine D.okX (k:=25) (L2.fsN ["vault","root","name","columns"]) (λf cdv A outer s0 H vs Q E hr h=>?_);obtain⟨a,Ds,st,T,x,cl,cs,rfl,vr,tk,so,c9,hn,nx,ec,ok,no,hc,q⟩:=h;refine⟨_,(zf (zaA (by ac_rfl)
 (zx (zch zco rfl za6))
 zM)
 (zf (zaA (by ac_rfl)
 (zx (zch zco rfl za6))
 zM)
 (by ac_rfl))),?_⟩
 have lx:x.length<=900:=by have:=(z9 nx).1;omega
 refine⟨_,rfl,.str x,.str x,rfl,.str x,lx,?_⟩;rw[show zav (.str x)=true from nx];refine⟨_,rfl,ifF rfl ?_⟩;refine⟨_,rfl,cl,cs.map V.str,cs.map Ob.str,rfl,SqL.of ec,by rw[List.length_map,List.length_map],by rw[List.length_map];have:=(zcX ok.1).1;omega,λi y t h1 h2=>?_,λt ht=>?_,?_⟩
 ·rw[List.getElem?_map] at h1 h2;cases z:cs[i]? with
  | none=>rw[z] at h1;cases h1
  | some y=>rw[z] at h1 h2;cases h1;cases h2;exact .str y
 ·obtain⟨y,hy,rfl⟩:=List.mem_map.mp ht;exact ok.2 y hy
 rw[ok.1];refine⟨_,rfl,ifF rfl ?_⟩;refine⟨_,rfl,_,rfl,_,rfl,a,Ds,st,T,x,rfl,vr,tk,so,by omega,nx,lx,no,λH' s' rd=>⟨_,rfl,ifF rfl ?_⟩⟩;obtain⟨f,v',g,o⟩:=rd;have n1:=g.n;have ec':=I.lst vr f ec;refine⟨_,rfl,_,rfl,_,rfl,_,rfl,cl,_,rfl,.inl ⟨SqL.of ec',λl hl=>?_⟩⟩;refine⟨szl (show 0<=1000 by decide),λl2 hl2=>⟨szl (show 3<=1000 by decide),λl3 hl3=>?_⟩⟩;have s1:Same H' (upd H' l (.tup (cs.map V.str))):=zh (Same.refl H') hl;have e1:upd H' l (.tup (cs.map V.str)) l=some (.tup (cs.map V.str)):=zc;generalize upd H' l (.tup (cs.map V.str))=H1 at s1 e1 hl2 hl3;have s2:=zh (o:=.tup []) s1 hl2;have e2:upd H1 l2 (.tup []) l2=some (.tup []):=zc;have e1:upd H1 l2 (.tup []) l=some (.tup (cs.map V.str)):=zh (Same.refl H1) hl2 _ _ e1;generalize upd H1 l2 (.tup [])=H2 at s2 e1 e2 hl3;have s3:=zh (o:=.tup [.ref l,.int 0,.ref l2]) s2 hl3;have k3:Same H2 (upd H2 l3 (.tup [.ref l,.int 0,.ref l2])):=zh (Same.refl H2) hl3;have e3:upd H2 l3 (.tup [.ref l,.int 0,.ref l2]) l3=some (.tup [.ref l,.int 0,.ref l2]):=zc;generalize upd H2 l3 (.tup [.ref l,.int 0,.ref l2])=H3 at s3 e3 k3;have rw3:Rep H3 (tabG cs 0 []) (.ref l3):=Rep.tupL e3 (.cons (Rep.tupL (k3 _ _ e1) (zho H3 cs)) (.cons (.int 0) (.cons (Rep.tupL (k3 _ _ e2) .nil) .nil)));have kx:=zba nx;refine⟨a,Ds,s',T.root,.str x,tabG cs 0 [],.str x,.ref l3,rfl,I.same v' s3,.str x,⟨kx.wf,Nat.zero_le _,(by show 1<=80;decide)⟩,rw3,?_⟩;have f3:Frm Ds H H3:=f.trans λb o _ e=>s3 b o e;refine zbT (A:=λ_=>True) (λu t s2=>OutE.on f3 _ _ (hc u t s2)) (tk.go g) c9 kx (zbN ok ⟨by decide,by decide⟩ (.inl rfl)) (by omega) (λ_ _=>trivial) λs2 g2 i2=>?_;intro v2 H2 f2 vr2 e2;have e2:v2=.int (putT (.str x) (tabG cs 0 []) T).root:=e2;rw[e2];exact q H2 s2 (f3.trans f2) vr2 ((g.trans g2).mono (by omega)) i2
end
end Pv
namespace Pv
open PySem L2
open Tr
noncomputable abbrev zbz:Stmt:=top 85
noncomputable abbrev zcM:Stmt:=top 86
noncomputable abbrev zke:Stmt:=top 89
noncomputable abbrev zeh:Stmt:=top 90
structure Did (VR:VRT)(a:Addr)(D:QO)(s:Vst)(H H':Hp)(j:Nat)(s':Vst):Prop where
 f:Frm D H H'
 v:VR H' a D s'
 g:Go (λ_=>True) j s s'
theorem Rdd.did (x:Rdd VR a D s H H1 i s1):Did VR a D s H H1 i s1:=⟨x.f,x.v,x.g⟩
theorem Did.trans (x:Did VR a D s H H1 i s1)(y:Did VR a D s1 H1 H2 j s2):Did VR a D s H H2 (i+j) s2:=⟨x.f.trans y.f,y.v,x.g.trans y.g⟩
theorem Did.same (I:VI C VR)(x:Did VR a D s H H1 i s1)(m:Same H1 H2):Did VR a D s H H2 i s1:=⟨x.f.trans (Frm.of m),I.same x.v m,x.g⟩
theorem Did.mono {j:Nat}(x:Did VR a D s H H1 i s1)(h:i<=j):Did VR a D s H H1 j s1:=⟨x.f,x.v,x.g.mono h⟩
inductive znC (vs:QQ) (H:Hp) (Q:L2.VK) (_E:XK):Prop
 | mk (vt:V) (cs:QP) (r o:Th) (x:Str) (j:Nat) (_:vs=[vt,.str x]) (_:Rep H (.tup [.tup (cs.map Th.str),r,o]) vt) (_:cs[j+1]? =some x) (_:(∀m y,m < j+1->cs[m]? =some y->y≠x)) (_:∀H',Same H H'->Q (.int ((j+1:Nat):Int)) H'):znC vs H Q _E
inductive zjC (vs:QQ) (H:Hp) (Q:L2.VK) (_E:XK):Prop
 | mk (vt:V) (n:Int) (c r:Th) (_:vs=[vt,.int n]) (_:Rep H (.tup [c,r,.tup []]) vt) (_:∀l,H l=none->Q (.ref l) (upd H l (.lst []))):zjC vs H Q _E
inductive zgX (vs:QQ) (H:Hp) (Q:L2.VK) (_E:XK):Prop
 | mk (vo vr:V) (i:Nat) (o:Th) (rs:List Th) (x y:Th) (_:vs=[vo,vr]) (_:Rep H (.tup [.int i,o]) vo) (_:Rep H (.tup rs) vr) (_:rs[i]? =some x) (_:rs[0]? =some y) (_:∀p H',Same H H'->H p=none->Rep H' (.tup [x,y]) (.ref p)->Q (.ref p) H'):zgX vs H Q _E
inductive zjz (VR:VRT) (CN CB CC:Addr) (vs:QQ) (H:Hp) (Q:L2.VK) (E:XK):Prop
 | mk (a:Addr) (D:QO) (s:Vst) (vo vr:V) (i:Nat) (O:Tr) (rs:List Th) (x y:Th) (_:vs=[.ref a,vo,vr]) (_:VR H a D s) (_:TOk s.all O) (_:O.cnt<=299) (_:1000<=s.n) (_:Rep H (.tup [.int i,.int O.root]) vo) (_:Rep H (.tup rs) vr) (_:rs[i]? =some x) (_:rs[0]? =some y) (_:KeyT (.tup [x,y])) (_:(∀u t s',OutE VR CN CB CC a D H E (.clash u t) s')) (_:(∀v H' s',Did VR a D s H H' 1000 s'->(putT (.tup [x,y]) (.int 1) O).InV s'.all->Rep H' (.tup [.int i,.int (putT (.tup [x,y]) (.int 1) O).root]) v->Q v H')):zjz VR CN CB CC vs H Q E
section
variable {P:Program}{w:World}{K:QA}{mg:QB}{base:Heap}{t1 t2 t3 t4 t5:Tok}{VR:VRT}{C CN CB CC CT CNA CNM:Addr}
theorem zg1 (x y:Str):eqV (.str x) (.str y)=decide (x=y):=by
 by_cases h:x=y
 ·subst h;rw[decide_eq_true rfl];show(x==x)=true;exact beq_self_eq_true x
 ·rw[decide_eq_false h];show(x==y)=false;exact beq_eq_false_iff_ne.mpr h
theorem zri (D:Dfn K mg "number_of_order" zbz ["table","column"]) (zP:mg "COLUMNS" =some (.int 0 t1)):FnX P w K mg base "number_of_order" 21 ["table","column"] znC:=by
 refine D.okX (k:=20) (L2.fsN ["table","column"]) (λf cdv A outer s0 H vs Q E hr h=>?_);obtain⟨vt,cs,r,o,x,j,rfl,rt,hj,hno,q⟩:=h;have ι:=0;refine⟨_,(zf (zaA (zaH zg4 (pv 1) (zeZ zrn (by ac_rfl) (zeQ zbm) zkl) (by rfl))
 (zx (zch zco rfl za6))
 zM)
 (zx (zad (zsl PySem.F.slot_tuple_index PySem.F.type_tuple_index zlR (by ac_rfl) (by ac_rfl))))),?_⟩
 obtain⟨p,y0,y1,y2,rfl,ep,r0,_⟩:=rt.three;obtain⟨b,ys,rfl,eb,rb⟩:=Rep.list r0;have ey:=zgF rb;subst ey;have lj:j+1 < cs.length:=(List.getElem?_eq_some_iff.mp hj).1;refine⟨_,rfl,_,rfl,p,_,_,_,rfl,rfl,SqT.of ep,rfl,?_⟩;have hw:¬(HT.sIx (cs.map V.str).length 0 (some 1)=0/\HT.sIx (cs.map V.str).length (cs.map V.str).length none=(cs.map V.str).length):=by rintro⟨z,_⟩;rw[show(some 1:Option Int)=some ((1:Nat):Int) from rfl,HT.sIx_nat,List.length_map] at z;omega
 have ec:cutV (cs.map V.str) (some 1) none=(cs.drop 1).map V.str:=by unfold cutV;rw[show(some 1:Option Int)=some ((1:Nat):Int) from rfl,HT.sIx_nat,HT.sIx_none,List.length_map,Jw (by omega),<-List.map_drop,<-List.map_take,Jm (by rw[List.length_drop];omega)]
 refine⟨_,rfl,b,_,rfl,SqT.of eb,hw,λl hl=>?_⟩;rw[ec];have s1:=zh (o:=.tup ((cs.drop 1).map V.str)) (Same.refl H) hl;have el:upd H l (.tup ((cs.drop 1).map V.str)) l=some (.tup ((cs.drop 1).map V.str)):=zc;generalize upd H l (.tup ((cs.drop 1).map V.str))=H1 at s1 el;have fl:∀l:List Str,(l.map V.str).all za4=true:=λl=>Jk.mpr λv hv=>by obtain⟨y,_,rfl⟩:=List.mem_map.mp hv;rfl
 refine⟨l,_,rfl,.inr (SqT.of el),rfl,fl _,?_⟩;have hin:inV (.str x) ((cs.drop 1).map V.str)=true:=by
  refine List.any_eq_true.mpr ⟨.str x,Jn (List.mem_of_getElem? (i:=j) ?_),?_⟩
  ·rw[List.getElem?_drop,Nat.add_comm];exact hj
  ·rw[zg1];exact decide_eq_true rfl
 rw[hin];refine⟨_,rfl,ifF rfl ?_⟩;refine⟨_,rfl,p,_,_,_,rfl,rfl,SqT.of (s1 _ _ ep),rfl,⟨b,_,rfl,s1 _ _ eb⟩,_,rfl,b,_,_,j+1,rfl,rfl,SqT.of (s1 _ _ eb),rfl,fl _,⟨.str x,by rw[List.getElem?_map,hj];rfl,by rw[zg1];exact decide_eq_true rfl⟩,λm y hm hy=>?_,q H1 s1⟩;rw[List.getElem?_map] at hy;obtain⟨z,hz,rfl⟩:=Jq.mp hy;rw[zg1];exact decide_eq_false (hno m z hm hz)
theorem zoR (D:Dfn K mg "other_orders" zcM ["table","number"]) (zaP:mg "ORDERS" =some (.int 2 t1)) (zaq:mg "NUMBER" =some (.int 0 t2)):Fn P w K mg base "other_orders" 1 ["table","number"] zjC:=by refine D.ok (k:=0) (L2.fsN ["table","number"]) (λf cdv A outer s H vs Q E hr h=>?_);obtain⟨vt,n,c,r,rfl,rt,q⟩:=h;have ι:=0;refine⟨_,(zx (zad (zdw (zo.one (y:= "number") (j:=1) (c:=s.heap.objs.size+1) (by rfl) (by rfl) (by decide+kernel) (by decide+kernel) (by rfl) (by decide+kernel) (by rfl) (by decide+kernel) (by rfl) (by first | exact Or.inl rfl | exact Or.inr rfl) (by first | exact Or.inl rfl | exact Or.inr rfl)) rfl (zdQ (by ac_rfl)) (λ_ _ _=>zpc (zaH zn9 (zbA (zkJ (K:=K) rfl) (pv 0) (by ac_rfl) (λ_ _=>rfl)) (pv 1) (zat _))) (λ_ _ _=>(pv 0))))),?_⟩;obtain⟨p,y0,y1,y2,rfl,ep,_,_,r2⟩:=rt.three;obtain⟨b,ys,rfl,eb,rb⟩:=Rep.list r2;cases rb;refine⟨_,rfl,p,_,_,_,rfl,rfl,SqT.of ep,rfl,b,rfl,⟨_,SqT.of eb⟩,λl hl=>?_⟩;exact zda ⟨[],SqT.of (zh (Same.refl H) hl _ _ eb),Jb _⟩ (q l hl)
theorem zmH (D:Dfn K mg "key_in" zke ["order","row"]) (zaq:mg "NUMBER" =some (.int 0 t2)):Fn P w K mg base "key_in" 1 ["order","row"] zgX:=by
 refine D.ok (k:=0) (L2.fsN ["order","row"]) (λf cdv A outer s0 H vs Q E hr h=>?_);obtain⟨vo,vr,i,o,rs,x,y,rfl,ro,rr,hx,hy,q⟩:=h;refine⟨_,(by have ι:=0;ac_rfl),?_⟩;obtain⟨p,z0,z1,rfl,ep,r0,_⟩:=ro.two;cases r0;obtain⟨b,ys,rfl,eb,rb⟩:=Rep.list rr;have at1:∀(i:Nat) (x:Th),rs[i]? =some x->∃u,atI ys i=some u/\Rep H x u:=λi x h=>by
  have li:i < ys.length:=by rw[rb.len];exact(List.getElem?_eq_some_iff.mp h).1
  have e:ys[i]? =some ys[i]:=List.getElem?_eq_getElem li;refine⟨ys[i],?_,rb.at i _ _ e h⟩;unfold atI ixN;rw[if_pos (Int.natCast_nonneg i),if_pos (by omega)];exact e
 obtain⟨ux,ex,rx⟩:=at1 i x hx;obtain⟨uy,ey,ry⟩:=at1 0 y hy;refine⟨_,rfl,_,rfl,p,_,_,_,rfl,rfl,SqT.of ep,rfl,b,_,_,_,rfl,rfl,SqT.of eb,ex,_,rfl,b,_,_,_,rfl,rfl,SqT.of eb,ey,szl (show 2<=1000 by decide),λl hl=>?_⟩;have s1:=zh (o:=.tup [ux,uy]) (Same.refl H) hl;exact q l _ s1 hl (Rep.tupL zc (.cons (rx.keep (Same.tups s1)) (.cons (ry.keep (Same.tups s1)) .nil)))
theorem zpa (I:VI C VR)(D:Dfn K mg "order_with" zeh ["vault","order","row"]) (zgL:FnX P w K mg base "put" 24 ["vault","root","key","worth"] (zbF VR CN CB CC)) (ztD:Fn P w K mg base "key_in" 1 ["order","row"] zgX) (zaq:mg "NUMBER" =some (.int 0 t1)) (zhF:mg "TREE" =some (.int 1 t2)):FnX P w K mg base "order_with" 25 ["vault","order","row"] (zjz VR CN CB CC):=by refine D.okX (k:=24) (L2.fsN ["vault","order","row"]) (λf cdv A outer s0 H vs Q E hr h=>?_);obtain⟨a,Ds,st,vo,vr,i,O,rs,x,y,rfl,v,tk,c9,hn,ro,rr,hx,hy,kk,hc,q⟩:=h;refine⟨_,(by have ι:=0;ac_rfl),?_⟩;obtain⟨p,z0,z1,rfl,ep,r0,r1⟩:=ro.two;cases r0;cases r1;refine⟨_,rfl,p,_,_,_,rfl,rfl,SqT.of ep,rfl,_,rfl,_,rfl,p,_,_,_,rfl,rfl,SqT.of ep,rfl,_,rfl,_,rfl,.ref p,vr,i,_,rs,x,y,rfl,ro,rr,hx,hy,λl H1 s1 hl rl=>?_⟩;have f1:Frm Ds H H1:=Frm.of s1;refine⟨a,Ds,st,O.root,.tup [x,y],.int 1,.ref l,.int 1,rfl,I.same v s1,rl,kk.good,.int 1,?_⟩;refine zbT (A:=λ_=>True) (λu t s2=>OutE.on f1 _ _ (hc u t s2)) tk c9 kk ⟨⟨by decide,by decide⟩,Nat.zero_le _,by decide,by intro z;cases z⟩ hn (λ_ _=>trivial) λs2 g2 i2=>?_;intro v2 H2 f2 vr2 e2;have e2:v2=.int (putT (.tup [x,y]) (.int 1) O).root:=e2;subst e2;refine⟨szl (show 2<=1000 by decide),λl2 hl2=>?_⟩;have s3:=zh (o:=.tup [.int i,.int (putT (.tup [x,y]) (.int 1) O).root]) (Same.refl H2) hl2;exact q _ _ s2 (Did.same I ⟨f1.trans f2,vr2,g2⟩ s3) i2 (Rep.tupL zc (.cons (.int _) (.cons (.int _) .nil)))
end
end Pv
namespace Pv
open PySem L2
open Tr
noncomputable abbrev zee:Stmt:=top 87
theorem TOk.put {cs cs':QF}{T:Tr}{k w:Th}(t:TOk cs T)(st:Srt T.ps)(c9:T.cnt<=299)(kk:KeyT k)(kw:KeyT w)(iv:(putT k w T).InV cs'):TOk cs' (putT k w T)/\Srt (putT k w T).ps/\(putT k w T).cnt<=T.cnt+1:=by
 have hc:(putT k w T).cnt<=T.cnt+1:=by unfold Tr.cnt;rw[zX st];exact zpe
 refine⟨⟨iv,λp hp=>?_,by omega⟩,by rw[zX st];exact zpp st,hc⟩;rw[zX st] at hp;rcases zpC hp with hp | rfl
 ·exact t.ky p hp
 ·exact⟨kk,kw⟩
theorem zbf (T:Tr):Wf (.int T.root):=by have:=za2 T;exact⟨by omega,by omega⟩
theorem KeyT.one:KeyT (.int 1):=⟨⟨by decide,by decide⟩,Nat.zero_le _,by decide,by intro z;cases z⟩
noncomputable def RowK (j:Nat)(wo:Th):Prop:=∃rs x y,wo=.tup rs/\rs[j]? =some x/\rs[0]? =some y/\KeyT (.tup [x,y])
inductive zkp (VR:VRT) (CN CB CC:Addr) (vs:QQ) (H:Hp) (Q:L2.VK) (E:XK):Prop
 | mk (a:Addr) (D:QO) (s:Vst) (T:Tr) (x c:Str) (wo:Th) (_:vs=[.ref a,.int T.root,.str x,.str c]) (_:VR H a D s) (_:TOk s.all T) (_:Srt T.ps) (_:T.cnt<=299) (_:20000<=s.n) (_:zW x.cps.toList=true) (_:(.str x,wo)∈T.ps) (_:(tabB wo=false->∀H' s',Rdd VR a D s H H' 20000 s'->E (.ref CB) none H')) (_:(tabB wo=true->∃(cs:QP) (R:Tr) (os:List Th) (j:Nat),wo=tabG cs R.root os/\zgk cs/\TOk s.all R/\cs[j+1]? =some c/\(∀m y,m < j+1->cs[m]? =some y->y≠c)/\(¬zca cs.length R->∀H' s',Rdd VR a D s H H' 20000 s'->E (.ref CB) none H')/\(zca cs.length R->os=[]/\R.cnt<=10/\(∀p∈R.ps,RowK (j+1) p.2)/\(∀u t s',OutE VR CN CB CC a D H E (.clash u t) s')/\∀O H' s',Did VR a D s H H' 20000 s'->(putT (.str x) (tabG cs R.root [.tup [.int ((j+1:Nat):Int),.int (Tr.root O)]]) T).InV s'.all->Q (.int (putT (.str x) (tabG cs R.root [.tup [.int ((j+1:Nat):Int),.int (Tr.root O)]]) T).root) H'))):zkp VR CN CB CC vs H Q E
section
variable {P:Program}{w:World}{K:QA}{mg:QB}{base:Heap}{t1 t2 t3 t4 t5:Tok}{VR:VRT}{C CN CB CC CT CNA CNM:Addr}
theorem zro (I:VI C VR)(D:Dfn K mg "make_order" zee ["vault","root","name","column"]) (zG:FnX P w K mg base "table_at" 24 ["vault","root","name"] (zaD VR CT CB)) (zkX:FnX P w K mg base "number_of_order" 21 ["table","column"] znC) (zl5:FnX P w K mg base "rows_in" 23 ["vault","table"] (zeE VR CB)) (zqd:FnX P w K mg base "order_with" 25 ["vault","order","row"] (zjz VR CN CB CC)) (zor:Fn P w K mg base "other_orders" 1 ["table","number"] zjC) (zgL:FnX P w K mg base "put" 24 ["vault","root","key","worth"] (zbF VR CN CB CC)) (zE:mg "tuple" =none) (zar:mg "sorted" =none)
  (zP:mg "COLUMNS" =some (.int 0 t1)) (zbs:mg "ROWS" =some (.int 1 t2)):FnX P w K mg base "make_order" 26 ["vault","root","name","column"] (zkp VR CN CB CC):=by
 refine D.okX (k:=25) (L2.fsN ["vault","root","name","column","table","number","order","row","orders"]) (λf cdv A outer s0 H vs Q E hr h=>?_);obtain⟨a,Ds,st,T,x,c,wo,rfl,vr,tk,so,c9,hn,nx,hw,q1,q2⟩:=h;have ι:=0;refine⟨_,(zf (by ac_rfl)
 (zf (by ac_rfl)
 (zf (by ac_rfl)
 (zf (by ac_rfl)
 (zf (setA 8 rfl (zcw zbq (by rfl) zE (by rfl) (zA (zD (zgR) (by rfl) zar (by rfl) (zA (zdu zcS (by ac_rfl) (by ac_rfl)) zam)) zam)))
 (by ac_rfl)))))),?_⟩
 have lx:x.length<=900:=by have:=(z9 nx).1;omega
 have one:∀w',(.str x,w')∈T.ps->w'=wo:=λw' h=>by rw[<-zw so h,zw so hw]
 refine⟨_,rfl,_,rfl,_,rfl,a,Ds,st,T,x,rfl,vr,tk,so,by omega,nx,lx,λw' h z v H1 s1 rd r=>?_,λw' h z H' s' rd=>?_,λno=>Je rfl (no _ hw)⟩
 rotate_left
 ·rw[one w' h] at z;exact q1 z H' s' (rd.mono (by omega))
 rw[one w' h] at z r;obtain⟨cs,R,os,j,rfl,ok,tR,hj,hno,q3,q4⟩:=q2 z;have n1:=rd.g.n;have nc:=zcX ok.1;have c1:1<=(cs.map Th.str).length:=by rw[List.length_map];have:=(List.getElem?_eq_some_iff.mp hj).1;omega
 refine⟨_,rfl,_,rfl,v,cs,.int R.root,.tup os,c,j,rfl,r,hj,hno,λH2 s2=>?_⟩;refine⟨_,rfl,szl (show 2<=1000 by decide),λpo hpo=>?_⟩;have s3:=zh (o:=.tup [.int ((j+1:Nat):Int),.int 0]) s2 hpo;have eo:upd H2 po (.tup [.int ((j+1:Nat):Int),.int 0]) po=some (.tup [.int ((j+1:Nat):Int),.int 0]):=zc;generalize upd H2 po (.tup [.int ((j+1:Nat):Int),.int 0])=H3 at s3 eo;have rd3:=rd.same I s3;have r3:=r.keep (Same.tups s3);have ro3:Rep H3 (.tup [.int ((j+1:Nat):Int),.int (Tr.root Tr.nil)]) (.ref po):=Rep.tupL eo (.cons (.int _) (.cons (.int _) .nil));refine⟨_,rfl,_,rfl,a,Ds,s1,v,cs.map Th.str,R,.tup os,rfl,rd3.v,tR.go rd.g,by omega,r3,c1,λokr l xs H4 s4 rd4 el rl hl=>?_,λno H4 s4 rd4=>?_⟩
 rotate_left
 ·exact q3 (by rwa[List.length_map] at no) H4 s4 ((rd3.trans rd4).mono (by omega))
 rw[List.length_map] at okr;obtain⟨rfl,c10,rk,hc,q⟩:=q4 okr;have d4:Did VR a Ds st H H4 2000 s4:=((rd3.trans rd4).mono (by omega)).did;have r4:=r3.keep (I.tups rd3.v rd4.f);have ro4:=ro3.keep (I.tups rd3.v rd4.f);have hxl:xs.length=R.ps.length:=by rw[rl.len,List.length_map]
 have hx10:xs.length<=10:=by rw[hxl];exact c10
 refine⟨l,rfl,⟨_,SqL.of el⟩,?_⟩;refine za5 (xs:=xs) (λi σ H'=>∃row vo O s',σ=[some (.ref a),some (.int T.root),some (.str x),some (.str c),some v,some (.int ((j+1:Nat):Int)),some vo,row,none]/\Did VR a Ds st H H' (2000+1000 * i) s'/\TOk s'.all O/\Srt O.ps/\O.cnt<=i/\Rep H' (.tup [.int ((j+1:Nat):Int),.int (Tr.root O)]) vo/\H' l=some (.lst xs)/\RepL H' (R.ps.map (·.2)) xs/\Rep H' (tabG cs R.root []) v) ⟨_,_,Tr.nil,s4,rfl,d4,TOk.nil,List.Pairwise.nil,Nat.zero_le _,ro4,el,rl,r4⟩ ?_ ?_ ?_
 ·rintro i σ H' _ ⟨row,vo,O,s',rfl,d,tO,sO,cO,rO,el',rl',rt'⟩;exact SqL.of el'
 ·rintro i y σ H' hy ⟨row,vo,O,s',rfl,d,tO,sO,cO,rO,el',rl',rt'⟩;obtain⟨hi,ry,_⟩:=zcV rl' hy;obtain⟨pr,hpr,epr⟩:=List.mem_map.mp (Jj hi);rw[<-epr] at ry;obtain⟨rs,x0,y0,e0,hx0,hy0,kk⟩:=rk pr hpr;rw[e0] at ry;have hi':i < 10:=by have:=(List.getElem?_eq_some_iff.mp hy).1;omega
  have dn:=d.g.n;refine⟨_,rfl,_,rfl,_,rfl,a,Ds,s',vo,y,j+1,O,rs,x0,y0,rfl,d.v,tO,by omega,by omega,rO,ry,hx0,hy0,kk,λu t s2=>OutE.on d.f _ _ (hc u t s2),λv2 H5 s5 d5 iv r5=>?_⟩;obtain⟨tO',sO',cO'⟩:=tO.put sO (by omega) kk KeyT.one iv;have k5:=I.tups d.v d5.f;exact⟨_,_,_,s5,rfl,(d.trans d5).mono (by omega),tO',sO',by omega,r5,I.lst d.v d5.f el',rl'.keep k5,rt'.keep k5⟩
 ·rintro σ H' ⟨row,vo,O,s',rfl,d,tO,sO,cO,rO,el',rl',rt'⟩;have dn:=d.g.n;refine⟨_,rfl,_,rfl,v,_,.tup (cs.map Th.str),.int R.root,rfl,rt',λl1 h1=>?_⟩;have s1':=zh (o:=.lst []) (Same.refl H') h1;have e1:upd H' l1 (.lst []) l1=some (.lst []):=zc;generalize upd H' l1 (.lst [])=G1 at s1' e1;refine⟨_,rfl,szl (show 1<=1000 by decide),λl2 h2=>?_⟩;have s2':=zh (o:=.lst [vo]) s1' h2;have e1:=zh (o:=.lst [vo]) (Same.refl G1) h2 _ _ e1;have e2:upd G1 l2 (.lst [vo]) l2=some (.lst [vo]):=zc;generalize upd G1 l2 (.lst [vo])=G2 at s2' e1 e2;refine⟨l1,l2,[],[vo],rfl,rfl,e1,e2,szl (show 1<=1000 by decide),λl3 h3=>?_⟩;have s3':=zh (o:=.lst [vo]) s2' h3;have e3:upd G2 l3 (.lst [vo]) l3=some (.lst [vo]):=zc;rw[List.nil_append];generalize upd G2 l3 (.lst [vo])=G3 at s3' e3;refine⟨l3,vo,rfl,e3,λl4 h4=>?_⟩;have s4':=zh (o:=.lst [vo]) s3' h4;have e4:upd G3 l4 (.lst [vo]) l4=some (.lst [vo]):=zc;generalize upd G3 l4 (.lst [vo])=G4 at s4' e4;refine⟨l4,_,rfl,.inl ⟨SqL.of e4,λl5 h5=>?_⟩⟩;have s5':=zh (o:=.tup [vo]) s4' h5;have e5:upd G4 l5 (.tup [vo]) l5=some (.tup [vo]):=zc;generalize upd G4 l5 (.tup [vo])=G5 at s5' e5;have k5:=Same.tups s5';have rt5:=rt'.keep k5;have d5:=d.same I s5';obtain⟨p,y0,y1,y2,rfl,ep,r0,r1,r2⟩:=Rep.three rt5;cases r1;refine⟨_,rfl,_,rfl,_,rfl,_,rfl,p,_,_,_,rfl,rfl,SqT.of ep,rfl,_,rfl,p,_,_,_,rfl,rfl,SqT.of ep,rfl,_,rfl,szl (show 3<=1000 by decide),λl6 h6=>?_⟩;have s6:=zh (o:=.tup [y0,.int R.root,.ref l5]) (Same.refl G5) h6;have e6:upd G5 l6 (.tup [y0,.int R.root,.ref l5]) l6=some (.tup [y0,.int R.root,.ref l5]):=zc;generalize upd G5 l6 (.tup [y0,.int R.root,.ref l5])=G6 at s6 e6;have d6:=d5.same I s6;have rw6:Rep G6 (tabG cs R.root [.tup [.int ((j+1:Nat):Int),.int (Tr.root O)]]) (.ref l6):=
   Rep.tupL e6 (.cons (r0.keep (Same.tups s6)) (.cons (.int _) (.cons (Rep.tupL (s6 _ _ e5) (.cons ((rO.keep k5).keep (Same.tups s6)) .nil)) .nil)))
  have kx:=zba nx;have lj:=(List.getElem?_eq_some_iff.mp hj).1;have kt:KeyT (tabG cs R.root [.tup [.int ((j+1:Nat):Int),.int (Tr.root O)]]):=zbN ok (zbf R) (.inr ⟨_,_,rfl,⟨by omega,by omega⟩,zbf O⟩);refine⟨a,Ds,s',T.root,.str x,_,.str x,.ref l6,rfl,d6.v,.str x,⟨kx.wf,Nat.zero_le _,(by show 1<=80;decide)⟩,rw6,?_⟩;refine zbT (A:=λ_=>True) (λu t s2=>OutE.on d6.f _ _ (hc u t s2)) (tk.go d6.g) c9 kx kt (by omega) (λ_ _=>trivial) λs7 g7 i7=>?_;intro v7 H7 f7 vr7 e7;have e7:v7=.int (putT (.str x) (tabG cs R.root [.tup [.int ((j+1:Nat):Int),.int (Tr.root O)]]) T).root:=e7;rw[e7];exact q O H7 s7 ⟨d6.f.trans f7,vr7,(d6.g.trans g7).mono (by omega)⟩ i7
end
end Pv
namespace Pv
open PySem L2
open Tr
noncomputable abbrev ziv:Stmt:=top 92
inductive zdm (VR:VRT) (CN CB CC:Addr) (vs:QQ) (H:Hp) (Q:L2.VK) (E:XK):Prop
 | mk (a:Addr) (D:QO) (s:Vst) (T:Tr) (x:Str) (wo:Th) (cl:Addr) (ys:QQ) (k:Th) (rr:List Th) (_:vs=[.ref a,.int T.root,.str x,.ref cl]) (_:VR H a D s) (_:TOk s.all T) (_:Srt T.ps) (_:T.cnt<=299) (_:20000<=s.n) (_:zW x.cps.toList=true) (_:(.str x,wo)∈T.ps) (_:H cl=some (.lst ys)) (_:RepL H (k::rr) ys) (_:KeyT k) (_:KeyT (.tup (k::rr))) (_:(k::rr).all valB=true) (_:(tabB wo=false->∀H' s',Rdd VR a D s H H' 20000 s'->E (.ref CB) none H')) (_:(tabB wo=true->∃(cs:QP) (R:Tr) (os:List Th),wo=tabG cs R.root os/\zgk cs/\TOk s.all R/\Srt R.ps/\(k::rr).length=cs.length/\(∀w1,(k,w1)∈R.ps->rowB cs.length k w1=false->∀H' s',Rdd VR a D s H H' 20000 s'->E (.ref CB) none H')/\((∀w1,(k,w1)∈R.ps->rowB cs.length k w1=true)->os=[]/\R.cnt<=290/\(∀u t s',OutE VR CN CB CC a D H E (.clash u t) s')/\∀H' s',Did VR a D s H H' 20000 s'->(putT k (.tup (k::rr)) R).InV s'.all->(putT (.str x) (tabG cs (putT k (.tup (k::rr)) R).root []) T).InV s'.all->Q (.int (putT (.str x) (tabG cs (putT k (.tup (k::rr)) R).root []) T).root) H'))):zdm VR CN CB CC vs H Q E
section
variable {P:Program}{w:World}{K:QA}{mg:QB}{base:Heap}{t1 t2 t3 t4 t5:Tok}{VR:VRT}{C CN CB CC CT CNA CNM:Addr}
theorem zk9 (I:VI C VR)(D:Dfn K mg "put_row" ziv ["vault","root","name","row"]) (zG:FnX P w K mg base "table_at" 24 ["vault","root","name"] (zaD VR CT CB)) (zhG:Fn P w K mg base "are_values" 4 ["given","many"] (zhp K)) (zfQ:FnX P w K mg base "row_in" 24 ["vault","table","value"] (ze8 VR CB)) (zgL:FnX P w K mg base "put" 24 ["vault","root","key","worth"] (zbF VR CN CB CC)) (zE:mg "tuple" =none) (zt:mg "len" =none)
  (zP:mg "COLUMNS" =some (.int 0 t1)) (zbs:mg "ROWS" =some (.int 1 t2)) (zaP:mg "ORDERS" =some (.int 2 t3)):FnX P w K mg base "put_row" 26 ["vault","root","name","row"] (zdm VR CN CB CC):=by
 refine D.okX (k:=25) (L2.fsN ["vault","root","name","row","table","new","old","orders","rows"]) (λf cdv A outer s H vs Q E hr h=>?_);obtain⟨a,Ds,st,T,x,wo,cl,ys,k,rr,rfl,vr,tk,so,c9,hn,nx,hw,ec,ry,kk,kr,hv,q1,q2⟩:=h;have ι:=0;refine⟨_,(zf (by ac_rfl)
 (zf (zaA (by ac_rfl)
 (zx (zch zco rfl za6))
 zM)
 (zf (by ac_rfl)
 (zf (by ac_rfl)
 (zf (by ac_rfl)
 (zf (zaA (by ac_rfl)
 (zx (zfm (i:=7) (zo.two (y1:= "vault") (y2:= "old") (j1:=0) (j2:=6) (c1:=s.heap.objs.size+1) (c2:=s.heap.objs.size+3) (by rfl) (by rfl) (by decide+kernel) (by decide+kernel) (by rfl) (by decide+kernel) (by decide+kernel) (by decide+kernel) (by rfl) (by rfl) (by decide+kernel) (by rfl) (by rfl) (by first | exact Or.inl rfl | exact Or.inr rfl) (by first | exact Or.inl rfl | exact Or.inr rfl) (by first | exact Or.inl rfl | exact Or.inr rfl) (by first | exact Or.inl rfl | exact Or.inr rfl)) rfl (znB (pv 7)) (λ_ _ _=>zbH) (λ_ _ _=>za6) (zb8 rfl) rfl (Or.inl rfl) (by rfl)))
 zM)
 (zf (setA 7 rfl (zcw zbq (by rfl) zE (by rfl) (zA (zdw (zo.two (y1:= "vault") (y2:= "new") (j1:=0) (j2:=5) (c1:=s.heap.objs.size+1) (c2:=s.heap.objs.size+2) (by rfl) (by rfl) (by decide+kernel) (by decide+kernel) (by rfl) (by decide+kernel) (by decide+kernel) (by decide+kernel) (by rfl) (by rfl) (by decide+kernel) (by rfl) (by rfl) (by first | exact Or.inl rfl | exact Or.inr rfl) (by first | exact Or.inl rfl | exact Or.inr rfl) (by first | exact Or.inl rfl | exact Or.inr rfl) (by first | exact Or.inl rfl | exact Or.inr rfl)) rfl (znB (pv 7)) (λ_ _ _=>zbH) (λ_ _ _=>za6)) zam)))
 (by ac_rfl)))))))),?_⟩
 have lx:x.length<=900:=by have:=(z9 nx).1;omega
 have one:∀w',(.str x,w')∈T.ps->w'=wo:=λw' h=>by rw[<-zw so h,zw so hw]
 refine⟨_,rfl,_,rfl,_,rfl,a,Ds,st,T,x,rfl,vr,tk,so,by omega,nx,lx,λw' h z v H1 s1 rd r=>?_,λw' h z H' s' rd=>?_,λno=>Je rfl (no _ hw)⟩
 rotate_left
 ·rw[one w' h] at z;exact q1 z H' s' (rd.mono (by omega))
 rw[one w' h] at z r;obtain⟨cs,R,os,rfl,ok,tR,sR,hlen,q3,q4⟩:=q2 z;have n1:=rd.g.n;have ec1:=I.lst vr rd.f ec;have ry1:=ry.keep (I.tups vr rd.f);obtain⟨p,y0,y1,y2,rfl,ep,r0,r1,r2⟩:=r.three;cases r1;obtain⟨b,zs,rfl,eb,rb⟩:=Rep.list r0;have lz:zs.length=cs.length:=by rw[rb.len,List.length_map]
 have c1:1<=(cs.map Th.str).length:=by rw[List.length_map,<-hlen];exact Nat.succ_le_succ (Nat.zero_le _)
 have ev:(decide (((k::rr).length:Int)=(zs.length:Int)) && (k::rr).all valB)=true:=by rw[hv,Bool.and_true,lz,<-hlen];exact decide_eq_true rfl
 refine⟨_,rfl,_,rfl,p,_,_,_,rfl,rfl,SqT.of ep,rfl,b,zs,rfl,.inr (SqT.of eb),cl,ys,k::rr,_,rfl,SqL.of ec1,ry1,kr.wf.2,?_⟩;rw[ev];refine⟨_,rfl,ifF rfl ?_⟩;refine⟨_,rfl,cl,ys,rfl,.inl ⟨SqL.of ec1,λl hl=>?_⟩⟩;have s2:=zh (o:=.tup ys) (Same.refl H1) hl;have el:upd H1 l (.tup ys) l=some (.tup ys):=zc;generalize upd H1 l (.tup ys)=H2 at s2 el;have rd2:=rd.same I s2;have ry2:=ry1.keep (Same.tups s2);have rt2:=r.keep (Same.tups s2);obtain⟨yk,yr,rfl,rk2,rr2⟩:∃yk yr,ys=yk::yr/\Rep H2 k yk/\RepL H2 rr yr:=by
  cases ry2 with
  | cons a b=>exact⟨_,_,rfl,a,b⟩
 have at0:atI (yk::yr) 0=some yk:=by unfold atI ixN;rw[if_pos (by decide),if_pos (by rw[List.length_cons];omega)];rfl
 unfold zaM;dsimp only;refine zy (fun σ H'=>∃old s',σ=[some (.ref a),some (.int T.root),some (.str x),some (.ref cl),some (.ref p),some (.ref l),some old,none,none]/\Rdd VR a Ds st H H' 2000 s'/\Tups H2 H'/\os=[]/\R.cnt<=290/\(∀u t s',OutE VR CN CB CC a Ds H E (.clash u t) s')/\(old=.non\/∃t,Rep H' t old/\t≠ .non)/\
   ∀H' s',Did VR a Ds st H H' 20000 s'->(putT k (.tup (k::rr)) R).InV s'.all->(putT (.str x) (tabG cs (putT k (.tup (k::rr)) R).root []) T).InV s'.all->Q (.int (putT (.str x) (tabG cs (putT k (.tup (k::rr)) R).root []) T).root) H') (λN hN=>?_) ?_
 ·refine⟨_,rfl,_,rfl,_,rfl,l,_,_,yk,rfl,rfl,SqT.of el,at0,a,Ds,s1,.ref p,yk,cs.map Th.str,R,.tup os,k,rfl,rd2.v,tR.go rd.g,sR,by omega,rt2,rk2,by have:=kk.dp;omega,c1,λw1 h1 z1 v1 H3 s3 rd3 rv=>?_,λw1 h1 z1 H3 s3 rd3=>?_,λno H3 s3 rd3=>?_⟩
  ·rw[List.length_map] at z1;have h1s:∀w',(k,w')∈R.ps->w'=w1:=λw' h=>by rw[<-zw sR h,zw sR h1]
   obtain⟨e0,c2,hc,q⟩:=q4 λw' h'=>by rw[h1s w' h'];exact z1
   refine hN _ _ ⟨v1,s3,rfl,(rd2.trans rd3).mono (by omega),I.tups rd2.v rd3.f,e0,c2,hc,.inr ⟨w1,rv,λe=>?_⟩,q⟩;rw[e] at z1;cases z1
  ·rw[List.length_map] at z1;exact q3 w1 h1 z1 H3 s3 ((rd2.trans rd3).mono (by omega))
  ·obtain⟨e0,c2,hc,q⟩:=q4 λw' h'=>Je rfl (no _ h');exact hN _ _ ⟨.non,s3,rfl,(rd2.trans rd3).mono (by omega),I.tups rd2.v rd3.f,e0,c2,hc,.inl rfl,q⟩
 ·rintro σ H3 ⟨old,s3,rfl,rd3,k3,rfl,c2,hc,ho,q⟩;have rt3:=rt2.keep k3;obtain⟨p',y0',y1',y2',e0,ep3,r0,r1,r2⟩:=Rep.three rt3;cases e0;cases r1;obtain⟨po,os',rfl,epo,ro⟩:=Rep.list r2;cases ro;refine⟨_,rfl,p,_,_,_,rfl,rfl,SqT.of ep3,rfl,?_⟩;dsimp only;refine zy (fun σ H'=>∃q',σ=[some (.ref a),some (.int T.root),some (.str x),some (.ref cl),some (.ref p),some (.ref l),some old,some (.ref q'),none]/\Same H3 H'/\(H' q'=some (.lst [])\/H' q'=some (.tup []))) (λN hN=>?_) ?_
  ·rcases ho with rfl | ⟨t,rt,ht⟩
   ·exact⟨_,rfl,rfl,_,rfl,ifF rfl (hN _ _ ⟨po,rfl,Same.refl _,.inr epo⟩)⟩
   ·refine⟨_,rfl,rfl,_,rfl,?_⟩;rw[zaJ rt];refine ifT (by rw[decide_eq_false ht];rfl) ⟨_,rfl,po,rfl,.inr ⟨⟨_,SqT.of epo⟩,λl2 hl2=>zda ⟨[],SqT.of (zh (Same.refl H3) hl2 _ _ epo),Jb _⟩ ?_⟩⟩;exact hN _ _ ⟨l2,rfl,zh (Same.refl H3) hl2,.inl zc⟩
  rintro σ H4 ⟨q',rfl,s4,hq⟩;refine zy (fun σ H'=>∃l5,σ=[some (.ref a),some (.int T.root),some (.str x),some (.ref cl),some (.ref p),some (.ref l),some old,some (.ref l5),none]/\Same H4 H'/\H' l5=some (.tup [])) (λN hN=>?_) ?_
  ·refine⟨_,rfl,q',rfl,?_⟩;rcases hq with hq | hq
   ·exact .inl ⟨⟨_,SqL.of hq⟩,λl2 h2=>zda ⟨[],SqL.of (zh (Same.refl H4) h2 _ _ hq),Jb _⟩ ⟨l2,[],rfl,.inl ⟨SqL.of zc,λl5 h5=>hN _ _ ⟨l5,rfl,zh (zh (Same.refl H4) h2) h5,zc⟩⟩⟩⟩
   ·exact .inr ⟨⟨_,SqT.of hq⟩,λl2 h2=>zda ⟨[],SqT.of (zh (Same.refl H4) h2 _ _ hq),Jb _⟩ ⟨l2,[],rfl,.inl ⟨SqL.of zc,λl5 h5=>hN _ _ ⟨l5,rfl,zh (zh (Same.refl H4) h2) h5,zc⟩⟩⟩⟩
  rintro σ H5 ⟨l5,rfl,s5,e5⟩;have s35:Same H3 H5:=λb o e=>s5 b o (s4 b o e);have k35:=Same.tups s35;have rd5:=rd3.same I s35;have n5:=rd5.g.n;have ep5:=s35 _ _ ep3;have rk5:=(rk2.keep k3).keep k35;have rnew:Rep H5 (.tup (k::rr)) (.ref l):=((Rep.tupL el (.cons rk2 rr2)).keep k3).keep k35;obtain⟨l',vs',e',el5,_⟩:=Rep.list rnew;cases e';have ev5:vs'=yk::yr:=by have:=k35 _ _ (k3 _ _ el);rw[el5] at this;cases this;rfl
  subst ev5;have r05:=r0.keep k35;refine⟨_,rfl,_,rfl,p,_,_,_,rfl,rfl,SqT.of ep5,rfl,_,rfl,l,_,_,yk,rfl,rfl,SqT.of el5,at0,_,rfl,?_⟩;refine⟨a,Ds,s3,R.root,k,.tup (k::rr),yk,.ref l,rfl,rd5.v,rk5,kk.good,rnew,?_⟩;have tR5:=tR.go rd5.g;refine zbT (A:=λ_=>True) (λu t s2=>OutE.on rd5.f _ _ (hc u t s2)) tR5 (by omega) kk kr (by omega) (λ_ _=>trivial) λs6 g6 i6=>?_;intro v6 H6 f6 vr6 e6;have e6:v6=.int (putT k (.tup (k::rr)) R).root:=e6;subst e6;obtain⟨tR6,_,_⟩:=tR5.put sR (by omega) kk kr i6;have k6:=I.tups rd5.v f6;have d6:Did VR a Ds st H H6 3000 s6:=⟨rd5.f.trans f6,vr6,rd5.g.trans g6⟩;have n6:=d6.g.n;refine⟨_,rfl,_,rfl,_,rfl,_,rfl,p,_,_,_,rfl,rfl,SqT.of (k6 _ _ ep5),rfl,_,rfl,_,rfl,szl (show 3<=1000 by decide),λl7 h7=>?_⟩;have s7:=zh (o:=.tup [y0',.int (putT k (.tup (k::rr)) R).root,.ref l5]) (Same.refl H6) h7;have e7:upd H6 l7 (.tup [y0',.int (putT k (.tup (k::rr)) R).root,.ref l5]) l7=some (.tup [y0',.int (putT k (.tup (k::rr)) R).root,.ref l5]):=zc;generalize upd H6 l7 (.tup [y0',.int (putT k (.tup (k::rr)) R).root,.ref l5])=H7 at s7 e7;have d7:=d6.same I s7;have rw7:Rep H7 (tabG cs (putT k (.tup (k::rr)) R).root []) (.ref l7):=Rep.tupL e7 (.cons ((r05.keep k6).keep (Same.tups s7)) (.cons (.int _) (.cons (Rep.tupL (s7 _ _ (k6 _ _ e5)) .nil) .nil)));have kx:=zba nx;have kt:KeyT (tabG cs (putT k (.tup (k::rr)) R).root []):=zbN ok (zbf _) (.inl rfl);refine⟨a,Ds,s6,T.root,.str x,_,.str x,.ref l7,rfl,d7.v,.str x,kx.good,rw7,?_⟩;refine zbT (A:=λ_=>True) (λu t s2=>OutE.on d7.f _ _ (hc u t s2)) (tk.go d7.g) c9 kx kt (by omega) (λ_ _=>trivial) λs8 g8 i8=>?_;intro v8 H8 f8 vr8 e8;have e8:v8=.int (putT (.str x) (tabG cs (putT k (.tup (k::rr)) R).root []) T).root:=e8;rw[e8];exact q H8 s8 ⟨d7.f.trans f8,vr8,(d7.g.trans g8).mono (by omega)⟩ (tR6.go g8).iv i8
end
end Pv
namespace Pv
open PySem L2
open Tr
noncomputable abbrev zin:Stmt:=top 78
noncomputable abbrev zeg:Stmt:=top 88
noncomputable abbrev zim:Stmt:=top 93
inductive zjt (VR:VRT) (CB:Addr) (vs:QQ) (H:Hp) (Q:L2.VK) (E:XK):Prop
 | mk (a:Addr) (D:QO) (s:Vst) (T:Tr) (x:Str) (wo:Th) (_:vs=[.ref a,.int T.root,.str x]) (_:VR H a D s) (_:TOk s.all T) (_:Srt T.ps) (_:2000<=s.n) (_:zW x.cps.toList=true) (_:(.str x,wo)∈T.ps) (_:tabB wo=false) (_:∀H' s',Rdd VR a D s H H' 2000 s'->E (.ref CB) none H'):zjt VR CB vs H Q E
inductive zjR (VR:VRT) (CB:Addr) (vs:QQ) (H:Hp) (Q:L2.VK) (E:XK):Prop
 | mk (a:Addr) (D:QO) (s:Vst) (T:Tr) (x c:Str) (wo:Th) (_:vs=[.ref a,.int T.root,.str x,.str c]) (_:VR H a D s) (_:TOk s.all T) (_:Srt T.ps) (_:2000<=s.n) (_:zW x.cps.toList=true) (_:(.str x,wo)∈T.ps) (_:tabB wo=false) (_:∀H' s',Rdd VR a D s H H' 2000 s'->E (.ref CB) none H'):zjR VR CB vs H Q E
inductive zjJ (VR:VRT) (CB:Addr) (vs:QQ) (H:Hp) (Q:L2.VK) (E:XK):Prop
 | mk (a:Addr) (D:QO) (s:Vst) (T:Tr) (x:Str) (wo k:Th) (vk:V) (_:vs=[.ref a,.int T.root,.str x,vk]) (_:VR H a D s) (_:TOk s.all T) (_:Srt T.ps) (_:2000<=s.n) (_:zW x.cps.toList=true) (_:(.str x,wo)∈T.ps) (_:Rep H k vk) (_:dep k<=8) (_:(tabB wo=true->∃cs R os w1,wo=tabG cs (Tr.root R) os/\zgk cs/\TOk s.all R/\Srt R.ps/\(k,w1)∈R.ps/\rowB cs.length k w1=false)) (_:∀H' s',Rdd VR a D s H H' 2000 s'->E (.ref CB) none H'):zjJ VR CB vs H Q E
section
variable {P:Program}{w:World}{K:QA}{mg:QB}{base:Heap}{t1 t2 t3 t4 t5:Tok}{VR:VRT}{C CN CB CC CT CNA CNM:Addr}
theorem zpD (D:Dfn K mg "ordered" zin ["vault","root","name"]) (zG:FnX P w K mg base "table_at" 24 ["vault","root","name"] (zaD VR CT CB)) (zaP:mg "ORDERS" =some (.int 2 t1)):FnX P w K mg base "ordered" 25 ["vault","root","name"] (zjt VR CB):=by
 refine D.okX (k:=24) (L2.fsN ["vault","root","name"]) (λf cdv A outer s H vs Q E hr h=>?_);obtain⟨a,Ds,st,T,x,wo,rfl,vr,tk,so,hn,nx,hw,zb,q⟩:=h;have ι:=0;refine⟨_,(zx (zad (zdw (zo.zero (by rfl) (by decide+kernel) (by decide+kernel) (by decide+kernel) (by rfl)) rfl (zdQ (by ac_rfl)) (λ_ _ _=>zbH) (λ_ _ _=>za6)))),?_⟩;have lx:x.length<=900:=by have:=(z9 nx).1;omega
 have one:∀w',(.str x,w')∈T.ps->w'=wo:=λw' h=>by rw[<-zw so h,zw so hw]
 refine⟨_,rfl,_,rfl,_,rfl,a,Ds,st,T,x,rfl,vr,tk,so,by omega,nx,lx,λw' h z=>?_,λw' h z H' s' rd=>q H' s' (rd.mono (by omega)),λno=>Je rfl (no _ hw)⟩;rw[one w' h,zb] at z;cases z
theorem zpi (D:Dfn K mg "drop_order" zeg ["vault","root","name","column"]) (zG:FnX P w K mg base "table_at" 24 ["vault","root","name"] (zaD VR CT CB)):FnX P w K mg base "drop_order" 25 ["vault","root","name","column"] (zjR VR CB):=by
 refine D.okX (k:=24) (L2.fsN ["vault","root","name","column","table","orders"]) (λf cdv A outer s H vs Q E hr h=>?_);obtain⟨a,Ds,st,T,x,c,wo,rfl,vr,tk,so,hn,nx,hw,zb,q⟩:=h;refine⟨_,(zf (zhw (i:=4) (L2.zb8 rfl) rfl (Or.inl rfl) (zhd zG hr zeF (zA (pv 0) (zA (pv 1) (zA (pv 2) zam)))))
 zf6),?_⟩
 have lx:x.length<=900:=by have:=(z9 nx).1;omega
 have one:∀w',(.str x,w')∈T.ps->w'=wo:=λw' h=>by rw[<-zw so h,zw so hw]
 refine⟨_,rfl,_,rfl,_,rfl,a,Ds,st,T,x,rfl,vr,tk,so,by omega,nx,lx,λw' h z=>?_,λw' h z H' s' rd=>q H' s' (rd.mono (by omega)),λno=>Je rfl (no _ hw)⟩;rw[one w' h,zb] at z;cases z
theorem zpG (I:VI C VR)(D:Dfn K mg "cut_row" zim ["vault","root","name","value"]) (zG:FnX P w K mg base "table_at" 24 ["vault","root","name"] (zaD VR CT CB)) (zfQ:FnX P w K mg base "row_in" 24 ["vault","table","value"] (ze8 VR CB)):FnX P w K mg base "cut_row" 25 ["vault","root","name","value"] (zjJ VR CB):=by
 refine D.okX (k:=24) (L2.fsN ["vault","root","name","value","table","old","orders","rows"]) (λf cdv A outer s H vs Q E hr h=>?_);obtain⟨a,Ds,st,T,x,wo,k,vk,rfl,vr,tk,so,hn,nx,hw,rk,dk,qt,q⟩:=h;refine⟨_,(zf (zhw (i:=4) (L2.zb8 rfl) rfl (Or.inl rfl) (zhd zG hr zeF (zA (pv 0) (zA (pv 1) (zA (pv 2) zam)))))
 (zf (zhw (i:=5) (L2.zb8 rfl) rfl (Or.inr rfl) (zhd zfQ hr zeF (zA (pv 0) (zA (pv 4) (zA (pv 3) zam)))))
 zf6)),?_⟩
 have lx:x.length<=900:=by have:=(z9 nx).1;omega
 have one:∀w',(.str x,w')∈T.ps->w'=wo:=λw' h=>by rw[<-zw so h,zw so hw]
 refine⟨_,rfl,_,rfl,_,rfl,a,Ds,st,T,x,rfl,vr,tk,so,by omega,nx,lx,λw' h z v H1 s1 rd r=>?_,λw' h z H' s' rd=>q H' s' (rd.mono (by omega)),λno=>Je rfl (no _ hw)⟩;rw[one w' h] at z r;obtain⟨cs,R,os,w1,rfl,ok,tR,sR,h1,zb⟩:=qt z;have n1:=rd.g.n;have ks:∀w',(k,w')∈R.ps->w'=w1:=λw' h=>by rw[<-zw sR h,zw sR h1]
 have c1:1<=(cs.map Th.str).length:=by have:=ok.1;unfold zbh at this;simp only[Bool.and_eq_true,decide_eq_true_eq,List.length_map] at this;rw[List.length_map];exact this.1.1.1
 refine⟨_,rfl,_,rfl,_,rfl,a,Ds,s1,v,vk,cs.map Th.str,R,.tup os,k,rfl,rd.v,tR.go rd.g,sR,by omega,r,rk.keep (I.tups vr rd.f),dk,c1,λw' h' z'=>?_,λw' h' z' H3 s3 rd3=>q H3 s3 ((rd.trans rd3).mono (by omega)),λno=>Je rfl (no _ h1)⟩;rw[ks w' h',List.length_map,zb] at z';cases z'
end
end Pv
namespace Pv
open PySem L2
open Tr
noncomputable abbrev zcc:Stmt:=top 103
noncomputable def Giv (σ:L2.St)(H0:Hp)(te:TE)(t:Th):Prop:=∀H (Q:L2.VK),Same H0 H->(∀v H',Same H H'->Rep H' t v->Q v H')->te σ H Q
noncomputable def GivA (σ:L2.St)(H0:Hp)(ta:TA)(ts:List Th):Prop:=∀H (Q:List V->Hp->Prop),Same H0 H->(∀vs H',Same H H'->RepL H' ts vs->Q vs H')->ta σ H Q
section
variable {σ:L2.St}{H0:Hp}
theorem Giv.int (i:Int):Giv σ H0 (tC (.int i)) (.int i):=λH _ _ h=>h _ H (Same.refl H) (.int i)
theorem Giv.str (x:Str):Giv σ H0 (tC (.str x)) (.str x):=λH _ _ h=>h _ H (Same.refl H) (.str x)
theorem Giv.non:Giv σ H0 (tC .non) .non:=λH _ _ h=>h _ H (Same.refl H) .non
theorem Giv.neg (i:Int):Giv σ H0 (tUn (rU λi=>V.int (-i)) (tC (.int i))) (.int (-i)):=λH _ _ h=>⟨i,rfl,h _ H (Same.refl H) (.int _)⟩
theorem Giv.var {i:Nat}{v:V}(hi:σ[i]? =some (some v))(r:Rep H0 t v):Giv σ H0 (tVar i) t:=λH _ s h=>⟨v,hi,h v H (Same.refl H) (r.keep (Same.tups s))⟩
theorem GivA.nil:GivA σ H0 tNil []:=λH _ _ h=>h _ H (Same.refl H) .nil
theorem GivA.cons {te:TE}{ta:TA}{t:Th}{ts:List Th}(a:Giv σ H0 te t)(b:GivA σ H0 ta ts):GivA σ H0 (zaV te ta) (t::ts):=λH Q s h=>
 a H _ s λv H1 s1 r1=>b H1 _ (s.trans s1) λvs H2 s2 r2=>h (v::vs) H2 (s1.trans s2) (.cons (r1.keep (Same.tups s2)) r2)
theorem Giv.tup {ta:TA}{ts:List Th}(h:GivA σ H0 ta ts)(n:ts.length<=40:=by first | decide | (simp only[List.length_cons,List.length_nil];decide)):Giv σ H0 (tTup ta) (.tup ts):=λH Q s q=>
 h H _ s λvs H1 s1 r1=>⟨szl (show vs.length<=1000 by rw[r1.len];omega),λp hp=>by
  have s2:=zh (o:=.tup vs) (Same.refl H1) hp;exact q _ _ (s1.trans s2) (Rep.tupL zc (r1.keep (Same.tups s2)))⟩
theorem GivA.lst {ta:TA}{ts:List Th}(h:GivA σ H0 ta ts)(n:ts.length<=40){Q:L2.VK}(q:∀l vs H',Same H0 H'->H0 l=none->H' l=some (.lst vs)->RepL H' ts vs->Q (.ref l) H'):tLst ta σ H0 Q:=
 h H0 _ (Same.refl H0) λvs H1 s1 r1=>⟨szl (show vs.length<=1000 by rw[r1.len];omega),λp hp=>by
  have s2:=zh (o:=.lst vs) (Same.refl H1) hp;have h0:H0 p=none:=by
   cases z:H0 p with
   | none=>rfl
   | some o=>rw[s1 p o z] at hp;cases hp
  exact q _ _ _ (s1.trans s2) h0 zc (r1.keep (Same.tups s2))⟩
end
noncomputable def nt1:List Th:=[.int 0,.str "a",.tup [],.tup [.str "a"],.tup [.tup [.str "a"],.int 0],.tup [.tup [.str "a"],.int 0,.tup [],.int 0],.tup [.tup [],.int 0,.tup []],.tup [.tup [.str "a",.str "a"],.int 0,.tup []],.tup [.tup [.str "A"],.int 0,.tup []]]
noncomputable def nt2:List Th:=[.tup [.tup [.str "a",.str "b",.str "c",.str "d",.str "e",.str "f",.str "g"],.int 0,.tup []],.tup [.tup [.str "a"],.int (-1),.tup []],.tup [.tup [.str "a"],.str "0",.tup []]]
noncomputable def nt3:List Th:=[.tup [.tup [.str "a"],.non,.tup []]]
noncomputable def nt4:List Th:=[.tup [.tup [.str "a",.str "b"],.int 0,.tup [.tup [.int 0,.int 0]]],.tup [.tup [.str "a",.str "b"],.int 0,.tup [.tup [.int 2,.int 0]]],.tup [.tup [.str "a",.str "b",.str "c"],.int 0,.tup [.tup [.int 2,.int 0],.tup [.int 1,.int 0]]]]
noncomputable def nt5:List Th:=[.tup [.tup [.str "a",.str "b"],.int 0,.tup [.tup [.int 1,.int 0],.tup [.int 1,.int 0]]],.tup [.tup [.str "a",.str "b"],.int 0,.tup [.tup [.int 1,.int (-1)]]],.tup [.tup [.str "a",.str "b"],.int 0,.tup [.tup [.int 1]]]]
noncomputable def nt6:List Th:=[.tup [.tup [.str "a",.str "b"],.int 0,.tup [.int 1]],.tup [.str "ab",.int 0,.tup []]]
noncomputable def noTabs:List Th:=nt1++nt2++nt3++nt4++nt5++nt6
mutual
noncomputable def wfB:Th->Bool
 | .non=>true
 | .int i=>decide (-(10 ^ 30)<=i/\i<=10 ^ 30)
 | .str x=>decide (x.length<=60) && x.cps.toList.all λc=>decide (32<=c/\c<=126/\c≠37)
 | .tup ts=>decide (ts.length<=40) && wfLB ts
noncomputable def wfLB:List Th->Bool
 | []=>true
 | t::r=>wfB t && wfLB r
end
mutual
theorem zck:∀t:Th,wfB t=true->Wf t
 | .non,_=>trivial
 | .int i,h=>by have h:decide (-(10 ^ 30)<=i/\i<=10 ^ 30)=true:=h;have h2:=Jl h;exact h2
 | .str x,h=>by have h:(decide (x.length<=60) && x.cps.toList.all λc=>decide (32<=c/\c<=126/\c≠37))=true:=h;rw[Bool.and_eq_true] at h;exact⟨Jl h.1,λc hc=>Jl (Jk.mp h.2 c hc)⟩
 | .tup ts,h=>by have h:(decide (ts.length<=40) && wfLB ts)=true:=h;rw[Bool.and_eq_true] at h;exact⟨Jl h.1,zkj ts h.2⟩
theorem zkj:∀ts:List Th,wfLB ts=true->WfL ts
 | [],_=>trivial
 | t::r,h=>by have h:(wfB t && wfLB r)=true:=h;rw[Bool.and_eq_true] at h;exact⟨zck t h.1,zkj r h.2⟩
end
noncomputable def nonB:Th->Bool
 | .non=>true
 | _=>false
noncomputable def keyB (t:Th):Bool:=wfB t && decide (dep t<=3) && decide (nodes t<=20) && !nonB t
theorem zcu (h:keyB t=true):KeyT t:=by unfold keyB at h;simp only[Bool.and_eq_true,decide_eq_true_eq] at h;refine⟨zck t h.1.1.1,h.1.1.2,h.1.2,λe=>?_⟩;rw[e] at h;exact Je h.2 (by decide)
theorem zk8:∀t∈noTabs,keyB t=true/\tabB t=false:=by decide+kernel
inductive zht (vs:QQ) (H:Hp) (Q:L2.VK) (_E:XK):Prop
 | mk (row:Addr) (_:vs=[.ref row]) (_:zr H row) (_:∀(wo:Th) (v:V) (H':Hp),Rep H' wo v->KeyT wo->tabB wo=false->Frm [row] H H'->zr H' row->Q v H'):zht vs H Q _E
theorem ziJ (a:RepL H ts xs)(b:RepL H us ys):RepL H (ts++us) (xs++ys):=by
 induction a with
 | nil=>exact b
 | cons h _ ih=>exact .cons h ih
theorem zb7 {σ:L2.St}{H:Hp}{Q:L2.VK}{i:Nat}{l:Addr}{vs:QQ}(hi:σ[i]? =some (some (.ref l)))(e:H l=some (.lst vs))(r:RepL H ts vs)(n:ts.length<=100)(h:GivA σ H ta us)(n2:us.length<=40)
  (q:∀l' vs' H',Same H H'->H l'=none->H' l'=some (.lst vs')->RepL H' (ts++us) vs'->Q (.ref l') H'):tOp rCat (tVar i) (tLst ta) σ H Q:=by
 refine⟨_,hi,h.lst n2 λl2 vs2 H2 s2 _ e2 r2=>⟨l,l2,vs,vs2,rfl,rfl,s2 _ _ e,e2,szl (show vs.length+vs2.length<=1000 by rw[r.len,r2.len];omega),λl3 h3=>?_⟩⟩;have s3:=zh (o:=.lst (vs++vs2)) (Same.refl H2) h3;have h0:H l3=none:=by
  cases z:H l3 with
  | none=>rfl
  | some o=>rw[s2 _ _ z] at h3;cases h3
 exact q l3 _ _ (s2.trans s3) h0 zc (ziJ ((r.keep (Same.tups s2)).keep (Same.tups s3)) (r2.keep (Same.tups s3)))
theorem same_none {p:Addr}(s:Same H H')(h:H' p=none):H p=none:=by
 cases z:H p with
 | none=>rfl
 | some o=>rw[s _ _ z] at h;cases h
section
variable {P:Program}{w:World}{K:QA}{mg:QB}{base:Heap}
theorem zmL (D:Dfn K mg "_law_no_table" zcc ["hand"]) (zL:Fn P w K mg base "_law_draw" 1 ["hand","limit"] zaR):Fn P w K mg base "_law_no_table" 2 ["hand"] zht:=by
 refine D.ok (k:=1) (L2.fsN ["hand","some"]) (λf cdv A outer s H vs Q E hr h=>?_);obtain⟨row,rfl,hok,q⟩:=h;refine⟨_,(zf (by ac_rfl)
 (zf (setA 1 rfl (zdu zcS (pv 1) (by ac_rfl)))
 (zf (by ac_rfl)
 (zf (setA 1 rfl (zdu zcS (pv 1) (by ac_rfl)))
 (zf (setA 1 rfl (zdu zcS (pv 1) (by ac_rfl)))
 (zf (setA 1 rfl (zdu zcS (pv 1) (by ac_rfl)))
 (by ac_rfl))))))),?_⟩
 unfold tSeq tAsg zaM;dsimp only;refine GivA.lst (ts:=nt1) ?_ (by decide) λl1 vs1 H1 s1 n1 e1 r1=>?_
 ·repeat' first
   | exact GivA.nil
   | refine GivA.cons ?_ ?_
   | exact Giv.int _
   | exact Giv.neg _
   | exact Giv.str _
   | exact Giv.non
   | refine Giv.tup ?_ ?_
   | decide
 refine zb7 (ts:=nt1) (us:=nt2) rfl e1 r1 (by decide) ?_ (by decide) λl2 vs2 H2 s2 n2 e2 r2=>?_
 ·repeat' first
   | exact GivA.nil
   | refine GivA.cons ?_ ?_
   | exact Giv.int _
   | exact Giv.neg _
   | exact Giv.str _
   | exact Giv.non
   | refine Giv.tup ?_ ?_
   | decide
 have s2:=s1.trans s2;have n2:=same_none s1 n2;have ga:∀σ,GivA σ H2 (zaV (tTup (zaV (tTup (zaV (tC (V.str "a")) tNil)) (zaV (tC V.non) (zaV (tTup tNil) tNil)))) tNil) nt3:=λ_=>GivA.cons (Giv.tup (.cons (Giv.tup (.cons (Giv.str _) .nil)) (.cons Giv.non (.cons (Giv.tup .nil) .nil)))) .nil;refine⟨_,rfl,.inl ⟨rfl,_,SqL.of e2⟩,ga _ H2 _ (Same.refl _) λvs3 H3 s3 r3=>?_⟩;obtain⟨y3,rfl⟩:∃y,vs3=[y]:=by
  cases r3 with
  | cons _ b=>cases b;exact⟨_,rfl⟩
 have l2n:vs2.length=12:=r2.len;refine⟨l2,vs2,y3,rfl,rfl,s3 _ _ e2,Jf (show vs2.length < 1000 by omega) (szl (Jb _)),?_⟩;have t3:Tups H3 (upd H3 l2 (.lst (vs2++ [y3]))):=Tups.upd λxs z=>by rw[s3 _ _ e2] at z;cases z
 have r3:=(ziJ (r2.keep (Same.tups s3)) r3).keep t3;have s3:=zfO (o:=.lst (vs2++ [y3])) (s2.trans s3) n2;have e3:upd H3 l2 (.lst (vs2++ [y3])) l2=some (.lst (vs2++ [y3])):=zc;generalize upd H3 l2 (.lst (vs2++ [y3]))=G3 at s3 e3 r3;refine zb7 (us:=nt4) rfl e3 r3 (by decide) ?_ (by decide) λl4 vs4 H4 s4 n4 e4 r4=>?_
 ·repeat' first
   | exact GivA.nil
   | refine GivA.cons ?_ ?_
   | exact Giv.int _
   | exact Giv.neg _
   | exact Giv.str _
   | exact Giv.non
   | refine Giv.tup ?_ ?_
   | decide
 have n4:=same_none s3 n4;have s4:=s3.trans s4;refine zb7 (us:=nt5) rfl e4 r4 (by decide) ?_ (by decide) λl5 vs5 H5 s5 n5 e5 r5=>?_
 ·repeat' first
   | exact GivA.nil
   | refine GivA.cons ?_ ?_
   | exact Giv.int _
   | exact Giv.neg _
   | exact Giv.str _
   | exact Giv.non
   | refine Giv.tup ?_ ?_
   | decide
 have n5:=same_none s4 n5;have s5:=s4.trans s5;refine zb7 (us:=nt6) rfl e5 r5 (by decide) ?_ (by decide) λl6 vs6 H6 s6 n6 e6 r6=>?_
 ·repeat' first
   | exact GivA.nil
   | refine GivA.cons ?_ ?_
   | exact Giv.int _
   | exact Giv.neg _
   | exact Giv.str _
   | exact Giv.non
   | refine Giv.tup ?_ ?_
   | decide
 have n6:=same_none s5 n6;have s6:=s5.trans s6;have hok6:=hok.keep s6;refine⟨_,rfl,_,rfl,row,21,rfl,hok6,by decide,by decide,λi H7 i0 i1 f7 hok7=>?_⟩;have nr:l6∉ [row]:=λz=>hok.ne n6 (List.mem_singleton.mp z);have e7:=f7 l6 _ nr e6;have k7:Tups H6 H7:=λb xs e=>f7 b _ (λz=>by
  rw[List.mem_singleton.mp z] at e;obtain⟨_,_,_,h,_⟩:=hok6;rw[h] at e;cases e) e
 have r7:=r6.keep k7;have l6n:vs6.length=21:=r6.len;obtain⟨j,rfl⟩:=Int.eq_ofNat_of_zero_le i0;have hj:j < vs6.length:=by omega
 have ev:vs6[j]? =some vs6[j]:=List.getElem?_eq_getElem hj;obtain⟨hi,rv,_⟩:=zcV r7 ev;have mem:(nt1++nt2++nt3++nt4++nt5++nt6)[j]∈noTabs:=Jj hi;obtain⟨hk,hb⟩:=zk8 _ mem;refine⟨l6,vs6,_,vs6[j],rfl,rfl,SqL.of e7,?_,q _ _ _ rv (zcu hk) hb ((Frm.of s6).trans f7) hok7⟩;unfold atI ixN;rw[if_pos (Int.natCast_nonneg j),if_pos (by omega)];exact ev
end
end Pv
namespace Pv
open PySem L2
open Tr
noncomputable abbrev zc4:Stmt:=top 104
theorem sign_of (h:zaN c=true):Sign c:=by unfold zaN at h;simp only[Bool.and_eq_true,Bool.not_eq_true',decide_eq_false_iff_not,decide_eq_true_eq] at h;exact⟨h.1.1,h.1.2,h.2⟩
theorem zau (h:valB k=true):dep k=0/\nodes k=1/\k≠ .non/\Wf k:=by
 cases k with
 | int i=>have h:decide (i.natAbs<=10 ^ 12)=true:=h;have h:=Jl h;exact⟨rfl,rfl,(by intro z;cases z),by show -(10 ^ 30)<=i/\i<=10 ^ 30;omega⟩
 | str x=>
  have h:valT x.cps.toList=true:=h;unfold valT at h;simp only[Bool.and_eq_true,decide_eq_true_eq] at h;refine⟨rfl,rfl,(by intro z;cases z),?_,λc hc=>?_⟩
  ·have:=h.1.1.1;rw[Array.length_toList] at this;exact Ji this (by decide)
  ·exact sign_of (Jk.mp h.1.1.2 c hc)
 | _=>cases h
noncomputable def zjx (k o:Th):List Th:=[.int 0,.str "a",.tup [k],.tup [k,.int 1,.int 2],.tup [k,.non],.tup [k,.tup [.int 1]],.tup [k,.int 1000000000001],.tup [k,.str "'"],.tup [.tup [k],.int 1],.tup [o,.int 1]]
noncomputable def zdZ (k:Th):Th:=if eqT k (.int 0)=true then .str "0" else .int 0
theorem KeyT.val (h:valB k=true):KeyT k:=by obtain⟨a,b,c,d⟩:=zau h;exact⟨d,by omega,by omega,c⟩
theorem KeyT.tups {ts:List Th}(l:ts.length<=40)(w:WfL ts)(d:depL ts<=2)(n:zV ts<=19):KeyT (.tup ts):=
 ⟨⟨l,w⟩,by show depL ts+1<=3;omega,by show 1+zV ts<=20;omega,by intro z;cases z⟩
theorem zk6 {k:Th}(h:valB k=true):∀t∈zjx k (zdZ k),KeyT t/\rowB 2 k t=false:=by
 obtain⟨a,b,c,d⟩:=zau h;have wi:∀i:Int,wfB (.int i)=true->Wf (.int i):=λi h=>zck _ h;have k0:KeyT (.int 0):=zcu (by decide+kernel);have ka:KeyT (.str "a"):=zcu (by decide+kernel);have w1:Wf (.int 1):=zck _ (by decide+kernel);have w2:Wf (.int 2):=zck _ (by decide+kernel);have w9:Wf (.int 1000000000001):=zck _ (by decide+kernel);have wq:Wf (.str "'"):=zck _ (by decide+kernel);have v9:valB (.int 1000000000001)=false:=by decide+kernel
 have vq:valB (.str "'")=false:=by decide+kernel
 have dk:∀ts:List Th,depL (k::ts)=depL ts:=λts=>by show max (dep k) (depL ts)=depL ts;rw[a];omega
 have nk:∀ts:List Th,zV (k::ts)=1+zV ts:=λts=>by show nodes k+zV ts=1+zV ts;rw[b]
 intro t ht;simp only[zjx,List.mem_cons,List.not_mem_nil,or_false] at ht;rcases ht with rfl | rfl | rfl | rfl | rfl | rfl | rfl | rfl | rfl | rfl
 ·exact⟨k0,rfl⟩
 ·exact⟨ka,rfl⟩
 ·exact⟨.tups (by show 1<=40;decide) ⟨d,trivial⟩ (by rw[dk];decide) (by rw[nk];decide),rfl⟩
 ·exact⟨.tups (by show 3<=40;decide) ⟨d,w1,w2,trivial⟩ (by rw[dk];decide) (by rw[nk];decide),rfl⟩
 ·refine⟨.tups (by show 2<=40;decide) ⟨d,trivial,trivial⟩ (by rw[dk];decide) (by rw[nk];decide),?_⟩;show(true && ((valB k && (false && true)) && eqT k k))=false;rw[h];rfl
 ·refine⟨.tups (by show 2<=40;decide) ⟨d,⟨by show 1<=40;decide,w1,trivial⟩,trivial⟩ (by rw[dk];decide) (by rw[nk];decide),?_⟩;show(true && ((valB k && (false && true)) && eqT k k))=false;rw[h];rfl
 ·refine⟨.tups (by show 2<=40;decide) ⟨d,w9,trivial⟩ (by rw[dk];decide) (by rw[nk];decide),?_⟩;show(true && ((valB k && (valB (.int 1000000000001) && true)) && eqT k k))=false;rw[h,v9];rfl
 ·refine⟨.tups (by show 2<=40;decide) ⟨d,wq,trivial⟩ (by rw[dk];decide) (by rw[nk];decide),?_⟩;show(true && ((valB k && (valB (.str "'") && true)) && eqT k k))=false;rw[h,vq];rfl
 ·refine⟨.tups (by show 2<=40;decide) ⟨⟨by show 1<=40;decide,d,trivial⟩,w1,trivial⟩ ?_ ?_,rfl⟩
  ·show max (depL [k]+1) (max 0 0)<=2;rw[dk];decide
  ·show(1+zV [k])+(1+0)<=19;rw[nk];decide
 ·unfold zdZ;by_cases z:eqT k (.int 0)=true
  ·rw[if_pos z];have z:=(zS _ _).mp z;subst z;exact⟨zcu (by decide+kernel),by decide+kernel⟩
  ·rw[if_neg z];refine⟨zcu (by decide+kernel),?_⟩;show(true && (true && eqT (.int 0) k))=false;rw[show eqT (.int 0) k=false from by
    cases y:eqT (.int 0) k with
    | false=>rfl
    | true=>exact Je ((zS _ _).mpr ((zS _ _).mp y).symm) z]
   rfl
inductive zhi (vs:QQ) (H:Hp) (Q:L2.VK) (_E:XK):Prop
 | mk (row:Addr) (k:Th) (vk:V) (_:vs=[.ref row,vk]) (_:zr H row) (_:Rep H k vk) (_:valB k=true) (_:∀(wo:Th) (v:V) (H':Hp),Rep H' wo v->KeyT wo->rowB 2 k wo=false->Frm [row] H H'->zr H' row->Q v H'):zhi vs H Q _E
section
variable {P:Program}{w:World}{K:QA}{mg:QB}{base:Heap}
theorem zna (D:Dfn K mg "_law_no_row" zc4 ["hand","key"]) (zL:Fn P w K mg base "_law_draw" 1 ["hand","limit"] zaR) (zb1:mg "int" =none):Fn P w K mg base "_law_no_row" 2 ["hand","key"] zhi:=by
 refine D.ok (k:=1) (L2.fsN ["hand","key","some","other"]) (λf cdv A outer s H vs Q E hr h=>?_);obtain⟨row,k,vk,rfl,hok,rk,hv,q⟩:=h;refine⟨_,(zf (by ac_rfl)
 (zf (setA 3 rfl (zbA zbI (by ac_rfl) (zcw zgA (by rfl) zb1 (by rfl) (zA (zaf (zeB hr) (pv 1) zbm (zat _)) zam)) (λ_ _=>rfl)))
 (zx (zad (zbA zbI (zdu zcS (pv 2) (by ac_rfl)) (by ac_rfl) (λ_ _=>rfl)))))),?_⟩
 unfold tSeq tAsg zaM;dsimp only;have gv:Giv (L2.start ["hand","key","some","other"] [V.ref row,vk]) H (tVar 1) k:=Giv.var rfl rk;have g12:Giv (L2.start ["hand","key","some","other"] [V.ref row,vk]) H (tOp (rI0 λi j=>V.int (i+j)) (tOp (rI CPow λi j=>V.int (i ^ j.toNat)) (tC (V.int 10)) (tC (V.int 12))) (tC (V.int 1))) (.int 1000000000001):=λH1 _ _ h=>⟨_,_,rfl,rfl,p12,_,_,rfl,rfl,h _ H1 (Same.refl H1) (.int _)⟩;refine GivA.lst (ts:=[.int 0,.str "a",.tup [k],.tup [k,.int 1,.int 2],.tup [k,.non],.tup [k,.tup [.int 1]],.tup [k,.int 1000000000001],.tup [k,.str "'"],.tup [.tup [k],.int 1]]) ?_ (by show 9<=40;decide) λl1 vs1 H1 s1 n1 e1 r1=>?_
 ·exact .cons (.int _) (.cons (.str _) (.cons (.tup (.cons gv .nil)) (.cons (.tup (.cons gv (.cons (.int _) (.cons (.int _) .nil)))) (.cons (.tup (.cons gv (.cons .non .nil))) (.cons (.tup (.cons gv (.cons (.tup (.cons (.int _) .nil)) .nil))) (.cons (.tup (.cons gv (.cons g12 .nil))) (.cons (.tup (.cons gv (.cons (.str _) .nil))) (.cons (.tup (.cons (.tup (.cons gv .nil)) (.cons (.int _) .nil))) .nil))))))))
 refine⟨szl (show 2<=1000 by decide),λl2 h2=>?_⟩;have s2:=zh (o:=.lst [.int 0,.str "0"]) s1 h2;have k2:=zh (o:=.lst [.int 0,.str "0"]) (Same.refl H1) h2;have e2:upd H1 l2 (.lst [.int 0,.str "0"]) l2=some (.lst [.int 0,.str "0"]):=zc;generalize upd H1 l2 (.lst [.int 0,.str "0"])=H2 at s2 k2 e2;have dk:=(zau hv).1;refine⟨_,rfl,k,.int 0,rk.keep (Same.tups s2),.int 0,by omega,.inr ⟨_,rfl,?_⟩⟩;have ho:∃vo:V,atI [V.int 0,V.str "0"] (if eqT k (.int 0)=true then 1 else 0)=some vo/\Rep H2 (zdZ k) vo:=by
  unfold zdZ;by_cases z:eqT k (.int 0)=true
  ·rw[if_pos z,if_pos z];exact⟨_,rfl,.str _⟩
  ·rw[if_neg z,if_neg z];exact⟨_,rfl,.int _⟩
 obtain⟨vo,ev,ro⟩:=ho;refine⟨l2,_,_,vo,rfl,rfl,SqL.of e2,ev,?_⟩;refine zb7 (us:=[.tup [zdZ k,.int 1]]) rfl (k2 _ _ e1) (r1.keep (Same.tups k2)) (by show 9<=100;decide) (.cons (.tup (.cons (.var rfl ro) (.cons (.int _) .nil))) .nil) (by show 1<=40;decide) λl3 vs3 H3 s3 n3 e3 r3=>?_;have s3:=s2.trans s3;have n3:=same_none s2 n3;have hok3:=hok.keep s3;refine⟨_,rfl,row,10,rfl,hok3,by decide,by decide,λi H7 i0 i1 f7 hok7=>?_⟩;have nr:l3∉ [row]:=λz=>hok.ne n3 (List.mem_singleton.mp z);have e7:=f7 l3 _ nr e3;have k7:Tups H3 H7:=λb xs e=>f7 b _ (λz=>by
  rw[List.mem_singleton.mp z] at e;obtain⟨_,_,_,h,_⟩:=hok3;rw[h] at e;cases e) e
 have r7:=r3.keep k7;have l3n:vs3.length=10:=r3.len;obtain⟨j,rfl⟩:=Int.eq_ofNat_of_zero_le i0;have hj:j < vs3.length:=by omega
 have ev:vs3[j]? =some vs3[j]:=List.getElem?_eq_getElem hj;obtain⟨hi,rv,_⟩:=zcV r7 ev;obtain⟨hk,hb⟩:=zk6 hv _ (show _∈zjx k (zdZ k) from Jj hi);refine⟨l3,vs3,_,vs3[j],rfl,rfl,SqL.of e7,?_,q _ _ _ rv hk hb ((Frm.of s3).trans f7) hok7⟩;unfold atI ixN;rw[if_pos (Int.natCast_nonneg j),if_pos (by omega)];exact ev
end
end Pv
namespace Pv
open PySem L2
open Tr
noncomputable abbrev zes:Stmt:=top 105
inductive RefA (s:Vst) (T:Tr) (x:Str) (k:Th) (way:Nat):Prop
 | name (h:way=9) (p:Th ×Th) (hp:p∈T.ps) (hn:zcH p.1=false)
 | tab (h:way < 9) (wo:Th) (hw:(.str x,wo)∈T.ps) (hb:tabB wo=false)
 | row (h:way=2\/way=3\/way=5\/way=7\/way=8) (R:Tr) (os:List Th) (w1:Th) (hw:(.str x,tabG ["a","b"] R.root os)∈T.ps) (tR:TOk s.all R) (sR:Srt R.ps) (h1:(k,w1)∈R.ps) (hb:rowB 2 k w1=false)
inductive zfp (VR:VRT) (vs:QQ) (H:Hp) (Q:L2.VK) (E:XK):Prop
 | mk (a:Addr) (D:QO) (s:Vst) (T:Tr) (x:Str) (k:Th) (vk:V) (way:Nat) (_:vs=[.ref a,.int T.root,.str x,vk,.int way]) (_:VR H a D s) (_:TOk s.all T) (_:Srt T.ps) (_:T.cnt<=299) (_:20000<=s.n) (_:zW x.cps.toList=true) (_:Rep H k vk) (_:valB k=true) (_:RefA s T x k way) (_:∀H' s',Rdd VR a D s H H' 20000 s'->Q (.bl true) H'):zfp VR vs H Q E
structure AskK (K:QA)(CV CB:Addr)(ts us:QN):Prop where
 kd:zkD K CB
 em:PySem.W.exmOne K (.ref CB) (.ref CB)=some true
 k1:PySem.W.kitOne K (.ref CB) (.ref CB)=some true
 k2:PySem.W.kitOne K (.ref CB) (.ref CV)=some true
 k3:PySem.W.kitOne K (.ref CB) (.type "ValueError")=some true
 k4:PySem.W.kitAny K (.ref CB) ts=some false
 k5:PySem.W.kitAny K (.ref CB) us=some false
theorem tryM {tb:(L2.St->XK)->TS}{D:Ends}{σ:L2.St}{H:Hp}{CB:Addr}(Pe:L2.St->Hp->Prop)(h1:∀E:L2.St->XK,(∀σ' H',Pe σ' H'->E σ' (.ref CB) none H')->tb E D σ H)(h2:∀σ' H',Pe σ' H'->zhq K cv i ts D σ' (.ref CB) none H'):znk K cv i tb ts D σ H:=h1 _ h2
theorem ab_b:∀(m:Nat) (y:Str),m < 0+1->(["a","b"]:QP)[m]? =some y->y≠ "b" :=λm y hm h=>by cases (show m=0 by omega);cases h;decide+kernel
theorem zcL:zgk ["a","b"]:=⟨by decide+kernel,by decide+kernel⟩
section
variable {P:Program}{w:World}{K:QA}{mg:QB}{base:Heap}{VR:VRT}{C CN CB CC CT CV:Addr}
theorem zpw (I:VI C VR)(D:Dfn K mg "_law_asked" zes ["vault","root","name","value","way"]) (zhH:FnX P w K mg base "columns_of" 25 ["vault","root","name"] (zhe VR CT CB)) (zsO:FnX P w K mg base "ordered" 25 ["vault","root","name"] (zjt VR CB)) (zl6:FnX P w K mg base "rows_of" 25 ["vault","root","name"] (zcB VR CB)) (zos:FnX P w K mg base "row_at" 25 ["vault","root","name","value"] (zdg VR CB)) (zG:FnX P w K mg base "table_at" 24 ["vault","root","name"] (zaD VR CT CB)) (zhI:FnX P w K mg base "make_order" 26 ["vault","root","name","column"] (zkp VR CN CB CC))
  (zqe:FnX P w K mg base "drop_order" 25 ["vault","root","name","column"] (zjR VR CB)) (zl7:FnX P w K mg base "put_row" 26 ["vault","root","name","row"] (zdm VR CN CB CC)) (zsP:FnX P w K mg base "cut_row" 25 ["vault","root","name","value"] (zjJ VR CB)) (zqf:FnX P w K mg base "names" 23 ["vault","root"] (zdp VR CB))
  {cClash cNoColumn cNoName cNoPaper cNoPlan cNoQuestion cNoRow cNoState cNoStep cNoTable cNotSo:Addr} (ak:AskK K CV CB [.ref cClash,.ref cNoColumn,.ref cNoName,.ref cNoPaper,.ref cNoPlan,.ref cNoQuestion,.ref cNoRow,.ref cNoState] [.ref cNoStep,.ref cNoTable,.ref cNotSo])
  (zdD:mg "Clash" =some (.ref cClash)) (zfR:mg "NoColumn" =some (.ref cNoColumn)) (ziU:mg "NoName" =some (.ref cNoName)) (zgM:mg "NoPaper" =some (.ref cNoPaper)) (ziV:mg "NoPlan" =some (.ref cNoPlan)) (zdE:mg "NoQuestion" =some (.ref cNoQuestion)) (zkY:mg "NoRow" =some (.ref cNoRow)) (zgN:mg "NoState" =some (.ref cNoState)) (ziW:mg "NoStep" =some (.ref cNoStep)) (zbE:mg "NoTable" =some (.ref cNoTable)) (zkZ:mg "NotSo" =some (.ref cNotSo)) (zcZ:mg "BadThing" =some (.ref CB)) (zdF:mg "VaultError" =some (.ref CV))
  (zk:mg "isinstance" =none) (zdG:mg "ValueError" =none):Fn P w K mg base "_law_asked" 27 ["vault","root","name","value","way"] (zfp VR):=by
 refine D.ok (k:=26) (L2.fsN ["vault","root","name","value","way","caught","e"]) (λf cdv A outer s H vs Q E hr h=>?_);obtain⟨a,Ds,st,T,x,k,vk,way,rfl,vr,tk,so,c9,hn,nx,rk,hv,ra,q⟩:=h;refine⟨_,(zf (by ac_rfl)
 (zf (ziO (i:=6) rfl rfl (zb8 rfl) rfl rfl (by rfl) zcZ (λxe pn E hx=>(by ac_rfl)) (λe=>(by ac_rfl)))
 (zf (zaA (zhx (zD (zap (K:=K) rfl) (by rfl) zk (by rfl) (by ac_rfl)))
 (by ac_rfl)
 zM)
 (zf (zaA (zhx (zD (zap (K:=K) rfl) (by rfl) zk (by rfl) (by ac_rfl)))
 (by ac_rfl)
 zM)
 (zx (zad (za1 (zD (zap (K:=K) rfl) (by rfl) zk (by rfl) (by ac_rfl)) (za1 (zD (zap (K:=K) rfl) (by rfl) zk (by rfl) (by ac_rfl)) (zcd (zD (zap (K:=K) rfl) (by rfl) zk (by rfl) (by ac_rfl))))))))))),?_⟩
 have lx:x.length<=900:=by have:=(z9 nx).1;omega
 have dk:=(zau hv).1;have kp:KeyT (.tup [k,.int 1]):=.tups (by show 2<=40;decide) ⟨(zau hv).2.2.2,zck _ (by decide+kernel),trivial⟩ (by show max (dep k) (max 0 0)<=2;omega) (by show nodes k+(1+0)<=19;have:=(zau hv).2.1;omega);refine zy (fun σ' H'=>σ'=[some (.ref a),some (.int T.root),some (.str x),some vk,some (.int way),some .non,none]/\H'=H) (λN hN=>hN _ _ ⟨rfl,rfl⟩) ?_;rintro _ H' ⟨rfl,hH⟩;rw[hH];clear hH H';refine zy (fun σ H1=>∃e s',σ=[some (.ref a),some (.int T.root),some (.str x),some vk,some (.int way),some (.ref e),none]/\Rdd VR a Ds st H H1 20000 s'/\H1 e=some (exO e CB none false)) (λN hN=>?_) ?_
 ·refine tryM (CB:=CB) (fun σ' H'=>σ'=[some (.ref a),some (.int T.root),some (.str x),some vk,some (.int way),some .non,none]/\∃s',Rdd VR a Ds st H H' 20000 s') (λE up=>?_) ?_
  ·have up:∀H' s',Rdd VR a Ds st H H' 20000 s'->E [some (.ref a),some (.int T.root),some (.str x),some vk,some (.int way),some .non,none] (.ref CB) none H':=λH' s' rd=>up _ H' ⟨rfl,s',rd⟩;cases ra with
   | name h p hp hn'=>
    subst h
    iterate 9 (refine⟨_,rfl,rfl,_,rfl,?_⟩;rw[zu];refine ifF (decide_eq_false (by decide)) ?_)
    refine⟨_,rfl,_,rfl,a,Ds,st,T,rfl,vr,tk,by omega,λns nm=>?_,λ_ _ _ H' s' rd=>up H' s' (rd.mono (by omega))⟩;have m:p.1∈ns.map Th.str:=by rw[<-nm.ks];exact Jn hp
    obtain⟨y,hy,ey⟩:=List.mem_map.mp m;rw[<-ey,show zcH (.str y)=true from(nm.nm y hy).1] at hn';cases hn'
   | tab h wo hw hb=>
    have nb:¬tabB wo=true:=by rw[hb];decide
    have one:∀w',(.str x,w')∈T.ps->w'=wo:=λw' h=>by rw[<-zw so h,zw so hw]
    have hz:way=0\/way=1\/way=2\/way=3\/way=4\/way=5\/way=6\/way=7\/way=8:=by omega
    rcases hz with rfl | rfl | rfl | rfl | rfl | rfl | rfl | rfl | rfl
    ·refine⟨_,rfl,rfl,_,rfl,?_⟩;rw[zu];refine ifT (decide_eq_true rfl) ?_;exact⟨_,rfl,_,rfl,_,rfl,a,Ds,st,T,x,wo,rfl,vr,tk,so,by omega,nx,lx,hw,λ_ _ _ _ z=>Je z nb,λ_ H' s' rd=>up H' s' (rd.mono (by omega))⟩
    ·iterate 1 (refine⟨_,rfl,rfl,_,rfl,?_⟩;rw[zu];refine ifF (decide_eq_false (by decide)) ?_)
     refine⟨_,rfl,rfl,_,rfl,?_⟩;rw[zu];refine ifT (decide_eq_true rfl) ?_;exact⟨_,rfl,_,rfl,_,rfl,a,Ds,st,T,x,wo,rfl,vr,tk,so,by omega,nx,hw,hb,λH' s' rd=>up H' s' (rd.mono (by omega))⟩
    ·iterate 2 (refine⟨_,rfl,rfl,_,rfl,?_⟩;rw[zu];refine ifF (decide_eq_false (by decide)) ?_)
     refine⟨_,rfl,rfl,_,rfl,?_⟩;rw[zu];refine ifT (decide_eq_true rfl) ?_;exact⟨_,rfl,_,rfl,_,rfl,a,Ds,st,T,x,wo,rfl,vr,tk,so,by omega,nx,lx,hw,λz=>Je z nb,λ_ H' s' rd=>up H' s' (rd.mono (by omega))⟩
    ·iterate 3 (refine⟨_,rfl,rfl,_,rfl,?_⟩;rw[zu];refine ifF (decide_eq_false (by decide)) ?_)
     refine⟨_,rfl,rfl,_,rfl,?_⟩;rw[zu];refine ifT (decide_eq_true rfl) ?_;exact⟨_,rfl,_,rfl,_,rfl,_,rfl,a,Ds,st,T,x,wo,k,vk,rfl,vr,tk,so,by omega,nx,lx,hw,rk,by omega,λz=>Je z nb,λ_ H' s' rd=>up H' s' (rd.mono (by omega))⟩
    ·iterate 4 (refine⟨_,rfl,rfl,_,rfl,?_⟩;rw[zu];refine ifF (decide_eq_false (by decide)) ?_)
     refine⟨_,rfl,rfl,_,rfl,?_⟩;rw[zu];refine ifT (decide_eq_true rfl) ?_;exact⟨_,rfl,_,rfl,_,rfl,a,Ds,st,T,x,rfl,vr,tk,so,by omega,nx,lx,λw' h z=>Je z (by rw[one w' h];exact nb),λ_ _ _ H' s' rd=>up H' s' (rd.mono (by omega)),λno=>Je rfl (no _ hw)⟩
    ·iterate 5 (refine⟨_,rfl,rfl,_,rfl,?_⟩;rw[zu];refine ifF (decide_eq_false (by decide)) ?_)
     refine⟨_,rfl,rfl,_,rfl,?_⟩;rw[zu];refine ifT (decide_eq_true rfl) ?_;exact⟨_,rfl,_,rfl,_,rfl,a,Ds,st,T,x,_,wo,rfl,vr,tk,so,c9,by omega,nx,hw,λ_ H' s' rd=>up H' s' rd,λz=>Je z nb⟩
    ·iterate 6 (refine⟨_,rfl,rfl,_,rfl,?_⟩;rw[zu];refine ifF (decide_eq_false (by decide)) ?_)
     refine⟨_,rfl,rfl,_,rfl,?_⟩;rw[zu];refine ifT (decide_eq_true rfl) ?_;exact⟨_,rfl,_,rfl,_,rfl,a,Ds,st,T,x,_,wo,rfl,vr,tk,so,by omega,nx,hw,hb,λH' s' rd=>up H' s' (rd.mono (by omega))⟩
    ·iterate 7 (refine⟨_,rfl,rfl,_,rfl,?_⟩;rw[zu];refine ifF (decide_eq_false (by decide)) ?_)
     refine⟨_,rfl,rfl,_,rfl,?_⟩;rw[zu];refine ifT (decide_eq_true rfl) ?_;refine⟨_,rfl,_,rfl,_,rfl,_,rfl,szl (show 2<=1000 by decide),λl hl=>?_⟩;have s1:=zh (o:=.lst [vk,.int 1]) (Same.refl H) hl;exact⟨a,Ds,st,T,x,wo,l,_,k,[.int 1],rfl,I.same vr s1,tk,so,c9,by omega,nx,hw,zc,.cons (rk.keep (Same.tups s1)) (.cons (.int 1) .nil),.val hv,kp,by show(valB k && (true && true))=true;rw[hv];rfl,λ_ H' s' rd=>up H' s' ⟨(Frm.of s1).trans rd.f,rd.v,rd.g,rd.o⟩,λz=>Je z nb⟩
    ·iterate 8 (refine⟨_,rfl,rfl,_,rfl,?_⟩;rw[zu];refine ifF (decide_eq_false (by decide)) ?_)
     refine⟨_,rfl,rfl,_,rfl,?_⟩;rw[zu];refine ifT (decide_eq_true rfl) ?_;exact⟨_,rfl,_,rfl,_,rfl,_,rfl,a,Ds,st,T,x,wo,k,vk,rfl,vr,tk,so,by omega,nx,hw,rk,by omega,λz=>Je z nb,λH' s' rd=>up H' s' (rd.mono (by omega))⟩
   | row h R os w1 hw tR sR h1 hb=>
    have uq:∀w',(.str x,w')∈T.ps->w'=tabG ["a","b"] R.root os:=λw' h=>by rw[<-zw so h,zw so hw]
    have u1:∀w',(k,w')∈R.ps->w'=w1:=λw' h=>by rw[<-zw sR h,zw sR h1]
    have nb:¬rowB 2 k w1=true:=by rw[hb];decide
    have no:¬zca 2 R:=λz=>nb (z _ h1);rcases h with rfl | rfl | rfl | rfl | rfl
    ·iterate 2 (refine⟨_,rfl,rfl,_,rfl,?_⟩;rw[zu];refine ifF (decide_eq_false (by decide)) ?_)
     refine⟨_,rfl,rfl,_,rfl,?_⟩;rw[zu];refine ifT (decide_eq_true rfl) ?_;exact⟨_,rfl,_,rfl,_,rfl,a,Ds,st,T,x,_,rfl,vr,tk,so,by omega,nx,lx,hw,λ_=>⟨_,R,_,rfl,tR,λz=>Je z no,λ_ H' s' rd=>up H' s' (rd.mono (by omega))⟩,λ_ H' s' rd=>up H' s' (rd.mono (by omega))⟩
    ·iterate 3 (refine⟨_,rfl,rfl,_,rfl,?_⟩;rw[zu];refine ifF (decide_eq_false (by decide)) ?_)
     refine⟨_,rfl,rfl,_,rfl,?_⟩;rw[zu];refine ifT (decide_eq_true rfl) ?_;exact⟨_,rfl,_,rfl,_,rfl,_,rfl,a,Ds,st,T,x,_,k,vk,rfl,vr,tk,so,by omega,nx,lx,hw,rk,by omega,λ_=>⟨_,R,_,rfl,tR,sR,λw' h' z=>Je z (by rw[u1 w' h'];exact nb),λ_ _ _ H' s' rd=>up H' s' (rd.mono (by omega)),λz=>Je rfl (z _ h1)⟩,λ_ H' s' rd=>up H' s' (rd.mono (by omega))⟩
    ·iterate 5 (refine⟨_,rfl,rfl,_,rfl,?_⟩;rw[zu];refine ifF (decide_eq_false (by decide)) ?_)
     refine⟨_,rfl,rfl,_,rfl,?_⟩;rw[zu];refine ifT (decide_eq_true rfl) ?_;exact⟨_,rfl,_,rfl,_,rfl,a,Ds,st,T,x,_,_,rfl,vr,tk,so,c9,by omega,nx,hw,λ_ H' s' rd=>up H' s' rd,λ_=>⟨["a","b"],R,os,0,rfl,zcL,tR,rfl,ab_b,λ_ H' s' rd=>up H' s' rd,λz=>Je z no⟩⟩
    ·iterate 7 (refine⟨_,rfl,rfl,_,rfl,?_⟩;rw[zu];refine ifF (decide_eq_false (by decide)) ?_)
     refine⟨_,rfl,rfl,_,rfl,?_⟩;rw[zu];refine ifT (decide_eq_true rfl) ?_;refine⟨_,rfl,_,rfl,_,rfl,_,rfl,szl (show 2<=1000 by decide),λl hl=>?_⟩;have s1:=zh (o:=.lst [vk,.int 1]) (Same.refl H) hl;have up':∀H' s',Rdd VR a Ds st _ H' 20000 s'->E _ (.ref CB) none H':=λH' s' rd=>up H' s' ⟨(Frm.of s1).trans rd.f,rd.v,rd.g,rd.o⟩;exact⟨a,Ds,st,T,x,_,l,_,k,[.int 1],rfl,I.same vr s1,tk,so,c9,by omega,nx,hw,zc,.cons (rk.keep (Same.tups s1)) (.cons (.int 1) .nil),.val hv,kp,by show(valB k && (true && true))=true;rw[hv];rfl,λ_ H' s' rd=>up' H' s' rd,λ_=>⟨["a","b"],R,os,rfl,zcL,tR,sR,rfl,λ_ _ _ H' s' rd=>up' H' s' rd,λz=>Je (z _ h1) nb⟩⟩
    ·iterate 8 (refine⟨_,rfl,rfl,_,rfl,?_⟩;rw[zu];refine ifF (decide_eq_false (by decide)) ?_)
     refine⟨_,rfl,rfl,_,rfl,?_⟩;rw[zu];refine ifT (decide_eq_true rfl) ?_;exact⟨_,rfl,_,rfl,_,rfl,_,rfl,a,Ds,st,T,x,_,k,vk,rfl,vr,tk,so,by omega,nx,hw,rk,by omega,λ_=>⟨_,R,os,w1,rfl,zcL,tR,sR,h1,hb⟩,λH' s' rd=>up H' s' (rd.mono (by omega))⟩
  ·rintro σ' H' ⟨rfl,s',rd⟩;refine⟨CB,rfl,ak.em,λe he=>?_⟩;exact⟨_,rfl,hN _ _ ⟨e,s',rfl,rd.same I (zh (Same.refl H') he),zc⟩⟩
 ·rintro σ H1 ⟨e,s',rfl,rd,ee⟩;have ho:∀H':Hp,∀d,(none:QM)=some d->∃l,H' d=some (xdO d l):=λH' d z=>by cases z
  refine⟨_,rfl,szl (show 8<=1000 by decide),λp hp=>?_⟩;generalize hts:[V.ref cClash,.ref cNoColumn,.ref cNoName,.ref cNoPaper,.ref cNoPlan,.ref cNoQuestion,.ref cNoRow,.ref cNoState]=ts;have s2:=zh (o:=.tup ts) (Same.refl H1) hp;have et:upd H1 p (.tup ts) p=some (.tup ts):=zc;generalize upd H1 p (.tup ts)=H2 at et s2;refine⟨e,CB,none,false,_,false,rfl,s2 _ _ ee,ak.kd,ho _,?_,.inr (.inr ⟨p,ts,rfl,et,?_,?_⟩)⟩
  rotate_left
  ·intro v hv;rw[<-hts] at hv;simp only[List.mem_cons,List.not_mem_nil,or_false] at hv;rcases hv with rfl | rfl | rfl | rfl | rfl | rfl | rfl | rfl <;> exact .inr ⟨_,rfl⟩
  ·rw[<-hts];exact ak.k4
  refine⟨_,rfl,ifF rfl ?_⟩;refine⟨_,rfl,szl (show 3<=1000 by decide),λp3 hp3=>?_⟩;generalize hus:[V.ref cNoStep,.ref cNoTable,.ref cNotSo]=us;have s3:=zh (o:=.tup us) s2 hp3;have eu:upd H2 p3 (.tup us) p3=some (.tup us):=zc;generalize upd H2 p3 (.tup us)=H3 at eu s3;refine⟨e,CB,none,false,_,false,rfl,s3 _ _ ee,ak.kd,ho _,?_,.inr (.inr ⟨p3,us,rfl,eu,?_,?_⟩)⟩
  rotate_left
  ·intro v hv;rw[<-hus] at hv;simp only[List.mem_cons,List.not_mem_nil,or_false] at hv;rcases hv with rfl | rfl | rfl <;> exact .inr ⟨_,rfl⟩
  ·rw[<-hus];exact ak.k5
  refine⟨_,rfl,ifF rfl ?_⟩;refine⟨_,rfl,e,CB,none,false,_,true,rfl,s3 _ _ ee,ak.kd,ho _,?_,.inr (.inl ⟨_,rfl,ak.k1⟩)⟩;refine⟨_,rfl,ifT rfl ?_⟩;refine⟨_,rfl,e,CB,none,false,_,true,rfl,s3 _ _ ee,ak.kd,ho _,?_,.inr (.inl ⟨_,rfl,ak.k2⟩)⟩;refine⟨_,rfl,ifT rfl ?_⟩;exact⟨_,rfl,e,CB,none,false,_,true,rfl,s3 _ _ ee,ak.kd,ho _,q _ s' (rd.same I s3),.inl ⟨_,rfl,ak.k3⟩⟩
end
end Pv
namespace Pv
open PySem L2
open Tr
theorem VK.back (v:VK C H a D s)(v':VK C H' a D s')(o:s'.own=s.own):VK C H' a D s:=by obtain⟨⟨d,e,vs⟩,k,r⟩:=v';exact⟨⟨d,e,o ▸ vs⟩,v.kp,v.rm⟩
theorem VK.oth {H':Hp}{m:Addr}{o':HO}(v:VK C H a D s)(f:∀b o,b≠m->H b=some o->H' b=some o)(e:H m=some o')(h1:∀xs,o'≠ .tup xs)(h2:∀c x fs,o'≠ .ins c x fs)(n:m∉D):VK C H' a D s:=by obtain⟨⟨d,rfl,⟨⟨kv,⟨⟨dx,fs,ea,fl⟩,ed⟩,dr⟩,gc⟩⟩,k,r⟩:=v;have tk:Tups H H':=λb xs z=>f b _ (zal z e (λy=>h1 _ y.symm)) z;exact⟨⟨d,rfl,⟨⟨kv,⟨⟨dx,fs,f _ _ (zal ea e (λy=>h2 _ _ _ y.symm)) ea,fl⟩,f _ _ (λz=>n (by rw[z];exact List.mem_singleton_self _)) ed⟩,dr.keep tk⟩,gc⟩⟩,k,r⟩
noncomputable def keyT:Key->Th
 | .inl i=>.int i
 | .inr x=>.str x
theorem zdd (H:Hp):∀k:Key,Rep H (keyT k) (kV k)
 | .inl i=>.int i
 | .inr x=>.str x
theorem ziN:∀{a b:Key},keyT a=keyT b->a=b
 | .inl _,.inl _,h=>by cases h;rfl
 | .inr _,.inr _,h=>by cases h;rfl
 | .inl _,.inr _,h=>by cases h
 | .inr _,.inl _,h=>by cases h
theorem zo2 (h:valB k=true)(r:Rep H k v):∃key,k=keyT key/\v=kV key:=by
 cases k with
 | int i=>cases r;exact⟨.inl i,rfl,rfl⟩
 | str x=>cases r;exact⟨.inr x,rfl,rfl⟩
 | _=>cases h
theorem zi8 {ps:QH}{x w:Th}(hs:Srt ps)(h:∃w',(x,w')∈ps):(insP ps x w).map (·.1)=ps.map (·.1):=by obtain⟨w',hw⟩:=h;obtain⟨A,B,rfl⟩:=List.append_of_mem hw;obtain⟨_,h2,h3⟩:=List.pairwise_append.mp hs;rw[zgo (λp hp=>h3 p hp _ List.mem_cons_self) (List.pairwise_cons.mp h2).1,List.map_append,List.map_append];rfl
theorem zpB {ps:QH}{x w:Th}(h:∀p∈ps,p.1≠x):(insP ps x w).length=ps.length+1:=by
 unfold insP;rw[List.length_append,List.length_cons,zmU h];have:∀qs:List (Th ×Th),(lo qs x).length+(hiE qs x).length=qs.length:=λqs=>by
  induction qs with
  | nil=>rfl
  | cons q qs ih=>
   unfold lo hiE at ih ⊢;rw[List.filter_cons,List.filter_cons];cases zd q.1 x with
   | true=>show(q::qs.filter _).length+(qs.filter _).length=_;rw[List.length_cons,List.length_cons];omega
   | false=>show(qs.filter _).length+(q::qs.filter _).length=_;rw[List.length_cons,List.length_cons];omega
 have:=this ps;omega
theorem zI {ps:QH}{x w:Th}{p:Th ×Th}:p∈insP ps x w↔(p∈ps/\p.1≠x)\/p=(x,w):=by
 unfold insP;rw[List.mem_append,List.mem_cons];constructor
 ·rintro(h | h | h)
  ·have:=Jo.mp h;exact .inl ⟨this.1,λe=>by rw[e,zT] at this;cases this.2⟩
  ·exact .inr h
  ·have:=Jo.mp h;exact .inl ⟨this.1,λe=>by rw[e,zT] at this;cases this.2⟩
 ·rintro(⟨h,n⟩ | h)
  ·cases z:zd p.1 x with
   | true=>exact .inl (Jo.mpr ⟨h,z⟩)
   | false=>exact .inr (.inr (Jo.mpr ⟨h,zcj z n⟩))
  ·exact .inr (.inl h)
theorem zmE [DecidableEq κ]{kvs:List (κ ×V)}{k:κ}{u:V}(v:V)(h:valV kvs k=some u):(putK kvs k v).length=kvs.length/\(putK kvs k v).map (·.1)=kvs.map (·.1):=by unfold putK;rw[if_pos (by rw[za7,h];rfl)];refine⟨List.length_map _,?_⟩;rw[List.map_map];refine List.map_congr_left λp _=>?_;show(if p.1=k then(p.1,v) else p).1=p.1;split <;> rfl
structure zb5 (H:Hp)(rk:QG)(R:Tr):Prop where
 ln:rk.length=R.cnt
 vl:∀key v,valV rk key=some v->∃w,(keyT key,w)∈R.ps/\Rep H w v
 no:∀key,valV rk key=none->∀p∈R.ps,p.1≠keyT key
theorem zb5.keep (h:zb5 H rk R)(k:Tups H H'):zb5 H' rk R:=
 ⟨h.ln,λkey v e=>let ⟨w,a,b⟩:=h.vl key v e;⟨w,a,b.keep k⟩,h.no⟩
theorem zb5.nil:zb5 H [] Tr.nil:=⟨rfl,λ_ _ h=>(by cases h),λ_ _ p h=>(by cases h)⟩
theorem zb5.put (h:zb5 H rk R)(hs:Srt R.ps)(k:Tups H H')(r:Rep H' w v):zb5 H' (putK rk key v) (putT (keyT key) w R):=by
 have h:=h.keep k;refine⟨?_,λj u e=>?_,λj e p hp=>?_⟩
 ·have hl:=h.ln;unfold Tr.cnt at hl ⊢;rw[zX hs];cases z:valV rk key with
  | none=>rw[zdo v z,zpB (h.no key z),List.length_append,hl];rfl
  | some u=>
   have:=congrArg List.length (zi8 (w:=w) hs (let ⟨w,a,_⟩:=h.vl key u z;⟨w,a⟩))
   rw[List.length_map,List.length_map] at this;rw[(zmE v z).1,this,hl]
 ·rw[zit] at e;rw[zX hs];by_cases c:j=key
  ·rw[if_pos c] at e;cases e;exact⟨w,zI.mpr (.inr (by rw[c])),r⟩
  ·rw[if_neg c] at e;obtain⟨w',a,b⟩:=h.vl j u e;exact⟨w',zI.mpr (.inl ⟨a,λz=>c (ziN z)⟩),b⟩
 ·rw[zit] at e;by_cases c:j=key
  ·rw[if_pos c] at e;cases e
  ·rw[if_neg c] at e;rw[zX hs] at hp;rcases zI.mp hp with ⟨a,_⟩ | rfl
   ·exact h.no j e p a
   ·exact λz=>c (ziN z).symm
structure zbc (s:Vst)(R:Tr):Prop where
 tk:TOk s.all R
 st:Srt R.ps
 ok:zca 2 R
theorem zbc.go (h:zbc s R)(g:Go A j s s'):zbc s' R:=⟨h.tk.go g,h.st,h.ok⟩
theorem zbc.nil:zbc s Tr.nil:=⟨TOk.nil,List.Pairwise.nil,λp h=>(by cases h)⟩
theorem zp1 (hk:valB k=true)(hy:valB y=true):rowB 2 k (.tup [k,y])=true:=by show(true && ((valB k && (valB y && true)) && eqT k k))=true;rw[hk,hy,(zS k k).mpr rfl];rfl
theorem zkV (h:rowB 2 k w=true):∃y,w=.tup [k,y]/\valB k=true/\valB y=true:=by
 match w,h with
 | .tup [a,b],h=>have h:(true && ((valB a && (valB b && true)) && eqT a k))=true:=h;simp only[Bool.and_eq_true] at h;have e:=(zS _ _).mp h.2.2;subst e;exact⟨b,rfl,h.2.1.1,h.2.1.2.1⟩
theorem KeyT.two (hk:valB k=true)(hy:valB y=true):KeyT (.tup [k,y]):=by obtain⟨a,b,_,d⟩:=zau hk;obtain⟨a',b',_,d'⟩:=zau hy;exact .tups (by show 2<=40;decide) ⟨d,d',trivial⟩ (by show max (dep k) (max (dep y) 0)<=2;omega) (by show nodes k+(nodes y+0)<=19;omega)
theorem zbc.put {s':Vst}(h:zbc s R)(hk:valB k=true)(hy:valB y=true)(c9:R.cnt<=299)(iv:(putT k (.tup [k,y]) R).InV s'.all):zbc s' (putT k (.tup [k,y]) R)/\(putT k (.tup [k,y]) R).cnt<=R.cnt+1:=by
 obtain⟨a,b,c⟩:=h.tk.put h.st c9 (.val hk) (.two hk hy) iv;refine⟨⟨a,b,λp hp=>?_⟩,c⟩;rw[zX h.st] at hp;rcases zI.mp hp with ⟨q,_⟩ | rfl
 ·exact h.ok p q
 ·exact zp1 hk hy
theorem zbc.rowK {R:Tr}(h:zbc s R):∀p∈R.ps,RowK 1 p.2:=λp hp=>by obtain⟨y,e,hk,hy⟩:=zkV (h.ok p hp);exact⟨_,y,p.1,e,rfl,rfl,.two hy hk⟩
noncomputable def OsOk (os:List Th):Prop:=os=[]\/∃O:Tr,os=[.tup [.int 1,.int O.root]]
theorem OsOk.one {os:List Th}(h:OsOk os):One os:=by
 rcases h with h | ⟨O,h⟩
 ·exact .inl h
 ·exact .inr ⟨1,O.root,h,⟨by decide,by decide⟩,zbf O⟩
theorem zbv {R:Tr}{os:List Th}(h:OsOk os):tabB (tabG ["a","b"] R.root os)=true:=by
 have hr:isR (.int R.root)=true:=decide_eq_true (za2 R).1;show(zif (.tup (List.map Th.str (["a","b"]:QP))) && (isR (.int R.root) && zaT (lenB (.tup (List.map Th.str (["a","b"]:QP))):Int) 0 os))=true;rw[show zif (.tup (List.map Th.str (["a","b"]:QP)))=true from by decide+kernel,hr];rcases h with rfl | ⟨O,rfl⟩
 ·rfl
 ·exact zfE.mpr ⟨1,.int O.root,rfl,decide_eq_true (za2 O).1,by decide,by decide,rfl⟩
inductive Ent (s:Vst) (H:Hp) (T:Tr) (D:QO) (x:Str):V->Prop
 | mk (dr:Addr) (R:Tr) (os:List Th) (rk:QG) (nd:dr∉D) (ed:H dr=some (.dK rk)) (hw:(.str x,tabG ["a","b"] R.root os)∈T.ps) (rg:zbc s R) (ct:R.cnt<=3) (oo:OsOk os) (rd:zb5 H rk R):Ent s H T D x (.ref dr)
theorem Ent.keep (e:Ent s H T D x v)(f:Frm D H H')(k:Tups H H'):Ent s H' T D x v:=by
 cases e with
 | mk dr R os rk nd ed hw rg ct oo rd=>exact .mk dr R os rk nd (f _ _ nd ed) hw rg ct oo (rd.keep k)
theorem Ent.go (e:Ent s H T D x v)(g:Go A j s s'):Ent s' H T D x v:=by
 cases e with
 | mk dr R os rk nd ed hw rg ct oo rd=>exact .mk dr R os rk nd ed hw (rg.go g) ct oo rd
theorem Ent.put (e:Ent s H T D x v)(hs:Srt T.ps){k:Th}(n:k≠ .str x):Ent s H (putT k w T) D x v:=by
 cases e with
 | mk dr R os rk nd ed hw rg ct oo rd=>exact .mk dr R os rk nd ed (by rw[zX hs];exact zI.mpr (.inl ⟨hw,λz=>n z.symm⟩)) rg ct oo rd
noncomputable abbrev nms:List Str:=["a","of","where"]
theorem zm3:∀x∈nms,zW x.cps.toList=true:=by decide+kernel
theorem zgO:nms.Nodup:=by decide+kernel
structure Stt (s:Vst)(H:Hp)(T:Tr)(D:QO)(i:Nat)(kvs:QG):Prop where
 tk:TOk s.all T
 st:Srt T.ps
 ct:T.cnt<=i
 ks:kvs.map (·.1)=(nms.take i).map Sum.inr
 tn:∀p∈T.ps,∃y∈nms.take i,p.1=.str y
 en:∀y v,(.inr y,v)∈kvs->Ent s H T D y v
theorem Stt.keep (h:Stt s H T D i kvs)(f:Frm D H H')(k:Tups H H'):Stt s H' T D i kvs:=⟨h.tk,h.st,h.ct,h.ks,h.tn,λy v m=>(h.en y v m).keep f k⟩
theorem Stt.nil:Stt s H Tr.nil D 0 []:=⟨TOk.nil,List.Pairwise.nil,Jb _,rfl,λp h=>(by cases h),λy v h=>(by cases h)⟩
theorem zgz (hk:zr H row)(v:VK C H a D s)(f:Frm (row::D) H H'):Tups H H':=λb xs e=>f b _ (λz=>by
 rcases List.mem_cons.mp z with z | z
 ·obtain⟨_,_,_,h,_⟩:=hk;rw[z,h] at e;cases e
 ·exact(vi_K C).not v e (by intro kv z;cases z) z) e
theorem zr.nl (h:zr H row)(f:Frm [row] H H'):NL H H':=λb o n e=>f b o (not1 λz=>by
 obtain⟨_,_,_,h,_⟩:=h;rw[z,h] at e;cases e;exact n _ rfl) e
theorem zr.vr (I:VI C VR){a:Addr}{D:QO}{s:Vst}(h:zr H row)(v:VR H a D s)(f:Frm D H H'):zr H' row:=by obtain⟨x,y,m,e,b⟩:=h;exact⟨x,y,m,I.lst v f e,b⟩
theorem zcl {row:Addr}{D:QO}(f:Frm [row] H H'):Frm (row::D) H H':=f.mono λb hb=>by rw[List.mem_singleton.mp hb];exact List.mem_cons_self
theorem zaU {row:Addr}(f:Frm D H H'):Frm (row::D) H H':=f.mono λb hb=>Jd _ hb
end Pv
namespace Pv
open PySem L2
open Tr
noncomputable abbrev zef:Stmt:=top 106
theorem zbG (cl:Cl CC E)(u t:Th)(s:Vst):OutE VR CN CB CC a D H E (.clash u t) s:=λx v1 v2 H' _ _ r1 r2 g1 g2 ne sn ex=>cl u t v1 v2 H' x r1 r2 g1 g2 ne sn ex
theorem zeK {Q:L2.VK}(hd:zr H row)(q:∀(k:Th) (v:V) (H':Hp),valB k=true->Rep H' k v->Frm [row] H H'->zr H' row->Q v H'):zgC [.ref row] H Q E:=
 ⟨row,rfl,hd,λl H' h f k=>q (.str (tx l)) _ H' h (.str _) f k,λi H' h f k=>q (.int i) _ H' (decide_eq_true h) (.int i) f k⟩
structure LRes (C a dt row:Addr)(D:QO)(H0 H:Hp)(i:Nat)(T:Tr)(s:Vst)(kvs:QG):Prop where
 vk:VK C H a D s
 hk:zr H row
 fr:Frm (row::D) H0 H
 ed:H dt=some (.dK kvs)
 nd:dt∉row::D
 st:Stt s H T (dt::row::D) i kvs
 rm:900000<=s.n+90000 * i
theorem LRes.same {C a dt row:Addr}{D:QO}{H0 H H':Hp}{i:Nat}{T:Tr}{s:Vst}{kvs:QG}(h:LRes C a dt row D H0 H i T s kvs)(m:Same H H'):LRes C a dt row D H0 H' i T s kvs:=
 ⟨(vi_K C).same h.vk m,h.hk.keep m,h.fr.trans (Frm.of m),m _ _ h.ed,h.nd,h.st.keep (Frm.of m) (Same.tups m),h.rm⟩
structure LIn (C a dt row dr:Addr)(D:QO)(HA H:Hp)(i j:Nat)(x:Str)(T:Tr)(s:Vst)(kvs rk:QG)(R Rd:Tr)(os:List Th):Prop where
 vk:VK C H a D s
 hk:zr H row
 fr:Frm (row::D) HA H
 er:H dr=some (.dK rk)
 rd:zb5 H rk Rd
 rg:zbc s R
 rc:R.cnt<=3/\R.cnt<=j
 hw:(.str x,tabG ["a","b"] R.root os)∈T.ps
 tk:TOk s.all T
 st:Srt T.ps
 ct:T.cnt<=i+1
 tn:∀p∈T.ps,∃y∈nms.take (i+1),p.1=.str y
 en:∀y v,(.inr y,v)∈kvs->Ent s HA T (dt::row::D) y v
 rm:900000<=s.n+90000 * i+4000+20000 * j
theorem zeV {dt:Addr}(f:Frm D H H'):Frm (dt::D) H H':=f.mono λb hb=>Jd _ hb
section
variable {C a dt row dr:Addr}{D:QO}{HA H H':Hp}{i j:Nat}{x:Str}{T:Tr}{s:Vst}{kvs rk:QG}{R Rd:Tr}{os:List Th}
theorem LIn.frm (h:LIn C a dt row dr D HA H i j x T s kvs rk R Rd os)(nr:dr∉dt::row::D)(f:Frm (row::D) H H')(v:VK C H' a D s)(k:zr H' row):LIn C a dt row dr D HA H' i j x T s kvs rk R Rd os:=
 have t:=zgz h.hk h.vk f
 ⟨v,k,h.fr.trans f,f _ _ (λz=>nr (Jd _ z)) h.er,h.rd.keep t,h.rg,h.rc,h.hw,h.tk,h.st,h.ct,h.tn,h.en,h.rm⟩
theorem LIn.draw (h:LIn C a dt row dr D HA H i j x T s kvs rk R Rd os)(nr:dr∉dt::row::D)(f:Frm [row] H H')(k:zr H' row):LIn C a dt row dr D HA H' i j x T s kvs rk R Rd os:=
 h.frm nr (zcl f) ((vi_K C).nl h.vk (h.hk.nl f)) k
theorem LIn.same (h:LIn C a dt row dr D HA H i j x T s kvs rk R Rd os)(nr:dr∉dt::row::D)(m:Same H H'):LIn C a dt row dr D HA H' i j x T s kvs rk R Rd os:=
 h.frm nr (Frm.of m) ((vi_K C).same h.vk m) (h.hk.keep m)
theorem LIn.dict (h:LIn C a dt row dr D HA H i j x T s kvs rk R Rd os)(nr:dr∉dt::row::D)(hr:HA dr=none)(hs:Srt Rd.ps)(r:Rep H w v):LIn C a dt row dr D HA (upd H dr (.dK (putK rk key v))) i j x T s kvs (putK rk key v) R (putT (keyT key) w Rd) os:=by
 have tk:Tups H (upd H dr (.dK (putK rk key v))):=Tups.upd λxs z=>by rw[h.er] at z;cases z
 have ne:row≠dr:=λz=>nr (by rw[<-z];exact Jd _ List.mem_cons_self);refine⟨h.vk.oth (λb o n e=>by rw[zg n];exact e) h.er (by intro _ z;cases z) (by intro _ _ _ z;cases z) (λz=>nr (Jd _ (Jd _ z))),?_,zc8 h.fr hr,zc,h.rd.put hs tk (r.keep tk),h.rg,h.rc,h.hw,h.tk,h.st,h.ct,h.tn,h.en,h.rm⟩;obtain⟨p,q,m,e,z⟩:=h.hk;exact⟨p,q,m,by rw[zg ne];exact e,z⟩
theorem LIn.put (h:LIn C a dt row dr D HA H i j x T s kvs rk R Rd os)(nr:dr∉dt::row::D)(nx:zW x.cps.toList=true)(hnew:∀y v,(.inr y,v)∈kvs->y≠x)(i3:i < 3)(f:Did (VK C) a D s H H' k s')(hk:k<=20000)(rg:zbc s' R')(rc:R'.cnt<=3/\R'.cnt<=j+1)(oo:OsOk os')(iv:(putT (.str x) (tabG ["a","b"] R'.root os') T).InV s'.all):
  LIn C a dt row dr D HA H' i (j+1) x (putT (.str x) (tabG ["a","b"] R'.root os') T) s' kvs rk R' Rd os':=by
 have I:=vi_K C;have ct:=h.ct;obtain⟨tk,st,_⟩:=h.tk.put h.st (by omega) (zba nx) (zbN zcL (zbf R') oo.one) iv;have gn:=f.g.n;have rm:=h.rm;refine⟨f.v,h.hk.vr I h.vk f.f,h.fr.trans (zaU f.f),f.f _ _ (λz=>nr (Jd _ (Jd _ z))) h.er,h.rd.keep (I.tups h.vk f.f),rg,rc,by rw[zX h.st];exact zI.mpr (.inr rfl),tk,st,?_,λp hp=>?_,λy v m=>((h.en y v m).go f.g).put h.st (λz=>hnew y v m (by cases z;rfl)),by omega⟩
 ·have:=congrArg List.length (zi8 (w:=tabG ["a","b"] R'.root os') h.st ⟨_,h.hw⟩);rw[List.length_map,List.length_map] at this;unfold Tr.cnt at ct ⊢;rw[zX h.st,this];exact ct
 ·rw[zX h.st] at hp;rcases zI.mp hp with ⟨q,_⟩ | rfl
  ·exact h.tn p q
  ·obtain⟨y,hy,e⟩:=h.tn _ h.hw;exact⟨y,hy,e⟩
theorem LIn.le {k:Nat}(h:LIn C a dt row dr D HA H i j x T s kvs rk R Rd os)(c:j<=k):LIn C a dt row dr D HA H i k x T s kvs rk R Rd os:=
 ⟨h.vk,h.hk,h.fr,h.er,h.rd,h.rg,⟨h.rc.1,by have:=h.rc.2;omega⟩,h.hw,h.tk,h.st,h.ct,h.tn,h.en,by have:=h.rm;omega⟩
end
theorem zpS {n i j:Nat}(h:900000<=n+90000 * i+4000+20000 * j)(hj:j<=4):900000<=n+90000 * (i+1):=by omega
theorem zpj {kvs:QG}{k:Key}(h:k∉kvs.map (·.1)):valV kvs k=none:=by unfold valV;rw[Option.map_eq_none_iff,List.find?_eq_none];exact λp hp z=>h (List.mem_map.mpr ⟨p,hp,Jl z⟩)
inductive zg5 (C CC:Addr) (vs:QQ) (H:Hp) (Q:L2.VK) (E:XK):Prop
 | mk (a row:Addr) (D:QO) (s:Vst) (_:vs=[.ref row,.ref a]) (_:VK C H a D s) (_:zr H row) (_:900000<=s.n) (_:Cl CC E) (_:∀p dt i T s' kvs H',1<=i->i<=3->LRes C a dt row D H H' i T s' kvs->H' p=some (.tup [.int (Tr.root T),.ref dt])->Q (.ref p) H'):zg5 C CC vs H Q E
theorem zrT {i:Nat}{y:V}(h:((nms.take n).map V.str)[i]? =some y):∃x,y=.str x/\nms[i]? =some x/\i < n/\i < 3:=by
 rw[List.getElem?_map] at h;obtain⟨x,hx,rfl⟩:=Jq.mp h;rw[List.getElem?_take] at hx;by_cases c:i < n
 ·rw[if_pos c] at hx;exact⟨x,rfl,hx,c,(List.getElem?_eq_some_iff.mp hx).1⟩
 ·rw[if_neg c] at hx;cases hx
theorem zpt {i:Nat}{x:Str}(h:nms[i]? =some x):x∉nms.take i:=λm=>by
 have e:nms.take (i+1)=nms.take i++ [x]:=by rw[List.take_add_one,h];rfl
 have nd:=List.Nodup.sublist (List.take_sublist (i+1) nms) zgO;rw[e] at nd;exact(List.nodup_append.mp nd).2.2 x m x (List.mem_singleton.mpr rfl) rfl
section
variable {P:Program}{w:World}{K:QA}{mg:QB}{base:Heap}{C CN CB CC:Addr}
theorem zmO (D:Dfn K mg "_law_state" zef ["hand","vault"]) (zL:Fn P w K mg base "_law_draw" 1 ["hand","limit"] zaR) (zew:Fn P w K mg base "_law_value" 3 ["hand"] zgC) (zqg:FnX P w K mg base "make_table" 26 ["vault","root","name","columns"] (zgW (VK C) CN CB CC)) (zl7:FnX P w K mg base "put_row" 26 ["vault","root","name","row"] (zdm (VK C) CN CB CC)) (zhI:FnX P w K mg base "make_order" 26 ["vault","root","name","column"] (zkp (VK C) CN CB CC))
  (zaK:mg "range" =none) (zE:mg "tuple" =none):FnX P w K mg base "_law_state" 27 ["hand","vault"] (zg5 C CC):=by
 refine D.okX (k:=26) (L2.fsN ["hand","vault","root","tables","name","rows","k","row"]) (λf cdv A outer s H vs Q E hr h=>?_);obtain⟨a,row,Ds,st,rfl,vk,hk,hn,cl,q⟩:=h;have I:=vi_K C;refine⟨_,(zf (by ac_rfl)
 (zf (by ac_rfl)
 (zf (zaC PassesOwn.leaving rfl (by ac_rfl) (by ac_rfl)
 (zf (by ac_rfl)
 (zf (by ac_rfl)
 (zf (zaC PassesOwn.leaving rfl (by ac_rfl) (by ac_rfl)
 (zf (by ac_rfl)
 (zf (zhc (zfd hr) (pv 5) (by ac_rfl) (by ac_rfl) (by rfl))
 (by ac_rfl))))
 (zf (by ac_rfl)
 (zx (zhc (zfd hr) (pv 3) (pv 4) (pv 5) (by rfl))))))))
 (by ac_rfl)))),?_⟩
 refine zy (fun σ H'=>σ=[some (.ref row),some (.ref a),some (.int 0),none,none,none,none,none]/\H'=H) (λN n=>n _ _ ⟨rfl,rfl⟩) ?_;rintro σ H' ⟨rfl,hH⟩;rw[hH];clear hH H';refine zy (fun σ H'=>∃dt,σ=[some (.ref row),some (.ref a),some (.int 0),some (.ref dt),none,none,none,none]/\Same H H'/\H dt=none/\H' dt=some (.dK [])) (λN n=>?_) ?_
 ·intro p hp;exact n _ _ ⟨p,rfl,zh (Same.refl H) hp,hp,zc⟩
 rintro σ H1 ⟨dt,rfl,s1,hdt,edt⟩;have ndt:dt∉row::Ds:=λz=>by
  rcases List.mem_cons.mp z with z | z
  ·exact hk.ne hdt z
  ·obtain⟨kv,e⟩:=I.dic vk dt z;rw[hdt] at e;cases e
 refine zy (fun σ H'=>∃T s' kvs i k4 k5 k6 k7,σ=[some (.ref row),some (.ref a),some (.int (Tr.root T)),some (.ref dt),k4,k5,k6,k7]/\1<=i/\i<=3/\LRes C a dt row Ds H H' i T s' kvs) (λN n=>?_) ?_
 ·refine⟨szl (show 3<=1000 by decide),λl hl=>?_⟩;have s2:=zh (o:=.lst [.str "a",.str "of",.str "where"]) s1 hl;have el:upd H1 l (.lst [.str "a",.str "of",.str "where"]) l=some (.lst (nms.map V.str)):=zc;have edt2:upd H1 l (.lst [.str "a",.str "of",.str "where"]) dt=some (.dK []):=zh (Same.refl H1) hl _ _ edt;have hl0:=s1.free hl;refine⟨_,rfl,?_⟩;generalize upd H1 l (.lst [.str "a",.str "of",.str "where"])=H2 at s2 el edt2;have hk2:=hk.keep s2;refine⟨row,_,rfl,hk2,(show(0:Int) < 3 by decide),(by decide+kernel),λr H3 r0 r1 f3 hk3=>⟨_,_,rfl,rfl,?_⟩⟩;have f03:Frm (row::Ds) H H3:=(Frm.of s2).trans (zcl f3);have nl:l∉ [row]:=not1 (hk.ne hl0);refine⟨_,rfl,l,_,rfl,SqL.of (f3 _ _ nl el),λl2 hl2=>⟨l2,rfl,⟨_,SqL.of zc⟩,?_⟩⟩;obtain⟨m,m1,m3,em⟩:∃m,1<=m/\m<=3/\cutV (nms.map V.str) none (some (1+r))=(nms.take m).map V.str:=by
   have:r=0\/r=1\/r=2:=by omega
   rcases this with rfl | rfl | rfl
   ·exact⟨1,by decide,by decide,rfl⟩
   ·exact⟨2,by decide,by decide,rfl⟩
   ·exact⟨3,by decide,by decide,rfl⟩
  rw[em];have s4:=zh (o:=.lst ((nms.take m).map V.str)) (Same.refl H3) hl2;have el4:upd H3 l2 (.lst ((nms.take m).map V.str)) l2=some (.lst ((nms.take m).map V.str)):=zc;generalize upd H3 l2 (.lst ((nms.take m).map V.str))=H4 at s4 el4;have f04:=f03.trans (Frm.of s4);have vk4:=I.same (I.nl (I.same vk s2) (hk2.nl f3)) s4;have edt4:=s4 _ _ (f3 _ _ (λz=>ndt (List.mem_cons.mpr (.inl (List.mem_singleton.mp z)))) edt2);have h0:LRes C a dt row Ds H H4 0 Tr.nil st []:=⟨vk4,hk3.keep s4,f04,edt4,ndt,Stt.nil,by omega⟩;have hm:((nms.take m).map V.str).length=m:=by rw[List.length_map,List.length_take];exact Jw m3
  refine za5 (xs:=(nms.take m).map V.str) (λi σ H'=>∃T s' kvs k4 k5 k6 k7,σ=[some (.ref row),some (.ref a),some (.int (Tr.root T)),some (.ref dt),k4,k5,k6,k7]/\H' l2=some (.lst ((nms.take m).map V.str))/\LRes C a dt row Ds H H' i T s' kvs) ⟨Tr.nil,st,[],_,_,_,_,rfl,el4,h0⟩ ?_ ?_ ?_
  ·rintro i σ H' _ ⟨T,s',kvs,k4,k5,k6,k7,rfl,e,_⟩;exact SqL.of e
  ·rintro i y σ H5 hy ⟨T,s5,kvs,k4,k5,k6,k7,rfl,el5,h⟩;obtain⟨x,rfl,hx,im,i3⟩:=zrT hy;have nx:zW x.cps.toList=true:=zm3 x (List.mem_of_getElem? hx);have hnew:=zpt hx;have no:∀p∈T.ps,p.1≠ .str x:=λp hp e=>by obtain⟨y,hy,ey⟩:=h.st.tn p hp;rw[ey] at e;cases e;exact hnew hy
   have ct:=h.st.ct;have rm:=h.rm;have hkv:∀y v,(.inr y,v)∈kvs->y≠x:=λy v m e=>by have:Sum.inr y∈kvs.map (·.1):=List.mem_map.mpr ⟨_,m,rfl⟩;rw[h.st.ks] at this;obtain⟨z,hz,ez⟩:=List.mem_map.mp this;cases ez;exact hnew (e ▸ hz)
   have et:nms.take (i+1)=nms.take i++ [x]:=by rw[List.take_add_one,hx];rfl
   have kl:kvs.length=i:=by have:=congrArg List.length h.st.ks;rw[List.length_map,List.length_map,List.length_take] at this;rw[this];exact Jw (Nat.le_of_lt i3)
   have nl2:∀{H':Hp} {s':Vst},VK C H' a Ds s'->zr H' row->H' l2=some (.lst ((nms.take m).map V.str))->l2∉row::Ds:=λv k e z=>by
    rcases List.mem_cons.mp z with z | z
    ·exact hk3.ne hl2 z
    ·exact I.not v e (by intro kv z;cases z) z
   show tSeq _ _ _ _ _
   refine zy (fun σ H'=>∃s6,σ=[some (.ref row),some (.ref a),some (.int (putT (.str x) (tabG ["a","b"] (Tr.root Tr.nil) []) T).root),some (.ref dt),some (.str x),k5,k6,k7]/\Did (VK C) a Ds s5 H5 H' 4000 s6/\(putT (.str x) (tabG ["a","b"] (Tr.root Tr.nil) []) T).InV s6.all) (λN n=>?_) ?_
   ·refine⟨_,rfl,_,rfl,_,rfl,szl (show 2<=1000 by decide),λlc hlc=>?_⟩;have sm:=zh (o:=.lst [.str "a",.str "b"]) (Same.refl H5) hlc;exact⟨a,Ds,s5,T,x,lc,["a","b"],rfl,I.same h.vk sm,h.st.tk,h.st.st,by omega,by omega,nx,zc,zcL,no,λu t s'=>zbG cl u t s',λH' s' f v g iv=>n _ _ ⟨s',rfl,⟨(Frm.of sm).trans f,v,g⟩,iv⟩⟩
   rintro σ H6 ⟨s6,rfl,d6,iv6⟩;have hk6:=h.hk.vr I h.vk d6.f;have gn:=d6.g.n;refine zy (fun σ H'=>∃dr,σ=[some (.ref row),some (.ref a),some (.int (putT (.str x) (tabG ["a","b"] (Tr.root Tr.nil) []) T).root),some (.ref dt),some (.str x),some (.ref dr),k6,k7]/\H6 dr=none/\LIn C a dt row dr Ds H6 H' i 0 x (putT (.str x) (tabG ["a","b"] (Tr.root Tr.nil) []) T) s6 kvs [] Tr.nil Tr.nil []) (λN n=>?_) ?_
   ·intro p hp;have sm:=zh (o:=.dK []) (Same.refl H6) hp;obtain⟨tk,st',ct'⟩:=h.st.tk.put h.st.st (by omega) (zba nx) (zbN zcL (zbf Tr.nil) (.inl rfl)) iv6;refine n _ _ ⟨p,rfl,hp,I.same d6.v sm,hk6.keep sm,Frm.of sm,zc,zb5.nil,zbc.nil,⟨Nat.zero_le _,Jb _⟩,by rw[zX h.st.st];exact zI.mpr (.inr rfl),tk,st',by omega,λq hq=>?_,λy v m=>(((h.st.en y v m).keep (zeV (zaU d6.f)) (I.tups h.vk d6.f)).go d6.g).put h.st.st (λz=>hkv y v m (by cases z;rfl)),by omega⟩;rw[zX h.st.st] at hq;rw[et];rcases zI.mp hq with ⟨z,_⟩ | rfl
    ·obtain⟨y,hy,e⟩:=h.st.tn q z;exact⟨y,Jp _ hy,e⟩
    ·exact⟨x,Jh _ (List.mem_singleton.mpr rfl),rfl⟩
   rintro σ H7 ⟨dr,rfl,hdr,h7⟩;have nr:dr∉dt::row::Ds:=λz=>by
    rcases List.mem_cons.mp z with z | z
    ·rw[z,d6.f _ _ (λy=>ndt (Jd _ y)) h.ed] at hdr;cases hdr
    ·rcases List.mem_cons.mp z with z | z
     ·exact hk6.ne hdr z
     ·obtain⟨kv,e⟩:=I.dic d6.v dr z;rw[hdr] at e;cases e
   refine zy (fun σ H'=>∃T s' rk R k6 k7,σ=[some (.ref row),some (.ref a),some (.int (Tr.root T)),some (.ref dt),some (.str x),some (.ref dr),k6,k7]/\LIn C a dt row dr Ds H6 H' i 3 x T s' kvs rk R R []) (λN n=>?_) ?_
   ·refine⟨_,rfl,row,_,rfl,h7.hk,(show(0:Int) < 4 by decide),(by decide+kernel),λr H8 r0 r1 f8 hk8=>⟨_,rfl,by omega,by omega,?_⟩⟩;refine zdO (n:=r.toNat) (λj σ H'=>∃T s' rk R k6 k7,σ=[some (.ref row),some (.ref a),some (.int (Tr.root T)),some (.ref dt),some (.str x),some (.ref dr),k6,k7]/\LIn C a dt row dr Ds H6 H' i j x T s' kvs rk R R []) ⟨_,s6,[],Tr.nil,_,_,rfl,h7.draw nr f8 hk8⟩ ?_ ?_
    ·rintro j σ H' hj ⟨T,s',rk,R,k6,k7,rfl,g⟩;have rc:=g.rc;have grm:=g.rm;have gct:=g.ct;show tSeq _ _ _ _ _;refine zy (fun σ H'=>∃lr t1 v1 t2 v2,σ=[some (.ref row),some (.ref a),some (.int (Tr.root T)),some (.ref dt),some (.str x),some (.ref dr),some (.int (0+(j:Int))),some (.ref lr)]/\LIn C a dt row dr Ds H6 H' i j x T s' kvs rk R R []/\H' lr=some (.lst [v1,v2])/\Rep H' t1 v1/\Rep H' t2 v2/\valB t1=true/\valB t2=true) (λN n=>?_) ?_
     ·refine⟨_,rfl,zeK g.hk λt1 v1 Ha b1 r1 fa ka=>⟨_,rfl,zeK ka λt2 v2 Hb b2 r2 fb kb=>⟨szl (show 2<=1000 by decide),λlr hlr=>?_⟩⟩⟩;have sm:=zh (o:=.lst [v1,v2]) (Same.refl Hb) hlr;exact n _ _ ⟨lr,t1,v1,t2,v2,rfl,((g.draw nr fa ka).draw nr fb kb).same nr sm,zc,(r1.keep (ka.nl fb).tups).keep (Same.tups sm),r2.keep (Same.tups sm),b1,b2⟩
     clear g;rintro σ H9 ⟨lr,t1,v1,t2,v2,rfl,g,elr,q1,q2,b1,b2⟩;obtain⟨key,rfl,rfl⟩:=zo2 b1 q1;refine zy (fun σ H'=>∃rk,σ=[some (.ref row),some (.ref a),some (.int (Tr.root T)),some (.ref dt),some (.str x),some (.ref dr),some (.int (0+(j:Int))),some (.ref lr)]/\LIn C a dt row dr Ds H6 H' i j x T s' kvs rk R (putT (keyT key) (.tup [keyT key,t2]) R) []/\H' lr=some (.lst [kV key,v2])/\Rep H' t2 v2) (λN n=>?_) ?_
     ·refine⟨_,rfl,lr,_,rfl,.inl ⟨SqL.of elr,λpt hpt=>?_⟩⟩;have sm:=zh (o:=.tup [kV key,v2]) (Same.refl H9) hpt;have ept:upd H9 pt (.tup [kV key,v2]) pt=some (.tup [kV key,v2]):=zc;generalize upd H9 pt (.tup [kV key,v2])=H10 at sm ept;have g10:=g.same nr sm;have elr10:=sm _ _ elr;have q10:=q2.keep (Same.tups sm);refine⟨_,rfl,_,rfl,lr,_,_,_,rfl,rfl,SqL.of elr10,rfl,dr,_,rfl,DPut.k (k:=key) g10.er (zcA (by rw[g10.rd.ln];omega)),n _ _ ⟨_,rfl,g10.dict nr hdr g10.rg.st (Rep.tupL ept (.cons (zdd _ _) (.cons q10 .nil))),?_,?_⟩⟩
      ·rw[zg (zal elr10 g10.er (by intro z;cases z))];exact elr10
      ·exact q10.keep (Tups.upd λxs z=>by rw[g10.er] at z;cases z)
     clear g elr q1 q2;rintro σ H10 ⟨rk,rfl,g,elr,q2⟩;refine⟨_,rfl,_,rfl,_,rfl,_,rfl,?_⟩;refine⟨a,Ds,s',T,x,_,lr,_,keyT key,[t2],rfl,g.vk,g.tk,g.st,by omega,by omega,nx,g.hw,elr,.cons (zdd _ _) (.cons q2 .nil),.val b1,.two b1 b2,by show(valB (keyT key) && (valB t2 && true))=true;rw[b1,b2];rfl,λz=>Je z (by rw[zbv (.inl rfl)];decide),λ_=>⟨["a","b"],R,[],rfl,zcL,g.rg.tk,g.rg.st,rfl,λw1 h1 z=>(Jc (z.symm.trans (g.rg.ok _ h1))).elim,λ_=>⟨rfl,by omega,λu t s'=>zbG cl u t s',λH11 s11 did iv1 iv2=>?_⟩⟩⟩;obtain⟨rg',rc'⟩:=(g.rg.go did.g).put b1 b2 (by omega) iv1;exact⟨_,s11,rk,_,_,_,rfl,g.put nr nx hkv i3 did (Jb _) rg' ⟨by omega,by omega⟩ (.inl rfl) iv2⟩
    ·rintro σ H' ⟨T,s',rk,R,k6,k7,rfl,g⟩;exact n _ _ ⟨T,s',rk,R,k6,k7,rfl,g.le (by omega)⟩
   clear h7;rintro σ H8 ⟨T2,s8,rk,R,k6,k7,rfl,g⟩
   refine zy (fun σ H'=>∃T s' os,σ=[some (.ref row),some (.ref a),some (.int (Tr.root T)),some (.ref dt),some (.str x),some (.ref dr),k6,k7]/\OsOk os/\LIn C a dt row dr Ds H6 H' i 4 x T s' kvs rk R R os) (λN n=>?_) ?_
   ·have rc:=g.rc;have grm:=g.rm;have gct:=g.ct;refine⟨_,rfl,row,_,rfl,g.hk,(show(0:Int) < 2 by decide),(by decide+kernel),λr H9 r0 r1 f9 hk9=>⟨rfl,_,rfl,ifB (λ_=>?_) (λ_=>?_)⟩⟩
    ·have g9:=g.draw nr f9 hk9;refine⟨_,rfl,_,rfl,_,rfl,a,Ds,s8,T2,x,_,_,rfl,g9.vk,g9.tk,g9.st,by omega,by omega,nx,g9.hw,λz=>Je z (by rw[zbv (.inl rfl)];decide),λ_=>⟨["a","b"],R,[],0,rfl,zcL,g9.rg.tk,rfl,ab_b,λz=>Je g9.rg.ok z,λ_=>⟨rfl,by omega,g9.rg.rowK,λu t s'=>zbG cl u t s',λO H10 s10 did iv=>?_⟩⟩⟩;exact n _ _ ⟨_,s10,_,rfl,.inr ⟨O,rfl⟩,g9.put nr nx hkv i3 did (Jb _) (g9.rg.go did.g) ⟨rc.1,by omega⟩ (.inr ⟨O,rfl⟩) iv⟩
    ·exact n _ _ ⟨T2,s8,[],rfl,.inl rfl,(g.draw nr f9 hk9).le (by omega)⟩
   clear g;rintro σ H9 ⟨T3,s9,os,rfl,oo,g⟩;have ed9:=g.fr _ _ ndt (d6.f _ _ (λy=>ndt (Jd _ y)) h.ed);have el9:=g.fr _ _ (nl2 d6.v hk6 (I.lst h.vk d6.f el5)) (I.lst h.vk d6.f el5);have tk:Tups H9 (upd H9 dt (.dK (putK kvs (.inr x) (.ref dr)))):=Tups.upd λxs z=>by rw[ed9] at z;cases z
   have tA:=zgz hk6 d6.v g.fr;have e0:valV kvs (.inr x)=none:=zpj λz=>by rw[h.st.ks] at z;obtain⟨y,hy,e⟩:=List.mem_map.mp z;cases e;exact hnew hy
   refine⟨_,rfl,_,rfl,_,rfl,dt,_,rfl,DPut.k (k:=.inr x) ed9 (zcA (by omega)),T3,s9,putK kvs (.inr x) (.ref dr),_,_,_,_,rfl,?_,?_⟩
   ·rw[zg (zal el9 ed9 (by intro z;cases z))];exact el9
   refine⟨g.vk.oth (λb o n e=>by rw[zg n];exact e) ed9 (by intro _ z;cases z) (by intro _ _ _ z;cases z) (λz=>ndt (Jd _ z)),?_,zc8 ((h.fr.trans (zaU d6.f)).trans g.fr) hdt,zc,ndt,⟨g.tk,g.st,g.ct,?_,g.tn,λy v m=>?_⟩,zpS g.rm (Jb 4)⟩
   ·obtain⟨p,q,m,e,z⟩:=g.hk;exact⟨p,q,m,by rw[zg (zal e ed9 (by intro z;cases z))];exact e,z⟩
   ·rw[zdo _ e0,List.map_append,h.st.ks,et,List.map_append];rfl
   ·rw[zdo _ e0] at m;rcases List.mem_append.mp m with m | m
    ·exact((g.en y v m).keep (zeV g.fr) tA).keep (Frm.upd List.mem_cons_self) tk
    ·cases List.mem_singleton.mp m;exact .mk dr R os rk nr (by rw[zg (λz=>nr (by rw[z];exact List.mem_cons_self))];exact g.er) g.hw g.rg g.rc.1 oo (g.rd.keep tk)
  ·rintro σ H' ⟨T,s',kvs,k4,k5,k6,k7,rfl,e,h⟩;rw[hm] at h;exact n _ _ ⟨T,s',kvs,m,k4,k5,k6,k7,rfl,m1,m3,h⟩
 rintro σ H2 ⟨T,s',kvs,i,k4,k5,k6,k7,rfl,h1,h3,h⟩;refine⟨_,rfl,_,rfl,szl (show 2<=1000 by decide),λp hp=>?_⟩;have s3:=zh (o:=.tup [.int T.root,.ref dt]) (Same.refl H2) hp;exact q p dt i T s' kvs _ h1 h3 (h.same s3) zc
end
end Pv
namespace Pv
open PySem L2
open Tr
noncomputable abbrev za8:Stmt:=top 107
noncomputable def Oth (s:Vst)(H:Hp)(T:Tr)(D:QO)(g:Str)(kvs:QG):Prop:=∀p∈kvs,∃y,p.1=.inr y/\zW y.cps.toList=true/\valV kvs p.1=some p.2/\(y≠g->Ent s H T D y p.2)
inductive zii (C:Addr) (vs:QQ) (H:Hp) (Q:L2.VK) (E:XK):Prop
 | mk (a dt:Addr) (D:QO) (s:Vst) (T:Tr) (g:Str) (kvs:QG) (_:vs=[.ref a,.int T.root,.ref dt,.str g]) (_:VK C H a D s) (_:TOk s.all T) (_:Srt T.ps) (_:20000<=s.n) (_:H dt=some (.dK kvs)) (_:dt∉D) (_:Oth s H T (dt::D) g kvs) (_:∀H',Frm D H H'->VK C H' a D s->Q (.bl true) H'):zii C vs H Q E
section
variable {P:Program}{w:World}{K:QA}{mg:QB}{base:Heap}{C CB CT:Addr}
theorem zrY (D:Dfn K mg "_law_others_stand" za8 ["vault","root","tables","gone"]) (zhH:FnX P w K mg base "columns_of" 25 ["vault","root","name"] (zhe (VK C) CT CB)) (zl6:FnX P w K mg base "rows_of" 25 ["vault","root","name"] (zcB (VK C) CB)) (zt:mg "len" =none):FnX P w K mg base "_law_others_stand" 26 ["vault","root","tables","gone"] (zii C):=by
 refine D.okX (k:=25) (L2.fsN ["vault","root","tables","gone","name"]) (λf cdv A outer s H vs Q E hr h=>?_);obtain⟨a,dt,Ds,st,T,g,kvs,rfl,vk,tk,so,hn,ed,nd,oth,q⟩:=h;have I:=vi_K C;refine⟨_,(zf (zkd (zaC PassesOwn.leaving rfl (zqO (pv 2)) (by ac_rfl)
 (zf (zaA (PW.pt (zfs (by ac_rfl) (zeS (zaH (zdf hr) (by ac_rfl) (by ac_rfl) (zat _)))))
 (by ac_rfl)
 zM)
 (zx (zaA (PW.pt (zfs (by ac_rfl) (zeS (zaH zn9 (by ac_rfl) (zD (zcR) (by rfl) zt (by rfl) (zA (zc1 (zfd hr) (pv 2) (pv 4) (λ_ _=>rfl)) zam)) (zat _)))))
 (by ac_rfl)
 zM)))))
 (by ac_rfl)),?_⟩
 have nt:∀{H1:Hp},Frm (dt::Ds) H H1->Tups H H1:=λf b xs e=>f b _ (λz=>by
  rcases List.mem_cons.mp z with z | z
  ·rw[z,ed] at e;cases e
  ·exact I.not vk e (by intro kv z;cases z) z) e
 refine zy (fun σ H'=>Frm Ds H H'/\VK C H' a Ds st) (λN n=>?_) ?_
 ·refine⟨_,rfl,dt,kvs,rfl,ed,λo=>?_⟩;refine zmu (λi σ H'=>∃k4,σ=[some (.ref a),some (.int T.root),some (.ref dt),some (.str g),k4]/\H' dt=some (.frz o (.dK kvs))/\VK C H' a Ds st/\Frm (dt::Ds) H H') ⟨_,rfl,zc,vk.oth (λb o n e=>by rw[zg n];exact e) ed (by intro _ z;cases z) (by intro _ _ _ z;cases z) nd,Frm.upd List.mem_cons_self⟩ ?_ ?_ ?_
  ·rintro i σ H' ⟨k4,rfl,e,_⟩;exact e
  ·rintro i p σ H1 hp ⟨k4,rfl,e1,v1,f1⟩;obtain⟨p1,p2⟩:=p;obtain⟨y,ey,ny,ev,en⟩:=oth _ (List.mem_of_getElem? hp);have ey:p1=.inr y:=ey;have en:y≠g->Ent st H T (dt::Ds) y p2:=en;have ev:valV kvs p1=some p2:=ev;have ly:y.length<=900:=by have:=(z9 ny).1;omega
   subst ey;show tSeq _ _ _ _ _;have yg:y=g->(!decide (V.str y=V.str g))=false:=λz=>by rw[decide_eq_true (by rw[z])];rfl
   have ng:¬y=g->(!decide (V.str y=V.str g))=true:=λz=>by rw[decide_eq_false (λq=>z (by cases q;rfl))];rfl
   refine zy (fun σ H'=>σ=[some (.ref a),some (.int T.root),some (.ref dt),some (.str g),some (.str y)]/\H' dt=some (.frz o (.dK kvs))/\VK C H' a Ds st/\Frm (dt::Ds) H H') (λN n=>?_) ?_
   ·refine⟨_,rfl,_,rfl,rfl,_,rfl,?_⟩;by_cases c:y=g
    ·exact ifF (yg c) (ifF rfl (n _ _ ⟨rfl,e1,v1,f1⟩))
    refine ifT (ng c) ?_;obtain⟨dr,R,os,rk,ndr,edr,hw,rg,ct,oo,rd⟩:=id (en c);refine⟨_,rfl,_,rfl,_,rfl,a,Ds,st,T,y,_,rfl,v1,tk,so,by omega,ny,ly,hw,λcs r o' e z v H2 s2 rd2 r2=>?_,λz=>Je z (by rw[zbv oo];decide)⟩;cases e;refine⟨szl (show 2<=1000 by decide),λp2 hp2=>?_⟩;have s3:=zh (o:=.tup [.str "a",.str "b"]) (Same.refl H2) hp2;refine⟨_,_,r2.keep (Same.tups s3),Rep.tupL zc (zho _ ["a","b"]),by decide,_,rfl,?_⟩;rw[(zS _ _).mpr rfl];exact ifF rfl (n _ _ ⟨rfl,s3 _ _ (rd2.f _ _ nd e1),I.same (v1.back rd2.v rd2.o) s3,(f1.trans (zeV rd2.f)).trans (Frm.of s3)⟩)
   rintro σ H2 ⟨rfl,e2,v2,f2⟩;refine⟨_,rfl,_,rfl,rfl,_,rfl,?_⟩;by_cases c:y=g
   ·exact ifF (yg c) (ifF rfl ⟨_,rfl,e2,v2,f2⟩)
   refine ifT (ng c) ?_;obtain⟨dr,R,os,rk,ndr,edr,hw,rg,ct,oo,rd⟩:=id (en c);refine⟨_,rfl,_,rfl,_,rfl,a,Ds,st,T,y,_,rfl,v2,tk,so,by omega,ny,ly,hw,λ_=>⟨_,R,_,rfl,rg.tk,λok l xs H3 s3 rd3 el rl hl=>?_,λno=>Je rg.ok no⟩,λz=>Je z (by rw[zbv oo];decide)⟩;have e3:=rd3.f _ _ nd e2;have f3:=f2.trans (zeV rd3.f);have ex:xs.length=rk.length:=by rw[rl.len,List.length_map,rd.ln]
   refine⟨l,xs,rfl,.inl (SqL.of el),_,rfl,_,rfl,dt,_,rfl,.inl ⟨kvs,.inr y,.inr ⟨o,e3⟩,rfl,ev.symm⟩,dr,rk,rfl,f3 _ _ ndr edr,rfl,_,rfl,?_⟩;rw[ex];refine ifF (by rw[decide_eq_true rfl];rfl) ⟨_,rfl,e3,v2.back rd3.v rd3.o,f3⟩
  ·rintro σ H1 ⟨k4,rfl,e1,v1,f1⟩;refine⟨dt,o,kvs,ed,e1,n _ _ ⟨λb u nb e=>?_,v1.oth (λb o n e=>by rw[zg n];exact e) e1 (by intro _ z;cases z) (by intro _ _ _ z;cases z) nd⟩⟩;by_cases c:b=dt
   ·rw[c,ed] at e;cases e;rw[c];exact zc
   ·rw[zg c];exact f1 b u (λz=>(List.mem_cons.mp z).elim c nb) e
 rintro σ H' ⟨f',v'⟩;exact q H' f' v'
end
end Pv
namespace Pv
open PySem L2
open Tr
noncomputable abbrev zbX:Stmt:=top 108
theorem zkN {kvs:QG}(h:(kvs.map (·.1)).Nodup):∀p∈kvs,valV kvs p.1=some p.2:=by
 induction kvs with
 | nil=>intro p hp;cases hp
 | cons q r ih=>
  intro p hp;rw[List.map_cons,List.nodup_cons] at h;rcases List.mem_cons.mp hp with rfl | hp
  ·exact zY rfl
  ·rw[zaa (λe=>h.1 (by rw[e];exact Jn hp))];exact ih h.2 p hp
theorem Ent.sub {D':QO}(e:Ent s H T D x v)(h:∀b∈D',b∈D):Ent s H T D' x v:=by
 cases e with
 | mk dr R os rk nd ed hw rg ct oo rd=>exact .mk dr R os rk (λz=>nd (h _ z)) ed hw rg ct oo rd
theorem zmq:∀{l:QP},l.Nodup->(l.map (Sum.inr:Str->Key)).Nodup:=λ{l} h=>by rw[List.Nodup,List.pairwise_map];exact h.imp λn e=>n (by cases e;rfl)
theorem Stt.key {i:Nat}(h:Stt s H T D i kvs){p:Key ×V}(hp:p∈kvs):∃y∈nms.take i,p.1=.inr y:=by have:p.1∈kvs.map (·.1):=Jn hp;rw[h.ks] at this;obtain⟨y,hy,e⟩:=List.mem_map.mp this;exact⟨y,hy,e.symm⟩
theorem zdy {y:Str}(h:y∈nms.take i):zW y.cps.toList=true:=zm3 y (List.take_subset i nms h)
theorem Stt.oth {dt row:Addr}{D:QO}{i:Nat}{g:Str}{k:Th}(h:Stt s H T (dt::row::D) i kvs)(f:Frm (row::D) H H')(t:Tups H H')(go:Go A j s s')(hk:∀y∈nms.take i,y≠g->k≠ .str y):Oth s' H' (putT k w T) (dt::D) g kvs:=λp hp=>by
 obtain⟨y,hy,e⟩:=h.key hp;have nd:(kvs.map (·.1)).Nodup:=by rw[h.ks];exact zmq (List.Nodup.sublist (List.take_sublist i nms) zgO)
 refine⟨y,e,zdy hy,zkN nd p hp,λn=>?_⟩;obtain⟨p1,p2⟩:=p;have e:p1=.inr y:=e;subst e;exact((((h.en y p2 hp).keep (zeV f) t).go go).put h.st (hk y hy n)).sub λb hb=>by
  rcases List.mem_cons.mp hb with rfl | hb
  ·exact List.mem_cons_self
  ·exact Jd _ (Jd _ hb)
inductive zfL (C CC:Addr) (vs:QQ) (H:Hp) (Q:L2.VK) (E:XK):Prop
 | mk (a dt row:Addr) (D:QO) (H0:Hp) (i:Nat) (T:Tr) (s:Vst) (kvs:QG) (_:vs=[.ref row,.ref a,.int T.root,.ref dt]) (_:LRes C a dt row D H0 H i T s kvs) (_:1<=i) (_:i<=3) (_:Cl CC E) (_:∀H',Frm (row::D) H H'->Q (.bl true) H'):zfL C CC vs H Q E
section
variable {C a dt row:Addr}{D:QO}{H0 H:Hp}{i:Nat}{T:Tr}{s:Vst}{kvs:QG}
theorem LRes.len (h:LRes C a dt row D H0 H i T s kvs)(i3:i<=3):kvs.length=i:=by have:=congrArg List.length h.st.ks;rw[List.length_map,List.length_map,List.length_take] at this;rw[this];exact Jw i3
theorem LRes.rm' (h:LRes C a dt row D H0 H i T s kvs)(i3:i<=3):600000<=s.n:=by have:=h.rm;omega
theorem LRes.pick (h:LRes C a dt row D H0 H i T s kvs)(i3:i<=3){ns:QP}{r:Int}(pm:ns.Perm (nms.take i))(r0:0<=r)(r1:r < (kvs.length:Int)):∃x∈nms.take i,atI (ns.map V.str) r=some (.str x):=by
 have hl:((ns.map V.str).length:Int)=kvs.length:=by rw[List.length_map,pm.length_eq,h.len i3,List.length_take,Jw (show i<=nms.length from i3)]
 obtain⟨y,hy,e⟩:=zb9 (xs:=ns.map V.str) r0 (by rw[hl];exact r1);obtain⟨x,hx,rfl⟩:=List.mem_map.mp hy;exact⟨x,pm.subset hx,e⟩
theorem LRes.draw (h:LRes C a dt row D H0 H i T s kvs)(f:Frm [row] H H')(k:zr H' row):LRes C a dt row D H0 H' i T s kvs:=by have nl:=h.hk.nl f;exact⟨(vi_K C).nl h.vk nl,k,h.fr.trans (zcl f),nl _ _ (by intro _ z;cases z) h.ed,h.nd,h.st.keep (zeV (zcl f)) nl.tups,h.rm⟩
theorem LRes.name {σ:L2.St}{Q:L2.VK}(h:LRes C a dt row D H0 H i T s kvs)(i1:1<=i)(i3:i<=3)(h0:σ[0]? =some (some (.ref row)))(h3:σ[3]? =some (some (.ref dt)))(q:∀x∈nms.take i,∀H',LRes C a dt row D H0 H' i T s kvs->Frm (row::D) H H'->Q (.str x) H'):
  tOp (rIxL K) (tCB (λxs H Q=>∃(d:Addr) (kvs:QG) (ss:QP),xs=[.ref d]/\H d=some (.dK kvs)/\kvs.map (·.1)=ss.map Sum.inr/\ss.length < 64/\∀(l:Addr) (ns:QP),H l=none->ns.Perm ss->ns.Pairwise (λa b=>¬b.cps.toList < a.cps.toList)->Q (.ref l) (upd H l (.lst (ns.map V.str)))) (zaV (tVar 3) tNil))
   (zkA zaR [] E0 (zaV (tVar 0) (zaV (tCB (λxs H Q=>∃(d:Addr) (kvs:QG),xs=[.ref d]/\H d=some (.dK kvs)/\Q (.int kvs.length) H) (zaV (tVar 3) tNil)) tNil))) σ H Q:=by
 have hl:=h.len i3;refine⟨_,h3,dt,kvs,nms.take i,rfl,h.ed,h.st.ks,by rw[List.length_take];have:nms.length=3:=rfl;omega,λl ns hn pm pw=>?_⟩;have s1:=zh (o:=.lst (ns.map V.str)) (Same.refl H) hn;have e1:upd H l (.lst (ns.map V.str)) l=some (.lst (ns.map V.str)):=zc;have nl:l∉ [row]:=not1 (h.hk.ne hn);generalize upd H l (.lst (ns.map V.str))=H1 at s1 e1;have h1:=h.same s1;refine⟨_,h0,_,h3,dt,kvs,rfl,h1.ed,row,_,rfl,h1.hk,by omega,(by rw[hl];have:(10:Int) ^ 100=((10 ^ 100:Nat):Int):=rfl;rw[this];exact Int.ofNat_lt.mpr (Nat.lt_of_le_of_lt i3 (by decide+kernel))),λr H2 r0 r1 f2 k2=>?_⟩;obtain⟨x,hx,ex⟩:=h.pick i3 pm r0 r1;exact⟨l,_,_,_,rfl,rfl,SqL.of (f2 _ _ nl e1),ex,q x hx H2 (h1.draw f2 k2) ((Frm.of s1).trans (zcl f2))⟩
end
section
variable {P:Program}{w:World}{K:QA}{mg:QB}{base:Heap}{C CN CB CC:Addr}
theorem zoQ (D:Dfn K mg "_law_bad_table" zbX ["hand","vault","root","tables"]) (zL:Fn P w K mg base "_law_draw" 1 ["hand","limit"] zaR) (zew:Fn P w K mg base "_law_value" 3 ["hand"] zgC) (zgL:FnX P w K mg base "put" 24 ["vault","root","key","worth"] (zbF (VK C) CN CB CC)) (zot:Fn P w K mg base "_law_no_table" 2 ["hand"] zht) (zex:Fn P w K mg base "_law_asked" 27 ["vault","root","name","value","way"] (zfp (VK C))) (zbb:FnX P w K mg base "_law_others_stand" 26 ["vault","root","tables","gone"] (zii C))
  (zaK:mg "range" =none) (zt:mg "len" =none) (zar:mg "sorted" =none):FnX P w K mg base "_law_bad_table" 28 ["hand","vault","root","tables"] (zfL C CC):=by
 refine D.okX (k:=27) (L2.fsN ["hand","vault","root","tables","name","bad","value","way"]) (λf cdv A outer s H vs Q E hr h=>?_);obtain⟨a,dt,row,Ds,H0,i,T,st,kvs,rfl,h,i1,i3,cl,q⟩:=h;have I:=vi_K C;refine⟨_,(zf (setA 4 rfl (zbA zbI (zD (zbO rfl) (by rfl) zar (by rfl) (by ac_rfl)) (zj6 zL hr (zA (pv 0) (zA (zD (zcR) (by rfl) zt (by rfl) (by ac_rfl)) zam))) (λ_ _=>rfl)))
 (by ac_rfl)),?_⟩
 have hl:=h.len i3;have hn:=h.rm' i3;refine zy (fun σ H'=>∃x∈nms.take i,σ=[some (.ref row),some (.ref a),some (.int T.root),some (.ref dt),some (.str x),none,none,none]/\LRes C a dt row Ds H0 H' i T st kvs/\Frm (row::Ds) H H') (λN n=>?_) ?_
 ·exact h.name i1 i3 rfl rfl λx hx H' h' f'=>n _ _ ⟨x,hx,rfl,h',f'⟩
 clear h;rintro σ H1 ⟨x,hx,rfl,h,f1⟩;have nx:=zdy hx;have ct:=h.st.ct;refine zy (fun σ H'=>∃wo s',σ=[some (.ref row),some (.ref a),some (.int T.root),some (.ref dt),some (.str x),some (.int (putT (.str x) wo T).root),none,none]/\tabB wo=false/\VK C H' a Ds s'/\zr H' row/\Frm (row::Ds) H1 H'/\Go (λ_=>True) 1000 st s'/\TOk s'.all (putT (.str x) wo T)/\Srt (putT (.str x) wo T).ps/\(putT (.str x) wo T).cnt<=10) (λN n=>?_) ?_
 ·refine⟨_,rfl,_,rfl,_,rfl,_,rfl,row,rfl,h.hk,λwo v H2 rw' kw bw f2 hk2=>?_⟩;have h2:=h.draw f2 hk2;have kx:=zba nx;refine⟨a,Ds,st,T.root,.str x,wo,.str x,v,rfl,h2.vk,.str x,kx.good,rw',?_⟩;refine zbT (A:=λ_=>True) (λu t s2=>zbG cl u t s2) h2.st.tk (by omega) kx kw (by omega) (λ_ _=>trivial) λs3 g3 i3'=>?_;intro v3 H3 f3 vr3 e3;have e3:v3=.int (putT (.str x) wo T).root:=e3;subst e3;obtain⟨tk,so,c⟩:=h2.st.tk.put h2.st.st (by omega) kx kw i3';exact n _ _ ⟨wo,s3,rfl,bw,vr3,hk2.vr I h2.vk f3,(zcl f2).trans (zaU f3),g3,tk,so,by omega⟩
 rintro σ H2 ⟨wo,s2,rfl,bw,v2,hk2,f2,g2,tk,so,c9⟩;have hw:(.str x,wo)∈(putT (.str x) wo T).ps:=by rw[zX h.st.st];exact zI.mpr (.inr rfl)
 have n2:=g2.n;refine zy (fun σ H'=>∃k vk,σ=[some (.ref row),some (.ref a),some (.int T.root),some (.ref dt),some (.str x),some (.int (putT (.str x) wo T).root),some vk,none]/\valB k=true/\Rep H' k vk/\VK C H' a Ds s2/\Frm (row::Ds) H1 H') (λN n=>?_) ?_
 ·exact⟨_,rfl,zeK hk2 λk v H3 b r f3 k3=>n _ _ ⟨k,v,rfl,b,r,I.nl v2 (hk2.nl f3),f2.trans (zcl f3)⟩⟩
 clear v2 f2 hk2;rintro σ H2 ⟨k,vk,rfl,bk,rk,v2,f2⟩;refine zy (fun σ H'=>∃k7,σ=[some (.ref row),some (.ref a),some (.int T.root),some (.ref dt),some (.str x),some (.int (putT (.str x) wo T).root),some vk,k7]/\VK C H' a Ds s2/\Frm Ds H2 H') (λN n=>?_) ?_
 ·refine⟨_,rfl,by decide,by decide,?_⟩;refine zdO (n:=9) (λj σ H'=>∃k7,σ=[some (.ref row),some (.ref a),some (.int T.root),some (.ref dt),some (.str x),some (.int (putT (.str x) wo T).root),some vk,k7]/\VK C H' a Ds s2/\Frm Ds H2 H') ⟨_,rfl,v2,Frm.refl⟩ ?_ ?_
  ·rintro j σ H3 hj ⟨k7,rfl,v3,f3⟩;refine⟨_,rfl,_,rfl,_,rfl,_,rfl,_,rfl,a,Ds,s2,putT (.str x) wo T,x,k,vk,j,by rw[Int.zero_add];rfl,v3,tk,so,by omega,by omega,nx,rk.keep (I.tups v2 f3),bk,.tab hj wo hw bw,λH4 s4 rd=>⟨_,rfl,ifF rfl ⟨_,rfl,v3.back rd.v rd.o,f3.trans rd.f⟩⟩⟩
  ·rintro σ H3 ⟨k7,rfl,v3,f3⟩;exact n _ _ ⟨k7,rfl,v3,f3⟩
 rintro σ H3 ⟨k7,rfl,v3,f3⟩;have f13:=f2.trans (zaU f3);refine⟨_,rfl,_,rfl,_,rfl,_,rfl,a,dt,Ds,s2,_,x,kvs,rfl,v3,tk,so,by omega,f13 _ _ h.nd h.ed,λz=>h.nd (Jd _ z),h.st.oth f13 (zgz h.hk h.vk f13) g2 (λy hy n e=>n (by cases e;rfl)),λH4 f4 _=>q H4 ((f1.trans f13).trans (zaU f4))⟩
end
end Pv
namespace Pv
open PySem L2
open Tr
noncomputable abbrev zcm:Stmt:=top 109
noncomputable def zka:List Th:=[.int 5,.str "A",.str "abcdefghi",.tup [.str "a"],.str "",.str "a1",.int (-1),.str "a b",.tup [.tup []]]
theorem zjb:∀t∈zka,keyB t=true/\zcH t=false:=by decide+kernel
section
variable {P:Program}{w:World}{K:QA}{mg:QB}{base:Heap}{C CN CB CC:Addr}
theorem zoS (D:Dfn K mg "_law_bad_name" zcm ["hand","vault","root","tables"]) (zL:Fn P w K mg base "_law_draw" 1 ["hand","limit"] zaR) (zgL:FnX P w K mg base "put" 24 ["vault","root","key","worth"] (zbF (VK C) CN CB CC)) (zex:Fn P w K mg base "_law_asked" 27 ["vault","root","name","value","way"] (zfp (VK C))) (zbb:FnX P w K mg base "_law_others_stand" 26 ["vault","root","tables","gone"] (zii C)):FnX P w K mg base "_law_bad_name" 28 ["hand","vault","root","tables"] (zfL C CC):=by
 refine D.okX (k:=27) (L2.fsN ["hand","vault","root","tables","key","bad"]) (λf cdv A outer s H vs Q E hr h=>?_);obtain⟨a,dt,row,Ds,H0,i,T,st,kvs,rfl,h,i1,i3,cl,q⟩:=h;have I:=vi_K C;refine⟨_,(by ac_rfl),?_⟩;have hn:=h.rm' i3;have ct:=h.st.ct;refine zy (fun σ H'=>∃k vk,σ=[some (.ref row),some (.ref a),some (.int T.root),some (.ref dt),some vk,none]/\KeyT k/\zcH k=false/\Rep H' k vk/\LRes C a dt row Ds H0 H' i T st kvs/\Frm (row::Ds) H H') (λN n=>?_) ?_
 ·unfold tAsg tOp;dsimp only;refine GivA.lst (ts:=zka) ?_ (by decide) λl vs H1 s1 n1 e1 r1=>?_
  ·repeat' first
    | exact GivA.nil
    | refine GivA.cons ?_ ?_
    | exact Giv.int _
    | exact Giv.neg _
    | exact Giv.str _
    | refine Giv.tup ?_ ?_
    | decide
  have h1:=h.same s1;have nl:l∉ [row]:=not1 (h.hk.ne n1);refine⟨_,rfl,row,9,rfl,h1.hk,by decide,by decide,λr H2 r0 r1' f2 k2=>?_⟩;have ln:vs.length=9:=r1.len;obtain⟨j,rfl⟩:=Int.eq_ofNat_of_zero_le r0;have hj:j < vs.length:=by omega
  have ev:vs[j]? =some vs[j]:=List.getElem?_eq_getElem hj;obtain⟨hi,rv,_⟩:=zcV (r1.keep (h1.hk.nl f2).tups) ev;obtain⟨hk,hb⟩:=zjb _ (Jj hi);refine⟨l,vs,_,vs[j],rfl,rfl,SqL.of (f2 _ _ nl e1),?_,n _ _ ⟨_,_,rfl,zcu hk,hb,rv,h1.draw f2 k2,(Frm.of s1).trans (zcl f2)⟩⟩;unfold atI ixN;rw[if_pos (Int.natCast_nonneg j),if_pos (by omega)];exact ev
 clear h;rintro σ H1 ⟨k,vk,rfl,kk,bk,rk,h,f1⟩;have kt:KeyT (tabG ["a","b"] (Tr.root Tr.nil) []):=zbN zcL (zbf Tr.nil) (.inl rfl);refine zy (fun σ H'=>∃s',σ=[some (.ref row),some (.ref a),some (.int T.root),some (.ref dt),some vk,some (.int (putT k (tabG ["a","b"] (Tr.root Tr.nil) []) T).root)]/\VK C H' a Ds s'/\Frm (row::Ds) H1 H'/\Go (λ_=>True) 1000 st s'/\TOk s'.all (putT k (tabG ["a","b"] (Tr.root Tr.nil) []) T)/\Srt (putT k (tabG ["a","b"] (Tr.root Tr.nil) []) T).ps/\(putT k (tabG ["a","b"] (Tr.root Tr.nil) []) T).cnt<=10) (λN n=>?_) ?_
 ·refine⟨_,rfl,_,rfl,_,rfl,?_⟩;have gv:∀σ,Giv σ H1 (tTup (zaV (tTup (zaV (tC (V.str "a")) (zaV (tC (V.str "b")) tNil))) (zaV (tC (V.int 0)) (zaV (tTup tNil) tNil)))) (tabG ["a","b"] (Tr.root Tr.nil) []):=fun σ=>Giv.tup (.cons (Giv.tup (.cons (.str _) (.cons (.str _) .nil)) (by decide)) (.cons (.int _) (.cons (Giv.tup .nil (by decide)) .nil))) (by decide);refine gv _ H1 _ (Same.refl H1) λv H2 s2 r2=>?_;refine⟨a,Ds,st,T.root,k,_,vk,v,rfl,I.same h.vk s2,rk.keep (Same.tups s2),kk.good,r2,?_⟩;refine zbT (A:=λ_=>True) (λu t s2=>zbG cl u t s2) h.st.tk (by omega) kk kt (by omega) (λ_ _=>trivial) λs3 g3 i3'=>?_;intro v3 H3 f3 vr3 e3;have e3:v3=.int (putT k (tabG ["a","b"] (Tr.root Tr.nil) []) T).root:=e3;subst e3;obtain⟨tk,so,c⟩:=h.st.tk.put h.st.st (by omega) kk kt i3';exact n _ _ ⟨s3,rfl,vr3,(Frm.of s2).trans (zaU f3),g3,tk,so,by omega⟩
 rintro σ H2 ⟨s2,rfl,v2,f2,g2,tk,so,c9⟩;have n2:=g2.n;have hw:(k,tabG ["a","b"] (Tr.root Tr.nil) [])∈(putT k (tabG ["a","b"] (Tr.root Tr.nil) []) T).ps:=by rw[zX h.st.st];exact zI.mpr (.inr rfl)
 refine⟨_,rfl,_,rfl,a,Ds,s2,putT k (tabG ["a","b"] (Tr.root Tr.nil) []) T,"a",.int 0,.int 0,9,rfl,v2,tk,so,by omega,by omega,by decide+kernel,.int 0,by decide+kernel,.name rfl _ hw bk,λH3 s3 rd=>⟨_,rfl,ifT rfl ?_⟩⟩;have v3:=v2.back rd.v rd.o;have f13:=f2.trans (zaU rd.f);refine⟨_,rfl,_,rfl,_,rfl,a,dt,Ds,s2,_,"",kvs,rfl,v3,tk,so,by omega,f13 _ _ h.nd h.ed,λz=>h.nd (Jd _ z),h.st.oth f13 (zgz h.hk h.vk f13) g2 (λy hy _ e=>?_),λH4 f4 _=>q H4 ((f1.trans f13).trans (zaU f4))⟩;rw[e,show zcH (.str y)=true from zdy hy] at bk;cases bk
end
end Pv
namespace Pv
open PySem L2
open Tr
noncomputable abbrev zcN:Stmt:=top 110
theorem zo8 {T:Tr}(h:Srt T.ps)(m:Nms T ns):ns.Pairwise λa b=>a.cps.toList < b.cps.toList:=by have h1:(T.ps.map (·.1)).Pairwise λp q=>zd p q=true:=List.pairwise_map.mpr h;rw[m.ks,List.pairwise_map] at h1;exact h1.imp λh=>Jl h
theorem zrR {a b:List Nat}(h:a < b):¬b < a:=λz=>Je (List.lt_trans h z) (List.lt_irrefl a)
theorem zje (ns:QP):∀x∈ns.map V.str,za4 x=true/\eqV x x=true:=λx hx=>by obtain⟨y,_,rfl⟩:=List.mem_map.mp hx;exact⟨rfl,by simp[eqV]⟩
theorem zoi {kvs:QG}{p:Key ×V}(h:p∈kvs):∃u,valV kvs p.1=some u:=by
 cases z:valV kvs p.1 with
 | some u=>exact⟨u,rfl⟩
 | none=>
  have:=za7 p.1 kvs;rw[z,List.any_eq_false.mpr] at this
  ·unfold valV at z;rw[Option.map_eq_none_iff,List.find?_eq_none] at z;exact Je (decide_eq_true rfl) (z p h)
  ·intro q hq e;unfold valV at z;rw[Option.map_eq_none_iff,List.find?_eq_none] at z;exact z q hq e
theorem Stt.nms (h:Stt s H T D i kvs){x:Str}{w':Th}(hw:(.str x,w')∈T.ps)(nm:Nms (putT (.str x) w T) ns)(so:Srt (putT (.str x) w T).ps){ms:QP}(pm:ms.Perm (nms.take i))(ri:ms.Pairwise λa b=>¬b.cps.toList < a.cps.toList):ms=ns:=by
 have rn:=zo8 so nm;have nd:ns.Nodup:=rn.imp λh e=>by rw[e] at h;exact Je h (List.lt_irrefl _)
 have ek:=nm.ks;rw[zX h.st,zi8 h.st ⟨_,hw⟩] at ek;refine znF (pm.trans ((List.perm_ext_iff_of_nodup (List.Nodup.sublist (List.take_sublist i _) zgO) nd).mpr λy=>⟨λhy=>?_,λhy=>?_⟩)) ri (rn.imp λh=>zrR h)
 ·have:(Sum.inr y:Key)∈kvs.map (·.1):=by rw[h.ks];exact Jn hy
  obtain⟨⟨p1,p2⟩,hp,e⟩:=List.mem_map.mp this;have e:p1=.inr y:=e;subst e;cases h.en y p2 hp with
  | mk dr R os rk nd ed hw rg ct oo rd=>have:Th.str y∈T.ps.map (·.1):=List.mem_map.mpr ⟨_,hw,rfl⟩;rw[ek] at this;obtain⟨z,hz,ez⟩:=List.mem_map.mp this;cases ez;exact hz
 ·have:Th.str y∈T.ps.map (·.1):=by rw[ek];exact Jn hy
  obtain⟨p,hp,e⟩:=List.mem_map.mp this;obtain⟨z,hz,ez⟩:=h.tn p hp;rw[ez] at e;cases e;exact hz
section
variable {P:Program}{w:World}{K:QA}{mg:QB}{base:Heap}{C CN CB CC CT:Addr}
theorem zo0 (D:Dfn K mg "_law_bad_row" zcN ["hand","vault","root","tables"]) (zL:Fn P w K mg base "_law_draw" 1 ["hand","limit"] zaR) (zew:Fn P w K mg base "_law_value" 3 ["hand"] zgC) (zgL:FnX P w K mg base "put" 24 ["vault","root","key","worth"] (zbF (VK C) CN CB CC)) (zqh:Fn P w K mg base "_law_no_row" 2 ["hand","key"] zhi) (zex:Fn P w K mg base "_law_asked" 27 ["vault","root","name","value","way"] (zfp (VK C))) (zbb:FnX P w K mg base "_law_others_stand" 26 ["vault","root","tables","gone"] (zii C))
  (zG:FnX P w K mg base "table_at" 24 ["vault","root","name"] (zaD (VK C) CT CB)) (zos:FnX P w K mg base "row_at" 25 ["vault","root","name","value"] (zdg (VK C) CB)) (zqf:FnX P w K mg base "names" 23 ["vault","root"] (zdp (VK C) CB)) (zt:mg "len" =none) (zar:mg "sorted" =none):FnX P w K mg base "_law_bad_row" 28 ["hand","vault","root","tables"] (zfL C CC):=by
 refine D.okX (k:=27) (L2.fsN ["hand","vault","root","tables","name","fields","rows","orders","key","bad","way","one"]) (λf cdv A outer s H vs Q E hr h=>?_);obtain⟨a,dt,row,Ds,H0,i,T,st,kvs,rfl,h,i1,i3,cl,q⟩:=h;have I:=vi_K C;have θ:=0;refine⟨_,(zf (setA 4 rfl (zbA zbI (zD (zbO rfl) (by rfl) zar (by rfl) (by ac_rfl)) (zj6 zL hr (zA (pv 0) (zA (zD (zcR) (by rfl) zt (by rfl) (by ac_rfl)) zam))) (λ_ _=>rfl)))
 (zf (by ac_rfl)
 (zf (by ac_rfl)
 (zf (by ac_rfl)
 (zf (by ac_rfl)
 (zf (zkd (zaC PassesOwn.leaving rfl (zqO (zc1 (zfd hr) (pv 3) (pv 4) (λ_ _=>rfl))) (by ac_rfl)
 (zx (zaA (PW.pt (zfs (by ac_rfl) (zeS (zaH (zdf hr) (by ac_rfl) (zc1 (zfd hr) (zc1 (zfd hr) (pv 3) (pv 4) (λ_ _=>rfl)) (pv 11) (λ_ _=>rfl)) (zat _)))))
 (by ac_rfl)
 zM))))
 (zx (zad (za1 (zaf (zpO hr) (by ac_rfl) (zD (zbO rfl) (by rfl) zar (by rfl) (by ac_rfl)) (zat _)) (zcd (by ac_rfl))))))))))),?_⟩
 have hl:=h.len i3;have hn:=h.rm' i3;have ct:=h.st.ct;refine zy (fun σ H'=>∃x∈nms.take i,σ=[some (.ref row),some (.ref a),some (.int T.root),some (.ref dt),some (.str x),none,none,none,none,none,none,none]/\LRes C a dt row Ds H0 H' i T st kvs/\Frm (row::Ds) H H') (λN n=>?_) ?_
 ·exact h.name i1 i3 rfl rfl λx hx H' h' f'=>n _ _ ⟨x,hx,rfl,h',f'⟩
 clear h;rintro σ H1 ⟨x,hx,rfl,h,f1⟩;have nx:=zdy hx;have lx:x.length<=900:=by have:=(z9 nx).1;omega
 obtain⟨v0,hv0⟩:∃v0,(.inr x,v0)∈kvs:=by
  have:(Sum.inr x:Key)∈kvs.map (·.1):=by rw[h.st.ks];exact Jn hx
  obtain⟨⟨p1,p2⟩,hp,e⟩:=List.mem_map.mp this;have e:p1=.inr x:=e;subst e;exact⟨p2,hp⟩
 have ndk:(kvs.map (·.1)).Nodup:=by rw[h.st.ks];exact zmq (List.Nodup.sublist (List.take_sublist i nms) zgO)
 have ev0:valV kvs (.inr x)=some v0:=zkN ndk _ hv0;obtain⟨dr,R,os,rk,ndr,edr,hw,rg,rc,oo,rd⟩:=id (h.st.en x v0 hv0);have one:∀w',(.str x,w')∈T.ps->w'=tabG ["a","b"] R.root os:=λw' h'=>by rw[<-zw h.st.st h',zw h.st.st hw]
 refine zy (fun σ H'=>∃y0 y2,σ=[some (.ref row),some (.ref a),some (.int T.root),some (.ref dt),some (.str x),some y0,some (.int R.root),some y2,none,none,none,none]/\Rep H' (.tup (List.map Th.str ["a","b"])) y0/\Rep H' (.tup os) y2/\VK C H' a Ds st/\Frm Ds H1 H') (λN n=>?_) ?_
 ·refine⟨_,rfl,_,rfl,_,rfl,a,Ds,st,T,x,rfl,h.vk,h.st.tk,h.st.st,by omega,nx,lx,λw' h' z v H2 s2 rd2 r2=>?_,λw' h' z=>Je z (by rw[one w' h',zbv oo];decide),λno=>Je rfl (no _ hw)⟩;rw[one w' h'] at r2;obtain⟨p,y0,y1,y2,rfl,ep,q0,q1,q2⟩:=r2.three;cases q1;exact⟨p,_,rfl,SqT.of ep,rfl,_,_,rfl,_,_,rfl,_,_,rfl,rfl,n _ _ ⟨y0,y2,rfl,q0,q2,h.vk.back rd2.v rd2.o,rd2.f⟩⟩
 rintro σ H2 ⟨y0,y2,rfl,q0,q2,v2,f2⟩;have hk2:=h.hk.vr I h.vk f2
 refine zy (fun σ H'=>∃k vk,σ=[some (.ref row),some (.ref a),some (.int T.root),some (.ref dt),some (.str x),some y0,some (.int R.root),some y2,some vk,none,none,none]/\valB k=true/\Rep H' k vk/\Tups H2 H'/\VK C H' a Ds st/\zr H' row/\Frm (row::Ds) H1 H') (λN n=>?_) ?_
 ·exact⟨_,rfl,zeK hk2 λk v H3 b r f3 k3=>n _ _ ⟨k,v,rfl,b,r,(hk2.nl f3).tups,I.nl v2 (hk2.nl f3),k3,(zaU f2).trans (zcl f3)⟩⟩
 clear v2 f2 hk2;rintro σ H3 ⟨k,vk,rfl,bk,rk',k23,v3,hk3,f3⟩;have q0:=q0.keep k23;have q2:=q2.keep k23;have kk:=KeyT.val bk;clear k23
 refine zy (fun σ H'=>∃wo s',σ=[some (.ref row),some (.ref a),some (.int T.root),some (.ref dt),some (.str x),some y0,some (.int R.root),some y2,some vk,some (.int (putT (.str x) (tabG ["a","b"] (putT k wo R).root os) T).root),none,none]/\rowB 2 k wo=false/\Tups H3 H'/\VK C H' a Ds s'/\Frm (row::Ds) H1 H'/\Go (λ_=>True) 2000 st s'/\TOk s'.all (putT k wo R)/\Srt (putT k wo R).ps/\TOk s'.all (putT (.str x) (tabG ["a","b"] (putT k wo R).root os) T)/\Srt (putT (.str x) (tabG ["a","b"] (putT k wo R).root os) T).ps/\(putT (.str x) (tabG ["a","b"] (putT k wo R).root os) T).cnt<=10) (λN n=>?_) ?_
 ·refine⟨_,rfl,_,rfl,_,rfl,_,rfl,_,rfl,_,rfl,_,rfl,_,rfl,_,rfl,row,k,vk,rfl,hk3,rk',bk,λwo vw H4 rw' kw bw f4 hk4=>?_⟩;have v4:=I.nl v3 (hk3.nl f4);have t4:=(hk3.nl f4).tups;refine⟨a,Ds,st,R.root,k,wo,vk,vw,rfl,v4,rk'.keep t4,kk.good,rw',?_⟩;refine zbT (A:=λ_=>True) (λu t s2=>zbG cl u t s2) rg.tk (by omega) kk kw (by omega) (λ_ _=>trivial) λs5 g5 i5=>?_;intro v5 H5 f5 vr5 e5;have e5:v5=.int (putT k wo R).root:=e5;subst e5;obtain⟨tR,sR,cR⟩:=rg.tk.put rg.st (by omega) kk kw i5;have t5:=t4.trans (I.tups v4 f5);have n5:=g5.n;refine⟨_,rfl,szl (show 3<=1000 by decide),λp hp=>?_⟩;have s6:=zh (o:=.tup [y0,.int (putT k wo R).root,y2]) (Same.refl H5) hp;have e6:upd H5 p (.tup [y0,.int (putT k wo R).root,y2]) p=some (.tup [y0,.int (putT k wo R).root,y2]):=zc;generalize upd H5 p (.tup [y0,.int (putT k wo R).root,y2])=H6 at s6 e6;have t6:=t5.trans (Same.tups s6);have kx:=zba nx;have kt:KeyT (tabG ["a","b"] (putT k wo R).root os):=zbN zcL (zbf _) oo.one;refine⟨a,Ds,s5,T.root,.str x,_,.str x,.ref p,rfl,I.same vr5 s6,.str x,kx.good,Rep.tupL e6 (.cons (q0.keep t6) (.cons (.int _) (.cons (q2.keep t6) .nil))),?_⟩;refine zbT (A:=λ_=>True) (λu t s2=>zbG cl u t s2) (h.st.tk.go g5) (by omega) kx kt (by omega) (λ_ _=>trivial) λs7 g7 i7=>?_;intro v7 H7 f7 vr7 e7;have e7:v7=.int (putT (.str x) (tabG ["a","b"] (putT k wo R).root os) T).root:=e7;subst e7;obtain⟨tT,sT,cT⟩:=(h.st.tk.go g5).put h.st.st (by omega) kx kt i7;exact n _ _ ⟨wo,s7,rfl,bw,t6.trans (I.tups (I.same vr5 s6) f7),vr7,(((f3.trans (zcl f4)).trans (zaU f5)).trans (Frm.of s6)).trans (zaU f7),(g5.trans g7).mono (by omega),tR.go g7,sR,tT,sT,by omega⟩
 rintro σ H4 ⟨wo,s4,rfl,bw,t34,v4,f4,g4,tR,sR,tk,so,c9⟩;have rk4:=rk'.keep t34;have n4:=g4.n;have hwR:(k,wo)∈(putT k wo R).ps:=by rw[zX rg.st];exact zI.mpr (.inr rfl)
 have hwT:(.str x,tabG ["a","b"] (putT k wo R).root os)∈(putT (.str x) (tabG ["a","b"] (putT k wo R).root os) T).ps:=by rw[zX h.st.st];exact zI.mpr (.inr rfl)
 generalize hT':putT (.str x) (tabG ["a","b"] (putT k wo R).root os) T=T' at tk so c9 hwT;generalize hR':putT k wo R=R' at tR sR hwR hwT
 refine zy (fun σ H'=>∃k10,σ=[some (.ref row),some (.ref a),some (.int T.root),some (.ref dt),some (.str x),some y0,some (.int R.root),some y2,some vk,some (.int T'.root),k10,none]/\VK C H' a Ds s4/\Frm (row::Ds) H1 H'/\Rep H' k vk) (λN n=>?_) ?_
 ·refine⟨szl (show 5<=1000 by decide),λl hl=>?_⟩;have s5:=zh (o:=.lst [.int 2,.int 3,.int 5,.int 7,.int 8]) (Same.refl H4) hl;have e5:upd H4 l (.lst [.int 2,.int 3,.int 5,.int 7,.int 8]) l=some (.lst [.int 2,.int 3,.int 5,.int 7,.int 8]):=zc;generalize upd H4 l (.lst [.int 2,.int 3,.int 5,.int 7,.int 8])=H5 at s5 e5;refine⟨l,rfl,⟨_,SqL.of e5⟩,?_⟩;refine za5 (xs:=[.int 2,.int 3,.int 5,.int 7,.int 8]) (λj σ H'=>∃k10,σ=[some (.ref row),some (.ref a),some (.int T.root),some (.ref dt),some (.str x),some y0,some (.int R.root),some y2,some vk,some (.int T'.root),k10,none]/\VK C H' a Ds s4/\Frm (row::Ds) H1 H'/\Rep H' k vk/\H' l=some (.lst [.int 2,.int 3,.int 5,.int 7,.int 8])) ⟨_,rfl,I.same v4 s5,f4.trans (Frm.of s5),rk4.keep (Same.tups s5),e5⟩ ?_ ?_ ?_
  ·rintro j σ H' _ ⟨k10,rfl,_,_,_,e⟩;exact SqL.of e
  ·rintro j y σ H6 hy ⟨k10,rfl,v6,f6,r6,e6⟩;obtain⟨way,rfl,hway⟩:∃way:Nat,y=.int way/\(way=2\/way=3\/way=5\/way=7\/way=8):=by
    have m:=List.mem_of_getElem? hy;simp only[List.mem_cons,List.not_mem_nil,or_false] at m;rcases m with rfl | rfl | rfl | rfl | rfl
    ·exact⟨2,rfl,by decide⟩
    ·exact⟨3,rfl,by decide⟩
    ·exact⟨5,rfl,by decide⟩
    ·exact⟨7,rfl,by decide⟩
    ·exact⟨8,rfl,by decide⟩
   exact⟨_,rfl,_,rfl,_,rfl,_,rfl,_,rfl,a,Ds,s4,T',x,k,vk,way,rfl,v6,tk,so,by omega,by omega,nx,r6,bk,.row hway R' os wo hwT tR sR hwR bw,λH7 s7 rd=>⟨_,rfl,ifF rfl ⟨_,rfl,v6.back rd.v rd.o,f6.trans (zaU rd.f),r6.keep (I.tups v6 rd.f),I.lst v6 rd.f e6⟩⟩⟩
  ·rintro σ H6 ⟨k10,rfl,v6,f6,r6,e6⟩;exact n _ _ ⟨k10,rfl,v6,f6,r6⟩
 clear v4 f4 rk4 t34;rintro σ H4 ⟨k10,rfl,v4,f4,rk4⟩;have ndr':dr∉row::Ds:=λz=>ndr (Jd _ z);have ndD:dr∉Ds:=λz=>ndr' (Jd _ z);have ed4:=f4 _ _ h.nd h.ed;have er4:=f4 _ _ ndr' edr;have rd4:=rd.keep (zgz h.hk h.vk f4);have ne:dt≠dr:=λz=>ndr (by rw[z];exact List.mem_cons_self)
 refine zy (fun σ H'=>∃k10 k11,σ=[some (.ref row),some (.ref a),some (.int T.root),some (.ref dt),some (.str x),some y0,some (.int R.root),some y2,some vk,some (.int T'.root),k10,k11]/\VK C H' a Ds s4/\Frm Ds H4 H') (λN n=>?_) ?_
 ·refine⟨_,rfl,_,rfl,dt,_,rfl,.inl ⟨kvs,.inr x,.inl ed4,rfl,ev0.symm⟩,dr,rk,rfl,er4,λo=>?_⟩;have tf:∀{H':Hp},Frm (dr::Ds) H4 H'->Tups H4 H':=λf b xs e=>f b _ (λz=>by
   rcases List.mem_cons.mp z with z | z
   ·rw[z,er4] at e;cases e
   ·exact I.not v4 e (by intro kv z;cases z) z) e
  refine zmu (λj σ H'=>∃k11,σ=[some (.ref row),some (.ref a),some (.int T.root),some (.ref dt),some (.str x),some y0,some (.int R.root),some y2,some vk,some (.int T'.root),k10,k11]/\H' dr=some (.frz o (.dK rk))/\VK C H' a Ds s4/\Frm (dr::Ds) H4 H') ⟨_,rfl,zc,v4.oth (λb o n e=>by rw[zg n];exact e) er4 (by intro _ z;cases z) (by intro _ _ _ z;cases z) ndD,Frm.upd List.mem_cons_self⟩ ?_ ?_ ?_
  ·rintro j σ H' ⟨k11,rfl,e,_⟩;exact e
  ·rintro j p σ H5 hp ⟨k11,rfl,e5,v5,f5⟩;obtain⟨p1,p2⟩:=p;obtain⟨u,eu⟩:=zoi (List.mem_of_getElem? hp);have eu:valV rk p1=some u:=eu;obtain⟨w1,hw1,rw1⟩:=rd4.vl p1 u eu;obtain⟨bz,dz⟩:rowB 2 (keyT p1) w1=true/\dep (keyT p1)<=8:=by have b1:=rg.ok _ hw1;obtain⟨_,_,bv,_⟩:=zkV b1;exact⟨b1,by rw[(zau bv).1];decide⟩
   have rk5:=rk4.keep (tf f5);refine⟨_,rfl,_,rfl,keyT p1,k,zdd _ _,rk5,by omega,_,rfl,?_⟩;by_cases c:keyT p1=k
   ·rw[(zS _ _).mpr c];exact ifF rfl (ifF rfl ⟨_,rfl,e5,v5,f5⟩)
   rw[show eqT (keyT p1) k=false from by cases z:eqT (keyT p1) k with | true=>exact Je ((zS _ _).mp z) c | false=>rfl];refine ifT rfl ?_;have m1:(keyT p1,w1)∈R'.ps:=by rw[<-hR',zX rg.st];exact zI.mpr (.inl ⟨hw1,c⟩)
   have u1:∀w',(keyT p1,w')∈R'.ps->w'=w1:=λw' h'=>by rw[<-zw sR h',zw sR m1]
   refine⟨_,rfl,_,rfl,_,rfl,_,rfl,a,Ds,s4,T',x,_,keyT p1,_,rfl,v5,tk,so,by omega,nx,lx,hwT,zdd _ _,dz,λ_=>⟨_,R',_,rfl,tR,sR,λw' h' z v H6 s6 rd6 r6=>?_,λw' h' z=>Je z (by rw[u1 w' h'];intro y;exact Jc (y.symm.trans bz)),λno=>Je rfl (no _ m1)⟩,λz=>Je z (by rw[zbv oo];decide)⟩
   rw[u1 w' h'] at r6;have f6:=f5.trans (zeV rd6.f);have e6:=rd6.f _ _ ndD e5;have d6:=f6 _ _ (λz=>(List.mem_cons.mp z).elim ne (λy=>h.nd (Jd _ y))) ed4;refine⟨_,rfl,_,rfl,dt,_,rfl,.inl ⟨kvs,.inr x,.inl d6,rfl,ev0.symm⟩,_,rfl,dr,u,rfl,.inl ⟨rk,p1,.inr ⟨o,e6⟩,rfl,eu.symm⟩,w1,w1,r6,rw1.keep (tf f6),?_,_,rfl,?_⟩
   ·have:=((rg.tk.ky _ hw1).2).dp;exact Ji this (by decide)
   rw[(zS _ _).mpr rfl];exact ifF rfl ⟨_,rfl,e6,v5.back rd6.v rd6.o,f6⟩
  ·rintro σ H5 ⟨k11,rfl,e5,v5,f5⟩;refine⟨dr,o,rk,er4,e5,n _ _ ⟨k10,k11,rfl,v5.oth (λb o n e=>by rw[zg n];exact e) e5 (by intro _ z;cases z) (by intro _ _ _ z;cases z) ndD,λb u nb e=>?_⟩⟩;by_cases c:b=dr
   ·rw[c,er4] at e;cases e;rw[c];exact zc
   ·rw[zg c];exact f5 b u (λz=>(List.mem_cons.mp z).elim c nb) e
 rintro σ H5 ⟨k10,k11,rfl,v5,f5⟩;have f15:=f4.trans (zaU f5)
 refine⟨_,rfl,_,rfl,a,Ds,s4,T',rfl,v5,tk,by omega,λns nm l H6 s6 rd6 el hl6=>?_,λp hp z=>?_⟩
 ·have f16:=f15.trans (zaU rd6.f);have ed6:=f16 _ _ h.nd h.ed;refine⟨_,rfl,dt,kvs,nms.take i,rfl,ed6,h.st.ks,by rw[List.length_take];have:nms.length=3:=rfl;omega,λl2 ms hl2 pm pw=>?_⟩;have e:ms=ns:=by rw[<-hT'] at nm so;exact h.st.nms hw nm so pm pw
  subst e;have s7:=zh (o:=.lst (ms.map V.str)) (Same.refl H6) hl2;refine⟨l,l2,_,rfl,rfl,SqL.of (s7 _ _ el),SqL.of zc,zje _,_,rfl,ifT rfl ?_⟩;have v7:=I.same (v5.back rd6.v rd6.o) s7;have f17:=f16.trans (Frm.of s7);generalize upd H6 l2 (.lst (ms.map V.str))=H7 at v7 f17;refine⟨_,rfl,_,rfl,_,rfl,_,rfl,a,dt,Ds,s4,T',x,kvs,rfl,v7,tk,so,by omega,f17 _ _ h.nd h.ed,λz=>h.nd (Jd _ z),?_,λH8 f8 _=>q H8 ((f1.trans f17).trans (zaU f8))⟩;rw[<-hT'];exact h.st.oth f17 (zgz h.hk h.vk f17) g4 (λy hy n e=>n (by cases e;rfl))
 ·rw[<-hT',zX h.st.st] at hp;rcases zI.mp hp with ⟨hp,_⟩ | rfl
  ·obtain⟨y,hy,e⟩:=h.st.tn p hp;rw[e,show zcH (.str y)=true from zdy hy] at z;cases z
  ·rw[show zcH (.str x)=true from nx] at z;cases z
end
end Pv
namespace Pv
open PySem L2
open Tr
noncomputable abbrev zej:Stmt:=top 111
theorem zlI {C x dx:Addr}{H:Hp}{Z:Hp->Prop}(hx:H x=none)(hdx:H dx=none)(n:dx≠x)(q:∀d H',Same H H'->H d=none->H' x=some (.ins C dx [("laid",.ref d)])->H' d=some (.dK [])->Z H'):
  zeP C [.ref x] (upd (upd H dx (.own x)) x (.ins C dx [])) (λv H2=>v=.non/\Z H2) E:=by
 refine⟨x,dx,rfl,zc,λd hd=>⟨rfl,?_⟩⟩;have xd:x≠d:=λz=>by rw[<-z,zc] at hd;cases hd
 have dd:dx≠d:=λz=>by rw[<-z,zg n,zc] at hd;cases hd
 have hd0:H d=none:=by rw[zg (Ne.symm xd),zg (Ne.symm dd)] at hd;exact hd
 refine q d _ (λb o e=>?_) hd0 zc (by rw[zg (Ne.symm xd)];exact zc);have n1:=zj e hx;rw[zg n1,zg (zj e hd0),zg n1,zg (zj e hdx)];exact e
theorem SqL.keepS (h:SqL K H a xs)(s:Same H H'):SqL K H' a xs:=by
 rcases h with h | h
 ·rcases h with h | ⟨o,h⟩
  ·exact .inl (.inl (s _ _ h))
  ·exact .inl (.inr ⟨o,s _ _ h⟩)
 ·exact .inr h
theorem znw (ns:List Int)(lo hi:Option Int):∃ms:List Int,cutV (ns.map V.int) lo hi=ms.map V.int/\ms.length<=ns.length:=by
 refine⟨(ns.drop (HT.sIx ns.length 0 lo)).take (HT.sIx ns.length ns.length hi - HT.sIx ns.length 0 lo),?_,?_⟩
 ·unfold cutV;rw[List.length_map,List.map_take,List.map_drop]
 ·rw[List.length_take,List.length_drop];omega
theorem zkn {row d:Addr}(s:Same H0 H1)(f:Frm [row,d] H1 H2)(h:H0 row=none)(h':H0 d=none):Same H0 H2:=λb o e=>f b o (λz=>by
 rcases List.mem_cons.mp z with z | z
 ·rw[z,h] at e;cases e
 ·rw[List.mem_singleton.mp z,h'] at e;cases e) (s b o e)
inductive zg7 (K:QA) (CC:Addr) (vs:QQ) (H:Hp) (Q:L2.VK) (E:XK):Prop
 | mk (a:Addr) (ns:List Int) (_:vs=[.ref a]) (_:SqL K H a (ns.map V.int)) (_:ns.length<=63) (_:(∀H',Q (.bl true) H')) (_:Cl CC E):zg7 K CC vs H Q E
section
variable {P:Program}{w:World}{K:QA}{mg:QB}{base:Heap}{C CC:Addr}
theorem znx (D:Dfn K mg "_law_holds" zej ["script"]) (ztE:Mkr P w K mg base "Keeper" C 1 ["self"] (zeP C)) (zsr:Fn P w K mg base "_law_hand" 1 ["script","cell","k"] (zjv K)) (zL:Fn P w K mg base "_law_draw" 1 ["hand","limit"] zaR) (zq2:FnX P w K mg base "_law_state" 27 ["hand","vault"] (zg5 C CC)) (zmk:FnX P w K mg base "_law_bad_table" 28 ["hand","vault","root","tables"] (zfL C CC)) (zou:FnX P w K mg base "_law_bad_name" 28 ["hand","vault","root","tables"] (zfL C CC)) (zoM:FnX P w K mg base "_law_bad_row" 28 ["hand","vault","root","tables"] (zfL C CC))
  (zbl:mg "enumerate" =none):FnX P w K mg base "_law_holds" 29 ["script"] (zg7 K CC):=by
 refine D.okX (k:=28) (L2.fsN ["script","k","cell","hand","vault","kind","root","tables"]) (λf cdv A outer s H vs Q E hr h=>?_);obtain⟨a,ns,rfl,hS,h63,q,cl⟩:=h;have I:=vi_K C;refine⟨_,(by ac_rfl),?_⟩;refine zy (λ_ _=>True) (λN n=>?_) (fun σ H' _=>q H');refine⟨_,rfl,_,rfl,a,_,rfl,hS,λpc hpc=>?_⟩;obtain⟨ms,em,hm⟩:=znw ns none (some 24);rw[em];have s1:=zh (o:=.lst (ms.map V.int)) (Same.refl H) hpc;have e1:upd H pc (.lst (ms.map V.int)) pc=some (.lst (ms.map V.int)):=zc;generalize upd H pc (.lst (ms.map V.int))=H1 at s1 e1;refine⟨pc,_,rfl,SqL.of e1,?_⟩;refine ziy (λi σ H'=>∃(k1 k2 k3 k4 k5 k6 k7:Option V),σ=[some (.ref a),k1,k2,k3,k4,k5,k6,k7]/\Same H1 H') ⟨_,_,_,_,_,_,_,rfl,Same.refl _⟩ ?_ ?_ ?_
 ·rintro i σ H' ⟨k1,k2,k3,k4,k5,k6,k7,rfl,s'⟩;exact SqL.of (s' _ _ e1)
 ·rintro i y U σ H4 hy hU ⟨k1,k2,k3,k4,k5,k6,k7,rfl,s4⟩;obtain⟨c,rfl⟩:∃c:Int,y=.int c:=by obtain⟨c,_,e⟩:=List.mem_map.mp (List.mem_of_getElem? hy);exact⟨c,e.symm⟩
  have s5:=zh (o:=.tup [.int i,.int c]) s4 hU;have eU:upd H4 U (.tup [.int i,.int c]) U=some (.tup [.int i,.int c]):=zc;generalize upd H4 U (.tup [.int i,.int c])=H5 at s5 eU;refine⟨U,_,rfl,SqT.of eU,rfl,_,_,rfl,_,_,rfl,rfl,?_⟩;have sq:=SqL.keepS (SqL.keepS hS s1) s5;show tSeq _ _ _ _ _;refine zy (fun σ H'=>∃row,σ=[some (.ref a),some (.int i),some (.int c),some (.ref row),k4,k5,k6,k7]/\Same H5 H'/\zr H' row/\H5 row=none) (λN n=>?_) ?_
  ·exact⟨_,rfl,_,rfl,_,rfl,a,ns,c,i,rfl,sq,h63,λrow H6 s6 hd fr=>n _ _ ⟨row,rfl,s6,hd,fr⟩⟩
  rintro σ H6 ⟨row,rfl,s6,hk6,hrow⟩;refine zy (fun σ H'=>∃x d,σ=[some (.ref a),some (.int i),some (.int c),some (.ref row),some (.ref x),k5,k6,k7]/\Same H6 H'/\H6 d=none/\VK C H' x [d] ⟨[],[],[],900000⟩) (λN n=>?_) ?_
  ·intro x dx hx hdx ndx;refine zlI hx hdx ndx λd H7 s7 hd ex ed=>?_;exact n _ _ ⟨x,d,rfl,s7,hd,⟨⟨d,rfl,⟨⟨[],⟨⟨dx,_,ex,ztk d⟩,ed⟩,.nil⟩,GoodC.nil⟩⟩,rfl,by show 0+900000<=1000000;decide⟩⟩
  rintro σ H7 ⟨x,d,rfl,s7,hd,v7⟩;have hk7:=hk6.keep s7;have s57:Same H5 H7:=λb o e=>s7 b o (s6 b o e);have hd5:H5 d=none:=s6.free hd;refine zy (fun σ H'=>∃kd:Int,σ=[some (.ref a),some (.int i),some (.int c),some (.ref row),some (.ref x),some (.int kd),k6,k7]/\Frm [row,d] H7 H'/\zr H' row/\VK C H' x [d] ⟨[],[],[],900000⟩) (λN n=>?_) ?_
  ·exact⟨_,rfl,row,_,rfl,hk7,(show(0:Int) < 3 by decide),(by decide+kernel),λr H8 r0 r1 f8 hk8=>n _ _ ⟨r,rfl,zcl f8,hk8,I.nl v7 (hk7.nl f8)⟩⟩
  rintro σ H8 ⟨kd,rfl,f8,hk8,v8⟩;refine zy (fun σ H'=>∃dt i' T s' kvs,σ=[some (.ref a),some (.int i),some (.int c),some (.ref row),some (.ref x),some (.int kd),some (.int (Tr.root T)),some (.ref dt)]/\1<=i'/\i'<=3/\LRes C x dt row [d] H8 H' i' T s' kvs) (λN n=>?_) ?_
  ·refine⟨_,rfl,_,rfl,x,row,[d],_,rfl,v8,hk8,Jb _,cl,λp dt i' T s' kvs H9 i1 i3 lr ep=>?_⟩;exact⟨p,_,rfl,SqT.of ep,rfl,_,_,rfl,_,_,rfl,rfl,n _ _ ⟨dt,i',T,s',kvs,rfl,i1,i3,lr⟩⟩
  rintro σ H9 ⟨dt,i',T,s',kvs,rfl,i1,i3,lr⟩;have s19:Same H1 H9:=λb o e=>zkn s57 (f8.trans lr.fr) hrow hd5 b o (s5 b o e);have hrow9:H1 row=none:=s5.free hrow;have hd9:H1 d=none:=s5.free hd5;have fin:∀{H':Hp},Frm [row,d] H9 H'->Same H1 H':=λf=>zkn s19 f hrow9 hd9;by_cases c0:kd=0
  ·refine⟨_,rfl,rfl,_,rfl,?_⟩;rw[zu];refine ifT (decide_eq_true c0) ⟨_,rfl,_,rfl,_,rfl,_,rfl,x,dt,row,[d],H8,i',T,s',kvs,rfl,lr,i1,i3,cl,λH10 f10=>⟨_,rfl,ifF rfl ?_⟩⟩;refine⟨_,rfl,rfl,_,rfl,?_⟩;rw[zu];refine ifF (decide_eq_false (by omega)) (ifF rfl ⟨_,rfl,rfl,_,rfl,?_⟩);rw[zu];exact ifF (decide_eq_false (by omega)) (ifF rfl ⟨_,_,_,_,_,_,_,rfl,fin f10⟩)
  refine⟨_,rfl,rfl,_,rfl,?_⟩;rw[zu];refine ifF (decide_eq_false c0) (ifF rfl ?_);by_cases c1:kd=1
  ·refine⟨_,rfl,rfl,_,rfl,?_⟩;rw[zu];refine ifT (decide_eq_true c1) ⟨_,rfl,_,rfl,_,rfl,_,rfl,x,dt,row,[d],H8,i',T,s',kvs,rfl,lr,i1,i3,cl,λH10 f10=>⟨_,rfl,ifF rfl ?_⟩⟩;refine⟨_,rfl,rfl,_,rfl,?_⟩;rw[zu];exact ifF (decide_eq_false (by omega)) (ifF rfl ⟨_,_,_,_,_,_,_,rfl,fin f10⟩)
  refine⟨_,rfl,rfl,_,rfl,?_⟩;rw[zu];refine ifF (decide_eq_false c1) (ifF rfl ⟨_,rfl,rfl,_,rfl,?_⟩);rw[zu];by_cases c2:kd=2
  ·exact ifT (decide_eq_true c2) ⟨_,rfl,_,rfl,_,rfl,_,rfl,x,dt,row,[d],H8,i',T,s',kvs,rfl,lr,i1,i3,cl,λH10 f10=>⟨_,rfl,ifF rfl ⟨_,_,_,_,_,_,_,rfl,fin f10⟩⟩⟩
  ·exact ifF (decide_eq_false c2) (ifF rfl ⟨_,_,_,_,_,_,_,rfl,s19⟩)
 ·intro σ H' _;exact n _ _ trivial
end
end Pv
namespace L2
open PySem PySem.Spec PyProof.Rows Px
theorem zmZ {X:Cx}{K:QA}{f:Str}{pos:Pos}(hK:X.K=K)(he:PE X e ta)(hb:attributeBase e f X.env (eval e X.env)=eval e X.env):PE X (.Attribute e f pos) (tXG K ta f):=hK ▸ zsV he hb
end L2
namespace Pv
open PySem L2
noncomputable abbrev slaw:Stmt:=top 112
inductive zgq (K:QA) (vs:QQ) (H:Hp) (Q:L2.VK) (_E:XK):Prop
 | mk (a:Addr) (ns:List Int) (_:vs=[.ref a]) (_:SqL K H a (ns.map V.int)) (_:ns.length<=63) (_:∀H',Q (.bl true) H'):zgq K vs H Q _E
section
variable {P:Program}{w:World}{K:QA}{mg:QB}{base:Heap}{CC:Addr}
theorem zrA (F:Fun K "law" "law" slaw f fd) (zq3:FnX P w K mg base "_law_holds" 30 ["script"] (zg7 K CC)) (zon:Fn P w K mg base "seal" 13 ["thing"] zfe) (zdD:mg "Clash" =some (.ref CC)) (xc:XCls K CC) (n1:zO K CC "one") (n2:zO K CC "other")
  (em:PySem.W.exmOne K (.ref CC) (.ref CC)=some true):FnOk P w K mg base CX0 65 f fd ["script"] (zgq K):=by
 refine F.ok (k:=64) (L2.fsN ["script","clash","got","e"]) (λvs H Q E h=>?_) (λcdv A outer s H vs Q E hr h=>?_)
 ·obtain⟨a,ns,rfl,_⟩:=h;rfl
 obtain⟨a,ns,rfl,hS,h63,q⟩:=h;have ι:=0;refine⟨_,(zf (by ac_rfl)
 (zf (by ac_rfl)
 (zf (ziO (i:=3) rfl rfl (zb8 rfl) rfl rfl (by rfl) zdD (λxe pn E hx=>(by ac_rfl)) (λe=>(zx (setA 1 rfl (zn1 (zA (zmZ (K:=K) rfl (pv 3) (by rfl)) (zA (zmZ (K:=K) rfl (pv 3) (by rfl)) zam)))))))
 (zf (zaA (by ac_rfl)
 (zx (zad (za1 (zaf (zdf hr) (by ac_rfl) (by ac_rfl) (zat _)) (zcd (by ac_rfl)))))
 zM)
 (by ac_rfl))))),?_⟩
 refine⟨_,rfl,a,ns,rfl,hS,h63,λH1=>?_,λt1 t2 v1 v2 H1 x r1 r2 g1 g2 ne sn ex=>⟨CC,rfl,em,λe he=>?_⟩⟩
 ·refine⟨_,rfl,rfl,_,rfl,ifF rfl ?_⟩;exact⟨_,rfl,q H1⟩
 ·have xe:x≠e:=zj ex he;have ex2:upd H1 e (exO e CC (some x) false) x=some (xdO x [("one",v1),("other",v2)]):=by rw[zg xe];exact ex
  have gd:=g1.dp;have gd2:=g2.dp;have gn:=g1.nd;have gn2:=g2.nd;refine⟨_,rfl,e,CC,false,x,_,v1,rfl,zc,ex2,xc,n1,by rfl,_,rfl,e,CC,false,x,_,v2,rfl,zc,ex2,xc,n2,by rfl,szl (show 2<=1000 by decide),λp hp=>?_⟩;have tk:Tups H1 (upd (upd H1 e (exO e CC (some x) false)) p (.tup [v1,v2])):=(Tups.new he).trans (Tups.new hp);have ra:=r1.keep tk;have rb:=r2.keep tk;have ep:upd (upd H1 e (exO e CC (some x) false)) p (.tup [v1,v2]) p=some (.tup [v1,v2]):=zc;generalize upd (upd H1 e (exO e CC (some x) false)) p (.tup [v1,v2])=H2 at ra rb ep;have et:SqT K H2 p [v1,v2]:=SqT.of ep;refine⟨_,rfl,rfl,_,rfl,ifT rfl ?_⟩;refine⟨_,rfl,p,_,_,_,rfl,rfl,et,rfl,_,rfl,p,_,_,_,rfl,rfl,et,rfl,t1,t2,ra,rb,by omega,_,rfl,ifT (by rw[show eqT t1 t2=false from by cases z:eqT t1 t2 with | true=>exact Je ((zS _ _).mp z) ne | false=>rfl];rfl) ?_⟩;refine⟨_,rfl,p,_,_,_,rfl,rfl,et,rfl,t1,v1,rfl,ra,g1.wf,by omega,by omega,λH3 s3=>?_⟩;refine⟨_,rfl,p,_,_,_,rfl,rfl,SqT.of (s3 _ _ ep),rfl,t2,v2,rfl,rb.keep (Same.tups s3),g2.wf,by omega,by omega,λH4 s4=>?_⟩;refine⟨rfl,?_⟩;rw[sn,decide_eq_true rfl];exact q H4
end
end Pv
namespace Pv
open PySem L2
theorem zjq {K:QA}{h:Heap}{mg:QB}(x:Str)(st:Stmt)(ps:QP){f:Addr}{od an:QM}{sl:QJ}{oc kV pm ct:Value}(X:K.In h)(G:h.Ns mainGlobals mg)
  (a:PySem.W.nsIn K mainGlobals x=some (some (.ref f))) (l:K.lookup f=some ⟨oc,od,.func (PySem.W.fnOf x x (z8 st) (zH st) (zq st) .none kV dc pm an cd ct),sl⟩) (c:PySem.W.codeIn K cd x=true) (k:PySem.W.keepIn K (.ref f)=true)
  (b:∀(kV doc pm:Value) (an:QM) (cdv ct:Value) (us:QN),us.length=ps.length->bindArgs (PySem.W.fnOf x x (z8 st) (zH st) (zq st) .none kV doc pm an cdv ct) ⟨us,[]⟩=pure (ps.zip us)):Dfn K mg x st ps:=
 ⟨_,_,zbJ l c k,(zbJ l c k).binds b,PySem.W.mg_of X G a⟩
theorem zpr {K:QA}{h:Heap}{mg:QB}{i:Int}{t:Tok}(X:K.In h)(G:h.Ns mainGlobals mg)(a:PySem.W.nsIn K mainGlobals x=some (some (.int i t))):∃t,mg x=some (.int i t):=⟨t,PySem.W.mg_of X G a⟩
theorem zr0 {l:PySem.W.OpenLaw}{w:World}{K:QA}{h:Heap}{mg:QB}{fa f:Addr}{od an:QM}{sl:QJ}{oc kV dc pm cd ct:Value}(X:K.In h)(G:h.Ns mainGlobals mg)(hfa:mg "law" =some (.ref fa))
  (a:PySem.W.nsIn K mainGlobals "law" =some (some (.ref f))) (lk:K.lookup f=some ⟨oc,od,.func (PySem.W.fnOf "law" "law" (z8 slaw) (zH slaw) (zq slaw) .none kV dc pm an cd ct),sl⟩) (c:PySem.W.codeIn K cd "law" =true) (k:PySem.W.keepIn K (.ref f)=true)
  (ok:∀(base:Heap) (fd:FuncData),Fun K "law" "law" slaw f fd->FnOk l.prog w K mg base CX0 65 f fd ["script"] (zgq K)):
  ∃fd:FuncData,(∀(s:Shared) (v:Value),BindsTo s fd ⟨[v],[]⟩ [("script",v)])/\∀base:Heap,K.In base->base.Ns mainGlobals mg->FnOk l.prog w K mg base CX0 65 fa fd ["script"] (zgq K):=by
 have e:=hfa.symm.trans (PySem.W.mg_of X G a);cases e;exact⟨PySem.W.fnOf "law" "law" (z8 slaw) (zH slaw) (zq slaw) .none kV dc pm an cd ct,λs v=>.of_eq rfl,λbase _ _=>ok base _ (zbJ lk c k)⟩
theorem walk {l:PySem.W.OpenLaw}{q:Program}{loose:QP}{XP:(Str->Option Value)->Heap->Prop}{YP:World->Heap->Prop}{d:DefRec}{K:Params->QA}(hn:l.most=some 63)(hdf:d.params.defaults=[])
  (hY:∀(w:World) (h:Heap),YP w h->(K w.params).In h)
  (F:∀(w:World) (mg:QB) (fa:Addr) (h:Heap),(K w.params).In h->h.Ns mainGlobals mg->mg d.name=some (.ref fa)->
   ∃fd:FuncData,(∀(s:Shared) (u:Value),BindsTo s fd ⟨[u],[]⟩ [("script",u)])/\∀base:Heap,(K w.params).In base->base.Ns mainGlobals mg->FnOk l.prog w (K w.params) mg base CX0 65 fa fd ["script"] (zgq (K w.params))):
  PySem.W.WalkO q loose XP YP l.row.toRowW d [] (λf vs=>PySem.call f vs):=
 L2.zpX (n:=63) (k:=65) (x:= "script") (CX:=λ_=>CX0) (sp:=λw=>zgq (K w.params)) hn (by decide) hdf ⟨rfl,by decide,by decide⟩ hY F (λ_ _ a ns hl _ hS=>⟨a,ns,rfl,hS,hl,λ_=>rfl⟩) λ_ _ _ _ _ z=>z
end Pv
namespace Pv
open PySem L2
noncomputable def lt (f:Nat->Value)(i:Nat):Nat->List Value
 | 0=>[]
 | n+1=>f i::lt f (i+1) n
theorem ltx {us:QN}:∀{n i:Nat} {g:Nat->Value},us.length=n->∃f,us=lt f i n/\∀j,j < i->f j=g j:=by
 induction us with
 | nil=>intro n i g h;cases h;exact⟨g,rfl,λ_ _=>rfl⟩
 | cons a r ih=>
  intro n i g h;cases n with
  | zero=>cases h
  | succ n=>obtain⟨f,e,q⟩:=ih (i:=i+1) (g:=λj=>if j=i then a else g j) (Nat.succ.inj h);have z:=q i (Jt i);rw[if_pos rfl] at z;exact⟨f,by rw[lt,<-e,z],λj hj=>(q j (Jr hj)).trans (if_neg (Jg hj))⟩
theorem lts {us:QN}{n:Nat}(h:us.length=n):∃f,us=lt f 0 n:=
 let ⟨f,e,_⟩:=ltx (i:=0) (g:=λ_=>.none) h
 ⟨f,e⟩
noncomputable def Ds (K:QA)(mg:QB):List (Str ×Stmt ×List Str)->Prop
 | []=>True
 | (x,s,p)::r=>Dfn K mg x s p/\Ds K mg r
noncomputable def Zs (mg:QB):List Str->Prop
 | []=>True
 | x::r=>mg x=none/\Zs mg r
noncomputable def Gis (mg:QB):List (Str ×Int)->Prop
 | []=>True
 | (x,i)::r=>(∃t,mg x=some (.int i t))/\Gis mg r
noncomputable def NAs (K:QA)(C:Addr):List Str->Prop
 | []=>True
 | x::r=>zO K C x/\NAs K C r
noncomputable def Ms (K:QA)(C:Addr):List (Str ×Str ×Stmt ×List Str)->Prop
 | []=>True
 | (m,q,s,p)::r=>Mdf K C m q s p/\Ms K C r
noncomputable def Cs (K:QA)(mg:QB):List (Str ×Str ×Stmt ×List Str ×List Str ×List (Str ×Str ×Stmt ×List Str))->Prop
 | []=>True
 | (x,q,s,p,ns,ms)::r=>(∃C,Cls K C/\Mkd K mg x C q s p/\NAs K C ns/\Ms K C ms)/\Cs K mg r
theorem zsY {K:QA}{h:Heap}{C:Addr}(_:K.In h)(_:PySem.W.nsIn K mainGlobals x=some (some (.ref C)))(a:Cls K C)(b:Mkd K mg x C q s p)(c:NAs K C ns)(d:Ms K C ms)(e:Cs K mg r):Cs K mg ((x,q,s,p,ns,ms)::r):=⟨⟨C,a,b,c,d⟩,e⟩
end Pv
open PySem PySem.W PyProof.Rows
set_option maxRecDepth 100000 in
set_option maxHeartbeats 0 in
theorem PySem.Challenge.cw_papervault_k60_no_tables_no_rows_holds : PySem.Challenge.rw_papervault_k60_no_tables_no_rows.Holds := by
 refine holds_law Pv.said λsaid=>?_;refine holds_open (q:=Pv.VQ) (loose:=[]) (XP:=XL Pv.VQ []) (YP:=InK Pv.KK) Pv.left (InK.of Pv.addrs) InK.keeps (λs e=>xl_of s (Jv.mp e).1) XL.keeps (by rfl) (by rfl) (by rfl) (λs e=>recFacts_of (Jv.mp e).2) (by rfl) said (by decide+kernel) ⟨rfl,rfl,rfl,rfl,rfl,by decide+kernel⟩ ?hw ?hc
 (case hw=>w_witness2)
 k_fill
 refine Pv.walk (l:=PySem.Challenge.rw_papervault_k60_no_tables_no_rows) rfl rfl (λw h Y=>Y) ?F
 case F=>
  intro w mg fa h KX G hmg;obtain⟨zfS,zb2,zl8,zqi,zd6,zl9,zjU,zb3,zss,zqj,ziX,zfT,zma,zmb,zfU,zst,zqk,zmc,zov,zmd,zql,zjV,ziY,zhJ,zhK,zme,ziZ,zsu,zow,zjW,ztF,_⟩:Pv.Ds (L2.KOf KX) mg [("is_whole",Pv.zd1,["value"]),("has_signs_of_things",Pv.zaL,["text"]),("kind_of",Pv.ziA,["thing"]),("ahead",Pv.znm,["one","other"]),("is_tuple_ahead",Pv.zaQ,["one","other"]),("is_name",Pv.zir,["thing"]),("is_value",Pv.zf7,["thing"]),("has_signs_of_values",Pv.zaO,["text"]),("seal",Pv.zqP,["thing"]),("codes",Pv.zmN,["thing"]),("number_of",Pv.zfi,["signs"]),("node_beneath",Pv.zcJ,["vault","root","count"]),("is_node",Pv.ziz,["thing"]),("is_root",Pv.ziB,["thing"]),("size_beneath",Pv.zcI,["vault","root","count"]),("rank",Pv.zqD,["key"]),("above",Pv.zoc,["key","other"]),("side_of",Pv.ziI,["node","key"]),("way_to",Pv.zkC,["vault","root","key"]),("ends_at",Pv.zh9,["way","key"]),("found",Pv.znR,["vault","root","key"]),("is_empty",Pv.zgg,["low","high"]),("goes_left",Pv.zfK,["node","low"]),("goes_right",Pv.zep,["node","high"]),("refuse_sum",Pv.zei,["vault","node"]),("stretch",Pv.ziC,["vault","root","low","high"]),("with_tree",Pv.zfM,["node","side","root","count"]),("hung",Pv.zqU,["vault","way","key","root","more"]),("parted",Pv.zkS,["vault","way","key","root","count"]),("place_in",Pv.zge,["way","key"]),("put",Pv.sput,["vault","root","key","worth"])]:=by
   dsimp only[L2.KOf]
   iterate 31 refine⟨by refine' Pv.zjq _ _ _ KX G ?a ?l ?c ?k ?b;(case a | l | c | k=>k_is);(case b=>intro _ _ _ _ _ _ us hl;obtain⟨f,rfl⟩:=Pv.lts hl;rfl),?_⟩
   trivial
  obtain⟨zcP,zhL,zjX,zjY,zdH,zox,zqm,zjZ,zhM,zmf,zmg,zoy,zmh,zoz,zhN,zoA,zdI,zfV,zhO,zhP,zoB,zhQ,zmi,zmj,zi0,zi1,zi2,zhR,zez,zf1,zhS,_⟩:Pv.Ds (L2.KOf KX) mg [("are_columns",Pv.zbP,["given"]),("are_orders",Pv.zeq,["thing","many"]),("is_order",Pv.zgc,["thing"]),("is_table",Pv.zgf,["thing"]),("are_values",Pv.zce,["given","many"]),("row_of",Pv.zkT,["table","key","worth"]),("names",Pv.zno,["vault","root"]),("table_at",Pv.zf4,["vault","root","name"]),("columns_of",Pv.zed,["vault","root","name"]),("ordered",Pv.zin,["vault","root","name"]),("rows_in",Pv.zic,["vault","table"]),("row_in",Pv.zkE,["vault","table","value"]),("rows_of",Pv.zih,["vault","root","name"]),("row_at",Pv.zkO,["vault","root","name","value"]),("make_table",Pv.zek,["vault","root","name","columns"]),("stands",Pv.zkc,["vault","root","name"]),("number_of_order",Pv.zbz,["table","column"]),("other_orders",Pv.zcM,["table","number"]),("make_order",Pv.zee,["vault","root","name","column"]),("drop_order",Pv.zeg,["vault","root","name","column"]),("key_in",Pv.zke,["order","row"]),("order_with",Pv.zeh,["vault","order","row"]),("put_row",Pv.ziv,["vault","root","name","row"]),("cut_row",Pv.zim,["vault","root","name","value"]),("_law_hand",Pv.ze2,["script","cell","k"]),("_law_draw",Pv.zfv,["hand","limit"]),("_law_text",Pv.zfD,["hand","most"]),("_law_value",Pv.zer,["hand"]),("_law_no_table",Pv.zcc,["hand"]),("_law_no_row",Pv.zc4,["hand","key"]),("_law_asked",Pv.zes,["vault","root","name","value","way"])]:=by
   dsimp only[L2.KOf]
   iterate 31 refine⟨by refine' Pv.zjq _ _ _ KX G ?a ?l ?c ?k ?b;(case a | l | c | k=>k_is);(case b=>intro _ _ _ _ _ _ us hl;obtain⟨f,rfl⟩:=Pv.lts hl;rfl),?_⟩
   trivial
  obtain⟨zhT,zcG,zd7,zeA,zfW,zhU,_⟩:Pv.Ds (L2.KOf KX) mg [("_law_state",Pv.zef,["hand","vault"]),("_law_others_stand",Pv.za8,["vault","root","tables","gone"]),("_law_bad_table",Pv.zbX,["hand","vault","root","tables"]),("_law_bad_name",Pv.zcm,["hand","vault","root","tables"]),("_law_bad_row",Pv.zcN,["hand","vault","root","tables"]),("_law_holds",Pv.zej,["script"])]:=by
   dsimp only[L2.KOf]
   iterate 6 refine⟨by refine' Pv.zjq _ _ _ KX G ?a ?l ?c ?k ?b;(case a | l | c | k=>k_is);(case b=>intro _ _ _ _ _ _ us hl;obtain⟨f,rfl⟩:=Pv.lts hl;rfl),?_⟩
   trivial
  obtain⟨zdG,zq0,zhE,zbl,zb1,zk,zt,m_ord,zaK,zbV,zgK,zar,zdA,zq1,zE,ziS,_⟩:Pv.Zs mg ["ValueError","abs","bool","enumerate","int","isinstance","len","ord","range","reversed","set","sorted","str","sum","tuple","zip"]:=by
   iterate 16 refine⟨by refine' PySem.W.mg_none_of KX G ?z;(case z=>k_is),?_⟩
   trivial
  obtain⟨⟨_,zax⟩,⟨_,zP⟩,⟨_,zN⟩,⟨_,zaB⟩,⟨_,zaw⟩,⟨_,zay⟩,⟨_,zcr⟩,⟨_,zdB⟩,⟨_,zdC⟩,⟨_,zaq⟩,⟨_,zaP⟩,⟨_,zgJ⟩,⟨_,zag⟩,⟨_,zbs⟩,⟨_,zhF⟩,⟨_,zbk⟩,_⟩:Pv.Gis mg [("BENEATH_NONE",301),("COLUMNS",0),("COUNT",4),("KEY",0),("LEFT",2),("MOST_COLUMNS",6),("MOST_LETTERS",8),("MOST_NODES",300),("MOST_SIGNS",20),("NUMBER",0),("ORDERS",2),("PERCENT",37),("RIGHT",3),("ROWS",1),("TREE",1),("WORTH",1)]:=by
   iterate 16 refine⟨by refine' Pv.zpr KX G ?z;(case z=>k_is),?_⟩
   trivial
  obtain⟨⟨CK,cK,dI,⟨nL,_⟩,⟨dR,dL,dT,_⟩⟩,_⟩:Pv.Cs (L2.KOf KX) mg [("Keeper","Vault.__init__",Pv.zbZ,["self"],["laid"],[("refuse_clash","Vault.refuse_clash",Pv.zaX,["self","number","thing"]),("lay","Vault.lay",Pv.zeY,["self","thing"]),("thing","Vault.thing",Pv.zds,["self","number"])])]:=by
   dsimp only[L2.KOf]
   iterate 1
    refine' Pv.zsY KX ?n ?c0 ?c1 ?c2 ?c3 ?_
    (case n=>k_is)
    (case c0=>refine' L2.zra ?a ?b ?c ?d;(case a | b | c | d=>k_is))
    (case c1=>refine' L2.zrC KX G ?n ?mk ?a ?fn ?l ?c ?k ?kc ?b;(case n | mk | a | fn | l | c | k | kc=>k_is);(case b=>intro _ _ _ _ _ _ us hl;obtain⟨f,rfl⟩:=Pv.lts hl;rfl))
    (case c2=>(repeat refine⟨by unfold L2.zO;k_is,?_⟩);trivial)
    (case c3=>(repeat refine⟨by refine' L2.zr7 ?a ?fn ?l ?c ?k ?b;(case a | fn | l | c | k=>k_is);(case b=>intro _ _ _ _ _ _ us hl;obtain⟨f,rfl⟩:=Pv.lts hl;rfl),?_⟩);trivial)
   trivial
  obtain⟨CVaultError,CNoName,CNoTable,CNoColumn,CNoRow,CBadThing,CClash,CNoPaper,CNoQuestion,CNoPlan,CNoStep,CNotSo,CNoState,zdF,ziU,zbE,zfR,zkY,zcZ,zdD,zgM,zdE,ziV,ziW,zkZ,zgN,ak,nt,e6,eT,xB,xN,xT,xC,n1,n2⟩:∃CVaultError CNoName CNoTable CNoColumn CNoRow CBadThing CClash CNoPaper CNoQuestion CNoPlan CNoStep CNotSo CNoState,mg "VaultError" =some (.ref CVaultError)/\mg "NoName" =some (.ref CNoName)/\mg "NoTable" =some (.ref CNoTable)/\mg "NoColumn" =some (.ref CNoColumn)/\mg "NoRow" =some (.ref CNoRow)/\mg "BadThing" =some (.ref CBadThing)/\mg "Clash" =some (.ref CClash)/\mg "NoPaper" =some (.ref CNoPaper)/\mg "NoQuestion" =some (.ref CNoQuestion)/\mg "NoPlan" =some (.ref CNoPlan)/\mg "NoStep" =some (.ref CNoStep)/\mg "NotSo" =some (.ref CNotSo)/\mg "NoState" =some (.ref CNoState)/\Pv.AskK (L2.KOf KX) CVaultError CBadThing [.ref CClash,.ref CNoColumn,.ref CNoName,.ref CNoPaper,.ref CNoPlan,.ref CNoQuestion,.ref CNoRow,.ref CNoState] [.ref CNoStep,.ref CNoTable,.ref CNotSo]/\Pv.NTk (L2.KOf KX) CNoState/\PySem.W.exmOne (L2.KOf KX) (.ref CClash) (.ref CClash)=some true/\PySem.W.exmOne (L2.KOf KX) (.ref CNoTable) (.ref CNoTable)=some true/\L2.XP (L2.KOf KX) mg "BadThing" CBadThing/\L2.XP (L2.KOf KX) mg "NoPaper" CNoPaper/\L2.XP (L2.KOf KX) mg "NoTable" CNoTable/\L2.XId (L2.KOf KX) mg "Clash" CClash "Clash.__init__" Pv.zaS ["self","one","other"]/\L2.zO (L2.KOf KX) CClash "one" /\L2.zO (L2.KOf KX) CClash "other" :=by
   dsimp only[L2.KOf];refine' L2.zai KX (x:= "VaultError") ?n0 (L2.zai KX (x:= "NoName") ?n1 (L2.zai KX (x:= "NoTable") ?n2 (L2.zai KX (x:= "NoColumn") ?n3 (L2.zai KX (x:= "NoRow") ?n4 (L2.zai KX (x:= "BadThing") ?n5 (L2.zai KX (x:= "Clash") ?n6 (L2.zai KX (x:= "NoPaper") ?n7 (L2.zai KX (x:= "NoQuestion") ?n8 (L2.zai KX (x:= "NoPlan") ?n9 (L2.zai KX (x:= "NoStep") ?n10 (L2.zai KX (x:= "NotSo") ?n11 (L2.zai KX (x:= "NoState") ?n12 (?r)))))))))))))
   (case n0 | n1 | n2 | n3 | n4 | n5 | n6 | n7 | n8 | n9 | n10 | n11 | n12=>k_is)
   and_intros
   all_goals first
    | (refine' PySem.W.mg_of KX G ?z;(case z=>k_is))
    | (unfold L2.zO;k_is)
    | (refine'⟨?cl,?ei,?m⟩;(case cl=>refine' L2.zeC ?xq ?xo ?xs ?xg ?xh ?xk;(case xq=>kernel_rfl);(case xo=>kernel_rfl);(case xs | xg | xh | xk=>k_is));(case ei=>kernel_rfl);(case m=>refine' PySem.W.mg_of KX G ?z;(case z=>k_is)))
    | (refine' L2.zrO (qual:= "Clash.__init__") (st:=Pv.zaS) (ps:=["self","one","other"]) KX G ?n ?cl ?a ?fn ?l ?c ?k ?b;(case n=>k_is);(case cl=>refine' L2.zeC ?xq ?xo ?xs ?xg ?xh ?xk;(case xq=>kernel_rfl);(case xo=>kernel_rfl);(case xs | xg | xh | xk=>k_is));(case a | fn | l | c | k=>k_is);(case b=>intro _ _ _ _ _ _ us hl;obtain⟨f,rfl⟩:=Pv.lts hl;rfl))
    | (refine'⟨?kd,?k1,?k2,?k3,?k4,?k5,?he⟩;(case kd=>refine'⟨?cl,?ha,?hn,?ht,?hm⟩;(case cl=>refine' L2.zeC ?xq ?xo ?xs ?xg ?xh ?xk;(case xq=>kernel_rfl);(case xo=>kernel_rfl);(case xs | xg | xh | xk=>k_is));(case ha=>k_is);(case hn=>first | k_is | kernel_rfl);(case ht=>first | k_is | kernel_rfl);(case hm=>first | k_is | kernel_rfl));(case k1=>kernel_rfl);(case k2=>kernel_rfl);(case k3=>kernel_rfl);(case k4=>kernel_rfl);(case k5=>kernel_rfl);(case he=>k_is))
    | (refine'⟨?kd,?k0,?k1,?k2,?k3,?k4,?k5⟩;(case kd=>refine'⟨?cl,?ha,?hn,?ht,?hm⟩;(case cl=>refine' L2.zeC ?xq ?xo ?xs ?xg ?xh ?xk;(case xq=>kernel_rfl);(case xo=>kernel_rfl);(case xs | xg | xh | xk=>k_is));(case ha=>k_is);(case hn=>first | k_is | kernel_rfl);(case ht=>first | k_is | kernel_rfl);(case hm=>first | k_is | kernel_rfl));(case k0=>kernel_rfl);(case k1=>kernel_rfl);(case k2=>kernel_rfl);(case k3=>kernel_rfl);(case k4=>kernel_rfl);(case k5=>kernel_rfl))
    | (kernel_rfl)
  refine' Pv.zr0 KX G hmg ?a ?l ?c ?k ?ok
  (case a | l | c | k=>k_is)
  case ok=>
   intro base fd F;have zbW:=Pv.zpn (P:=Pv.PQ) (w:=w) (base:=base) zi1;have zsv:=Pv.zoV (P:=Pv.PQ) (w:=w) (base:=base) zi0 zq1;have zsw:=Pv.zsj zi2 zbW zaK zt;have zhV:=Pv.zsk zhR zbW zsw;have ztG:=Pv.zhD (P:=Pv.PQ) (w:=w) (base:=base) ziX m_ord;have zqn:=Pv.ziw zqj ztG zk zb1 zdA zaK zt 10;have zj0:=Pv.zp4 zss zqn;have zsx:=Pv.zp6 (P:=Pv.PQ) (w:=w) (base:=base) zl8 zk zb1 zdA;have zcF:=Pv.zh3 zqi zd6 zsx ziS zt zk zE 9;have zqo:=Pv.zmJ (P:=Pv.PQ) (w:=w) (base:=base) xC n1 n2;have zsy:=Pv.zm8 (P:=Pv.PQ) (w:=w) (base:=base) dI cK nL;have zoC:=Pv.zlB dR zqo cK nL;have ztH:=Pv.zsh dL zoC zj0 cK nL;have zoD:=Pv.zlv (P:=Pv.PQ) (w:=w) (base:=base) dT xN cK nL;have zhW:=Pv.zlU (P:=Pv.PQ) (w:=w) (base:=base) zfS zk zb1 zhE;have zj1:=Pv.zmX zmb zhW;have zoE:=Pv.zlS zma zj1 zhW zk zE zt zaB zbk zaw zag zN zdB;have zsz:=Pv.zo6 zst zj0;have zqp:=Pv.znc zqk zsz zcF;have zj2:=Pv.zmn zmc zcF zaB zaw zag;have zoF:=Pv.zmT (P:=Pv.PQ) (w:=w) (base:=base) ziZ zaB zbk zaw zag;have zoG:=Pv.znv (P:=Pv.PQ) (w:=w) (base:=base) zmd zaB zt;have zqq:=Pv.zlW zjW zqp zaB zbl zt;have zqr:=Pv.zle zjV zcF;have ztP:=Pv.zls ziY zcF zaB;have ztQ:=Pv.zlf zhJ zcF zaB;have vi:=Pv.vi_K CK;have M1:=Pv.zpv zoD;have M2:=Pv.zs0 ztH;have zoH:=Pv.zo9 (CC:=CClash) vi zfT M1 cK zoE xB zN;have zsA:=Pv.zln vi zfU zoH zN;have zq4:=Pv.zpz vi zov zoH zj2 zaB zN zax;have zk0:=Pv.zlY vi zql zq4 zoG zbk;have zsB:=Pv.zoh (CN:=CNoPaper) (CB:=CBadThing) vi zsu M2 cK zoF zj2 zN zbV;have zoI:=Pv.zjg (CN:=CNoPaper) (CB:=CBadThing) vi zow M2 cK zoF zj2 zN zaw zag zbV;have zdJ:=Pv.zoX vi ztF zq4 zoG M2 cK zsB zoI zqq zN zaw zag zt;have ztI:=Pv.zpT vi zhK zsA xB zaw zag zN;have zq5:=Pv.zoZ vi zme zqr zoH ztP ztQ ztI zcF zaB zbk zaw zag zN zax zt;have zfX:=Pv.znP (P:=Pv.PQ) (w:=w) (base:=base) nt zl9 zk zdA zt zcr;have zoJ:=Pv.zlr (P:=Pv.PQ) (w:=w) (base:=base) nt zfS zk zb1 zhE;have zqs:=Pv.zll (P:=Pv.PQ) (w:=w) (base:=base) zb2 m_ord zgJ;have ztR:=Pv.zs1 zb3 zqs;have zq6:=Pv.zrc nt zjU zoJ ztR zk zdA zt zq0 zdC;have zqt:=Pv.zmm zcP zfX zt zgK zay;have zqu:=Pv.zni zcP zfX zt zgK zay;have zsC:=Pv.zpl zjX zhW zj1 zk zE zt zaq zhF;have zqv:=Pv.znV zhL zsC zk zE zaq;have zqw:=Pv.znj zdH zq6 zt;have zqx:=Pv.znq zdH zq6 zt;have ztJ:=Pv.zpm zjY zqu zj1 zqv zk zE zt zP zbs zaP;have zk1:=Pv.znb zox zqx xB zk zE zt zP;have zdJ:=L2.FnX.mono zdJ (by decide:23<=24);have zaz:=Pv.zpH vi zjZ zk0 zfX ztJ xT xB;have zk2:=Pv.zpU zhM zaz zP;have zhX:=Pv.zol vi zoy zk0 zk1 zbs;have zi3:=Pv.zne vi zmg zq5 zk1 zbs;have zi4:=Pv.zjB vi zmh zaz zi3;have zk3:=Pv.zlz vi zoz zaz zhX;have zk4:=Pv.zlt vi zqm zq5 zfX xB;have zoK:=Pv.zjo vi zoA zaz zbE eT;have zsD:=Pv.zmt vi zhN zfX zqt zoK zdJ zE;have zsE:=Pv.zri (P:=Pv.PQ) (w:=w) (base:=base) zdI zP;have zsF:=Pv.zoR (P:=Pv.PQ) (w:=w) (base:=base) zfV zaP zaq;have zqy:=Pv.zmH (P:=Pv.PQ) (w:=w) (base:=base) zoB zaq;have zsG:=Pv.zpa vi zhQ zdJ zqy zaq zhF;have zq7:=Pv.zro vi zhO zaz zsE zi3 zsG zsF zdJ zE zar zP zbs;have zi5:=Pv.zk9 vi zmi zaz zqw zhX zdJ zE zt zP zbs zaP;have zsH:=Pv.zpD zmf zaz zaP;have zsI:=Pv.zpi zhP zaz;have zsJ:=Pv.zpG vi zmj zaz zhX;have zqz:=Pv.zmL zez zbW;have zqA:=Pv.zna zf1 zbW zb1;have zj3:=Pv.zpw vi zhS zk2 zsH zi4 zk3 zaz zq7 zsI zi5 zsJ zk4 ak zdD zfR ziU zgM ziV zdE zkY zgN ziW zbE zkZ zcZ zdF zk zdG;have zqB:=Pv.zmO zhT zbW zhV zsD zi5 zq7 zaK zE;have zoL:=Pv.zrY zcG zk2 zi4 zt;have zsK:=Pv.zoQ zd7 zbW zhV zdJ zqz zj3 zoL zaK zt zar;have zsL:=Pv.zoS zeA zbW zdJ zj3 zoL;have zsM:=Pv.zo0 zfW zbW zhV zdJ zqA zj3 zoL zaz zk3 zk4 zt zar;have zqC:=Pv.znx zhU zsy zsv zbW zqB zsK zsL zsM zbl;exact Pv.zrA F (L2.FnX.mono zqC (by decide)) zj0 zdD xC.cl n1 n2 e6
#print axioms PySem.Challenge.cw_papervault_k60_no_tables_no_rows_holds
