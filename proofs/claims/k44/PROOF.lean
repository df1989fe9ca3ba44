import PyProof.Rows.All
import Wide.All
import OpenK.AllK
import Wide.FinOn
import Lean
import PyProof.EqAt
import PyProof.EqKinds
import PyProof.TupleCall
import PyProof.NeKinds
import PyProof.FactsAll.list
import PyProof.ListMulRoad
import PyProof.FactsAll.tuple
import PyProof.Rows.TupAdd
import PyProof.StationsW
import PyProof.RulesAs
import OpenK.KOwn
import OpenK.KMake
import PyProof.ExcClass3
import PyProof.ExcInit
import PyProof.InstStoreFacts
import PyProof.ExcAttrAll.ValueError
import PyProof.NsDelKeeps
import KE.KTryMore
import KE.KIsAll
import KE.KDictSum
import PyProof.Rows.SortWalk
import PyProof.StrOps2
import PyProof.WalkInts
import OpenK.KCls
import PyProof.DictWalks
import KE.KRevIter
import PyProof.ListNew
import PyProof.EnumMake
import PyProof.EnumFor
import PyProof.SeqI3
import KE.KEqDict
import PyProof.InstEq
import PyProof.FactsAll.NoneType_1
import PyProof.DictRoadsH
import PyProof.Rows.CountFlat
import PyProof.ConsumeWalk
import PyProof.ListRange
import PyProof.TupleOfStr
import PySem.Challenge.RW_papervault_k44_papers_spoilt
local macro_rules | `(tactic| lia) => `(tactic| first | assumption | decide | lia (splits:=9) | omega)
set_option compiler.extract_closed false
set_option Elab.async false
set_option linter.all false
set_option maxRecDepth 100000
set_option maxHeartbeats 4000000
open Option renaming some->Y,none->U
open Bool renaming true->Z,false->G
open PySem renaming Stmt->aB,Value->aD,Addr->aE,Heap->aF,Program->aG,World->aH,Shared->aM,sizeLine->aQ,mainGlobals->aR,Around->aU,wpAny->aW,Expr->aX,model->aY,eval->aZ,backTo->a6,starEach->a7,wpAny_mono->a8,compareOp->a9,wpAny_truthy_bool->ba,wpAny_holding->bb,wpAny_pure->bc,cLine->bn,wpAny_Call_Name_kw->bo,mem_of_lookup->bq,wpAny_field->bv,wpAny_callSpecial?_slot->bw,wpAny_call_entry->bA,wpAny_newObj_type->bB
open PySem.W.Fast renaming tw10110043849684766642->aI,tw14364793385576792824->aJ,te10110043849684766642->aK,te14364793385576792824->aL
open Sum renaming inl->aN
open PySem.Value renaming none->aO,ref->aP,builtin->bD
open Ne renaming symm->aV
open PySem.W renaming findIn->bd,emptyDict->be,keepIn->bf,kitOne->bg,kia_one->bj,callWith_K->bp,fnOf->br
open PySem.Str renaming ofString->bz
open PySem.Obj renaming mapFields->bC
open PySem.Builtin.SmallTypes renaming nextOf->bE,ownedTupleIsFree->bF
open PySem.Builtin.Tuple renaming tupleHashOf->bG
theorem O.{u} {α:Sort u}{a:α}:a=a:=rfl
theorem au.{u} {c:Prop}{i:Decidable c}(h:¬c){α:Sort u}{t e:α}:(if c then t else e)=e:=if_neg h
theorem av.{u} {c:Prop}{i:Decidable c}(h:c){α:Sort u}{t e:α}:(if c then t else e)=t:=if_pos h
theorem aw {p:Prop}[i:Decidable p](h:p):decide p=true:=decide_eq_true h
open Lean in
local macro_rules | `(⟨$a,*⟩)=>do
  let h ← `(_)
  let r ← `(rfl)
  let q ← `(?_)
  let e ← `(∅)
  let b:=a.getElems
  if b.size==0 then `(fun _ _ _ _ $(mkIdent `s) $(mkIdent `H) $(mkIdent `vs) $(mkIdent `Q) $(mkIdent `E) $(mkIdent `hr) $(mkIdent `h)=>?_) else
  let c:=b.flatMap fun x=>match x.raw.getId with
    | `B=>#[h,r]
    | `aj=>#[h,h,h,r,r]
    | `am=>#[h,h,r,r]
    | `ao=>#[r,h,r,q]
    | `ap=>#[h,r,h,r]
    | `aq=>#[h,e,q]
    | `ar=>#[h,r,q]
    | _=>#[x]
  if c.size==b.size then Macro.throwUnsupported else `(⟨$c,*⟩)
local macro_rules | `(())=> `(by lia)
local macro_rules | `(∅)=> `(by ac_rfl)
namespace L2
open PySem
def inClass (s:aB)(j:Nat):aB:=match s with
 | .ClassDef _ _ _ body _ _ _ _ _ _ _=>body.getD j (.Pass ⟨0,0,0,0⟩)
 | _=>.Pass ⟨0,0,0,0⟩
def zT (s:aB):Arguments:=match s with
 | .FunctionDef _ a _ _ _ _ _ _ _ _=>a
 | _=>{posonlyargs:=[],args:=[],vararg:=U,kwonlyargs:=[],kw_defaults:=[],kwarg:=U,defaults:=[]}
def zG (s:aB):List aB:=match s with
 | .FunctionDef _ _ b _ _ _ _ _ _ _=>b
 | _=>[]
def zq (s:aB):Scope:=match s with
 | .FunctionDef _ _ _ _ _ _ sc _ _ _=>sc
 | _=>{kind:=.function,names:=[],isGenerator:=G,isCoroutine:=G}
end L2
namespace Pv
open PySem
def top (i:Nat):aB:=PySem.Challenge.pw_papervault_k44_papers_spoilt.main.body.getD i (.Pass ⟨0,0,0,0⟩)
end Pv
namespace Pv
open PySem PySem.W
abbrev dE (P:Params)(x:Str)(t:Nat)(v:aD):DictEntry:=DictEntry.mk (PyData.keyHash P x) (.str x t) v
abbrev cO (n:Str)(a:Nat)(q:Str)(b c:Nat)(l x y z w:Int)(r:aE)(g:Bool)(r2:aE)(e1 e2 e3 e4:aD)(t m:Int)(d:Nat):Obj:=.mk (.type "code") U (.fields #[.str n a,.str q b,.str "/claim/cut.py" c,.int l 0,.int x 0,.int y 0,.int z 0,.int w 0,.ref r,.bool g,.int 181 0,.ref r2,e1,e2,e3,e4,.int t 0,.int m 0,.str "/claim/cut.py" d]) #[]
abbrev _root_.QN:=Option aE
abbrev fO (c:aD)(n q:Str)(st:aB)(g:aE)(cl:List (Str ×aE))(df kd doc md:aD)(an:QN)(cd ct:aD)(bl:aE):Obj:=.mk c U (.func (.mk n q (L2.zT st) (.stmts (L2.zG st)) (L2.zq st) g cl df kd doc md an cd ct bl)) #[]
abbrev f0 (n q:Str)(st:aB):Obj:=fO .none n q st 0 [] .none .none .none .none U .none .none 0
abbrev f1 (n q:Str)(st:aB)(m:Str)(k:Nat)(r:aE):Obj:=fO (.type "function") n q st 3 [] .none .none .none (.str m k) U (.ref r) .none 0
abbrev tO (a:Array aD):Obj:=.mk (.type "tuple") U (.seq a) #[]
abbrev dO (a:Array DictEntry)(n:Nat):Obj:=.mk (.type "dict") U (.dict a n) #[]
abbrev fi (a:Array aD):Obj:=.mk .none U (.fields a) #[]
abbrev fy (x:String)(a:Array aD):Obj:=.mk (.type x) U (.fields a) #[]
abbrev fr (c d:aE)(v:aD):Obj:=.mk (.type "frame") U .plain #[Y (.ref c),Y (.ref 3),Y (.ref d),U,Y v,U,Y (.ref 0)]
abbrev HBT:=List (List Obj ×List Obj)
def nm (t:Nat):List Str->List aD
 | []=>[]
 | x::r=>.str x t::nm (t+1) r
def cs (i:Int):List (Int ×Nat)->List aD
 | []=>[]
 | (l,a)::r=>.int l 0::.int i 0::.ref a::cs i r
def ka:HBT->List Obj
 | []=>[]
 | x::r=>x.1++ka r
def kb:HBT->List Obj
 | []=>[]
 | x::r=>x.2++kb r
def sp:List Obj->List Obj ×List Obj
 | []=>([],[])
 | x::r=>(x::(sp r).2,(sp r).1)
def bt:Nat->List Obj->BT
 | 0,_=>.nil
 | _+1,[]=>.nil
 | n+1,x::r=>.node x (bt n (sp r).1) (bt n (sp r).2)
def wv (i:Nat):List (Nat ×Nat)->List Obj->List Obj->List Obj
 | [],a,_=>a
 | (p,n)::r,a,b=>a.take (p - i)++(b.take n++wv (p+n) r (a.drop (p - i)) (b.drop n))
def rgs:List (Nat ×Nat)->List Nat
 | []=>[]
 | (a,n)::r=>List.range' a n++rgs r
def kz:List aE->List Obj->Frag
 | a::r,o::s=>(a,o)::kz r s
 | _,_=>[]
noncomputable section
abbrev _root_.QQ:=List Str
def dl (a t:Nat)(l p:Int)(n q:Str)(st:aB)(ns:QQ)(m:aD):List Obj ×List Obj:=([tO #[],tO (nm (t+3) ns).toArray,tO #[],cO n t q (t+1) (t+2) l p 0 0 3 a Z (a+1) .none (.ref (a+2)) (.ref (a+3)) (.ref (a+4)) (t+3+ns.length:Nat) l (t+4+ns.length),fO (.type "function") n q st 3 [] .none .none .none m U (.ref (a+5)) .none 0],[fi #[],f0 n q st])
def dt (a t:Nat)(l p:Int)(n:Str)(i:Nat)(ns:QQ)(m:aD):List Obj ×List Obj:=dl a t l p n n (Pv.top i) ns m
def ds (a t:Nat)(l p:Int)(n q:Str)(st:aB)(m:aD):List Obj ×List Obj:=([tO #[],cO n t q (t+1) (t+2) l p 0 0 3 a Z (a+1) .none .none .none (.ref (a+2)) (t+3:Nat) l (t+4),fO (.type "function") n q st 3 [] .none .none .none m U (.ref (a+3)) .none 0],[fi #[],f0 n q st])
def mE (P:Params):List (Str ×Nat ×Int ×Nat)->List DictEntry
 | []=>[]
 | (x,t,l,a)::r=>dE P x t (.ref (a+1))::mE P r
def mC:List (Str ×Nat ×Int ×Nat)->List (Int ×Nat)
 | []=>[]
 | (_,_,l,a)::r=>(l,a)::mC r
variable (P:Params)
abbrev _root_.QO:=List aD
def cl (m:aD)(a t:Nat)(n:Str)(l:Int)(ms:List (Str ×Nat ×Int ×Nat))(p s:Nat)(at':QO)(body:HBT)(K0 O0:List Obj)(b mr sb:QO)(z:Option aD)(nw:String)(ge:List DictEntry)(gs:List Obj)(dn:Nat)(d:Nat):HBT:=
 (K0,O0++ [fy "builtin_function_or_method" #[.builtin "type.__prepare__",.type "type"],dO (dE P "__module__" (t+7) m::dE P "__qualname__" (t+9) (.str n (t+8))::dE P "__firstlineno__" (t+11) (.int l (t+10))::(mE P ms++ [dE P "__static_attributes__" s (.ref p)])).toArray (ms.length+4),tO #[],fi (cs 4 (mC ms)).toArray,cO n (t+2) n (t+3) (t+4) l 0 0 0 0 (a+3) G (a+4) .none .none .none .none (t+5:Nat) l (t+6),fr (a+5) (a+2) m])::(body++ [([tO at'.toArray,dO (dE P "__module__" (t+7) m::dE P "__firstlineno__" (t+11) (.int l (t+10))::(mE P ms++(dE P "__static_attributes__" s (.ref p)::(ge++ [dE P "__doc__" d .none])))).toArray dn,.mk (.type "type") U (.cls (ClassData.mk n b (.ref (p+2)::mr) (p+1) n Z [] sb G U G)) #[z,U,Y (.str n t),Y (.str n (t+8)),Y (.builtin nw),Y (.bool Z)]]++gs,[fy "super" #[.ref (p+2),.ref (p+2),.ref (p+2)],fy "builtin_function_or_method" #[.builtin "object.__init_subclass__",.ref (p+2)]])])
def gD (p c t:Nat):Obj:=fy "getset_descriptor" #[.str "__dict__" t,.ref c,.builtin "function.__dict__",.builtin "function.__dict__#set"]
def gW (c t:Nat):Obj:=fy "getset_descriptor" #[.str "__weakref__" t,.ref c,.builtin "ExceptionGroup.__weakref__",.none]
def c0 (m:aD)(a t:Nat)(n:Str)(l:Int)(ms:List (Str ×Nat ×Int ×Nat))(p s:Nat)(at':QO)(sb:QO)(body:HBT):HBT:=cl P m a t n l ms p s at' body [] [tO #[]] [.type "object"] [.type "object"] sb U "object.__new__" [dE P "__dict__" (s+2) (.ref (p+3)),dE P "__weakref__" (s+4) (.ref (p+4))] [gD p (p+2) (s+1),gW (p+2) (s+3)] 4 (s+5)
def c1 (m:aD)(a t:Nat)(n:Str)(l:Int)(ms:List (Str ×Nat ×Int ×Nat))(p s:Nat)(at':QO)(b:Nat)(body:HBT):HBT:=cl P m a t n l ms p s at' body [tO #[.ref b]] [] [.ref b] [.ref b,.type "object"] [] (Y (.ref a)) "object.__new__" [] [] 2 (s+1)
def c2 (m:aD)(a t:Nat)(n:Str)(l:Int)(ms:List (Str ×Nat ×Int ×Nat))(p s:Nat)(at':QO)(body:HBT):HBT:=cl P m a t n l ms p s at' body [tO #[.ref 24]] [] [.ref 24] [.ref 24,.type "ValueError",.type "Exception",.type "BaseException",.type "object"] [] (Y (.ref a)) "ValueError.__new__" [] [] 2 (s+1)
def c3 (m:aD)(a t:Nat)(n:Str)(l:Int)(p s:Nat):HBT:=c2 P m a t n l [] p s [] []
def mm0:aD:=.str "papervault.errors" 187
def mm1:aD:=.str "papervault.seals" 458
def mm2:aD:=.str "papervault.things" 484
def mm3:aD:=.str "papervault.vaults" 559
def mm4:aD:=.str "papervault.papers" 720
def mm5:aD:=.str "papervault.nodes" 742
def mm6:aD:=.str "papervault.trees" 816
def mm7:aD:=.str "papervault.asks" 1031
def mm8:aD:=.str "law_papervault_k44_papers_spoilt" 1303
noncomputable def GE:List DictEntry:=[dE P "__doc__" 166 .none,dE P "__package__" 167 .none,dE P "__loader__" 168 (.builtin "__main__.__loader__#opaque"),dE P "__spec__" 169 .none,dE P "__annotations__" 170 (.ref 6),dE P "__builtins__" 171 (.ref 4),dE P "__file__" 173 (.str "/claim/cut.py" 172),dE P "__cached__" 174 .none,dE P "VaultError" 206 (.ref 24),dE P "NoThing" 222 (.ref 37),dE P "NoPaper" 238 (.ref 49),dE P "BadThing" 254 (.ref 61),dE P "Clash" 281 (.ref 80),dE P "NotOn" 297 (.ref 92),dE P "NoState" 313 (.ref 104),dE P "NoName" 329 (.ref 116),dE P "NoTable" 345 (.ref 128),dE P "NoColumn" 361 (.ref 140),dE P "NoRow" 377 (.ref 152),dE P "NoQuestion" 393 (.ref 164),dE P "NoPlan" 409 (.ref 176),dE P "NoStep" 425 (.ref 188),dE P "NotSo" 441 (.ref 200),dE P "NoCommand" 457 (.ref 212),dE P "seal" 468 (.ref 221),dE P "codes" 474 (.ref 226),dE P "number_of" 483 (.ref 233),dE P "MOST_SIGNS" 487 (.int 60 486),dE P "MOST_PARTS" 489 (.int 40 488),dE P "MOST_DEEP" 491 (.int 5 490),dE P "PERCENT" 493 (.int 37 492),dE P "is_whole" 500 (.ref 240),dE P "is_thing" 507 (.ref 247),dE P "is_thing_within" 515 (.ref 254),dE P "is_tuple_within" 524 (.ref 261),dE P "has_signs_of_things" 532 (.ref 268),dE P "kind_of" 539 (.ref 275),dE P "ahead" 548 (.ref 282),dE P "is_tuple_ahead" 558 (.ref 289),dE P "rising" 566 (.ref 294),dE P "Vault" 620 (.ref 332),dE P "Keeper" 643 (.ref 353),dE P "Reader" 694 (.ref 393),dE P "Witness" 719 (.ref 412),dE P "answer_with_paper" 732 (.ref 421),dE P "checked" 741 (.ref 428),dE P "KEY" 745 (.int 0 744),dE P "WORTH" 747 (.int 1 746),dE P "LEFT" 749 (.int 2 748),dE P "RIGHT" 751 (.int 3 750),dE P "COUNT" 753 (.int 4 752),dE P "MOST_NODES" 755 (.int 300 754),dE P "BENEATH_NONE" 757 (.int 301 756),dE P "node_beneath" 767 (.ref 435),dE P "is_node" 774 (.ref 442),dE P "is_root" 781 (.ref 449),dE P "size" 789 (.ref 456),dE P "size_beneath" 798 (.ref 463),dE P "rank" 805 (.ref 470),dE P "above" 815 (.ref 477),dE P "side_of" 825 (.ref 484),dE P "way_to" 837 (.ref 491),dE P "ends_at" 845 (.ref 498),dE P "found" 855 (.ref 505),dE P "is_empty" 863 (.ref 512),dE P "goes_left" 871 (.ref 519),dE P "goes_right" 879 (.ref 526),dE P "refuse_sum" 889 (.ref 533),dE P "stretch" 903 (.ref 540),dE P "count_ahead" 914 (.ref 547),dE P "counted" 925 (.ref 554),dE P "nth" 937 (.ref 561),dE P "with_tree" 947 (.ref 568),dE P "hung" 959 (.ref 575),dE P "parted" 975 (.ref 582),dE P "place_in" 985 (.ref 589),dE P "put" 1001 (.ref 596),dE P "cut" 1012 (.ref 603),dE P "joined" 1030 (.ref 610),dE P "Ask" 1061 (.ref 627),dE P "Find" 1095 (.ref 655),dE P "Stretch" 1131 (.ref 681),dE P "Count" 1167 (.ref 707),dE P "Nth" 1201 (.ref 733),dE P "Put" 1237 (.ref 759),dE P "Cut" 1271 (.ref 785),dE P "Also" 1302 (.ref 809),dE P "_law_row" 1312 (.ref 818),dE P "_law_take" 1321 (.ref 825),dE P "_law_text" 1327 (.ref 830),dE P "_law_thing" 1333 (.ref 835),dE P "_law_first" 1339 (.ref 840),dE P "_law_some" 1347 (.ref 847),dE P "_law_sorted" 1353 (.ref 852),dE P "_law_grown" 1367 (.ref 859),dE P "_law_within" 1379 (.ref 866),dE P "_law_key" 1387 (.ref 873),dE P "_law_ask" 1399 (.ref 880),dE P "_law_caught" 1410 (.ref 887),dE P "_law_is_bad" 1420 (.ref 894),dE P "_law_clashes" 1432 (.ref 901),dE P "_law_second" 1438 (.ref 906),dE P "_law_shifted" 1444 (.ref 911),dE P "_law_put" 1454 (.ref 918),dE P "_law_unread" 1460 (.ref 923),dE P "_law_twin" 1466 (.ref 928),dE P "_law_right" 1480 (.ref 935),dE P "_law_held" 1495 (.ref 942),dE P "law" 1505 (.ref 949)]
noncomputable def CT:List (Int ×Nat):=[(2,20),(4,33),(6,45),(8,57),(10,69),(15,88),(17,100),(19,112),(21,124),(23,136),(25,148),(27,160),(29,172),(31,184),(33,196),(35,208),(38,220),(43,225),(56,232),(66,239),(68,246),(70,253),(78,260),(85,267),(90,274),(98,281),(107,288),(113,293),(115,300),(134,342),(138,361),(161,401),(170,420),(174,427),(184,434),(189,441),(197,448),(199,455),(201,462),(205,469),(207,476),(214,483),(216,490),(227,497),(229,504),(232,511),(234,518),(236,525),(238,532),(243,539),(264,546),(273,553),(280,560),(298,567),(302,574),(306,581),(319,588),(324,595),(335,602),(341,609),(362,616),(366,637),(373,663),(381,689),(389,715),(396,741),(404,767),(411,793),(419,817),(424,824),(431,829),(438,834),(451,839),(459,846),(464,851),(472,858),(487,865),(493,872),(497,879),(515,886),(522,893),(529,900),(536,905),(544,910),(551,917),(554,922),(563,927),(575,934),(587,941),(599,948)]
noncomputable def HB:HBT:=[([.mk .none U (.dict #[]) #[],dO (dE P "__name__" 165 (.str "law_papervault_k44_papers_spoilt" 1303)::GE P).toArray 110],[boot_o_0 P,boot_o_1 P,boot_o_4 P,boot_o_5 P,boot_o_6 P,boot_o_7 P,boot_o_8 P,boot_o_9 P,boot_o_10 P,boot_o_7 P,fi (cs 0 CT).toArray,cO "<module>" 182 "<module>" 183 184 1 0 0 0 0 11 G 12 .none .none .none .none 185 1 186,.mk (.type "frame") U .plain #[Y (.ref 13),Y (.ref 3),Y (.ref 3),U,Y (.str "__main__" 164),U,Y (.ref 0)]])]
++cl P mm0 15 189 "VaultError" 2 [] 22 201 [] [] [tO #[.type "ValueError"]] [] [.type "ValueError"] [.type "ValueError",.type "Exception",.type "BaseException",.type "object"] [.ref 37,.ref 49,.ref 61,.ref 80,.ref 92,.ref 104,.ref 116,.ref 128,.ref 140,.ref 152,.ref 164,.ref 176,.ref 188,.ref 200,.ref 212] (Y (.ref 15)) "ValueError.__new__" [dE P "__weakref__" 203 (.ref 25)] [gW 24 202] 3 204
++c3 P mm0 28 207 "NoThing" 4 35 219
++c3 P mm0 40 223 "NoPaper" 6 47 235
++c3 P mm0 52 239 "BadThing" 8 59 251
++c2 P mm0 64 255 "Clash" 10 [("__init__",275,12,76)] 78 278 [.str "one" 276,.str "other" 277] [dl 71 267 12 3 "__init__" "Clash.__init__" (L2.inClass (Pv.top 5) 0) ["self","one","other"] mm0]
++c3 P mm0 83 282 "NotOn" 15 90 294
++c3 P mm0 95 298 "NoState" 17 102 310
++c3 P mm0 107 314 "NoName" 19 114 326
++c3 P mm0 119 330 "NoTable" 21 126 342
++c3 P mm0 131 346 "NoColumn" 23 138 358
++c3 P mm0 143 362 "NoRow" 25 150 374
++c3 P mm0 155 378 "NoQuestion" 27 162 390
++c3 P mm0 167 394 "NoPlan" 29 174 406
++c3 P mm0 179 410 "NoStep" 31 186 422
++c3 P mm0 191 426 "NotSo" 33 198 438
++c3 P mm0 203 442 "NoCommand" 35 210 454
++ [dt 215 460 38 1 "seal" 18 ["thing","folded","code"] mm1,
ds 222 469 43 1 "codes" "codes" (Pv.top 19) mm1,
dt 227 475 56 1 "number_of" 20 ["signs","number","sign"] mm1,
dt 234 494 66 1 "is_whole" 26 ["value"] mm2,
dt 241 501 68 1 "is_thing" 27 ["thing"] mm2,
dt 248 508 70 2 "is_thing_within" 28 ["thing","deep"] mm2,
dt 255 516 78 2 "is_tuple_within" 29 ["parts","deep","part"] mm2,
dt 262 525 85 1 "has_signs_of_things" 30 ["text","sign"] mm2,
dt 269 533 90 1 "kind_of" 31 ["thing"] mm2,
dt 276 540 98 2 "ahead" 32 ["one","other","kind"] mm2,
dt 283 549 107 2 "is_tuple_ahead" 33 ["one","other","mine","its"] mm2,
ds 290 561 113 1 "rising" "rising" (Pv.top 35) mm3]
++c0 P mm3 295 567 "Vault" 115 [("__init__",585,117,307),("refuse_clash",594,120,314),("lay",603,124,321),("thing",611,130,328)] 330 613 [.str "laid" 612] [.ref 353,.ref 393,.ref 412] [dl 302 579 117 1 "__init__" "Vault.__init__" (L2.inClass (Pv.top 36) 0) ["self"] mm3,dl 309 586 120 3 "refuse_clash" "Vault.refuse_clash" (L2.inClass (Pv.top 36) 1) ["self","number","thing"] mm3,dl 316 595 124 2 "lay" "Vault.lay" (L2.inClass (Pv.top 36) 2) ["self","thing","number"] mm3,dl 323 604 130 2 "thing" "Vault.thing" (L2.inClass (Pv.top 36) 3) ["self","number"] mm3]
++c1 P mm3 337 621 "Keeper" 134 [("things",639,136,349)] 351 640 [] 332 [dl 344 633 136 1 "things" "Keeper.things" (L2.inClass (Pv.top 37) 0) ["self"] mm3]
++c1 P mm3 356 644 "Reader" 138 [("__init__",663,140,368),("lay",672,145,375),("thing",681,152,382),("paper",688,159,389)] 391 691 [.str "keeper" 689,.str "noted" 690] 332 [dl 363 656 140 2 "__init__" "Reader.__init__" (L2.inClass (Pv.top 38) 0) ["self","keeper"] mm3,dl 370 664 145 2 "lay" "Reader.lay" (L2.inClass (Pv.top 38) 1) ["self","thing","number"] mm3,dl 377 673 152 2 "thing" "Reader.thing" (L2.inClass (Pv.top 38) 2) ["self","number","read"] mm3,dl 384 682 159 1 "paper" "Reader.paper" (L2.inClass (Pv.top 38) 3) ["self"] mm3]
++c1 P mm3 396 695 "Witness" 161 [("__init__",715,163,408)] 410 716 [] 332 [dl 403 707 163 2 "__init__" "Witness.__init__" (L2.inClass (Pv.top 39) 0) ["self","paper","thing"] mm3]
++ [dt 415 722 170 3 "answer_with_paper" 41 ["keeper","root","ask","reader","answer"] mm4,
dt 422 733 174 3 "checked" 42 ["root","ask","paper"] mm4,
dt 429 758 184 3 "node_beneath" 51 ["vault","root","count","node"] mm5,
dt 436 768 189 1 "is_node" 52 ["thing"] mm5,
dt 443 775 197 1 "is_root" 53 ["thing"] mm5,
dt 450 782 199 2 "size" 54 ["vault","root"] mm5,
dt 457 790 201 3 "size_beneath" 55 ["vault","root","count"] mm5,
dt 464 799 205 1 "rank" 56 ["key"] mm5,
dt 471 806 207 2 "above" 57 ["key","other","mine","its"] mm5,
dt 478 818 214 2 "side_of" 59 ["node","key"] mm6,
dt 485 826 216 3 "way_to" 60 ["vault","root","key","way","count","node"] mm6,
dt 492 838 227 2 "ends_at" 61 ["way","key"] mm6,
dt 499 846 229 3 "found" 62 ["vault","root","key","way"] mm6,
dt 506 856 232 2 "is_empty" 63 ["low","high"] mm6,
dt 513 864 234 2 "goes_left" 64 ["node","low"] mm6,
dt 520 872 236 2 "goes_right" 65 ["node","high"] mm6,
dt 527 880 238 2 "refuse_sum" 66 ["vault","node","left","right"] mm6,
dt 534 890 243 4 "stretch" 67 ["vault","root","low","high","pairs","begun","count","node"] mm6,
dt 541 904 264 3 "count_ahead" 68 ["vault","root","key","many","node"] mm6,
dt 548 915 273 4 "counted" 69 ["vault","root","low","high","many"] mm6,
dt 555 926 280 3 "nth" 70 ["vault","root","number","count","node","left"] mm6,
dt 562 938 298 4 "with_tree" 71 ["node","side","root","count"] mm6,
dt 569 948 302 5 "hung" 72 ["vault","way","key","root","more","node"] mm6,
dt 576 960 306 5 "parted" 73 ["vault","way","key","root","count","left","left_count","right","right_count","node"] mm6,
dt 583 976 319 2 "place_in" 74 ["way","key","number","node"] mm6,
dt 590 986 324 4 "put" 75 ["vault","root","key","worth","way","own","new","place","trees","count"] mm6,
dt 597 1002 335 3 "cut" 76 ["vault","root","key","way","own"] mm6,
dt 604 1013 341 4 "joined" 77 ["vault","left","right","count","left_count","right_count","down","one","other","both","root","step"] mm6]
++c0 P mm7 611 1033 "Ask" 362 [("answer",1053,364,623)] 625 1054 [] [.ref 655,.ref 681,.ref 707,.ref 733,.ref 759,.ref 785,.ref 809] [dl 618 1045 364 3 "answer" "Ask.answer" (L2.inClass (Pv.top 79) 0) ["self","vault","root"] mm7]
++c1 P mm7 632 1062 "Find" 366 [("__init__",1081,368,644),("answer",1090,371,651)] 653 1092 [.str "key" 1091] 627 [dl 639 1074 368 2 "__init__" "Find.__init__" (L2.inClass (Pv.top 80) 0) ["self","key"] mm7,dl 646 1082 371 3 "answer" "Find.answer" (L2.inClass (Pv.top 80) 1) ["self","vault","root"] mm7]
++c1 P mm7 658 1096 "Stretch" 373 [("__init__",1116,375,670),("answer",1125,379,677)] 679 1128 [.str "high" 1126,.str "low" 1127] 627 [dl 665 1108 375 3 "__init__" "Stretch.__init__" (L2.inClass (Pv.top 81) 0) ["self","low","high"] mm7,dl 672 1117 379 3 "answer" "Stretch.answer" (L2.inClass (Pv.top 81) 1) ["self","vault","root"] mm7]
++c1 P mm7 684 1132 "Count" 381 [("__init__",1152,383,696),("answer",1161,387,703)] 705 1164 [.str "high" 1162,.str "low" 1163] 627 [dl 691 1144 383 3 "__init__" "Count.__init__" (L2.inClass (Pv.top 82) 0) ["self","low","high"] mm7,dl 698 1153 387 3 "answer" "Count.answer" (L2.inClass (Pv.top 82) 1) ["self","vault","root"] mm7]
++c1 P mm7 710 1168 "Nth" 389 [("__init__",1187,391,722),("answer",1196,394,729)] 731 1198 [.str "number" 1197] 627 [dl 717 1180 391 2 "__init__" "Nth.__init__" (L2.inClass (Pv.top 83) 0) ["self","number"] mm7,dl 724 1188 394 3 "answer" "Nth.answer" (L2.inClass (Pv.top 83) 1) ["self","vault","root"] mm7]
++c1 P mm7 736 1202 "Put" 396 [("__init__",1222,398,748),("answer",1231,402,755)] 757 1234 [.str "key" 1232,.str "worth" 1233] 627 [dl 743 1214 398 3 "__init__" "Put.__init__" (L2.inClass (Pv.top 84) 0) ["self","key","worth"] mm7,dl 750 1223 402 3 "answer" "Put.answer" (L2.inClass (Pv.top 84) 1) ["self","vault","root"] mm7]
++c1 P mm7 762 1238 "Cut" 404 [("__init__",1257,406,774),("answer",1266,409,781)] 783 1268 [.str "key" 1267] 627 [dl 769 1250 406 2 "__init__" "Cut.__init__" (L2.inClass (Pv.top 85) 0) ["self","key"] mm7,dl 776 1258 409 3 "answer" "Cut.answer" (L2.inClass (Pv.top 85) 1) ["self","vault","root"] mm7]
++c1 P mm7 788 1272 "Also" 411 [("__init__",1291,413,800),("answer",1297,416,805)] 807 1299 [.str "asks" 1298] 627 [dl 795 1284 413 2 "__init__" "Also.__init__" (L2.inClass (Pv.top 86) 0) ["self","asks"] mm7,ds 802 1292 416 3 "answer" "Also.answer" (L2.inClass (Pv.top 86) 1) mm7]
++ [dt 812 1305 419 1 "_law_row" 88 ["cell","low"] mm8,
dt 819 1313 424 2 "_law_take" 89 ["row","many","got"] mm8,
ds 826 1322 431 1 "_law_text" "_law_text" (Pv.top 90) mm8,
ds 831 1328 438 2 "_law_thing" "_law_thing" (Pv.top 91) mm8,
ds 836 1334 451 1 "_law_first" "_law_first" (Pv.top 92) mm8,
dt 841 1340 459 1 "_law_some" 93 ["row","new"] mm8,
([],[boot_o_7 P,boot_o_8 P,f0 "_law_sorted" "_law_sorted" (Pv.top 94),cO "_law_sorted" 1348 "_law_sorted" 1349 1350 464 1 0 0 3 848 Z 849 .none .none .none (.ref 850) 1351 464 1352,f1 "_law_sorted" "_law_sorted" (Pv.top 94) "law_papervault_k44_papers_spoilt" 1303 851]),
dt 853 1354 472 4 "_law_grown" 95 ["keeper","cells","pool","plain","root","cell","row","key"] mm8,
([],[boot_o_7 P,boot_o_8 P,tO #[.str "pairs" 1371,.str "low" 1372,.str "high" 1373,.str "some" 1374,.str "key" 1375,.str "worth" 1376],boot_o_7 P,f0 "_law_within" "_law_within" (Pv.top 96),cO "_law_within" 1368 "_law_within" 1369 1370 487 3 0 0 3 860 Z 861 .none (.ref 862) (.ref 863) (.ref 864) 1377 487 1378,f1 "_law_within" "_law_within" (Pv.top 96) "law_papervault_k44_papers_spoilt" 1303 865]),
dt 867 1380 493 2 "_law_key" 97 ["row","pool"] mm8,
dt 874 1388 497 2 "_law_ask" 98 ["row","pool","kind","low","high","key"] mm8,
dt 881 1400 515 3 "_law_caught" 99 ["root","ask","paper","caught","e"] mm8,
dt 888 1411 522 3 "_law_is_bad" 100 ["root","ask","paper","e"] mm8,
dt 895 1421 529 5 "_law_clashes" 101 ["root","ask","paper","one","other","e"] mm8,
ds 902 1433 536 1 "_law_second" "_law_second" (Pv.top 102) mm8,
ds 907 1439 544 2 "_law_shifted" "_law_shifted" (Pv.top 103) mm8,
dt 912 1445 551 3 "_law_put" 104 ["row","paper","new","at"] mm8,
ds 919 1455 554 4 "_law_unread" "_law_unread" (Pv.top 105) mm8,
ds 924 1461 563 4 "_law_twin" "_law_twin" (Pv.top 106) mm8,
dt 929 1467 575 5 "_law_right" 107 ["row","root","ask","answer","paper","odds","at","shifted"] mm8,
dt 936 1481 587 1 "_law_held" 108 ["script","keeper","cells","pool","root","cell","row","ask","told"] mm8,
dt 943 1496 599 1 "law" 109 ["script","caught","right","e"] mm8]
noncomputable def RL:List (Nat ×Nat):=[(2,2),(15,1),(22,4),(28,1),(35,3),(40,1),(47,3),(52,1),(59,3),(64,1),(71,1),(73,2),(76,5),(83,1),(90,3),(95,1),(102,3),(107,1),(114,3),(119,1),(126,3),(131,1),(138,3),(143,1),(150,3),(155,1),(162,3),(167,1),(174,3),(179,1),(186,3),(191,1),(198,3),(203,1),(210,3),(215,1),(217,2),(220,3),(225,3),(229,2),(232,3),(236,2),(239,3),(243,2),(246,3),(250,2),(253,3),(257,2),(260,3),(264,2),(267,3),(271,2),(274,3),(278,2),(281,3),(285,2),(288,3),(293,2),(302,1),(304,2),(307,3),(311,2),(314,3),(318,2),(321,3),(325,2),(328,7),(337,1),(344,1),(346,2),(349,5),(356,1),(363,1),(365,2),(368,3),(372,2),(375,3),(379,2),(382,3),(386,2),(389,5),(396,1),(403,1),(405,2),(408,5),(415,1),(417,2),(420,3),(424,2),(427,3),(431,2),(434,3),(438,2),(441,3),(445,2),(448,3),(452,2),(455,3),(459,2),(462,3),(466,2),(469,3),(473,2),(476,3),(480,2),(483,3),(487,2),(490,3),(494,2),(497,3),(501,2),(504,3),(508,2),(511,3),(515,2),(518,3),(522,2),(525,3),(529,2),(532,3),(536,2),(539,3),(543,2),(546,3),(550,2),(553,3),(557,2),(560,3),(564,2),(567,3),(571,2),(574,3),(578,2),(581,3),(585,2),(588,3),(592,2),(595,3),(599,2),(602,3),(606,2),(609,2),(618,1),(620,2),(623,7),(632,1),(639,1),(641,2),(644,3),(648,2),(651,5),(658,1),(665,1),(667,2),(670,3),(674,2),(677,5),(684,1),(691,1),(693,2),(696,3),(700,2),(703,5),(710,1),(717,1),(719,2),(722,3),(726,2),(729,5),(736,1),(743,1),(745,2),(748,3),(752,2),(755,5),(762,1),(769,1),(771,2),(774,3),(778,2),(781,5),(788,1),(795,1),(797,2),(800,3),(805,5),(812,1),(814,2),(817,3),(821,2),(824,3),(829,3),(834,3),(839,3),(843,2),(846,2),(853,1),(855,2),(858,2),(867,1),(869,2),(872,3),(876,2),(879,3),(883,2),(886,3),(890,2),(893,3),(897,2),(900,3),(905,3),(910,3),(914,2),(917,3),(922,3),(927,3),(931,2),(934,3),(938,2),(941,3),(945,2),(948,2)]
abbrev _root_.QP:=List aE
noncomputable def KA:List aE:=by
 refine(?g:(f:QP)->f=rgs RL->List aE) ?f ?pf
 case g=>exact λf _=>f
 case pf=>
  conv=>rhs;reduce
noncomputable def KO:List Obj:=by
 refine(?g:(f:List Obj)->f=ka (HB P)->List Obj) ?f ?pf
 case g=>exact λf _=>f
 case pf=>
  dsimp only[HB,GE,CT,dt,dl,ds,mE,mC,cl,gD,gW,c0,c1,c2,c3,nm,cs,mm0,mm1,mm2,mm3,mm4,mm5,mm6,mm7,mm8,ka,List.cons_append,List.nil_append,List.append_nil,List.length_cons,List.length_nil,Nat.reduceAdd,Int.cast_ofNat_Int]
  rfl
noncomputable def KK:Params->Frag:=λP=>by
 refine(?g:(f:Frag)->f=kz KA (KO P)->Frag) ?f ?pf
 case g=>exact λf _=>f
 case pf=>
  conv=>rhs;delta KA KO;(repeat (whnf;arg 2));whnf
noncomputable def FL:List Obj:=wv 0 RL (kb (HB P)) ((KK P).map (·.2))
noncomputable def T0:BT:=bt 12 ((((FL P).take 15).set 3 (dO (dE P "__name__" 165 (.str "__main__" 164)::(GE P).take 8).toArray 9)).set 12 (boot_o_8 P))
noncomputable def T1:BT:=bt 12 (((((FL P).take 119).set 3 (dO (dE P "__name__" 165 (.str "papervault.errors" 187)::(GE P).take 16).toArray 17)).set 12 (fi (cs 0 (CT.take 8)).toArray)).set 24 (.mk (.type "type") U (.cls (ClassData.mk "VaultError" [.type "ValueError"] [.ref 24,.type "ValueError",.type "Exception",.type "BaseException",.type "object"] 23 "VaultError" Z [] [.ref 37,.ref 49,.ref 61,.ref 80,.ref 92,.ref 104,.ref 116] G U G)) #[Y (.ref 15),U,Y (.str "VaultError" 189),Y (.str "VaultError" 197),Y (.builtin "ValueError.__new__"),Y (.bool Z)]))
noncomputable def T2:BT:=bt 12 ((((FL P).take 227).set 3 (dO (dE P "__name__" 165 (.str "papervault.seals" 458)::(GE P).take 26).toArray 27)).set 12 (fi (cs 0 (CT.take 18)).toArray))
noncomputable def T3:BT:=bt 12 ((((FL P).take 464).set 3 (dO (dE P "__name__" 165 (.str "papervault.nodes" 742)::(GE P).take 58).toArray 59)).set 12 (fi (cs 0 (CT.take 39)).toArray))
noncomputable def T4z:BT:=bt 12 (((((FL P).take 710).set 3 (dO (dE P "__name__" 165 (.str "papervault.asks" 1031)::(GE P).take 83).toArray 84)).set 12 (fi (cs 0 (CT.take 64)).toArray)).set 627 (.mk (.type "type") U (.cls (ClassData.mk "Ask" [.type "object"] [.ref 627,.type "object"] 626 "Ask" Z [] [.ref 655,.ref 681,.ref 707] G U G)) #[U,U,Y (.str "Ask" 1033),Y (.str "Ask" 1041),Y (.builtin "object.__new__"),Y (.bool Z)]))
def T5:BT:=bt 12 (FL P)
noncomputable def HF:aF:={objs:=⟨FL P⟩}
end
noncomputable abbrev PQ:aG:=PySem.Challenge.rw_papervault_k44_papers_spoilt.prog
noncomputable def VQ:aG:={PySem.Challenge.pw_papervault_k44_papers_spoilt with main:={PySem.Challenge.pw_papervault_k44_papers_spoilt.main with body:=[top 1,top 2,top 3,top 4,top 5,top 6,top 7,top 8,top 9,top 10,top 11,top 12,top 13,top 14,top 15,top 16,top 18,top 19,top 20,top 22,top 23,top 24,top 25,top 26,top 27,top 28,top 29,top 30,top 31,top 32,top 33,top 35,top 36,top 37,top 38,top 39,top 41,top 42,top 44,top 45,top 46,top 47,top 48,top 49,top 50,top 51,top 52,top 53,top 54,top 55,top 56,top 57,top 59,top 60,top 61,top 62,top 63,top 64,top 65,top 66,top 67,top 68,top 69,top 70,top 71,top 72,top 73,top 74,top 75,top 76,top 77,top 79,top 80,top 81,top 82,top 83,top 84,top 85,top 86,top 88,top 89,top 90,top 91,top 92,top 93,top 94,top 95,top 96,top 97,top 98,top 99,top 100,top 101,top 102,top 103,top 104,top 105,top 106,top 107,top 108,top 109]}}
noncomputable abbrev RQ:OpenRow:=OpenLaw.row PySem.Challenge.rw_papervault_k44_papers_spoilt
noncomputable def EV:Env:={scope:=RQ.prog.main.scope,locals:=mainNs,globals:=mainNs,cells:=[],code:=.ref 13,frame:=Y 14}
noncomputable abbrev BQ:List aB:=behindTheImports RQ.prog
noncomputable abbrev CQ:Code:=.body BQ EV
noncomputable abbrev TQ:List Frame:=[topFrame ⟨0,0,0,0⟩]
noncomputable abbrev ST (t:BT)(n k:Nat)(os:OsState):SharedT:=⟨t,n,{}, #[],{},k,os⟩
theorem go0 (w:aH):(λos=>topGo treeTable RQ.prog w 11 (Y (.ref 6)) 12 {heap:=boot_heap w.params,drawn:=boot_drawn,toks:=boot_toks,os:=os} (topStub RQ.prog))=λos=>Y ((ST (T0 w.params) 15 187 os).abs,⟨denote treeTable CQ,CQ,⟨0,0,0,0⟩,TQ⟩):=by kernel_rfl
theorem go1 (w:aH):(λos=>segRun treeTable RQ.prog w 11 (Y (.ref 6)) 1 1 (ST (T0 w.params) 15 187 os).abs (blockOf BQ EV CQ ⟨0,0,0,0⟩ TQ))=λos=>Y (Flow.next,(ST (T0 w.params) 15 187 os).abs,CQ,⟨0,0,0,0⟩):=by kernel_rfl
theorem pc1 (w:aH):(λos=>aI aJ RQ.prog w 11 (Y (.ref 6)) 1 1737 (ST (T0 w.params) 15 187 os) (piecesOf (BQ.take 9) EV CQ ⟨0,0,0,0⟩ TQ))=λos=>Y (Flow.next,ST (T1 w.params) 119 330 os,CQ,⟨19,0,20,8⟩):=by kernel_rfl
theorem sg1 (w:aH)(os:OsState):segRunT treeTable RQ.prog w 11 (Y (.ref 6)) 1 1737 (ST (T0 w.params) 15 187 os) (piecesOf (BQ.take 9) EV CQ ⟨0,0,0,0⟩ TQ)=Y (Flow.next,ST (T1 w.params) 119 330 os,CQ,⟨19,0,20,8⟩):=by rw[aK,aL];exact congrFun (pc1 w) os
theorem pc2 (w:aH):(λos=>aI aJ RQ.prog w 11 (Y (.ref 6)) 1 1789 (ST (T1 w.params) 119 330 os) (piecesOf ((BQ.drop 9).take 11) EV CQ ⟨19,0,20,8⟩ TQ))=λos=>Y (Flow.next,ST (T2 w.params) 227 475 os,CQ,⟨43,0,55,14⟩):=by kernel_rfl
theorem sg2 (w:aH)(os:OsState):segRunT treeTable RQ.prog w 11 (Y (.ref 6)) 1 1789 (ST (T1 w.params) 119 330 os) (piecesOf ((BQ.drop 9).take 11) EV CQ ⟨19,0,20,8⟩ TQ)=Y (Flow.next,ST (T2 w.params) 227 475 os,CQ,⟨43,0,55,14⟩):=by rw[aK,aL];exact congrFun (pc2 w) os
theorem pc3 (w:aH):(λos=>aI aJ RQ.prog w 11 (Y (.ref 6)) 1 1842 (ST (T2 w.params) 227 475 os) (piecesOf (((BQ.drop 9).drop 11).take 36) EV CQ ⟨43,0,55,14⟩ TQ))=λos=>Y (Flow.next,ST (T3 w.params) 464 799 os,CQ,⟨201,0,204,50⟩):=by kernel_rfl
theorem sg3 (w:aH)(os:OsState):segRunT treeTable RQ.prog w 11 (Y (.ref 6)) 1 1842 (ST (T2 w.params) 227 475 os) (piecesOf (((BQ.drop 9).drop 11).take 36) EV CQ ⟨43,0,55,14⟩ TQ)=Y (Flow.next,ST (T3 w.params) 464 799 os,CQ,⟨201,0,204,50⟩):=by rw[aK,aL];exact congrFun (pc3 w) os
theorem pc4 (w:aH):(λos=>aI aJ RQ.prog w 11 (Y (.ref 6)) 1 1805 (ST (T3 w.params) 464 799 os) (piecesOf ((((BQ.drop 9).drop 11).drop 36).take 27) EV CQ ⟨201,0,204,50⟩ TQ))=λos=>Y (Flow.next,ST (T4z w.params) 710 1168 os,CQ,⟨381,0,388,56⟩):=by kernel_rfl
theorem sg4 (w:aH)(os:OsState):segRunT treeTable RQ.prog w 11 (Y (.ref 6)) 1 1805 (ST (T3 w.params) 464 799 os) (piecesOf ((((BQ.drop 9).drop 11).drop 36).take 27) EV CQ ⟨201,0,204,50⟩ TQ)=Y (Flow.next,ST (T4z w.params) 710 1168 os,CQ,⟨381,0,388,56⟩):=by rw[aK,aL];exact congrFun (pc4 w) os
theorem pc5 (w:aH):(λos=>aI aJ RQ.prog w 11 (Y (.ref 6)) 1 1822 (ST (T4z w.params) 710 1168 os) (piecesOf (((((BQ.drop 9).drop 11).drop 36).drop 27).take 27) EV CQ ⟨381,0,388,56⟩ TQ))=λos=>Y (Flow.next,ST (T5 w.params) 950 1506 os,CQ,⟨599,0,608,16⟩):=by kernel_rfl
theorem sg5 (w:aH)(os:OsState):segRunT treeTable RQ.prog w 11 (Y (.ref 6)) 1 1822 (ST (T4z w.params) 710 1168 os) (piecesOf (((((BQ.drop 9).drop 11).drop 36).drop 27).take 27) EV CQ ⟨381,0,388,56⟩ TQ)=Y (Flow.next,ST (T5 w.params) 950 1506 os,CQ,⟨599,0,608,16⟩):=by rw[aK,aL];exact congrFun (pc5 w) os
noncomputable abbrev SF (w:aH)(os:OsState):aM:={heap:=HF w.params,toks:=1506,os:=os}
theorem goN (w:aH):(λos=>topRun treeTable RQ.prog w 11 (Y (.ref 6)) 3 (ST (T5 w.params) 950 1506 os).abs ⟨doneF Flow.next,CQ,⟨599,0,608,16⟩,TQ⟩)=λos=>Y (SF w os):=by kernel_rfl
theorem goE:(((((BQ.drop 9).drop 11).drop 36).drop 27).drop 27)=[]:=by kernel_rfl
theorem goA {r:aM}{b:List aB}(k:Nat)(h:topRun treeTable RQ.prog w 11 (Y (.ref 6)) N s (restOf (b.take k++b.drop k) EV CQ q TQ)=Y r):topRun treeTable RQ.prog w 11 (Y (.ref 6)) N s (restOf b EV CQ q TQ)=Y r:=by rwa[List.take_append_drop] at h
theorem runs (w:aH)(os:OsState):topRun treeTable RQ.prog w 11 (Y (.ref 6)) (12+(1+(1737+(1789+(1842+(1805+(1822+(3)))))))) {heap:=boot_heap w.params,drawn:=boot_drawn,toks:=boot_toks,os:=os} (topStub RQ.prog)=Y (SF w os):=by refine go_top (congrFun (go0 w) os) ?_;refine piece_block (congrFun (go1 w) os) ?_;refine goA 9 ?_;refine piece_app (segRun_of (sg1 w os)) ?_;refine goA 11 ?_;refine piece_app (segRun_of (sg2 w os)) ?_;refine goA 36 ?_;refine piece_app (segRun_of (sg3 w os)) ?_;refine goA 27 ?_;refine piece_app (segRun_of (sg4 w os)) ?_;refine goA 27 ?_;refine piece_app (segRun_of (sg5 w os)) ?_;rw[goE];exact piece_nil (congrFun (goN w) os)
noncomputable abbrev SQ (s:aM):=PySem.W.Fast.tw4187177175401517315 VQ [] [] (λs=>xlAt VQ [] s && recOk (RowW.records (OpenRow.toRowW RQ)) s) Z s
theorem zuu:[]=importedModules RQ.prog.main.body:=by kernel_rfl
theorem opn (w:aH):(fencedOpening treeTable RQ.prog w 9011).map (λs=>(s.heap,s.gens,s.drawn,s.toks))=Y (boot_heap w.params, #[],boot_drawn,boot_toks):=by kernel_rfl
theorem obs0 (w:aH)(os:OsState):(staticsOk [] (boot_heap w.params) (HF w.params) && namesBound RQ.prog (HF w.params) && gensDone (SF w os) && laidKept (boot_heap w.params) (HF w.params))=Z:=by kernel_rfl
theorem obs1 (w:aH)(os:OsState):(SQ (SF w os)).1=(openGood VQ []).1:=by kernel_rfl
theorem obs2 (w:aH)(os:OsState):(SQ (SF w os)).2.1=(openGood VQ []).2.1:=by kernel_rfl
theorem obs3 (w:aH)(os:OsState):(SQ (SF w os)).2.2.1=(openGood VQ []).2.2.1:=by kernel_rfl
theorem obs4 (w:aH)(os:OsState):(SQ (SF w os)).2.2.2.1=(openGood VQ []).2.2.2.1:=by kernel_rfl
theorem obs5 (w:aH)(os:OsState):(SQ (SF w os)).2.2.2.2.1=(openGood VQ []).2.2.2.2.1:=by kernel_rfl
theorem obs6 (w:aH)(os:OsState):(SQ (SF w os)).2.2.2.2.2=(openGood VQ []).2.2.2.2.2:=by kernel_rfl
theorem obs7 (w:aH):KA.map (HF w.params).get? =(KK w.params).map λp=>Y p.2:=by kernel_rfl
theorem left:LeftO RQ.prog VQ [] (λs=>xlAt VQ [] s && recOk (RowW.records (OpenRow.toRowW RQ)) s) (λs=>KA.map s.heap.get?) (λw=>(KK w.params).map λp=>Y p.2) 9011:=by refine LeftO.of_pieces (H₀:=boot_heap) (H₁:=HF) (gs₀:= #[]) (gs₁:= #[]) (d₀:=boot_drawn) (d₁:={}) (k₀:=boot_toks) (k₁:=1506) (m₀:=11) (ann:=Y (.ref 6)) (M:=12+(1+(1737+(1789+(1842+(1805+(1822+(3)))))))) opn (λw=>by kernel_rfl) runs (by kernel_rfl) λw=>funext λos=>?_;rw[<-zuu];refine Prod.ext (obs0 w os) (Prod.ext ?_ (obs7 w));rw[PySem.W.Fast.te4187177175401517315];exact Prod.ext (obs1 w os) (Prod.ext (obs2 w os) (Prod.ext (obs3 w os) (Prod.ext (obs4 w os) (Prod.ext (obs5 w os) (obs6 w os)))))
theorem addrs:∀P,KA=(KK P).map (·.1):=λP=>by kernel_rfl
theorem said:PySem.Challenge.rw_papervault_k44_papers_spoilt.wellSaid=Z:=by kernel_rfl
end Pv
namespace L2
open PySem PySem.Spec PyProof.Rows
abbrev Key:=Sum Int Str
def zgd:Key->aD->Bool
 | .inl k,v=>Value.isInt k v
 | .inr x,v=>Value.isStrOf x v
def keyH (w:aH):Key->Int
 | .inl k=>hashInt k
 | .inr x=>hashStr w x
theorem zR:∀{k:Key}{v:aD},zgd k v=Z->(∃i t,k=aN i/\v=Value.int i t)\/(∃x t,k=Sum.inr x/\v=Value.str x t)
 | .inl i,v,h=>by obtain⟨t,e⟩:=Value.isInt_shape (k:=i) (v:=v) h;exact .inl ⟨i,t,O,e⟩
 | .inr x,v,h=>by obtain⟨t,e⟩:=Value.isStrOf_shape (x:=x) (v:=v) h;exact .inr ⟨x,t,O,e⟩
def zmV (i:Int)(t:Tok):zgd (.inl i) (.int i t)=Z:=by simp[zgd,Value.isInt]
def zmT (x:Str)(t:Tok):zgd (.inr x) (.str x t)=Z:=by simp[zgd,Value.isStrOf]
def _root_.Jc:=@decide_eq_false
theorem zs2 (a b:Int):decide ((aN a:Key)=aN b)=(a==b):=by
 by_cases e:a=b
 ·subst e;simp
 ·have h:¬(aN a:Key)=aN b:=λq=>e (Sum.inl.inj q);rw[Jc h];exact(beq_eq_false_iff_ne.mpr e).symm
theorem zse (a b:Str):decide ((Sum.inr a:Key)=Sum.inr b)=decide (a=b):=by
 by_cases e:a=b
 ·subst e;simp
 ·have h:¬(Sum.inr a:Key)=Sum.inr b:=λq=>e (Sum.inr.inj q);rw[Jc h,Jc e]
theorem zr6 (a:Int)(b:Str):decide ((aN a:Key)=Sum.inr b)=G:=Jc (λq=>nomatch q)
theorem zsi (a:Str)(b:Int):decide ((Sum.inr a:Key)=aN b)=G:=Jc (λq=>nomatch q)
def zad (prog:aG)(w:aH):PySem.KeyKind prog w Key where
 is:=zgd
 hash:=keyH w
 inj:=λv a b ha hb=>by
  rcases zR ha with ⟨i,t,rfl,rfl⟩ | ⟨x,t,rfl,rfl⟩
  ·rcases zR hb with ⟨j,u,rfl,e⟩ | ⟨y,u,rfl,e⟩
   ·injection e with e1 _;rw[e1]
   ·exact nomatch e
  ·rcases zR hb with ⟨j,u,rfl,e⟩ | ⟨y,u,rfl,e⟩
   ·exact nomatch e
   ·injection e with e1 _;rw[e1]
 byValue:=λk v h=>by rcases zR h with ⟨i,t,rfl,rfl⟩ | ⟨x,t,rfl,rfl⟩ <;> rfl
 pyHash:=λhv h=>by
  rcases zR hv with ⟨i,t,rfl,rfl⟩ | ⟨x,t,rfl,rfl⟩
  ·exact wpAny_pyHash_int h
  ·exact wpAny_pyHash_str h
 eqBool:=λhu hv h=>by
  rcases zR hu with ⟨i,t,rfl,rfl⟩ | ⟨x,t,rfl,rfl⟩
  ·rcases zR hv with ⟨j,u,rfl,rfl⟩ | ⟨y,u,rfl,rfl⟩
   ·rw[zs2] at h;exact wpAny_eqBool_int h
   ·rw[zr6] at h;exact SeqAt.EqAt.int_str i t y u _ _ _ _ h
  ·rcases zR hv with ⟨j,u,rfl,rfl⟩ | ⟨y,u,rfl,rfl⟩
   ·rw[zsi] at h;exact SeqAt.EqAt.str_int x t j u _ _ _ _ h
   ·rw[zse] at h;exact wpAny_eqBool_str h
 «strs»:=λk x t v h=>by
  rcases zR h with ⟨i,u,rfl,e⟩ | ⟨y,u,rfl,e⟩
  ·exact nomatch e
  ·injection e with e1 _
   subst e1;cases v <;> rfl
def zjG (prog:aG)(w:aH)(i:Int)(t:Tok):(zad prog w).is (.inl i) (.int i t)=Z:=zmV i t
def zi1 (prog:aG)(w:aH)(x:Str)(t:Tok):(zad prog w).is (.inr x) (.str x t)=Z:=zmT x t
inductive V where
 | non | bl (b:Bool) | int (i:Int) | str (x:Str) | byt (b:Array UInt8) | flt (b:UInt64) | ref (a:aE) | ty (n:String)
 deriving DecidableEq
def RelV:V->aD->Prop
 | .non,u=>u=aO
 | .bl b,u=>u=Value.bool b
 | .int i,u=>∃t,u=Value.int i t
 | .str x,u=>∃t,u=Value.str x t
 | .byt b,u=>∃t,u=Value.bytes b t
 | .flt b,u=>∃t,u=Value.float b t
 | .ref a,u=>u=aP a
 | .ty n,u=>u=Value.type n
abbrev Vals:List V->List aD->Prop:=Paired RelV
abbrev _root_.QR:=List V
theorem Vals.length (r:Vals xs us):xs.length=us.length:=Paired.length r
theorem Vals.get:∀{xs:QR}{us:QO}{i:Nat}{x:V},Vals xs us->xs[i]? =Y x->∃u,us[i]? =Y u/\RelV x u
 | _,_,_,_,.nil,e=>by simp at e
 | _,_,0,_,.cons r _,e=>by simp at e;subst e;exact⟨B,r⟩
 | _,_,i+1,x,.cons _ t,e=>by obtain⟨u,h1,h2⟩:=Vals.get (i:=i) (x:=x) t (by simpa using e);exact⟨u,by simpa using h1,h2⟩
theorem Vals.set (r:RelV x u):∀{xs:QR}{us:QO}(i:Nat),Vals xs us->Vals (xs.set i x) (us.set i u)
 | _,_,_,.nil=>.nil
 | _,_,0,.cons _ t=>.cons r t
 | _,_,i+1,.cons q t=>.cons q (Vals.set r i t)
theorem Vals.append:∀{xs ys:QR}{us ws:QO},Vals xs us->Vals ys ws->Vals (xs++ys) (us++ws)
 | _,_,_,_,.nil,s=>s
 | _,_,_,_,.cons r t,s=>.cons r (Vals.append t s)
theorem Vals.take:∀{xs:QR}{us:QO}(n:Nat),Vals xs us->Vals (xs.take n) (us.take n)
 | _,_,0,_=>.nil
 | _,_,_+1,.nil=>.nil
 | _,_,n+1,.cons r t=>.cons r (Vals.take n t)
theorem Vals.drop:∀{xs:QR}{us:QO}(n:Nat),Vals xs us->Vals (xs.drop n) (us.drop n)
 | _,_,0,r=>r
 | _,_,_+1,.nil=>.nil
 | _,_,n+1,.cons _ t=>Vals.drop n t
def RelO:Option V->Option aD->Prop
 | some v,Y u=>RelV v u
 | none,U=>True
 | _,_=>False
def KV {κ:Type}:List (κ ×V)->List (κ ×aD)->Prop:=Paired λ(p:κ ×V) (q:κ ×aD)=>p.1=q.1/\RelV p.2 q.2
def kV:Key->V
 | .inl i=>.int i
 | .inr x=>.str x
abbrev _root_.QG:=List (Key ×V)
abbrev _root_.QI:=List (Str ×V)
inductive HO where
 | lst (xs:QR)
 | tup (xs:QR)
 | dK (kvs:QG) | dT (kvs:List (List Key ×V))
 | set (S:Int->Bool) (n:Nat)
 | ins (C dx:aE) (fs:QI)
 | own (x:aE)
 | xd (fs:QI)
 | met (f x:aE)
 | rng (lo hi:Int)
 | frz (o:Obj) (u:HO)
 | tbl (ps:Array aD)
 | ext (φ:aF->Prop)
abbrev Hp:=aE->Option HO
def upd (H:Hp)(a:aE)(o:HO):Hp:=λb=>if b=a then Y o else H b
theorem za:upd H a o a=Y o:=by unfold upd;rw[av rfl]
theorem zd {a b:aE}(h:b≠a):upd H a o b=H b:=by unfold upd;rw[au h]
def zk8:upd (upd H a o) a u=upd H a u:=by funext b;unfold upd;split <;> rfl
def _root_.JP:=@Option.some.inj
theorem zL {H:Hp}{a b:aE}{o u:HO}(h:H a=Y o)(h':H b=Y u)(d:o≠u):a≠b:=by intro e;subst e;rw[h] at h';exact d (JP h')
theorem zf {H:Hp}{a b:aE}{o:HO}(h:H a=Y o)(h':H b=U):a≠b:=by intro e;subst e;rw[h] at h';cases h'
section
variable (P:aG)(w:aH)
def zB (H:Hp)(h:aF)(a:aE):HO->Prop
 | .lst xs=>xs.length<=aQ/\∃(its:QO)(n:Nat),Vals xs its/\h.get? a=Y {cls:=.type "list",data:=.seq its.toArray n}
 | .tup xs=>(xs.length<=aQ/\∃o,h.get? a=Y o/\o.dict=U)/\∃its:List aD,Vals xs its/\IsTup h a its.toArray
 | .dK kvs=>kvs.length<=aQ/\(a==sysModules)=G/\∃vs,KV kvs vs/\h.DictOf (zad P w) a vs
 | .dT kvs=>kvs.length<=aQ/\(a==sysModules)=G/\∃xs:List (List Key ×aE ×aD),
   Paired (λ(p:List Key ×V) (q:List Key ×aE ×aD)=>p.1=q.1/\H q.2.1=Y (.tup (p.1.map kV))/\RelV p.2 q.2.2) kvs xs/\
   ∃o es ep,h.get? a=Y o/\o.ExactDict/\o.data=.dict es ep/\es.toList=xs.map (entryOfKey (tupleKind (zad P w)))/\(xs.map (·.1)).Nodup
 | .set S n=>h.SetOf (intKind P w) a S n
 | .ins C dx fs=>H dx=Y (.own a)/\fs.length<=1000/\dx≠a/\h.get? a=Y (PySem.W.instObj C dx)/\
   ∃mA,h.Ns1 dx mA/\(∀f,RelO (fs.lookup f) (mA f))/\PySem.Within mA (fs.map (·.1))
 | .own _=>∃o,h.get? a=Y o
 | .xd fs=>∃mA,h.Ns1 a mA/\∀f,RelO (fs.lookup f) (mA f)
 | .rng lo hi=>∃t u v,h.get? a=Y {cls:=.type "range",data:=.fields #[.int lo t,.int hi u,.int 1 v]}
 | .frz o u=>h.get? a=Y o/\zB H h a u
 | .tbl ps=>h.get? a=Y {cls:=.none,data:=.fields ps}
 | .met f x=>h.get? a=Y (PySem.W.methodObj (.ref f) (.ref x))
 | .ext φ=>φ h/\(∃o,h.get? a=Y o)/\∀h1 h2:aF,φ h1->(∀o,h1.get? a=Y o->h2.get? a=Y o)->φ h2
def HOk (H:Hp)(h:aF):Prop:=∀a o,H a=Y o->zB P w H h a o
end
section
variable {P:aG}{w:aH}{H H':Hp}{h h':aF}{a:aE}{o:HO}
def _root_.JK:=@PySem.Heap.lt_size
theorem zB.lt (x:zB P w H h a o):a < h.objs.size:=by
 cases o with
 | lst xs=>obtain⟨_,_,_,_,e⟩:=x;exact JK e
 | tup xs=>obtain⟨_,_,_,p⟩:=x;exact p.lt
 | dK kvs=>obtain⟨_,_,_,_,o,_,_,e,_⟩:=x;exact JK e
 | dT kvs=>obtain⟨_,_,_,_,o,_,_,e,_⟩:=x;exact JK e
 | set S n=>obtain⟨o,_,_,_,e,_⟩:=x;exact JK e
 | ins C dx fs=>obtain⟨_,_,_,e,_⟩:=x;exact JK e
 | own y=>obtain⟨_,e⟩:=x;exact JK e
 | xd fs=>obtain⟨_,⟨_,_,_,e,_⟩,_⟩:=x;exact JK e
 | rng lo hi=>obtain⟨_,_,_,e⟩:=x;exact JK e
 | frz ob u=>obtain⟨e,_⟩:=x;exact JK e
 | tbl ps=>exact JK (show h.get? a=Y _ from x)
 | met f y=>exact JK (show h.get? a=Y _ from x)
 | ext φ=>obtain⟨_,⟨_,e⟩,_⟩:=x;exact JK e
theorem Paired.mapP {α β:Type}{F ah:α->β->Prop}:∀{l₁:List α}{l₂:List β},Paired F l₁ l₂->(∀a b,F a b->ah a b)->Paired ah l₁ l₂
 | _,_,.nil,_=>.nil
 | _,_,.cons r t,f=>.cons (f _ _ r) (Paired.mapP t f)
def zB.stay (x:zB P w H h a o)(k:∀b u,(b=a\/H b=Y (.own a))->h.get? b=Y u->h'.get? b=Y u)
  (ho:∀b,H b=Y (.own a)->H' b=Y (.own a)) (ht:∀b xs,H b=Y (.tup xs)->H' b=Y (.tup xs)):zB P w H' h' a o:=by
 induction o with
 | lst xs=>obtain⟨z,its,n,r,e⟩:=x;exact⟨z,its,n,r,k _ _ (.inl rfl) e⟩
 | tup xs=>obtain⟨⟨z,o1,e1,d1⟩,its,r,ob,e,c⟩:=x;exact⟨⟨z,o1,k _ _ (.inl rfl) e1,d1⟩,its,r,ob,k _ _ (.inl rfl) e,c⟩
 | dK kvs=>obtain⟨z,y,vs,r,ob,es,ep,e,c⟩:=x;exact⟨z,y,vs,r,ob,es,ep,k _ _ (.inl rfl) e,c⟩
 | dT kvs=>obtain⟨z,y,xs,r,ob,es,ep,e,c⟩:=x;exact⟨z,y,xs,Paired.mapP r λp q z=>⟨z.1,ht _ _ z.2.1,z.2.2⟩,ob,es,ep,k _ _ (.inl rfl) e,c⟩
 | set S n=>obtain⟨ob,es,ep,t,e,c⟩:=x;exact⟨ob,es,ep,t,k _ _ (.inl rfl) e,c⟩
 | ins C dx fs=>obtain⟨d,z,ne,e,mA,⟨od,es,ep,e2,c⟩,r⟩:=x;exact⟨ho _ d,z,ne,k _ _ (.inl rfl) e,mA,⟨od,es,ep,k _ _ (.inr d) e2,c⟩,r⟩
 | own y=>obtain⟨ob,e⟩:=x;exact⟨ob,k _ _ (.inl rfl) e⟩
 | xd fs=>obtain⟨mA,⟨od,es,ep,e,c⟩,r⟩:=x;exact⟨mA,⟨od,es,ep,k _ _ (.inl rfl) e,c⟩,r⟩
 | rng lo hi=>obtain⟨t,u,v,e⟩:=x;exact⟨t,u,v,k _ _ (.inl rfl) e⟩
 | frz ob u ih=>obtain⟨e,q⟩:=x;exact⟨k _ _ (.inl rfl) e,ih q⟩
 | tbl ps=>have e:h.get? a=Y {cls:=.none,data:=.fields ps}:=x;show h'.get? a=Y {cls:=.none,data:=.fields ps};exact k a _ (.inl rfl) e
 | met f y=>have e:h.get? a=Y (PySem.W.methodObj (.ref f) (.ref y)):=x;show h'.get? a=Y (PySem.W.methodObj (.ref f) (.ref y));exact k a _ (.inl rfl) e
 | ext φ=>obtain⟨p,⟨o,e⟩,st⟩:=x;exact⟨st _ _ p λo q=>k _ _ (.inl rfl) q,⟨o,k _ _ (.inl rfl) e⟩,st⟩
theorem HOk.lt (x:HOk P w H h)(e:H a=Y o):a < h.objs.size:=(x a o e).lt
def _root_.Je:=@Nat.lt_of_lt_of_le
noncomputable abbrev _root_.Jf:=@absurd
def _root_.Jw:=@Nat.lt_irrefl
def HOk.fresh (x:HOk P w H h)(e:h.objs.size<=a):H a=U:=by
 cases q:H a with
 | none=>rfl
 | some u=>exact Jf (Je (x.lt q) e) (Jw _)
theorem HOk.kept (x:HOk P w H h)(k:∀b u,h.get? b=Y u->h'.get? b=Y u):HOk P w H h':=λa o e=>
 (x a o e).stay (λb u _ q=>k b u q) (λ_ q=>q) λ_ _ q=>q
def HOk.laid (x:HOk P w H h)(k:∀b u,h.get? b=Y u->h'.get? b=Y u)(hp:h.objs.size<=a)(new:zB P w (upd H a o) h' a o):HOk P w (upd H a o) h':=λb u e=>by
 have hn:=x.fresh hp;by_cases hb:b=a
 ·subst hb;rw[za] at e;cases e;exact new
 ·rw[zd hb] at e;exact(x b u e).stay (λc v _ q=>k c v q) (λc q=>by rw[zd (zf q hn)];exact q) λc xs q=>by rw[zd (zf q hn)];exact q
end
def Rd (H:Hp)(a:aE)(u:HO):Prop:=H a=Y u\/∃o,H a=Y (.frz o u)
def Rd.ok (r:Rd H a u)(x:HOk P w H h):zB P w H h a u:=by
 rcases r with r | ⟨o,r⟩
 ·exact x a u r
 ·obtain⟨_,q⟩:=x a _ r;exact q
def Mut:Option HO->Prop
 | some (.lst _)=>True
 | some (.dK _)=>True
 | some (.dT _)=>True
 | some (.set _ _)=>True
 | some (.ins _ _ _)=>True
 | some (.ext _)=>True
 | _=>False
section
variable {P:aG}{w:aH}{H:Hp}{h h':aF}{x e:aE}{o':HO}
def HOk.write (ok:HOk P w H h)(mu:Mut (H x))(he:e=x\/H e=Y (.own x))(k:∀b u,b≠e->h.get? b=Y u->h'.get? b=Y u)(heo:∃u,h'.get? e=Y u)
  (new:zB P w (upd H x o') h' x o'):HOk P w (upd H x o') h':=λb u q=>by
 have nown:∀c y,H c=Y (.own y)->c≠x:=λc y r z=>by subst z;rw[r] at mu;exact mu
 have ntup:∀c xs,H c=Y (.tup xs)->c≠x:=λc xs r z=>by subst z;rw[r] at mu;exact mu
 by_cases hb:b=x
 ·subst hb;rw[za] at q;cases q;exact new
 ·rw[zd hb] at q;by_cases hbe:b=e
  ·have q':H b=Y (.own x):=by
    rcases he with z | z
    ·exact Jf (hbe.trans z) hb
    ·rw[hbe];exact z
   rw[q] at q';cases q';obtain⟨v,hv⟩:=heo;exact⟨v,by rw[hbe];exact hv⟩
  ·refine(ok b u q).stay (λc v hc r=>k c v ?_ r) (λc r=>by rw[zd (nown c b r)];exact r) λc xs r=>by rw[zd (ntup c xs r)];exact r
   rcases hc with rfl | hc
   ·exact hbe
   ·rintro rfl;rcases he with z | z
    ·exact nown c b hc z
    ·rw[hc] at z;cases z;exact hb rfl
end
structure Un (fs ex:QP)(H H':Hp)(h h':aF):Prop where
 keep:∀b o,h.get? b=Y o->H b=U->b∉fs->b∉ex->h'.get? b=Y o
 slot:∀b o,h.get? b=Y o->H b=U->b∈fs->b∉ex->∃sl,h'.get? b=Y {o with slots:=sl}
 free:∀b o,h.get? b=Y o->H b=U->b∉ex->H' b=U
 there:∀b o,h.get? b=Y o->b∉ex->∃o',h'.get? b=Y o'
 ay:∀b xs,H b=Y (.tup xs)->H' b=Y (.tup xs)
 frzs:∀b o u,H b=Y (.frz o u)->H' b=Y (.frz o u)
 tbls:∀b ps,H b=Y (.tbl ps)->∃more,H' b=Y (.tbl (ps++more))
section
variable {fs fs' ex ex':QP}{H H1 H2:Hp}{h h1 h2 h':aF}{a x e:aE}{o:HO}
theorem Un.any (u:Un fs ex H H1 h h1){ob:Obj}(q:h.get? b=Y ob)(n:H b=U)(hx:b∉ex):∃sl,h1.get? b=Y {ob with slots:=sl}:=by
 by_cases hb:b∈fs
 ·exact u.slot b ob q n hb hx
 ·exact⟨ob.slots,u.keep b ob q n hb hx⟩
theorem Un.trans (a:Un fs ex H H1 h h1)(b:Un fs ex H1 H2 h1 h2):Un fs ex H H2 h h2 where
 keep:=λc ob q n hc hx=>b.keep c ob (a.keep c ob q n hc hx) (a.free c ob q n hx) hc hx
 slot:=λc ob q n hc hx=>by obtain⟨sl,e1⟩:=a.slot c ob q n hc hx;obtain⟨sl',e2⟩:=b.slot c _ e1 (a.free c ob q n hx) hc hx;exact⟨sl',e2⟩
 free:=λc ob q n hx=>by obtain⟨o',e1⟩:=a.there c ob q hx;exact b.free c o' e1 (a.free c ob q n hx) hx
 there:=λc ob q hx=>by obtain⟨o',e1⟩:=a.there c ob q hx;exact b.there c o' e1 hx
 ay:=λc xs q=>b.ay c xs (a.ay c xs q)
 frzs:=λc ob xs q=>b.frzs c ob xs (a.frzs c ob xs q)
 tbls:=λc ps q=>by obtain⟨m1,e1⟩:=a.tbls c ps q;obtain⟨m2,e2⟩:=b.tbls c _ e1;exact⟨m1++m2,by rw[e2,Array.append_assoc]⟩
theorem Un.kept (k:∀b u,h.get? b=Y u->h'.get? b=Y u):Un fs ex H H h h':=
 ⟨λb ob q _ _ _=>k b ob q,λb ob q _ _ _=>⟨ob.slots,k b ob q⟩,λ_ _ _ n _=>n,λb ob q _=>⟨ob,k b ob q⟩,λ_ _ q=>q,λ_ _ _ q=>q,λ_ ps q=>⟨#[],by rw[q];simp⟩⟩
theorem Un.refl:Un fs ex H H h h:=Un.kept λ_ _ q=>q
def _root_.Jl:=@Nat.ne_of_lt
def Un.laid (k:∀b u,h.get? b=Y u->h'.get? b=Y u)(hp:h.objs.size<=a)(hn:H a=U):Un fs ex H (upd H a o) h h' where
 keep:=λb u q _ _ _=>k b u q
 slot:=λb u q _ _ _=>⟨u.slots,k b u q⟩
 free:=λb u q n _=>by rw[zd (Jl (Je (JK q) hp))];exact n
 there:=λb u q _=>⟨u,k b u q⟩
 ay:=λb xs q=>by rw[zd (zf q hn)];exact q
 frzs:=λb u xs q=>by rw[zd (zf q hn)];exact q
 tbls:=λb ps q=>⟨#[],by rw[zd (zf q hn),q];simp⟩
def Un.write (mu:Mut (H x))(he:e=x\/H e=Y (.own x))(k:∀b u,b≠e->h.get? b=Y u->h'.get? b=Y u)(heo:∃u,h'.get? e=Y u):Un fs ex H (upd H x o) h h':=by
 have hx:∀b,H b=U->b≠x:=λb n z=>by subst z;rw[n] at mu;exact mu
 have hb:∀b,H b=U->b≠e:=λb n z=>by
  subst z;rcases he with r | r
  ·exact hx b n r
  ·rw[n] at r;cases r
 have hm:∀b u,H b=Y u->¬Mut (Y u)->b≠x:=λb u q nm z=>by subst z;rw[q] at mu;exact nm mu
 refine⟨λb u q n _ _=>k b u (hb b n) q,λb u q n _ _=>⟨u.slots,k b u (hb b n) q⟩,λb u q n _=>by rw[zd (hx b n)];exact n,λb u q _=>?_,
  λb xs q=>by rw[zd (hm b _ q λz=>z)];exact q,λb u xs q=>by rw[zd (hm b _ q λz=>z)];exact q,λb ps q=>⟨#[],by rw[zd (hm b _ q λz=>z),q];simp⟩⟩
 by_cases hbe:b=e
 ·subst hbe;exact heo
 ·exact⟨u,k b u hbe q⟩
end
def trk (h:aF)(H:Hp):List aE:=(List.range h.objs.size).filter λa=>(H a).isSome
def hidT (h:aF)(H:Hp):aF:=PySem.W.hideAll h (trk h H)
def zmz (h:aF)(H:Hp):(hidT h H).objs.size=h.objs.size:=PySem.W.hideAll_size _ _
def _root_.Jz:=@List.mem_filter
def zoA {h:aF}{H:Hp}{b:aE}{o:Obj}(e:h.get? b=Y o)(n:H b=U):(hidT h H).get? b=Y o:=
 PySem.W.hideAll_get _ e λhm=>by have q:(H b).isSome=Z:=(Jz.mp hm).2;rw[n] at q;simp at q
def zqy {b:aE}{o:Obj}(e:(hidT h H).get? b=Y o):h.get? b=Y o/\H b=U:=by
 have e':h.get? b=Y o:=PySem.W.of_hideAll (trk h H) e;refine⟨e',?_⟩;cases q:H b with
 | none=>rfl
 | some x=>have hm:b∈trk h H:=Jz.mpr ⟨List.mem_range.mpr (JK e'),by simp[q]⟩;have z:(hidT h H).get? b=U:=PySem.W.hideAll_none (trk h H) hm;rw[z] at e;cases e
def zqF (g h:aF)(L:aE):List (aE ×Obj):=(List.range h.objs.size).filterMap λa=>if a=L\/(g.get? a).isSome=Z then U else(h.get? a).map λo=>(a,o)
def rest (g h:aF)(L d:aE):List (aE ×Obj):=(zqF g h L).filter λp=>decide (p.1≠d)
abbrev _root_.QA:=PySem.W.Frag
abbrev _root_.QB:=Str->Option aD
structure Mod (K:QA)(mg:QB)(ax:aF):Prop where
 kin:K.In ax
 glob:ax.Ns aR mg
 blt:∃mb,ax.Ns builtinsNs mb/\∀x:Str,x≠ "__name__" ->mb x=bootBuiltins x
 nolimit:ax.NoLimit
structure Cx where
 prog:aG
 w:aH
 K:QA
 mg:Str->Option aD
 ax:aF
 A:aU
 N:List Str
 s₀:aM
 H₀:Hp
 env:Env
 outer:List Env
 stack:List Env
 ex:List aE
 fn:Str->Bool
 calm:Bool
 pn:List (aE ×Obj)
 xe:aD->aM->Prop
def frs (l:List Env):List aE:=l.filterMap (·.frame)
abbrev Cx.fs (X:Cx):List aE:=frs X.outer
def Vis (sc:Scope)(x:Str):Prop:=sc.names.lookup x=Y .local\/sc.names.lookup x=Y .cell\/sc.names.lookup x=Y .free
def Loc (sc:Scope)(x:Str):Prop:=sc.names.lookup x=Y .local\/sc.names.lookup x=Y .cell
def Look (env:Env)(h:aF)(m:QB)(x:Str)(u:aD):Prop:=
 (env.kindOf x=Y .local/\m x=Y u)\/((env.kindOf x=Y .cell\/env.kindOf x=Y .free)/\∃c,env.cells.lookup x=Y c/\h.IsCell c (Y u))
structure Cx.Ok (X:Cx):Prop where
 mod:Mod X.K X.mg X.ax
 kind:X.env.scope.kind=.function
 glob:X.env.globals=aR
 blt:X.env.builtins=builtinsNs
 above:X.s₀.heap.objs.size<=X.env.locals
 inj:∀x y c,X.env.cells.lookup x=Y c->X.env.cells.lookup y=Y c->x=y
 has:∀x,(X.env.kindOf x=Y .cell\/X.env.kindOf x=Y .free)->∃c,X.env.cells.lookup x=Y c
 cab:∀x c,X.fn x=Z->X.env.cells.lookup x=Y c->X.s₀.heap.objs.size<=c
 hd:X.calm=Z->X.A.handled=U
 frames:X.A.frames=Y X.stack
 stk:X.stack=X.outer\/(X.stack=X.env::X.outer/\X.env.frame=Y X.env.locals)
 exf:∀b∈X.ex,b≠X.env.locals/\∀x c,X.env.cells.lookup x=Y c->c≠b
 bs:∀b o,X.ax.get? b=Y o->X.s₀.heap.get? b=Y o/\X.H₀ b=U
 bsz:X.ax.objs.size<=X.s₀.heap.objs.size
 noex:∀b o,X.ax.get? b=Y o->b∉X.ex
 exfs:∀b∈X.ex,b∉X.fs
 funs:X.s₀.heap.FunFrames X.ax X.outer
 frf:∀b∈X.fs,X.H₀ b=U
abbrev _root_.QE:=List (aE ×Obj)
structure Inv (X:Cx)(bH:QE)(σ:List (Option V))(H:Hp)(s:aM):Prop where
 ok:X.Ok
 os:s.os=X.s₀.os
 bare:AllBare s.gens
 ax:Un X.fs X.ex X.H₀ H X.s₀.heap s.heap
 loc:∃m,s.heap.Ns X.env.locals m/\∀(i:Nat)(x:Str)(v:V),X.N[i]? =Y x->σ[i]? =Y (Y v)->Vis X.env.scope x->∃u,RelV v u/\Look X.env s.heap m x u
 cell:∀x c,X.env.cells.lookup x=Y c->∃v,s.heap.IsCell c v
 free:H X.env.locals=U
 freeC:∀x c,X.env.cells.lookup x=Y c->H c=U
 pin:∀p∈X.pn++bH,s.heap.get? p.1=Y p.2/\H p.1=U/\p.1≠X.env.locals/\p.1∉X.fs/\∀v,p.2.data≠ .cell v
 hok:HOk X.prog X.w H s.heap
 len:σ.length=X.N.length
section
variable {X:Cx}{bH:QE}{σ:List (Option V)}{H H':Hp}{s:aM}{h':aF}
def Cx.Ok.nofr (ok:X.Ok){o:Obj}(e:X.ax.get? b=Y o):b∉X.fs:=λhb=>by have:=(ok.funs.mem hb).1;rw[e] at this;cases this
theorem Inv.bs (I:Inv X bH σ H s):∀b o,X.ax.get? b=Y o->s.heap.get? b=Y o/\H b=U:=λb o e=>
 ⟨I.ax.keep b o (I.ok.bs b o e).1 (I.ok.bs b o e).2 (I.ok.nofr e) (I.ok.noex b o e),I.ax.free b o (I.ok.bs b o e).1 (I.ok.bs b o e).2 (I.ok.noex b o e)⟩
def Inv.bk (I:Inv X bH σ H s):∀b o,X.ax.get? b=Y o->s.heap.get? b=Y o:=λb o e=>(I.bs b o e).1
theorem Inv.mod (I:Inv X bH σ H s):Mod X.K X.mg X.ax:=I.ok.mod
def Inv.kIn (I:Inv X bH σ H s):X.K.In s.heap:=I.ok.mod.kin.keeps I.bk
theorem Inv.lt (I:Inv X bH σ H s):X.env.locals < s.heap.objs.size:=let ⟨_,hn,_⟩:=I.loc;hn.lt
def _root_.Jg:=@Nat.le_trans
theorem Inv.sz (I:Inv X bH σ H s):X.s₀.heap.objs.size<=s.heap.objs.size:=Jg I.ok.above (Nat.le_of_lt I.lt)
def Inv.nofs (I:Inv X bH σ H s){a:aE}(h:s.heap.objs.size<=a):a∉X.fs:=λhb=>by obtain⟨_,o,ho,_⟩:=I.ok.funs.mem hb;exact Jf (Je (JK ho) (Jg I.sz h)) (Jw _)
def Inv.cne (I:Inv X bH σ H s):∀x c,X.env.cells.lookup x=Y c->c≠X.env.locals:=λx c e z=>by obtain⟨v,o,ho,hd⟩:=I.cell x c e;obtain⟨m,⟨o',es,ep,ho',hd',_⟩,_⟩:=I.loc;rw[z,ho'] at ho;cases ho;rw[hd'] at hd;cases hd
def _root_.Jj:=@List.mem_cons_of_mem
def _root_.JO:=@List.mem_cons_self
theorem Inv.funs (I:Inv X bH σ H s):s.heap.FunFrames X.ax X.outer:=by
 have all:∀(l:List Env),(∀b∈frs l,b∈X.fs)->X.s₀.heap.FunFrames X.ax l->s.heap.FunFrames X.ax l:=by
  intro l
  induction l with
  | nil=>intro _ _;trivial
  | cons env r ih=>intro hs hl;obtain⟨hk,⟨L,o,hf,hn,ho,hd⟩,hr⟩:=hl;have hL:L∈X.fs:=hs L (by unfold frs;rw[List.filterMap_cons,hf];exact JO);obtain⟨sl,e⟩:=I.ax.slot L o ho (I.ok.frf L hL) hL λz=>I.ok.exfs L z hL;exact⟨hk,⟨L,_,hf,hn,e,hd⟩,ih (λb hb=>hs b (by unfold frs;rw[List.filterMap_cons,hf];exact Jj _ hb)) hr⟩
 exact all X.outer (λ_ hb=>hb) I.ok.funs
def _root_.JW:=@PySem.Heap.get?_none_of_le
theorem Inv.stack (I:Inv X bH σ H s):s.heap.FunFrames X.ax X.stack:=by
 rcases I.ok.stk with e | ⟨e,hf⟩
 ·rw[e];exact I.funs
 ·rw[e];obtain⟨m,hn,_⟩:=I.loc;refine .cons (by rw[I.ok.kind];decide) hf hn ?_ I.funs;exact JW (Jg I.ok.bsz I.ok.above)
def Inv.stkSub (I:Inv X bH σ H s):∀b∈frs X.stack,b∈X.env.locals::X.fs:=λb hb=>by
 rcases I.ok.stk with e | ⟨e,hf⟩
 ·rw[e] at hb;exact Jj _ hb
 ·rw[e] at hb;unfold frs at hb;rw[List.filterMap_cons,hf] at hb;exact hb
def _root_.JJ:=@List.mem_cons
def Inv.stkFree (I:Inv X bH σ H s):∀b∈frs X.stack,H b=U:=λb hb=>by
 rcases JJ.mp (I.stkSub b hb) with e | hb
 ·rw[e];exact I.free
 ·obtain⟨_,o,ho,_⟩:=I.ok.funs.mem hb;exact I.ax.free b o ho (I.ok.frf b hb) λz=>I.ok.exfs b z hb
def Inv.step {t':Nat}{d':Drawn}{ch:QP}(I:Inv X bH σ H s)
  (hch:∀b∈ch,(b∈X.ex\/X.s₀.heap.objs.size<=b)/\b≠X.env.locals/\(∀x c,X.env.cells.lookup x=Y c->c≠b)/\∀p∈X.pn++bH,p.1≠b)
  (keep:∀b o,b≠X.env.locals->b∉X.fs->b∉ch->s.heap.get? b=Y o->H b=U->h'.get? b=Y o)
  (slot:∀b o,b≠X.env.locals->b∈X.fs->b∉ch->s.heap.get? b=Y o->H b=U->∃sl,h'.get? b=Y {o with slots:=sl}) (free:∀b o,b∉ch->s.heap.get? b=Y o->H b=U->H' b=U)
  (there:∀b o,b∉ch->s.heap.get? b=Y o->∃o',h'.get? b=Y o')
  (ay:∀b xs,H b=Y (.tup xs)->H' b=Y (.tup xs)) (frzs:∀b o u,H b=Y (.frz o u)->H' b=Y (.frz o u)) (tbls:∀b ps,H b=Y (.tbl ps)->∃more,H' b=Y (.tbl (ps++more)))
  (ns:∀m,s.heap.Ns X.env.locals m->h'.Ns X.env.locals m) (hok:HOk X.prog X.w H' h') (hg:AllBare g'):
  Inv X bH σ H' {s with heap:=h',gens:=g',drawn:=d',toks:=t'}:=by
 have neL:∀b o,X.s₀.heap.get? b=Y o->b≠X.env.locals:=λb o e=>Jl (Je (JK e) I.ok.above);have neC:∀b o,X.s₀.heap.get? b=Y o->b∉X.ex->b∉ch:=λb o e hx hb=>by
  rcases(hch b hb).1 with z | z
  ·exact hx z
  ·exact Jf (Je (JK e) z) (Jw _)
 have cellK:∀x c,X.env.cells.lookup x=Y c->∀v,s.heap.IsCell c v->h'.IsCell c v:=λx c e v ⟨o,ho,hd⟩=>by
  have nch:c∉ch:=λz=>(hch c z).2.2.1 x c e rfl;by_cases hc:c∈X.fs
  ·obtain⟨sl,q⟩:=slot c o (I.cne x c e) hc nch ho (I.freeC x c e);exact⟨_,q,hd⟩
  ·exact⟨o,keep c o (I.cne x c e) hc nch ho (I.freeC x c e),hd⟩
 refine⟨I.ok,I.os,hg,⟨λb o e n hb hx=>?_,λb o e n hb hx=>?_,λb o e n hx=>?_,λb o e hx=>?_,λb xs e=>ay b xs (I.ax.ay b xs e),λb o xs e=>frzs b o xs (I.ax.frzs b o xs e),λb ps e=>?_⟩,?_,λx c e=>?_,?_,λx c e=>?_,λp hp=>?_,hok,I.len⟩
 ·exact keep b o (neL b o e) hb (neC b o e hx) (I.ax.keep b o e n hb hx) (I.ax.free b o e n hx)
 ·obtain⟨sl,e1⟩:=I.ax.slot b o e n hb hx;obtain⟨sl',e2⟩:=slot b _ (neL b o e) hb (neC b o e hx) e1 (I.ax.free b o e n hx);exact⟨sl',e2⟩
 ·obtain⟨o',e1⟩:=I.ax.there b o e hx;exact free b o' (neC b o e hx) e1 (I.ax.free b o e n hx)
 ·obtain⟨o',e1⟩:=I.ax.there b o e hx;exact there b o' (neC b o e hx) e1
 ·obtain⟨m1,e1⟩:=I.ax.tbls b ps e;obtain⟨m2,e2⟩:=tbls b _ e1;exact⟨m1++m2,by rw[e2,Array.append_assoc]⟩
 ·obtain⟨m,hn,hl⟩:=I.loc;refine⟨m,ns m hn,λi x v e1 e2 e3=>?_⟩;obtain⟨u,r,l⟩:=hl i x v e1 e2 e3;refine⟨u,r,?_⟩;rcases l with l | ⟨k,c,e,z⟩
  ·exact .inl l
  ·exact .inr ⟨k,c,e,cellK x c e _ z⟩
 ·obtain⟨v,z⟩:=I.cell x c e;exact⟨v,cellK x c e v z⟩
 ·obtain⟨m,⟨o,_,_,ho,_⟩,_⟩:=I.loc;exact free _ o (λz=>(hch _ z).2.1 rfl) ho I.free
 ·obtain⟨v,o,ho,hd⟩:=I.cell x c e;exact free c o (λz=>(hch c z).2.2.1 x c e rfl) ho (I.freeC x c e)
 ·obtain⟨e,n,ne,nf,d⟩:=I.pin p hp;have nch:p.1∉ch:=λz=>(hch p.1 z).2.2.2 p hp rfl;exact⟨keep p.1 p.2 ne nf nch e n,free p.1 p.2 nch e n,ne,nf,d⟩
def Inv.un {t':Nat}(I:Inv X bH σ H s)(u:Un X.fs [] H H' s.heap h')(hok:HOk X.prog X.w H' h'):Inv X bH σ H' {s with heap:=h',toks:=t'}:=by
 obtain⟨m,⟨o,es,ep,ho,r⟩,_⟩:=id I.loc;obtain⟨sl,hL⟩:=u.any ho I.free (by simp);exact I.step (g':=s.gens) (d':=s.drawn) (ch:=[]) (λ_ z=>nomatch z) (λb o _ hb _ e n=>u.keep b o e n hb (by simp)) (λb o _ hb _ e n=>u.slot b o e n hb (by simp)) (λb o _ e n=>u.free b o e n (by simp)) (λb o _ e=>u.there b o e (by simp)) u.ay u.frzs u.tbls (λm' hm=>by
  obtain⟨o',es',ep',ho',r'⟩:=hm;rw[ho] at ho';cases ho';exact⟨_,es',ep',hL,r'⟩) hok I.bare
def Inv.call {t':Nat}{d':Drawn}{ch:QP}(I:Inv X bH σ H s)(u:Un (frs X.stack) ch H H' s.heap h')(hok:HOk X.prog X.w H' h')(hg:AllBare g')
  (hch:∀b∈ch,(b∈X.ex\/X.s₀.heap.objs.size<=b)/\b≠X.env.locals/\(∀x c,X.env.cells.lookup x=Y c->c≠b)/\∀p∈X.pn++bH,p.1≠b):
  Inv X bH σ H' {s with heap:=h',gens:=g',drawn:=d',toks:=t'}:=by
 obtain⟨m,⟨o,es,ep,ho,r⟩,_⟩:=id I.loc;obtain⟨sl,hL⟩:=u.any ho I.free λz=>(hch _ z).2.1 rfl;exact I.step (ch:=ch) hch (λb o hL hb hc e n=>u.keep b o e n (λz=>(JJ.mp (I.stkSub b z)).elim hL hb) hc) (λb o _ _ hc e n=>u.any e n hc) (λb o hc e n=>u.free b o e n hc) (λb o hc e=>u.there b o e hc) u.ay u.frzs u.tbls (λm' hm=>by
  obtain⟨o',es',ep',ho',r'⟩:=hm;rw[ho] at ho';cases ho';exact⟨_,es',ep',hL,r'⟩) hok hg
def Inv.turned {t':Nat}{it:aE}(I:Inv X bH σ H s)(k:∀b o,b≠it->s.heap.get? b=Y o->h'.get? b=Y o)(hn:H it=U)(hL:it≠X.env.locals)
  (h1:it∈X.ex\/X.s₀.heap.objs.size<=it) (h2:∀x c,X.env.cells.lookup x=Y c->c≠it) (h3:∀p∈X.pn++bH,p.1≠it):Inv X bH σ H {s with heap:=h',toks:=t'}:=by
 have nit:∀b u,H b=Y u->b≠it:=λb u e z=>by rw[z,hn] at e;cases e
 refine I.step (g':=s.gens) (d':=s.drawn) (ch:=[it]) (λb hb=>?_) (λb o _ _ hc e _=>k b o (λz=>hc (by simp[z])) e) (λb o _ _ hc e _=>⟨o.slots,k b o (λz=>hc (by simp[z])) e⟩) (λ_ _ _ _ n=>n)
  (λb o hc e=>⟨o,k b o (λz=>hc (by simp[z])) e⟩) (λ_ _ e=>e) (λ_ _ _ e=>e) (λb ps e=>⟨#[],by rw[e];simp⟩) (λm hm=>?_) (λb u e=>?_) I.bare
 ·have e:b=it:=by simpa using hb
  subst e;exact⟨h1,hL,h2,h3⟩
 ·obtain⟨o,es,ep,ho,r⟩:=hm;exact⟨o,es,ep,k _ o (aV hL) ho,r⟩
 ·refine(I.hok b u e).stay (λc v hc q=>k c v ?_ q) (λ_ q=>q) λ_ _ q=>q;rcases hc with z | z
  ·rw[z];exact nit b u e
  ·exact nit c _ z
theorem Inv.tok (I:Inv X bH σ H s)(t:Nat):Inv X bH σ H {s with toks:=t}:=I.un (h':=s.heap) (t':=t) Un.refl I.hok
theorem Inv.kept {t':Nat}(I:Inv X bH σ H s)(k:∀b u,s.heap.get? b=Y u->h'.get? b=Y u):Inv X bH σ H {s with heap:=h',toks:=t'}:=I.un (Un.kept k) (I.hok.kept k)
def Inv.laid {a:aE}{t':Nat}(I:Inv X bH σ H s)(k:∀b u,s.heap.get? b=Y u->h'.get? b=Y u)(hp:s.heap.objs.size<=a)(new:zB X.prog X.w (upd H a o) h' a o):
  Inv X bH σ (upd H a o) {s with heap:=h',toks:=t'}:=I.un (Un.laid k hp (I.hok.fresh hp)) (I.hok.laid k hp new)
def Inv.write {e:aE}{t':Nat}(I:Inv X bH σ H s)(mu:Mut (H x))(he:e=x\/H e=Y (.own x))(k:∀b u,b≠e->s.heap.get? b=Y u->h'.get? b=Y u)(heo:∃u,h'.get? e=Y u)
  (new:zB X.prog X.w (upd H x o) h' x o):Inv X bH σ (upd H x o) {s with heap:=h',toks:=t'}:=I.un (Un.write mu he k heo) (I.hok.write mu he k heo new)
def _root_.Jk:=@List.mem_append
def _root_.Jo:=@List.mem_append_left
def Inv.pins_of {pins':QE}(I:Inv X bH σ H s)(h:∀p∈pins',s.heap.get? p.1=Y p.2/\H p.1=U/\p.1≠X.env.locals/\p.1∉X.fs/\∀v,p.2.data≠ .cell v):Inv X pins' σ H s:=
 ⟨I.ok,I.os,I.bare,I.ax,I.loc,I.cell,I.free,I.freeC,λp hp=>(Jk.mp hp).elim (λz=>I.pin p (Jo _ z)) (h p),I.hok,I.len⟩
def _root_.JG:=@List.getElem?_eq_some_iff
def zgp {N:QQ}(hN:N.Nodup){i j:Nat}{x:Str}(a:N[i]? =Y x)(b:N[j]? =Y x):i=j:=by obtain⟨h1,e1⟩:=JG.mp a;obtain⟨h2,e2⟩:=JG.mp b;exact(List.getElem_inj hN).mp (e1.trans e2.symm)
abbrev _root_.QC:=aD->aM->Prop
abbrev _root_.QD:=Unit->aM->Prop
def zmN {i:Nat}{x:Str}{Q:QD}(I:Inv X bH σ H s)(hN:X.N.Nodup)(hi:X.N[i]? =Y x)(hx:Loc X.env.scope x)(r:RelV v u)
  (h:∀s',Inv X bH (σ.set i (Y v)) H s'->(∃a,Heap.SameBut a s.heap s'.heap/\(a=X.env.locals\/X.env.cells.lookup x=Y a))->Q Unit.unit s') (hf:X.fn x=Z\/X.env.scope.names.lookup x=Y .local:=by first | exact .inl rfl | exact .inr rfl | assumption):aW M A (storeName X.env x u) Q E s:=by
 obtain⟨m,hn,hl⟩:=id I.loc;have hcls:(X.env.scope.kind==.class || (X.env.scope.kind==.module && X.env.locals !=X.env.globals))=G:=by rw[I.ok.kind];rfl
 have hiσ:i < σ.length:=by rw[I.len];exact(JG.mp hi).1
 have cne:=I.cne;have tracked:∀{a:aE}{h':aF},(∃o,s.heap.get? a=Y o/\H a=U)->Heap.SameBut a s.heap h'->HOk X.prog X.w H h':=λ{a h'} ha hs b ob e=>by
  obtain⟨_,_,hfree⟩:=ha;refine(I.hok b ob e).stay (λc w' hc q=>(hs.2 c ?_).trans q) (λ_ q=>q) λ_ _ q=>q;rintro rfl;rcases hc with rfl | hc
  ·rw[hfree] at e;cases e
  ·rw[hfree] at hc;cases hc
 rcases hx with hk | hk
 ·refine wpAny_storeName_local hk hn (λh' hn' hs=>?_) hcls;obtain⟨oL,_,_,hoL,_⟩:=id hn;refine h _ ⟨I.ok,I.os,I.bare,⟨λb o e n hb hx=>?_,λb o e n hb hx=>?_,I.ax.free,λb o e hx=>?_,I.ax.ay,I.ax.frzs,I.ax.tbls⟩,⟨_,hn',λj y v' e1 e2 e3=>?_⟩,λy c e=>?_,I.free,I.freeC,λp hp=>?_,tracked ⟨oL,hoL,I.free⟩ hs,by simpa using I.len⟩ ⟨_,hs,.inl rfl⟩
  ·exact(hs.2 b (Jl (Je (JK e) I.ok.above))).trans (I.ax.keep b o e n hb hx)
  ·obtain⟨sl,e1⟩:=I.ax.slot b o e n hb hx;exact⟨sl,(hs.2 b (Jl (Je (JK e) I.ok.above))).trans e1⟩
  ·obtain⟨o',e1⟩:=I.ax.there b o e hx;exact⟨o',(hs.2 b (Jl (Je (JK e) I.ok.above))).trans e1⟩
  ·by_cases hj:j=i
   ·subst hj;rw[hi] at e1;cases e1;rw[List.getElem?_set_self hiσ] at e2;cases e2;exact⟨u,r,.inl ⟨hk,by simp⟩⟩
   ·rw[List.getElem?_set_ne (aV hj)] at e2;obtain⟨u',r',q⟩:=hl j y v' e1 e2 e3;refine⟨u',r',?_⟩;rcases q with ⟨k,e⟩ | ⟨k,c,e,z⟩
    ·refine .inl ⟨k,?_⟩;have:y≠x:=λe=>hj (zgp hN e1 (e ▸ hi));simp[this,e]
    ·exact .inr ⟨k,c,e,z.sameBut hs (cne y c e)⟩
  ·obtain⟨w',z⟩:=I.cell y c e;exact⟨w',z.sameBut hs (cne y c e)⟩
  ·obtain⟨e,n,ne,nf,d⟩:=I.pin p hp;exact⟨(hs.2 p.1 ne).trans e,n,ne,nf,d⟩
 ·have hfn:X.fn x=Z:=by
   rcases hf with z | z
   ·exact z
   ·rw[z] at hk;cases hk
  obtain⟨c,hc⟩:=I.ok.has x (.inl hk);obtain⟨w',z⟩:=I.cell x c hc;refine wpAny_storeName_cell I.ok.kind hk hc z (λh' hc' hs=>?_);obtain⟨oc,hoc,hocd⟩:=id z;refine h {s with heap:=h'} ⟨I.ok,I.os,I.bare,⟨λb o e n hb hx=>?_,λb o e n hb hx=>?_,I.ax.free,λb o e hx=>?_,I.ax.ay,I.ax.frzs,I.ax.tbls⟩,⟨m,hn.sameBut hs (aV (cne x c hc)),λj y v' e1 e2 e3=>?_⟩,λy c' e=>?_,I.free,I.freeC,λp hp=>?_,tracked ⟨oc,hoc,I.freeC x c hc⟩ hs,by simpa using I.len⟩ ⟨c,hs,.inr hc⟩
  ·exact(hs.2 b (Jl (Je (JK e) (I.ok.cab x c hfn hc)))).trans (I.ax.keep b o e n hb hx)
  ·obtain⟨sl,e1⟩:=I.ax.slot b o e n hb hx;exact⟨sl,(hs.2 b (Jl (Je (JK e) (I.ok.cab x c hfn hc)))).trans e1⟩
  ·obtain⟨o',e1⟩:=I.ax.there b o e hx;exact⟨o',(hs.2 b (Jl (Je (JK e) (I.ok.cab x c hfn hc)))).trans e1⟩
  ·by_cases hj:j=i
   ·subst hj;rw[hi] at e1;cases e1;rw[List.getElem?_set_self hiσ] at e2;cases e2;exact⟨u,r,.inr ⟨.inl hk,c,hc,hc'⟩⟩
   ·rw[List.getElem?_set_ne (aV hj)] at e2;obtain⟨u',r',q⟩:=hl j y v' e1 e2 e3;refine⟨u',r',?_⟩;rcases q with q | ⟨k,c',e,z'⟩
    ·exact .inl q
    ·refine .inr ⟨k,c',e,z'.sameBut hs ?_⟩;rintro rfl;exact hj (zgp hN e1 (I.ok.inj _ _ _ e hc ▸ hi))
  ·by_cases hcc:c'=c
   ·subst hcc;exact⟨_,hc'⟩
   ·obtain⟨w2,z2⟩:=I.cell y c' e;exact⟨w2,z2.sameBut hs hcc⟩
  ·obtain⟨e,n,ne,nf,d⟩:=I.pin p hp;refine⟨(hs.2 p.1 ?_).trans e,n,ne,nf,d⟩;intro q;rw[q,hoc] at e;have q':oc=p.2:=JP e;exact d w' (by rw[<-q'];exact hocd)
def zfw {i:Nat}{x:Str}{Q:QD}(I:Inv X bH σ H s)(hN:X.N.Nodup)(hi:X.N[i]? =Y x)(hx:Loc X.env.scope x)(r:RelV v u)
  (h:∀s',Inv X bH (σ.set i (Y v)) H s'->Q Unit.unit s') (hf:X.fn x=Z\/X.env.scope.names.lookup x=Y .local:=by first | exact .inl rfl | exact .inr rfl | assumption):aW M A (storeName X.env x u) Q E s:=
 zmN I hN hi hx r (λs' I' _=>h s' I') hf
def Inv.call' {s':aM}{ch:QP}(I:Inv X bH σ H s)(ho:s'.os=s.os)(u:Un (frs X.stack) ch H H' s.heap s'.heap)(hok:HOk X.prog X.w H' s'.heap)(hg:AllBare s'.gens)
  (hch:∀b∈ch,(b∈X.ex\/X.s₀.heap.objs.size<=b)/\b≠X.env.locals/\(∀x c,X.env.cells.lookup x=Y c->c≠b)/\∀p∈X.pn++bH,p.1≠b):Inv X bH σ H' s':=by
 obtain⟨h',g',d',t',o'⟩:=s';have e:o'=s.os:=ho;subst e;exact I.call (g':=g') (t':=t') (d':=d') u hok hg hch
end
abbrev XK:=aD->Option aE->Hp->Prop
abbrev St:=List (Option V)
abbrev VK:=V->Hp->Prop
abbrev TE:=St->Hp->VK->Prop
abbrev TT:=St->Hp->(Bool->Hp->Prop)->Prop
abbrev TA:=St->Hp->(List V->Hp->Prop)->Prop
structure Ends where
 nx:St->Hp->Prop
 rt:VK
 bk:St->Hp->Prop:=λ_ _=>False
 ct:St->Hp->Prop:=λ_ _=>False
abbrev TS:=Ends->St->Hp->Prop
def EP (X:Cx)(bH:QE)(σ:St)(Q:VK)(u:aD)(s':aM):Prop:=∃v H',Inv X bH σ H' s'/\RelV v u/\Q v H'
def TP (X:Cx)(bH:QE)(σ:St)(Q:Bool->Hp->Prop)(b:Bool)(s':aM):Prop:=∃H',Inv X bH σ H' s'/\Q b H'
def AP (X:Cx)(bH:QE)(σ:St)(Q:List V->Hp->Prop)(us:QO)(s':aM):Prop:=∃vs H',Inv X bH σ H' s'/\Vals vs us/\Q vs H'
def SP (X:Cx)(bH:QE)(D:Ends)(f:Flow)(s':aM):Prop:=
 match f with
 | .next=>∃σ' H',Inv X bH σ' H' s'/\D.nx σ' H'
 | .brk=>∃σ' H',Inv X bH σ' H' s'/\D.bk σ' H'
 | .cont=>∃σ' H',Inv X bH σ' H' s'/\D.ct σ' H'
 | .ret u=>∃v σ' H',Inv X bH σ' H' s'/\RelV v u/\D.rt v H'
def PE (X:Cx)(e:aX)(t:TE):Prop:=
 ∀(bH:QE)(s:aM)(σ:St)(H:Hp)(Q:VK),Inv X bH σ H s->t σ H Q->aW (aY X.prog X.w) X.A (aZ e X.env) (EP X bH σ Q) X.xe s
def PT (X:Cx)(e:aX)(t:TT):Prop:=
 ∀(bH:QE)(s:aM)(σ:St)(H:Hp)(Q:Bool->Hp->Prop),Inv X bH σ H s->t σ H Q->aW (aY X.prog X.w) X.A (isTrue e X.env (aZ e X.env)) (TP X bH σ Q) X.xe s
def PW (X:Cx)(e:aX)(t:TT):Prop:=
 ∀(whole:Sem aD)(bH:QE)(s:aM)(σ:St)(H:Hp)(Q:Bool->Hp->Prop),Inv X bH σ H s->t σ H Q->aW (aY X.prog X.w) X.A (isTrue e X.env whole) (TP X bH σ Q) X.xe s
def PW.pt (h:PW X e t):PT X e t:=h _
def PA (X:Cx)(es:List aX)(t:TA):Prop:=
 ∀(pos:Pos)(bH:QE)(s:aM)(σ:St)(H:Hp)(Q:List V->Hp->Prop),Inv X bH σ H s->t σ H Q->aW (aY X.prog X.w) X.A (spliced (a6 pos (a7 es X.env))) (AP X bH σ Q) X.xe s
def PS (X:Cx)(st:aB)(t:TS):Prop:=
 ∀(bH:QE)(s:aM)(σ:St)(H:Hp)(D:Ends),Inv X bH σ H s->t D σ H->aW (aY X.prog X.w) X.A (exec st X.env) (SP X bH D) X.xe s
def PSs (X:Cx)(st:List aB)(t:TS):Prop:=
 ∀(bH:QE)(s:aM)(σ:St)(H:Hp)(D:Ends),Inv X bH σ H s->t D σ H->aW (aY X.prog X.w) X.A (execs st X.env) (SP X bH D) X.xe s
def thn {t:Sem α}{Q Q':α->aM->Prop}{s:aM}(h:aW M A t Q E s)(hQ:∀a s,Q a s->Q' a s):aW M A t Q' E s:=a8 h hQ λ_ _ x=>x
section
variable {X:Cx}
def bin (ha:PE X a ta)(hb:PE X b tb){R:V->V->Hp->Prop}(I:Inv X bH σ H s)(h:ta σ H λx H1=>tb σ H1 λy H2=>R x y H2)
  {α:Type} {Q:α->aM->Prop} {f:aD->aD->Sem α}
  (hf:∀v u s2 x y H2,Inv X bH σ H2 s2->RelV x v->RelV y u->R x y H2->aW (aY X.prog X.w) X.A (f v u) Q X.xe s2):
  aW (aY X.prog X.w) X.A (aZ a X.env) (λv s₁=>aW (aY X.prog X.w) X.A (aZ b X.env) (λu s₂=>aW (aY X.prog X.w) X.A (f v u) Q X.xe s₂) X.xe s₁) X.xe s:=by
 refine thn (ha bH s σ H _ I h) λv s1 ⟨x,H1,I1,r1,q1⟩=>?_;refine thn (hb bH s1 σ H1 _ I1 q1) λu s2 ⟨y,H2,I2,r2,q2⟩=>?_;exact hf v u s2 x y H2 I2 r1 r2 q2
inductive tVar (i:Nat)(σ:St)(H:Hp)(Q:VK):Prop
 | mk (v:V)(_:σ[i]? =Y (Y v)) (_:Q v H):tVar i σ H Q
inductive isBl (x:V)(H:Hp)(Q:Bool->Hp->Prop):Prop
 | mk (k:Bool)(_:x=.bl k)(_:Q k H):isBl x H Q
def tC (v:V):TE:=λ_ H Q=>Q v H
def ztk {i:Nat}{x:Str}{pos:Pos}(hN:X.N[i]? =Y x)(hv:Vis X.env.scope x)(hd:(x==("__debug__" :Str))=G:=by decide) (hcd:(x==("__classdict__" :Str))=G:=by decide):PE X (.Name x pos) (tVar i):=by
 intro bH s σ H Q I h;obtain⟨v,e,h⟩:=h;obtain⟨m,hn,hl⟩:=I.loc;obtain⟨u,r,l⟩:=hl i x v hN e hv;have fin:EP X bH σ Q u s:=⟨v,H,I,r,h⟩;rcases l with ⟨hk,hm⟩ | ⟨hk,c,hc,hcell⟩
 ·exact wpAny_Name (wpAny_loadName_local I.ok.kind hk hn hm fin) hd
 ·rcases hk with hk | hk
  ·exact wpAny_Name (wpAny_loadName_cell I.ok.kind hk hc hcell fin) hd
  ·exact wpAny_Name (wpAny_loadName_free I.ok.kind hk hc hcell fin hcd) hd
def zbD {i j pos}:PE X (.Constant (.int i) j pos) (tC (.int i)):=λ_ _ _ H _ I h=>wpAny_Constant_int ⟨.int i,H,I.tok _,⟨B⟩,h⟩
def zrS {b j pos}:PE X (.Constant (.bool b) j pos) (tC (.bl b)):=λ_ _ _ H _ I h=>Constant_bool ⟨.bl b,H,I,O,h⟩
def zoV {j pos}:PE X (.Constant .none j pos) (tC .non):=λ_ _ _ H _ I h=>Constant_none ⟨.non,H,I,O,h⟩
def zcw {x j pos}:PE X (.Constant (.str x) j pos) (tC (.str x)):=λ_ _ _ H _ I h=>Calls.Constant_str ⟨.str x,H,I.tok _,⟨B⟩,h⟩
def Gl (X:Cx)(x:Str):Prop:=X.env.kindOf x=Y .globalImplicit
def zbp {u:aD}{pos:Pos}{Q:QC}(I:Inv X bH σ H s)(hg:Gl X x)(hm:X.mg x=Y u)(h:Q u s)
  (hd:(x==("__debug__" :Str))=G:=by decide):aW (aY X.prog X.w) X.A (aZ (.Name x pos) X.env) Q E s:=
 Calls.Name_function_global I.ok.kind hg (Calls.loadGlobal_global (by rw[I.ok.glob];exact I.mod.glob.keeps I.bk) hm h) hd
def zcr {u:aD}{pos:Pos}{Q:QC}(I:Inv X bH σ H s)(hg:Gl X x)(hm:X.mg x=U)(hv:bootBuiltins x=Y u)(h:Q u s)
  (hn:x≠ "__name__" :=by decide) (hd:(x==("__debug__" :Str))=G:=by decide):aW (aY X.prog X.w) X.A (aZ (.Name x pos) X.env) Q E s:=by
 obtain⟨mb,h1,h2⟩:=I.mod.blt;exact Calls.Name_function_global I.ok.kind hg (Calls.loadGlobal_builtin (by rw[I.ok.glob];exact I.mod.glob.keeps I.bk) hm (by rw[I.ok.blt];exact h1.keeps I.bk) ((h2 x hn).trans hv) h) hd
def zhz {u:aD}{pos:Pos}(hg:Gl X x)(hm:X.mg x=Y u)(r:RelV v u)(hd:(x==("__debug__" :Str))=G:=by decide):PE X (.Name x pos) (tC v):=
 λ_ _ _ H _ I h=>zbp I hg hm ⟨v,H,I,r,h⟩ hd
def zqE {u:aD}{pos:Pos}(hg:Gl X x)(hm:X.mg x=U)(hv:bootBuiltins x=Y u)(r:RelV v u)(hn:x≠ "__name__" :=by decide) (hd:(x==("__debug__" :Str))=G:=by decide):PE X (.Name x pos) (tC v):=
 λ_ _ _ H _ I h=>zcr I hg hm hv ⟨v,H,I,r,h⟩ hn hd
variable {a b:aX}{ta tb:TE}{pos:Pos}
def PC (X:Cx)(op:CmpOp)(a b:aX)(t:TE):Prop:=
 ∀(bH:QE)(s:aM)(σ:St)(H:Hp)(Q:VK),Inv X bH σ H s->t σ H Q->
  aW (aY X.prog X.w) X.A (aZ a X.env) (λv s₁=>aW (aY X.prog X.w) X.A (aZ b X.env) (λu s₂=>aW (aY X.prog X.w) X.A (a9 op v u) (EP X bH σ Q) X.xe s₂) X.xe s₁) X.xe s
def zoH (b:aX){op:CmpOp}(h:op≠ .In)(h2:op≠ .NotIn):behindInMarks op b=G:=by
 have e1:(op==CmpOp.In)=G:=by cases op <;> first | rfl | exact Jf rfl h
 have e2:(op==CmpOp.NotIn)=G:=by cases op <;> first | rfl | exact Jf rfl h2
 cases b <;> simp[behindInMarks,e1,e2]
def tB (t:TE):TT:=fun σ H Q=>t σ H λx H1=>isBl x H1 Q
def znV (h:PC X op a b t)(h1:behindInMarks op b=G:=by first | exact zoH _ () () | rfl):PT X (.Compare a [op] [b] pos) (tB t):=by intro bH s σ H Q I hw;refine wpAny_isTrue_Compare1 (thn (h bH s σ H _ I hw) λv s1 h1=>thn h1 λu s2 h2=>thn h2 λc s3 ⟨x,H1,I1,r1,q1⟩=>?_) h1;obtain⟨d,rfl,q⟩:=q1;cases r1;exact ba ⟨H1,I1,q⟩
def zaV (h:PE X e t)(he:∀whole,isTrue e X.env whole=(do let v<-whole;standAt e.pos;holding [v] (truthy v)):=by intro _;rfl):PT X e (tB t):=by intro bH s σ H Q I hw;refine isTrue_plain (thn (h bH s σ H _ I hw) λv s1 ⟨x,H1,I1,r1,q1⟩=>?_) (he _);obtain⟨d,rfl,q⟩:=q1;cases r1;exact ba ⟨H1,I1,q⟩
variable {tA tB':TT}{rest:List aX}
def tAnd (t u:TT):TT:=fun σ H Q=>t σ H λc H1=>if c=Z then u σ H1 Q else Q G H1
def tOr (t u:TT):TT:=fun σ H Q=>t σ H λc H1=>if c=Z then Q Z H1 else u σ H1 Q
def tNot (t:TT):TT:=fun σ H Q=>t σ H λc H1=>Q (!c) H1
def zlz (ha:PT X a tA):PW X (.BoolOp .And [a] pos) tA:=by
 intro wh bH s σ H Q I h;refine isTrue_and (thn (ha bH s σ H Q I h) λc s1 e=>?_);cases c with
 | true=>exact isTrue_and_nil e
 | false=>exact e
def zhQ (ha:PT X a tA):PW X (.BoolOp .Or [a] pos) tA:=by
 intro wh bH s σ H Q I h;refine isTrue_or (thn (ha bH s σ H Q I h) λc s1 e=>?_);cases c with
 | false=>exact isTrue_or_nil e
 | true=>exact e
def zj6 (ha:PT X a tA)(hb:PW X (.BoolOp .And (b::rest) pos) tB'):PW X (.BoolOp .And (a::b::rest) pos) (tAnd tA tB'):=by
 intro wh bH s σ H Q I h;refine isTrue_and (thn (ha bH s σ H _ I h) λc s1 ⟨H1,I1,q1⟩=>?_);cases c with
 | true=>exact hb wh bH s1 σ H1 Q I1 q1
 | false=>exact⟨H1,I1,q1⟩
def zgS (ha:PT X a tA)(hb:PW X (.BoolOp .Or (b::rest) pos) tB'):PW X (.BoolOp .Or (a::b::rest) pos) (tOr tA tB'):=by
 intro wh bH s σ H Q I h;refine isTrue_or (thn (ha bH s σ H _ I h) λc s1 ⟨H1,I1,q1⟩=>?_);cases c with
 | true=>exact⟨H1,I1,q1⟩
 | false=>exact hb wh bH s1 σ H1 Q I1 q1
def zcL (ha:PT X a tA):PT X (.UnaryOp .Not a pos) (tNot tA):=by intro bH s σ H Q I h;exact isTrue_not (ha bH s σ H (λc H1=>Q (!c) H1) I h)
def zum (ta tb:TE):TE:=fun σ H Q=>ta σ H λx H1=>∃c,x=.bl c/\if c=Z then tb σ H1 Q else Q (.bl G) H1
def tOrV (ta tb:TE):TE:=fun σ H Q=>ta σ H λx H1=>∃c,x=.bl c/\if c=Z then Q (.bl Z) H1 else tb σ H1 Q
def zrO (ta:TE):TE:=fun σ H Q=>ta σ H λx H1=>∃c,x=.bl c/\Q (.bl (!c)) H1
def zdx {op}(h:PE X a t):PE X (.BoolOp op [a] pos) t:=λbH s σ H Q I hw=>BoolOp_one (h bH s σ H Q I hw)
def zfs (ha:PE X a ta)(hb:PE X (.BoolOp .And (b::rest) pos) tb):PE X (.BoolOp .And (a::b::rest) pos) (zum ta tb):=by
 intro bH s σ H Q I h;refine BoolOp_and (thn (ha bH s σ H _ I h) λv s1 ⟨x,H1,I1,r1,q1⟩=>?_);obtain⟨c,rfl,q1⟩:=q1;cases r1;refine ba ?_;cases c with
 | true=>exact hb bH s1 σ H1 Q I1 q1
 | false=>exact⟨.bl G,H1,I1,O,q1⟩
def zt9 (ha:PE X a ta)(hb:PE X (.BoolOp .Or (b::rest) pos) tb):PE X (.BoolOp .Or (a::b::rest) pos) (tOrV ta tb):=by
 intro bH s σ H Q I h;refine BoolOp_or (thn (ha bH s σ H _ I h) λv s1 ⟨x,H1,I1,r1,q1⟩=>?_);obtain⟨c,rfl,q1⟩:=q1;cases r1;refine ba ?_;cases c with
 | false=>exact hb bH s1 σ H1 Q I1 q1
 | true=>exact⟨.bl Z,H1,I1,O,q1⟩
def zil (ha:PE X a ta):PE X (.UnaryOp .Not a pos) (zrO ta):=by intro bH s σ H Q I h;refine UnaryOp_ (thn (ha bH s σ H _ I h) λv s1 ⟨x,H1,I1,r1,q1⟩=>?_);obtain⟨c,rfl,q1⟩:=q1;cases r1;exact not_of (ba ⟨.bl (!c),H1,I1,O,q1⟩)
def tIf (t:TT)(ta tb:TE):TE:=fun σ H Q=>t σ H λc H1=>if c=Z then ta σ H1 Q else tb σ H1 Q
def zf4 (hc:PT X c tA)(ha:PE X a ta)(hb:PE X b tb):PE X (.IfExp c a b pos) (tIf tA ta tb):=by
 intro bH s σ H Q I h;refine wpAny_IfExp (thn (hc bH s σ H _ I h) λd s1 ⟨H1,I1,q1⟩=>?_);cases d with
 | true=>exact ha bH s1 σ H1 Q I1 q1
 | false=>exact hb bH s1 σ H1 Q I1 q1
end
def SqL (K:QA)(H:Hp)(a:aE)(xs:QR):Prop:=
 Rd H a (.lst xs)\/
  ∃(o:Obj)(its:Array aD)(n:Nat),K.lookup a=Y o/\o.cls=.type "list" /\o.dict=U/\o.data=.seq its n/\its.size<=aQ/\Vals xs its.toList
def SqT (K:QA)(H:Hp)(a:aE)(xs:QR):Prop:=
 Rd H a (.tup xs)\/
  ∃(o:Obj)(its:Array aD)(n:Nat),K.lookup a=Y o/\o.cls=.type "tuple" /\o.data=.seq its n/\its.size<=aQ/\Vals xs its.toList
def absV:aD->Option V
 | .none=>Y .non
 | .bool b=>Y (.bl b)
 | .int i _=>Y (.int i)
 | .str x _=>Y (.str x)
 | .bytes b _=>Y (.byt b)
 | .float b _=>Y (.flt b)
 | .ref a=>Y (.ref a)
 | .type n=>Y (.ty n)
 | _=>U
def RelV.abs (r:RelV x u):absV u=Y x:=by
 cases x with
 | non=>cases r;rfl
 | bl _=>cases r;rfl
 | int _=>obtain⟨t,rfl⟩:=r;rfl
 | str _=>obtain⟨t,rfl⟩:=r;rfl
 | byt _=>obtain⟨t,rfl⟩:=r;rfl
 | flt _=>obtain⟨t,rfl⟩:=r;rfl
 | ref _=>cases r;rfl
 | ty _=>cases r;rfl
theorem RelV.inj (r:RelV x u)(q:RelV y u):x=y:=JP (r.abs.symm.trans q.abs)
theorem Vals.inj:∀{xs ys:QR}{us:QO},Vals xs us->Vals ys us->xs=ys
 | _,_,_,.nil,.nil=>rfl
 | _,_,_,.cons r t,.cons r' t'=>by rw[r.inj r',Vals.inj t t']
section
variable {X:Cx}{bH:QE}{σ:St}{H:Hp}{s:aM}{a:aE}{xs ys:QR}
theorem SqL.of {K:QA}(h:H a=Y (.lst xs)):SqL K H a xs:=.inl (.inl h)
theorem SqT.of {K:QA}(h:H a=Y (.tup xs)):SqT K H a xs:=.inl (.inl h)
def _root_.Nf:=@Array.length_toList
def Inv.list (I:Inv X bH σ H s)(h:SqL X.K H a xs):∃its:List aD,Vals xs its/\PlainL s.heap a its.toArray/\xs.length<=aQ:=by
 rcases h with h | ⟨o,its,n,hk,hc,hd,hs,hz,r⟩
 ·obtain⟨z,its,n,r,e⟩:=h.ok I.hok;exact⟨its,r,⟨_,n,e,O,O,O⟩,z⟩
 ·refine⟨its.toList,r,⟨o,n,I.kIn a o hk,hc,hd,by simpa using hs⟩,?_⟩;have e:=r.length;simp only[Nf] at e;lia
def Inv.tuple (I:Inv X bH σ H s)(h:SqT X.K H a xs):∃its:List aD,Vals xs its/\IsTup s.heap a its.toArray/\xs.length<=aQ:=by
 rcases h with h | ⟨o,its,n,hk,hc,hs,hz,r⟩
 ·obtain⟨z,its,r,p⟩:=h.ok I.hok;exact⟨its,r,p,z.1⟩
 ·refine⟨its.toList,r,⟨o,I.kIn a o hk,hc,n,by simpa using hs⟩,?_⟩;have e:=r.length;simp only[Nf] at e;lia
theorem Inv.list_inj (I:Inv X bH σ H s)(h:SqL X.K H a xs)(h':SqL X.K H a ys):xs=ys:=by
 obtain⟨its,r,⟨o,n,e,_,_,d⟩,_⟩:=I.list h;obtain⟨its',r',⟨o',n',e',_,_,d'⟩,_⟩:=I.list h';rw[e] at e';cases e';rw[d] at d';injection d' with d1 _
 have:its=its':=by simpa using congrArg Array.toList d1
 subst this;exact r.inj r'
theorem Inv.tuple_inj (I:Inv X bH σ H s)(h:SqT X.K H a xs)(h':SqT X.K H a ys):xs=ys:=by
 obtain⟨its,r,⟨o,e,_,n,d⟩,_⟩:=I.tuple h;obtain⟨its',r',⟨o',e',_,n',d'⟩,_⟩:=I.tuple h';rw[e] at e';cases e';rw[d] at d';injection d' with d1 _
 have:its=its':=by simpa using congrArg Array.toList d1
 subst this;exact r.inj r'
end
abbrev Cx.wish (X:Cx)(E:QC):Cx:={X with xe:=E}
abbrev Cx.nox (X:Cx):Cx:=X.wish λ_ _=>False
def Cx.Ok.wish {X:Cx}(ok:X.Ok)(E:QC):(X.wish E).Ok:=
 ⟨ok.mod,ok.kind,ok.glob,ok.blt,ok.above,ok.inj,ok.has,ok.cab,ok.hd,ok.frames,ok.stk,ok.exf,ok.bs,ok.bsz,ok.noex,ok.exfs,ok.funs,ok.frf⟩
def Cx.Ok.unwish {X:Cx}{E:QC}(ok:(X.wish E).Ok):X.Ok:=
 ⟨ok.mod,ok.kind,ok.glob,ok.blt,ok.above,ok.inj,ok.has,ok.cab,ok.hd,ok.frames,ok.stk,ok.exf,ok.bs,ok.bsz,ok.noex,ok.exfs,ok.funs,ok.frf⟩
section
variable {X:Cx}{bH:QE}{σ:St}{H:Hp}{s:aM}{E:QC}
def Inv.wish (I:Inv X bH σ H s)(E:QC):Inv (X.wish E) bH σ H s:=⟨I.ok.wish E,I.os,I.bare,I.ax,I.loc,I.cell,I.free,I.freeC,I.pin,I.hok,I.len⟩
def Inv.unwish (I:Inv (X.wish E) bH σ H s):Inv X bH σ H s:=⟨I.ok.unwish,I.os,I.bare,I.ax,I.loc,I.cell,I.free,I.freeC,I.pin,I.hok,I.len⟩
def SP.unwish (h:SP (X.wish E) bH D f s'):SP X bH D f s':=by
 cases f with
 | next=>obtain⟨σ',H',I,q⟩:=h;exact⟨σ',H',I.unwish,q⟩
 | brk=>obtain⟨σ',H',I,q⟩:=h;exact⟨σ',H',I.unwish,q⟩
 | cont=>obtain⟨σ',H',I,q⟩:=h;exact⟨σ',H',I.unwish,q⟩
 | ret u=>obtain⟨v,σ',H',I,r,q⟩:=h;exact⟨v,σ',H',I.unwish,r,q⟩
def PSs.nox {st:List aB}{t:TS}(h:PSs X.nox st t):PSs X st t:=λbH s σ H D I hw=>
 a8 (h bH s σ H D (I.wish _) hw) (λ_ _ q=>q.unwish) λ_ _ z=>False.elim z
variable {st:aB}{rest:List aB}{t u:TS}{e:aX}{te:TE}{pos:Pos}
def zf0:TS:=λD σ H=>D.nx σ H
def tSeq (t u:TS):TS:=λD σ H=>t {D with nx:=u D} σ H
def zE:PSs X [] zf0:=λ_ _ σ H _ I h=>wpAny_execs_nil ⟨σ,H,I,h⟩
def zb (h1:PS X st t)(h2:PSs X rest u):PSs X (st::rest) (tSeq t u):=by
 intro bH s σ H D I h;refine wpAny_execs_cons (thn (h1 bH s σ H {D with nx:=u D} I h) λf s1 q=>?_);cases f with
 | next=>obtain⟨σ',H',I',q⟩:=q;exact h2 bH s1 σ' H' D I' q
 | ret v=>exact q
 | brk=>exact q
 | cont=>exact q
def zx (h1:PS X st t):PSs X [st] t:=by
 intro bH s σ H D I h;refine wpAny_execs_cons (thn (h1 bH s σ H D I h) λf s1 q=>?_);cases f with
 | next=>exact wpAny_execs_nil q
 | ret v=>exact q
 | brk=>exact q
 | cont=>exact q
def zue:TS:=λD σ H=>D.ct σ H
def zjx:PS X (.Continue pos) zue:=λ_ _ σ H _ I h=>wpAny_Continue ⟨σ,H,I,h⟩
def Inv.quiet (I:Inv X bH σ H s):interactive X.env=G:=by simp[interactive,I.ok.kind]
def zul (te:TE):TS:=λD σ H=>te σ H λ_ H1=>D.nx σ H1
def zeg (he:PE X e te)(hs:swapsWith e U pos.line X.env=pure G:=by rfl):PS X (.Expr e pos) (zul te):=by intro bH s σ H D I h;exact wpAny_Expr_any (thn (he bH s σ H _ I h) λv s1 ⟨x,H1,I1,r1,q1⟩=>⟨σ,H1,I1,q1⟩) I.quiet hs
def tRet (te:TE):TS:=λD σ H=>te σ H D.rt
def zQ (he:PE X e te):PS X (.Return (Y e) pos) (tRet te):=by intro bH s σ H D I h;exact wpAny_Return_some (thn (he bH s σ H _ I h) λv s1 ⟨x,H1,I1,r1,q1⟩=>⟨x,σ,H1,I1,r1,q1⟩)
def tIfS (c:TT)(t u:TS):TS:=λD σ H=>c σ H λb H1=>if b=Z then t D σ H1 else u D σ H1
def zag (hc:PT X c tc)(ha:PSs X a t)(hb:PSs X b u):PS X (.If c a b pos) (tIfS tc t u):=by
 intro bH s σ H D I h;refine wpAny_If (thn (hc bH s σ H _ I h) λd s1 ⟨H1,I1,q1⟩=>?_);cases d with
 | true=>exact ha bH s1 σ H1 D I1 q1
 | false=>exact hb bH s1 σ H1 D I1 q1
end
abbrev TG:=V->St->Hp->(St->Hp->Prop)->Prop
abbrev TGs:=List V->St->Hp->(St->Hp->Prop)->Prop
def PG (X:Cx)(target:aX)(t:TG):Prop:=
 ∀(bH:QE)(s:aM)(σ:St)(H:Hp)(v:V)(u:aD)(Q:St->Hp->Prop),Inv X bH σ H s->RelV v u->t v σ H Q->
  aW (aY X.prog X.w) X.A (assign target X.env u) (λ_ s'=>∃σ' H',Inv X bH σ' H' s'/\Q σ' H') X.xe s
def PGs (X:Cx)(ts:List aX)(t:TGs):Prop:=
 ∀(bH:QE)(s:aM)(σ:St)(H:Hp)(vs:QR)(us:QO)(Q:St->Hp->Prop),Inv X bH σ H s->Vals vs us->t vs σ H Q->
  aW (aY X.prog X.w) X.A (assignInOrder ((assignEach ts X.env).map (·.2)) us) (λ_ s'=>∃σ' H',Inv X bH σ' H' s'/\Q σ' H') X.xe s
abbrev TSet:=V->V->V->Hp->(Hp->Prop)->Prop
def PSet (X:Cx)(t:TSet):Prop:=
 ∀(bH:QE)(s:aM)(σ:St)(H:Hp)(o i v:V)(ov iv u:aD)(Q:Hp->Prop),Inv X bH σ H s->RelV o ov->RelV i iv->RelV v u->t o i v H Q->
  aW (aY X.prog X.w) X.A (setItem ov iv u) (λ_ s'=>∃H',Inv X bH σ H' s'/\Q H') X.xe s
section
variable {X:Cx}{pos:Pos}
def zcg (i:Nat):TG:=λv σ H Q=>Q (σ.set i (Y v)) H
def zhZ {i:Nat}{x:Str}(hN:X.N.Nodup)(hi:X.N[i]? =Y x)(hx:Loc X.env.scope x)(hf:X.fn x=Z\/X.env.scope.names.lookup x=Y .local:=by first | exact .inl rfl | exact .inr rfl | assumption):PG X (.Name x pos) (zcg i):=by intro bH s σ H v u Q I r h;exact wpAny_assign_Name (zfw I hN hi hx r (λs' I'=>⟨_,H,I',h⟩) hf)
def gNil:TGs:=λvs σ H Q=>vs=[]/\Q σ H
inductive zry (t:TG)(u:TGs)(vs:QR)(σ:St)(H:Hp)(Q:St->Hp->Prop):Prop
 | mk (v:V)(r:QR)(_:vs=v::r)(_:t v σ H fun σ' H'=>u r σ' H' Q):zry t u vs σ H Q
def zqe:PGs X [] gNil:=by intro bH s σ H vs us Q I r h;obtain⟨e,h⟩:=h;subst e;cases r;exact assignInOrder_nil ⟨σ,H,I,h⟩
def znX (h1:PG X e t)(h2:PGs X es u)
  (hs:(assignEach (e::es) X.env).map (·.2)=assign e X.env::(assignEach es X.env).map (·.2):=by rfl):PGs X (e::es) (zry t u):=by
 intro bH s σ H vs us Q I r h;obtain⟨v,vr,e1,h⟩:=h;subst e1;cases r with
 | cons r rr=>rw[hs];refine assignInOrder_cons (thn (h1 bH s σ H _ _ _ I r h) λ_ s1 ⟨σ1,H1,I1,q1⟩=>?_);exact h2 bH s1 σ1 H1 _ _ Q I1 rr q1
inductive gTup (K:QA)(n:Nat)(t:TGs)(v:V)(σ:St)(H:Hp)(Q:St->Hp->Prop):Prop
 | mk (a:aE)(xs:QR)(_:v=.ref a)(_:SqT K H a xs)(_:xs.length=n)(_:t xs σ H Q):gTup K n t v σ H Q
def zsl {k:Nat}{n:Nat}(hc:X.calm=Z)(h:PGs X es t)
  (hn:(assignEach es X.env).length=n:=by rfl) (hst:(assignEach es X.env).findIdx? (·.1)=U:=by rfl):PG X (.Tuple es k pos) (gTup X.K n t):=by
 intro bH s σ H v u Q I r hw;obtain⟨a,xs,e1,hq,hl,hw⟩:=hw;subst e1;cases r;obtain⟨its,rv,ht,hz⟩:=I.tuple hq;refine assign_Tuple_tuple (I.ok.hd hc) ht (by simp[hn,<-hl,rv.length]) hst λh' hx=>?_;have I1:Inv X bH σ H {s with heap:=h'}:=I.kept (t':=s.toks) λb o e=>hx b o (Jl (JK e)) e;exact h bH _ σ H xs _ Q I1 (by simpa using rv) hw
def gSub (to ti:TE)(t:TSet):TG:=λv σ H Q=>to σ H λo H1=>ti σ H1 λi H2=>t o i v H2 λH3=>Q σ H3
def _root_.Ja:=@wpAny_bind
def zr5 (ho:PE X o to)(hi:PE X i ti)(hs:PSet X t)
  (ha:∀v,assign (.Subscript o i pos) X.env v=(do
   let ov<-holding [v] (aZ o X.env)
   let iv<-holding [v,ov] (aZ i X.env)
   standAt pos
   holding [v,ov,iv] (setItem ov iv v)
   release [v,ov,iv] []):=by intro _;rfl):PG X (.Subscript o i pos) (gSub to ti t):=by
 intro bH s σ H v u Q I r h;rw[ha];refine Ja (bb (thn (ho bH s σ H _ I h) λov s1 ⟨x,H1,I1,r1,q1⟩=>?_));refine Ja (bb (thn (hi bH s1 σ H1 _ I1 q1) λiv s2 ⟨y,H2,I2,r2,q2⟩=>?_));refine Ja (wpAny_standAt (Ja (bb (thn (hs bH s2 σ H2 x y v ov iv u _ I2 r1 r2 r q2) λ_ s3 ⟨H3,I3,q3⟩=>?_))));exact wpAny_release ⟨σ,H3,I3,q3⟩
def tAsg (te:TE)(g:TG):TS:=λD σ H=>te σ H λx H1=>g x σ H1 D.nx
def zsS (he:PE X e te)(hg:PG X tg g)(hs:swapsWithSole [tg] e pos.line X.env=pure G:=by rfl)(hw:swappedStores [tg] e X.env=pure U:=by rfl)
  (h1:(assignEach [tg] X.env).map (·.2)=[assign tg X.env]:=by rfl):PS X (.Assign [tg] e pos) (tAsg te g):=by
 intro bH s σ H D I h;refine wpAny_Assign_stores (thn (he bH s σ H _ I h) λv s1 ⟨x,H1,I1,r1,q1⟩=>?_) hs hw;rw[h1];exact thn (hg bH s1 σ H1 x v _ I1 r1 q1) λ_ s2 q=>q
def zsk {i:Nat}{x:Str}{pos':Pos}(hN:X.N.Nodup)(hi:X.N[i]? =Y x)(hx:Loc X.env.scope x)(he:PE X e te)(hs:swapsWith e (Y (.Name x pos')) pos.line X.env=pure G:=by rfl)(hf:X.fn x=Z\/X.env.scope.names.lookup x=Y .local:=by first | exact .inl rfl | exact .inr rfl | assumption):
  PS X (.Assign [.Name x pos'] e pos) (tAsg te (zcg i)):=by
 intro bH s σ H D I h;refine wpAny_Assign_Name (thn (he bH s σ H _ I h) λv s1 ⟨y,H1,I1,r1,q1⟩=>?_) hs;exact zfw I1 hN hi hx r1 (λs2 I2=>⟨_,H1,I2,q1⟩) hf
def ztm (c:TT)(tb:TS):TS:=λD σ H=>∃W:Nat->St->Hp->Prop,(∃m,W m σ H)/\∀m σ H,W m σ H->
 c σ H λb H1=>if b=Z then∃N:St->Hp->Prop,(∀σ' H',N σ' H'->∃m',m' < m/\W m' σ' H')/\tb {D with nx:=N,ct:=N,bk:=D.nx} σ H1 else D.nx σ H1
def _root_.Jd:=@Bool.false_ne_true
def zpk (hp:PassesOwn (aY X.prog X.w) X.A X.env X.xe)(hc:PT X c tc)(hb:PSs X body tb):PS X (.While c body [] pos) (ztm tc tb):=by
 intro bH s σ H D I h;obtain⟨W,⟨m0,w0⟩,turn⟩:=h;refine wpAny_While (codeAny_whileLoop (λn s'=>∃σ' H',Inv X bH σ' H' s'/\W n σ' H') ?_ m0 ⟨σ,H,I,w0⟩);rintro n s1 ⟨σ1,H1,I1,w1⟩;refine wpAny_passesOwn hp (thn (hc bH s1 σ1 H1 _ I1 (turn n σ1 H1 w1)) λb s2 ⟨H2,I2,q2⟩=>?_);cases b with
 | true=>
  obtain⟨N,hN,q2⟩:=q2;rw[av rfl];refine wpAny_passesOwn hp (thn (hb bH s2 σ1 H2 _ I2 q2) λf s3 q3=>?_);cases f with
  | next=>obtain⟨σ3,H3,I3,n3⟩:=q3;obtain⟨m',hm,w3⟩:=hN σ3 H3 n3;exact⟨m',hm,σ3,H3,I3,w3⟩
  | cont=>obtain⟨σ3,H3,I3,n3⟩:=q3;obtain⟨m',hm,w3⟩:=hN σ3 H3 n3;exact⟨m',hm,σ3,H3,I3,w3⟩
  | brk=>exact q3
  | ret v=>exact q3
 | false=>rw[au Jd];exact wpAny_execs_nil ⟨σ1,H2,I2,q2⟩
end
structure It where
 go:Nat->Hp->Prop
 yld:Nat->Hp->V->Hp->Prop
 stop:Nat->Hp->Prop
def FpOk (X:Cx)(bH:QE)(H:Hp)(b:aE):Prop:=
 H b=U/\b≠X.env.locals/\b∉X.fs/\(b∈X.ex\/X.s₀.heap.objs.size<=b)/\(∀x c,X.env.cells.lookup x=Y c->c≠b)/\∀p∈X.pn++bH,p.1≠b
def Inv.fpOk {H':Hp}{b:aE}(I:Inv X bH σ H s)(hb:s.heap.objs.size<=b)(hn:H' b=U):FpOk X bH H' b:=by
 refine⟨hn,Nat.ne_of_gt (Je I.lt hb),I.nofs hb,.inr (Jg I.sz hb),λx c e z=>?_,λp hp z=>?_⟩
 ·obtain⟨v,q⟩:=I.cell x c e;exact Jf (Je q.lt (by rw[z];exact hb)) (Jw _)
 ·exact Jf (Je (JK (I.pin p hp).1) (by rw[z];exact hb)) (Jw _)
structure Turn (P:aG)(w:aH)(K:QA)(tg:aX)(J:It)(fp:QP)(it:aE)(tn:Nat->aF->Prop):Prop where
 mem:it∈fp
 obj:∀i h,tn i h->∀b∈fp,∃o,h.get? b=Y o/\∀v,o.data≠ .cell v
 keep:∀i h h',tn i h->(∀b∈fp,∀o,h.get? b=Y o->h'.get? b=Y o)->tn i h'
 item:∀(X:Cx),X.prog=P->X.w=w->X.K=K->X.calm=Z->∀(i:Nat)(bH:QE)(s:aM)(σ:St)(H:Hp)(E:QC),Inv X bH σ H s->(∀b∈fp,FpOk X bH H b)->tn i s.heap->J.go i H->
  aW (aY P w) X.A (pyNext (.ref it)) (λr s1=>∃u,r=Y u/\
   aW (aY P w) X.A (letOwnedTupleGo tg (.ref it) u) (λ_ s2=>∃x H',Inv X bH σ H' s2/\RelV x u/\J.yld i H x H'/\tn (i+1) s2.heap/\∀b∈fp,H' b=U) E s1) E s
 done:∀(X:Cx),X.prog=P->X.w=w->X.K=K->X.calm=Z->∀(i:Nat)(bH:QE)(s:aM)(σ:St)(H:Hp)(E:QC),Inv X bH σ H s->(∀b∈fp,FpOk X bH H b)->tn i s.heap->J.stop i H->
  aW (aY P w) X.A (pyNext (.ref it)) (λr s1=>r=U/\Inv X bH σ H s1) E s
 self:∀(A:aU)(i:Nat)(s:aM)(Q:QC)(E:QC),tn i s.heap->Q (.ref it) s->aW (aY P w) A (pyIter (.ref it)) Q E s
abbrev TI:=St->Hp->(It->Hp->Prop)->Prop
def PIE (X:Cx)(bH:QE)(σ:St)(tg:aX)(R:It->Hp->Prop)(itv:aD)(s2:aM):Prop:=
 ∃(it:aE)(fp:QP)(tn:Nat->aF->Prop)(J:It)(H':Hp),itv=.ref it/\Inv X bH σ H' s2/\Turn X.prog X.w X.K tg J fp it tn/\tn 0 s2.heap/\(∀b∈fp,FpOk X bH H' b)/\R J H'
def PI (X:Cx)(tg iter:aX)(wi:TI):Prop:=
 ∀(bH:QE)(s:aM)(σ:St)(H:Hp)(R:It->Hp->Prop),Inv X bH σ H s->wi σ H R->
  aW (aY X.prog X.w) X.A (aZ iter X.env) (λv s1=>aW (aY X.prog X.w) X.A (pyIter v) (PIE X bH σ tg R) X.xe s1) X.xe s
def zgQ {s:aM}{tg:aX}{it:aE}{u:aD}{o:Obj}{n:String}{vs:Array aD}{Q:QD}(ho:s.heap.get? it=Y o)(hc:o.cls=.type n)(hd:o.data=.fields vs)
  (hn:["enumerate","zip","dict_itemiterator","dict_reverseitemiterator","odict_iterator","itertools.zip_longest","itertools.pairwise"].contains n=G) (hQ:Q Unit.unit s):aW M A (letOwnedTupleGo tg (.ref it) u) Q E s:=by
 unfold letOwnedTupleGo;cases tg <;> first
  | exact bc hQ
  | (cases u <;> first
    | exact bc hQ
    | (refine Ja (wpAny_load ho ?_)
       rw[hc,hd];show aW M A (if (["enumerate","zip","dict_itemiterator","dict_reverseitemiterator","odict_iterator","itertools.zip_longest","itertools.pairwise"].contains n && vs[0]? ==Y (rawInt _))=Z then _ else _) Q E s;rw[au (by intro h;rw[hn,Bool.false_and] at h;cases h)];exact bc hQ))
def Itl (K:QA)(a:aE):It:=
 ⟨λi H=>∃xs x,SqL K H a xs/\xs[i]? =Y x,λi H x H'=>H'=H/\∀xs,SqL K H a xs->xs[i]? =Y x,λi H=>∃xs,SqL K H a xs/\xs.length<=i⟩
def Itt (K:QA)(a:aE):It:=
 ⟨λi H=>∃xs x,SqT K H a xs/\xs[i]? =Y x,λi H x H'=>H'=H/\∀xs,SqT K H a xs->xs[i]? =Y x,λi H=>∃xs,SqT K H a xs/\xs.length<=i⟩
def Itr (lo:Int)(n:Nat):It:=⟨λi _=>i < n,λi H x H'=>H'=H/\x=.int (lo+i),λi _=>n<=i⟩
def zmj {P:aG}{w:aH}{K:QA}{tg:aX}(a it:aE):Turn P w K tg (Itl K a) [it] it (λi h=>h.IsListIter it a i) where
 mem:=by simp
 obj:=λi h st b hb=>by
  have e:b=it:=by simpa using hb
  subst e;obtain⟨o,e,c,d⟩:=st;exact⟨o,e,λv z=>by rw[d] at z;cases z⟩
 keep:=λi h h' st k=>st.at λo e=>k it (by simp) o e
 item:=by intro X hP hw hK hc i bH s σ H E I hf st hg;subst hP hw hK;obtain⟨xs,x,hq,hx⟩:=hg;obtain⟨its,rv,p,hz⟩:=I.list hq;obtain⟨u,hu,ru⟩:=rv.get hx;obtain⟨f0,f1,f2,f3,f4,f5⟩:=hf it (by simp);refine wpAny_pyNext_list_item st p.isList (x:=u) (by simpa using hu) λh' st' sb=>?_;have I1:Inv X bH σ H {s with heap:=h'}:=I.turned (t':=s.toks) (λb o hb e=>(sb.2 b hb).trans e) f0 f1 f3 f4 f5;obtain⟨o,e,c,d⟩:=id st';exact⟨u,O,zgQ (s:={s with heap:=h'}) e c d () ⟨x,H,I1,ru,⟨O,λys hy=>by rw[I.list_inj hy hq];exact hx⟩,st',λb hb=>(hf b hb).1⟩⟩
 done:=by intro X hP hw hK hc i bH s σ H E I hf st hg;subst hP hw hK;obtain⟨xs,hq,hx⟩:=hg;obtain⟨its,rv,p,hz⟩:=I.list hq;obtain⟨f0,f1,f2,f3,f4,f5⟩:=hf it (by simp);have hl:=rv.length;exact wpAny_pyNext_list_end (I.ok.hd hc) st p.isList (by simp;lia) λh' eb=>⟨O,I.turned (t':=s.toks) (λb o hb e=>eb b o hb e) f0 f1 f3 f4 f5⟩
 self:=λ_ _ _ _ _ st h=>wpAny_pyIter_listiter st h
def zkH {P:aG}{w:aH}{K:QA}{tg:aX}(a it:aE):Turn P w K tg (Itt K a) [it] it (λi h=>h.IsTupleIter it a i) where
 mem:=by simp
 obj:=λi h st b hb=>by
  have e:b=it:=by simpa using hb
  subst e;obtain⟨o,e,c,d⟩:=st;exact⟨o,e,λv z=>by rw[d] at z;cases z⟩
 keep:=λi h h' st k=>st.at λo e=>k it (by simp) o e
 item:=by intro X hP hw hK hc i bH s σ H E I hf st hg;subst hP hw hK;obtain⟨xs,x,hq,hx⟩:=hg;obtain⟨its,rv,p,hz⟩:=I.tuple hq;obtain⟨u,hu,ru⟩:=rv.get hx;obtain⟨f0,f1,f2,f3,f4,f5⟩:=hf it (by simp);refine wpAny_pyNext_tuple_item st (show s.heap.IsTuple a its.toArray from p) (x:=u) (by simpa using hu) λh' st' sb=>?_;have I1:Inv X bH σ H {s with heap:=h'}:=I.turned (t':=s.toks) (λb o hb e=>(sb.2 b hb).trans e) f0 f1 f3 f4 f5;obtain⟨o,e,c,d⟩:=id st';exact⟨u,O,zgQ (s:={s with heap:=h'}) e c d () ⟨x,H,I1,ru,⟨O,λys hy=>by rw[I.tuple_inj hy hq];exact hx⟩,st',λb hb=>(hf b hb).1⟩⟩
 done:=by intro X hP hw hK hc i bH s σ H E I hf st hg;subst hP hw hK;obtain⟨xs,hq,hx⟩:=hg;obtain⟨its,rv,p,hz⟩:=I.tuple hq;obtain⟨f0,f1,f2,f3,f4,f5⟩:=hf it (by simp);have hl:=rv.length;exact wpAny_pyNext_tuple_end (I.ok.hd hc) st (show s.heap.IsTuple a its.toArray from p) (by simp;lia) λh' eb=>⟨O,I.turned (t':=s.toks) (λb o hb e=>eb b o hb e) f0 f1 f3 f4 f5⟩
 self:=λ_ _ _ _ _ st h=>wpAny_pyIter_tupleiter st h
def zkG {P:aG}{w:aH}{K:QA}{tg:aX}(it:aE)(lo:Int)(n:Nat):Turn P w K tg (Itr lo n) [it] it (λi h=>IsRangeIter h it (lo+(i:Nat) * 1) ((n:Int) - (i:Nat)) 1) where
 mem:=by simp
 obj:=λi h st b hb=>by
  have e:b=it:=by simpa using hb
  subst e;exact⟨_,st,λv z=>by
   have z':Data.fields _=Data.cell v:=z;cases z'⟩
 keep:=λi h h' st k=>k it (by simp) _ st
 item:=by intro X hP hw hK hc i bH s σ H E I hf st hg;subst hP hw hK;obtain⟨f0,f1,f2,f3,f4,f5⟩:=hf it (by simp);have W:=Walks.range (prog:=X.prog) (w:=X.w) (I.ok.hd hc) it lo 1 n;refine W.item i s _ _ hg st λv h' tk hv st' kk=>?_;obtain⟨t,rfl⟩:=hv;have I1:Inv X bH σ H {s with heap:=h',toks:=tk}:=I.turned (λb o hb e=>kk b o (by simpa using hb) e) f0 f1 f3 f4 f5;refine⟨B,zgQ (s:={s with heap:=h',toks:=tk}) (n:= "range_iterator") st' rfl rfl () ⟨.int (lo+i),H,I1,⟨t,?_⟩,⟨O,O⟩,st',λb hb=>(hf b hb).1⟩⟩;rw[Int.mul_one]
 done:=by intro X hP hw hK hc i bH s σ H E I hf st hg;subst hP hw hK;obtain⟨f0,f1,f2,f3,f4,f5⟩:=hf it (by simp);exact wpAny_pyNext_range_end (I.ok.hd hc) st (by have:n<=i:=hg;lia) λh' eb=>⟨O,I.turned (t':=s.toks) (λb o hb e=>eb b o hb e) f0 f1 f3 f4 f5⟩
 self:=λ_ _ _ _ _ st h=>wpAny_pyIter_rangeiter st h
section
variable {X:Cx}{tg:aX}
inductive xItl (K:QA)(x:V)(H:Hp)(R:It->Hp->Prop):Prop
 | mk (a)(_:x=.ref a)(_:∃xs,SqL K H a xs)(_:R (Itl K a) H):xItl K x H R
def zuk (K:QA)(tl:TE):TI:=fun σ H R=>tl σ H λx H1=>xItl K x H1 R
inductive xItt (K:QA)(x:V)(H:Hp)(R:It->Hp->Prop):Prop
 | mk (a)(_:x=.ref a)(_:∃xs,SqT K H a xs)(_:R (Itt K a) H):xItt K x H R
def iTup (K:QA)(tl:TE):TI:=fun σ H R=>tl σ H λx H1=>xItt K x H1 R
def _root_.Jb:=@Nat.le_refl
def _root_.JE:=@PySem.Heap.get?_push_of_some
def _root_.JL:=@PySem.Heap.get?_push_size
def zhT (hl:PE X l tl):PI X tg l (zuk X.K tl):=by
 intro bH s σ H R I h;refine thn (hl bH s σ H _ I h) λv s1 ⟨x,H1,I1,r1,q1⟩=>?_;obtain⟨a,e,⟨xs,hq⟩,q⟩:=q1;subst e;cases r1;obtain⟨its,rv,p,hz⟩:=I1.list hq;refine wpAny_pyIter_list p.isList ?_;refine⟨s1.heap.objs.size,[s1.heap.objs.size],_,_,H1,O,I1.kept (t':=s1.toks) λb o e=>JE _ e,zmj a _,⟨_,JL _ rfl,O,O⟩,λb hb=>?_,q⟩;have e:b=s1.heap.objs.size:=by simpa using hb
 subst e;exact I1.fpOk (Jb _) (I1.hok.fresh (Jb _))
def zhO (hl:PE X l tl):PI X tg l (iTup X.K tl):=by
 intro bH s σ H R I h;refine thn (hl bH s σ H _ I h) λv s1 ⟨x,H1,I1,r1,q1⟩=>?_;obtain⟨a,e,⟨xs,hq⟩,q⟩:=q1;subst e;cases r1;obtain⟨its,rv,p,hz⟩:=I1.tuple hq;refine wpAny_pyIter_tuple (show s1.heap.IsTuple a its.toArray from p) ?_;refine⟨s1.heap.objs.size,[s1.heap.objs.size],_,_,H1,O,I1.kept (t':=s1.toks) λb o e=>JE _ e,zkH a _,⟨_,JL _ rfl,O,O⟩,λb hb=>?_,q⟩;have e:b=s1.heap.objs.size:=by simpa using hb
 subst e;exact I1.fpOk (Jb _) (I1.hok.fresh (Jb _))
def zni {R:It->Hp->Prop}{lo hi:Int}{t u v:Tok}{tk:Nat}(I:Inv X bH σ H s)(h1: -(2 ^ 62)<=lo)(h2:lo < 2 ^ 62)(h3: -(2 ^ 62)<=hi)(h4:hi < 2 ^ 62)
  (q:R (Itr lo (hi - lo).toNat) H):aW (aY X.prog X.w) X.A (pyIter (.ref s.heap.objs.size)) (PIE X bH σ tg R) E {s with heap:=s.heap.push {cls:=.type "range",data:=.fields #[.int lo t,.int hi u,.int 1 v]},toks:=tk}:=by
 refine wpAny_pyIter_range (IsRange.new ..) (small_one h1 h2 h3 h4) ?_;have I1:Inv X bH σ H {s with heap:=s.heap.push {cls:=.type "range",data:=.fields #[.int lo t,.int hi u,.int 1 v]},toks:=tk}:=I.kept λb o e=>JE _ e;refine⟨(s.heap.push {cls:=.type "range",data:=.fields #[.int lo t,.int hi u,.int 1 v]}).objs.size,[(s.heap.push {cls:=.type "range",data:=.fields #[.int lo t,.int hi u,.int 1 v]}).objs.size],_,_,H,O,
  I1.kept (t':=tk) λb o e=>JE _ e,zkG _ lo (hi - lo).toNat,?_,λb hb=>?_,q⟩
 ·have e1:lo+((0:Nat):Int) * 1=lo:=by simp
  have e2:(((hi - lo).toNat:Nat):Int) - ((0:Nat):Int)=Builtin.Range.rangeSize lo hi 1:=by rw[rangeSize_one];split <;> lia
  show IsRangeIter _ _ (lo+((0:Nat):Int) * 1) ((((hi - lo).toNat:Nat):Int) - ((0:Nat):Int)) 1;rw[e1,e2];exact JL _ rfl
 ·have e:b=(s.heap.push {cls:=.type "range",data:=.fields #[.int lo t,.int hi u,.int 1 v]}).objs.size:=by simpa using hb
  subst e;exact I1.fpOk (Jb _) (I1.hok.fresh (Jb _))
def zus (ta:TA):TI:=fun σ H R=>ta σ H λvs H1=>∃j:Int,vs=[.int j]/\ -(2 ^ 62)<=j/\j < 2 ^ 62/\R (Itr 0 j.toNat) H1
def zmc {a:aX}{p pos:Pos}(hg:Gl X "range") (hm:X.mg "range" =U) (ha:PA X [a] ta) (hs:a7 [a] X.env=[(G,aZ a X.env)]:=by rfl):PI X tg (.Call (.Name "range" p) [a] [] pos) (zus ta):=by
 intro bH s σ H R I h;refine Call_ (zcr I hg hm boot_range (PyProof.Rows.callWith_type1 (thn (ha pos bH s σ H _ I h) λus s1 ⟨vs,H1,I1,r1,q1⟩=>?_) hs rfl));obtain⟨j,e,q1,q2,q⟩:=q1;subst e;cases r1 with
 | cons r rr=>cases rr;obtain⟨t,rfl⟩:=r;exact call_range_1 (zni I1 () () q1 q2 (by simpa using q))
inductive xFor (g:TG)(tb:TS)(D:Ends)(J:It)(σ:St)(H1:Hp):Prop
 | mk (W:Nat->Nat->St->Hp->Prop)(_:∃m,W 0 m σ H1)(_:∀i m σ H,W i m σ H->
 (J.stop i H/\D.nx σ H)\/(J.go i H/\∃N:St->Hp->Prop,(∀σ' H',N σ' H'->∃m',m' < m/\W (i+1) m' σ' H')/\∀x H',J.yld i H x H'->g x σ H' fun σ2 H2=>tb {D with nx:=N,ct:=N,bk:=D.nx} σ2 H2)):xFor g tb D J σ H1
def tFor (wi:TI)(g:TG)(tb:TS):TS:=λD σ H=>wi σ H λJ H1=>xFor g tb D J σ H1
def zgi (fp:QP)(h:aF):List (aE ×Obj):=fp.filterMap λb=>(h.get? b).map λo=>(b,o)
def zb1 {fp:QP}{h:aF}{b:aE}{o:Obj}(hb:b∈fp)(e:h.get? b=Y o):(b,o)∈zgi fp h:=List.mem_filterMap.mpr ⟨b,hb,by rw[e];rfl⟩
def zms {p:aE ×Obj}(hp:p∈zgi fp h):p.1∈fp/\h.get? p.1=Y p.2:=by
 obtain⟨b,hb,e⟩:=List.mem_filterMap.mp hp;cases q:h.get? b with
 | none=>rw[q] at e;cases e
 | some o=>rw[q] at e;have e':(b,o)=p:=JP e;subst e';exact⟨hb,q⟩
def _root_.Jh:=@List.mem_append_right
def Inv.pinned {fp:QP}(I:Inv X bH σ H s)(hf:∀b∈fp,FpOk X bH H b)(ho:∀b∈fp,∃o,s.heap.get? b=Y o/\∀v,o.data≠ .cell v):Inv X (bH++zgi fp s.heap) σ H s:=
 I.pins_of λp hp=>(Jk.mp hp).elim (λz=>I.pin p (Jh _ z)) λz=>by obtain⟨hb,e⟩:=zms z;obtain⟨f0,f1,f2,_⟩:=hf p.1 hb;obtain⟨o,e',d⟩:=ho p.1 hb;rw[e] at e';cases e';exact⟨e,f0,f1,f2,d⟩
def Inv.unpinned {bH pl:QE}(I:Inv X (bH++pl) σ H s):Inv X bH σ H s:=I.pins_of λp hp=>I.pin p (Jh _ (Jo _ hp))
def zdy {pos:Pos}(hp:PassesOwn (aY X.prog X.w) X.A X.env X.xe)(hc:X.calm=Z)(hi:PI X tg iter wi)(hg:PG X tg g)(hb:PSs X body tb)
  (hs:∀x,foldedSetIterable iter X.env x=pure x:=by intro _;rfl):PS X (.For tg iter body [] pos) (tFor wi g tb):=by
 intro bH s σ H D I h;refine wpAny_For (thn (hi bH s σ H _ I h) λv s1 h1=>thn h1 λitv s2 h2=>?_) hs;obtain⟨it,fp,tn,J,H2,e,I2,T,st2,f2,W,⟨m0,w0⟩,turn⟩:=h2;subst e
 have stat:∀{H':Hp},(∀b∈fp,H' b=U)->∀b∈fp,FpOk X bH H' b:=λhn b hb=>⟨hn b hb,(f2 b hb).2⟩;refine codeAny_forLoop_any (λn s'=>∃i σ' H',Inv X bH σ' H' s'/\tn i s'.heap/\(∀b∈fp,H' b=U)/\W i n σ' H') ?_ m0 ⟨0,σ,H2,I2,st2,λb hb=>(f2 b hb).1,w0⟩;rintro n s3 ⟨i,σ3,H3,I3,st3,fr3,w3⟩;rcases turn i n σ3 H3 w3 with ⟨stop,qn⟩ | ⟨go,N,hN,step⟩
 ·refine wpAny_passesOwn hp (thn (T.done X rfl rfl rfl hc i bH s3 σ3 H3 X.xe I3 (stat fr3) st3 stop) λr s4 ⟨hr,I4⟩=>?_);subst hr;exact wpAny_execs_nil ⟨σ3,H3,I4,qn⟩
 ·refine wpAny_passesOwn hp (thn (T.item X rfl rfl rfl hc i bH s3 σ3 H3 X.xe I3 (stat fr3) st3 go) λr s4 ⟨u,hr,h4⟩=>?_);subst hr;refine wpAny_passesOwn hp (thn h4 λ_ s5 ⟨x,H5,I5,r5,y5,st5,fr5⟩=>?_);have I5':=I5.pinned (stat fr5) (T.obj _ _ st5);refine wpAny_passesOwn hp (thn (hg _ s5 σ3 H5 x u _ I5' r5 (step x H5 y5)) λ_ s6 ⟨σ6,H6,I6,q6⟩=>?_);refine wpAny_passesOwn hp (thn (hb _ s6 σ6 H6 _ I6 q6) λf s7 q7=>?_);have again:∀{σ7:St}{H7:Hp},Inv X (bH++zgi fp s5.heap) σ7 H7 s7->N σ7 H7->∃m,m < n/\∃i σ' H',Inv X bH σ' H' s7/\tn i s7.heap/\(∀b∈fp,H' b=U)/\W i m σ' H':=λ{σ7 H7} I7 n7=>by obtain⟨m',hm,w7⟩:=hN σ7 H7 n7;refine⟨m',hm,i+1,σ7,H7,I7.unpinned,T.keep _ _ _ st5 λb hb o e=>(I7.pin (b,o) (Jh _ (Jh _ (zb1 hb e)))).1,λb hb=>?_,w7⟩;obtain⟨o,e,d⟩:=T.obj _ _ st5 b hb;exact(I7.pin (b,o) (Jh _ (Jh _ (zb1 hb e)))).2.1
  cases f with
  | next=>obtain⟨σ7,H7,I7,n7⟩:=q7;exact again I7 n7
  | cont=>obtain⟨σ7,H7,I7,n7⟩:=q7;exact again I7 n7
  | brk=>obtain⟨σ7,H7,I7,q7⟩:=q7;exact⟨σ7,H7,I7.unpinned,q7⟩
  | ret v=>obtain⟨x7,σ7,H7,I7,r7,q7⟩:=q7;exact⟨x7,σ7,H7,I7.unpinned,r7,q7⟩
end
def _root_.JN:=@Nat.zero_le
def zcD {K:QA}{a:aE}{xs:QR}{g:TG}{tb:TS}{D:Ends}{σ:St}{H:Hp}(Pv:Nat->St->Hp->Prop)(h0:Pv 0 σ H)(hl:∀i σ H,i<=xs.length->Pv i σ H->SqL K H a xs)
  (hs:∀i x σ H,xs[i]? =Y x->Pv i σ H->g x σ H fun σ2 H2=>tb {D with nx:=Pv (i+1),ct:=Pv (i+1),bk:=D.nx} σ2 H2) (hd:∀σ H,Pv xs.length σ H->D.nx σ H):
  xFor g tb D (Itl K a) σ H:=by
 refine⟨λi m σ H=>m=xs.length - i/\i<=xs.length/\Pv i σ H,⟨xs.length,by simp,JN _,h0⟩,?_⟩;rintro i m σ H ⟨rfl,hi,p⟩;have q:=hl i σ H hi p;by_cases hlt:i < xs.length
 ·refine .inr ⟨⟨xs,xs[i],q,by simp[hlt]⟩,Pv (i+1),fun σ' H' p'=>⟨xs.length - (i+1),(),O,hlt,p'⟩,λx H' y=>?_⟩;obtain⟨e,y⟩:=y;subst e;exact hs i x σ _ (y xs q) p
 ·have e:i=xs.length:=()
  subst e;exact .inl ⟨⟨xs,q,Jb _⟩,hd σ H p⟩
def zlB {K:QA}{a:aE}{xs:QR}{g:TG}{tb:TS}{D:Ends}{σ:St}{H:Hp}(Pv:Nat->St->Hp->Prop)(h0:Pv 0 σ H)(hl:∀i σ H,i<=xs.length->Pv i σ H->SqT K H a xs)
  (hs:∀i x σ H,xs[i]? =Y x->Pv i σ H->g x σ H fun σ2 H2=>tb {D with nx:=Pv (i+1),ct:=Pv (i+1),bk:=D.nx} σ2 H2) (hd:∀σ H,Pv xs.length σ H->D.nx σ H):
  xFor g tb D (Itt K a) σ H:=by
 refine⟨λi m σ H=>m=xs.length - i/\i<=xs.length/\Pv i σ H,⟨xs.length,by simp,JN _,h0⟩,?_⟩;rintro i m σ H ⟨rfl,hi,p⟩;have q:=hl i σ H hi p;by_cases hlt:i < xs.length
 ·refine .inr ⟨⟨xs,xs[i],q,by simp[hlt]⟩,Pv (i+1),fun σ' H' p'=>⟨xs.length - (i+1),(),O,hlt,p'⟩,λx H' y=>?_⟩;obtain⟨e,y⟩:=y;subst e;exact hs i x σ _ (y xs q) p
 ·have e:i=xs.length:=()
  subst e;exact .inl ⟨⟨xs,q,Jb _⟩,hd σ H p⟩
abbrev R2:=V->V->Hp->VK->Prop
def OpR (X:Cx)(f:aD->aD->Sem aD)(r:R2):Prop:=
 ∀(bH:QE)(s:aM)(σ:St)(H:Hp)(x y:V)(v u:aD)(Q:VK),Inv X bH σ H s->RelV x v->RelV y u->r x y H Q->
  aW (aY X.prog X.w) X.A (f v u) (EP X bH σ Q) X.xe s
def UnR (X:Cx)(f:aD->Sem aD)(r:V->Hp->VK->Prop):Prop:=
 ∀(bH:QE)(s:aM)(σ:St)(H:Hp)(x:V)(v:aD)(Q:VK),Inv X bH σ H s->RelV x v->r x H Q->
  aW (aY X.prog X.w) X.A (f v) (EP X bH σ Q) X.xe s
def zac (X:Cx)(f:aD)(r:List V->Hp->VK->Prop):Prop:=
 ∀(bH:QE)(s:aM)(σ:St)(H:Hp)(xs:QR)(us:QO)(Q:VK),Inv X bH σ H s->Vals xs us->r xs H Q->
  aW (aY X.prog X.w) X.A (call f us) (EP X bH σ Q) X.xe s
def tOp (r:R2)(ta tb:TE):TE:=fun σ H Q=>ta σ H λx H1=>tb σ H1 λy H2=>r x y H2 Q
def tUn (r:V->Hp->VK->Prop)(ta:TE):TE:=fun σ H Q=>ta σ H λx H1=>r x H1 Q
inductive rI (C:Int->Int->Prop)(g:Int->Int->V)(x y:V)(H:Hp)(Q:VK):Prop
 | mk (i j:Int)(_:x=.int i)(_:y=.int j)(_:C i j)(_:Q (g i j) H):rI C g x y H Q
inductive rI0 (g:Int->Int->V)(x y:V)(H:Hp)(Q:VK):Prop
 | mk (i j:Int)(_:x=.int i)(_:y=.int j)(_:Q (g i j) H):rI0 g x y H Q
def rU (g:Int->V):V->Hp->VK->Prop:=λx H Q=>∃i,x=.int i/\Q (g i) H
section
variable {X:Cx}{a b c:aX}{ta tb tc:TE}{pos:Pos}
def binT (ha:PE X a ta)(hb:PE X b tb){R:V->V->Hp->Prop}(I:Inv X bH σ H s)
  (h:ta σ H λx H1=>tb σ H1 λy H2=>R x y H2)  {f:aD->aD->Sem aD}
  (hf:∀v u s2 x y H2,Inv X bH σ H2 s2->RelV x v->RelV y u->R x y H2->aW (aY X.prog X.w) X.A (f v u) Q X.xe s2):
  aW (aY X.prog X.w) X.A (aZ a X.env) (λv s₁=>aW (aY X.prog X.w) X.A (aZ b X.env) (λu s₂=>aW (aY X.prog X.w) X.A (f v u) Q X.xe s₂) X.xe s₁) X.xe s:=by
 refine thn (ha bH s σ H _ I h) λv s1 ⟨x,H1,I1,r1,q1⟩=>?_;refine thn (hb bH s1 σ H1 _ I1 q1) λu s2 ⟨y,H2,I2,r2,q2⟩=>?_;exact hf v u s2 x y H2 I2 r1 r2 q2
def zaR (ho:OpR X (binaryOp op) r)(ha:PE X a ta)(hb:PE X b tb):PE X (.BinOp a op b pos) (tOp r ta tb):=by intro bH s σ H Q I h;exact wpAny_BinOp (binT ha hb I h λv u s2 x y H2 I2 rx ry q=>ho bH s2 σ H2 x y v u Q I2 rx ry q)
def zuv (ho:UnR X (unaryOp op) r)(ha:PE X a ta):PE X (.UnaryOp op a pos) (tUn r ta):=by intro bH s σ H Q I h;exact UnaryOp_ (thn (ha bH s σ H _ I h) λv s1 ⟨x,H1,I1,r1,q1⟩=>ho bH s1 σ H1 x v Q I1 r1 q1)
def opI {f:aD->aD->Sem aD}{C:Int->Int->Prop}{g:Int->Int->Int}
  (rule:∀(i j:Int)(t u:Tok)(s:aM)(Q:QC)(E:QC),C i j->Q (.int (g i j) s.toks) {s with toks:=s.toks+1}->aW (aY X.prog X.w) X.A (f (.int i t) (.int j u)) Q E s):
  OpR X f (rI C λi j=>.int (g i j)):=by
 intro bH s σ H x y v u Q I rx ry h;obtain⟨i,j,rfl,rfl,hc,q⟩:=h;obtain⟨t,rfl⟩:=rx;obtain⟨t',rfl⟩:=ry;exact rule i j t t' s _ _ hc ⟨.int (g i j),H,I.tok _,⟨B⟩,q⟩
def opI0 {f:aD->aD->Sem aD}{g:Int->Int->Int}
  (rule:∀(i j:Int)(t u:Tok)(s:aM)(Q:QC)(E:QC),Q (.int (g i j) s.toks) {s with toks:=s.toks+1}->aW (aY X.prog X.w) X.A (f (.int i t) (.int j u)) Q E s):
  OpR X f (rI0 λi j=>.int (g i j)):=by
 intro bH s σ H x y v u Q I rx ry h;obtain⟨i,j,rfl,rfl,q⟩:=h;obtain⟨t,rfl⟩:=rx;obtain⟨t',rfl⟩:=ry;exact rule i j t t' s _ _ ⟨.int (g i j),H,I.tok _,⟨B⟩,q⟩
def opB0 {f:aD->aD->Sem aD}{g:Int->Int->Bool}
  (rule:∀(i j:Int)(t u:Tok)(s:aM)(Q:QC)(E:QC),Q (.bool (g i j)) s->aW (aY X.prog X.w) X.A (f (.int i t) (.int j u)) Q E s):
  OpR X f (rI0 λi j=>.bl (g i j)):=by
 intro bH s σ H x y v u Q I rx ry h;obtain⟨i,j,rfl,rfl,q⟩:=h;obtain⟨t,rfl⟩:=rx;obtain⟨t',rfl⟩:=ry;exact rule i j t t' s _ _ ⟨.bl (g i j),H,I,O,q⟩
def CPow (i j:Int):Prop:=0<=j/\j<=1000000/\i.natAbs < 2 ^ 64
def CMul (i j:Int):Prop:=(-(2 ^ 64) < i/\i < 2 ^ 64)\/(-(2 ^ 64) < j/\j < 2 ^ 64)
def CMul.ok (h:CMul i j):IntMulOk i j:=by
 rcases h with ⟨h1,h2⟩ | ⟨h1,h2⟩
 ·exact .of_left (intBits_le_64 h1 h2)
 ·exact .of_right (intBits_le_64 h1 h2)
def znD:OpR X (binaryOp .Add) (rI0 λi j=>.int (i+j)):=opI0 λ_ _ _ _ _ _ _ q=>add_int q
def zsM:OpR X (binaryOp .Sub) (rI0 λi j=>.int (i - j)):=opI0 λ_ _ _ _ _ _ _ q=>sub_int q
def zsq:OpR X (binaryOp .Mult) (rI CMul λi j=>.int (i * j)):=opI λ_ _ _ _ _ _ _ hc q=>mul_int q hc.ok
def zsy:OpR X (binaryOp .Mod) (rI (λ_ j=>0 < j) λi j=>.int (i % j)):=opI λi j _ _ _ _ _ hc q=>by have h1:(0:Int) < j:=hc;exact mod_int' () (by rw[Int.fmod_eq_emod_of_nonneg i ()];exact q)
def zsb:OpR X (binaryOp .Pow) (rI CPow λi j=>.int (i ^ j.toNat)):=opI λ_ _ _ _ _ _ _ hc q=>pow_int_small hc.1 hc.2.1 hc.2.2 q
def unI {f:aD->Sem aD}{g:Int->Int}
  (rule:∀(i:Int)(t:Tok)(s:aM)(Q:QC)(E:QC),Q (.int (g i) s.toks) {s with toks:=s.toks+1}->aW (aY X.prog X.w) X.A (f (.int i t)) Q E s):
  UnR X f (rU λi=>.int (g i)):=by
 intro bH s σ H x v Q I rx h;obtain⟨i,rfl,q⟩:=h;obtain⟨t,rfl⟩:=rx;exact rule i t s _ _ ⟨.int (g i),H,I.tok _,⟨B⟩,q⟩
def zsD:UnR X (unaryOp .USub) (rU λi=>.int (-i)):=unI λ_ _ _ _ _ q=>neg_int q
end
def scal:V->V->Bool
 | .non,.non=>Z | .non,.int _=>Z | .int _,.non=>Z | .non,.bl _=>Z | .bl _,.non=>Z | .non,.str _=>Z | .str _,.non=>Z
 | .int _,.int _=>Z | .bl _,.bl _=>Z | .str _,.str _=>Z | .byt _,.byt _=>Z
 | .int _,.str _=>Z | .str _,.int _=>Z | .bl _,.str _=>Z | .str _,.bl _=>Z
 | _,_=>G
def rEq:R2:=λx y H Q=>scal x y=Z/\Q (.bl (decide (x=y))) H
def rNe:R2:=λx y H Q=>scal x y=Z/\Q (.bl (!decide (x=y))) H
def _root_.Nv:=@Bool.eq_iff_iff
def zlJ:decide (V.int i=V.int j)=(i==j):=by rw[Nv];simp
def zpf:decide (V.bl i=V.bl j)=(i==j):=by rw[Nv];simp
def zle:decide (V.str i=V.str j)=(i==j):=by rw[Nv];simp
def zlE:decide (V.byt i=V.byt j)=(i.toList==j.toList):=by rw[Nv];cases i;cases j;simp
section
variable {X:Cx}{a b c:aX}{ta tb tc:TE}{pos:Pos}
def zA {Q:VK}{k k':Bool}(I:Inv X bH σ H s)(q:Q (.bl k) H)(e:k=k'):EP X bH σ Q (.bool k') s:=by subst e;exact⟨.bl k,H,I,O,q⟩
def zrK:OpR X (a9 .Eq) rEq:=by
 intro bH s σ H x y v u Q I rx ry h;obtain⟨hs,q⟩:=h;cases x with
 | non=>
  cases rx;cases y with
  | non=>cases ry;exact PySem.EqNone.eq_none_none (zA I q (by simp))
  | bl j=>cases ry;exact PySem.EqNone.eq_none_bool (zA I q (by simp))
  | int j=>obtain⟨t',rfl⟩:=ry;exact PySem.EqNone.eq_none_int (zA I q (by simp))
  | str j=>obtain⟨t',rfl⟩:=ry;exact PySem.EqNone.eq_none_str (zA I q (by simp))
  | _=>exact Jf (show G=Z from hs) Jd
 | bl i=>
  cases rx;cases y with
  | non=>cases ry;exact PySem.EqNone.eq_bool_none (zA I q (by simp))
  | bl j=>cases ry;exact eq_bool (zA I q zpf)
  | str j=>obtain⟨t',rfl⟩:=ry;exact PySem.EqMixed.eq_bool_str (zA I q (by simp))
  | _=>exact Jf (show G=Z from hs) Jd
 | int i=>
  obtain⟨t,rfl⟩:=rx;cases y with
  | non=>cases ry;exact PySem.EqNone.eq_int_none (zA I q (by simp))
  | int j=>obtain⟨t',rfl⟩:=ry;exact eq_int (zA I q zlJ)
  | str j=>obtain⟨t',rfl⟩:=ry;exact PySem.EqMixed.eq_int_str (zA I q (by simp))
  | _=>exact Jf (show G=Z from hs) Jd
 | str i=>
  obtain⟨t,rfl⟩:=rx;cases y with
  | non=>cases ry;exact PySem.EqNone.eq_str_none (zA I q (by simp))
  | bl j=>cases ry;exact PySem.EqMixed.eq_str_bool (zA I q (by simp))
  | int j=>obtain⟨t',rfl⟩:=ry;exact PySem.EqMixed.eq_str_int (zA I q (by simp))
  | str j=>obtain⟨t',rfl⟩:=ry;exact eq_str (zA I q zle)
  | _=>exact Jf (show G=Z from hs) Jd
 | byt i=>
  obtain⟨t,rfl⟩:=rx;cases y with
  | byt j=>obtain⟨t',rfl⟩:=ry;exact PySem.W.eq_bytes (zA I q zlE)
  | _=>exact Jf (show G=Z from hs) Jd
 | _=>cases y <;> exact Jf (show G=Z from hs) Jd
def zua:OpR X (a9 .NotEq) rNe:=by
 intro bH s σ H x y v u Q I rx ry h;obtain⟨hs,q⟩:=h;cases x with
 | non=>
  cases rx;cases y with
  | non=>cases ry;exact PySem.EqNone.ne_none_none (zA I q (by simp))
  | bl j=>cases ry;exact PySem.EqNone.ne_none_bool (zA I q (by simp))
  | int j=>obtain⟨t',rfl⟩:=ry;exact PySem.EqNone.ne_none_int (zA I q (by simp))
  | str j=>obtain⟨t',rfl⟩:=ry;exact PySem.EqNone.ne_none_str (zA I q (by simp))
  | _=>exact Jf (show G=Z from hs) Jd
 | bl i=>
  cases rx;cases y with
  | non=>cases ry;exact PySem.EqNone.ne_bool_none (zA I q (by simp))
  | bl j=>cases ry;exact ne_bool (zA I q (congrArg not zpf))
  | str j=>obtain⟨t',rfl⟩:=ry;exact PySem.EqMixed.ne_bool_str (zA I q (by simp))
  | _=>exact Jf (show G=Z from hs) Jd
 | int i=>
  obtain⟨t,rfl⟩:=rx;cases y with
  | non=>cases ry;exact PySem.EqNone.ne_int_none (zA I q (by simp))
  | int j=>obtain⟨t',rfl⟩:=ry;exact ne_int (zA I q (congrArg not zlJ))
  | str j=>obtain⟨t',rfl⟩:=ry;exact PySem.EqMixed.ne_int_str (zA I q (by simp))
  | _=>exact Jf (show G=Z from hs) Jd
 | str i=>
  obtain⟨t,rfl⟩:=rx;cases y with
  | non=>cases ry;exact PySem.EqNone.ne_str_none (zA I q (by simp))
  | bl j=>cases ry;exact PySem.EqMixed.ne_str_bool (zA I q (by simp))
  | int j=>obtain⟨t',rfl⟩:=ry;exact PySem.EqMixed.ne_str_int (zA I q (by simp))
  | str j=>obtain⟨t',rfl⟩:=ry;exact ne_str (zA I q (congrArg not zle))
  | _=>exact Jf (show G=Z from hs) Jd
 | byt i=>
  obtain⟨t,rfl⟩:=rx;cases y with
  | byt j=>obtain⟨t',rfl⟩:=ry;exact PySem.W.ne_bytes (zA I q (congrArg not zlE))
  | _=>exact Jf (show G=Z from hs) Jd
 | _=>cases y <;> exact Jf (show G=Z from hs) Jd
def zrT:OpR X (a9 .Lt) (rI0 λi j=>.bl (decide (i < j))):=opB0 λ_ _ _ _ _ _ _ q=>lt_int q
def zrC:OpR X (a9 .LtE) (rI0 λi j=>.bl (decide (i<=j))):=opB0 λ_ _ _ _ _ _ _ q=>le_int q
def zuo:OpR X (a9 .Gt) (rI0 λi j=>.bl (decide (j < i))):=opB0 λ_ _ _ _ _ _ _ q=>gt_int q
def ztS:OpR X (a9 .GtE) (rI0 λi j=>.bl (decide (j<=i))):=opB0 λ_ _ _ _ _ _ _ q=>ge_int q
def zmt:OpR X (a9 .Lt) (λx y H Q=>∃i j,x=.str i/\y=.str j/\Q (.bl (decide (i.cps.toList < j.cps.toList))) H):=by intro bH s σ H x y v u Q I rx ry h;obtain⟨i,j,rfl,rfl,q⟩:=h;obtain⟨t,rfl⟩:=rx;obtain⟨t',rfl⟩:=ry;exact lt_str (zA I q rfl)
def zs3:OpR X (a9 .Is) (λx y H Q=>y=.non/\Q (.bl (decide (x=.non))) H):=by
 intro bH s σ H x y v u Q I rx ry h;obtain⟨rfl,q⟩:=h;cases ry;refine is_none_gen (zA I q ?_);cases x <;> first
  | (cases rx;rfl)
  | (obtain⟨t,rfl⟩:=rx;rfl)
def zqU:OpR X (a9 .IsNot) (λx y H Q=>y=.non/\Q (.bl (!decide (x=.non))) H):=by
 intro bH s σ H x y v u Q I rx ry h;obtain⟨rfl,q⟩:=h;cases ry;refine isnot_none_gen (zA I q ?_);cases x <;> first
  | (cases rx;rfl)
  | (obtain⟨t,rfl⟩:=rx;rfl)
def OpR.or (h:OpR X f r)(h':OpR X f r'):OpR X f (λx y H Q=>r x y H Q\/r' x y H Q):=by
 intro bH s σ H x y v u Q I rx ry q;rcases q with q | q
 ·exact h bH s σ H x y v u Q I rx ry q
 ·exact h' bH s σ H x y v u Q I rx ry q
def zaF (b:aX){op:CmpOp}(h:op≠ .In:=by decide)(h2:op≠ .NotIn:=by decide):behindInMarks op b=G:=by
 have e1:(op==CmpOp.In)=G:=by cases op <;> first | rfl | exact Jf rfl h
 have e2:(op==CmpOp.NotIn)=G:=by cases op <;> first | rfl | exact Jf rfl h2
 cases b <;> simp[behindInMarks,e1,e2]
def zax (ho:OpR X (a9 op) r)(ha:PE X a ta)(hb:PE X b tb)(hm:behindInMarks op b=G):PE X (.Compare a [op] [b] pos) (tOp r ta tb):=by intro bH s σ H Q I h;exact wpAny_Compare1 (binT ha hb I h λv u s2 x y H2 I2 rx ry q=>ho bH s2 σ H2 x y v u Q I2 rx ry q) hm
def zlp (t:TE):TT:=fun σ H Q=>t σ H λx H'=>isBl x H' Q
def zao (ho:OpR X (a9 op) r)(ha:PE X a ta)(hb:PE X b tb)(hm:behindInMarks op b=G):PT X (.Compare a [op] [b] pos) (zlp (tOp r ta tb)):=by
 intro bH s σ H Q I h;refine wpAny_isTrue_Compare1 (thn (ha bH s σ H _ I h) λv s1 ⟨x,H1,I1,r1,q1⟩=>thn (hb bH s1 σ H1 _ I1 q1) λu s2 ⟨y,H2,I2,r2,q2⟩=>
  thn (ho bH s2 σ H2 x y v u _ I2 r1 r2 q2) λc s3 ⟨z,H3,I3,r3,k,e,q3⟩=>?_) hm
 subst e;cases r3;exact ba ⟨H3,I3,q3⟩
def zoM (r r':R2)(ta tb tc:TE):TE:=fun σ H Q=>ta σ H λx H1=>tb σ H1 λy H2=>r x y H2 λz H3=>∃k,z=.bl k/\
 (if k=Z then tc σ H3 λw' H4=>r' y w' H4 Q else Q (.bl G) H3)
def zpn (ho:OpR X (a9 op) r)(ho':OpR X (a9 op') r')(ha:PE X a ta)(hb:PE X b tb)(hc:PE X c tc)
  (hm:lastMarks [op,op'] [b,c]=G:=by with_unfolding_all rfl):PE X (.Compare a [op,op'] [b,c] pos) (zoM r r' ta tb tc):=by
 intro bH s σ H Q I h;refine Compare_chain (thn (ha bH s σ H _ I h) λv s1 ⟨x,H1,I1,r1,q1⟩=>chain_link (thn (hb bH s1 σ H1 _ I1 q1) λu s2 ⟨y,H2,I2,r2,q2⟩=>
  thn (ho bH s2 σ H2 x y v u _ I2 r1 r2 q2) λd s3 ⟨z,H3,I3,r3,k,e,q3⟩=>?_)) hm
 subst e;cases r3;refine ba ?_;cases k with
 | false=>exact ite_ff ⟨.bl G,H3,I3,O,q3⟩
 | true=>exact ite_tt (chain_last (thn (hc bH s3 σ H3 _ I3 q3) λw' s4 ⟨z',H4,I4,r4,q4⟩=>ho' bH s4 σ H4 y z' u w' Q I4 r2 r4 q4))
def zi6 (ho:OpR X (a9 op) r)(ho':OpR X (a9 op') r')(ha:PE X a ta)(hb:PE X b tb)(hc:PE X c tc)
  (hm:lastMarks [op,op'] [b,c]=G:=by with_unfolding_all rfl):PT X (.Compare a [op,op'] [b,c] pos) (zlp (zoM r r' ta tb tc)):=by
 intro bH s σ H Q I h;refine isTrue_chain (thn (ha bH s σ H _ I h) λv s1 ⟨x,H1,I1,r1,q1⟩=>test_link (thn (hb bH s1 σ H1 _ I1 q1) λu s2 ⟨y,H2,I2,r2,q2⟩=>
  thn (ho bH s2 σ H2 x y v u _ I2 r1 r2 q2) λd s3 ⟨z,H3,I3,r3,k,e,q3⟩=>?_)) hm
 subst e;cases r3;refine ba ?_;cases k with
 | false=>obtain⟨k',e',q'⟩:=q3;cases e';exact ite_ff ⟨H3,I3,q'⟩
 | true=>refine ite_tt (test_last (thn (hc bH s3 σ H3 _ I3 q3) λw' s4 ⟨z',H4,I4,r4,q4⟩=>thn (ho' bH s4 σ H4 y z' u w' _ I4 r2 r4 q4) λd' s5 ⟨z2,H5,I5,r5,k2,e2,q5⟩=>?_));subst e2;cases r5;exact ba ⟨H5,I5,q5⟩
def zer:(aQ:Nat) < 2 ^ 63:=by rw[sizeLine_eq];decide
def zkK:OpR X (binaryOp .Add) (λx y H Q=>∃i j,x=.str i/\y=.str j/\i.length+j.length<=aQ/\Q (.str (i++j)) H):=by intro bH s σ H x y v u Q I rx ry h;obtain⟨i,j,rfl,rfl,hz,q⟩:=h;obtain⟨t,rfl⟩:=rx;obtain⟨t',rfl⟩:=ry;exact add_str (λt' tk=>⟨.str (i++j),H,I.tok _,⟨B⟩,q⟩) hz
def vals1 {x:V}(r:Vals [x] us):∃u,us=[u]/\RelV x u:=by
 cases r with
 | cons r1 r2=>cases r2;exact⟨B,r1⟩
theorem vals2 {x y:V}(r:Vals [x,y] us):∃u w',us=[u,w']/\RelV x u/\RelV y w':=by
 cases r with
 | cons r1 r2=>
  cases r2 with
  | cons r3 r4=>cases r4;exact⟨_,B,r1,r3⟩
def zng:zac X (.builtin "abs") (λxs H Q=>∃i,xs=[.int i]/\Q (.int (if i < 0 then -i else i)) H):=by intro bH s σ H xs us Q I r h;obtain⟨i,rfl,q⟩:=h;obtain⟨u,rfl,t,rfl⟩:=vals1 r;exact call_abs_int λu tk=>⟨.int (if i < 0 then -i else i),H,I.tok _,⟨B⟩,q⟩
def zmu:zac X (.type "int") (λxs H Q=>(∃i,xs=[.int i]/\Q (.int i) H)\/∃k,xs=[.bl k]/\Q (.int (if k then 1 else 0)) H):=by
 intro bH s σ H xs us Q I r h;rcases h with ⟨i,rfl,q⟩ | ⟨k,rfl,q⟩
 ·obtain⟨u,rfl,t,rfl⟩:=vals1 r;exact call_int_int ⟨.int i,H,I,⟨B⟩,q⟩
 ·obtain⟨u,rfl,r1⟩:=vals1 r;cases r1;exact call_int_bool ⟨.int (if k then 1 else 0),H,I.tok _,⟨B⟩,q⟩
def zo7:zac X (.builtin "ord") (λxs H Q=>∃x,xs=[.str x]/\x.length=1/\Q (.int (x.cps.getD 0 0:Nat)) H):=by intro bH s σ H xs us Q I r h;obtain⟨x,rfl,hz,q⟩:=h;obtain⟨u,rfl,t,rfl⟩:=vals1 r;exact ord_of_one hz ⟨.int _,H,I.tok _,⟨B⟩,q⟩
end
structure ObjM (h:aF)(x dx C:aE)(mA:QB):Prop where
 obj:h.get? x=Y (PySem.W.instObj C dx)
 ns:h.Ns1 dx mA
 ne:dx≠x
def zex {h:aF}{dx:aE}{mA:QB}(n:h.Ns1 dx mA):∃od,h.get? dx=Y od/\∀name,PySem.W.lookIn name od=Y (mA name):=by
 obtain⟨o,es,ep,ho,hd,hk,_,hm⟩:=n;refine⟨o,ho,λname=>?_⟩;have e:=hm name;unfold nsFind findBy at e;rw[<-Array.find?_toList] at e;unfold PySem.W.lookIn;rw[hd];dsimp only;split
 ·rename_i y q;rw[q] at e;exact congrArg Y e
 ·rename_i q;rw[q] at e;have a:es.toList.any (·.refKey)=G:=by rw[List.any_eq_false];intro y hy;obtain⟨z,t,hkey⟩:=hk y (Array.mem_toList_iff.mp hy);simp[DictEntry.refKey,hkey]
  have a':¬es.toList.any (·.refKey)=Z:=by rw[a];exact Jd
  rw[au a'];exact congrArg Y e
theorem ObjM.look (I:ObjM h x dx C mA):∃od,PySem.W.InstAt h x (PySem.W.instObj C dx) C (Y od)/\∀name,PySem.W.lookIn name od=Y (mA name):=
 let ⟨od,ho,hl⟩:=zex I.ns
 ⟨od,⟨I.obj,O,O,ho⟩,hl⟩
section
variable {prog:aG}{w:aH}{A:aU}{E:QC}{s:aM}{K:QA}{x dx C f:aE}{mA:QB}{name:Str}{v:aD}
def get_map {Q:QC}(X:K.In s.heap)(I:ObjM s.heap x dx C mA)(hg:PySem.W.plainGet K C name=Z)(hh:PySem.W.hasDictIn K C=Z)
  (ha:bd K (.ref C) name=Y U) (hv:mA name=Y v) (hv':PySem.W.handedIn v=Z) (h:Q v {s with toks:=s.toks+1}):
  aW (aY prog w) A (getAttr (.ref x) name expr) Q E s:=by
 obtain⟨od,J,hl⟩:=I.look;exact PySem.W.get_value X J (PySem.W.plainGet_of hg).1 (PySem.W.findObj_own hh ha rfl (by rw[hl,hv])) hv' h
def zpe {Q:aD ×List aD->aM->Prop}(X:K.In s.heap)(I:ObjM s.heap x dx C mA)(hg:PySem.W.plainGet K C name=Z)
  (hf:bd K (.ref C) name=Y (Y (.ref f))) (ht:PySem.W.isFn K (.ref f)=Z) (hv:mA name=U) (h:Q (.ref f,[.ref x]) s):
  aW (aY prog w) A (getMethod (.ref x) name pl) Q E s:=by
 obtain⟨od,J,hl⟩:=I.look;exact PySem.W.method_fn X J (PySem.W.plainGet_of hg).1 (PySem.W.plainGet_of hg).2 hf (beq_iff_eq.mp ht) (by show(PySem.W.lookIn name od).map (·.isSome)=Y G;rw[hl,hv];rfl) h
def _root_.JM:=@List.length_cons
def zp2 {Q:QD}(X:K.In s.heap)(I:ObjM s.heap x dx C mA)
  (hs:bd K (.ref C) "__setattr__" =Y (Y (.builtin "object.__setattr__"))) (hp:PySem.W.plainOver K C=Z) (ht:PySem.W.takerIn K C name=Y U) (hh:PySem.W.hasDictIn K C=Z)
  (hw:PySem.Within mA ns) (hsz:ns.length<=aQ)
  (h:∀h',ObjM h' x dx C (λy=>if y=name then Y v else mA y)->Heap.SameBut dx s.heap h'->Q Unit.unit {s with heap:=h',toks:=s.toks+2}):
  aW (aY prog w) A (setAttr (.ref x) name v) Q E s:=by
 obtain⟨od,J,hl⟩:=I.look;refine PySem.W.set_plain X J hs (PySem.W.osa_open (s:={s with toks:=s.toks+1}) (r:=U) X J hp ht λb=>?_);obtain⟨cd,hc,hd'⟩:=PySem.W.any_some hh;have hx:s.heap.get? x=Y ⟨.ref C,Y dx,.plain, #[]⟩:=I.obj;refine Ja (bc (Ja (Ja (wpAny_loadPart hx (Ja (PySem.W.Looks.here (s:={s with toks:=s.toks+1}) (PySem.W.looks_clsIn X hc) ?_))))));rw[hd'];refine bc (a:=Y dx) (Ja (bc (Ja ?_)));refine wpAny_nsSet1 (s:={s with toks:=s.toks+1}) I.ns λh' hn2 hs2=>?_;obtain⟨oD,esD,epD,hoD,hdD,hcD⟩:=hn2.count (PySem.Within.cons name v hw);refine Ja (wpAny_lookBehind hoD (by rw[hdD];exact pastItsLine_dict (Jg hcD (by rw[JM];lia))) ?_);exact bc (h _ ⟨(hs2.2 _ (aV I.ne)).trans I.obj,hn2,I.ne⟩ hs2)
abbrev _root_.QL:=List (Str ×aD)
def zpo {vs:QO}{kw:QL}(X:K.In s.heap)(hm:PySem.W.makesIn K C=Z)
  (hi:bd K (.ref C) "__init__" =Y (Y (.ref f))) (hf:PySem.W.typeIn K (.ref f)=Y (.type "function"))
  (h:codeAny (aY prog w) (A.under (.builtin "type.__call__" ⟨.ref C::vs,kw⟩)) (.call (.ref f) ⟨.ref (s.heap.objs.size+1)::vs,kw⟩) (PySem.W.InitBack (s.heap.objs.size+1) R)
   {s with heap:=(s.heap.push be).push (PySem.W.instObj C s.heap.objs.size)}):
  codeAny (aY prog w) A (.call (.ref C) ⟨vs,kw⟩) R s:=by
 obtain⟨hh,g,d,t,os⟩:=s;exact PySem.W.make_core (PySem.W.makes_of X hm) (PySem.W.looks_findIn X hi) (λself=>PySem.W.bind_fn X self hf) (.inl rfl) h
end
def putF (f:Str)(v:V):List (Str ×V)->List (Str ×V)
 | []=>[(f,v)]
 | (g,x)::r=>if g=f then(g,v)::r else(g,x)::putF f v r
theorem zcQ (f g:Str)(v:V):∀fs:List (Str ×V),(putF f v fs).lookup g=if g=f then Y v else fs.lookup g
 | []=>by
  show List.lookup g [(f,v)]=_;by_cases h:g=f
  ·have hb:(g==f)=Z:=beq_iff_eq.mpr h;simp only[List.lookup,hb,av h]
  ·have hb:(g==f)=G:=beq_eq_false_iff_ne.mpr h;simp only[List.lookup,hb,au h]
 | (k,x)::r=>by
  have ih:=zcQ f g v r;rw[show putF f v ((k,x)::r)=(if k=f then(k,v)::r else(k,x)::putF f v r) from rfl];by_cases hk:k=f
  ·rw[av hk];by_cases h:g=k
   ·have hb:(g==k)=Z:=beq_iff_eq.mpr h;simp only[List.lookup,hb,av (h.trans hk)]
   ·have hb:(g==k)=G:=beq_eq_false_iff_ne.mpr h;simp only[List.lookup,hb,au (λe:g=f=>h (e.trans hk.symm))]
  ·rw[au hk];by_cases h:g=k
   ·have hb:(g==k)=Z:=beq_iff_eq.mpr h;simp only[List.lookup,hb,au (λe:g=f=>hk (h.symm.trans e))]
   ·have hb:(g==k)=G:=beq_eq_false_iff_ne.mpr h;simp only[List.lookup,hb];exact ih
def _root_.JX:=@List.map_cons
theorem zbS (f:Str)(v:V):∀fs:List (Str ×V),f∈(putF f v fs).map (·.1)/\∀g,g∈fs.map (·.1)->g∈(putF f v fs).map (·.1)
 | []=>⟨by simp[putF],λg h=>by simp at h⟩
 | (k,x)::r=>by
  obtain⟨i1,i2⟩:=zbS f v r;rw[show putF f v ((k,x)::r)=(if k=f then(k,v)::r else(k,x)::putF f v r) from rfl];by_cases hk:k=f
  ·rw[av hk];subst hk;exact⟨by simp,λg h=>by simpa using h⟩
  ·rw[au hk];refine⟨?_,λg h=>?_⟩
   ·rw[JX];exact Jj _ i1
   ·rw[JX] at h ⊢;rcases JJ.mp h with e | e
    ·exact JJ.mpr (.inl e)
    ·exact Jj _ (i2 g e)
theorem zeK (f:Str)(v:V):∀fs:List (Str ×V),(putF f v fs).length<=fs.length+1
 | []=>by simp[putF]
 | (k,x)::r=>by
  have ih:=zeK f v r;rw[show putF f v ((k,x)::r)=(if k=f then(k,v)::r else(k,x)::putF f v r) from rfl];by_cases hk:k=f
  ·rw[av hk,JM,JM];lia
  ·rw[au hk,JM,JM];lia
theorem RelO.some_of {v:V}(r:RelO (Y v) o):∃u,o=Y u/\RelV v u:=by
 cases o with
 | none=>exact(show False from r).elim
 | some u=>exact⟨u,O,r⟩
def RelO.none_of (r:RelO U o):o=U:=by
 cases o with
 | none=>rfl
 | some u=>exact(show False from r).elim
theorem zgZ (r:RelV v u):PySem.W.handedIn u=Z:=by
 cases v with
 | non=>cases (show u=aO from r);rfl
 | bl b=>cases (show u=Value.bool b from r);rfl
 | int i=>obtain⟨t,e⟩:=(show∃t,u=Value.int i t from r);cases e;rfl
 | str x=>obtain⟨t,e⟩:=(show∃t,u=Value.str x t from r);cases e;rfl
 | byt b=>obtain⟨t,e⟩:=(show∃t,u=Value.bytes b t from r);cases e;rfl
 | flt b=>obtain⟨t,e⟩:=(show∃t,u=Value.float b t from r);cases e;rfl
 | ref a=>cases (show u=aP a from r);rfl
 | ty n=>cases (show u=Value.type n from r);rfl
section
variable {P:aG}{w:aH}{H H':Hp}{h h':aF}{a C dx:aE}{fs fs':QI}
def zfc (hok:HOk P w H h)(e:H a=Y (.ins C dx fs)):∃mA,ObjM h a dx C mA/\(∀f,RelO (fs.lookup f) (mA f))/\PySem.Within mA (fs.map (·.1))/\fs.length<=1000/\H dx=Y (.own a):=by obtain⟨d,z,ne,ob,mA,n,r,q⟩:=(show zB P w H h a (.ins C dx fs) from hok a _ e);exact⟨mA,⟨ob,n,ne⟩,r,q,z,d⟩
end
structure Cls (K:QA)(C:aE):Prop where
 pg:PySem.W.plainGet K C Str.empty=Z
 hd:PySem.W.hasDictIn K C=Z
 po:PySem.W.plainOver K C=Z
 sa:bd K (.ref C) "__setattr__" =Y (Y (.builtin "object.__setattr__"))
theorem Cls.get {K:QA}{C:aE}(c:Cls K C)(f:Str):PySem.W.plainGet K C f=Z:=c.pg
def zm (K:QA)(C:aE)(f:Str):Prop:=bd K (.ref C) f=Y U
def zm.taker {K:QA}{C:aE}{f:Str}(n:zm K C f):PySem.W.takerIn K C f=Y U:=by
 unfold PySem.W.takerIn;rw[show bd K (.ref C) f=Y U from n]
 rfl
structure Con (K:QA)(C:aE)(f:Str)(v:V)(u:aD):Prop where
 at_:bd K (.ref C) f=Y (Y u)
 rel:RelV v u
 get:PySem.W.specialIn K u "__get__" =Y U
 cp:PySem.W.copiedNames.contains f=G
structure Meth (K:QA)(C:aE)(m:Str)(f:aE):Prop where
 at_:bd K (.ref C) m=Y (Y (.ref f))
 fn:PySem.W.isFn K (.ref f)=Z
 kp:bf K (.ref f)=Z
section
variable {X:Cx}{bH:QE}{σ:St}{H:Hp}{s:aM}{a C dx:aE}{fs:QI}{f:Str}{v:V}{A:aU}{E:QC}
def zkd {Q:QC}(I:Inv X bH σ H s)(e:H a=Y (.ins C dx fs))(c:Cls X.K C)(n:zm X.K C f)(l:fs.lookup f=Y v)
  (h:∀u s',Inv X bH σ H s'->RelV v u->Q u s'):aW (aY X.prog X.w) A (getAttr (.ref a) f b) Q E s:=by
 obtain⟨mA,ae,r,_,_,_⟩:=zfc I.hok e;obtain⟨u,hu,ru⟩:=RelO.some_of (v:=v) (o:=mA f) (by rw[<-l];exact r f);exact get_map I.kIn ae (c.get f) c.hd n hu (zgZ ru) (h u _ (I.tok _) ru)
def zdu {Q:aD ×List aD->aM->Prop}(I:Inv X bH σ H s)(e:H a=Y (.ins C dx fs))(c:Cls X.K C)(k:Meth X.K C m g)(l:fs.lookup m=U)
  (h:Q (.ref g,[.ref a]) s):aW (aY X.prog X.w) A (getMethod (.ref a) m pl) Q E s:=by
 obtain⟨mA,ae,r,_,_,_⟩:=zfc I.hok e;have hn:mA m=U:=RelO.none_of (by rw[<-l];exact r m);exact zpe I.kIn ae (c.get m) k.at_ k.fn hn h
def _root_.JI:=@List.length_map
def zky {Q:QD}(I:Inv X bH σ H s)(e:H a=Y (.ins C dx fs))(c:Cls X.K C)(n:zm X.K C f)(hl:fs.length < 1000)(ry:RelV y u)
  (h:∀s',Inv X bH σ (upd H a (.ins C dx (putF f y fs))) s'->Q Unit.unit s'):aW (aY X.prog X.w) A (setAttr (.ref a) f u) Q E s:=by
 obtain⟨mA,ae,r,wi,_,ho⟩:=zfc I.hok e;have hz:(fs.map (·.1)).length<=aQ:=by rw[JI,sizeLine_eq];lia
 refine zp2 I.kIn ae c.sa c.po n.taker c.hd wi hz λh' O' sb=>h _ ?_;have hd:∃o,h'.get? dx=Y o:=let ⟨o,_,_,e',_⟩:=O'.ns;⟨o,e'⟩;refine I.write (x:=a) (e:=dx) (by rw[e];exact True.intro) (.inr ho) (λb q hb z=>(sb.2 b hb).trans z) hd ?_;refine⟨by rw[zd ae.ne];exact ho,?_,ae.ne,O'.obj,_,O'.ns,λg=>?_,λg hg=>?_⟩
 ·have:=zeK f y fs;lia
 ·show RelO ((putF f y fs).lookup g) (if g=f then Y u else mA g);rw[zcQ];by_cases q:g=f
  ·rw[av q,av q];exact ry
  ·rw[au q,au q];exact r g
 ·by_cases q:g=f
  ·rw[q];exact(zbS f y fs).1
  ·refine(zbS f y fs).2 g (wi g λz=>hg ?_);show(if g=f then Y u else mA g)=U;rw[au q];exact z
def _root_.Jr:=@Nat.lt_succ_self
def _root_.Ng:=@PySem.Heap.size_push
def Inv.made (I:Inv X bH σ H s):Inv X bH σ (upd (upd H s.heap.objs.size (.own (s.heap.objs.size+1))) (s.heap.objs.size+1) (.ins C s.heap.objs.size []))
  {s with heap:=(s.heap.push be).push (PySem.W.instObj C s.heap.objs.size)}:=by
 have e1:(s.heap.push be).get? s.heap.objs.size=Y be:=JL s.heap rfl;have e2:((s.heap.push be).push (PySem.W.instObj C s.heap.objs.size)).get? (s.heap.objs.size+1)=Y (PySem.W.instObj C s.heap.objs.size):=by have:=JL (s.heap.push be) (o:=PySem.W.instObj C s.heap.objs.size) rfl;rwa[Ng] at this
 have e3:(s.heap.push be).Ns s.heap.objs.size (λ_=>U):=⟨be, #[],_,e1,O,(λe he=>Jf he (by simp)),λ_=>O⟩;have I1:=I.laid (a:=s.heap.objs.size) (o:=.own (s.heap.objs.size+1)) (h':=s.heap.push be) (t':=s.toks) (λb u q=>JE _ q) (Jb _) ⟨_,e1⟩;refine I1.laid (a:=s.heap.objs.size+1) (o:=.ins C s.heap.objs.size []) (t':=s.toks) (λb u q=>JE _ q) (Nat.le_of_eq (Ng _ _)) ?_;have ne:s.heap.objs.size≠s.heap.objs.size+1:=Jl (Jr _);refine⟨by rw[zd ne,za],JN _,ne,e2,λ_=>U,(Heap.Ns1.of_empty e3).at λo q=>JE _ q,λ_=>True.intro,λy hy=>Jf rfl hy⟩
def zly {env:Env}{e:aX}{f:Str}{pos:Pos}(hb:attributeBase e f env (aZ e env)=aZ e env)
  (h:aW (aY prog w) A (aZ e env) (λo s₁=>aW (aY prog w) A (getAttr o f Z) Q E s₁) E s):aW (aY prog w) A (aZ (.Attribute e f pos) env) Q E s:=
 Attribute_any_ h (by rw[arm_eval_Attribute,hb])
end
inductive xFld (K:QA)(f:Str)(x:V)(H:Hp)(Q:VK):Prop
 | mk (a C dx)(fs:QI)(v:V)(_:x=.ref a)(_:H a=Y (.ins C dx fs)) (_:Cls K C) (_:zm K C f) (_:fs.lookup f=Y v) (_:Q v H):xFld K f x H Q
def tFld (K:QA)(ta:TE)(f:Str):TE:=fun σ H Q=>ta σ H λx H1=>xFld K f x H1 Q
def sFld (K:QA)(ta tv:TE)(f:Str):TS:=λD σ H=>tv σ H λy H1=>ta σ H1 λx H2=>∃a C dx fs,x=.ref a/\H2 a=Y (.ins C dx fs)/\Cls K C/\zm K C f/\fs.length < 1000/\
 D.nx σ (upd H2 a (.ins C dx (putF f y fs)))
section
variable {X:Cx}{o e value:aX}{f:Str}{pos pos' tpos:Pos}{ta tv:TE}
def zta (he:PE X e ta)(hb:attributeBase e f X.env (aZ e X.env)=aZ e X.env):PE X (.Attribute e f pos) (tFld X.K ta f):=by intro bH s σ H Q I h;refine zly hb (thn (he bH s σ H _ I h) λu s1 ⟨x,H1,I1,rx,a,C,dx,fs,v,ex,ea,c,n,l,q⟩=>?_);subst ex;obtain rfl:u=aP a:=rx;exact zkd I1 ea c n l λu' s2 I2 ru=>⟨v,H1,I2,ru,q⟩
def zsC (ha:PE X o ta)(hv:PE X value tv)(hs:swapsWith value (Y (.Attribute o f pos')) pos.line X.env=pure G):PS X (.Assign [.Attribute o f pos'] value pos) (sFld X.K ta tv f):=by intro bH s σ H D I h;refine plainObj_wpAny_Assign_Attribute (thn (hv bH s σ H _ I h) λu s1 ⟨y,H1,I1,ry,q⟩=>thn (ha bH s1 σ H1 _ I1 q) λov s2 ⟨x,H2,I2,rx,a,C,dx,fs,ex,ea,c,n,l,q2⟩=>?_) hs;subst ex;obtain rfl:ov=aP a:=rx;exact zky I2 ea c n l ry λs3 I3=>⟨σ,_,I3,q2⟩
def zrN {apos:Pos}(he:PE X e te)(I:Inv X bH σ H s)
  (h:te σ H λx H1=>∃a C dx fs g,x=.ref a/\H1 a=Y (.ins C dx fs)/\Cls X.K C/\Meth X.K C m g/\fs.lookup m=U/\
   ∀s1,Inv X bH σ H1 s1->aW (aY X.prog X.w) X.A (callWith pos (.ref g) [.ref a] (a6 pos (a7 args X.env)) (backToKw pos (keywordEach [] X.env))) Q X.xe s1)
  (ht:aZ (.Call (.Attribute e m apos) args [] pos) X.env=(do
   let ov<-aZ e X.env
   standAt apos.atName
   let (f,first) <-holding [ov] (getMethod ov m pl)
   callWith pos f first (a6 pos (a7 args X.env)) (backToKw pos (keywordEach [] X.env)))):
  aW (aY X.prog X.w) X.A (aZ (.Call (.Attribute e m apos) args [] pos) X.env) Q X.xe s:=by
 refine PySem.W.methodCall_KW (pl:=pl) (thn (he bH s σ H _ I h) λu s1 ⟨x,H1,I1,rx,a,C,dx,fs,g,ex,ea,c,k,l,q⟩=>?_) ht;subst ex;obtain rfl:u=aP a:=rx;exact zdu I1 ea c k l (q s1 I1)
variable {bH:QE}{σ:St}{H:Hp}{s:aM}{A:aU}{E:QC}{Q:QC}{c:aD}{b:Bool}
inductive TyOf (K:QA)(H:Hp):V->aD->Prop where
 | non:TyOf K H .non (.type "NoneType")
 | bl (x:Bool):TyOf K H (.bl x) (.type "bool")
 | int (i:Int):TyOf K H (.int i) (.type "int")
 | str (x:Str):TyOf K H (.str x) (.type "str")
 | flt (x:UInt64):TyOf K H (.flt x) (.type "float")
 | lst {a:aE} {xs:QR} (e:H a=Y (.lst xs)):TyOf K H (.ref a) (.type "list")
 | frz {a:aE} {o:Obj} {xs:QR} (e:H a=Y (.frz o (.lst xs))):TyOf K H (.ref a) (.type "list")
 | tup {a:aE} {xs:QR} (e:H a=Y (.tup xs)):TyOf K H (.ref a) (.type "tuple")
 | dK {a:aE} {kvs:QG} (e:H a=Y (.dK kvs)):TyOf K H (.ref a) (.type "dict")
 | dT {a:aE} {kvs:List (List Key ×V)} (e:H a=Y (.dT kvs)):TyOf K H (.ref a) (.type "dict")
 | ins {a C dx:aE} {fs:QI} (e:H a=Y (.ins C dx fs)) (cl:Cls K C) (ha:bd K (.ref C) "__class__" =Y (Y (.builtin "object.__class__")))
   (hn:PySem.W.specialIn K (.builtin "object.__class__") "__get__" =Y (Y (.builtin "getset_descriptor.__get__"))) (htk:PySem.W.takesIn K (.builtin "object.__class__")=Y Z)
   (hm:PySem.W.mroIn K C (.type "object")=Y Z):TyOf K H (.ref a) (.ref C)
def zmH (I:Inv X bH σ H s)(rx:RelV x u)(ty:TyOf X.K H x t)(e:bg X.K t c=Y b)(h:∀tk,Q (.bool b) {s with toks:=tk}):
  aW (aY X.prog X.w) A (call (.builtin "isinstance") [u,c]) Q E s:=by
 cases ty with
 | non=>cases (show u=aO from rx);exact bj PySem.W.kitx_none I.kIn True.intro e (λz=>nomatch z) h
 | bl y=>cases (show u=Value.bool y from rx);exact bj PySem.W.kitx_bool I.kIn True.intro e (λz=>nomatch z) h
 | int i=>obtain⟨t,q⟩:=(show∃t,u=Value.int i t from rx);cases q;exact bj PySem.W.kitx_int I.kIn True.intro e (λz=>nomatch z) h
 | str y=>obtain⟨t,q⟩:=(show∃t,u=Value.str y t from rx);cases q;exact bj PySem.W.kitx_str I.kIn True.intro e (λz=>nomatch z) h
 | flt y=>obtain⟨t,q⟩:=(show∃t,u=Value.float y t from rx);cases q;exact bj PySem.W.kitx_float I.kIn True.intro e (λz=>nomatch z) h
 | @lst a xs ea=>cases (show u=aP a from rx);obtain⟨_,_,n,_,h1⟩:=(show zB X.prog X.w H s.heap a (.lst xs) from I.hok a _ ea);exact bj PySem.W.kitx_list I.kIn ⟨_,h1,O⟩ e (λz=>nomatch z) h
 | @frz a ob xs ea=>cases (show u=aP a from rx);obtain⟨_,_,_,n,_,h1⟩:=(show zB X.prog X.w H s.heap a (.frz ob (.lst xs)) from I.hok a _ ea);exact bj PySem.W.kitx_list I.kIn ⟨_,h1,O⟩ e (λz=>nomatch z) h
 | @tup a xs ea=>cases (show u=aP a from rx);obtain⟨_,_,_,p⟩:=(show zB X.prog X.w H s.heap a (.tup xs) from I.hok a _ ea);obtain⟨o,h1,h2,_⟩:=p;exact bj PySem.W.kitx_tuple I.kIn ⟨o,h1,h2⟩ e (λz=>nomatch z) h
 | @dK a kvs ea=>cases (show u=aP a from rx);obtain⟨_,_,vs,_,p⟩:=(show zB X.prog X.w H s.heap a (.dK kvs) from I.hok a _ ea);obtain⟨o,es,ep,h1,h2,_⟩:=p;exact bj PySem.W.kitx_dict I.kIn ⟨o,h1,h2.1⟩ e (λz=>nomatch z) h
 | @dT a kvs ea=>cases (show u=aP a from rx);obtain⟨_,_,xs,_,o,es,ep,h1,h2,_⟩:=(show zB X.prog X.w H s.heap a (.dT kvs) from I.hok a _ ea);exact bj PySem.W.kitx_dict I.kIn ⟨o,h1,h2.1⟩ e (λz=>nomatch z) h
 | @ins a C dx fs ea cl ha hn htk hm=>cases (show u=aP a from rx);obtain⟨mA,ae,_⟩:=zfc I.hok ea;obtain⟨od,J,_⟩:=ae.look;exact bj (PySem.W.kitx_own (cl.get _) cl.hd ha hn htk hm) I.kIn J e (λz=>nomatch z) h
end
structure Room (k:Nat)(A:aU):Prop where
 hd:A.handled=U
 dp:A.depth+3 * k+5 < recursionLimit
 un:A.units+16 * k+200 < bn
theorem Room.mono {j:Nat}(r:Room k A)(h:j<=k):Room j A:=⟨r.hd,by have:=r.dp;lia,by have:=r.un;lia⟩
def Room.deeper {k:Nat}(r:Room (k+1) A)(env:Env):Room k (A.deeper env):=
 ⟨r.hd,by have:=r.dp;show A.depth+1+3 * k+5 < _;lia,by have:=r.un;show A.units+3+16 * k+200 < _;lia⟩
theorem zkB {A:aU}{C:aE}{us:QO}{kw:QL}:(A.under (.builtin "type.__call__" ⟨.ref C::us,kw⟩)).depth=A.depth+1:=by
 first | rfl | simp[Around.under,Code.weight,Code.isCreation,Code.isGuard,Code.isCaller,Code.frames,Code.isFrame,guardIds]
theorem zkj {A:aU}{C:aE}{us:QO}{kw:QL}:(A.under (.builtin "type.__call__" ⟨.ref C::us,kw⟩)).units=A.units+1:=by
 first | rfl | simp[Around.under,Code.cUnits,Code.frames,Code.isFrame]
def Room.make {k:Nat}(r:Room (k+1) A)(C:aE)(us:QO)(kw:QL):Room k (A.under (.builtin "type.__call__" ⟨.ref C::us,kw⟩)):=
 ⟨r.hd,by have:=r.dp;rw[zkB];lia,by have:=r.un;rw[zkj];lia⟩
def Room.depth (r:Room k A):A.depth < recursionLimit:=by have:=r.dp;lia
theorem Room.units (r:Room k A):A.units+64 < bn:=by have:=r.un;lia
def tNil:TA:=λ_ H Q=>Q [] H
def zw (ta:TE)(tr:TA):TA:=fun σ H Q=>ta σ H λx H1=>tr σ H1 λxs H2=>Q (x::xs) H2
section
variable {X:Cx}{e:aX}{es:List aX}{te:TE}{t:TA}{pos:Pos}
def zK:PA X [] tNil:=λ_ _ _ _ H Q I h=>Calls.spliced_nil ⟨[],H,I,.nil,h⟩
def zl (ha:PE X e te)(hr:PA X es t)(hs:a7 (e::es) X.env=(G,aZ e X.env)::a7 es X.env:=by rfl):PA X (e::es) (zw te t):=by intro pos bH s σ H Q I h;rw[hs];show aW _ _ (spliced ((G,aZ e X.env)::a6 pos (a7 es X.env))) _ _ s;refine Calls.spliced_cons (thn (ha bH s σ H _ I h) λu s1 ⟨x,H1,I1,r1,q1⟩=>?_);exact thn (hr pos bH s1 σ H1 _ I1 q1) λus s2 ⟨xs,H2,I2,r2,q2⟩=>⟨x::xs,H2,I2,.cons r1 r2,q2⟩
def tTup (t:TA):TE:=fun σ H Q=>t σ H λxs H1=>xs.length<=aQ/\∀p,H1 p=U->Q (.ref p) (upd H1 p (.tup xs))
def tLst (t:TA):TE:=fun σ H Q=>t σ H λxs H1=>xs.length<=aQ/\∀p,H1 p=U->Q (.ref p) (upd H1 p (.lst xs))
def zj2 {x1}(h:PA X es t):PE X (.Tuple es x1 pos) (tTup t):=by intro bH s σ H Q I hq;refine wpAny_Tuple_spliced (thn (h pos bH s σ H _ I hq) λus s1 ⟨xs,H1,I1,r,z,q⟩=>⟨by rw[<-r.length];exact z,?_⟩);have hf:H1 s1.heap.objs.size=U:=I1.hok.fresh (Jb _);refine⟨.ref s1.heap.objs.size,upd H1 s1.heap.objs.size (.tup xs),I1.laid (t':=s1.toks) (λb u e=>JE _ e) (Jb _) ?_,O,q _ hf⟩;exact⟨⟨z,_,JL _ rfl,O⟩,us,r,⟨_,JL _ rfl,O,B⟩⟩
def zfF (h:PA X es t):PE X (.List es pos) (tLst t):=by intro bH s σ H Q I hq;refine wpAny_List_spliced (thn (h pos bH s σ H _ I hq) λus s1 ⟨xs,H1,I1,r,z,q⟩=>⟨by rw[<-r.length];exact z,?_⟩);have hf:H1 s1.heap.objs.size=U:=I1.hok.fresh (Jb _);refine⟨.ref s1.heap.objs.size,upd H1 s1.heap.objs.size (.lst xs),I1.laid (t':=s1.toks) (λb u e=>JE _ e) (Jb _) ?_,O,q _ hf⟩;exact⟨z,us,0,r,JL _ rfl⟩
end
abbrev Sp:=List V->Hp->VK->XK->Prop
abbrev CXT:=List Env->Hp->aM->XK->aD->aM->Prop
structure Env0 (P:aG)(w:aH)(K:QA)(mg:QB)(ax:aF)(A:aU)(outer:List Env)(s:aM)(H:Hp):Prop where
 frames:A.frames=Y outer
 mod:Mod K mg ax
 bs:∀b o,ax.get? b=Y o->s.heap.get? b=Y o/\H b=U
 bsz:ax.objs.size<=s.heap.objs.size
 funs:s.heap.FunFrames ax outer
 frf:∀b∈frs outer,H b=U
 hok:HOk P w H s.heap
 bare:AllBare s.gens
def CE (outer:List Env)(P:aG)(w:aH)(H:Hp)(s:aM)(Q:VK)(u:aD)(s':aM):Prop:=
 ∃v H',s'.os=s.os/\AllBare s'.gens/\Un (frs outer) [] H H' s.heap s'.heap/\HOk P w H' s'.heap/\RelV v u/\Q v H'
def CR (CX:CXT)(outer:List Env)(P:aG)(w:aH)(H:Hp)(s:aM)(Q:VK)(E:XK)(r:Result)(s':aM):Prop:=
 match r with
 | .ok (.ret u)=>CE outer P w H s Q u s'
 | .ok _=>False
 | .error e=>CX outer H s E e s'
structure FnOk (P:aG)(w:aH)(K:QA)(mg:QB)(ax:aF)(CX:CXT)(k:Nat)(f:aE)(fd:FuncData)(ps:QQ)(sp:Sp):Prop where
 len:∀vs H Q E,sp vs H Q E->vs.length=ps.length
 run:∀(A:aU)(outer:List Env)(s:aM)(H:Hp)(args:Args)(us:QO)(vs:QR)(Q:VK)(E:XK),Room k A->Env0 P w K mg ax A outer s H->BindsTo s fd args (ps.zip us)->Vals vs us->sp vs H Q E->
  codeAny (aY P w) A (.call (.ref f) args) (CR CX outer P w H s Q E) s
theorem FnOk.mono {P:aG}{w:aH}{K:QA}{mg:QB}{ax:aF}{CX:CXT}{j k:Nat}{f:aE}{fd:FuncData}{ps:QQ}{sp:Sp}(F:FnOk P w K mg ax CX j f fd ps sp)(h:j<=k):
  FnOk P w K mg ax CX k f fd ps sp:=⟨F.len,λA outer s H args us vs Q E hr=>F.run A outer s H args us vs Q E (hr.mono h)⟩
def FnOk.imp {P:aG}{w:aH}{K:QA}{mg:QB}{ax:aF}{CX:CXT}{k:Nat}{f:aE}{fd:FuncData}{ps:QQ}{sp sp':Sp}(F:FnOk P w K mg ax CX k f fd ps sp)
  (h:∀vs H Q E,sp' vs H Q E->sp vs H Q E):FnOk P w K mg ax CX k f fd ps sp':=
 ⟨λvs H Q E q=>F.len vs H Q E (h _ _ _ _ q),λA outer s H args us vs Q E hr he hb hv hs=>F.run A outer s H args us vs Q E hr he hb hv (h _ _ _ _ hs)⟩
def Env0.make {P:aG}{w:aH}{K:QA}{mg:QB}{ax:aF}{A:aU}{outer:List Env}{s:aM}{H:Hp}(e:Env0 P w K mg ax A outer s H)(C:aE)(us:QO)(kw:QL):
  Env0 P w K mg ax (A.under (.builtin "type.__call__" ⟨.ref C::us,kw⟩)) outer s H:=⟨by first | exact e.frames | (simpa [Around.under,Code.envs,Code.isFrame,pushEnvs] using e.frames),e.mod,e.bs,e.bsz,e.funs,e.frf,e.hok,e.bare⟩
section
variable {X:Cx}{bH:QE}{σ:St}{H:Hp}{s s':aM}
def Inv.env0 (I:Inv X bH σ H s):Env0 X.prog X.w X.K X.mg X.ax X.A X.stack s H:=
 ⟨I.ok.frames,I.ok.mod,I.bs,Jg I.ok.bsz I.sz,I.stack,I.stkFree,I.hok,I.bare⟩
def Inv.after (I:Inv X bH σ H s)(h:CE X.stack X.prog X.w H s Q u s'):EP X bH σ Q u s':=by obtain⟨v,H',os,bare,un,hok,r,q⟩:=h;obtain⟨hh,g,d,t,os'⟩:=s';obtain rfl:os'=s.os:=os;exact⟨v,H',I.call (h':=hh) (g':=g) (d':=d) (t':=t) (ch:=[]) un hok bare (λb z=>Jf z (by simp)),r,q⟩
end
def zeR (sp:Sp)(dvs:QR)(E:XK)(t:TA):TE:=fun σ H Q=>t σ H λvs H1=>sp (vs++dvs) H1 Q E
inductive zrF (C:aE)(m:Str)(x:V)(H:Hp)(R:Prop):Prop
 | mk (a dx)(fs:QI)(_:x=.ref a)(_:H a=Y (.ins C dx fs)) (_:fs.lookup m=U) (_:R):zrF C m x H R
def zlc (C:aE)(m:Str)(sp:Sp)(dvs:QR)(E:XK)(ta:TE)(t:TA):TE:=fun σ H Q=>ta σ H λx H1=>zrF C m x H1 (t σ H1 λvs H2=>sp (x::(vs++dvs)) H2 Q E)
def zjp (C:aE)(sp:Sp)(dvs:QR)(E:XK)(t:TA):TE:=fun σ H Q=>t σ H λvs H1=>∀x dx,H1 x=U->H1 dx=U->dx≠x->
 sp (.ref x::(vs++dvs)) (upd (upd H1 dx (.own x)) x (.ins C dx [])) (λv H2=>v=.non/\Q (.ref x) H2) E
def Binds (K:QA)(fd:FuncData)(ps:QQ)(ds:QO):Prop:=
 ∀(s:aM)(us:QO),K.In s.heap->(us++ds).length=ps.length->BindsTo s fd ⟨us,[]⟩ (ps.zip (us++ds))
def _root_.JS:=@List.append_nil
theorem Binds.all {K:QA}{fd:FuncData}{ps:QQ}(h:∀us:List aD,us.length=ps.length->bindArgs fd ⟨us,[]⟩=pure (ps.zip us)):Binds K fd ps []:=λs us _ hl=>by rw[JS] at hl ⊢;exact .of_eq (h us hl)
def zay (CX:CXT)(X:Cx)(E:XK):Prop:=∀(bH:QE)(σ:St)(H:Hp)(s:aM)(e:aD)(s':aM),Inv X bH σ H s->CX X.stack H s E e s'->X.xe e s'
section
variable {X:Cx}{CX:CXT}{k:Nat}{f C:aE}{fd:FuncData}{ps:QQ}{sp:Sp}{dvs:QR}{ds:QO}{E:XK}{x m:Str}{p pos apos:Pos}{e o:aX}{es:List aX}{ta:TE}{t:TA}
def zhN (F:FnOk X.prog X.w X.K X.mg X.ax CX k f fd ps sp)(hr:Room k X.A)(hb:Binds X.K fd ps ds)(hd:Vals dvs ds)(hx:zay CX X E)
  (I:Inv X bH σ H s) (r:Vals vs us) (h:sp (vs++dvs) H Q E):aW (aY X.prog X.w) X.A (call (.ref f) us) (EP X bH σ Q) X.xe s:=by
 have r2:Vals (vs++dvs) (us++ds):=r.append hd;have hl:(us++ds).length=ps.length:=by rw[<-r2.length];exact F.len _ _ _ _ h
 refine wpAny_call (codeAny_mono (F.run X.A X.stack s H ⟨us,[]⟩ (us++ds) (vs++dvs) Q E hr I.env0 (hb s us I.kIn hl) r2 h) λr s' hq=>?_);cases r with
 | error e=>exact hx bH σ H s e s' I hq
 | ok fl=>
  cases fl with
  | ret u=>exact I.after hq
  | next=>exact False.elim hq
  | brk=>exact False.elim hq
  | cont=>exact False.elim hq
def zlM (F:FnOk X.prog X.w X.K X.mg X.ax CX k f fd ps sp)(hr:Room k X.A)(hg:Gl X x)(hm:X.mg x=Y (.ref f))(hk:bf X.K (.ref f)=Z)(hb:Binds X.K fd ps ds)(hd:Vals dvs ds)(hx:zay CX X E)
  (ha:PA X (e::es) t) (hdb:(x==("__debug__" :Str))=G:=by decide) (he:a7 (e::es) X.env=(G,aZ e X.env)::a7 es X.env:=by rfl) (hpl:(a6 pos (a7 es X.env)).any (·.1)=G:=by rfl):
  PE X (.Call (.Name x p) (e::es) [] pos) (zeR sp dvs E t):=by
 intro bH s σ H Q I h;refine bo (zbp I hg hm ?_ hdb);refine bp (h₀:=X.ax) I.ok.mod.kin hk (thn (ha pos bH s σ H _ I h) λus s1 ⟨vs,H1,I1,r,q⟩=>⟨I1.kIn,?_⟩) he hpl;exact zhN F hr hb hd hx I1 r q
def zpW (he:PE X o ta)(c:Cls X.K C)(hm:Meth X.K C m f)(F:FnOk X.prog X.w X.K X.mg X.ax CX k f fd ps sp)(hr:Room k X.A)(hb:Binds X.K fd ps ds)(hd:Vals dvs ds)(hx:zay CX X E)(ha:PA X (e::es) t)
  (hst:a7 (e::es) X.env=(G,aZ e X.env)::a7 es X.env:=by rfl) (hpl:(a6 pos (a7 es X.env)).any (·.1)=G:=by rfl)
  (ht:aZ (.Call (.Attribute o m apos) (e::es) [] pos) X.env=(do
   let ov<-aZ o X.env
   standAt apos.atName
   let (f,first) <-holding [ov] (getMethod ov m pl)
   callWith pos f first (a6 pos (a7 (e::es) X.env)) (backToKw pos (keywordEach [] X.env))):=by rfl):
  PE X (.Call (.Attribute o m apos) (e::es) [] pos) (zlc C m sp dvs E ta t):=by
 intro bH s σ H Q I h;refine PySem.W.methodCall_KW (pl:=pl) (thn (he bH s σ H _ I h) λu s1 ⟨x,H1,I1,rx,a,dx,fs,ex,ea,l,q⟩=>?_) ht;subst ex;obtain rfl:u=aP a:=rx;refine zdu I1 ea c hm l ?_;refine bp (first:=[.ref a]) (h₀:=X.ax) I.ok.mod.kin hm.kp (thn (ha pos bH s1 σ H1 _ I1 q) λus s2 ⟨vs,H2,I2,r,q2⟩=>⟨I2.kIn,?_⟩) hst hpl;exact zhN (us:=.ref a::us) (vs:=.ref a::vs) F hr hb hd hx I2 (.cons rfl r) q2
def zo6 (he:PE X o ta)(c:Cls X.K C)(hm:Meth X.K C m f)(F:FnOk X.prog X.w X.K X.mg X.ax CX k f fd ps sp)(hr:Room k X.A)(hb:Binds X.K fd ps ds)(hd:Vals dvs ds)(hx:zay CX X E)
  (ht:aZ (.Call (.Attribute o m apos) [] [] pos) X.env=(do
   let ov<-aZ o X.env
   standAt apos.atName
   let (f,first) <-holding [ov] (getMethod ov m pl)
   callWith pos f first (a6 pos (a7 [] X.env)) (backToKw pos (keywordEach [] X.env))):=by rfl):
  PE X (.Call (.Attribute o m apos) [] [] pos) (zlc C m sp dvs E ta tNil):=by
 intro bH s σ H Q I h;refine PySem.W.methodCall_KW (pl:=pl) (thn (he bH s σ H _ I h) λu s1 ⟨x,H1,I1,rx,a,dx,fs,ex,ea,l,q⟩=>?_) ht;subst ex;obtain rfl:u=aP a:=rx;refine zdu I1 ea c hm l ?_;exact PySem.W.callWith_K0 (first:=[.ref a]) I1.kIn hm.kp (zhN (us:=[.ref a]) (vs:=[.ref a]) F hr hb hd hx I1 (.cons rfl .nil) q)
structure Mk (K:QA)(C f:aE):Prop where
 makes:PySem.W.makesIn K C=Z
 init:bd K (.ref C) "__init__" =Y (Y (.ref f))
 fn:PySem.W.isFn K (.ref f)=Z
 kp:bf K (.ref C)=Z
def zjz {Q:VK}(M:Mk X.K C f)(F:FnOk X.prog X.w X.K X.mg X.ax CX k f fd ps sp)(hr:Room (k+1) X.A)(hb:Binds X.K fd ps ds)(hd:Vals dvs ds)
  (hx:zay CX X E) (I:Inv X bH σ H s) (r:Vals vs us)
  (h:∀x dx,H x=U->H dx=U->dx≠x->sp (.ref x::(vs++dvs)) (upd (upd H dx (.own x)) x (.ins C dx [])) (λv H2=>v=.non/\Q (.ref x) H2) E):
  aW (aY X.prog X.w) X.A (call (.ref C) us) (EP X bH σ Q) X.xe s:=by
 have hq:=h (s.heap.objs.size+1) s.heap.objs.size (I.hok.fresh (Nat.le_succ _)) (I.hok.fresh (Jb _)) (Jl (Jr _));have I2:=Inv.made (C:=C) I;have r2:Vals (V.ref (s.heap.objs.size+1)::(vs++dvs)) (aP (s.heap.objs.size+1)::(us++ds)):=.cons rfl (r.append hd);have hl:(aP (s.heap.objs.size+1)::us++ds).length=ps.length:=by have e:=r2.length;rw[F.len _ _ _ _ hq] at e;exact e.symm
 refine wpAny_call (zpo (f:=f) I.kIn M.makes M.init (beq_iff_eq.mp M.fn) (codeAny_mono (F.run _ X.stack _ _ ⟨aP (s.heap.objs.size+1)::us,[]⟩ (aP (s.heap.objs.size+1)::(us++ds)) _ _ E (hr.make C us [])
  (I2.env0.make C us []) (hb _ (aP (s.heap.objs.size+1)::us) I2.kIn hl) r2 hq) λr s' hq'=>?_))
 cases r with
 | error e=>exact hx bH σ _ _ e s' I2 hq'
 | ok fl=>
  cases fl with
  | ret u=>obtain⟨v,H',I3,rv,ev,q3⟩:=I2.after hq';subst ev;exact⟨rv,⟨V.ref (s.heap.objs.size+1),H',I3,O,q3⟩⟩
  | next=>exact False.elim hq'
  | brk=>exact False.elim hq'
  | cont=>exact False.elim hq'
def zlC (M:Mk X.K C f)(F:FnOk X.prog X.w X.K X.mg X.ax CX k f fd ps sp)(hr:Room (k+1) X.A)(hg:Gl X x)(hm:X.mg x=Y (.ref C))(hb:Binds X.K fd ps ds)(hd:Vals dvs ds)(hx:zay CX X E)
  (ha:PA X (e::es) t) (hdb:(x==("__debug__" :Str))=G:=by decide) (he:a7 (e::es) X.env=(G,aZ e X.env)::a7 es X.env:=by rfl) (hpl:(a6 pos (a7 es X.env)).any (·.1)=G:=by rfl):
  PE X (.Call (.Name x p) (e::es) [] pos) (zjp C sp dvs E t):=by
 intro bH s σ H Q I h;refine bo (zbp I hg hm ?_ hdb);refine bp (h₀:=X.ax) I.ok.mod.kin M.kp (thn (ha pos bH s σ H _ I h) λus s1 ⟨vs,H1,I1,r,q⟩=>⟨I1.kIn,?_⟩) he hpl;exact zjz M F hr hb hd hx I1 r q
def zov (M:Mk X.K C f)(F:FnOk X.prog X.w X.K X.mg X.ax CX k f fd ps sp)(hr:Room (k+1) X.A)(hg:Gl X x)(hm:X.mg x=Y (.ref C))(hb:Binds X.K fd ps ds)(hd:Vals dvs ds)(hx:zay CX X E)
  (hdb:(x==("__debug__" :Str))=G:=by decide):PE X (.Call (.Name x p) [] [] pos) (zjp C sp dvs E tNil):=by
 intro bH s σ H Q I h;refine bo (zbp I hg hm ?_ hdb);exact PySem.W.callWith_K0 I.kIn M.kp (zjz (us:=[]) M F hr hb hd hx I .nil h)
variable {ks:QQ}{kpos:Pos}{kws:List Keyword}{te:TE}{tk:TA}{nm:Option Str}
structure zuX (K:QA)(fd:FuncData)(ps ks:QQ)(g:List aD->List aD->List aD)(gV:List V->List V->List V):Prop where
 to:∀(s:aM)(us ws:QO),K.In s.heap->(g us ws).length=ps.length->BindsTo s fd ⟨us,ks.zip ws⟩ (ps.zip (g us ws))
 rel:∀{vs:QR}{us:QO}{zs:QR}{ws:QO},Vals vs us->Vals zs ws->Vals (gV vs zs) (g us ws)
variable {g:List aD->List aD->List aD}{gV:List V->List V->List V}
end
structure zak (N P:QQ)(sc:Scope):Prop where
 kind:sc.kind=.function
 co:sc.isCoroutine=G
 gen:sc.isGenerator=G
 nd:N.Nodup
 pre:N.take P.length=P
 par:∀x∈P,sc.names.lookup x=Y .local\/sc.names.lookup x=Y .cell
 nofree:∀y∈sc.names,y.2≠ .free
def fsN (N:QQ){P:QQ}{sc:Scope}(h:sc.kind=.function/\sc.isCoroutine=G/\sc.isGenerator=G/\N.Nodup/\N.take P.length=P/\(∀x∈P,sc.names.lookup x=Y .local\/sc.names.lookup x=Y .cell)/\∀y∈sc.names,y.2≠ .free:=by decide+kernel):zak N P sc:=⟨h.1,h.2.1,h.2.2.1,h.2.2.2.1,h.2.2.2.2.1,h.2.2.2.2.2.1,h.2.2.2.2.2.2⟩
theorem zg3 {kindOf:Str->Option NameKind}{x:Str}:∀{binds:QL}{m:QB},(∀v,(x,v)∉binds)->bindL kindOf binds m x=m x
 | [],_,_=>rfl
 | (n,v)::r,m,h=>by
  unfold bindL;rw[zg3 λw hw=>h w (Jj _ hw)];split
  ·have:x≠n:=by rintro rfl;exact h v JO
   simp[this]
  ·rfl
theorem zgU {kindOf:Str->Option NameKind}{x:Str}:∀{binds:QL}{m:QB},(∀v,(x,v)∉binds)->bindC kindOf binds m x=m x
 | [],_,_=>rfl
 | (n,v)::r,m,h=>by
  unfold bindC;rw[zgU λw hw=>h w (Jj _ hw)];split
  ·rfl
  ·have:x≠n:=by rintro rfl;exact h v JO
   simp[this]
def _root_.Np:=@List.nodup_cons
theorem zgY {kindOf:Str->Option NameKind}{x:Str}{v:aD}:∀{P:QQ}{vs:QO}{i:Nat}{m:QB},P.Nodup->P[i]? =Y x->vs[i]? =Y v->kindOf x=Y .local->
  bindL kindOf (P.zip vs) m x=Y v
 | [],_,_,_,_,h,_,_=>by simp at h
 | _::_,[],_,_,_,_,h,_=>by simp at h
 | p::P,w::vs,0,m,nd,h1,h2,hk=>by simp at h1 h2;subst h1;subst h2;show bindL kindOf ((p,w)::P.zip vs) m p=_;unfold bindL;rw[zg3 λv hv=>(Np.mp nd).1 (List.of_mem_zip hv).1,av hk];simp
 | p::P,w::vs,i+1,m,nd,h1,h2,hk=>by show bindL kindOf ((p,w)::P.zip vs) m x=_;unfold bindL;exact zgY (i:=i) (Np.mp nd).2 (by simpa using h1) (by simpa using h2) hk
theorem zg9 {kindOf:Str->Option NameKind}{x:Str}{v:aD}:∀{P:QQ}{vs:QO}{i:Nat}{m:QB},P.Nodup->P[i]? =Y x->vs[i]? =Y v->kindOf x≠Y .local->
  bindC kindOf (P.zip vs) m x=Y v
 | [],_,_,_,_,h,_,_=>by simp at h
 | _::_,[],_,_,_,_,h,_=>by simp at h
 | p::P,w::vs,0,m,nd,h1,h2,hk=>by simp at h1 h2;subst h1;subst h2;show bindC kindOf ((p,w)::P.zip vs) m p=_;unfold bindC;rw[zgU λv hv=>(Np.mp nd).1 (List.of_mem_zip hv).1,au hk];simp
 | p::P,w::vs,i+1,m,nd,h1,h2,hk=>by show bindC kindOf ((p,w)::P.zip vs) m x=_;unfold bindC;exact zg9 (i:=i) (Np.mp nd).2 (by simpa using h1) (by simpa using h2) hk
def start (N:QQ)(vs:QR):St:=vs.map Y++List.replicate (N.length - vs.length) U
def cxOf (CX:CXT)(P:aG)(w:aH)(K:QA)(mg:QB)(ax:aF)(N:QQ)(qual:Str)(scope:Scope)(f:aE)(cd:aD)(A:aU)(outer:List Env)(s:aM)(H:Hp)(E:XK):Cx where
 prog:=P
 w:=w
 K:=K
 mg:=mg
 ax:=ax
 A:=A.deeper (envOfC qual scope s.heap.objs.size f cd)
 N:=N
 s₀:=s
 H₀:=H
 env:=envOfC qual scope s.heap.objs.size f cd
 outer:=outer
 stack:=envOfC qual scope s.heap.objs.size f cd::outer
 ex:=[]
 calm:=Z
 fn:=λ_=>Z
 pn:=[]
 xe:=λe s'=>aW (aY P w) (A.deeper (envOfC qual scope s.heap.objs.size f cd)) (leaving (envOfC qual scope s.heap.objs.size f cd) e) (λ_ s''=>CX outer H s E e s'') (λe' s''=>CX outer H s E e' s'') s'
def ziO {sc:Scope}{x:Str}(h:sc.names.lookup x=Y .cell):∃c,(cellsFrom n sc.names []).lookup x=Y c:=by have q:=PySem.W.cellsFrom_some sc.names n [] (.inl h);exact Option.isSome_iff_exists.mp q
def _root_.JF:=@List.length_append
def _root_.JQ:=@List.length_take
def _root_.JV:=@List.getElem?_map
def _root_.JY:=@List.getElem?_append_right
def _root_.J2:=@List.mem_of_getElem?
def _root_.Nt:=@List.getElem?_append_left
def _root_.Nu:=@List.length_replicate
def zmr {CX:CXT}{P:aG}{w:aH}{K:QA}{mg:QB}{ax:aF}{N ps:QQ}{qual:Str}{scope:Scope}{f:aE}{cd:aD}{A:aU}{outer:List Env}{s s1:aM}{H:Hp}{E:XK}{us:QO}{vs:QR}
  (S:zak N ps scope) (hd:A.handled=U) (e0:Env0 P w K mg ax A outer s H) (hl:vs.length=ps.length) (r:Vals vs us)
  (x:InCallC s s.heap.objs.size (bindL (envOfC qual scope s.heap.objs.size f cd).kindOf (ps.zip us) λ_=>U) (cellsFrom (s.heap.objs.size+1) scope.names []) (bindC (envOfC qual scope s.heap.objs.size f cd).kindOf (ps.zip us) λ_=>U) s1):
  Inv (cxOf CX P w K mg ax N qual scope f cd A outer s H E) [] (start N vs) H s1:=by
 have hpl:ps.length<=N.length:=by have:=congrArg List.length S.pre;rw[JQ] at this;lia
 obtain⟨h1,tk,rfl,hk⟩:=x.done;have noA:∀b:aE,b∉(cxOf CX P w K mg ax N qual scope f cd A outer s H E).ex:=λb z=>Jf (show b∈([]:QP) from z) (by simp);refine⟨⟨e0.mod,S.kind,O,O,Jb _,λy z c h1 h2=>?_,λy hy=>?_,λy c _ h=>?_,λ_=>hd,Around.frames_deeper e0.frames,.inr ⟨O,O⟩,λb z=>Jf z (noA b),e0.bs,e0.bsz,λb _ _=>noA b,λb z=>Jf z (noA b),e0.funs,e0.frf⟩,
  rfl,e0.bare,Un.kept hk,⟨_,x.toInCall.ns,λi y v h1 h2 h3=>?_⟩,λy c h=>⟨_,x.cell y c h⟩,e0.hok.fresh (Jb _),λy c h=>?_,λp hp=>Jf (show p∈([]:QE) from hp) (by simp),e0.hok.kept hk,?_⟩
 ·exact name_of_addr x.apart (bq h1) (bq h2)
 ·have hy:scope.names.lookup y=Y .cell\/scope.names.lookup y=Y .free:=hy;rcases hy with hy | hy
  ·exact ziO hy
  ·exact Jf rfl (S.nofree _ (bq hy))
 ·exact Nat.le_of_lt (x.above y c (bq h))
 ·have hi:i < vs.length:=by
   unfold start at h2;by_cases hi:i < vs.length
   ·exact hi
   ·rw[JY (by simpa using hi)] at h2;rw[List.getElem?_replicate] at h2;split at h2 <;> cases h2
  have ha:vs[i]? =Y v:=by
   unfold start at h2;rw[Nt (by simpa using hi),JV] at h2;cases e:vs[i]? with
   | none=>rw[e] at h2;cases h2
   | some a=>rw[e] at h2;cases h2;rfl
  obtain⟨u,hu,rv⟩:=r.get ha;have hp:ps[i]? =Y y:=by rw[<-S.pre,List.getElem?_take_of_lt ()];exact h1
  have ndP:ps.Nodup:=by rw[<-S.pre];exact S.nd.sublist (List.take_sublist _ _)
  refine⟨u,rv,?_⟩;rcases S.par y (J2 hp) with k | k
  ·exact .inl ⟨k,zgY ndP hp hu k⟩
  ·obtain⟨c,e⟩:=ziO (n:=s.heap.objs.size+1) k;refine .inr ⟨.inl k,c,e,?_⟩;have q:=x.cell y c e;rw[zg9 ndP hp hu (by show scope.names.lookup y≠_;rw[k];decide)] at q;exact q
 ·exact e0.hok.fresh (Nat.le_of_lt (x.above y c (bq h)))
 ·unfold start;show _=N.length;rw[JF,JI,Nu];lia
abbrev _root_.QJ:=Array (Option aD)
def zrD {CX:CXT}{P:aG}{w:aH}{K:QA}{mg:QB}{ax:aF}{k:Nat}{f:aE}{name qual:Str}{params:Arguments}{body:List aB}{scope:Scope}{dV kV doc pm cdv ct oc:aD}{an od:QN}
  {osl:QJ} {N ps:QQ} {sp:Sp} (lk:K.lookup f=Y ⟨oc,od,.func (br name qual params body scope dV kV doc pm an cdv ct),osl⟩) (hcd:PySem.W.codeIn K cdv qual=Z) (S:zak N ps scope)
  (len:∀vs H Q E,sp vs H Q E->vs.length=ps.length)
  (hbody:∀(A:aU)(outer:List Env)(s:aM)(H:Hp)(vs:QR)(Q:VK)(E:XK),Room k (A.deeper (envOfC qual scope s.heap.objs.size f cdv))->sp vs H Q E->
   ∃t,PSs (cxOf CX P w K mg ax N qual scope f cdv A outer s H E) body t/\t {nx:=λ_ H'=>Q .non H',rt:=Q} (start N vs) H):
  FnOk P w K mg ax CX (k+1) f (br name qual params body scope dV kV doc pm an cdv ct) ps sp:=by
 refine⟨len,λA outer s H args us vs Q E hr e0 hb r hsp=>?_⟩;have hl:=len _ _ _ _ hsp;have KX:K.In s.heap:=e0.mod.kin.keeps λb o e=>(e0.bs b o e).1;have lim:s.heap.NoLimit:=e0.mod.nolimit.keeps λb o e=>(e0.bs b o e).1;have hkind:∀y∈ps.zip us,scope.names.lookup y.1=Y .local\/(scope.names.lookup y.1=Y .cell/\((cellsFrom (s.heap.objs.size+1) scope.names []).lookup y.1).isSome=Z):=λ⟨n,v⟩ hy=>by
  rcases S.par n (List.of_mem_zip hy).1 with q | q
  ·exact .inl q
  ·exact .inr ⟨q,PySem.W.cellsFrom_some _ _ _ (.inl q)⟩
 refine codeAny_call_function hr.depth (KX _ _ lk) rfl S.co S.gen rfl (PySem.W.codeRec_of KX hcd) (hb _ _ _ _ ?_);refine wpAny_newFunctionEnv_cells S.kind hkind λenv he s1 x=>?_;subst he;refine⟨lim.keeps x.toInCall.keep,codeAny_func ?_⟩;obtain⟨t,ht,hq⟩:=hbody A outer s H vs Q E (hr.deeper _) hsp;have I:Inv (cxOf CX P w K mg ax N qual scope f cdv A outer s H E) [] (start N vs) H s1:=zmr S hr.hd e0 hl r x;refine a8 (ht [] s1 (start N vs) H _ I hq) (λfl s' hs=>?_) λe s' hs=>hs;have fin:∀{σ':St}{H':Hp}{v:V}{u:aD},Inv (cxOf CX P w K mg ax N qual scope f cdv A outer s H E) [] σ' H' s'->RelV v u->Q v H'->CE outer P w H s Q u s':=
  λ{σ' H' v u} J rv q=>⟨v,H',J.os,J.bare,J.ax,J.hok,rv,q⟩
 cases fl with
 | ret u=>obtain⟨v,σ',H',J,rv,q⟩:=hs;exact fin J rv q
 | next=>obtain⟨σ',H',J,q⟩:=hs;exact fin (v:=V.non) (u:=aO) J rfl q
 | brk=>obtain⟨_,_,_,q⟩:=hs;exact False.elim q
 | cont=>obtain⟨_,_,_,q⟩:=hs;exact False.elim q
section
variable {X:Cx}{x:Str}{p pos:Pos}{e:aX}{es:List aX}{t:TA}{id T:String}{r:List V->Hp->VK->Prop}
def tCB (r:List V->Hp->VK->Prop)(t:TA):TE:=fun σ H Q=>t σ H λvs H1=>r vs H1 Q
def zC (hc:zac X (.builtin id) r)(hg:Gl X x)(hm:X.mg x=U)(hv:bootBuiltins x=Y (.builtin id))(ha:PA X (e::es) t)(hn:x≠ "__name__" :=by decide) (hdb:(x==("__debug__" :Str))=G:=by decide)
  (he:a7 (e::es) X.env=(G,aZ e X.env)::a7 es X.env:=by rfl) (hpl:(a6 pos (a7 es X.env)).any (·.1)=G:=by rfl):PE X (.Call (.Name x p) (e::es) [] pos) (tCB r t):=by
 intro bH s σ H Q I h;refine bo (zcr I hg hm hv ?_ hn hdb);exact PyProof.Rows.callWith_builtin1 (thn (ha pos bH s σ H _ I h) λus s1 ⟨vs,H1,I1,r1,q1⟩=>hc bH s1 σ H1 vs us Q I1 r1 q1) he hpl
def zc1 (hc:zac X (.type T) r)(hg:Gl X x)(hm:X.mg x=U)(hv:bootBuiltins x=Y (.type T))(ha:PA X (e::es) t)(hn:x≠ "__name__" :=by decide) (hdb:(x==("__debug__" :Str))=G:=by decide)
  (he:a7 (e::es) X.env=(G,aZ e X.env)::a7 es X.env:=by rfl) (hpl:(a6 pos (a7 es X.env)).any (·.1)=G:=by rfl):PE X (.Call (.Name x p) (e::es) [] pos) (tCB r t):=by
 intro bH s σ H Q I h;refine bo (zcr I hg hm hv ?_ hn hdb);exact PyProof.Rows.callWith_type1 (thn (ha pos bH s σ H _ I h) λus s1 ⟨vs,H1,I1,r1,q1⟩=>hc bH s1 σ H1 vs us Q I1 r1 q1) he hpl
end
end L2
namespace HT
open PySem PyProof.Rows
def lexLt:List Int->List Int->Bool
 | [],[]=>G
 | [],_::_=>Z
 | _::_,[]=>G
 | x::xs,y::ys=>if x=y then lexLt xs ys else decide (x < y)
theorem lexLt_cons (x y:Int)(xs ys:List Int):lexLt (x::xs) (y::ys)=if x=y then lexLt xs ys else decide (x < y):=rfl
section
open PySem.SeqAt
open PySem.AutoSeq1 (wpAny_loadPart')
open PySem.MeetsSeq PySem.MeetsSeq2 PySem.MeetsSeq3
end
section
variable {prog:aG}{w:aH}{A:aU}{E:QC}{s:aM}
def _root_.JH:=@List.size_toArray
def cat_tup {vs ws:QO}{Q:QC}(ht:IsTup s.heap t vs.toArray)(hb:IsTup s.heap b ws.toArray)(hv:vs≠ [])
  (h1:ws=[]->Q (.ref t) s) (h2:ws≠ []->Q (.ref s.heap.objs.size) {s with heap:=s.heap.push {cls:=.type "tuple",data:=.seq (vs++ws).toArray}})
  (hsz:vs.length+ws.length<=aQ):aW (aY prog w) A (binaryOp .Add (.ref t) (.ref b)) Q E s:=by
 obtain⟨⟨cls,dd,data,sl⟩,ho,hc,n,hd⟩:=id ht;obtain⟨⟨cls2,dd2,data2,sl2⟩,ho2,hc2,n2,hd2⟩:=id hb;simp only at hc hd hc2 hd2;subst hc hd hc2 hd2;have e:vs.toArray++ws.toArray=(vs++ws).toArray:=by simp
 by_cases hw:ws=[]
 ·exact concat_meets ⟨_,ho,O⟩ ⟨_,ho2,O⟩ noFill_tuple_add seq_tuple_add PySem.F.slot_tuple_add PySem.F.entry_tuple_add (PySem.F.args_tuple_add_2 _ _)
   (tuple_addW1 t b vs.toArray ws.toArray n n2 dd dd2 sl sl2 (by simpa using hv) (by simp[hw])) ⟨ho,ho2,h1 hw⟩
 ·refine concat_meets ⟨_,ho,O⟩ ⟨_,ho2,O⟩ noFill_tuple_add seq_tuple_add PySem.F.slot_tuple_add PySem.F.entry_tuple_add (PySem.F.args_tuple_add_2 _ _)
   (tuple_addW2 t b vs.toArray ws.toArray n n2 dd dd2 sl sl2 (by simpa using hv) (by simpa using hw) (by rw[JH,JH];exact hsz)) ⟨ho,ho2,?_⟩
  rw[e];exact h2 hw
def sIx (n d:Nat):Option Int->Nat
 | none=>d
 | some v=>if v < 0 then(v+(n:Int)).toNat else min v.toNat n
theorem sIx_none (n d:Nat):sIx n d U=d:=rfl
theorem sIx_nat (n d k:Nat):sIx n d (Y (k:Int))=min k n:=by show(if (k:Int) < 0 then((k:Int)+(n:Int)).toNat else min (k:Int).toNat n)=min k n;rw[au (),Int.toNat_natCast]
def sIx_le (n d:Nat)(hd:d<=n)(o:Option Int):sIx n d o<=n:=by
 cases o with
 | none=>exact hd
 | some v=>
  show(if v < 0 then(v+(n:Int)).toNat else min v.toNat n)<=n;by_cases hv:v < 0
  ·rw[av hv];lia
  ·rw[au hv];exact Nat.min_le_right _ _
theorem clip_eq (v:Int)(n d:Nat):(if v < 0 then max (v+(n:Int)) 0 else min v (n:Int))=((sIx n d (Y v):Nat):Int):=by
 show(if v < 0 then max (v+(n:Int)) 0 else min v (n:Int))=(((if v < 0 then(v+(n:Int)).toNat else min v.toNat n):Nat):Int);by_cases hv:v < 0
 ·simp only[av hv];lia
 ·simp only[au hv];lia
theorem zka (lo hi:Option Int)(n:Nat):Builtin.Slice.sliceAdjust lo hi 1 (n:Int)=(((sIx n 0 lo:Nat):Int),((sIx n n hi:Nat):Int)):=by
 have h1:¬((1:Int) < 0):=()
 unfold Builtin.Slice.sliceAdjust;simp only[h1,if_false];refine Prod.ext ?_ ?_
 ·cases lo with
  | none=>rfl
  | some v=>exact clip_eq v n 0
 ·cases hi with
  | none=>rfl
  | some v=>exact clip_eq v n n
theorem zko (i j:Nat):Builtin.Slice.slicePlaces (i:Int) (j:Int) 1=j - i:=by
 unfold Builtin.Slice.slicePlaces;have h1:(1:Int) > 0:=()
 simp only[h1,if_true,Int.ediv_one];split <;> lia
def zfq {Q:Option Int->aM->Prop}(p:IsPart v o)(h:Q o s):aW (aY prog w) A (Builtin.Slice.slicePartIndex v) Q E s:=by
 cases p with
 | none=>exact slicePart_none h
 | int i t=>exact slicePart_int h
def zeo {sl:aE}{vl vu:aD}{lo hi:Option Int}{n:Nat}{Q:Int ×Int ×Nat->aM->Prop}(hs:s.heap.IsSliceOf sl vl vu .none)(pl:IsPart vl lo)(pu:IsPart vu hi)
  (h:Q (((sIx n 0 lo:Nat):Int),1,sIx n n hi - sIx n 0 lo) s):aW (aY prog w) A (Builtin.Slice.sliceApplied (.ref sl) (pure (n:Int))) Q E s:=by
 obtain⟨os,hos,hcs,hds⟩:=id hs;unfold Builtin.Slice.sliceApplied Builtin.Slice.sliceFields;refine Ja (Ja (bv hos hds (x:=vl) rfl (Ja (bv hos hds (x:=vu) rfl (Ja (bv hos hds (x:=.none) rfl (bc ?_)))))));refine Ja (slicePart_none ?_);show aW _ _ (if ((1:Int)==0)=Z then _ else _) _ _ s;rw[au ()];refine Ja (zfq pl (Ja (zfq pu (Ja (bc ?_)))));show aW _ _ (match Builtin.Slice.sliceAdjust lo hi 1 (n:Int) with | (lo,hi)=>pure (lo,(1:Int),Builtin.Slice.slicePlaces lo hi 1)) _ _ s;rw[zka lo hi n];show aW _ _ (pure (((sIx n 0 lo:Nat):Int),(1:Int),Builtin.Slice.slicePlaces ((sIx n 0 lo:Nat):Int) ((sIx n n hi:Nat):Int) 1)) _ _ s;rw[zko];exact bc h
theorem zoR (xs:Array aD)(i k:Nat):((List.range k).filterMap λ(m:Nat)=>xs[((i:Int)+(m:Int) * 1).toNat]?).toArray=((xs.toList.drop i).take k).toArray:=by
 have e:(λ(m:Nat)=>xs[((i:Int)+(m:Int) * 1).toNat]?)=λm=>xs[i+m]? :=by
  funext m;have:((i:Int)+(m:Int) * 1).toNat=i+m:=()
  rw[this]
 rw[e];have:=pick_run xs i k;rw[List.filterMap_map] at this;have e2:((λx=>xs[x]?) ∘ λx=>i+x)=λm=>xs[i+m]? :=rfl;rw[e2] at this;rw[this]
def _root_.JT:=@List.length_drop
def _root_.J8:=@Bool.and_eq_true
def getItem_tuple_cut {t sl:aE}{items:Array aD}{vl vu:aD}{lo hi:Option Int}{Q:QC}(ht:IsTup s.heap t items)(hs:s.heap.IsSliceOf sl vl vu .none)(pl:IsPart vl lo)(pu:IsPart vu hi)
  (hw:¬(sIx items.size 0 lo=0/\sIx items.size items.size hi=items.size))
  (h:Q (.ref s.heap.objs.size) {s with heap:=s.heap.push {cls:=.type "tuple",data:=.seq ((items.toList.drop (sIx items.size 0 lo)).take (sIx items.size items.size hi - sIx items.size 0 lo)).toArray}})
  (hsz:items.size<=aQ):aW (aY prog w) A (getItem (.ref t) (.ref sl)) Q E s:=by
 have htake:sizeOk (.seq ((items.toList.drop (sIx items.size 0 lo)).take (sIx items.size items.size hi - sIx items.size 0 lo)).toArray):=by show((items.toList.drop (sIx items.size 0 lo)).take (sIx items.size items.size hi - sIx items.size 0 lo)).toArray.size<=aQ;rw[JH,JQ,JT,Nf];lia
 have hj:sIx items.size items.size hi<=items.size:=sIx_le _ _ (Jb _) hi;obtain⟨os,hos,hcs,hds⟩:=id hs;have hTs:s.TypeIs (.ref sl) "slice" :=⟨os,hos,hcs⟩;unfold getItem
 try with_reducible refine bb ?_
 first | refine Ja (bc ?_) | skip
 refine Ja (wpAny_sequenceKey ht.typeIs () ?_);refine Ja (bw (name:=bz "__getitem__") ht.typeIs PyProof.Rows.slot_tuple_getitem
  (bA PyProof.Rows.slot_tuple_getitem ht.typeIs entry_tuple_getitem ?_ (args_tuple_getitem _ _)))
 show aW _ _ (Builtin.Tuple.tupleItemsOf (.ref t) >>=_) _ _ s;refine Ja (tupleItemsOf_ ht ?_);refine Ja (wpAny_typeOf hTs ?_);rw[av ()];refine Ja (zeo hs pl pu ?_);have hno:¬((((sIx items.size 0 lo:Nat):Int)==0 && (1:Int)==1 && (sIx items.size items.size hi - sIx items.size 0 lo)==items.size)=Z):=by intro q;rw[J8,J8] at q;have q1:((sIx items.size 0 lo:Nat):Int)=0:=eq_of_beq q.1.1;have q2:sIx items.size items.size hi - sIx items.size 0 lo=items.size:=eq_of_beq q.2;exact hw ⟨(),()⟩
 show aW _ _ (if (((sIx items.size 0 lo:Nat):Int)==0 && (1:Int)==1 && (sIx items.size items.size hi - sIx items.size 0 lo)==items.size)=Z then _ else _) _ _ s;rw[au hno,zoR]
 first
  | exact Ja (m:=Builtin.Tuple.tupleExact _) (bB (bc ⟨B,bc h⟩) htake)
  | exact Ja (m:=Builtin.Tuple.tupleExact _) (bB (Ja (bc (bc ⟨B,bc h⟩))) htake)
  | exact Ja (Ja (m:=Builtin.Tuple.tupleExact _) (bB (bc (bc ⟨B,bc h⟩)) htake))
  | exact Ja (Ja (m:=Builtin.Tuple.tupleExact _) (bB (bc ⟨B,bc h⟩) htake))
end
end HT
namespace L2
open PySem PySem.Spec PyProof.Rows
abbrev TO:=St->Hp->(Option Int->Hp->Prop)->Prop
def PO (X:Cx)(e:Option aX)(t:TO):Prop:=
 ∀(bH:QE)(s:aM)(σ:St)(H:Hp)(Q:Option Int->Hp->Prop),Inv X bH σ H s->t σ H Q->
  aW (aY X.prog X.w) X.A (evalPart e X.env) (λu s'=>∃o H',Inv X bH σ H' s'/\IsPart u o/\Q o H') X.xe s
def zau:TO:=λ_ H Q=>Q U H
def zcn (t:TE):TO:=fun σ H Q=>t σ H λx H1=>∃i,x=.int i/\Q (Y i) H1
section
variable {X:Cx}{e:aX}{te:TE}{lo hi:Option aX}{tl th:TO}{pos p2:Pos}
def zhK:PO X U zau:=by intro bH s σ H Q I h;rw[evalPart_none];exact bc ⟨U,H,I,.none,h⟩
def zdM (h:PE X e te):PO X (Y e) (zcn te):=by intro bH s σ H Q I hw;rw[evalPart_some];refine thn (h bH s σ H _ I hw) λu s1 ⟨x,H1,I1,r1,q1⟩=>?_;obtain⟨i,rfl,q⟩:=q1;obtain⟨t,rfl⟩:=r1;exact⟨Y i,H1,I1,.int i t,q⟩
def SlR (X:Cx)(r:V->Option Int->Option Int->Hp->VK->Prop):Prop:=
 ∀(bH:QE)(s:aM)(σ:St)(H:Hp)(x:V)(v vl vu:aD)(lo hi:Option Int)(sl:aE)(Q:VK),Inv X bH σ H s->RelV x v->s.heap.IsSliceOf sl vl vu .none->IsPart vl lo->IsPart vu hi->r x lo hi H Q->
  ∃T id,typeLookup (.type T) "__getitem__" =pure (Y (.builtin id))/\s.TypeIs v T/\aW (aY X.prog X.w) X.A (getItem v (.ref sl)) (EP X bH σ Q) X.xe s
def tSl (r:V->Option Int->Option Int->Hp->VK->Prop)(te:TE)(tl th:TO):TE:=fun σ H Q=>te σ H λx H1=>tl σ H1 λl H2=>th σ H2 λu H3=>r x l u H3 Q
def zdI (hr:SlR X r)(he:PE X e te)(hl:PO X lo tl)(hu:PO X hi th):PE X (.Subscript e (.Slice lo hi U p2) pos) (tSl r te tl th):=by intro bH s σ H Q I h;refine Subscript_ (thn (he bH s σ H _ I h) λv s1 ⟨x,H1,I1,r1,q1⟩=>?_);refine wpAny_Slice (thn (hl bH s1 σ H1 _ I1 q1) λvl s2 ⟨l,H2,I2,pl,q2⟩=>thn (hu bH s2 σ H2 _ I2 q2) λvu s3 ⟨u,H3,I3,pu,q3⟩=>?_);rw[evalPart_none];refine bc ?_;have I4:Inv X bH σ H3 {s3 with heap:=s3.heap.push {cls:=.type "slice",data:=.fields #[vl,vu,.none]}}:=I3.kept (t':=s3.toks) λb ob q=>JE _ q;obtain⟨T,id,hT,ht,hg⟩:=hr bH {s3 with heap:=s3.heap.push {cls:=.type "slice",data:=.fields #[vl,vu,.none]}} σ H3 x v vl vu l u s3.heap.objs.size Q I4 r1 (Heap.IsSliceOf.new ..) pl pu q3;show aW (aY X.prog X.w) X.A (subscriptTail e (.Slice lo hi U p2) v (.ref s3.heap.objs.size)) (EP X bH σ Q) X.xe {s3 with heap:=s3.heap.push {cls:=.type "slice",data:=.fields #[vl,vu,.none]}};exact tail_any (ops:=[.ref s3.heap.objs.size,v]) ht hT hg (by with_unfolding_all rfl)
def cutV (xs:QR)(lo hi:Option Int):List V:=(xs.drop (HT.sIx xs.length 0 lo)).take (HT.sIx xs.length xs.length hi - HT.sIx xs.length 0 lo)
def zeZ (xs:QR)(lo hi:Option Int):(cutV xs lo hi).length<=xs.length:=by unfold cutV;rw[JQ,JT];lia
def rSlT (K:QA):V->Option Int->Option Int->Hp->VK->Prop:=λx lo hi H Q=>∃a xs,x=.ref a/\SqT K H a xs/\
 ¬(HT.sIx xs.length 0 lo=0/\HT.sIx xs.length xs.length hi=xs.length)/\∀p,H p=U->Q (.ref p) (upd H p (.tup (cutV xs lo hi)))
def znk:SlR X (rSlT X.K):=by
 intro bH s σ H x v vl vu lo hi sl Q I rx hs pl pu h;obtain⟨a,xs,rfl,hx,hw,q⟩:=h;cases rx;obtain⟨its,r,ht,hz⟩:=I.tuple hx;have hlen:its.toArray.size=xs.length:=by rw[JH];exact r.length.symm
 refine⟨"tuple",_,PyProof.Rows.slot_tuple_getitem.lookup,ht.typeIs,?_⟩;refine HT.getItem_tuple_cut ht hs pl pu (by rw[hlen];exact hw) ?_ (by rw[hlen];exact hz);rw[hlen];refine⟨.ref s.heap.objs.size,_,I.laid (t':=s.toks) (o:=.tup (cutV xs lo hi)) (λb ob q=>JE _ q) (Jb _) ?_,O,q _ (I.hok.fresh (Jb _))⟩;exact⟨⟨Jg (zeZ xs lo hi) hz,_,JL _ rfl,O⟩,_,(r.drop (HT.sIx xs.length 0 lo)).take (HT.sIx xs.length xs.length hi - HT.sIx xs.length 0 lo),IsTup.new _ _⟩
def zt0 (K:QA):R2:=λx y H Q=>∃a b xs ys,x=.ref a/\y=.ref b/\SqT K H a xs/\SqT K H b ys/\xs≠ []/\xs.length+ys.length<=aQ/\
 (ys=[]->Q (.ref a) H)/\(ys≠ []->∀p,H p=U->Q (.ref p) (upd H p (.tup (xs++ys))))
def Vals.nil_iff (r:Vals xs us):us=[]↔xs=[]:=by
 cases r with
 | nil=>simp
 | cons _ _=>simp
def zpM:OpR X (binaryOp .Add) (zt0 X.K):=by intro bH s σ H x y v u Q I rx ry h;obtain⟨a,b,xs,ys,rfl,rfl,ha,hb,hx,hz,q1,q2⟩:=h;cases rx;cases ry;obtain⟨its,r1,p1,_⟩:=I.tuple ha;obtain⟨its2,r2,p2,_⟩:=I.tuple hb;refine HT.cat_tup p1 p2 (λz=>hx (r1.nil_iff.mp z)) (λz=>⟨.ref a,H,I,O,q1 (r2.nil_iff.mp z)⟩) (λz=>?_) (by rw[<-r1.length,<-r2.length];exact hz);refine⟨.ref s.heap.objs.size,_,I.laid (t':=s.toks) (o:=.tup (xs++ys)) (λb ob q=>JE _ q) (Jb _) ?_,O,q2 (λw=>z (r2.nil_iff.mpr w)) _ (I.hok.fresh (Jb _))⟩;exact⟨⟨by rw[JF];exact hz,_,JL _ rfl,O⟩,_,r1.append r2,IsTup.new _ _⟩
end
def ixN (n:Nat)(i:Int):Option Nat:=if 0<=i then(if i < n then Y i.toNat else U) else if -(n:Int)<=i then Y (i+n).toNat else U
def atI {α:Type}(xs:List α)(i:Int):Option α:=(ixN xs.length i).bind λj=>xs[j]?
def zlP {j:Nat}(h:ixN n i=Y j):seqIndex? i n=Y j/\j < n/\ -(n:Int)<=i/\i < n:=by
 unfold ixN at h;by_cases h0:0<=i
 ·rw[av h0] at h;by_cases h1:i < n
  ·rw[av h1] at h;have e:i.toNat=j:=JP h;exact⟨by rw[seqIndex_of h0 h1,e],(),(),h1⟩
  ·rw[au h1] at h;cases h
 ·rw[au h0] at h;by_cases h1: -(n:Int)<=i
  ·rw[av h1] at h;have e:(i+n).toNat=j:=JP h;exact⟨by rw[seqIndex_neg () h1,e],(),h1,()⟩
  ·rw[au h1] at h;cases h
def zif {xs:List α}{i:Int}{v:α}(h:atI xs i=Y v):∃j,seqIndex? i xs.length=Y j/\xs[j]? =Y v/\j < xs.length/\ -(xs.length:Int)<=i/\i < xs.length:=by
 unfold atI at h;cases e:ixN xs.length i with
 | none=>rw[e] at h;cases h
 | some j=>rw[e] at h;obtain⟨h1,h2,h3,h4⟩:=zlP e;exact⟨j,h1,h,h2,h3,h4⟩
theorem zbt {xs:List α}{j:Nat}{v:α}(h:xs[j]? =Y v):atI xs (j:Int)=Y v:=by
 have hj:j < xs.length:=(JG.mp h).1;have e:ixN xs.length (j:Int)=Y j:=by unfold ixN;rw[av (),av ()];simp
 unfold atI;rw[e];exact h
def zcv (xs:List α)(v:α):atI (xs++ [v]) (-1)=Y v:=by
 have hl:(xs++ [v]).length=xs.length+1:=by simp
 have e:ixN (xs++ [v]).length (-1)=Y xs.length:=by unfold ixN;rw[hl,au (),av ()];congr 1;lia
 unfold atI;rw[e];show(xs++ [v])[xs.length]? =Y v;simp
def zqI (b:aX):Prop:=∀o i,subscripted b G o i=operate [o,i] (getItem o i)
def IxR (X:Cx)(r:R2):Prop:=
 ∀(value slice:aX)(bH:QE)(s:aM)(σ:St)(H:Hp)(x y:V)(v u:aD)(Q:VK),Inv X bH σ H s->RelV x v->RelV y u->r x y H Q->
  subscripted slice G v u=operate [v,u] (getItem v u)->aW (aY X.prog X.w) X.A (subscriptTail value slice v u) (EP X bH σ Q) X.xe s
def MtR (X:Cx)(id:String)(r:V->List V->Hp->VK->Prop):Prop:=
 ∀(bH:QE)(s:aM)(σ:St)(H:Hp)(x:V)(xs:QR)(v:aD)(us:QO)(Q:VK),Inv X bH σ H s->RelV x v->Vals xs us->r x xs H Q->
  aW (aY X.prog X.w) X.A (call (.builtin id) (v::us)) (EP X bH σ Q) X.xe s
section
variable {X:Cx}{a b:aX}{ta tb:TE}{pos:Pos}
def zdi (hr:IxR X r)(ha:PE X a ta)(hb:PE X b tb)(hs:zqI b):PE X (.Subscript a b pos) (tOp r ta tb):=by intro bH s σ H Q I h;exact Subscript_ (binT ha hb I h λv u s2 x y H2 I2 rx ry q=>hr a b bH s2 σ H2 x y v u Q I2 rx ry q (hs _ _))
inductive rIxL (K:QA)(x y:V)(H:Hp)(Q:VK):Prop
 | mk (p:aE)(xs:QR)(i:Int)(v:V)(_:x=.ref p)(_:y=.int i)(_:SqL K H p xs)(_:atI xs i=Y v)(_:Q v H):rIxL K x y H Q
inductive rIxT (K:QA)(x y:V)(H:Hp)(Q:VK):Prop
 | mk (p:aE)(xs:QR)(i:Int)(v:V)(_:x=.ref p)(_:y=.int i)(_:SqT K H p xs)(_:atI xs i=Y v)(_:Q v H):rIxT K x y H Q
def rIxS:R2:=λx y H Q=>∃z i c,x=.str z/\y=.int i/\z.length<=aQ/\atI z.cps.toList i=Y c/\Q (.str ⟨#[c]⟩) H
def zfh:IxR X (rIxL X.K):=by
 intro value slice bH s σ H x y v u Q I rx ry h hs;obtain⟨p,xs,i,z,rfl,rfl,hq,he,q⟩:=h;cases rx;obtain⟨t,rfl⟩:=ry;obtain⟨its,r,pl,hz⟩:=I.list hq;obtain⟨j,h1,h2,h3,h4,h5⟩:=zif he;obtain⟨w,ew,rw'⟩:=r.get h2;have hl:=r.length;have hn:=zer;have fin:EP X bH σ Q w s:=⟨z,H,I,rw',q⟩;by_cases h0:0<=i
 ·have hj:i.toNat=j:=by rw[seqIndex_of h0 h5] at h1;exact JP h1
  exact item_listR pl.isList h0 () (by rw[hj];simpa using ew) fin hs
 ·have hj:(i+(its.toArray.size:Int)).toNat=j:=by rw[seqIndex_neg () h4] at h1;rw[JH,<-hl];exact JP h1
  exact subscriptTail_builtinR (x:=w) pl.isList.typeIs slot_list_getitem.lookup
   (wpAny_getItem_list_neg (Q:=λr s'=>r=w/\EP X bH σ Q r s') pl.isList () (by rw[JH] <;> lia) () (by rw[hj];simpa using ew) ⟨O,fin⟩) hs
def zes:IxR X (rIxT X.K):=by
 intro value slice bH s σ H x y v u Q I rx ry h hs;obtain⟨p,xs,i,z,rfl,rfl,hq,he,q⟩:=h;cases rx;obtain⟨t,rfl⟩:=ry;obtain⟨its,r,pl,hz⟩:=I.tuple hq;obtain⟨j,h1,h2,h3,h4,h5⟩:=zif he;obtain⟨w,ew,rw'⟩:=r.get h2;have hl:=r.length;have hn:=zer;have fin:EP X bH σ Q w s:=⟨z,H,I,rw',q⟩;exact subscriptTail_builtinR (x:=w) pl.typeIs slot_tuple_getitem.lookup
  (getItem_tuple (j:=j) (Q:=λr s'=>r=w/\EP X bH σ Q r s') pl () () (by rw[JH,<-hl];exact h1) (by simpa using ew) ⟨O,fin⟩) hs
def zsu:IxR X rIxS:=by
 intro value slice bH s σ H x y v u Q I rx ry h hs;obtain⟨z,i,c,rfl,rfl,hz,he,q⟩:=h;obtain⟨t,rfl⟩:=rx;obtain⟨t',rfl⟩:=ry;obtain⟨j,h1,h2,h3,h4,h5⟩:=zif he;have hl:z.cps.toList.length=z.length:=by simp[Str.length]
 rw[hl] at h1 h4 h5;have hn:=zer;exact tail_any (typeIs_str s z t) slot_str_getitem.lookup (getItem_str (c:=c) (by
  have e1:decide (i < -(2 ^ 63:Int))=G:=Jc ();have e2:decide (i≥2 ^ 63)=G:=Jc ();rw[e1,e2,Bool.or_false]) (by rw[h1];simpa using h2) ⟨.str ⟨#[c]⟩,H,I.tok _,⟨B⟩,q⟩) hs
def zkJ (its:QO)(n j:Nat)(u:aD):Obj.mapSeq (·.setIfInBounds j u) {cls:=.type "list",data:=.seq its.toArray n}={cls:=.type "list",data:=.seq (its.set j u).toArray n}:=by simp[Obj.mapSeq]
theorem Inv.lst {bH:QE}{σ:St}{H:Hp}{s:aM}{p:aE}{xs:QR}(I:Inv X bH σ H s)(h:H p=Y (.lst xs)):
  ∃(its:QO)(n:Nat),Vals xs its/\s.heap.get? p=Y {cls:=.type "list",data:=.seq its.toArray n}/\xs.length<=aQ:=by
 obtain⟨z,its,n,r,e⟩:=I.hok p _ h;exact⟨its,n,r,e,z⟩
def _root_.JZ:=@PySem.Heap.get?_update_self
def _root_.J1:=@PySem.Heap.get?_update_other
def Inv.lstUpd {p:aE}{xs:QR}{its its':QO}{n n':Nat}{f:Obj->Obj}(I:Inv X bH σ H s)(h:H p=Y (.lst xs))
  (ho:s.heap.get? p=Y {cls:=.type "list",data:=.seq its.toArray n}) (hf:f {cls:=.type "list",data:=.seq its.toArray n}={cls:=.type "list",data:=.seq its'.toArray n'}) (r:Vals ys its') (hz:ys.length<=aQ) (t:Nat):
  Inv X bH σ (upd H p (.lst ys)) {s with heap:=s.heap.update p f,toks:=t}:=by
 have e:(s.heap.update p f).get? p=Y {cls:=.type "list",data:=.seq its'.toArray n'}:=by rw[JZ f ho (by rw[hf] <;> rfl),hf]
 refine I.write (x:=p) (e:=p) (by rw[h];trivial) (.inl rfl) (λb u hb q=>(J1 _ _ (aV hb)).trans q) ⟨_,e⟩ ?_;exact⟨hz,its',n',r,e⟩
def zup:V->V->V->Hp->(Hp->Prop)->Prop:=λo i v H Q=>∃p xs k j,o=.ref p/\i=.int k/\H p=Y (.lst xs)/\ixN xs.length k=Y j/\Q (upd H p (.lst (xs.set j v)))
def set_list:PSet X zup:=by
 intro bH s σ H o i v ov iv u Q I ro ri rv h;obtain⟨p,xs,k,j,rfl,rfl,hp,hj,q⟩:=h;cases ro;obtain⟨t,rfl⟩:=ri;obtain⟨its,n,r,ho,hz⟩:=I.lst hp;obtain⟨h1,h2,h3,h4⟩:=zlP hj;have hl:=r.length;have hn:=zer;have I':Inv X bH σ (upd H p (.lst (xs.set j v))) {s with heap:=s.heap.update p (Obj.mapSeq (·.setIfInBounds j u))}:=
  I.lstUpd hp ho (zkJ its n j u) (r.set rv j) (by rw[List.length_set];exact hz) s.toks
 by_cases h0:0<=k
 ·have hk:k.toNat=j:=by rw[seqIndex_of h0 h4] at h1;exact JP h1
  exact PySem.W.ki_setAt ho h0 () (by rw[JH,<-hl];exact h4) (by rw[hk];exact⟨_,I',q⟩)
 ·have hk:(k+(its.toArray.size:Int)).toNat=j:=by rw[seqIndex_neg () h3] at h1;rw[JH,<-hl];exact JP h1
  exact PySem.W.ki_setBack ho () (by rw[JH,<-hl];exact h3) () (by rw[hk];exact⟨_,I',q⟩)
def zrJ (i:Int)(n d:Nat):max 0 (min (if i < 0 then i+(n:Int) else i) (n:Int))=((HT.sIx n d (Y i):Nat):Int):=by
 simp only[HT.sIx];by_cases h:i < 0
 ·simp only[h,if_true] <;> lia
 ·simp only[h,if_false] <;> lia
def zhD (lo hi:Option Int)(n:Nat):(sliceBounds lo hi U n).1=((HT.sIx n 0 lo:Nat):Int)/\(sliceBounds lo hi U n).2.1=((HT.sIx n n hi:Nat):Int)/\(sliceBounds lo hi U n).2.2=1:=by
 refine⟨?_,?_,O⟩
 ·cases lo with
  | none=>simp[sliceBounds,HT.sIx]
  | some i=>(simp only[sliceBounds,Option.getD_none,show(1:Int) > 0 by decide,if_true];exact zrJ i n 0)
 ·cases hi with
  | none=>simp[sliceBounds,HT.sIx]
  | some i=>(simp only[sliceBounds,Option.getD_none,show(1:Int) > 0 by decide,if_true];exact zrJ i n n)
theorem zgE (its:QO)(lo hi:Option Int):slicePick its.toArray lo hi U=((its.drop (HT.sIx its.length 0 lo)).take (HT.sIx its.length its.length hi - HT.sIx its.length 0 lo)).toArray:=by obtain⟨h1,h2,h3⟩:=zhD lo hi its.toArray.size;unfold slicePick;rw[h1,h2,h3];simp only[sliceRange_one,pick_run,JH] <;> rfl
def rSlL (K:QA):V->Option Int->Option Int->Hp->VK->Prop:=λx lo hi H Q=>∃a xs,x=.ref a/\SqL K H a xs/\∀p,H p=U->Q (.ref p) (upd H p (.lst (cutV xs lo hi)))
def zqW:SlR X (rSlL X.K):=by intro bH s σ H x v vl vu lo hi sl Q I rx hs pl pu h;obtain⟨a,xs,rfl,hx,q⟩:=h;cases rx;obtain⟨its,r,ht,hz⟩:=I.list hx;have hlen:=r.length;refine⟨"list",_,slot_list_getitem.lookup,ht.isList.typeIs,?_⟩;refine wpAny_getItem_list_slice ht.isList hs pl pu .none (by simp) ?_ (by rw[JH] <;> lia);rw[zgE,<-hlen];refine⟨.ref s.heap.objs.size,_,I.laid (t':=s.toks) (o:=.lst (cutV xs lo hi)) (λb ob q=>JE _ q) (Jb _) ?_,O,q _ (I.hok.fresh (Jb _))⟩;exact⟨Jg (zeZ xs lo hi) hz,_,0,(r.drop (HT.sIx xs.length 0 lo)).take (HT.sIx xs.length xs.length hi - HT.sIx xs.length 0 lo),JL _ rfl⟩
def zd2:V->Bool
 | .non=>Z
 | .bl _=>Z
 | .int _=>Z
 | .str _=>Z
 | _=>G
def eqV:V->V->Bool
 | .non,.non=>Z
 | .bl a,.bl b=>a==b
 | .bl a,.int b=>(if a then 1 else 0)==b
 | .int a,.bl b=>a==(if b then 1 else 0)
 | .int a,.int b=>a==b
 | .str a,.str b=>a==b
 | _,_=>G
def zsI (ry:RelV y u)(rx:RelV x v)(fy:zd2 y=Z)(fx:zd2 x=Z):SeqAt.EqAt A s u v (eqV y x):=by
 cases y with
 | non=>
  cases ry;cases x with
  | non=>cases rx;exact SeqAt.EqAt.same _
  | bl b=>cases rx;exact SeqAt.EqAt.none_bool b
  | int b=>obtain⟨t,rfl⟩:=rx;exact SeqAt.EqAt.none_int b t
  | str b=>obtain⟨t,rfl⟩:=rx;exact SeqAt.EqAt.none_str b t
  | _=>exact Jf (show G=Z from fx) Jd
 | bl a=>
  cases ry;cases x with
  | non=>cases rx;exact SeqAt.EqAt.bool_none a
  | bl b=>cases rx;exact SeqAt.EqAt.bool_bool a b
  | int b=>obtain⟨t,rfl⟩:=rx;exact SeqAt.EqAt.bool_int a b t
  | str b=>obtain⟨t,rfl⟩:=rx;exact SeqAt.EqAt.bool_str a b t
  | _=>exact Jf (show G=Z from fx) Jd
 | int a=>
  obtain⟨t',rfl⟩:=ry;cases x with
  | non=>cases rx;exact SeqAt.EqAt.int_none a t'
  | bl b=>cases rx;exact SeqAt.EqAt.int_bool a t' b
  | int b=>obtain⟨t,rfl⟩:=rx;exact SeqAt.EqAt.int_int a t' b t
  | str b=>obtain⟨t,rfl⟩:=rx;exact SeqAt.EqAt.int_str a t' b t
  | _=>exact Jf (show G=Z from fx) Jd
 | str a=>
  obtain⟨t',rfl⟩:=ry;cases x with
  | non=>cases rx;exact SeqAt.EqAt.str_none a t'
  | bl b=>cases rx;exact SeqAt.EqAt.str_bool a t' b
  | int b=>obtain⟨t,rfl⟩:=rx;exact SeqAt.EqAt.str_int a t' b t
  | str b=>obtain⟨t,rfl⟩:=rx;exact SeqAt.EqAt.str_str a t' b t
  | _=>exact Jf (show G=Z from fx) Jd
 | _=>exact Jf (show G=Z from fy) Jd
def eqU (x:V)(u:aD):Bool:=match u with
 | .none=>eqV .non x
 | .bool b=>eqV (.bl b) x
 | .int i _=>eqV (.int i) x
 | .str z _=>eqV (.str z) x
 | _=>G
theorem zok (r:RelV y u)(f:zd2 y=Z):eqU x u=eqV y x:=by
 cases y with
 | non=>cases r;rfl
 | bl b=>cases r;rfl
 | int i=>obtain⟨t,rfl⟩:=r;rfl
 | str z=>obtain⟨t,rfl⟩:=r;rfl
 | _=>exact Jf (show G=Z from f) Jd
theorem zhW:∀{xs:QR}{us:QO},Vals xs us->xs.all zd2=Z->us.any (eqU x)=xs.any λy=>eqV y x
 | _,_,.nil,_=>rfl
 | y::xs,u::us,.cons r t,f=>by rw[List.all_cons,J8] at f;rw[List.any_cons,List.any_cons,zok r f.1,zhW t f.2]
theorem zfZ (rx:RelV x v)(fx:zd2 x=Z):∀{xs:QR}{us:QO},Vals xs us->xs.all zd2=Z->∀u∈us,SeqAt.EqAt A s u v (eqU x u)
 | _,_,.nil,_=>λu hu=>by cases hu
 | y::xs,u::us,.cons r t,f=>λu' hu=>by
  rw[List.all_cons,J8] at f;rcases JJ.mp hu with rfl | hu
  ·rw[zok r f.1];exact zsI r rx f.1 fx
  ·exact zfZ rx fx t f.2 u' hu
def inV (x:V)(xs:QR):Bool:=xs.any λy=>eqV y x
def rIn (K:QA)(neg:Bool):R2:=λx y H Q=>∃p xs,y=.ref p/\(SqL K H p xs\/SqT K H p xs)/\zd2 x=Z/\xs.all zd2=Z/\Q (.bl (if neg then !inV x xs else inV x xs)) H
def zmU:OpR X (a9 .In) (rIn X.K G):=by
 intro bH s σ H x y v u Q I rx ry h;obtain⟨p,xs,rfl,hq,fx,fs,q⟩:=h;cases ry;rcases hq with hq | hq
 ·obtain⟨its,r,pl,hz⟩:=I.list hq;refine SeqAt.in_listAt (eqU x) pl.isList (λw hw=>zfZ rx fx r fs w (by simpa using hw)) ⟨.bl _,H,I,O,?_⟩;rw[show its.toArray.any (eqU x)=its.any (eqU x) by simp,zhW r fs];exact q
 ·obtain⟨its,r,pl,hz⟩:=I.tuple hq;refine SeqAt.in_tupleAt (eqU x) pl (λw hw=>zfZ rx fx r fs w (by simpa using hw)) ⟨.bl _,H,I,O,?_⟩;rw[show its.toArray.any (eqU x)=its.any (eqU x) by simp,zhW r fs];exact q
def za2:zac X (.builtin "len") (λxs H Q=>∃p ys,xs=[.ref p]/\(SqL X.K H p ys\/SqT X.K H p ys)/\Q (.int ys.length) H):=by
 intro bH s σ H xs us Q I r h;obtain⟨p,ys,rfl,hq,q⟩:=h;obtain⟨u,rfl,rx⟩:=vals1 r;cases rx;have hn:=zer;rcases hq with hq | hq
 ·obtain⟨its,r',pl,hz⟩:=I.list hq;have hlen:=r'.length;exact Calls.call_len_list pl.isList (by simp only[JH] <;> lia) ⟨.int ys.length,H,I.tok _,⟨s.toks+1,by rw[JH,hlen]⟩,q⟩
 ·obtain⟨its,r',pl,hz⟩:=I.tuple hq;have hlen:=r'.length;exact len_tuple pl (by simp only[JH] <;> lia) ⟨.int ys.length,H,I.tok _,⟨s.toks+1,by rw[JH,hlen]⟩,q⟩
def za3:zac X (.builtin "len") (λxs H Q=>∃z,xs=[.str z]/\z.length<=aQ/\Q (.int z.length) H):=by intro bH s σ H xs us Q I r h;obtain⟨z,rfl,hz,q⟩:=h;obtain⟨u,rfl,t,rfl⟩:=vals1 r;have hn:=zer;exact len_str () ⟨.int z.length,H,I.tok _,⟨B⟩,q⟩
def zac.or (h:zac X f r)(h':zac X f r'):zac X f (λxs H Q=>r xs H Q\/r' xs H Q):=by
 intro bH s σ H xs us Q I rs q;rcases q with q | q
 ·exact h bH s σ H xs us Q I rs q
 ·exact h' bH s σ H xs us Q I rs q
def zhy:zac X (.type "list") (λxs H Q=>∃p ys,xs=[.ref p]/\(SqL X.K H p ys\/SqT X.K H p ys)/\∀l,H l=U->Q (.ref l) (upd H l (.lst ys))):=by
 intro bH s σ H xs us Q I r h;obtain⟨p,ys,rfl,hq,q⟩:=h;obtain⟨u,rfl,rx⟩:=vals1 r;cases rx;have fin:∀(its:QO),Vals ys its->ys.length<=aQ->∀(h':aF)(c':Nat),(∀b o',s.heap.get? b=Y o'->h'.get? b=Y o')->
   h'.get? s.heap.objs.size=Y {cls:=.type "list",dict:=U,data:=.seq its.toArray c',slots:= #[]}->EP X bH σ Q (.ref s.heap.objs.size) {s with heap:=h'}:=λits r' hz h' c' kp e=>
  ⟨.ref s.heap.objs.size,_,I.laid (t':=s.toks) kp (Jb _) (show zB X.prog X.w _ h' _ (.lst ys) from⟨hz,its,c',r',e⟩),O,q _ (I.hok.fresh (Jb _))⟩
 rcases hq with hq | hq
 ·obtain⟨its,r',pl,hz⟩:=I.list hq;have hlen:=r'.length;obtain⟨o,ho,hc,n,hd⟩:=pl.isList;exact call_list_seq p (.inl rfl) ho hc hd (λh' c' kp e=>fin its r' hz h' c' kp e) (by simp only[JH] <;> lia)
 ·obtain⟨its,r',pl,hz⟩:=I.tuple hq;have hlen:=r'.length;obtain⟨o,ho,hc,n,hd⟩:=pl;exact call_list_seq p (.inr rfl) ho hc hd (λh' c' kp e=>fin its r' hz h' c' kp e) (by simp only[JH] <;> lia)
def zaL:zac X (.type "tuple") (λxs H Q=>∃p ys,xs=[.ref p]/\((SqL X.K H p ys/\∀l,H l=U->Q (.ref l) (upd H l (.tup ys)))\/(SqT X.K H p ys/\Q (.ref p) H))):=by
 intro bH s σ H xs us Q I r h;obtain⟨p,ys,rfl,h⟩:=h;obtain⟨u,rfl,rx⟩:=vals1 r;cases rx;rcases h with ⟨hq,q⟩ | ⟨hq,q⟩
 ·obtain⟨its,r',pl,hz⟩:=I.list hq;have hlen:=r'.length;refine call_tuple_list pl.isList (λh' kp=>?_) (by simp only[JH] <;> lia);have I1:Inv X bH σ H {s with heap:=h'}:=I.kept (t':=s.toks) kp;have I2:Inv X bH σ (upd H h'.objs.size (.tup ys)) {s with heap:=h'.push {cls:=.type "tuple",data:=.seq its.toArray}}:=
   I1.laid (t':=s.toks) (λb o e=>JE _ e) (Jb _) (show zB X.prog X.w _ _ _ (.tup ys) from⟨⟨hz,_,JL _ rfl,O⟩,its,r',IsTup.new _ _⟩)
  exact⟨.ref h'.objs.size,_,I2,O,q _ (I1.hok.fresh (Jb _))⟩
 ·obtain⟨its,r',pl,hz⟩:=I.tuple hq;exact call_tuple_same pl ⟨.ref p,H,I,O,q⟩
def tyV (K:QA)(T:String)(x:V)(H:Hp):Prop:=match x with
 | .str _=>T= "str"
 | .int _=>T= "int"
 | .ref p=>(T= "list" /\∃xs,SqL K H p xs)\/(T= "tuple" /\∃o,K.lookup p=Y o/\o.cls=.type "tuple" /\o.dict=U)\/
   (T= "dict" /\((∃kvs,H p=Y (.dK kvs))\/∃kvs,H p=Y (.dT kvs)))\/(T= "set" /\∃S n,H p=Y (.set S n))
 | _=>False
def znu (I:Inv X bH σ H s)(r:RelV x v)(ty:tyV X.K T x H):
  s.TypeIs v T/\∀a,v=.ref a->∃ob,s.heap.get? a=Y ob/\ob.dict=U:=by
 cases x with
 | str z=>obtain⟨t,rfl⟩:=r;cases (show T= "str" from ty);exact⟨typeIs_str s z t,λ_ e=>nomatch e⟩
 | int i=>obtain⟨t,rfl⟩:=r;cases (show T= "int" from ty);exact⟨typeIs_int s i t,λ_ e=>nomatch e⟩
 | ref p=>
  cases r;rcases ty with ⟨rfl,xs,hq⟩ | ⟨rfl,o,hk,hc,hd⟩ | ⟨rfl,hk⟩ | ⟨rfl,S,n,hk⟩
  ·obtain⟨its,_,pl,_⟩:=I.list hq;refine⟨pl.isList.typeIs,λa e=>?_⟩;cases e;obtain⟨o,n,e,c,hd,_⟩:=pl;exact⟨o,e,hd⟩
  ·refine⟨⟨o,I.kIn p o hk,hc⟩,λa e=>?_⟩;cases e;exact⟨o,I.kIn _ o hk,hd⟩
  ·have z:∃o,s.heap.get? p=Y o/\o.ExactDict:=by
    rcases hk with ⟨kvs,hk⟩ | ⟨kvs,hk⟩
    ·obtain⟨_,_,_,_,o,_,_,e,ex,_⟩:=I.hok p _ hk;exact⟨o,e,ex⟩
    ·obtain⟨_,_,_,_,o,_,_,e,ex,_⟩:=I.hok p _ hk;exact⟨o,e,ex⟩
   obtain⟨o,e,ex⟩:=z;refine⟨⟨o,e,ex.1⟩,λa e2=>?_⟩;cases e2;exact⟨o,e,ex.2.1⟩
  ·obtain⟨o,_,_,_,e,ex,_⟩:=I.hok p _ hk;refine⟨⟨o,e,ex.1⟩,λa e2=>?_⟩;cases e2;exact⟨o,e,ex.2.1⟩
 | _=>exact False.elim ty
def tBM0 (K:QA)(T:String)(r:V->List V->Hp->VK->Prop)(to:TE):TE:=fun σ H Q=>to σ H λx H1=>tyV K T x H1/\r x [] H1 Q
def tBM (K:QA)(T:String)(r:V->List V->Hp->VK->Prop)(to:TE)(t:TA):TE:=fun σ H Q=>to σ H λx H1=>tyV K T x H1/\t σ H1 λxs H2=>r x xs H2 Q
variable {o e:aX}{es:List aX}{to:TE}{t:TA}{name:Str}{apos cpos:Pos}{T id:String}{r:V->List V->Hp->VK->Prop}
def znH (pa:PlainAttrs T)(slot:Slot T name id)(hty:typeOf (.builtin id)=pure (.type "method_descriptor")) (hm:MtR X id r) (ho:PE X o to)
  (hbase:attributeBase o name X.env (aZ o X.env)=aZ o X.env:=by rfl) (hline:(apos.endLine==cpos.line)=Z:=by rfl):PE X (.Call (.Attribute o name apos) [] [] cpos) (tBM0 X.K T r to):=by
 intro bH s σ H Q I h;refine wpAny_Call_method0_late hbase hline (thn (ho bH s σ H _ I h) λv s1 ⟨x,H1,I1,r1,ty,q1⟩=>?_);obtain⟨h1,h2⟩:=znu I1 r1 ty;exact⟨T,id,pa,slot,hty,h1,h2,Calls.callWith_builtin rfl (PySem.evalArgs_none (hm bH s1 σ H1 x [] v [] Q I1 r1 .nil q1))⟩
def zi7 (pa:PlainAttrs T)(slot:Slot T name id)(hty:typeOf (.builtin id)=pure (.type "method_descriptor")) (hm:MtR X id r) (ho:PE X o to) (ha:PA X (e::es) t)
  (hbase:attributeBase o name X.env (aZ o X.env)=aZ o X.env:=by rfl)
  (hfew:((a6 cpos (a7 (e::es) X.env)).all (λx=>!x.1) && (backToKw cpos (keywordEach [] X.env)).all (λx=>x.1.isSome)
   && decide ((e::es).length+([]:List Keyword).length+(if ([]:List Keyword).isEmpty then 0 else 1) < 30))=Z:=by rfl)
  (hline:(apos.endLine==cpos.line)=Z:=by rfl) (hs:a7 (e::es) X.env=(G,aZ e X.env)::a7 es X.env:=by rfl) (hplain:(a6 cpos (a7 es X.env)).any (·.1)=G:=by rfl):
  PE X (.Call (.Attribute o name apos) (e::es) [] cpos) (tBM X.K T r to t):=by
 intro bH s σ H Q I h;refine wpAny_Call_method_late hbase hfew hline rfl (thn (ho bH s σ H _ I h) λv s1 ⟨x,H1,I1,r1,ty,q1⟩=>?_);obtain⟨h1,h2⟩:=znu I1 r1 ty;refine⟨T,id,pa,slot,hty,h1,h2,?_⟩;have hA:=ha cpos bH s1 σ H1 _ I1 q1;rw[hs] at hA ⊢;refine Calls.callWith_builtin (by show(G || (a6 cpos (a7 es X.env)).any (·.1))=G;rw[hplain] <;> rfl) (Calls.evalArgs_plain ?_);exact thn hA λus s2 ⟨vs,H2,I2,r2,q2⟩=>hm bH s2 σ H2 x vs v us Q I2 r1 r2 q2
end
def MtM (X:Cx)(id:String)(r:V->List V->Hp->VK->Prop):Prop:=
 ∀(bH:QE)(s:aM)(σ:St)(H:Hp)(x:V)(xs:QR)(v:aD)(us:QO)(Q:VK),Inv X bH σ H s->RelV x v->Vals xs us->r x xs H Q->
  aW (aY X.prog X.w) X.A (call (.builtin id) (v::us)) (EP X bH σ Q) X.xe s
def Vals.one {x:V}(h:Vals [x] us):∃u,us=[u]/\RelV x u:=by
 cases h with
 | cons r t=>cases t;exact⟨B,r⟩
theorem Vals.zero:∀{us:QO},Vals [] us->us=[]
 | _,.nil=>rfl
def Vals.dropLast (h:Vals xs us):Vals xs.dropLast us.dropLast:=by
 induction h with
 | nil=>exact .nil
 | cons r t ih=>
  cases t with
  | nil=>exact .nil
  | cons q t'=>exact .cons r ih
def _root_.Nr:=@List.reverse_cons
theorem Vals.reverse (h:Vals xs us):Vals xs.reverse us.reverse:=by
 induction h with
 | nil=>exact .nil
 | cons r t ih=>rw[Nr,Nr];exact Vals.append ih (.cons r .nil)
theorem zkA (l:List α):l.eraseIdx (l.length - 1)=l.dropLast:=by
 induction l with
 | nil=>rfl
 | cons a r ih=>
  cases r with
  | nil=>rfl
  | cons b r=>
   have e:(a::b::r).length - 1=((b::r).length - 1)+1:=by have h1:(a::b::r).length=r.length+2:=rfl;have h2:(b::r).length=r.length+1:=rfl;lia
   rw[e,List.eraseIdx_cons_succ,ih]
   all_goals rfl
section
variable {X:Cx}{bH:QE}{σ:St}{H:Hp}{s:aM}{l b:aE}{xs ys zs:QR}
def Inv.lset {its its':QO}{n:Nat}{f:Array aD->Array aD}{t':Nat}(I:Inv X bH σ H s)(hH:H l=Y (.lst xs))
  (e:s.heap.get? l=Y {cls:=.type "list",data:=.seq its.toArray n}) (hf:f its.toArray=its'.toArray) (hv:Vals ys its') (hz:ys.length<=aQ):
  Inv X bH σ (upd H l (.lst ys)) {s with heap:=s.heap.update l (Obj.mapSeq f),toks:=t'}:=by
 have q:=PySem.IsL.update e f;rw[hf] at q;refine I.write (x:=l) (e:=l) (by rw[hH];exact trivial) (.inl rfl) (λb' u hb hu=>(J1 s.heap (Obj.mapSeq f) (aV hb)).trans hu) ⟨_,q⟩ ?_;exact⟨hz,its',_,hv,q⟩
def Inv.lnew {t':Nat}(I:Inv X bH σ H s)(hv:Vals ys its)(hz:ys.length<=aQ):
  Inv X bH σ (upd H s.heap.objs.size (.lst ys)) {s with heap:=s.heap.push {cls:=.type "list",data:=.seq its.toArray},toks:=t'}:=
 I.laid (λ_ _ q=>JE _ q) (Jb _) ⟨hz,its,0,hv,JL _ rfl⟩
def Inv.fresh (I:Inv X bH σ H s):H s.heap.objs.size=U:=I.hok.fresh (Jb _)
def Inv.lstM (I:Inv X bH σ H s)(hH:H l=Y (.lst xs)):xs.length<=aQ/\∃(its:QO)(n:Nat),Vals xs its/\xs.length=its.length/\s.heap.get? l=Y {cls:=.type "list",data:=.seq its.toArray n}:=by obtain⟨z,its,n,r,e⟩:=I.hok l _ hH;exact⟨z,its,n,r,r.length,e⟩
theorem zod {n:Nat}(h:n<=aQ):Builtin.List.listTooLong n=G:=by unfold Builtin.List.listTooLong;exact Jc ()
def zqi:V->List V->Hp->VK->Prop:=λx vs H Q=>∃l xs y,x=.ref l/\vs=[y]/\H l=Y (.lst xs)/\xs.length < aQ/\Q .non (upd H l (.lst (xs++ [y])))
def zgR:MtM X "list.append" zqi:=by intro bH s σ H x vs v us Q I rx rv h;obtain⟨l,xs,y,rfl,rfl,hH,hz,q⟩:=h;cases rx;obtain⟨u,rfl,ru⟩:=rv.one;obtain⟨z,its,n,r,hl,e⟩:=I.lstM hH;refine call_meets F.slot_list_append ⟨_,e,O⟩ F.entry_list_append (F.args_list_append_2 _ _) (PySem.list_append l its.toArray n u (by rw[JH];lia)) ⟨e,?_⟩;refine⟨.non,_,I.lset (its':=its++ [u]) hH e (by simp) (r.append (.cons ru .nil)) ?_,O,q⟩;rw[JF,List.length_singleton];lia
def zqn:V->List V->Hp->VK->Prop:=λx vs H Q=>∃l b xs zs,x=.ref l/\vs=[.ref b]/\H l=Y (.lst xs)/\H b=Y (.lst zs)/\xs.length+zs.length<=aQ/\Q .non (upd H l (.lst (xs++zs)))
def _root_.Nz:=@Bool.and_false
def zmB:MtM X "list.extend" zqn:=by
 intro bH s σ H x vs v us Q I rx rv h;obtain⟨l,b,xs,zs,rfl,rfl,hH,hB,hz,q⟩:=h;cases rx;obtain⟨u,rfl,ru⟩:=rv.one;cases ru;obtain⟨z,its,n,r,hl,e⟩:=I.lstM hH;obtain⟨z2,its2,n2,r2,hl2,e2⟩:=I.lstM hB;have hsz:its.toArray.size+its2.toArray.size<=aQ:=by rw[JH,JH];lia
 have hlong:¬(!its.toArray.isEmpty && Builtin.List.listTooLong (its.toArray.size+its2.toArray.size))=Z:=by rw[zod hsz,Nz];exact Jd
 refine call_meets F.slot_list_extend ⟨_,e,O⟩ F.entry_list_extend (F.args_list_extend_2 _ _)
  (AutoSeq1.list_extend_list_list_0 l its.toArray n b its2.toArray n2 hlong (by rw[JH];lia) ()) ⟨e,e2,?_⟩
 refine⟨.non,_,I.lset (its':=its++its2) hH e (by simp) (r.append r2) ?_,O,q⟩;rw[JF];lia
def rPop:V->List V->Hp->VK->Prop:=λx vs H Q=>∃l xs y,x=.ref l/\vs=[]/\H l=Y (.lst xs)/\xs[xs.length - 1]? =Y y/\Q y (upd H l (.lst xs.dropLast))
def _root_.Nb:=@Array.getElem?_toList
def ztl:MtM X "list.pop" rPop:=by
 intro bH s σ H x vs v us Q I rx rv h;obtain⟨l,xs,y,rfl,rfl,hH,hy,q⟩:=h;cases rx;have hus:=rv.zero;subst hus;obtain⟨z,its,n,r,hl,e⟩:=I.lstM hH;obtain⟨u,hu,ru⟩:=r.get hy;have hy':its.toArray[its.toArray.size - 1]? =Y u:=by show its.toArray[its.length - 1]? =Y u;rw[<-Nb,<-hl];exact hu
 refine call_meets F.slot_list_pop ⟨_,e,O⟩ F.entry_list_pop (F.args_list_pop_1 _) (MeetsSeq.list_pop_last l its.toArray n u hy' (by rw[JH];lia)) ⟨e,?_⟩;refine⟨y,_,I.lset (its':=its.dropLast) hH e ?_ r.dropLast ?_,ru,q⟩
 ·show its.toArray.eraseIdxIfInBounds (its.toArray.size - 1)=its.dropLast.toArray;rw[JH,List.eraseIdxIfInBounds_toArray,zkA]
 ·rw[List.length_dropLast];lia
def zox:V->List V->Hp->VK->Prop:=λx vs H Q=>∃l xs,x=.ref l/\vs=[]/\H l=Y (.lst xs)/\Q .non (upd H l (.lst xs.reverse))
def _root_.Nw:=@List.length_reverse
def zkq:MtM X "list.reverse" zox:=by intro bH s σ H x vs v us Q I rx rv h;obtain⟨l,xs,rfl,rfl,hH,q⟩:=h;cases rx;have hus:=rv.zero;subst hus;obtain⟨z,its,n,r,hl,e⟩:=I.lstM hH;refine call_meets F.slot_list_reverse ⟨_,e,O⟩ F.entry_list_reverse (F.args_list_reverse_1 _) (AutoSeq1.list_reverse_list_0 l its.toArray n (by rw[JH];lia)) ⟨e,?_⟩;refine⟨.non,_,I.lset (its':=its.reverse) hH e (by simp) r.reverse ?_,O,q⟩;rw[Nw];lia
def rCat:R2:=λx y H Q=>∃l b xs zs,x=.ref l/\y=.ref b/\H l=Y (.lst xs)/\H b=Y (.lst zs)/\xs.length+zs.length<=aQ/\∀p,H p=U->Q (.ref p) (upd H p (.lst (xs++zs)))
def zbd:OpR X (binaryOp .Add) rCat:=by
 intro bH s σ H x y v u Q I rx ry h;obtain⟨l,b,xs,zs,rfl,rfl,hH,hB,hz,q⟩:=h;cases rx;cases ry;obtain⟨z,its,n,r,hl,e⟩:=I.lstM hH;obtain⟨z2,its2,n2,r2,hl2,e2⟩:=I.lstM hB;refine PySem.P.add_list e e2 ?_ (by rw[JH,JH];lia);have ea:its.toArray++its2.toArray=(its++its2).toArray:=by simp
 rw[ea];exact⟨.ref _,_,I.lnew (t':=s.toks) (r.append r2) (by rw[JF];lia),O,q _ I.fresh⟩
variable {prog:aG}{w:aH}{A:aU}{E:QC}
end
end L2
namespace Att
open PySem PySem.W PySem.Calls PyProof.Rows
def ze7:∀(ns:List Int)(vs:QO),WellAll P h vs (ns.map WData.int)->IntsAre vs ns:=by
 intro ns
 induction ns with
 | nil=>intro vs w;rw[List.map_nil] at w;cases w;exact .nil
 | cons n ns ih=>
  intro vs w;rw[JX] at w;cases w with
  | cons a b=>cases a;exact .cons _ _ (ih _ b)
def zmC {l:OpenLaw}{n:Nat}(hn:l.most=Y n){args:List WData}
  (hpre:l.row.toRowW.claim.pre args=Z) (hwl:WellAll P h vals args):
  ∃a vs ns,vals=[aP a]/\args=[WData.list (ns.map WData.int)]/\h.get? a=Y {cls:=.type "list",data:=.seq vs.toArray}/\IntsAre vs ns/\ns.length<=n:=by
 have hsh:WShape.hasAll [] args [.list .int]=Z:=(pre_splitW hpre).1;have hc:l.pre.holds [] {args:=args}=Z:=(pre_splitW hpre).2;obtain⟨d,r,rfl,h1,h2⟩:=hasAllW_cons hsh;obtain rfl:=hasAllW_nil h2;obtain⟨xs,rfl,h3⟩:=hasW_list h1;obtain⟨ns,rfl⟩:=items_int h3;have hlen:ns.length<=n:=by
  unfold OpenLaw.pre at hc;have h4:(WTm.not (.lt (.lit (.int (n:Int))) (.len (.arg 0)))).holds [] {args:=[.list (ns.map .int)]}=Z:=by have h4:=(holds_andW hc).1;rw[hn] at h4;exact h4
  have h5:=condW_of h4 (w_not (w_lt w_lit (w_len_list (w_arg rfl))));rw[JI] at h5;refine Nat.le_of_not_lt λq=>?_;have q':(n:Int) < ((ns.length:Nat):Int):=()
  first
   | (rw[aw q'] at h5;exact Jf h5 ())
   | (simp at h5;lia)
 cases hwl with
 | cons w1 w2=>
  cases w2;cases w1 with
  | list ho hall=>exact⟨_,_,ns,O,O,ho,ze7 ns _ hall,hlen⟩
def zmq (l:OpenLaw)(args:List WData):l.row.toRowW.claim.post args (.bool Z) args=Z:=
 postW_of (r:=l.row.toRowW) (X:=(Z==Z))
  (show WShape.has [] (.bool Z) .bool=Z by first | rfl | decide | simp[WShape.has,WShape.arms,WShape.armsAll])
  (show(WTm.eq .res (.lit (.bool Z))).value [] {args:=args,res:=Y (.bool Z),after:=args}=Y (.bool (Z==Z)) from w_eq_bool (w_res rfl) w_lit) rfl
def attach_call {l:OpenLaw}{n:Nat}{YP:aH->aF->Prop}{d:DefRec}
  (hn:l.most=Y n) (hdf:d.params.defaults=[])
  (call:∀(w:aH)(s₀ s₁:aM)(mg mb:QB)(fa:aE)(o:Obj)(pm cd doc:aD)(a:aE)(vs:QO)(ns:List Int),
   Ground q loose [] XP w s₀ mg mb s₁.heap->YP w s₁.heap->
   s₁.heap.get? fa=Y o->o.data=.func (docDef d.name d.params d.body d.scope pm cd doc)->s₁.heap.CodeRec cd d.name->mg d.name=Y (.ref fa)->
   s₁.heap.get? a=Y {cls:=.type "list",data:=.seq vs.toArray}->IntsAre vs ns->ns.length<=n->s₁.gens= #[]->
   codeAny (aY l.prog w) callerA (.call (.ref fa) ⟨[.ref a],[]⟩) (λr s'=>r=.ok (.ret (.bool Z))/\OldK s₁.heap s'.heap/\s'.os=s₁.os/\AllBare s'.gens) s₁):
  WalkO q loose XP YP l.row.toRowW d [] (λf vs=>PySem.call f vs):=by
 intro w s₀ s₁ mg mb ah aa fa o pm cd doc dV kV ho hd hcd hD hmg hg args vals as hpre hlay hrd hwl hlo;obtain rfl:dV=.none:=Dflts.none hD hdf;obtain rfl:kV=.none:=Dflts.noKw hD;obtain⟨a,vs,ns,rfl,rfl,hobj,hints,hlen⟩:=zmC hn hpre hwl;refine enter_call (codeAny_mono (call w s₀ s₁ mg mb fa o pm cd doc a vs ns ah aa ho (fd_plain hd) hcd hmg hobj hints hlen hg) λr s' hq=>?_);obtain⟨rfl,h2,h3,h4⟩:=hq;exact⟨.inl ⟨.bool Z,.bool Z,[],O,λ_=>O,.bool Z,zmq l _,λ_=>⟨List.Pairwise.nil,λ_ hm=>(nomatch hm)⟩⟩,h2,h3,h4⟩
section
variable {prog:aG}{w:aH}{A:aU}{E:QC}{s:aM}{K:Frag}
end
end Att
namespace L2
open PySem PySem.Spec PyProof.Rows
theorem zeC:∀{vs:QO}{ns:List Int},IntsAre vs ns->Vals (ns.map V.int) vs
 | _,_,.nil=>.nil
 | _,_,.cons n t h=>.cons ⟨t,O⟩ (zeC h)
def Only (H:Hp):Prop:=∀b,H b=U\/∃o xs,H b=Y (.frz o (.lst xs))
def zos {K:QA}{mg mb:QB}{a:aE}{x:Str}{s₁:aM}{vs:QO}
  (KX:K.In s₁.heap) (hns:s₁.heap.Ns aR mg) (hb:s₁.heap.Ns builtinsNs mb) (hbb:∀x:Str,x≠ "__name__" ->mb x=bootBuiltins x) (hlim:s₁.heap.NoLimit) (hg:s₁.gens= #[])
  (ha:s₁.heap.get? a=Y {cls:=.type "list",data:=.seq vs.toArray}) (hi:IntsAre vs ns) (hl:ns.length<=aQ) (hr:Room k callerA)
  (F:∀ax:aF,K.In ax->ax.Ns aR mg->FnOk P w K mg ax CX k fa fd [x] sp) (hbind:∀(s:aM)(u:aD),BindsTo s fd ⟨[u],[]⟩ [(x,u)])
  (hsp:∀H:Hp,Only H->SqL K H a (ns.map V.int)->sp [.ref a] H (λv _=>v=.bl Z) λ_ _ _=>False)
  (hCX:∀H e s',CX [] H s₁ (λ_ _ _=>False) e s'->False):
  codeAny (aY P w) callerA (.call (.ref fa) ⟨[.ref a],[]⟩) (λr s'=>r=.ok (.ret (.bool Z))/\OldK s₁.heap s'.heap/\s'.os=s₁.os/\AllBare s'.gens) s₁:=by
 have rv:=zeC hi;have lenV:=hi.length
 have core:∀H:Hp,Only H->SqL K H a (ns.map V.int)->HOk P w H s₁.heap->(∀b,H b≠U->b=a)->(H a≠U->K.lookup a=U)->
   codeAny (aY P w) callerA (.call (.ref fa) ⟨[.ref a],[]⟩) (λr s'=>r=.ok (.ret (.bool Z))/\OldK s₁.heap s'.heap/\s'.os=s₁.os/\AllBare s'.gens) s₁:=by
  intro H hO hS hok hA hK;have base_of:∀{b:aE}{o:Obj},s₁.heap.get? b=Y o->H b=U->(hidT s₁.heap H).get? b=Y o:=λe n=>zoA e n;have noA:∀{b:aE}{o:Obj}{es:Array DictEntry}{ep:Nat},s₁.heap.get? b=Y o->o.data=.dict es ep->H b=U:=λ{b o es ep} e d=>by
   cases q:H b with
   | none=>rfl
   | some u=>have e':b=a:=hA b (by rw[q];simp);subst e';rw[ha] at e;cases e;have d':Data.seq vs.toArray _=Data.dict es ep:=d;cases d'
  have nsK:∀{b:aE}{m:QB},s₁.heap.Ns b m->(hidT s₁.heap H).Ns b m:=λ{b m} ⟨o,es,ep,e,d,r⟩=>⟨o,es,ep,base_of e (noA e d),d,r⟩;have hKb:K.In (hidT s₁.heap H):=λb o e=>base_of (KX b o e) (by
   cases q:H b with
   | none=>rfl
   | some u=>
    have e':b=a:=hA b (by rw[q];simp);subst e';rw[hK (by rw[q];simp)] at e;cases e)
  have hM:Mod K mg (hidT s₁.heap H):=⟨hKb,nsK hns,⟨mb,nsK hb,hbb⟩,let ⟨mc,h1,h2⟩:=hlim;⟨mc,nsK h1,h2⟩⟩
  have e0:Env0 P w K mg (hidT s₁.heap H) callerA [] s₁ H:=⟨O,hM,λb o e=>zqy e,Nat.le_of_eq (zmz _ _),trivial,λb hb=>Jf (show b∈([]:QP) from hb) (by simp),hok,.of_eq hg⟩;refine codeAny_mono ((F _ hKb (nsK hns)).run callerA [] s₁ H ⟨[.ref a],[]⟩ [.ref a] [.ref a] _ _ hr e0 (hbind s₁ (.ref a)) (.cons rfl .nil) (hsp H hO hS)) λr s' h=>?_;cases r with
  | error e=>exact(hCX H e s' h).elim
  | ok fl=>
   cases fl with
   | next=>exact False.elim h
   | brk=>exact False.elim h
   | cont=>exact False.elim h
   | ret u=>
    obtain⟨v,H',os,bare,un,hok',r',q⟩:=h;have q':v=.bl Z:=q;subst q';obtain rfl:u=Value.bool Z:=r';refine⟨O,OldK.of_keep λb o e=>?_,os,bare⟩;cases q:H b with
    | none=>exact un.keep b o e q (by intro z;exact Jf (show b∈([]:QP) from z) (by simp)) (by simp)
    | some u=>
     rcases hO b with z | ⟨ob,xs,z⟩
     ·rw[q] at z;cases z
     ·have z2:=un.frzs b ob _ z;obtain⟨e1,_⟩:=hok b _ z;obtain⟨e2,_⟩:=hok' b _ z2;rw[e] at e1;cases e1;exact e2
 cases hk:K.lookup a with
 | some o=>
  have e:=KX a o hk;rw[ha] at e;cases e;refine core (λ_=>U) (λ_=>.inl rfl) (.inr ⟨_,vs.toArray,_,hk,O,O,O,by rw[JH,lenV];exact hl,by simpa using rv⟩) (λb u z=>by have z':(U:Option HO)=Y u:=z;cases z') (λb z=>Jf rfl z) λz=>Jf rfl z
 | none=>
  refine core (λb=>if b=a then Y (.frz {cls:=.type "list",data:=.seq vs.toArray} (.lst (ns.map V.int))) else U) (λb=>?_) (.inl (.inr ⟨{cls:=.type "list",data:=.seq vs.toArray},av rfl⟩)) (λb u z=>?_) (λb z=>?_) λ_=>hk
  ·by_cases hb:b=a
   ·exact .inr ⟨_,_,av hb⟩
   ·exact .inl (au hb)
  ·by_cases hb:b=a
   ·have z':=(av hb).symm.trans z;cases z';subst hb;exact⟨ha,by rw[JI];exact hl,vs,_,rv,ha⟩
   ·have z':=(au hb).symm.trans z;cases z'
  ·by_cases hb:b=a
   ·exact hb
   ·exact Jf (au hb) z
abbrev KOf {K:QA}{h:aF}(_:K.In h):QA:=K
def zp0 {l:PySem.W.OpenLaw}{n:Nat}{YP:aH->aF->Prop}{d:DefRec}{K:Params->QA}{CX:aH->CXT}{sp:aH->Sp}{x:Str}
  (hn:l.most=Y n) (hn2:n<=aQ) (hdf:d.params.defaults=[]) (hr:Room k callerA)
  (hY:∀(w:aH)(h:aF),YP w h->(K w.params).In h)
  (F:∀(w:aH)(mg:QB)(fa:aE)(h:aF),(K w.params).In h->h.Ns aR mg->mg d.name=Y (.ref fa)->
   ∃fd:FuncData,(∀(s:aM)(u:aD),BindsTo s fd ⟨[u],[]⟩ [(x,u)])/\
    ∀ax:aF,(K w.params).In ax->ax.Ns aR mg->FnOk l.prog w (K w.params) mg ax (CX w) k fa fd [x] (sp w))
  (hsp:∀(w:aH)(H:Hp)(a:aE)(ns:List Int),ns.length<=n->Only H->SqL (K w.params) H a (ns.map V.int)->sp w [.ref a] H (λv _=>v=.bl Z) λ_ _ _=>False)
  (hCX:∀(w:aH)(H:Hp)(s:aM)(e:aD)(s':aM),CX w [] H s (λ_ _ _=>False) e s'->False):
  PySem.W.WalkO q loose XP YP l.row.toRowW d [] (λf vs=>PySem.call f vs):=by
 refine Att.attach_call hn hdf λw s₀ s₁ mg mb fa o pm cd doc a vs ns ah aa ho hd hcd hmg hobj hints hlen hg=>?_;have KX:=hY w _ aa;obtain⟨fd,hb,hF⟩:=F w mg fa _ KX ah.T.g hmg;exact zos KX ah.T.g ah.T.b ah.T.builtins ah.T.nolimit hg hobj hints (Jg hlen hn2) hr hF hb (λH hO hS=>hsp w H a ns hlen hO hS) λH e s'=>hCX w H s₁ e s'
abbrev CX0:CXT:=λ_ _ _ _ _ _=>False
abbrev E0:XK:=λ_ _ _=>False
def zjF:zay CX0 X E0:=λ_ _ _ _ _ _ _ h=>h.elim
structure Fun (K:QA)(x qual:Str)(st:aB)(f:aE)(fd:FuncData):Prop where
 ex:∃(oc:aD)(od:QN)(kV doc pm:aD)(an:QN)(cdv ct:aD)(osl:QJ),
  fd=br x qual (zT st) (zG st) (zq st) .none kV doc pm an cdv ct/\K.lookup f=Y ⟨oc,od,.func fd,osl⟩/\PySem.W.codeIn K cdv qual=Z
 kp:bf K (.ref f)=Z
section
variable {P:aG}{w:aH}{K:QA}{mg:QB}{ax:aF}
def Fun.ok {x qual:Str}{st:aB}{f:aE}{fd:FuncData}{N ps:QQ}{k:Nat}{sp:Sp}(F:Fun K x qual st f fd)(S:zak N ps (zq st))(len:∀vs H Q E,sp vs H Q E->vs.length=ps.length)
  (hbody:∀(cdv:aD)(A:aU)(outer:List Env)(s:aM)(H:Hp)(vs:QR)(Q:VK)(E:XK),Room k (A.deeper (envOfC qual (zq st) s.heap.objs.size f cdv))->sp vs H Q E->
   ∃t,PSs (cxOf CX0 P w K mg ax N qual (zq st) f cdv A outer s H E).nox (zG st) t/\t {nx:=λ_ H'=>Q .non H',rt:=Q} (start N vs) H):FnOk P w K mg ax CX0 (k+1) f fd ps sp:=by
 obtain⟨oc,od,kV,doc,pm,an,cdv,ct,osl,rfl,lk,hcd⟩:=F.ex;refine zrD lk hcd S len λA outer s H vs Q E hr hsp=>?_;obtain⟨t,h,q⟩:=hbody cdv A outer s H vs Q E hr hsp;exact⟨t,h.nox,q⟩
def Fun.binds {x qual:Str}{st:aB}{f:aE}{fd:FuncData}{ps:QQ}(F:Fun K x qual st f fd)
  (h:∀(kV doc pm:aD)(an:QN)(cdv ct:aD)(us:QO),us.length=ps.length->bindArgs (br x qual (zT st) (zG st) (zq st) .none kV doc pm an cdv ct) ⟨us,[]⟩=pure (ps.zip us)):Binds K fd ps []:=by
 obtain⟨oc,od,kV,doc,pm,an,cdv,ct,osl,rfl,lk,hcd⟩:=F.ex;exact .all (h kV doc pm an cdv ct)
def zbc {x qual:Str}{st:aB}{f:aE}{oc:aD}{od an:QN}{osl:QJ}{kV doc pm cdv ct:aD}(l:K.lookup f=Y ⟨oc,od,.func (br x qual (zT st) (zG st) (zq st) .none kV doc pm an cdv ct),osl⟩)
  (c:PySem.W.codeIn K cdv qual=Z) (k:bf K (.ref f)=Z):Fun K x qual st f (br x qual (zT st) (zG st) (zq st) .none kV doc pm an cdv ct):=⟨⟨oc,od,kV,doc,pm,an,cdv,ct,osl,O,l,c⟩,k⟩
end
def _root_.Jy:=@Nat.lt_of_le_of_lt
def zrU (hr:Room k A):A.units+1 < bn:=Jy (Nat.add_le_add_left (by decide:1<=64) _) hr.units
def zc7 {n:Nat}(h:n<=1000):n < aQ:=Jy h ()
section
variable {X:Cx}
def pv (i:Nat){x:Str}{pos:Pos}(hN:X.N[i]? =Y x:=by rfl)(hv:Vis X.env.scope x:=by first | exact Or.inl rfl | exact Or.inr (Or.inl rfl) | exact Or.inr (Or.inr rfl))(hd:(x==("__debug__" :Str))=G:=by decide)
  (hcd:(x==("__classdict__" :Str))=G:=by decide):PE X (.Name x pos) (tVar i):=ztk hN hv hd hcd
end
def Same (H H':Hp):Prop:=∀b o,H b=Y o->H' b=Y o
theorem Same.refl (H:Hp):Same H H:=λ_ _ h=>h
theorem Same.trans (a:Same H H1)(b:Same H1 H2):Same H H2:=λc o h=>b c o (a c o h)
theorem Same.free (e:Same H H'){l:aE}(h:H' l=Option.none):H l=Option.none:=by
 cases q:H l with
 | none=>rfl
 | some o=>rw[e l o q] at h;cases h
section
variable {κ:Type} [DecidableEq κ]
def valV (kvs:List (κ ×V))(k:κ):Option V:=(kvs.find? λkv=>decide (kv.1=k)).map (·.2)
def putK (kvs:List (κ ×V))(k:κ)(v:V):List (κ ×V):=
 if (kvs.any λkv=>decide (kv.1=k))=Z then kvs.map (λkv=>if kv.1=k then(kv.1,v) else kv) else kvs++ [(k,v)]
def _root_.Nm:=@List.find?_cons
theorem zdS {p:κ ×V}{r:List (κ ×V)}{k:κ}(e:p.1=k):valV (p::r) k=Y p.2:=by simp[valV,Nm,e]
theorem zf1 {p:κ ×V}{r:List (κ ×V)}{k:κ}(e:¬p.1=k):valV (p::r) k=valV r k:=by simp[valV,Nm,e]
theorem zfx (k:κ):∀kvs:List (κ ×V),(kvs.any λkv=>decide (kv.1=k))=(valV kvs k).isSome
 | []=>rfl
 | p::r=>by
  rw[List.any_cons];by_cases e:p.1=k
  ·simp only[zdS e,aw e,Bool.true_or,Option.isSome_some]
  ·rw[zf1 e,Jc e,Bool.false_or];exact zfx k r
def _root_.Nn:=@List.length_nil
def zeM (kvs:List (κ ×V))(k:κ)(v:V):(putK kvs k v).length<=kvs.length+1:=by
 unfold putK;split
 ·rw[JI];lia
 ·rw[JF,JM,Nn];lia
theorem znz {kvs:List (κ ×V)}{k:κ}(v:V)(h:valV kvs k=U):putK kvs k v=kvs++ [(k,v)]:=by unfold putK;rw[zfx,h];exact au ()
theorem RelO.isSome_eq (r:RelO o u):o.isSome=u.isSome:=by
 cases o with
 | none=>cases u with
  | none=>rfl
  | some _=>exact(show False from r).elim
 | some _=>cases u with
  | none=>exact(show False from r).elim
  | some _=>rfl
theorem KV.val (r:KV kvs vs)(k:κ):RelO (valV kvs k) (valueAt vs k):=by
 unfold KV at r
 induction r with
 | nil=>exact True.intro
 | @cons p q ps qs h t ih=>
  obtain⟨h1,h2⟩:=h;by_cases e:p.1=k
  ·have e':q.1=k:=h1.symm.trans e;have b:valueAt (q::qs) k=Y q.2:=by simp[valueAt,Nm,e']
   rw[zdS e,b];exact h2
  ·have e':¬q.1=k:=λz=>e (h1.trans z);have b:valueAt (q::qs) k=valueAt qs k:=by simp[valueAt,Nm,e']
   rw[zf1 e,b];exact ih
theorem KV.any (r:KV kvs vs)(k:κ):(kvs.any λkv=>decide (kv.1=k))=vs.any λkv=>decide (kv.1=k):=by
 unfold KV at r
 induction r with
 | nil=>rfl
 | cons h t ih=>rw[List.any_cons,List.any_cons,ih,h.1]
def KV.repl (r:KV kvs vs)(k:κ)(ry:RelV y u):
  KV (kvs.map λkv=>if kv.1=k then(kv.1,y) else kv) (vs.map λkv=>if kv.1=k then(kv.1,u) else kv):=by
 unfold KV at r ⊢
 induction r with
 | nil=>exact .nil
 | @cons p q ps qs h t ih=>
  rw[JX,JX];refine .cons ?_ ih;obtain⟨h1,h2⟩:=h;by_cases e:p.1=k
  ·rw[av e,av (h1.symm.trans e)];exact⟨h1,ry⟩
  ·rw[au e,au (λz=>e (h1.trans z))];exact⟨h1,h2⟩
def KV.put (r:KV kvs vs)(k:κ)(ry:RelV y u):KV (putK kvs k y) (stored vs k u):=by
 unfold putK stored;rw[r.any k];by_cases e:(vs.any λkv=>decide (kv.1=k))=Z
 ·rw[av e,av e];exact r.repl k ry
 ·rw[au e,au e];exact Paired.snoc r ⟨O,ry⟩
theorem KV.length (r:KV kvs vs):kvs.length=vs.length:=Paired.length r
end
def ziM (r:RelV (kV k) u):(zad P w).is k u=Z:=by
 cases k with
 | inl i=>obtain⟨t,e⟩:=(show∃t,u=Value.int i t from r);subst e;exact zjG P w i t
 | inr x=>obtain⟨t,e⟩:=(show∃t,u=Value.str x t from r);subst e;exact zi1 P w x t
theorem zgT:∀{ks:List Key}{us:QO},Vals (ks.map kV) us->ItemsAre (zad P w) ks us
 | [],_,r=>by rw[List.map_nil] at r;cases r;exact .nil
 | k::ks,_,r=>by
  rw[JX] at r;cases r with
  | cons h t=>exact .cons (ziM h) (zgT t)
abbrev KT (H:Hp):List (List Key ×V)->List (List Key ×aE ×aD)->Prop:=Paired λp q=>p.1=q.1/\H q.2.1=Y (.tup (p.1.map kV))/\RelV p.2 q.2.2
theorem KT.val (r:KT H kvs xs)(k:List Key):RelO (valV kvs k) ((atKey xs k).map (·.2)):=by
 induction r with
 | nil=>exact True.intro
 | @cons p q ps qs h t ih=>
  obtain⟨h1,_,h2⟩:=h;by_cases e:p.1=k
  ·have e':q.1=k:=h1.symm.trans e;have b:atKey (q::qs) k=Y q.2:=by simp[atKey,Nm,e']
   rw[zdS e,b];exact h2
  ·have e':¬q.1=k:=λz=>e (h1.trans z);have b:atKey (q::qs) k=atKey qs k:=by simp[atKey,Nm,e']
   rw[zf1 e,b];exact ih
def KT.repl (r:KT H kvs xs)(k:List Key)(ry:RelV y u):
  KT H (kvs.map λkv=>if kv.1=k then(kv.1,y) else kv) (xs.map (putAt k u)):=by
 induction r with
 | nil=>exact .nil
 | @cons p q ps qs h t ih=>
  rw[JX,JX];refine .cons ?_ ih;obtain⟨h1,h2,h3⟩:=h;unfold putAt;by_cases e:p.1=k
  ·rw[av e,av (h1.symm.trans e)];exact⟨h1,h2,ry⟩
  ·rw[au e,au (λz=>e (h1.trans z))];exact⟨h1,h2,h3⟩
def KT.put (r:KT H kvs xs)(k:List Key){b:aE}(hb:H b=Y (.tup (k.map kV)))(ry:RelV y u):
  KT H (putK kvs k y) (storedH xs k b u):=by
 have e:(kvs.any λkv=>decide (kv.1=k))=(atKey xs k).isSome:=by rw[zfx,(r.val k).isSome_eq,Option.isSome_map]
 unfold putK storedH;rw[e];by_cases q:(atKey xs k).isSome=Z
 ·rw[av q,av q];exact r.repl k ry
 ·rw[au q,au q];exact Paired.snoc r ⟨O,hb,ry⟩
def KT.keeps {H':Hp}(r:KT H kvs xs)(ht:∀b ys,H b=Y (.tup ys)->H' b=Y (.tup ys)):KT H' kvs xs:=
 Paired.mapP r λ_ _ z=>⟨z.1,ht _ _ z.2.1,z.2.2⟩
section
variable {P:aG}{w:aH}{H:Hp}{h:aF}{a:aE}
def zrL (ok:HOk P w H h)(e:Rd H a u):zB P w H h a u:=e.ok ok
def ziU {kvs:QG}(ok:HOk P w H h)(e:Rd H a (.dK kvs)):kvs.length<=aQ/\(a==sysModules)=G/\∃vs,KV kvs vs/\h.DictOf (zad P w) a vs:=
 show zB P w H h a (.dK kvs) from zrL ok e
def zub {kvs:QG}(ok:HOk P w H h)(e:H a=Y (.dK kvs)):kvs.length<=aQ/\(a==sysModules)=G/\∃vs,KV kvs vs/\h.DictOf (zad P w) a vs:=ziU ok (.inl e)
def zgq {ks:List Key}(ok:HOk P w H h)(e:H a=Y (.tup (ks.map kV))):(tupleKind (zad P w)).is h ks a:=by obtain⟨_,its,r,o,h1,h2,n,h3⟩:=(show zB P w H h a (.tup (ks.map kV)) from ok a _ e);exact⟨o,its.toArray,n,h1,h2,h3,by simpa using zgT r⟩
def zji {kvs:List (List Key ×V)}(ok:HOk P w H h)(e:Rd H a (.dT kvs)):kvs.length<=aQ/\(a==sysModules)=G/\
  ∃xs,KT H kvs xs/\h.DictOfH (tupleKind (zad P w)) a xs:=by
 obtain⟨z,y,xs,r,o,es,ep,h1,h2,h3,h4,h5⟩:=(show zB P w H h a (.dT kvs) from zrL ok e);refine⟨z,y,xs,r,o,es,ep,h1,h2,h3,h4,λx hx=>?_,h5⟩;have all:∀{l:List (List Key ×V)}{m:List (List Key ×aE ×aD)},KT H l m->∀x∈m,(tupleKind (zad P w)).is h x.1 x.2.1:=by
  intro l m q
  induction q with
  | nil=>intro x hx;exact nomatch hx
  | @cons p q ps qs hq t ih=>
   intro x hx;rcases JJ.mp hx with e | hx
   ·subst e;exact zgq ok (by rw[<-hq.1];exact hq.2.1)
   ·exact ih x hx
 exact all r x hx
def zt1 {kvs:List (List Key ×V)}(ok:HOk P w H h)(e:H a=Y (.dT kvs)):kvs.length<=aQ/\(a==sysModules)=G/\
  ∃xs,KT H kvs xs/\h.DictOfH (tupleKind (zad P w)) a xs:=zji ok (.inl e)
end
def DGet (H:Hp)(a:aE)(y:V)(r:Option V):Prop:=
 (∃kvs k,Rd H a (.dK kvs)/\y=kV k/\r=valV kvs k)\/∃kvs k b,Rd H a (.dT kvs)/\y=.ref b/\H b=Y (.tup (k.map kV))/\r=valV kvs k
def DPut (H:Hp)(a:aE)(y v:V)(H':Hp):Prop:=
 (∃kvs k,H a=Y (.dK kvs)/\y=kV k/\kvs.length < aQ/\H'=upd H a (.dK (putK kvs k v)))\/
 ∃kvs k b,H a=Y (.dT kvs)/\y=.ref b/\H b=Y (.tup (k.map kV))/\kvs.length < aQ/\H'=upd H a (.dT (putK kvs k v))
theorem DGet.k {H:Hp}{a:aE}{kvs:QG}{k:Key}(e:H a=Y (.dK kvs)):DGet H a (kV k) (valV kvs k):=.inl ⟨kvs,k,.inl e,O,O⟩
theorem DPut.k {H:Hp}{a:aE}{kvs:QG}{k:Key}{v:V}(e:H a=Y (.dK kvs))(hl:kvs.length < aQ):DPut H a (kV k) v (upd H a (.dK (putK kvs k v))):=.inl ⟨kvs,k,e,O,hl,O⟩
section
variable {X:Cx}{bH:QE}{σ:St}{H:Hp}{s:aM}{a:aE}{y v:V}{u r:aD}{o:Option V}{A:aU}{E:QC}
def Inv.big (I:Inv X bH σ H s):sysModules < s.heap.objs.size:=by have h:aR < s.heap.objs.size:=(I.mod.glob.keeps I.bk).lt;exact Nat.lt_trans () h
def zmY {Q:QC}(hu:A.units+1 < bn)(I:Inv X bH σ H s)(g:DGet H a y (Y v))(ry:RelV y u)(h:∀w' s',Inv X bH σ H s'->RelV v w'->Q w' s'):
  aW (aY X.prog X.w) A (getItem (.ref a) u) Q E s:=by
 rcases g with ⟨kvs,k,e,ey,l⟩ | ⟨kvs,k,b,e,ey,eb,l⟩
 ·subst ey;obtain⟨z,hd,vs,rel,dd⟩:=ziU I.hok e;obtain⟨w',hw,rw'⟩:=RelO.some_of (v:=v) (o:=valueAt vs k) (by rw[l];exact rel.val k);exact wpAny_getItem_of (ziM ry) dd.mapOf hw (h w' _ (I.tok _) rw')
 ·subst ey;cases (show u=aP b from ry);obtain⟨z,hd,xs,rel,dd⟩:=zji I.hok e;obtain⟨w',hw,rw'⟩:=RelO.some_of (v:=v) (o:=(atKey xs k).map (·.2)) (by rw[l];exact rel.val k);obtain⟨p,hp,hp2⟩:=Option.map_eq_some_iff.mp hw;refine wpAny_getItem_heap (tupleKind_room_in1 hu) (zgq I.hok eb) dd hp ?_;rw[hp2];exact h w' _ (I.tok _) rw'
def d_in {Q:QC}(hu:A.units+1 < bn)(I:Inv X bH σ H s)(g:DGet H a y o)(ry:RelV y u)(h:∀s',Inv X bH σ H s'->Q (.bool o.isSome) s'):
  aW (aY X.prog X.w) A (a9 .In u (.ref a)) Q E s:=by
 rcases g with ⟨kvs,k,e,ey,l⟩ | ⟨kvs,k,b,e,ey,eb,l⟩
 ·subst ey;obtain⟨z,hd,vs,rel,dd⟩:=ziU I.hok e;refine wpAny_in_of (ziM ry) hd dd.mapOf ?_;rw[<-(rel.val k).isSome_eq,<-l];exact h _ (I.tok _)
 ·subst ey;cases (show u=aP b from ry);obtain⟨z,hd,xs,rel,dd⟩:=zji I.hok e;refine wpAny_in_heap (tupleKind_room_in1 hu) (zgq I.hok eb) hd dd ?_;have q:=(rel.val k).isSome_eq;rw[Option.isSome_map] at q;rw[<-q,<-l];exact h _ (I.tok _)
def zpS {Q:QC}(hu:A.units+1 < bn)(I:Inv X bH σ H s)(g:DGet H a y o)(ry:RelV y u)(h:∀s',Inv X bH σ H s'->Q (.bool (!o.isSome)) s'):
  aW (aY X.prog X.w) A (a9 .NotIn u (.ref a)) Q E s:=by
 rcases g with ⟨kvs,k,e,ey,l⟩ | ⟨kvs,k,b,e,ey,eb,l⟩
 ·subst ey;obtain⟨z,hd,vs,rel,dd⟩:=ziU I.hok e;refine wpAny_notIn_of (ziM ry) hd dd.mapOf ?_;rw[<-(rel.val k).isSome_eq,<-l];exact h _ (I.tok _)
 ·subst ey;cases (show u=aP b from ry);obtain⟨z,hd,xs,rel,dd⟩:=zji I.hok e;refine wpAny_notIn_heap (tupleKind_room_in1 hu) (zgq I.hok eb) hd dd ?_;have q:=(rel.val k).isSome_eq;rw[Option.isSome_map] at q;rw[<-q,<-l];exact h _ (I.tok _)
def zdZ {t':Nat}(I:Inv X bH σ H s)(mu:Mut (H a))(hs:Heap.SameBut a s.heap h')(he:∃q,h'.get? a=Y q)(new:zB X.prog X.w (upd H a ob) h' a ob):
  Inv X bH σ (upd H a ob) {s with heap:=h',toks:=t'}:=
 I.write (x:=a) (e:=a) mu (.inl rfl) (λb q hb z=>(hs.2 b hb).trans z) he new
def zsJ {h':aF}{kvs:QG}(z:kvs.length<=aQ)(hd:(a==sysModules)=G)(rel:KV kvs vs)(dd:h'.DictOf (zad P w) a vs):
  zB P w H' h' a (.dK kvs):=⟨z,hd,vs,rel,dd⟩
def zmD {Q:QD}(hu:A.units+1 < bn)(I:Inv X bH σ H s)(g:DPut H a y v H')(ry:RelV y u)(rv:RelV v r)(h:∀s',Inv X bH σ H' s'->Q Unit.unit s'):
  aW (aY X.prog X.w) A (setItem (.ref a) u r) Q E s:=by
 rcases g with ⟨kvs,k,e,ey,l,eH⟩ | ⟨kvs,k,b,e,ey,eb,l,eH⟩
 ·subst ey eH;obtain⟨z,hd,vs,rel,dd⟩:=zub I.hok e;have hz:vs.length<=aQ:=by rw[<-rel.length];exact z
  have hl:(putK kvs k v).length<=aQ:=by have:=zeM kvs k v;lia
  refine wpAny_setItem_pairs (hsz:=hz) (ziM ry) dd λh' dd' hs=>h _ ?_;have he:∃q,h'.get? a=Y q:=let ⟨q,_,_,hq,_⟩:=dd';⟨q,hq⟩;exact zdZ I (by rw[e];exact True.intro) hs he (zsJ hl hd (rel.put k rv) dd')
 ·subst ey eH;cases (show u=aP b from ry);obtain⟨z,hd,xs,rel,dd⟩:=zt1 I.hok e;have hz:xs.length<=aQ:=by rw[<-Paired.length rel];exact z
  have hl:(putK kvs k v).length<=aQ:=by have:=zeM kvs k v;lia
  refine wpAny_setItem_heap (hsz:=hz) (tupleKind_room_in1 hu) (zgq I.hok eb) dd λh' dd' hs=>h _ ?_;obtain⟨q,es,ep,hq,h2,h3,h4,_,h5⟩:=dd';refine zdZ I (by rw[e];exact True.intro) hs ⟨q,hq⟩ ⟨hl,hd,_,(rel.put k eb rv).keeps λc ys ec=>?_,q,es,ep,hq,h2,h3,h4,h5⟩;rw[zd (zL ec e (λz=>nomatch z))];exact ec
variable {kvs:QG}{k:Key}
end
def NoSl (i:aX):Prop:=∀ov iv,subscripted i G ov iv=operate [ov,iv] (getItem ov iv)
def zlq {pos:Pos}{T id:String}
  (hl:typeLookup (.type T) "__getitem__" =pure (Y (.builtin id))) (hs:NoSl slice)
  (h:aW (aY prog w) A (aZ value env) (λo s₁=>aW (aY prog w) A (aZ slice env) (λi s₂=>s₂.TypeIs o T/\aW (aY prog w) A (getItem o i) Q E s₂) E s₁) E s):
  aW (aY prog w) A (aZ (.Subscript value slice pos) env) Q E s:=by
 refine Subscript_ (a8 h (λo s₁ h₁=>a8 h₁ (λi s₂ h₂=>?_) λ_ _ x=>x) λ_ _ x=>x);obtain⟨hT,h₂⟩:=h₂;unfold subscriptTail;refine Ja ?_;rw[getitemInPython_of_ne hT.not_modules];refine Ja (wpAny_specialOf hT hl ?_);have fin:aW (aY prog w) A (subscripted slice G o i) (λr s₃=>aW (aY prog w) A (letTemporaryGo value o r >>=λ_=>pure r) Q E s₃) E s₂:=by rw[hs o i];exact wpAny_operating (a8 h₂ (λr s₃ h₃=>Ja (wpAny_letTemporaryGo (bc h₃))) λ_ _ x=>x)
 first
  | exact bc (Ja fin)
  | exact Ja (bc (Ja fin))
  | exact Ja fin
def zjn (I:Inv X bH σ H s)(g:DGet H a y o):s.TypeIs (.ref a) "dict" :=by
 rcases g with ⟨kvs,k,e,_,_⟩ | ⟨kvs,k,b,e,_,_,_⟩
 ·obtain⟨_,_,vs,_,dd⟩:=ziU I.hok e;exact dd.typeIs
 ·obtain⟨_,_,xs,_,dd⟩:=zji I.hok e;exact dd.typeIs
def ztX (td ty:TE):TE:=fun σ H Q=>td σ H λx H1=>ty σ H1 λy H2=>∃a v,x=.ref a/\DGet H2 a y (Y v)/\Q v H2
def tDIn (ty td:TE):TE:=fun σ H Q=>ty σ H λy H1=>td σ H1 λx H2=>∃a o,x=.ref a/\DGet H2 a y o/\Q (.bl o.isSome) H2
def zqY (ty td:TE):TE:=fun σ H Q=>ty σ H λy H1=>td σ H1 λx H2=>∃a o,x=.ref a/\DGet H2 a y o/\Q (.bl (!o.isSome)) H2
def zuw (td ty tv:TE):TS:=λD σ H=>tv σ H λv H1=>td σ H1 λx H2=>ty σ H2 λy H3=>∃a H4,x=.ref a/\DPut H3 a y v H4/\D.nx σ H4
section
variable {X:Cx}{o i e value:aX}{pos pos' tpos:Pos}{td ty tv:TE}
def zlO (hu:X.A.units+1 < bn)(ho:PE X o td)(hi:PE X i ty)(hs:NoSl i):PE X (.Subscript o i pos) (ztX td ty):=by intro bH s σ H Q I h;refine zlq PySem.F.slot_dict_getitem.lookup hs (thn (ho bH s σ H _ I h) λu s1 ⟨x,H1,I1,rx,q1⟩=>thn (hi bH s1 σ H1 _ I1 q1) λiv s2 ⟨y,H2,I2,ry,a,v,ex,g,q2⟩=>?_);subst ex;obtain rfl:u=aP a:=rx;exact⟨zjn I2 g,zmY hu I2 g ry λw' s3 I3 rw'=>⟨v,H2,I3,rw',q2⟩⟩
def znx (hu:X.A.units+1 < bn)(hi:PE X i ty)(ho:PE X o td):PC X .In i o (tDIn ty td):=by intro bH s σ H Q I h;refine thn (hi bH s σ H _ I h) λiv s1 ⟨y,H1,I1,ry,q1⟩=>thn (ho bH s1 σ H1 _ I1 q1) λu s2 ⟨x,H2,I2,rx,a,ov,ex,g,q2⟩=>?_;subst ex;obtain rfl:u=aP a:=rx;exact d_in hu I2 g ry λs3 I3=>⟨.bl ov.isSome,H2,I3,O,q2⟩
def zhp (hu:X.A.units+1 < bn)(hi:PE X i ty)(ho:PE X o td):PC X .NotIn i o (zqY ty td):=by intro bH s σ H Q I h;refine thn (hi bH s σ H _ I h) λiv s1 ⟨y,H1,I1,ry,q1⟩=>thn (ho bH s1 σ H1 _ I1 q1) λu s2 ⟨x,H2,I2,rx,a,ov,ex,g,q2⟩=>?_;subst ex;obtain rfl:u=aP a:=rx;exact zpS hu I2 g ry λs3 I3=>⟨.bl (!ov.isSome),H2,I3,O,q2⟩
def zqM (hu:X.A.units+1 < bn)(ho:PE X o td)(hi:PE X i ty)(hv:PE X value tv)(hs:swapsWith value (Y (.Subscript o i pos')) pos.line X.env=pure G):
  PS X (.Assign [.Subscript o i pos'] value pos) (zuw td ty tv):=by
 intro bH s σ H D I h;refine wpAny_Assign_Subscript (thn (hv bH s σ H _ I h) λr s1 ⟨v,H1,I1,rv,q1⟩=>thn (ho bH s1 σ H1 _ I1 q1) λu s2 ⟨x,H2,I2,rx,q2⟩=>thn (hi bH s2 σ H2 _ I2 q2) λiv s3 ⟨y,H3,I3,ry,a,H4,ex,g,q3⟩=>?_) hs;subst ex;obtain rfl:u=aP a:=rx;exact zmD hu I3 g ry rv λs4 I4=>⟨σ,H4,I4,q3⟩
end
def znQ (h:aF)(hb:sysModules < h.objs.size):zB P w H (h.push {cls:=.type "dict",data:=.dict #[]}) h.objs.size (.dK []):=
 ⟨JN _,beq_eq_false_iff_ne.mpr (aV (Jl hb)),[],.nil,Heap.DictOf.new h⟩
def zkw:TE:=λ_ H Q=>∀p,H p=U->Q (.ref p) (upd H p (.dK []))
section
variable {X:Cx}{pos:Pos}
def zjJ:PE X (.Dict [] [] pos) zkw:=λbH s σ H Q I h=>
 wpAny_Dict_empty ⟨.ref s.heap.objs.size,_,I.laid (a:=s.heap.objs.size) (o:=.dK []) (t':=s.toks) (λ_ _ q=>JE _ q) (Jb _) (znQ s.heap I.big),O,h _ (I.hok.fresh (Jb _))⟩
end
def znG:List (TE ×TE)->St->Hp->(List (V ×V)->Hp->Prop)->Prop
 | [],_,H,Q=>Q [] H
 | (tk,tv)::r,σ,H,Q=>tk σ H λx H1=>tv σ H1 λy H2=>znG r σ H2 λps H3=>Q ((x,y)::ps) H3
abbrev VV:List (V ×V)->List (aD ×aD)->Prop:=Paired λp q=>RelV p.1 q.1/\RelV p.2 q.2
def PPs (X:Cx)(pos:Pos)(keys:List (Option aX))(values:List aX)(trs:List (TE ×TE)):Prop:=
 ∀(bH:QE)(s:aM)(σ:St)(H:Hp)(Q:List (V ×V)->Hp->Prop),Inv X bH σ H s->znG trs σ H Q->
  aW (aY X.prog X.w) X.A (evalPairs (pairTrees keys values X.env pos)) (λvs s'=>∃ps H',Inv X bH σ H' s'/\VV ps vs/\Q ps H') X.xe s
structure M1 (X:Cx)(o:aX)(m:Str)(apos:Pos)(e:aX)(cpos:Pos):Prop where
 ax:attributeBase o m X.env (aZ o X.env)=aZ o X.env
 few:((a6 cpos (a7 [e] X.env)).all (λx=>!x.1) && (backToKw cpos (keywordEach [] X.env)).all (λx=>x.1.isSome)
  && decide (([e]:List aX).length+([]:List Keyword).length+(if ([]:List Keyword).isEmpty then 0 else 1) < 30))=Z
 line:(apos.endLine==cpos.line)=Z
 trees:a6 cpos (a7 [e] X.env)=[(G,aZ e X.env)]
structure M2 (X:Cx)(o:aX)(m:Str)(apos:Pos)(e f:aX)(cpos:Pos):Prop where
 ax:attributeBase o m X.env (aZ o X.env)=aZ o X.env
 few:((a6 cpos (a7 [e,f] X.env)).all (λx=>!x.1) && (backToKw cpos (keywordEach [] X.env)).all (λx=>x.1.isSome)
  && decide (([e,f]:List aX).length+([]:List Keyword).length+(if ([]:List Keyword).isEmpty then 0 else 1) < 30))=Z
 line:(apos.endLine==cpos.line)=Z
 trees:a6 cpos (a7 [e,f] X.env)=[(G,aZ e X.env),(G,aZ f X.env)]
section
variable {X:Cx}{bH:QE}{σ:St}{H:Hp}{s:aM}{a:aE}{y d:V}{u r:aD}{o:Option V}{A:aU}{E:QC}
end
section
variable {X:Cx}{o e f:aX}{apos cpos:Pos}{td ty tx:TE}
variable {bH:QE}{σ:St}{H:Hp}{s:aM}{a:aE}{kvs:QG}{A:aU}{E:QC}
variable {y:V}{u:aD}
end
end L2
namespace Px
open PySem
def Tb (h:aF)(e:aE)(cls:aD)(od:QN)(T:aE)(fl:aD):Prop:=
 ∃oe vs oT ts,h.get? e=Y oe/\oe.cls=cls/\oe.dict=od/\oe.data=.fields vs/\vs[1]? =Y (.ref T)/\T≠e/\h.get? T=Y oT/\oT.data=.fields ts/\ts[3]? =Y fl
structure Chg (fs:QP)(e T:aE)(h h':aF):Prop where
 size:h.objs.size<=h'.objs.size
 keep:∀b o,h.get? b=Y o->b∉fs->b≠e->b≠T->h'.get? b=Y o
 slot:∀b o,h.get? b=Y o->b∈fs->b≠e->b≠T->∃sl,h'.get? b=Y {o with slots:=sl}
def zsw (o:Obj)(f:Array aD->Array aD):(bC f o).cls=o.cls:=Obj.cls_mapFields _ _
def zpY (o:Obj)(f:Array aD->Array aD):(bC f o).dict=o.dict:=by obtain⟨c,d,dt,sl⟩:=o;cases dt <;> rfl
section
variable {M:Model}{A:aU}{E:QC}{s:aM}{ax:aF}{env:Env}{outer:List Env}{L e T:aE}
def _root_.Nl:=@PySem.Heap.size_after_update
def entry {oe:Obj}{vs:Array aD}{Q:QD}(hfr:A.frames=Y (env::outer))
  (hl:s.heap.FunFrames ax (env::outer)) (hf:env.frame=Y L)
  (he:s.heap.get? e=Y oe) (hd:oe.data=.fields vs) (hsz:1 < vs.size)
  (h:∀h' T',s.heap.objs.size<=T'->Tb h' e oe.cls oe.dict T' (rawInt L)->Chg ((env::outer).filterMap (·.frame)) e T' s.heap h'->Q Unit.unit {s with heap:=h'}):
  aW M A (do
   let a<-frameOf env
   let pl<-entryPlaceOf L hadNext
   let b<-EntryCells.newEntry head a .none (rawInt L) .none pl
   setField (.ref e) 1 b) Q E s:=by
 have nfr:e∉(env::outer).filterMap (·.frame):=λhm=>by obtain⟨_,o,ho,hnf⟩:=hl.mem hm;have z:oe=o:=JP (he.symm.trans ho);exact hnf vs (by rw[<-z];exact hd)
 refine Ja (wpAny_frameOf_fun hfr hl hf λg x=>?_);refine Ja (wpAny_entryPlaceOf λpl hp=>?_);unfold EntryCells.newEntry newFields;refine Ja (bB ?_ (hp.sizeOk5 _ _ _ _ _));have ge:g.get? e=Y oe:=(x.2.1 e nfr).trans he;generalize hN:({cls:=.type "traceback",dict:=U,data:=.fields ([head,.ref L,.none,rawInt L,.none]++(if pl.isEmpty then List.replicate 6 aO else pl)).toArray}:Obj)=N;have nfN:N.isFreed=G:=by rw[<-hN];rfl
 have dN:∃ts,N.data=.fields ts/\ts[3]? =Y (rawInt L):=by rw[<-hN];exact⟨B,by first | (simp;done) | (rcases hp with rfl | ⟨_,_,_,_,_,_,_,rfl⟩ <;> simp)⟩
 have pe:(g.push N).get? e=Y oe:=JE N ge;have pT:(g.push N).get? g.objs.size=Y N:=JL g nfN;have Te:g.objs.size≠e:=aV (Jl (JK ge));refine wpAny_setField pe hd hsz (h _ g.objs.size (by rw[x.1];exact Jb _) ?_ ?_)
 ·obtain⟨ts,d1,d2⟩:=dN;have dd:=Obj.data_mapFields hd (·.setIfInBounds 1 (aP g.objs.size));refine⟨_,_,N,ts,JZ _ pe (Obj.isFreed_of_fields dd),zsw _ _,zpY _ _,dd,by simp[hsz],Te,?_,d1,d2⟩;exact(J1 _ _ (aV Te)).trans pT
 ·refine⟨?_,λb o q1 q2 q3 q4=>?_,λb o q1 q2 q3 q4=>?_⟩
  ·rw[Nl,Ng,x.1];exact Nat.le_succ _
  ·exact(J1 _ _ (aV q3)).trans (JE N ((x.2.1 b q2).trans q1))
  ·obtain⟨sl,q⟩:=x.2.2 b o q1;exact⟨sl,(J1 _ _ (aV q3)).trans (JE N q)⟩
def _root_.Nh:=@Array.getElem?_eq_some_iff
def zui {oe:Obj}{vs:Array aD}{Q:QD}(hfr:A.frames=Y (env::outer))(hl:s.heap.FunFrames ax (env::outer))(hf:env.frame=Y L)
  (he:s.heap.get? e=Y oe) (hd:oe.data=.fields vs) (h1:vs[1]? =Y .none)
  (h:∀h' T',s.heap.objs.size<=T'->Tb h' e oe.cls oe.dict T' (rawInt L)->Chg ((env::outer).filterMap (·.frame)) e T' s.heap h'->Q Unit.unit {s with heap:=h'}):
  aW M A (noteFrame (.ref e) env) Q E s:=by
 unfold noteFrame;simp only[hf];refine Ja (bv he hd h1 ?_);rw[au ()];exact entry hfr hl hf he hd (Nh.mp h1).1 h
def znR {Q:QD}(hfr:A.frames=Y (env::outer))(hl:s.heap.FunFrames ax (env::outer))(hf:env.frame=Y L)
  (t:Tb s.heap e cls od T .none)
  (h:∀h' T',s.heap.objs.size<=T'->Tb h' e cls od T' (rawInt L)->Chg ((env::outer).filterMap (·.frame)) e T s.heap h'->Q Unit.unit {s with heap:=h'}):
  aW M A (noteFrame (.ref e) env) Q E s:=by
 obtain⟨oe,vs,oT,ts,he,hc,ho,hd,h1,hTe,hT,hdT,h3⟩:=t;unfold noteFrame;simp only[hf];refine Ja (bv he hd h1 ?_);rw[av (show(aP T !=aO)=Z from by simp)];refine Ja (bv hT hdT h3 ?_);rw[au (show¬((aO==rawInt L)=Z) from by simp[rawInt])];refine Ja (wpAny_setField hT hdT (Nh.mp h3).1 ?_);have oth:∀b,b≠T->(s.heap.update T (bC (·.setIfInBounds 3 aO))).get? b=s.heap.get? b:=λb hb=>J1 _ _ (aV hb);have apart:∀b o,s.heap.get? b=Y o->(∀vs,o.data≠ .fields vs)->b≠T:=λb o hb hn q=>by subst q;exact hn ts (by rw[<-JP (hT.symm.trans hb)];exact hdT)
 refine entry (s:={s with heap:=s.heap.update T (bC (·.setIfInBounds 3 aO))}) hfr
  (hl.of_keeps λb o hb hn=>⟨o,(oth b (apart b o hb hn)).trans hb,O⟩) hf ((oth e (aV hTe)).trans he) hd (Nh.mp h1).1 λh' T' z1 z2 z3=>?_
 have z1':s.heap.objs.size<=T':=by rw[<-Nl s.heap T (bC (·.setIfInBounds 3 aO))];exact z1
 rw[hc,ho] at z2;refine h h' T' z1' z2 ⟨?_,λb o q1 q2 q3 q4=>?_,λb o q1 q2 q3 q4=>?_⟩
 ·rw[<-Nl s.heap T (bC (·.setIfInBounds 3 aO))];exact z3.size
 ·exact z3.keep b o ((oth b q4).trans q1) q2 q3 λq=>Jf (JK q1) (Nat.not_lt.mpr (q ▸ z1'))
 ·exact z3.slot b o ((oth b q4).trans q1) q2 q3 λq=>Jf (JK q1) (Nat.not_lt.mpr (q ▸ z1'))
def zfv {Q:QD}(t:Tb s.heap e cls od T fl)
  (h:∀h',Tb h' e cls od T .none->Chg fs e T s.heap h'->(∀b o,s.heap.get? b=Y o->b≠T->h'.get? b=Y o)->Q Unit.unit {s with heap:=h'}):aW M A (setFlight (.ref e) U) Q E s:=by
 obtain⟨oe,vs,oT,ts,he,hc,ho,hd,h1,hTe,hT,hdT,h3⟩:=t;have z3:3 < ts.size:=(Nh.mp h3).1;have oth:∀b,b≠T->(s.heap.update T (bC (·.setIfInBounds 3 ((U:QN).elim aO λf=>rawInt f)))).get? b=s.heap.get? b:=
  λb hb=>J1 _ _ (aV hb)
 unfold setFlight;refine Ja (bv he hd h1 ?_);rw[av (show(aP T !=aO)=Z from by simp)];have dd:=Obj.data_mapFields hdT (·.setIfInBounds 3 ((U:QN).elim aO λf=>rawInt f));refine wpAny_setField hT hdT z3 (h _ ⟨oe,vs,_,_,(oth e (aV hTe)).trans he,hc,ho,hd,h1,hTe,JZ _ hT (Obj.isFreed_of_fields dd),dd,by simp[z3]⟩ ?_ ?_)
 ·refine⟨?_,λb o q1 _ _ q4=>(oth b q4).trans q1,λb o q1 _ _ q4=>⟨o.slots,(oth b q4).trans q1⟩⟩;rw[Nl];exact Jb _
 ·exact λb o q1 q4=>(oth b q4).trans q1
end
structure Chg2 (fs:QP)(own:aE->Prop)(h h':aF):Prop where
 size:h.objs.size<=h'.objs.size
 keep:∀b o,h.get? b=Y o->b∉fs->¬own b->h'.get? b=Y o
 slot:∀b o,h.get? b=Y o->b∈fs->¬own b->∃sl,h'.get? b=Y {o with slots:=sl}
def Chg.two {own:aE->Prop}(c:Chg fs e T h h')(o1:own e)(o2:own T\/h.get? T=U):Chg2 fs own h h':=by
 have nT:∀b o,h.get? b=Y o->¬own b->b≠T:=λb o q n z=>by
  subst z;rcases o2 with y | y
  ·exact n y
  ·rw[y] at q;cases q
 exact⟨c.size,λb o q a n=>c.keep b o q a (λz=>n (z ▸ o1)) (nT b o q n),λb o q a n=>c.slot b o q a (λz=>n (z ▸ o1)) (nT b o q n)⟩
theorem Chg2.trans (a:Chg2 fs own h h1)(b:Chg2 fs own h1 h2):Chg2 fs own h h2:=
 ⟨Jg a.size b.size,λc o q n m=>b.keep c o (a.keep c o q n m) n m,λc o q n m=>by
  obtain⟨s1,e1⟩:=a.slot c o q n m;obtain⟨s2,e2⟩:=b.slot c _ e1 n m;exact⟨s2,e2⟩⟩
section
variable {M:Model}{A:aU}{E:QC}{s:aM}{ax:aF}{env:Env}{outer:List Env}{L e T:aE}
def zsh {oe:Obj}{vs:Array aD}{Q:QD}(hfr:A.frames=Y (env::outer))(hl:s.heap.FunFrames ax (env::outer))(hf:env.frame=Y L)
  (he:s.heap.get? e=Y oe) (hd:oe.data=.fields vs) (h1:vs[1]? =Y .none)
  (h:∀h' T',s.heap.objs.size<=T'->Tb h' e oe.cls oe.dict T' .none->Chg2 ((env::outer).filterMap (·.frame)) (· =e) s.heap h'->Q Unit.unit {s with heap:=h'}):
  aW M A (leaving env (.ref e)) Q E s:=by
 unfold leaving;refine Ja (zui hfr hl hf he hd h1 λg T' z t c=>?_);refine zfv (s:={s with heap:=g}) (fs:=(env::outer).filterMap (·.frame)) t λh' t' c' k=>h h' T' z t' ?_;have n:s.heap.get? T'=U:=JW z;refine⟨Jg c.size c'.size,λb o q a m=>?_,λb o q a m=>?_⟩
 ·have bT:b≠T':=λy=>by subst y;rw[n] at q;cases q
  exact k b o (c.keep b o q a m bT) bT
 ·have bT:b≠T':=λy=>by subst y;rw[n] at q;cases q
  obtain⟨sl,y⟩:=c.slot b o q a m bT;exact⟨sl,k b _ y bT⟩
def zsm {Q:QD}(hfr:A.frames=Y (env::outer))(hl:s.heap.FunFrames ax (env::outer))(hf:env.frame=Y L)
  (t:Tb s.heap e cls od T .none)
  (h:∀h' T',s.heap.objs.size<=T'->Tb h' e cls od T' .none->Chg2 ((env::outer).filterMap (·.frame)) (λb=>b=e\/b=T) s.heap h'->Q Unit.unit {s with heap:=h'}):
  aW M A (leaving env (.ref e)) Q E s:=by
 unfold leaving;refine Ja (znR hfr hl hf t λg T' z t1 c=>?_);refine zfv (s:={s with heap:=g}) (fs:=(env::outer).filterMap (·.frame)) t1 λh' t' c' k=>h h' T' z t' ?_;have n:s.heap.get? T'=U:=JW z;refine⟨Jg c.size c'.size,λb o q a m=>?_,λb o q a m=>?_⟩
 ·have bT:b≠T':=λy=>by subst y;rw[n] at q;cases q
  exact k b o (c.keep b o q a (λy=>m (.inl y)) λy=>m (.inr y)) bT
 ·have bT:b≠T':=λy=>by subst y;rw[n] at q;cases q
  obtain⟨sl,y⟩:=c.slot b o q a (λy=>m (.inl y)) λy=>m (.inr y);exact⟨sl,k b _ y bT⟩
def zt4 {Q:QD}(hfr:A.frames=Y (env::outer))(hl:s.heap.FunFrames ax (env::outer))(hf:env.frame=Y L)
  (t:Tb s.heap e cls od T .none)
  (h:∀h' T',s.heap.objs.size<=T'->Tb h' e cls od T' .none->Chg2 ((env::outer).filterMap (·.frame)) (λb=>b=e\/b=T) s.heap h'->Q Unit.unit {s with heap:=h'}):
  aW M A (noteFrame (.ref e) env) (λ_ s'=>aW M A (setFlight (.ref e) U) Q E s') E s:=by
 refine znR hfr hl hf t λg T' z t1 c=>?_;refine zfv (s:={s with heap:=g}) (fs:=(env::outer).filterMap (·.frame)) t1 λh' t' c' k=>h h' T' z t' ?_;have n:s.heap.get? T'=U:=JW z;refine⟨Jg c.size c'.size,λb o q a m=>?_,λb o q a m=>?_⟩
 ·have bT:b≠T':=λy=>by subst y;rw[n] at q;cases q
  exact k b o (c.keep b o q a (λy=>m (.inl y)) λy=>m (.inr y)) bT
 ·have bT:b≠T':=λy=>by subst y;rw[n] at q;cases q
  obtain⟨sl,y⟩:=c.slot b o q a (λy=>m (.inl y)) λy=>m (.inr y);exact⟨sl,k b _ y bT⟩
end
end Px
namespace Px
open PySem PySem.W PySem.Builtin PySem.Builtin.ObjectAttr
abbrev bmV:List aD:=[.type "ValueError",.type "Exception",.type "BaseException",.type "object"]
def xIn (K:Frag)(C:aE):Bool:=match K.lookup C with
 | some ⟨.type "type",_,.cls cd,sl⟩=>(match cd.mro,sl.toList with
  | .ref D::bm,[_,_,_,_,Y (.builtin n),_]=>D==C && n== "ValueError.__new__" && !cd.hasDel && tailIn K bmV bm
  | _,_=>G)
 | _=>G
def zoW {K:Frag}{h:aF}(X:K.In h)(q:xIn K C=Z):∃nm qn N bs bm hd sn sub ab col dd k0 k1 k2 k3 k5,
  h.get? C=Y (excClassObj nm qn C N bs bm hd sn sub ab col dd k0 k1 k2 k3 k5 "ValueError.__new__")/\OwnTail h bmV bm:=by
 unfold xIn at q;split at q
 ·rename_i dd cd sl ho;split at q
  ·rename_i D bm k0 k1 k2 k3 n k5 hm hs;simp only[J8,beq_iff_eq,Bool.not_eq_true'] at q;obtain⟨⟨⟨y1,y2⟩,y3⟩,y4⟩:=q;subst y1;subst y2;obtain⟨nm,bs,mro,ns,qn,hd,sn,sub,ab,col,del⟩:=cd;dsimp only at hm y3;subst hm;subst y3;have e:sl= #[k0,k1,k2,k3,Y (.builtin "ValueError.__new__"),k5]:=by obtain⟨l⟩:=sl;exact congrArg Array.mk hs
   subst e;exact⟨nm,qn,ns,bs,bm,hd,sn,sub,ab,col,dd,k0,k1,k2,k3,k5,X _ _ ho,tail_of_in X y4⟩
  ·cases q
 ·cases q
abbrev zj8 (C t:aE):Obj:={cls:=.ref C,data:=.fields #[.ref t,.none,.none,.none,.bool G,.none]}
abbrev zsr (vs:QO):Obj:={cls:=.type "tuple",data:=.seq vs.toArray}
abbrev zaO (h:aF)(C:aE)(vs:QO):aF:=(h.push (zsr vs)).push (zj8 C h.objs.size)
def zbT {h:aF}{b:aE}{o:Obj}(e:h.get? b=Y o):(zaO h C vs).get? b=Y o:=
 JE _ (JE _ e)
def zgr:(zaO h C vs).get? (h.objs.size+1)=Y (zj8 C h.objs.size):=
 Heap.get?_push_at (by rw[Ng]) rfl
section
variable {prog:aG}{w:aH}{A:aU}{E:QC}{h:aF}{g:Array GenState}{d:Drawn}{t:Nat}{os:OsState}{K:Frag}{C fI:aE}{vs:QO}
def zmE {Q:Fin->aM->Prop}(X:K.In h)(q:xIn K C=Z)(hi:findIn K (.ref C) "__init__" =Y (Y (.ref fI))) (hf:typeIn K (.ref fI)=Y (.type "function"))
  (hq:aW (aY prog w) A (call (.ref fI) (.ref (h.objs.size+1)::vs)) (λr s'=>r=.none/\Q (.done (.ret (.ref (h.objs.size+1)))) s') E ⟨zaO h C vs,g,d,t,os⟩) (hz:vs.length<=aQ):
  aW (aY prog w) A (Builtin.«type.__call__» ⟨.ref C::vs,[]⟩) Q E ⟨h,g,d,t,os⟩:=by
 obtain⟨nm,qn,N,bs,bm,hd,sn,sub,ab,col,dd,k0,k1,k2,k3,k5,cO,tl⟩:=zoW X q;have FV:=PySem.F.excBase_ValueError;have inV:bmV.contains (.type "ValueError")=Z:=by decide
 repeat (first | with_reducible refine wpAny_loadPart_at cO ?_ | with_reducible refine wpAny_madeBy_exc cO ?_ | wp_step)
 refine codeAny_call_builtin_code (Code.quiet_builtin _ FV.quiet) (wpAny_check_new_subU FV inV tl cO ?_);refine codeAny_exc_new_subU FV inV FV tl cO ?_ hz;show aW _ _ _ _ _ _;have cO1:(zaO h C vs).get? C=_:=zbT cO;have X1:K.In (zaO h C vs):=X.keeps λb o e=>zbT e;have at1:(zaO h C vs).get? (h.objs.size+1)=Y (zj8 C h.objs.size):=zgr;have cC:(aP C::bm).contains (.ref C)=Z:=by simp
 unfold isInstance
 repeat (first | with_reducible refine wpAny_loadPart_at at1 ?_ | (with_reducible refine wpAny_isSubtype_exc cO1 ?_;rw[cC]) | wp_step)
 show aW _ _ (typeLookup (.ref C) _) _ _ _;refine(looks_findIn X1 hi).here (s:=⟨zaO h C vs,g,d,t,os⟩) ?_;refine bb (Ja ((bind_fn X1 _ hf).here (s:=⟨zaO h C vs,g,d,t,os⟩) ?_));refine Ja (a8 hq (λr s' hr=>?_) λ_ _ x=>x);obtain⟨e1,hQ⟩:=hr;subst e1
 wp_walk
 exact hQ
def zmh {Q:QC}(X:K.In h)(q:xIn K C=Z)(hi:findIn K (.ref C) "__init__" =Y (Y (.ref fI))) (hf:typeIn K (.ref fI)=Y (.type "function"))
  (hq:aW (aY prog w) (A.under (.builtin "type.__call__" ⟨.ref C::vs,[]⟩)) (call (.ref fI) (.ref (h.objs.size+1)::vs)) (λr s'=>r=.none/\Q (.ref (h.objs.size+1)) s') E ⟨zaO h C vs,g,d,t,os⟩)
  (hz:vs.length<=aQ):aW (aY prog w) A (call (.ref C) vs) Q E ⟨h,g,d,t,os⟩:=by
 obtain⟨nm,qn,N,bs,bm,hd,sn,sub,ab,col,dd,k0,k1,k2,k3,k5,cO,tl⟩:=zoW X q;have l1:=tc_lookup;have l2:=tc_bind (.ref C);have isT:(⟨h,g,d,t,os⟩:aM).TypeIs (.ref C) "type" :=⟨_,cO,O⟩;refine wpAny_call (codeAny_of_tree ?_);show aW _ _ (callAny (.ref C) _) _ _ _
 repeat (any_goals (first | assumption | with_reducible refine wpAny_loadPart_at cO ?_ | wp_step))
 refine⟨O,?_⟩;refine codeAny_call_builtin_at (Code.quiet_builtin _ (by decide+kernel)) entry_typeCall (wpAny_check_type_call_sub cO (zmE X q hi hf ?_ hz));exact hq
def zkC {s:aM}{Q:QC}(X:K.In s.heap)(q:excIn K C bmV "ValueError.__new__" =Z)
  (hq:∀h' e,Heap.MadeExcOf s.heap h' e (.ref C) vs->Q (.ref e) {s with heap:=h'}) (hz:vs.length<=aQ):aW (aY prog w) A (call (.ref C) vs) Q E s:=by
 obtain⟨h,g,d,t,os⟩:=s;have FV:=PySem.F.excBase_ValueError;have inV:bmV.contains (.type "ValueError")=Z:=by decide
 unfold excIn at q;split at q
 ·rename_i dd cd sl ho;split at q
  ·rename_i D bm k0 k1 k2 k3 n k5 hm hs;simp only[J8,beq_iff_eq,Bool.not_eq_true'] at q;obtain⟨⟨⟨⟨⟨y1,y2⟩,y3⟩,y4⟩,y5⟩,y6⟩:=q;subst y1;subst y2;obtain⟨nm,bs,mro,ns,qn,hd,sn,sub,ab,col,del⟩:=cd;dsimp only at hm y3 y5 y6;subst hm;subst y3;have e:sl= #[k0,k1,k2,k3,Y (.builtin "ValueError.__new__"),k5]:=by obtain⟨l⟩:=sl;exact congrArg Array.mk hs
   subst e;exact wpAny_call_exc_subU FV inV FV (tail_of_in X y4) (X _ _ ho) (.of_isNs (isNs_of_in X y5)) (nsMap_none_of_in X y5 y6) hq hz
  ·cases q
 ·cases q
variable {s:aM}{env:Env}
def zku (hh:A.handled=U)
  (h:aW (aY prog w) A x (λv s₁=>∃e C t oe,v=.ref e/\K.In s₁.heap/\xIn K C=Z/\s₁.heap.get? e=Y oe/\oe.cls=.ref C/\oe.data=.fields #[.ref t,.none,.none,.none,.bool G,.none]/\E (.ref e) s₁) E s):
  aW (aY prog w) A (raiseStmt env (Y x) U) Q E s:=by
 unfold raiseStmt;refine Ja (a8 h (λv s₁ h₁=>?_) λ_ _ x=>x);obtain⟨e,C,t,oe,rfl,X,q,he,hc,hd,hE⟩:=h₁;obtain⟨nm,qn,N,bs,bm,hdc,sn,sub,ab,col,dd,k0,k1,k2,k3,k5,cO,tl⟩:=zoW X q;have cB:(aP C::bm).contains (.type "BaseException")=Z:=by rw[List.contains_cons,tl.hasType (show bmV.contains (.type "BaseException")=Z from by decide),Bool.or_true]
 obtain⟨hp,g,d,tk,os⟩:=s₁;obtain⟨c0,d0,dt,sl⟩:=oe;dsimp only at hc hd;subst hc;subst hd
 repeat (first | with_reducible refine wpAny_loadPart_at he ?_ | with_reducible refine wpAny_loadPart_at cO ?_ | (with_reducible refine wpAny_isSubtype_exc cO ?_;rw[cB]) | wp_step)
 exact wpAny_raiseNew_none hh hE
end
def zb8:List aD->Bool
 | []=>G
 | v::r=>(v::r)==bmV || (match v with | .ref _=>zb8 r | _=>G)
theorem zbA {P:List aD->Prop}(ax:P bmV)(own:∀c r,P r->P (.ref c::r)):∀{l:QO},zb8 l=Z->P l
 | [],e=>by cases e
 | v::r,e=>by
  unfold zb8 at e;rcases Bool.or_eq_true_iff.mp e with q | q
  ·rw[beq_iff_eq.mp q];exact ax
  ·cases v <;> first | exact own _ _ (zbA ax own q) | cases q
def zcJ (K:Frag)(C:aE):Bool:=(clsIn K C).any λcd=>zb8 cd.mro && cd.hasDict
theorem zkh (self:aD)(e:zb8 l=Z):refuseLoop self "__setattr__" l=pure Unit.unit:=
 zbA (P:=λl=>refuseLoop self "__setattr__" l=pure Unit.unit) (PySem.F.store_ValueError.passes self) (λc r q=>by rw[refuseLoop_ref];exact q) e
def zq3 (hv:bmV.contains v=Z)(e:zb8 l=Z):l.contains v=Z:=
 zbA (P:=λl=>l.contains v=Z) hv (λc r q=>by rw[List.contains_cons,q,Bool.or_true]) e
theorem zsO (e:zb8 l=Z):l.isEmpty=G:=by
 cases l with
 | nil=>cases e
 | cons _ _=>rfl
section
variable {prog:aG}{w:aH}{A:aU}{E:QC}{s:aM}{K:Frag}{x C:aE}{ox:Obj}{name:Str}{v:aD}
def _root_.Ju:=@Bool.and_eq_true_iff
def zhG {T:String}(X:K.In s.heap)(I:InstAt s.heap x ox C od)(hp:zcJ K C=Z)(hT:bmV.contains (.type T)=Z):Looks M s.heap (isInstance (.ref x) (.type T)) Z:=by obtain⟨cd,hc,ho⟩:=any_some hp;obtain⟨o1,o2⟩:=Ju.mp ho;refine I.type.andThen (looks_mroIn X ?_);unfold mroIn;rw[hc,Option.bind_some,au (by rw[zsO o1];decide),zq3 hT o1]
def zoZ {R:Result->aM->Prop}{tk:Tok}(X:K.In s.heap)(I:InstAt s.heap x ox C od)(hp:zcJ K C=Z)(ht:findIn K (.ref C) name=Y U)
  (h:∀b,aW (aY prog w) A.in1 (storeInOwnDict (.ref x) (.ref C) (.str name tk) name v b)
   (λfin s'=>match fin with
    | .done f=>R (.ok f) s'
    | .again c'=>c'.quiet=Z/\codeAny (aY prog w) A c' R s') (λe s'=>R (.error e) s') s):
  codeAny (aY prog w) A (.call (.builtin "object.__setattr__") ⟨[.ref x,.str name tk,v],[]⟩) R s:=by
 have FS:=PySem.F.store_ValueError;have isO:=zhG (M:=aY prog w) (T:= "object") X I hp ();obtain⟨cd,hc,ho⟩:=any_some hp;obtain⟨o1,o2⟩:=Ju.mp ho;refine codeAny_call_builtin FS.slot.plain FS.entry (@check_slot (aY prog w) _ _ s "object.__setattr__" "object" "__setattr__" (.ref x) [.str name tk,v] [] _ FS.kind FS.split isO (FS.args (.ref x) (.str name tk) v) ?_);have mr:Looks (aY prog w) s.heap (mroOf (.ref C)) cd.mro:=(looks_clsIn X hc).andThen .now;rw[osa_eq,refuse_eq];refine Ja (Ja (I.type.here (Ja (mr.here ?_))));rw[zkh _ o1];have nt:Looks (aY prog w) s.heap (storeTaker? U) U:=.now;refine bc (Ja (I.type.here (Ja ((looks_findIn X ht).here (Ja (nt.here ?_))))));exact h _
def zs7 {Q:QD}{vs:Array aD}{sl:QJ}(X:K.In s.heap)(hx:s.heap.get? x=Y ⟨.ref C,U,.fields vs,sl⟩)(hp:zcJ K C=Z)
  (hs:findIn K (.ref C) "__setattr__" =Y (Y (.builtin "object.__setattr__"))) (ht:findIn K (.ref C) name=Y U)
  (h:∀h' tk,h'.get? x=Y ⟨.ref C,Y s.heap.objs.size,.fields vs,sl⟩->h'.Ns1 s.heap.objs.size (λy=>if y=name then Y v else U)->s.heap.objs.size<=h'.objs.size->
   (∀b o,b≠x->s.heap.get? b=Y o->h'.get? b=Y o)->Q Unit.unit {s with heap:=h',toks:=tk}):aW (aY prog w) A (setAttr (.ref x) name v) Q E s:=by
 have I:InstAt s.heap x ⟨.ref C,U,.fields vs,sl⟩ C U:=⟨hx,O,O,trivial⟩;obtain⟨cd,hc,ho⟩:=any_some hp;obtain⟨o1,o2⟩:=Ju.mp ho;refine set_plain X I hs (zoZ (s:={s with toks:=s.toks+1}) X I hp ht λb=>?_);refine Ja (bc (Ja (Ja (wpAny_loadPart hx (Ja (Looks.here (s:={s with toks:=s.toks+1}) (looks_clsIn X hc) ?_))))));rw[o2];have hx1:(s.heap.push {cls:=.type "dict",data:=.dict #[]}).get? x=Y ⟨.ref C,U,.fields vs,sl⟩:=JE _ hx;have xs:x≠s.heap.objs.size:=Jl (JK hx);refine Ja (wpAny_alloc' ?_);refine Ja (wpAny_update' hx1 ?_);refine bc ?_;have gd:((s.heap.push {cls:=.type "dict",data:=.dict #[]}).update x λo=>{o with dict:=Y s.heap.objs.size}).get? s.heap.objs.size=Y {cls:=.type "dict",data:=.dict #[]}:=
  (J1 _ _ xs).trans (JL _ rfl)
 have gx:((s.heap.push {cls:=.type "dict",data:=.dict #[]}).update x λo=>{o with dict:=Y s.heap.objs.size}).get? x=Y ⟨.ref C,Y s.heap.objs.size,.fields vs,sl⟩:=
  JZ _ hx1 rfl
 have nd:((s.heap.push {cls:=.type "dict",data:=.dict #[]}).update x λo=>{o with dict:=Y s.heap.objs.size}).Ns s.heap.objs.size (λ_=>U):=
  ⟨_, #[],_,gd,O,λe he=>Jf he (by simp),λ_=>O⟩
 show aW _ _ (storeInDict s.heap.objs.size (.str name _) name v) _ _ _;unfold storeInDict newKeyGuard;refine Ja (bc (Ja (wpAny_nsSet1 (Heap.Ns1.of_empty nd) λh' n' sb=>?_)));obtain⟨oD,esD,epD,q1,q2,q3⟩:=n'.count (Within.cons name v Within.nil);refine Ja (wpAny_lookBehind q1 (by rw[q2];exact pastItsLine_dict (Jg q3 (by rw[JM,Nn,sizeLine_eq];lia))) ?_);refine bc (h h' _ ((sb.2 x xs).trans gx) n' ?_ λb o bx e=>?_)
 ·rw[sb.1,Nl,Ng];exact Nat.le_succ _
 ·exact(sb.2 b (Jl (JK e))).trans ((J1 _ _ (aV bx)).trans (JE _ e))
def zr8 {Q:QD}{vs:Array aD}{sl:QJ}{dx:aE}(X:K.In s.heap)(hx:s.heap.get? x=Y ⟨.ref C,Y dx,.fields vs,sl⟩)(hd:s.heap.Ns1 dx mA)(hp:zcJ K C=Z)
  (hs:findIn K (.ref C) "__setattr__" =Y (Y (.builtin "object.__setattr__"))) (ht:findIn K (.ref C) name=Y U) (hw:Within mA ns) (hz:ns.length<=aQ)
  (h:∀h' tk,h'.Ns1 dx (λy=>if y=name then Y v else mA y)->Heap.SameBut dx s.heap h'->Q Unit.unit {s with heap:=h',toks:=tk}):aW (aY prog w) A (setAttr (.ref x) name v) Q E s:=by
 obtain⟨od,es0,ep0,g1,g2⟩:=id hd;have I:InstAt s.heap x ⟨.ref C,Y dx,.fields vs,sl⟩ C (Y od):=⟨hx,O,O,g1⟩;obtain⟨cd,hc,ho⟩:=any_some hp;obtain⟨o1,o2⟩:=Ju.mp ho;refine set_plain X I hs (zoZ (s:={s with toks:=s.toks+1}) X I hp ht λb=>?_);refine Ja (bc (Ja (Ja (wpAny_loadPart hx (Ja (Looks.here (s:={s with toks:=s.toks+1}) (looks_clsIn X hc) ?_))))));rw[o2];refine bc (a:=Y dx) (Ja (bc (Ja ?_)));refine wpAny_nsSet1 (s:={s with toks:=s.toks+1}) hd λh' n2 sb=>?_;obtain⟨oD,esD,epD,q1,q2,q3⟩:=n2.count (Within.cons name v hw);refine Ja (wpAny_lookBehind q1 (by rw[q2];exact pastItsLine_dict (Jg q3 (by rw[JM];lia))) ?_);exact bc (h _ _ n2 sb)
def zuf {Q:QC}{od:Obj}(X:K.In s.heap)(I:InstAt s.heap x ox C (Y od))(hp:zcJ K C=Z)
  (hga:findIn K (.ref C) "__getattribute__" =Y (Y (.builtin "BaseException.__getattribute__"))) (hgn:findIn K (.ref C) "__getattr__" =Y U)
  (hf:findObj K C (Y od) name=Y (.value v)) (hh:handedIn v=Z) (h:Q v {s with toks:=s.toks+1}):aW (aY prog w) A (getAttr (.ref x) name expr) Q E s:=by
 have isB:=zhG (M:=aY prog w) (T:= "BaseException") X I hp ();obtain⟨hp',g,d,t,os⟩:=s;have L0:=I.type (M:=aY prog w);have L1:=looks_findIn (M:=aY prog w) X hga;have L2:=looks_findIn (M:=aY prog w) X hgn;have L3:=looks_find (M:=aY prog w) X I hf;have FB:=PySem.F.attrBase_ValueError;have bi:=FB.ga.bind (.ref x);have kd:builtinKind "BaseException.__getattribute__" =Y .slot:=by decide+kernel
 have sp:splitId "BaseException.__getattribute__" =Y ("BaseException","__getattribute__"):=by decide+kernel
 unfold getAttr getAttrBy;refine Ja (wpAny_mkText (bb (Ja (L0.at (Ja (L1.at ?_))))));have nb:(onTheHeap (aP C) && bD "BaseException.__getattribute__" ==bD "object.__getattribute__")=G:=by rw[show(bD "BaseException.__getattribute__" ==bD "object.__getattribute__")=G from by decide+kernel,Nz]
 dsimp only;rw[nb,au Jd];unfold getAttrByItsOwn;refine Ja ?_;show aW _ _ (typeLookup (.ref C) "__getattr__") _ _ _;refine L2.at ?_;have ne:(expr && onTheHeap (bD "BaseException.__getattribute__"))=G:=by cases expr <;> rfl
 unfold callGetattribute;rw[ne,au Jd];unfold boundAndCalled;refine Ja (wpAny_attempt (bb ?_));rw[bi];refine Ja (bc ?_);refine wpAny_call (codeAny_call_builtin FB.ga.plain PySem.F.entry_bexc_ga (@check_slot (aY prog w) _ _ _ "BaseException.__getattribute__" "BaseException" "__getattribute__" (.ref x) [.str name t] [] _ kd sp isB (PySem.F.args_bexc_ga _ _) ?_));unfold Builtin.«object.__getattribute__»
 repeat (any_goals (first | assumption | with_reducible refine Ja (L0.at ?_) | with_reducible refine Ja (L3.at ?_) | wp_step))
 show aW _ _ (handedOut v) _ _ _;rw[handedOut_of hh];exact bc h
end
end Px
namespace L2
open PySem PySem.Spec PyProof.Rows Px
def exO (a C:aE)(od:QN)(fr:Bool):HO:=.ext λh=>∃vs sl,h.get? a=Y ⟨.ref C,od,.fields vs,sl⟩/\(fr=Z->∃t,vs= #[.ref t,.none,.none,.none,.bool G,.none])
def xdO (a:aE)(fs:QI):HO:=.ext λh=>∃mA,h.Ns1 a mA/\(∀f,RelO (fs.lookup f) (mA f))/\PySem.Within mA (fs.map (·.1))
def del (H:Hp)(a:aE):Hp:=λb=>if b=a then U else H b
theorem zbO:del H a a=U:=by unfold del;rw[av rfl]
theorem zbi {a b:aE}(h:b≠a):del H a b=H b:=by unfold del;rw[au h]
theorem zed {H:Hp}{a:aE}(h:H a=U):del (upd H a o) a=H:=by
 funext b;unfold del upd;by_cases e:b=a
 ·rw[av e,e,h]
 ·rw[au e,au e]
section
variable {P:aG}{w:aH}{H H':Hp}{h h' h2:aF}{a C:aE}{o:HO}{fs ex fs':QP}{own:aE->Prop}
def zh2 {od:QN}{fr:Bool}{vs:Array aD}{sl:QJ}(e:h.get? a=Y ⟨.ref C,od,.fields vs,sl⟩)(f:fr=Z->∃t,vs= #[.ref t,.none,.none,.none,.bool G,.none]):zB P w H h a (exO a C od fr):=
 ⟨⟨vs,sl,e,f⟩,⟨_,e⟩,λ_ _ ⟨vs,sl,e,f⟩ k=>⟨vs,sl,k _ e,f⟩⟩
def zbq (ok:HOk P w H h)(e:H a=Y (exO a C od fr)):∃vs sl,h.get? a=Y ⟨.ref C,od,.fields vs,sl⟩/\(fr=Z->∃t,vs= #[.ref t,.none,.none,.none,.bool G,.none]):=
 (show zB P w H h a (exO a C od fr) from ok a _ e).1
def zn8 {l:QI}(n:h.Ns1 a mA)(r:∀f,RelO (l.lookup f) (mA f))(wi:PySem.Within mA (l.map (·.1))):zB P w H h a (xdO a l):=
 ⟨⟨mA,n,r,wi⟩,let ⟨o,_,_,e,_⟩:=n;⟨o,e⟩,λ_ _ ⟨mA,n,r,wi⟩ k=>⟨mA,n.at k,r,wi⟩⟩
def zik (ok:HOk P w H h)(e:H a=Y (xdO a l)):∃mA,h.Ns1 a mA/\(∀f,RelO (l.lookup f) (mA f))/\PySem.Within mA (l.map (·.1)):=
 (show zB P w H h a (xdO a l) from ok a _ e).1
def HOk.track (x:HOk P w H h)(n:H a=U)(new:zB P w (upd H a o) h a o):HOk P w (upd H a o) h:=λb u e=>by
 by_cases hb:b=a
 ·subst hb;rw[za] at e;cases e;exact new
 ·rw[zd hb] at e;exact(x b u e).stay (λ_ _ _ q=>q) (λc q=>by rw[zd (zf q n)];exact q) λc xs q=>by rw[zd (zf q n)];exact q
def Un.track (u:Un fs ex H H' h h')(n:H' a=U)(nw:∀ob,h.get? a=Y ob->a∈ex\/H a≠U):Un fs ex H (upd H' a o) h h' where
 keep:=u.keep
 slot:=u.slot
 free:=λb ob q m hx=>by
  rw[zd]
  ·exact u.free b ob q m hx
  ·intro e;subst e;rcases nw ob q with z | z
   ·exact hx z
   ·exact z m
 there:=u.there
 ay:=λb xs q=>by rw[zd (zf (u.ay b xs q) n)];exact u.ay b xs q
 frzs:=λb ob v q=>by rw[zd (zf (u.frzs b ob v q) n)];exact u.frzs b ob v q
 tbls:=λb ps q=>by obtain⟨m,e⟩:=u.tbls b ps q;exact⟨m,by rw[zd (zf e n)];exact e⟩
theorem HOk.drop {φ:aF->Prop}(x:HOk P w H h)(e:H a=Y (.ext φ)):HOk P w (del H a) h:=λb u q=>by
 by_cases hb:b=a
 ·rw[hb,zbO] at q;cases q
 ·rw[zbi hb] at q;exact(x b u q).stay (λ_ _ _ z=>z) (λc z=>by rw[zbi (zL z e (by intro y;cases y))];exact z) λc xs z=>by rw[zbi (zL z e (by intro y;cases y))];exact z
theorem Un.drop {φ:aF->Prop}(u:Un fs ex H H' h h')(e:H' a=Y (.ext φ)):Un fs ex H (del H' a) h h' where
 keep:=u.keep
 slot:=u.slot
 free:=λb ob q m hx=>by
  by_cases hb:b=a
  ·rw[hb];exact zbO
  ·rw[zbi hb];exact u.free b ob q m hx
 there:=u.there
 ay:=λb xs q=>by rw[zbi (zL (u.ay b xs q) e (by intro y;cases y))];exact u.ay b xs q
 frzs:=λb ob v q=>by rw[zbi (zL (u.frzs b ob v q) e (by intro y;cases y))];exact u.frzs b ob v q
 tbls:=λb ps q=>by obtain⟨m,z⟩:=u.tbls b ps q;exact⟨m,by rw[zbi (zL z e (by intro y;cases y))];exact z⟩
def Un.chg (u:Un fs ex H H' h h')(c:Chg2 fs' own h' h2)(hfs:∀b ob,h.get? b=Y ob->b∈fs'->b∈fs)
  (nw:∀b,own b->h.get? b=U\/(H b≠U/\∃o',h2.get? b=Y o')):Un fs ex H H' h h2:=by
 have no:∀b ob,h.get? b=Y ob->H b=U->¬own b:=λb ob q n z=>by
  rcases nw b z with y | y
  ·rw[y] at q;cases q
  ·exact y.1 n
 refine⟨λb ob q n hb hx=>c.keep b ob (u.keep b ob q n hb hx) (λz=>hb (hfs b ob q z)) (no b ob q n),λb ob q n hb hx=>?_,u.free,λb ob q hx=>?_,u.ay,u.frzs,u.tbls⟩
 ·obtain⟨sl,e⟩:=u.slot b ob q n hb hx;by_cases z:b∈fs'
  ·obtain⟨s2,e2⟩:=c.slot b _ e z (no b ob q n);exact⟨s2,e2⟩
  ·exact⟨sl,c.keep b _ e z (no b ob q n)⟩
 ·obtain⟨o',e⟩:=u.there b ob q hx;by_cases y:own b
  ·rcases nw b y with z | z
   ·rw[z] at q;cases q
   ·exact z.2
  ·by_cases z:b∈fs'
   ·obtain⟨s2,e2⟩:=c.slot b _ e z y;exact⟨_,e2⟩
   ·exact⟨_,c.keep b _ e z y⟩
def HOk.chg (x:HOk P w H h)(c:Chg2 fs' own h h2)(n1:∀b,own b->H b=U)(n2:∀b∈fs',H b=U):HOk P w H h2:=λb u e=>by
 have k:∀c' v,(∃z,H c'=Y z)->h.get? c'=Y v->h2.get? c'=Y v:=λc' v ⟨z,hz⟩ q=>
  c.keep c' v q (λm=>by rw[n2 c' m] at hz;cases hz) (λm=>by rw[n1 c' m] at hz;cases hz)
 refine(x b u e).stay (λc' v hc q=>k c' v ?_ q) (λ_ q=>q) λ_ _ q=>q;rcases hc with z | z
 ·rw[z];exact⟨_,e⟩
 ·exact⟨_,z⟩
variable {X:Cx}{bH:QE}{σ:St}{s:aM}
def zB.thereN (x:zB P w H h a u):∃ob,h.get? a=Y ob:=by
 cases u with
 | lst xs=>obtain⟨_,_,_,_,e⟩:=x;exact⟨_,e⟩
 | tup xs=>obtain⟨_,_,_,ob,e,_⟩:=x;exact⟨_,e⟩
 | dK kvs=>obtain⟨_,_,_,_,o,_,_,e,_⟩:=x;exact⟨_,e⟩
 | dT kvs=>obtain⟨_,_,_,_,o,_,_,e,_⟩:=x;exact⟨_,e⟩
 | set S n=>obtain⟨o,_,_,_,e,_⟩:=x;exact⟨_,e⟩
 | ins C dx fs=>obtain⟨_,_,_,e,_⟩:=x;exact⟨_,e⟩
 | own y=>exact x
 | xd fs=>obtain⟨_,⟨_,_,_,e,_⟩,_⟩:=x;exact⟨_,e⟩
 | rng lo hi=>obtain⟨_,_,_,e⟩:=x;exact⟨_,e⟩
 | frz ob u=>obtain⟨e,_⟩:=x;exact⟨_,e⟩
 | tbl ps=>exact⟨_,(show h.get? a=Y _ from x)⟩
 | met f y=>exact⟨_,(show h.get? a=Y _ from x)⟩
 | ext φ=>exact x.2.1
def HOk.noneN {a:aE}(x:HOk P w H h)(n:h.get? a=U):H a=U:=by
 cases q:H a with
 | none=>rfl
 | some u=>obtain⟨ob,z⟩:=(x a u q).thereN;rw[n] at z;cases z
def Inv.laidN {t':Nat}(I:Inv X bH σ H s)(k:∀b u,s.heap.get? b=Y u->h'.get? b=Y u)(hp:s.heap.get? a=U)(new:zB X.prog X.w (upd H a o) h' a o):
  Inv X bH σ (upd H a o) {s with heap:=h',toks:=t'}:=by
 have n:H a=U:=I.hok.noneN hp;exact I.un ((Un.kept k).track n λob q=>by rw[hp] at q;cases q) ((I.hok.kept k).track n new)
end
def CX1 (P:aG)(w:aH):CXT:=λouter H s E e s'=>∃(ea:aE)(cls:aD)(od:QN)(H':Hp)(T:aE),e=.ref ea/\s'.os=s.os/\AllBare s'.gens/\Un (frs outer) [] H H' s.heap s'.heap/\HOk P w H' s'.heap/\
 Tb s'.heap ea cls od T .none/\(s.heap.get? ea=U\/H ea≠U)/\s.heap.get? T=U/\H' ea=U/\H' T=U/\E cls od H'
theorem zal {b:aE}(u:Un fs ex H H' h h')(hx:b∉ex)(n:h'.get? b=U):h.get? b=U:=by
 cases q:h.get? b with
 | none=>rfl
 | some o=>obtain⟨o',e⟩:=u.there b o q hx;rw[n] at e;cases e
section
variable {P:aG}{w:aH}{K:QA}{mg:QB}{ax:aF}{N:QQ}{qual:Str}{scope:Scope}{f:aE}{cd:aD}{A:aU}{outer:List Env}{s₀:aM}{H₀:Hp}{E:XK}
def zi3 (X:Cx)(E:XK):Prop:=∀(bH:QE)(σ:St)(H:Hp)(s:aM)(e C:aE)(od:QN),Inv X bH σ H s->H e=Y (exO e C od Z)->E (.ref C) od (del H e)->X.xe (.ref e) s
def zn7:zi3 (cxOf (CX1 P w) P w K mg ax N qual scope f cd A outer s₀ H₀ E) E:=by
 intro bH σ H s e C od I he q;obtain⟨vs,sl,ge,fr⟩:=zbq I.hok he;obtain⟨t,rfl⟩:=fr rfl;show aW (aY P w) (A.deeper _) (leaving _ (.ref e)) _ _ s;refine zsh (ax:=ax) I.ok.frames I.stack rfl ge rfl rfl λh' T' z tb c=>?_;have nT:s.heap.get? T'=U:=JW z;have old:s₀.heap.get? e=U\/H₀ e≠U:=by
  cases q1:s₀.heap.get? e with
  | none=>exact .inl rfl
  | some ob=>refine .inr λn=>?_;have:=I.ax.free e ob q1 n (by intro z;cases z);rw[he] at this;cases this
 have fr2:∀b∈frs (envOfC qual scope s₀.heap.objs.size f cd::outer),H b=U:=I.stkFree;have te:∃o',h'.get? e=Y o':=let ⟨oe,_,_,_,y,_⟩:=tb;⟨oe,y⟩;refine⟨e,.ref C,od,del H e,T',O,I.os,I.bare,?_,?_,tb,old,zal I.ax (by intro z;cases z) nT,zbO,?_,q⟩
 ·refine(I.ax.drop he).chg (fs':=frs (envOfC qual scope s₀.heap.objs.size f cd::outer)) c (λb ob q1 q2=>?_) λb y=>?_
  ·have lt:=JK q1;rcases JJ.mp (I.stkSub b q2) with y | y
   ·exact Jf lt (by rw[y];exact Nat.not_lt.mpr (Jb _))
   ·exact y
  ·subst y;rcases old with y | y
   ·exact .inl y
   ·exact .inr ⟨y,te⟩
 ·refine(I.hok.drop he).chg c (λb y=>by rw[y];exact zbO) λb y=>?_;by_cases hb:b=e
  ·rw[hb];exact zbO
  ·rw[zbi hb];exact fr2 b y
 ·have:H T'=U:=I.hok.fresh z;by_cases hb:T'=e
  ·rw[hb];exact zbO
  ·rw[zbi hb];exact this
def zdU (CX:CXT)(X:Cx)(E:St->XK):Prop:=∀(bH:QE)(σ:St)(H:Hp)(s:aM)(e:aD)(s':aM),Inv X bH σ H s->CX X.stack H s (E σ) e s'->X.xe e s'
def za6:zay (CX1 P w) (cxOf (CX1 P w) P w K mg ax N qual scope f cd A outer s₀ H₀ E) E:=by
 intro bH σ H s e s' I0 hc;obtain⟨ea,cls,od,H',T,rfl,os,bare,un,hok,tb,old,nT,u1,u2,q⟩:=hc;have I:=I0.call' os un hok bare (λb z=>nomatch z);show aW (aY P w) (A.deeper _) (leaving _ (.ref ea)) _ _ s';refine zsm (ax:=ax) I.ok.frames I.stack rfl tb λh' T' z tb' c=>?_;have nT':s'.heap.get? T'=U:=JW z;have old':s₀.heap.get? ea=U\/H₀ ea≠U:=by
  cases q1:s₀.heap.get? ea with
  | none=>exact .inl rfl
  | some ob=>
   refine .inr λn=>?_;rcases old with y | y
   ·have y':s₀.heap.get? ea=U:=zal I0.ax (by intro z;cases z) y;rw[y'] at q1;cases q1
   ·exact y (I0.ax.free ea ob q1 n (by intro z;cases z))
 have te:∃o',h'.get? ea=Y o':=let ⟨oe,_,_,_,y,_⟩:=tb';⟨oe,y⟩
 have n0:s₀.heap.get? T=U:=zal I0.ax (by intro z;cases z) nT;refine⟨ea,cls,od,H',T',O,I.os,I.bare,?_,?_,tb',old',zal I.ax (by intro z;cases z) nT',u1,hok.fresh z,q⟩
 ·refine I.ax.chg (fs':=frs (envOfC qual scope s₀.heap.objs.size f cd::outer)) c (λb ob q1 q2=>?_) λb y=>?_
  ·have lt:=JK q1;rcases JJ.mp (I.stkSub b q2) with y | y
   ·exact Jf lt (by rw[y];exact Nat.not_lt.mpr (Jb _))
   ·exact y
  ·rcases y with y | y
   ·subst y;rcases old' with y | y
    ·exact .inl y
    ·exact .inr ⟨y,te⟩
   ·subst y;exact .inl n0
 ·refine hok.chg c (λb y=>?_) I.stkFree;rcases y with y | y
  ·rw[y];exact u1
  ·rw[y];exact u2
end
structure XCls (K:QA)(C:aE):Prop where
 q:xIn K C=Z
 ov:zcJ K C=Z
 sa:bd K (.ref C) "__setattr__" =Y (Y (.builtin "object.__setattr__"))
 ga:bd K (.ref C) "__getattribute__" =Y (Y (.builtin "BaseException.__getattribute__"))
 gn:bd K (.ref C) "__getattr__" =Y U
 kp:bf K (.ref C)=Z
theorem XCls.hd {K:QA}{C:aE}(c:XCls K C):PySem.W.hasDictIn K C=Z:=by obtain⟨cd,hc,ho⟩:=PySem.W.any_some c.ov;unfold PySem.W.hasDictIn;rw[hc];exact(Ju.mp ho).2
def tExc (C:aE)(t:TA):TE:=fun σ H Q=>t σ H λvs H1=>vs.length<=aQ/\∀e,H1 e=U->Q (.ref e) (upd H1 e (exO e C U Z))
def zrw (C:aE)(sp:Sp)(t:TA):TE:=fun σ H Q=>t σ H λvs H1=>vs.length<=aQ/\∀x,H1 x=U->sp (.ref x::vs) (upd H1 x (exO x C U Z)) (λv H2=>v=.non/\Q (.ref x) H2) E0
section
variable {X:Cx}{k:Nat}{f C:aE}{fd:FuncData}{ps:QQ}{sp:Sp}{x:Str}{p pos:Pos}{e:aX}{es:List aX}{t:TA}
def zr1 (c:XCls X.K C)(hq:PySem.W.excIn X.K C bmV "ValueError.__new__" =Z) (hg:Gl X x) (hm:X.mg x=Y (.ref C)) (ha:PA X (e::es) t)
  (hdb:(x==("__debug__" :Str))=G:=by decide) (he:a7 (e::es) X.env=(G,aZ e X.env)::a7 es X.env:=by rfl) (hpl:(a6 pos (a7 es X.env)).any (·.1)=G:=by rfl):
  PE X (.Call (.Name x p) (e::es) [] pos) (tExc C t):=by
 intro bH s σ H Q I h;refine bo (zbp I hg hm ?_ hdb);refine bp (h₀:=X.ax) I.ok.mod.kin c.kp (thn (ha pos bH s σ H _ I h) λus s1 ⟨vs,H1,I1,r,z,q⟩=>⟨I1.kIn,?_⟩) he hpl;refine zkC I1.kIn hq (λh' ea mk=>?_) (show us.length<=aQ by rw[<-r.length];exact z);obtain⟨t,ge,nt,gt⟩:=mk.there;exact⟨.ref ea,_,I1.laidN (t':=s1.toks) mk.keeps mk.new (zh2 ge λ_=>⟨t,O⟩),O,q ea (I1.hok.noneN mk.new)⟩
def zpR (c:XCls X.K C)(hi:bd X.K (.ref C) "__init__" =Y (Y (.ref f))) (hf:PySem.W.isFn X.K (.ref f)=Z) (F:FnOk X.prog X.w X.K X.mg X.ax CX0 k f fd ps sp) (hr:Room (k+1) X.A) (hb:Binds X.K fd ps [])
  (hg:Gl X x) (hm:X.mg x=Y (.ref C)) (ha:PA X (e::es) t)
  (hdb:(x==("__debug__" :Str))=G:=by decide) (he:a7 (e::es) X.env=(G,aZ e X.env)::a7 es X.env:=by rfl) (hpl:(a6 pos (a7 es X.env)).any (·.1)=G:=by rfl):
  PE X (.Call (.Name x p) (e::es) [] pos) (zrw C sp t):=by
 intro bH s σ H Q I h;refine bo (zbp I hg hm ?_ hdb);refine bp (h₀:=X.ax) I.ok.mod.kin c.kp (thn (ha pos bH s σ H _ I h) λus s1 ⟨vs,H1,I1,r,z,q⟩=>⟨I1.kIn,?_⟩) he hpl;have I2:Inv X bH σ (upd H1 (s1.heap.objs.size+1) (exO (s1.heap.objs.size+1) C U Z)) {s1 with heap:=zaO s1.heap C us}:=
  I1.laidN (t':=s1.toks) (λ_ _ y=>zbT y) (JW (Nat.le_succ _)) (zh2 zgr λ_=>⟨B⟩)
 have hq:=q (s1.heap.objs.size+1) (I1.hok.fresh (Nat.le_succ _));have r2:Vals (V.ref (s1.heap.objs.size+1)::vs) (aP (s1.heap.objs.size+1)::us):=.cons rfl r;have hl:((aP (s1.heap.objs.size+1)::us)++ []).length=ps.length:=by rw[JS,<-r2.length];exact F.len _ _ _ _ hq
 have hz:us.length<=aQ:=by rw[<-r.length];exact z
 obtain⟨h1,g1,d1,t1,o1⟩:=s1;refine zmh I1.kIn c.q hi (beq_iff_eq.mp hf) ?_ hz;have hbb:=hb _ (aP (h1.objs.size+1)::us) I2.kIn hl;rw[JS] at hbb;refine wpAny_call (codeAny_mono (F.run _ X.stack _ _ ⟨aP (h1.objs.size+1)::us,[]⟩ (aP (h1.objs.size+1)::us) _ _ E0 (hr.make C us []) (I2.env0.make C us []) hbb r2 hq) λr s' hq'=>?_);cases r with
 | error e=>exact False.elim hq'
 | ok fl=>
  cases fl with
  | ret u=>obtain⟨v,H',I3,rv,ev,q3⟩:=I2.after hq';subst ev;exact⟨rv,⟨V.ref (h1.objs.size+1),H',I3,O,q3⟩⟩
  | next=>exact False.elim hq'
  | brk=>exact False.elim hq'
  | cont=>exact False.elim hq'
end
def zsT (K:QA)(te:TE)(E:XK):TS:=λD σ H=>te σ H λv H1=>∃e C od,v=.ref e/\H1 e=Y (exO e C od Z)/\xIn K C=Z/\E (.ref C) od (del H1 e)
def znN {pos:Pos}(hx:zi3 X E)(hc:X.calm=Z)(he:PE X ex te):PS X (.Raise (Y ex) U pos) (zsT X.K te E):=by intro bH s σ H D I h;rw[arm_exec_Raise];refine Ja (wpAny_standAt ?_);refine zku (K:=X.K) (I.ok.hd hc) ?_;refine Ja (a8 (he bH s σ H _ I h) (λv s1 hv=>Ja (wpAny_standAt (bc ?_))) λ_ _ z=>z);obtain⟨y,H1,I1,ry,ea,C,od,rfl,hea,qC,hE⟩:=hv;obtain rfl:v=aP ea:=ry;obtain⟨vs,sl,ge,fr⟩:=zbq I1.hok hea;obtain⟨t,rfl⟩:=fr rfl;exact⟨ea,C,t,B,I1.kIn,qC,ge,O,O,hx bH σ H1 s1 ea C od I1 hea hE⟩
def sXF1 (K:QA)(ta tv:TE)(f:Str):TS:=λD σ H=>tv σ H λy H1=>ta σ H1 λx H2=>∃a C fr,x=.ref a/\H2 a=Y (exO a C U fr)/\XCls K C/\zm K C f/\
 ∀d,H2 d=U->d≠a->D.nx σ (upd (upd H2 d (xdO d [(f,y)])) a (exO a C (Y d) fr))
def sXF2 (K:QA)(ta tv:TE)(f:Str):TS:=λD σ H=>tv σ H λy H1=>ta σ H1 λx H2=>∃a C fr d l,x=.ref a/\H2 a=Y (exO a C (Y d) fr)/\H2 d=Y (xdO d l)/\d≠a/\XCls K C/\zm K C f/\l.length < 1000/\
 D.nx σ (upd H2 d (xdO d (putF f y l)))
def tXG (K:QA)(ta:TE)(f:Str):TE:=fun σ H Q=>ta σ H λx H1=>∃a C fr d l v,x=.ref a/\H1 a=Y (exO a C (Y d) fr)/\H1 d=Y (xdO d l)/\XCls K C/\zm K C f/\l.lookup f=Y v/\Q v H1
section
variable {X:Cx}{o e value:aX}{f:Str}{pos pos':Pos}{ta tv:TE}
def ztf (ha:PE X o ta)(hv:PE X value tv)(hs:swapsWith value (Y (.Attribute o f pos')) pos.line X.env=pure G):PS X (.Assign [.Attribute o f pos'] value pos) (sXF1 X.K ta tv f):=by
 intro bH s σ H D I h;refine plainObj_wpAny_Assign_Attribute (thn (hv bH s σ H _ I h) λu s1 ⟨y,H1,I1,ry,q⟩=>thn (ha bH s1 σ H1 _ I1 q) λov s2 ⟨x,H2,I2,rx,a,C,fr,ex,ea,c,n,q2⟩=>?_) hs;subst ex;obtain rfl:ov=aP a:=rx;obtain⟨vs,sl,ge,hfr⟩:=zbq I2.hok ea;refine zs7 I2.kIn ge c.ov c.sa n λh' tk gx nd sz kp=>?_;have nd0:H2 s2.heap.objs.size=U:=I2.hok.fresh (Jb _);have da:s2.heap.objs.size≠a:=aV (Jl (JK ge));have na:∀b,H2 b=U->b≠a:=λb z y=>by rw[y,ea] at z;cases z
 refine⟨σ,_,?_,q2 _ nd0 da⟩;refine I2.un (h':=h') (t':=tk) ⟨λb ob g z _ _=>kp b ob (na b z) g,λb ob g z _ _=>⟨ob.slots,kp b ob (na b z) g⟩,λb ob g z _=>?_,λb ob g _=>?_,λb xs g=>?_,λb ob v g=>?_,λb ps g=>?_⟩ λb w g=>?_
 ·rw[zd (na b z),zd (Jl (JK g))];exact z
 ·by_cases y:b=a
  ·rw[y];exact⟨_,gx⟩
  ·exact⟨_,kp b ob y g⟩
 ·rw[zd (zL g ea (by intro y;cases y)),zd (zf g nd0)];exact g
 ·rw[zd (zL g ea (by intro y;cases y)),zd (zf g nd0)];exact g
 ·exact⟨#[],by rw[zd (zL g ea (by intro y;cases y)),zd (zf g nd0),g];simp⟩
 ·by_cases yy:b=a
  ·subst yy;rw[za] at g;cases g;exact zh2 gx hfr
  ·rw[zd yy] at g;by_cases y2:b=s2.heap.objs.size
   ·subst y2;rw[za] at g;cases g;refine zn8 nd (λj=>?_) λj hj=>?_
    ·show RelO ([(f,y)].lookup j) _;by_cases e:j=f
     ·have hb:(j==f)=Z:=beq_iff_eq.mpr e;rw[av e];simp only[List.lookup,hb]
      assumption
     ·have hb:(j==f)=G:=beq_eq_false_iff_ne.mpr e;rw[au e];simp only[List.lookup,hb];exact True.intro
    ·by_cases e:j=f
     ·rw[e];exact JO
     ·rw[au e] at hj;exact Jf rfl hj
   ·rw[zd y2] at g;refine(I2.hok b w g).stay (λc' v hc gg=>kp c' v ?_ gg) (λc' z=>?_) λc' xs z=>?_
    ·rcases hc with z | z
     ·rw[z];exact yy
     ·exact zL z ea (by intro y;cases y)
    ·rw[zd (zL z ea (by intro y;cases y)),zd (zf z nd0)];exact z
    ·rw[zd (zL z ea (by intro y;cases y)),zd (zf z nd0)];exact z
def ztd (ha:PE X o ta)(hv:PE X value tv)(hs:swapsWith value (Y (.Attribute o f pos')) pos.line X.env=pure G):PS X (.Assign [.Attribute o f pos'] value pos) (sXF2 X.K ta tv f):=by
 intro bH s σ H D I h;refine plainObj_wpAny_Assign_Attribute (thn (hv bH s σ H _ I h) λu s1 ⟨y,H1,I1,ry,q⟩=>thn (ha bH s1 σ H1 _ I1 q) λov s2 ⟨x,H2,I2,rx,a,C,fr,d,l,ex,ea,ed,da,c,n,ll,q2⟩=>?_) hs;subst ex;obtain rfl:ov=aP a:=rx;obtain⟨vs,sl,ge,hfr⟩:=zbq I2.hok ea;obtain⟨mA,ns,rl,wi⟩:=zik I2.hok ed;have hz:(l.map (·.1)).length<=aQ:=by rw[JI,sizeLine_eq];lia
 refine zr8 I2.kIn ge ns c.ov c.sa n wi hz λh' tk nd sb=>?_;have hd:∃o,h'.get? d=Y o:=let ⟨o,_,_,e',_⟩:=nd;⟨o,e'⟩;refine⟨σ,_,I2.write (x:=d) (e:=d) (t':=tk) (by rw[ed];exact True.intro) (.inl rfl) (λb w hb z=>(sb.2 b hb).trans z) hd (zn8 nd (λg=>?_) λg hg=>?_),q2⟩
 ·rw[zcQ];by_cases z:g=f
  ·rw[av z,av z];exact ry
  ·rw[au z,au z];exact rl g
 ·by_cases z:g=f
  ·rw[z];exact(zbS f y l).1
  ·refine(zbS f y l).2 g (wi g λw=>hg ?_);show(if g=f then Y u else mA g)=U;rw[au z];exact w
def zpg (he:PE X e ta)(hb:attributeBase e f X.env (aZ e X.env)=aZ e X.env):PE X (.Attribute e f pos) (tXG X.K ta f):=by intro bH s σ H Q I h;refine zly hb (thn (he bH s σ H _ I h) λu s1 ⟨x,H1,I1,rx,a,C,fr,d,l,v,ex,ea,ed,c,n,lk,q⟩=>?_);subst ex;obtain rfl:u=aP a:=rx;obtain⟨vs,sl,ge,hfr⟩:=zbq I1.hok ea;obtain⟨mA,ns,rl,wi⟩:=zik I1.hok ed;obtain⟨w,hw,rw'⟩:=RelO.some_of (v:=v) (o:=mA f) (by rw[<-lk];exact rl f);obtain⟨ob,hob,hl⟩:=zex ns;have J:PySem.W.InstAt s1.heap a ⟨.ref C,Y d,.fields vs,sl⟩ C (Y ob):=⟨ge,O,O,hob⟩;exact zuf I1.kIn J c.ov c.ga c.gn (PySem.W.findObj_own c.hd n rfl (by rw[hl,hw])) (zgZ rw') ⟨v,H1,I1.tok _,rw',q⟩
end
def zol (sp:Sp)(E:St->XK)(t:TA):TE:=fun σ H Q=>t σ H λvs H1=>sp vs H1 Q (E σ)
section
variable {X:Cx}{CX:CXT}{k:Nat}{f C:aE}{fd:FuncData}{ps:QQ}{sp:Sp}{E:St->XK}{x m:Str}{p pos apos:Pos}{e o:aX}{es:List aX}{ta:TE}{t:TA}
def zqz (F:FnOk X.prog X.w X.K X.mg X.ax CX k f fd ps sp)(hr:Room k X.A)(hb:Binds X.K fd ps [])(hx:zdU CX X E)
  (I:Inv X bH σ H s) (r:Vals vs us) (h:sp vs H Q (E σ)):aW (aY X.prog X.w) X.A (call (.ref f) us) (EP X bH σ Q) X.xe s:=by
 have hl:(us++ []).length=ps.length:=by rw[JS,<-r.length];exact F.len _ _ _ _ h
 have hbb:=hb s us I.kIn hl;rw[JS] at hbb;refine wpAny_call (codeAny_mono (F.run X.A X.stack s H ⟨us,[]⟩ us vs Q (E σ) hr I.env0 hbb r h) λr s' hq=>?_);cases r with
 | error e=>exact hx bH σ H s e s' I hq
 | ok fl=>
  cases fl with
  | ret u=>exact I.after hq
  | next=>exact False.elim hq
  | brk=>exact False.elim hq
  | cont=>exact False.elim hq
def znm (F:FnOk X.prog X.w X.K X.mg X.ax CX k f fd ps sp)(hr:Room k X.A)(hg:Gl X x)(hm:X.mg x=Y (.ref f))(hk:bf X.K (.ref f)=Z)(hb:Binds X.K fd ps [])(hx:zdU CX X E)
  (ha:PA X (e::es) t) (hdb:(x==("__debug__" :Str))=G:=by decide) (he:a7 (e::es) X.env=(G,aZ e X.env)::a7 es X.env:=by rfl) (hpl:(a6 pos (a7 es X.env)).any (·.1)=G:=by rfl):
  PE X (.Call (.Name x p) (e::es) [] pos) (zol sp E t):=by
 intro bH s σ H Q I h;refine bo (zbp I hg hm ?_ hdb);refine bp (h₀:=X.ax) I.ok.mod.kin hk (thn (ha pos bH s σ H _ I h) λus s1 ⟨vs,H1,I1,r,q⟩=>⟨I1.kIn,?_⟩) he hpl;exact zqz F hr hb hx I1 r q
end
def Fun.okX {P:aG}{w:aH}{K:QA}{mg:QB}{ax:aF}{x qual:Str}{st:aB}{f:aE}{fd:FuncData}{N ps:QQ}{k:Nat}{sp:Sp}(F:Fun K x qual st f fd)(S:zak N ps (zq st))(len:∀vs H Q E,sp vs H Q E->vs.length=ps.length)
  (hbody:∀(cdv:aD)(A:aU)(outer:List Env)(s:aM)(H:Hp)(vs:QR)(Q:VK)(E:XK),Room k (A.deeper (envOfC qual (zq st) s.heap.objs.size f cdv))->sp vs H Q E->
   ∃t,PSs (cxOf (CX1 P w) P w K mg ax N qual (zq st) f cdv A outer s H E) (zG st) t/\t {nx:=λ_ H'=>Q .non H',rt:=Q} (start N vs) H):FnOk P w K mg ax (CX1 P w) (k+1) f fd ps sp:=by
 obtain⟨oc,od,kV,doc,pm,an,cdv,ct,osl,rfl,lk,hcd⟩:=F.ex;exact zrD lk hcd S len λA outer s H vs Q E hr hsp=>hbody cdv A outer s H vs Q E hr hsp
abbrev Cx.tried (X:Cx)(xe:QC)(pn:QE):Cx:={X with xe:=xe,pn:=pn}
abbrev Cx.suite (X:Cx)(e:aE):Cx:={X with A:=X.A.mark (Y (.ref e)),calm:=G,xe:=λ_ _=>False}
section
variable {X:Cx}{bH pins':QE}{σ:St}{H:Hp}{s:aM}{xe:QC}
def Inv.tried (I:Inv X bH σ H s)(xe:QC):Inv (X.tried xe (X.pn++bH)) [] σ H s:=
 ⟨⟨I.ok.mod,I.ok.kind,I.ok.glob,I.ok.blt,I.ok.above,I.ok.inj,I.ok.has,I.ok.cab,I.ok.hd,I.ok.frames,I.ok.stk,I.ok.exf,I.ok.bs,I.ok.bsz,I.ok.noex,I.ok.exfs,I.ok.funs,I.ok.frf⟩,
  I.os,I.bare,I.ax,I.loc,I.cell,I.free,I.freeC,λp hp=>I.pin p (by simpa using hp),I.hok,I.len⟩
def Inv.untried (I:Inv (X.tried xe (X.pn++bH)) pins' σ H s):Inv X bH σ H s:=
 ⟨⟨I.ok.mod,I.ok.kind,I.ok.glob,I.ok.blt,I.ok.above,I.ok.inj,I.ok.has,I.ok.cab,I.ok.hd,I.ok.frames,I.ok.stk,I.ok.exf,I.ok.bs,I.ok.bsz,I.ok.noex,I.ok.exfs,I.ok.funs,I.ok.frf⟩,
  I.os,I.bare,I.ax,I.loc,I.cell,I.free,I.freeC,λp hp=>I.pin p (Jo _ hp),I.hok,I.len⟩
def Inv.suite (I:Inv X bH σ H s)(e:aE):Inv (X.suite e) bH σ H s:=
 ⟨⟨I.ok.mod,I.ok.kind,I.ok.glob,I.ok.blt,I.ok.above,I.ok.inj,I.ok.has,I.ok.cab,(λz=>nomatch z),I.ok.frames,I.ok.stk,I.ok.exf,I.ok.bs,I.ok.bsz,I.ok.noex,I.ok.exfs,I.ok.funs,I.ok.frf⟩,
  I.os,I.bare,I.ax,I.loc,I.cell,I.free,I.freeC,I.pin,I.hok,I.len⟩
def Inv.unsuite (ok:X.Ok)(I:Inv (X.suite e) bH σ H s):Inv X bH σ H s:=
 ⟨ok,I.os,I.bare,I.ax,I.loc,I.cell,I.free,I.freeC,I.pin,I.hok,I.len⟩
def zcY {i:Nat}{n:Str}{Q:QD}(I:Inv X bH σ H s)(hN:X.N.Nodup)(hi:X.N[i]? =Y n)(hk:X.env.scope.names.lookup n=Y .local)
  (h:∀s',Inv X bH (σ.set i U) H s'->Q Unit.unit s'):aW M A (do bindName X.env n .none;unbindBehindTheSuite X.env n pos) Q E s:=by
 obtain⟨m,hn,hl⟩:=id I.loc;have cl:(X.env.scope.kind==.class || (X.env.scope.kind==.module && X.env.locals !=X.env.globals))=G:=by rw[I.ok.kind];rfl
 refine wpAny_nameGoes_keeps hk hn cl λh' v hn' sb=>?_;obtain⟨oL,_,_,gL,_⟩:=id hn;have ol:∀b ob,X.s₀.heap.get? b=Y ob->b≠X.env.locals:=λb ob g=>Jl (Je (JK g) I.ok.above);refine h _ ⟨I.ok,I.os,I.bare,⟨λb ob g z hb hx=>(sb.2 b (ol b ob g)).trans (I.ax.keep b ob g z hb hx),λb ob g z hb hx=>?_,I.ax.free,λb ob g hx=>?_,I.ax.ay,I.ax.frzs,I.ax.tbls⟩,
  ⟨_,hn',λj y v' e1 e2 e3=>?_⟩,λy c e=>?_,I.free,I.freeC,λp hp=>?_,λb w g=>?_,by simpa using I.len⟩
 ·obtain⟨sl,g1⟩:=I.ax.slot b ob g z hb hx;exact⟨sl,(sb.2 b (ol b ob g)).trans g1⟩
 ·obtain⟨o',g1⟩:=I.ax.there b ob g hx;exact⟨o',(sb.2 b (ol b ob g)).trans g1⟩
 ·have hj:j≠i:=λz=>by
   subst z;have:j < σ.length:=by rw[I.len];exact(JG.mp hi).1
   rw[List.getElem?_set_self this] at e2;cases e2
  rw[List.getElem?_set_ne (aV hj)] at e2;obtain⟨u',r',q⟩:=hl j y v' e1 e2 e3;refine⟨u',r',?_⟩;rcases q with ⟨k,e⟩ | ⟨k,c,e,z⟩
  ·refine .inl ⟨k,?_⟩;have:y≠n:=λz=>hj (zgp hN e1 (z ▸ hi));show(if y=n then v else m y)=Y u';rw[au this];exact e
  ·exact .inr ⟨k,c,e,z.sameBut sb (I.cne y c e)⟩
 ·obtain⟨w',z⟩:=I.cell y c e;exact⟨w',z.sameBut sb (I.cne y c e)⟩
 ·obtain⟨g,z,ne,nf,d⟩:=I.pin p hp;exact⟨(sb.2 p.1 ne).trans g,z,ne,nf,d⟩
 ·refine(I.hok b w g).stay (λc v2 hc q=>(sb.2 c λz=>?_).trans q) (λ_ q=>q) λ_ _ q=>q;subst z;rcases hc with y | y
  ·rw[<-y,I.free] at g;cases g
  ·rw[I.free] at y;cases y
end
def Ends.less (D:Ends)(i:Nat):Ends:={nx:=fun σ H=>D.nx (σ.set i U) H,rt:=D.rt,bk:=fun σ H=>D.bk (σ.set i U) H,ct:=fun σ H=>D.ct (σ.set i U) H}
def zlH (K:QA)(cv:aD)(i:Nat)(ts:TS)(D:Ends):St->XK:=fun σ cls od H'=>∃C,cls=.ref C/\PySem.W.exmOne K (.ref C) cv=Y Z/\
 ∀e,H' e=U->ts (D.less i) (σ.set i (Y (.ref e))) (upd H' e (exO e C od G))
def zsf (K:QA)(cv:aD)(i:Nat)(tb:(St->XK)->TS)(ts:TS):TS:=λD σ H=>tb (zlH K cv i ts D) D σ H
theorem _root_.Px.Chg2.mono {own':aE->Prop}(c:Chg2 fs own h h')(k:∀b,own b->own' b):Chg2 fs own' h h':=
 ⟨c.size,λb o q a n=>c.keep b o q a λz=>n (k b z),λb o q a n=>c.slot b o q a λz=>n (k b z)⟩
section
variable {X:Cx}{x n:Str}{i:Nat}{cv:aD}{body suite:List aB}{b₀:aB}{np hpos pos:Pos}{tb:(St->XK)->TS}{ts:TS}
def Inv.caught {s2:aM}{ea C T T':aE}(J0:Inv X bH σ H s)(os:s2.os=s.os)(bare:AllBare s2.gens)(un:Un (frs X.stack) [] H H' s.heap s2.heap)(hok:HOk X.prog X.w H' s2.heap)
  (old:s.heap.get? ea=U\/H ea≠U) (nT:s.heap.get? T=U) (u1:H' ea=U) (u2:H' T=U) (z:s2.heap.objs.size<=T') (c:Chg2 (frs X.stack) (λb=>b=ea\/b=T\/b=T') s2.heap h4) (tb:Tb h4 ea (.ref C) od T' .none):
  Inv X bH σ (upd H' ea (exO ea C od G)) {s2 with heap:=h4}:=by
 obtain⟨oe,vs,oT,tz,ge,e1,e2,e3,_⟩:=tb;have ge':h4.get? ea=Y ⟨.ref C,od,.fields vs,oe.slots⟩:=by obtain⟨c0,d0,dt,sl⟩:=oe;dsimp only at e1 e2 e3;subst e1;subst e2;subst e3;exact ge
 have nT2:s2.heap.get? T'=U:=JW z;have fr2:∀b∈frs X.stack,H' b=U:=λb hb=>by have J:=J0.call' os un hok bare (λb z=>nomatch z);exact J.stkFree b hb
 have u3:H' T'=U:=hok.fresh z;have af:Un (frs X.stack) [] H H' s.heap h4:=un.chg c (λb ob _ y=>y) λb y=>by
  rcases y with y | y | y
  ·subst y;rcases old with y | y
   ·exact .inl y
   ·exact .inr ⟨y,⟨_,ge⟩⟩
  ·subst y;exact .inl nT
  ·subst y;exact .inl (zal un (by intro z;cases z) nT2)
 have ae:HOk X.prog X.w H' h4:=hok.chg c (λb y=>by
  rcases y with y | y | y
  ·rw[y];exact u1
  ·rw[y];exact u2
  ·rw[y];exact u3) fr2
 refine J0.call' (s':={s2 with heap:=h4}) os (af.track u1 λob q=>.inr ?_) (ae.track u1 (zh2 ge' λz=>by cases z)) bare (λb z=>nomatch z);rcases old with y | y
 ·rw[y] at q;cases q
 ·exact y
def zjl (hst:X.stack=X.env::X.outer)(hfm:X.env.frame=Y X.env.locals)(hN:X.N.Nodup)(hi:X.N[i]? =Y n)(hlo:X.env.scope.names.lookup n=Y .local)(hg:Gl X x)(hm:X.mg x=Y cv)
  (hb:∀xe pn E,zdU (CX1 X.prog X.w) (X.tried xe pn) E->PSs (X.tried xe pn) body (tb E)) (hs:∀e,PSs (X.suite e) (b₀::suite) ts) (hdb:(x==("__debug__" :Str))=G:=by decide):
  PS X (.Try body [.ExceptHandler (Y (.Name x np)) (Y n) (b₀::suite) hpos] [] [] pos) (zsf X.K cv i tb ts):=by
 intro bH s σ H D I h;have key:zdU (CX1 X.prog X.w) (X.tried (λe s₁=>aW (aY X.prog X.w) X.A (noteFrame e X.env) (λ_ s₂=>aW (aY X.prog X.w) X.A (setFlight e U) (λ_ s₃=>
   aW (aY X.prog X.w) X.A (handleBy e X.env [.ExceptHandler (Y (.Name x np)) (Y n) (b₀::suite) hpos]) (SP X bH D) X.xe s₃) X.xe s₂) X.xe s₁) (X.pn++bH)) (zlH X.K cv i ts D):=by
  intro pins' σ' H1 s1 e s2 I1 hc;obtain⟨ea,cls,od,H',T,rfl,os,bare,un,hok,tb',old,nT,u1,u2,C,rfl,em,q⟩:=hc;have J0:Inv X bH σ' H1 s1:=I1.untried;have J:=J0.call' os un hok bare (λb z=>nomatch z);show aW _ _ (noteFrame (.ref ea) X.env) _ _ s2;refine zt4 (ax:=X.ax) (by rw[<-hst];exact J.ok.frames) (by rw[<-hst];exact J.stack) hfm tb' λh3 T' z t3 c3=>?_;rw[show(X.env::X.outer).filterMap (·.frame)=frs X.stack from by rw[hst];rfl] at c3;have c3':Chg2 (frs X.stack) (λb=>b=ea\/b=T\/b=T') s2.heap h3:=c3.mono λb y=>y.elim .inl λy=>.inr (.inl y);have J3:=J0.caught os bare un hok old nT u1 u2 z c3' t3;have LT:PySem.W.Looks (aY X.prog X.w) h3 (typeOf (.ref ea)) (.ref C):=by obtain⟨vs,sl,ge,_⟩:=zbq J3.hok za;exact(PySem.W.Looks.ld ge).andThen .now
  refine wpAny_handleBy_cons (codeAny_handlers_test (zbp (X:=X.suite ea) (J3.suite ea) hg hm ?_ hdb)) (by intro y;cases y);refine(PySem.W.exm_one J3.kIn LT em).here (s:={s2 with heap:=h3}) ?_;refine codeAny_handlers_suite_as ?_;refine zfv (s:={s2 with heap:=h3}) (fs:=frs X.stack) t3 λh4 t4 c4 k4=>?_;have J4:=J0.caught os bare un hok old nT u1 u2 z (c3'.trans (c4.two (own:=λb=>b=ea\/b=T\/b=T') (.inl rfl) (.inl (.inr (.inr rfl))))) t4;refine zfw (X:=X) J4 hN hi (.inl hlo) (show RelV (.ref ea) (aP ea) from rfl) (λs5 J5=>?_) (.inr hlo);refine a8 (hs ea bH s5 _ _ (D.less i) (J5.suite ea) (q ea u1)) (λf s6 q6=>?_) λ_ _ y=>y.elim;show aW _ _ _ _ _ _;cases f with
  | next=>obtain⟨σ6,H6,J6,y⟩:=q6;exact zcY (J6.unsuite J0.ok) hN hi hlo λs7 J7=>⟨_,_,J7,y⟩
  | brk=>obtain⟨σ6,H6,J6,y⟩:=q6;exact zcY (J6.unsuite J0.ok) hN hi hlo λs7 J7=>⟨_,_,J7,y⟩
  | cont=>obtain⟨σ6,H6,J6,y⟩:=q6;exact zcY (J6.unsuite J0.ok) hN hi hlo λs7 J7=>⟨_,_,J7,y⟩
  | ret u=>obtain⟨v6,σ6,H6,J6,rv,y⟩:=q6;exact zcY (J6.unsuite J0.ok) hN hi hlo λs7 J7=>⟨_,_,_,J7,rv,y⟩
 refine wpAny_Try_except (a8 (hb _ (X.pn++bH) _ key [] s σ H D (I.tried _) h) (λf s₁ q=>?_) λ_ _ y=>y);cases f with
 | next=>obtain⟨σ',H',I',y⟩:=q;exact wpAny_execs_nil ⟨σ',H',I'.untried,y⟩
 | brk=>obtain⟨σ',H',I',y⟩:=q;exact⟨σ',H',I'.untried,y⟩
 | cont=>obtain⟨σ',H',I',y⟩:=q;exact⟨σ',H',I'.untried,y⟩
 | ret u=>obtain⟨v,σ',H',I',rv,y⟩:=q;exact⟨v,σ',H',I'.untried,rv,y⟩
end
end L2
namespace L2
open PySem PySem.Spec PyProof.Rows
def cxC (X:Cx)(N:QQ)(scope:Scope)(cl:List (Str ×aE))(s₀:aM)(H₀:Hp)(ex:QP):Cx:=
 {X with N:=N,s₀:=s₀,H₀:=H₀,env:=compEnvC scope cl s₀.heap.objs.size X.env,outer:=X.stack,ex:=ex,fn:=λ_=>G,pn:=[],xe:=λ_ _=>False}
structure zo (X:Cx)(x:Str)(ys:QQ)(js:List Nat)(scope:Scope)(cl:List (Str ×aE)):Prop where
 clos:closureFor scope X.env=pure cl
 kind:scope.kind=.function
 nocell:∀y∈scope.names,y.2≠ .cell
 names:∀y∈scope.names,y.2=.local->scope.names.lookup y.1=Y .local
 tgt:scope.names.lookup x=Y .local
 nd:(x::ys).Nodup
 sub:∀p∈cl,X.env.cells.lookup p.1=Y p.2
 has:∀p∈(relabel scope X.env).names,p.2=.cell\/p.2=.free->p.1∈cl.map (·.1)
 fr:∀(i:Nat)(y:Str),ys[i]? =Y y->∃j,js[i]? =Y j/\X.N[j]? =Y y/\(X.env.kindOf y=Y .cell\/X.env.kindOf y=Y .free)/\((relabel scope X.env).names.lookup y=Y .cell\/(relabel scope X.env).names.lookup y=Y .free)
 len:js.length=ys.length
def zbC {cl:List (Str ×aE)}:∀{y:Str},y∈cl.map (·.1)->∃c,cl.lookup y=Y c:=by
 induction cl with
 | nil=>intro y h;simp at h
 | cons p r ih=>
  intro y h;rw[List.lookup_cons];cases e:y==p.1 with
  | true=>exact⟨p.2,O⟩
  | false=>
   rw[JX,JJ] at h;rcases h with h | h
   ·rw[h] at e;simp at e
   ·exact ih h
def PTs (X:Cx)(ifs:List aX)(t:TT):Prop:=
 ∀(bH:QE)(s:aM)(σ:St)(H:Hp)(Q:Bool->Hp->Prop),Inv X bH σ H s->t σ H Q->
  aW (aY X.prog X.w) X.A (forIn ifs Z λc r=>if r=Z then do let ok<-isTrue c X.env (aZ c X.env);pure (ForInStep.yield ok) else pure (ForInStep.yield r)) (TP X bH σ Q) X.xe s
def zff:TT:=λ_ H Q=>Q Z H
def za5:PTs X [] zff:=λ_ _ _ H _ I h=>wpAny_tests_nil ⟨H,I,h⟩
def zlS (h:PT X c t):PTs X [c] t:=λbH s σ H Q I q=>wpAny_tests_one (h bH s σ H Q I q)
def frees (σ:St)(js:List Nat):St:=js.map λj=>(σ[j]?).getD U
def zeX (J:It)(p:aE)(σ:St)(js:List Nat)(tt:TT)(te:TE)(H1:Hp)(Q:VK):Prop:=
 ∃W:Nat->Nat->List V->Hp->Prop,(∃m,W 0 m [] (upd H1 p (.lst [])))/\∀i m acc H,W i m acc H->
  (J.stop i H/\Q (.ref p) H)\/(J.go i H/\∀x H',J.yld i H x H'->tt (Y x::frees σ js) H' λok H2=>
   if ok=Z then te (Y x::frees σ js) H2 λy H3=>H3 p=Y (.lst acc)/\acc.length < aQ/\∃m',m' < m/\W (i+1) m' (acc++ [y]) (upd H3 p (.lst (acc++ [y])))
   else∃m',m' < m/\W (i+1) m' acc H2)
def zoi (n:Nat)(g:TG)(J:It)(p:aE)(σ:St)(js:List Nat)(tt:TT)(te:TE)(H1:Hp)(Q:VK):Prop:=
 ∃W:Nat->Nat->List V->Hp->Prop,(∃m,W 0 m [] (upd H1 p (.lst [])))/\∀i m acc H,W i m acc H->
  (J.stop i H/\Q (.ref p) H)\/(J.go i H/\∀x H',J.yld i H x H'->∃vs:St,vs.length=n/\(∀(σ0:St)(R:St->Hp->Prop),σ0.length=n->R (vs++frees σ js) H'->g x (σ0++frees σ js) H' R)/\tt (vs++frees σ js) H' λok H2=>
   if ok=Z then te (vs++frees σ js) H2 λy H3=>H3 p=Y (.lst acc)/\acc.length < aQ/\∃m',m' < m/\W (i+1) m' (acc++ [y]) (upd H3 p (.lst (acc++ [y])))
   else∃m',m' < m/\W (i+1) m' acc H2)
theorem zeX.g (h:zeX J p σ js tt te H1 Q):zoi 1 (zcg 0) J p σ js tt te H1 Q:=by
 obtain⟨W,w0,f⟩:=h;refine⟨W,w0,λi m acc H w=>?_⟩;rcases f i m acc H w with z | ⟨z,y⟩
 ·exact .inl z
 ·refine .inr ⟨z,λx H' e=>⟨[Y x],O,fun σ0 R l r=>?_,y x H' e⟩⟩;obtain⟨o,rfl⟩:=List.length_eq_one_iff.mp l;exact r
abbrev Lp (h:aF):aF:=h.push {cls:=.type "list",dict:=U,data:=.seq ([]:QO).toArray}
def znv (wi:TI)(Cw:It->aE->St->Hp->VK->Prop):TE:=fun σ H Q=>wi σ H λJ H1=>∀p,H1 p=U->Cw J p σ H1 Q
def zlx (wi:TI)(js:List Nat)(tt:TT)(te:TE):TE:=fun σ H Q=>wi σ H λJ H1=>∀p,H1 p=U->zeX J p σ js tt te H1 Q
section
variable {X:Cx}{x:Str}{ys:QQ}{js:List Nat}{scope:Scope}{cl:List (Str ×aE)}{bH:QE}{σ:St}{H:Hp}{s:aM}
def zo.cells (S:zo X x ys js scope cl){c:aE}(h:cl.lookup y=Y c):X.env.cells.lookup y=Y c:=S.sub (y,c) (bq h)
def zp6 {zs:QQ}(S:zo X x ys js scope cl)(I:Inv X bH σ H s){fp:QP}(f:∀b∈fp,FpOk X bH H b)(fo:∀b∈fp,b < s.heap.objs.size){h1:aF}{m:QB}{t1:Nat}(hn:h1.Ns s.heap.objs.size m)
  (k:∀b o,s.heap.get? b=Y o->h1.get? b=Y o):
  Inv (cxC X (zs++ys) scope cl s H fp) (X.pn++bH) (List.replicate zs.length U++frees σ js) H {s with heap:=h1,toks:=t1}:=by
 have nfs:∀b∈fp,b∉frs X.stack:=λb hb z=>(JJ.mp (I.stkSub b z)).elim (f b hb).2.1 (f b hb).2.2.1;have kept:∀y c,cl.lookup y=Y c->∀v,s.heap.IsCell c v->h1.IsCell c v:=λy c _ v ⟨o,ho,hd⟩=>⟨o,k c o ho,hd⟩;refine⟨⟨I.ok.mod,S.kind,I.ok.glob,I.ok.blt,Jb _,λy z c e1 e2=>I.ok.inj y z c (S.cells e1) (S.cells e2),λy hy=>?_,λy c e _=>Jf e Jd,I.ok.hd,I.ok.frames,.inl rfl,λb hb=>⟨?_,λy c e=>(f b hb).2.2.2.2.1 y c (S.cells e)⟩,
   I.bs,Jg I.ok.bsz I.sz,λb o e hb=>?_,nfs,I.stack,I.stkFree⟩,
  I.os.trans ?_,I.bare,Un.kept k,⟨m,hn,λi y v e1 e2 e3=>?_⟩,λy c e=>?_,I.hok.fresh (Jb _),λy c e=>I.freeC y c (S.cells e),λp hp=>?_,I.hok.kept k,?_⟩
 ·rcases hy with hy | hy
  ·exact zbC (S.has _ (bq hy) (.inl rfl))
  ·exact zbC (S.has _ (bq hy) (.inr rfl))
 ·exact Jl (fo b hb)
 ·rcases(f b hb).2.2.2.1 with z | z
  ·exact I.ok.noex b o e z
  ·exact Jf (Je (JK e) (Jg I.ok.bsz z)) (Jw _)
 ·exact I.os.symm
 ·have e1:(zs++ys)[i]? =Y y:=e1;by_cases hi:i < zs.length
  ·rw[Nt (by rw[Nu];exact hi),List.getElem?_replicate,av hi] at e2;cases e2
  ·rw[JY ()] at e1;rw[JY (by rw[Nu];lia),Nu] at e2;generalize i - zs.length=i at e1 e2;obtain⟨j,ej,eN,ek,ek'⟩:=S.fr i y e1;have es:σ[j]? =Y (Y v):=by
    have q:(frees σ js)[i]? =Y (Y v):=e2;unfold frees at q;rw[JV,ej] at q;have q':(σ[j]?).getD U=Y v:=JP q;cases e:σ[j]? with
    | none=>rw[e] at q';cases q'
    | some o=>rw[e] at q';cases q';rfl
   obtain⟨m0,_,hl⟩:=I.loc;obtain⟨u,r,l⟩:=hl j y v eN es (.inr ek);rcases l with ⟨l,_⟩ | ⟨_,c,ec,hc⟩
   ·rcases ek with ek | ek <;> · rw[ek] at l;cases l
   ·have hk:y∈cl.map (·.1):=by
     rcases ek' with q | q
     ·exact S.has _ (bq q) (.inl rfl)
     ·exact S.has _ (bq q) (.inr rfl)
    obtain⟨c',ec'⟩:=zbC hk;have e:=S.cells ec';rw[ec] at e;cases e;exact⟨u,r,.inr ⟨ek',c,ec',kept y c ec' _ hc⟩⟩
 ·obtain⟨v,q⟩:=I.cell y c (S.cells e);exact⟨v,kept y c e v q⟩
 ·have hp':p∈X.pn++bH:=(Jk.mp hp).elim (λz=>Jf (show p∈([]:QE) from z) (by simp)) id;obtain⟨a,b,c,d,e⟩:=I.pin p hp';exact⟨k _ _ a,b,Jl (JK a),λz=>(JJ.mp (I.stkSub _ z)).elim c d,e⟩
 ·show _=(zs++ys).length;unfold frees;rw[JF,JF,Nu,JI,S.len]
def zjc (I:Inv X bH σ H0 s0){fp:QP}(f:∀b∈fp,FpOk X bH H0 b)(U0:Un (frs X.stack) fp H0 H s0.heap s.heap)(ho:s.os=s0.os)
   (J:Inv (cxC X N scope cl s H fp) pins' σ' H1 s1):Inv X bH σ H1 s1:=by
 have U1:Un (frs X.stack) fp H H1 s.heap s1.heap:=J.ax;exact I.call' (J.os.trans ho) (U0.trans U1) J.hok J.bare λb hb=>⟨(f b hb).2.2.2.1,(f b hb).2.1,(f b hb).2.2.2.2.1,(f b hb).2.2.2.2.2⟩
variable {iter elt:aX}{ifs:List aX}{px pos:Pos}{wi:TI}{tt:TT}{te:TE}
def zhg {zs:QQ}{W:aM->Hp->List aE->aD->aM->Prop}(S:zo X x ys js scope cl)(hc:X.calm=Z)(ah:∀s₀ H₀ ex,PG (cxC X (zs++ys) scope cl s₀ H₀ ex) tg g)(ht:∀s₀ H₀ ex,PTs (cxC X (zs++ys) scope cl s₀ H₀ ex) ifs tt)(he:∀s₀ H₀ ex,PE ((cxC X (zs++ys) scope cl s₀ H₀ ex).wish (W s₀ H₀ ex)) elt te)
     {fp:QP}   (I2:Inv X bH σ H2 s2) (T:Turn X.prog X.w X.K tg J fp it tn) (st2:tn 0 s2.heap) (f2:∀b∈fp,FpOk X bH H2 b)
   (q:∀p,H2 p=U->zoi zs.length g J p σ js tt te H2 Q)
  {R:aD->aE->Result->aM->Prop}
  (hR:∀(p:aE)(C:aE)(H':Hp)(s':aM)(m:QB),s2.heap.objs.size<=C->s'.heap.Ns C m->H' C=U->Inv X bH σ H' s'->Q (.ref p) H'->R (.ref p) C (.ok .next) s')
  (hW:∀e s',W {s2 with heap:=(Lp s2.heap)} (upd H2 s2.heap.objs.size (.lst [])) fp e s'->notedBy (aY X.prog X.w) X.A (compEnvC scope cl (Lp s2.heap).objs.size X.env) (λe s'=>R (.ref s2.heap.objs.size) (Lp s2.heap).objs.size (.error e) s') e s'):
  aW (aY X.prog X.w) X.A (newList []) (λacc s₃=>aW (aY X.prog X.w) X.A (newFunctionEnv scope X.env.globals cl [] X.env.qual U .none (Y X.env)) (λcenv s₄=>
   codeAny (aY X.prog X.w) X.A (.compStart (.ListComp elt [⟨tg,iter,ifs,0⟩] scope pos) 0 (.ref it) acc {cenv with scope:=relabel scope X.env}) (R acc cenv.locals) s₄) X.xe s₃) X.xe s2:=by
 refine bB (wpAny_newFunctionEnv S.nocell (by intro y hy;simp at hy) (λh₁ hns₁ hsb₁=>?_) S.kind);have fr2:H2 s2.heap.objs.size=U:=I2.hok.fresh (Jb _);obtain⟨Y1,⟨m0,w0⟩,turn⟩:=q _ fr2;have I3:Inv X bH σ (upd H2 s2.heap.objs.size (.lst [])) {s2 with heap:=Lp s2.heap}:=
  I2.laid (t':=s2.toks) (λb u e=>JE _ e) (Jb _) ⟨JN _,[],0,.nil,JL _ rfl⟩
 have U0:Un (frs X.stack) fp H2 (upd H2 s2.heap.objs.size (.lst [])) s2.heap (Lp s2.heap):=
  Un.laid (λb u e=>JE _ e) (Jb _) fr2
 have fo:∀b∈fp,b < s2.heap.objs.size:=λb hb=>by obtain⟨o,e,_⟩:=T.obj 0 _ st2 b hb;exact JK e
 have f3:∀b∈fp,FpOk X bH (upd H2 s2.heap.objs.size (.lst [])) b:=λb hb=>⟨by rw[zd (Jl (fo b hb))];exact(f2 b hb).1,(f2 b hb).2⟩
 have hold:∀b o,(Lp s2.heap).get? b=Y o->h₁.get? b=Y o:=λb o e=>
  hsb₁.extBut b o (Jl (JK e)) (JE _ e)
 have fo3:∀b∈fp,b < (Lp s2.heap).objs.size:=λb hb=>by rw[Ng];exact Nat.lt_succ_of_lt (fo b hb)
 have I4:=zp6 (zs:=zs) (t1:=s2.toks+([]:QL).length) S I3 f3 fo3 hns₁ hold;have st4:tn 0 h₁:=T.keep _ _ _ st2 λb _ o e=>hold b o (JE _ e);have stat:∀{H':Hp},(∀b∈fp,H' b=U)->∀b∈fp,FpOk (cxC X (zs++ys) scope cl {s2 with heap:=Lp s2.heap} (upd H2 s2.heap.objs.size (.lst [])) fp) (X.pn++bH) H' b:=λhn b hb=>
  ⟨hn b hb,Jl (fo3 b hb),I4.ok.exfs b hb,.inl hb,λy c e=>(f2 b hb).2.2.2.2.1 y c (S.cells e),λp hp=>(f2 b hb).2.2.2.2.2 p ((Jk.mp hp).elim (λz=>Jf (show p∈([]:QE) from z) (by simp)) id)⟩
 have loop:codeAny (aY X.prog X.w) X.A (.compLoop (.ListComp elt [⟨tg,iter,ifs,0⟩] scope pos) 0 (.ref it) (.ref s2.heap.objs.size) (compEnvC scope cl (Lp s2.heap).objs.size X.env))
   (R (.ref s2.heap.objs.size) (Lp s2.heap).objs.size) {s2 with heap:=h₁,toks:=s2.toks+([]:QL).length}:=by
  refine codeAny_loop rfl (λn s'=>∃i acc σ0 H',σ0.length=zs.length/\Inv (cxC X (zs++ys) scope cl {s2 with heap:=Lp s2.heap} (upd H2 s2.heap.objs.size (.lst [])) fp) (X.pn++bH) (σ0++frees σ js) H' s'/\tn i s'.heap/\(∀b∈fp,H' b=U)/\Y1 i n acc H')
   (λn s5 hI=>?_) m0 ⟨0,[],List.replicate zs.length U,_,Nu ..,I4,st4,λb hb=>(f3 b hb).1,w0⟩
  show aW _ X.A ((compTurn (.ListComp elt [⟨tg,iter,ifs,0⟩] scope pos) 0 (.ref it) (.ref s2.heap.objs.size) (compEnvC scope cl (Lp s2.heap).objs.size X.env)).onRaise (λx=>do noteFrame x (compEnvC scope cl (Lp s2.heap).objs.size X.env);theTreesLotGoes x)) _ _ s5;refine wpAny_noted ?_;rw[compTurn_list];obtain⟨i,acc,σ0,H5,l0,I5,st5,fr5,w5⟩:=hI;refine Ja (wpAny_standAt (Ja ?_));rcases turn i n acc H5 w5 with ⟨stop,qn⟩ | ⟨go,step⟩
  ·refine a8 (T.done (cxC X (zs++ys) scope cl {s2 with heap:=Lp s2.heap} (upd H2 s2.heap.objs.size (.lst [])) fp) rfl rfl rfl hc i _ s5 _ H5 _ I5 (stat fr5) st5 stop) (λr s6 ⟨hr,I6⟩=>?_) λ_ _ e=>e;subst hr;obtain⟨m,hn,_⟩:=I6.loc;exact bc (hR _ _ H5 s6 m (by rw[Ng];exact Nat.le_succ _) hn I6.free (zjc I2 f2 U0 (by rfl) I6) qn)
  ·refine a8 (T.item (cxC X (zs++ys) scope cl {s2 with heap:=Lp s2.heap} (upd H2 s2.heap.objs.size (.lst [])) fp) rfl rfl rfl hc i _ s5 _ H5 _ I5 (stat fr5) st5 go) (λr s6 ⟨u,hr,h6⟩=>?_) λ_ _ e=>e;subst hr;refine Ja (a8 h6 (λ_ s7 ⟨v,H7,I7,r7,y7,st7,fr7⟩=>?_) λ_ _ e=>e);have I7':=I7.pinned (stat fr7) (T.obj _ _ st7);obtain⟨vs,lv,gv,step⟩:=step v _ y7;refine Ja (a8 (ah _ _ _ _ s7 _ H7 v u (fun σ8 H8=>σ8=vs++frees σ js/\H8=H7) I7' r7 (gv _ _ l0 ⟨O,O⟩)) (λ_ s8 ⟨σ8,H8,I8,e8,e8'⟩=>?_) λ_ _ e=>e.elim);subst e8 e8';refine Ja (a8 (ht _ _ _ _ s8 _ _ _ I8 step) (λok s9 ⟨H9,I9,q9⟩=>?_) λ_ _ e=>e.elim);have again:∀{acc':QR}{H10:Hp}{s10:aM},Inv (cxC X (zs++ys) scope cl {s2 with heap:=Lp s2.heap} (upd H2 s2.heap.objs.size (.lst [])) fp) (X.pn++bH++zgi fp s7.heap) (vs++frees σ js) H10 s10->
     (∃m',m' < n/\Y1 (i+1) m' acc' H10)->∃m,m < n/\∃i acc σ0 H',σ0.length=zs.length/\Inv (cxC X (zs++ys) scope cl {s2 with heap:=Lp s2.heap} (upd H2 s2.heap.objs.size (.lst [])) fp) (X.pn++bH) (σ0++frees σ js) H' s10/\tn i s10.heap/\(∀b∈fp,H' b=U)/\Y1 i m acc H':=λ{acc' H10 s10} I10 ⟨m',hm,w10⟩=>by
    refine⟨m',hm,i+1,acc',vs,H10,lv,I10.unpinned,T.keep _ _ _ st7 λb hb o e=>(I10.pin (b,o) (Jh _ (Jh _ (zb1 hb e)))).1,λb hb=>?_,w10⟩;obtain⟨o,e,d⟩:=T.obj _ _ st7 b hb;exact(I10.pin (b,o) (Jh _ (Jh _ (zb1 hb e)))).2.1
   cases ok with
   | false=>rw[au Jd] at q9;exact bc ⟨O,again I9 q9⟩
   | true=>
    rw[av rfl] at q9;refine Ja (Ja (a8 (he _ _ _ _ s9 _ _ _ (I9.wish _) q9) (λy s10 ⟨z,H10,I10',r10,e10,l10,w10⟩=>?_) hW));have I10:=I10'.unwish;refine Ja (a8 (zgR (X:=cxC X (zs++ys) scope cl {s2 with heap:=Lp s2.heap} (upd H2 s2.heap.objs.size (.lst [])) fp) _ s10 _ H10 (.ref s2.heap.objs.size) [z] (.ref s2.heap.objs.size) [y] (λ_ H'=>H'=upd H10 s2.heap.objs.size (.lst (acc++ [z]))) I10 rfl (.cons r10 .nil) ⟨_,acc,z,O,O,e10,l10,O⟩)
     (λ_ s11 ⟨_,H11,I11,_,e11⟩=>?_) λ_ _ e=>e.elim)
    subst e11;exact bc (bc ⟨O,again I11 w10⟩)
 exact codeAny_compStart_list loop (T.self _ 0 _ _ _ st4 loop)
def CRun (X:Cx)(tg:aX)(Cw:It->aE->St->Hp->VK->Prop)(iter elt:aX)(ifs:List aX)(scope:Scope)(cl:List (Str ×aE))(pos:Pos):Prop:=
 ∀{bH:QE}{σ:St}{s2:aM}{H2:Hp}{it:aE}{fp:QP}{tn:Nat->aF->Prop}{J:It},Inv X bH σ H2 s2->Turn X.prog X.w X.K tg J fp it tn->tn 0 s2.heap->(∀b∈fp,FpOk X bH H2 b)->
  ∀{Q:VK},(∀p,H2 p=U->Cw J p σ H2 Q)->∀{use:Option (aD->Sem Unit)}{F:QC},
  (∀(p:aE)(C:aE)(H':Hp)(s':aM)(m:QB),s2.heap.objs.size<=C->s'.heap.Ns C m->H' C=U->Inv X bH σ H' s'->Q (.ref p) H'->compPost (aY X.prog X.w) X.A X.xe use F (.ref p) C (.ok .next) s')->
  aW (aY X.prog X.w) X.A (newList []) (λacc s₃=>aW (aY X.prog X.w) X.A (newFunctionEnv scope X.env.globals cl [] X.env.qual U .none (Y X.env)) (λcenv s₄=>
   codeAny (aY X.prog X.w) X.A (.compStart (.ListComp elt [⟨tg,iter,ifs,0⟩] scope pos) 0 (.ref it) acc {cenv with scope:=relabel scope X.env}) (compPost (aY X.prog X.w) X.A X.xe use F acc cenv.locals) s₄) X.xe s₃) X.xe s2
def tgN (S:zo X x ys js scope cl):PG (cxC X (x::ys) scope cl s₀ H₀ ex) (.Name x px) (zcg 0):=zhZ S.nd rfl (.inl (lookup_relabel_local S.tgt)) (.inr (lookup_relabel_local S.tgt))
def crun (S:zo X x ys js scope cl)(hc:X.calm=Z)(ht:∀s₀ H₀ ex,PTs (cxC X (x::ys) scope cl s₀ H₀ ex) ifs tt)(he:∀s₀ H₀ ex,PE (cxC X (x::ys) scope cl s₀ H₀ ex) elt te):CRun X (.Name x px) (λJ p σ H1 Q=>zeX J p σ js tt te H1 Q) iter elt ifs scope cl pos:=
 λI2 T st2 f2 _ q _ _ hR=>zhg (zs:=[x]) (W:=λ_ _ _ _ _=>False) S hc (λ_ _ _=>tgN S) ht he I2 T st2 f2 (λp hp=>(q p hp).g) hR λ_ _ z=>z.elim
def zhj (hr:CRun X tg Cw iter elt ifs scope cl pos)(S:zo X x ys js scope cl)(hi:PI X tg iter wi)
  (hs:∀x,foldedSetIterable iter X.env x=pure x:=by intro _;rfl):PE X (.ListComp elt [⟨tg,iter,ifs,0⟩] scope pos) (znv wi Cw):=by
 intro bH s σ H Q I h;rw[eval_ListComp];refine wpAny_comprehension_free (use:=U) rfl hs S.clos S.kind S.names (thn (hi bH s σ H _ I h) λv s1 h1=>thn h1 λitv s2 h2=>?_);obtain⟨it,fp,tn,J,H2,e,I2,T,st2,f2,q⟩:=h2;subst e;refine hr I2 T st2 f2 (Q:=Q) q λp C H' s' m hC hn hf I' q'=>?_;refine⟨m,hn,λh' hb=>⟨.ref p,H',?_,O,q'⟩⟩;exact I'.turned (it:=C) (t':=s'.toks) (λb o hne e=>hb.extBut b o hne e) hf (Nat.ne_of_gt (Je I2.lt hC)) (.inr (Jg I2.sz hC))
  (λy c e z=>by obtain⟨v,w⟩:=I2.cell y c e;subst z;exact Jw _ (Je w.lt hC)) λp hp z=>by have q:=JK (I2.pin p hp).1;rw[z] at q;exact Jw _ (Je q hC)
def zbl (S:zo X x ys js scope cl)(hc:X.calm=Z)(hi:PI X (.Name x px) iter wi)(ht:∀s₀ H₀ ex,PTs (cxC X (x::ys) scope cl s₀ H₀ ex) ifs tt)(he:∀s₀ H₀ ex,PE (cxC X (x::ys) scope cl s₀ H₀ ex) elt te)
  (hs:∀x,foldedSetIterable iter X.env x=pure x:=by intro _;rfl):PE X (.ListComp elt [⟨.Name x px,iter,ifs,0⟩] scope pos) (zlx wi js tt te):=
 zhj (crun S hc ht he) S hi hs
def zmA {i:Nat}{y:Str}{py spos:Pos}(hr:CRun X tg Cw iter elt ifs scope cl pos)(S:zo X x ys js scope cl)(hi:PI X tg iter wi)
  (hN:X.N.Nodup) (hy:X.N[i]? =Y y) (hx:Loc X.env.scope y) (hsw:swapsWith (.ListComp elt [⟨tg,iter,ifs,0⟩] scope pos) (Y (.Name y py)) spos.line X.env=pure Z)
  (hf:X.fn y=Z\/X.env.scope.names.lookup y=Y .local:=by first | exact .inl rfl | exact .inr rfl | assumption)
  (hs:∀x,foldedSetIterable iter X.env x=pure x:=by intro _;rfl):PS X (.Assign [.Name y py] (.ListComp elt [⟨tg,iter,ifs,0⟩] scope pos) spos) (tAsg (znv wi Cw) (zcg i)):=by
 intro bH s σ H D I h;rw[exec_Assign_Name_used _ _ _ _ hsw];refine Ja (wpAny_standAt (Ja ?_));show aW _ X.A (do let _<-comprehension (.ListComp elt [⟨tg,iter,ifs,0⟩] scope pos) scope X.env _ (newList []) G (aZ iter X.env) (Y (assign (.Name y py) X.env))) _ _ s;refine Ja (a8 (wpAny_comprehension_free (use:=Y (assign (.Name y py) X.env)) (Q:=λ_ s'=>SP X bH D .next s') rfl hs S.clos S.kind S.names
  (thn (hi bH s σ H _ I h) λv s1 h1=>thn h1 λitv s2 h2=>?_)) (λ_ s' hq=>bc (bc hq)) λ_ _ e=>e)
 obtain⟨it,fp,tn,J,H2,e,I2,T,st2,f2,q⟩:=h2;subst e;refine hr I2 T st2 f2 (Q:=λx H1=>zcg i x σ H1 D.nx) q λp C H' s' m hC hn hf' I' q'=>?_;have neL:C≠X.env.locals:=Nat.ne_of_gt (Je I2.lt hC);have nfs:C∉X.fs:=I2.nofs hC;have hn0:=hn;obtain⟨o,es,ep,ho,hd,r⟩:=hn;have Ip:Inv X (bH++ [(C,o)]) σ H' s':=I'.pins_of λp hp=>(Jk.mp hp).elim (λz=>I'.pin p (Jh _ z)) λz=>by
  have e:p=(C,o):=by simpa using z
  subst e;exact⟨ho,hf',neL,nfs,λv w=>by rw[hd] at w;cases w⟩
 show aW _ _ (assign (.Name y py) X.env (.ref p)) _ _ s';refine thn (zhZ (pos:=py) hN hy hx hf _ s' σ H' (.ref p) (.ref p) _ Ip rfl q') λ_ s'' ⟨σ8,H8,I8,q8⟩=>?_;have pc:=I8.pin (C,o) (Jh _ (Jh _ (by simp)));refine⟨m,⟨o,es,ep,pc.1,hd,r⟩,λh' hb=>⟨σ8,H8,?_,q8⟩⟩;have I9:Inv X bH σ8 H8 s'':=I8.pins_of λp hp=>I8.pin p (Jh _ (Jo _ hp));exact I9.turned (it:=C) (t':=s''.toks) (λb o hne e=>hb.extBut b o hne e) pc.2.1 neL (.inr (Jg I2.sz hC))
  (λy c e z=>by obtain⟨v,w⟩:=I2.cell y c e;subst z;exact Jw _ (Je w.lt hC)) λp hp z=>by have q:=JK (I2.pin p hp).1;rw[z] at q;exact Jw _ (Je q hC)
def zgv {i:Nat}{y:Str}{py spos:Pos}(S:zo X x ys js scope cl)(hc:X.calm=Z)(hi:PI X (.Name x px) iter wi)(ht:∀s₀ H₀ ex,PTs (cxC X (x::ys) scope cl s₀ H₀ ex) ifs tt)(he:∀s₀ H₀ ex,PE (cxC X (x::ys) scope cl s₀ H₀ ex) elt te)
  (hN:X.N.Nodup) (hy:X.N[i]? =Y y) (hx:Loc X.env.scope y) (hsw:swapsWith (.ListComp elt [⟨.Name x px,iter,ifs,0⟩] scope pos) (Y (.Name y py)) spos.line X.env=pure Z)
  (hf:X.fn y=Z\/X.env.scope.names.lookup y=Y .local:=by first | exact .inl rfl | exact .inr rfl | assumption)
  (hs:∀x,foldedSetIterable iter X.env x=pure x:=by intro _;rfl):PS X (.Assign [.Name y py] (.ListComp elt [⟨.Name x px,iter,ifs,0⟩] scope pos) spos) (tAsg (zlx wi js tt te) (zcg i)):=
 zmA (crun S hc ht he) S hi hN hy hx hsw hf hs
def zoT (i j:Int):Prop:=0 < j/\j < 10 ^ 100
def zoT.log (h:zoT i j):j.natAbs.log2 < 9000:=by
 have h1:j.natAbs < 10 ^ 100:=by have:=h.1;have:=h.2;lia
 have h2:j.natAbs < 2 ^ 400:=Nat.lt_trans h1 (by decide+kernel);have h3:j.natAbs≠0:=by have:=h.1;lia
 have:=(Nat.log2_lt h3).mpr h2;lia
def znJ:OpR X (binaryOp .FloorDiv) (rI zoT λi j=>.int (i / j)):=opI λi j _ _ _ _ _ hc q=>by rw[<-Int.fdiv_eq_ediv_of_nonneg i (Int.le_of_lt hc.1)] at q;exact floordiv_int (by have:=hc.1;lia) q (.inl (PyProof.noPylong_of_log2 hc.log))
def zoe (K:QA):List V->Hp->VK->Prop:=λxs H Q=>∃x T t b,xs=[x,.ty T]/\TyOf K H x t/\bg K t (.type T)=Y b/\Q (.bl b) H
def zS:zac X (.builtin "isinstance") (zoe X.K):=by intro bH s σ H xs us Q I r h;obtain⟨x,T,t,b,rfl,ty,e,q⟩:=h;obtain⟨u,w',rfl,ru,rw'⟩:=vals2 r;cases (show w'=Value.type T from rw');exact zmH I ru ty e λtk=>⟨.bl b,H,I.tok tk,O,q⟩
example (K:QA):bg K (.type "NoneType") (.type "int")=Y G:=by rfl
example (K:QA):bg K (.type "int") (.type "int")=Y Z:=by rfl
example (K:QA):bg K (.type "tuple") (.type "str")=Y G:=by rfl
example (K:QA):bg K (.type "bool") (.type "int")=Y Z:=by rfl
example (K:QA):bg K (.type "str") (.type "bool")=Y G:=by rfl
def Its (x:Str):It:=⟨λi _=>i < x.cps.size,λi H v H'=>H'=H/\∃c,x.cps[i]? =Y c/\v=.str ⟨#[c]⟩,λi _=>x.cps.size<=i⟩
def ziI {P:aG}{w:aH}{K:QA}{tg:aX}{x:Str}{it:aE}{n:String}{t:Tok}(hn:["enumerate","zip","dict_itemiterator","dict_reverseitemiterator","odict_iterator","itertools.zip_longest","itertools.pairwise"].contains n=G)
  (W:∀A':aU,A'.handled=U->Walks P w A' it [it] [it] x.cps.size (SignAt x) (λi h=>h.IsStrIter it n x t i))
  (E0:∀(A':aU)(s:aM)(Q:Option aD->aM->Prop)(E:QC)(i:Nat),A'.handled=U->s.heap.IsStrIter it n x t i->x.cps.size<=i->(∀h',(∀b o,b≠it->s.heap.get? b=Y o->h'.get? b=Y o)->Q U {s with heap:=h'})->aW (aY P w) A' (pyNext (.ref it)) Q E s)
  (S0:∀(A':aU)(s:aM)(Q:QC)(E:QC)(i:Nat),s.heap.IsStrIter it n x t i->Q (.ref it) s->aW (aY P w) A' (pyIter (.ref it)) Q E s):
  Turn P w K tg (Its x) [it] it (λi h=>h.IsStrIter it n x t i) where
 mem:=by simp
 obj:=λi h st b hb=>by
  have e:b=it:=by simpa using hb
  subst e;obtain⟨o,e,c,d⟩:=st;exact⟨o,e,λv z=>by rw[d] at z;cases z⟩
 keep:=λi h h' st k=>by obtain⟨o,e,r⟩:=st;exact⟨o,k it (by simp) o e,r⟩
 item:=by intro X hP hw hK hc i bH s σ H E I hf st hg;subst hP hw hK;obtain⟨f0,f1,f2,f3,f4,f5⟩:=hf it (by simp);refine(W X.A (I.ok.hd hc)).item i s _ _ hg st λv h' tk hv st' kk=>?_;obtain⟨c,u,hc',rfl⟩:=hv;have I1:Inv X bH σ H {s with heap:=h',toks:=tk}:=I.turned (λb o hb e=>kk b o (by simpa using hb) e) f0 f1 f3 f4 f5;obtain⟨o,e,cl,d⟩:=id st';exact⟨B,zgQ (s:={s with heap:=h',toks:=tk}) e cl d hn ⟨.str ⟨#[c]⟩,H,I1,⟨u,O⟩,⟨O,c,hc',O⟩,st',λb hb=>(hf b hb).1⟩⟩
 done:=by intro X hP hw hK hc i bH s σ H E I hf st hg;subst hP hw hK;obtain⟨f0,f1,f2,f3,f4,f5⟩:=hf it (by simp);exact E0 X.A s _ _ i (I.ok.hd hc) st hg λh' eb=>⟨O,I.turned (t':=s.toks) (λb o hb e=>eb b o hb e) f0 f1 f3 f4 f5⟩
 self:=λA i s Q E st h=>S0 A s Q E i st h
def iStr (tl:TE):TI:=fun σ H R=>tl σ H λx H1=>∃z,x=.str z/\R (Its z) H1
def zoG (hl:PE X l tl):PI X tg l (iStr tl):=by
 intro bH s σ H R I h;refine thn (hl bH s σ H _ I h) λv s1 ⟨x,H1,I1,r1,q1⟩=>?_;obtain⟨z,rfl,q⟩:=q1;obtain⟨t,rfl⟩:=r1;have fp:∀b∈ [s1.heap.objs.size],FpOk X bH H1 b:=λb hb=>by
  have e:b=s1.heap.objs.size:=by simpa using hb
  subst e;exact I1.fpOk (Jb _) (I1.hok.fresh (Jb _))
 cases ha:z.cps.all (· < 128)
 ·refine wpAny_pyIter_wide ha ?_;exact⟨s1.heap.objs.size,[s1.heap.objs.size],_,_,H1,O,I1.kept (t':=s1.toks) λb o e=>JE _ e,
   ziI (n:= "str_iterator") (t:=t) () (λA' hA=>Walks.strWide hA _ z t) (λA' s Q E i hA st hi hQ=>wpAny_pyNext_wide_end hA st (by simpa using hi) λh' he'=>hQ h' λb o hb e=>he' b o hb e) (λA' s Q E i st hQ=>wpAny_pyIter_striter_wide st hQ),
   ⟨_,JL _ rfl,O,O⟩,fp,q⟩
 ·refine wpAny_pyIter_ascii ha ?_;exact⟨s1.heap.objs.size,[s1.heap.objs.size],_,_,H1,O,I1.kept (t':=s1.toks) λb o e=>JE _ e,
   ziI (n:= "str_ascii_iterator") (t:=t) () (λA' hA=>Walks.strAscii hA _ z t) (λA' s Q E i hA st hi hQ=>wpAny_pyNext_ascii_end hA st (by simpa using hi) λh' he'=>hQ h' λb o hb e=>he' b o hb e) (λA' s Q E i st hQ=>wpAny_pyIter_striter_ascii st hQ),
   ⟨_,JL _ rfl,O,O⟩,fp,q⟩
def zlK {z:Str}{g:TG}{tb:TS}{D:Ends}{σ:St}{H:Hp}(Pv:Nat->St->Hp->Prop)(h0:Pv 0 σ H)
  (hs:∀i c σ H,z.cps[i]? =Y c->Pv i σ H->g (.str ⟨#[c]⟩) σ H fun σ2 H2=>tb {D with nx:=Pv (i+1),ct:=Pv (i+1),bk:=D.nx} σ2 H2) (hd:∀σ H,Pv z.cps.size σ H->D.nx σ H):
  xFor g tb D (Its z) σ H:=by
 refine⟨λi m σ H=>m=z.cps.size - i/\i<=z.cps.size/\Pv i σ H,⟨z.cps.size,by simp,JN _,h0⟩,?_⟩;rintro i m σ H ⟨rfl,hi,p⟩;by_cases hlt:i < z.cps.size
 ·refine .inr ⟨hlt,Pv (i+1),fun σ' H' p'=>⟨z.cps.size - (i+1),(),O,hlt,p'⟩,λx H' y=>?_⟩;obtain⟨e,c,ec,ex⟩:=y;subst e ex;exact hs i c σ _ ec p
 ·have e:i=z.cps.size:=()
  subst e;exact .inl ⟨Jb _,hd σ H p⟩
def Itrs (lo st:Int)(n:Nat):It:=⟨λi _=>i < n,λi H x H'=>H'=H/\x=.int (lo+i * st),λi _=>n<=i⟩
def zjb {P:aG}{w:aH}{K:QA}{tg:aX}(it:aE)(lo st:Int)(n:Nat):Turn P w K tg (Itrs lo st n) [it] it (λi h=>IsRangeIter h it (lo+(i:Nat) * st) ((n:Int) - (i:Nat)) st) where
 mem:=by simp
 obj:=λi h st b hb=>by
  have e:b=it:=by simpa using hb
  subst e;exact⟨_,st,λv z=>by
   have z':Data.fields _=Data.cell v:=z;cases z'⟩
 keep:=λi h h' st k=>k it (by simp) _ st
 item:=by intro X hP hw hK hc i bH s σ H E I hf st' hg;subst hP hw hK;obtain⟨f0,f1,f2,f3,f4,f5⟩:=hf it (by simp);have W:=Walks.range (prog:=X.prog) (w:=X.w) (I.ok.hd hc) it lo st n;refine W.item i s _ _ hg st' λv h' tk hv st'' kk=>?_;obtain⟨t,rfl⟩:=hv;have I1:Inv X bH σ H {s with heap:=h',toks:=tk}:=I.turned (λb o hb e=>kk b o (by simpa using hb) e) f0 f1 f3 f4 f5;exact⟨B,zgQ (s:={s with heap:=h',toks:=tk}) (n:= "range_iterator") st'' rfl rfl () ⟨.int (lo+i * st),H,I1,⟨t,O⟩,⟨O,O⟩,st'',λb hb=>(hf b hb).1⟩⟩
 done:=by intro X hP hw hK hc i bH s σ H E I hf st' hg;subst hP hw hK;obtain⟨f0,f1,f2,f3,f4,f5⟩:=hf it (by simp);exact wpAny_pyNext_range_end (I.ok.hd hc) st' (by have:n<=i:=hg;lia) λh' eb=>⟨O,I.turned (t':=s.toks) (λb o hb e=>eb b o hb e) f0 f1 f3 f4 f5⟩
 self:=λ_ _ _ _ _ st h=>wpAny_pyIter_rangeiter st h
def zur (ta:TA):TI:=fun σ H R=>ta σ H λvs H1=>∃j c:Int,vs=[.int 0,.int j,.int c]/\0<=j/\j < 2 ^ 60/\0 < c/\c < 1000/\R (Itrs 0 c ((j+c - 1) / c).toNat) H1
theorem zfH {j c:Int}(h0:0<=j)(hc:0 < c):Builtin.Range.rangeSize 0 j c=(j+c - 1) / c:=by
 unfold Builtin.Range.rangeSize;rw[av hc];by_cases h:(0:Int) < j
 ·rw[av h];have e:j+c - 1=(j - 0 - 1)+c * 1:=()
  rw[e,Int.add_mul_ediv_left _ _ ()]
 ·rw[au h];have e:j=0:=()
  subst e;rw[Int.ediv_eq_zero_of_lt () ()]
def vals3 {x y z:V}(r:Vals [x,y,z] us):∃u v w',us=[u,v,w']/\RelV x u/\RelV y v/\RelV z w':=by
 cases r with
 | cons r1 r=>cases r with
  | cons r2 r=>cases r with
   | cons r3 r=>cases r;exact⟨_,_,B,r1,r2,r3⟩
def zjr {j c:Int}(h0:0<=j)(h1:j < 2 ^ 60)(hc:0 < c)(hc2:c < 1000):Builtin.Range.small 0 j c=Z:=by have b1:(j+c - 1) / c<=j+c - 1:=Int.ediv_le_self _ ();have b2:0<=(j+c - 1) / c:=Int.ediv_nonneg () ();unfold Builtin.Range.small;rw[zfH h0 hc];simp only[Builtin.Range.rangeFitsLong,J8,Bool.or_eq_true,decide_eq_true_eq,beq_iff_eq];generalize(j+c - 1) / c=d at b1 b2 ⊢;have hc':c > 0:=hc;simp only[hc',if_true,J8,decide_eq_true_eq];lia
def _root_.Ji:=@List.mem_singleton
def zhb {a b c:aX}{p pos:Pos}(hg:Gl X "range") (hm:X.mg "range" =U) (ha:PA X [a,b,c] ta) (hs:a7 [a,b,c] X.env=[(G,aZ a X.env),(G,aZ b X.env),(G,aZ c X.env)]:=by rfl)
  (hs2:a7 [b,c] X.env=[(G,aZ b X.env),(G,aZ c X.env)]:=by rfl):PI X tg (.Call (.Name "range" p) [a,b,c] [] pos) (zur ta):=by
 intro bH s σ H R I h;refine Call_ (zcr I hg hm boot_range (PyProof.Rows.callWith_type1 (thn (ha pos bH s σ H _ I h) λus s1 ⟨vs,H1,I1,r1,q1⟩=>?_) (by rw[hs,hs2]) (by rw[hs2];rfl)));obtain⟨j,c,rfl,h0,h1,hc,hc2,q⟩:=q1;obtain⟨u,v,w',rfl,⟨t1,rfl⟩,⟨t2,rfl⟩,⟨t3,rfl⟩⟩:=vals3 r1;refine call_range_3 () ?_ (.inl (PyProof.noPylong_small ()));refine wpAny_pyIter_range (IsRange.new ..) (zjr h0 h1 hc hc2) ?_;have I2:Inv X bH σ H1 {s1 with heap:=s1.heap.push {cls:=.type "range",data:=.fields #[.int 0 t1,.int j t2,.int c t3]}}:=I1.kept (t':=s1.toks) λb o e=>JE _ e;refine⟨_,[_],_,_,H1,O,I2.kept (t':=s1.toks) λb o e=>JE _ e,zjb _ 0 c ((j+c - 1) / c).toNat,?_,λb hb=>?_,q⟩
 ·have b2:0<=(j+c - 1) / c:=Int.ediv_nonneg () ();have e1:(0:Int)+((0:Nat):Int) * c=0:=by simp
  have e2:(((((j+c - 1) / c).toNat:Nat):Int) - ((0:Nat):Int))=Builtin.Range.rangeSize 0 j c:=by rw[zfH h0 hc];lia
  show IsRangeIter _ _ ((0:Int)+((0:Nat):Int) * c) (((((j+c - 1) / c).toNat:Nat):Int) - ((0:Nat):Int)) c;rw[e1,e2];exact JL _ rfl
 ·have e:=Ji.mp hb;subst e;exact I2.fpOk (Jb _) (I2.hok.fresh (Jb _))
end
def cutS (x:Str)(lo hi:Option Int):Str:=⟨((x.cps.toList.drop (HT.sIx x.length 0 lo)).take (HT.sIx x.length x.length hi - HT.sIx x.length 0 lo)).toArray⟩
def _root_.Jq:=@List.take_of_length_le
def _root_.JD:=@List.getElem?_eq_getElem
def _root_.Na:=@List.take_add_one
def _root_.Nc:=@List.getElem?_eq_none
theorem znj (l:List Nat)(i k:Nat):(List.range k).filterMap (λm=>l[i+m]?)=(l.drop i).take k:=by
 induction k with
 | zero=>simp
 | succ k ih=>
  rw[List.range_succ,List.filterMap_append,ih];by_cases h:i+k < l.length
  ·have e:l[i+k]? =Y l[i+k]:=JD h;rw[Na];simp[List.getElem?_drop,e]
  ·have e:l[i+k]? =U:=Nc ();have e2:((l.drop i).take (k+1))=(l.drop i).take k:=by rw[Jq (by rw[JT];lia),Jq (by rw[JT];lia)]
   rw[e2];simp[e]
theorem zlD (lo hi:Option Int)(n:Nat):Builtin.Str.strSliceIndices lo hi 1 n=(List.range (HT.sIx n n hi - HT.sIx n 0 lo)).map λk=>HT.sIx n 0 lo+k:=by
 have c0:∀(v:Int)(d:Nat),(max 0 (min (if v < 0 then v+(n:Int) else v) (n:Int)))=((HT.sIx n d (Y v):Nat):Int):=λv d=>by
  rw[<-HT.clip_eq v n d];by_cases h:v < 0
  ·simp only[av h];lia
  ·simp only[au h];lia
 have key:∀a b:Nat,sliceRange (a:Int) (b:Int) 1=(List.range (b - a)).map λk=>a+k:=λa b=>by
  unfold sliceRange;have e1:(if (1:Int) > 0 then(if (a:Int) < (b:Int) then((b:Int) - (a:Int)+1 - 1) / 1 else 0) else(if (a:Int) > (b:Int) then((a:Int) - (b:Int) - 1 - 1) / (-1) else 0)).toNat=b - a:=by
   rw[av ()];split
   ·rw[Int.ediv_one];lia
   ·lia
  show List.map _ (List.range (if (1:Int) > 0 then(if (a:Int) < (b:Int) then((b:Int) - (a:Int)+1 - 1) / 1 else 0) else(if (a:Int) > (b:Int) then((a:Int) - (b:Int) - 1 - 1) / (-1) else 0)).toNat)=_;rw[e1];refine List.map_congr_left λk _=>?_;show((a:Int)+1 * (k:Int)).toNat=a+k;lia
 unfold Builtin.Str.strSliceIndices;simp only[show(1:Int) > 0 by decide,if_true];cases lo with
 | none=>
  cases hi with
  | none=>exact key 0 n
  | some v=>dsimp only;rw[c0 v n];exact key 0 _
 | some u=>
  cases hi with
  | none=>dsimp only;rw[c0 u 0];exact key _ n
  | some v=>dsimp only;rw[c0 u 0,c0 v n];exact key _ _
def _root_.NE:=@List.length_range
theorem zl4 (x:Str)(lo hi:Option Int):Txt.slice x lo hi=cutS x lo hi:=by
 have h1:=HT.sIx_le x.length 0 (JN _) lo;have h2:=HT.sIx_le x.length x.length (Jb _) hi;have hn:x.cps.toList.length=x.length:=Nf;have e:((Builtin.Str.strSliceIndices lo hi 1 x.length).filterMap (x.cps[·]?))=(x.cps.toList.drop (HT.sIx x.length 0 lo)).take (HT.sIx x.length x.length hi - HT.sIx x.length 0 lo):=by rw[zlD,List.filterMap_map,<-znj];refine congrArg (λf=>List.filterMap f _) ?_;funext m;show x.cps[_]? =x.cps.toList[_]?;rw[Nb]
 unfold Txt.slice cutS;split
 ·rename_i h;have hl:(Builtin.Str.strSliceIndices lo hi 1 x.length).length=x.length:=by simpa using h
  rw[zlD,JI,NE] at hl;have a0:HT.sIx x.length 0 lo=0\/x.length=0:=()
  rcases a0 with a0 | a0
  ·rw[a0,List.drop_zero,Nat.sub_zero,Jq ()]
  ·have en:x.cps.toList=[]:=List.eq_nil_of_length_eq_zero ();rw[en,List.drop_nil,List.take_nil];have:x.cps= #[]:=by rw[<-Array.toList_inj];exact en
   rcases x with ⟨c⟩;rw[show c= #[] from this]
 ·rw[e]
section
variable {X:Cx}
def rSlS:V->Option Int->Option Int->Hp->VK->Prop:=λx lo hi H Q=>∃z,x=.str z/\z.length<=aQ/\Q (.str (cutS z lo hi)) H
def zr3:SlR X rSlS:=by
 intro bH s σ H x v vl vu lo hi sl Q I rx hs pl pu h;obtain⟨z,rfl,hz,q⟩:=h;obtain⟨t,rfl⟩:=rx;refine⟨"str",_,F.slot_str_getitem.lookup,typeIs_str _ _ _,?_⟩;have main:∀(l u:Option (Int ×Tok)),vl=partValue l->vu=partValue u->lo=l.map (·.1)->hi=u.map (·.1)->aW (aY X.prog X.w) X.A (getItem (.str z t) (.ref sl)) (EP X bH σ Q) X.xe s:=λl u e1 e2 e3 e4=>by subst e1 e2 e3 e4;refine wpAny_getItem_str_slice (l:=l) (u:=u) (st:=U) hs rfl (post_val_or_str ⟨Jg (Txt.slice_le z _ _) hz,λt' k=>?_⟩);show EP X bH σ Q (.str (Txt.slice z (l.map (·.1)) (u.map (·.1))) t') _;rw[zl4];exact⟨.str _,H,I.tok k,⟨B⟩,q⟩
 cases pl with
 | none=>
  cases pu with
  | none=>exact main U U rfl rfl rfl rfl
  | int j u=>exact main U (Y (j,u)) rfl rfl rfl rfl
 | int i t'=>
  cases pu with
  | none=>exact main (Y (i,t')) U rfl rfl rfl rfl
  | int j u=>exact main (Y (i,t')) (Y (j,u)) rfl rfl rfl rfl
end
structure Dfn (K:QA)(mg:QB)(x:Str)(st:aB)(ps:QQ):Prop where
 ex:∃f fd,Fun K x x st f fd/\Binds K fd ps []/\mg x=Y (.ref f)
structure Fn (P:aG)(w:aH)(K:QA)(mg:QB)(ax:aF)(x:Str)(k:Nat)(ps:QQ)(sp:Sp):Prop where
 ex:∃f fd,FnOk P w K mg ax CX0 k f fd ps sp/\Binds K fd ps []/\bf K (.ref f)=Z/\mg x=Y (.ref f)
section
variable {P:aG}{w:aH}{K:QA}{mg:QB}{ax:aF}{x:Str}{st:aB}{ps N:QQ}{sp sp':Sp}{k:Nat}
abbrev Bd0 (P:aG)(w:aH)(K:QA)(mg:QB)(ax:aF)(N:QQ)(q:Str)(st:aB)(k:Nat)(sp:Sp):Prop:=∀(f:aE)(cdv:aD)(A:aU)(outer:List Env)(s:aM)(H:Hp)(vs:QR)(Q:VK)(E:XK),Room k (A.deeper (envOfC q (zq st) s.heap.objs.size f cdv))->sp vs H Q E->
 ∃t,PSs (cxOf CX0 P w K mg ax N q (zq st) f cdv A outer s H E).nox (zG st) t/\t {nx:=λ_ H'=>Q .non H',rt:=Q} (start N vs) H
def Dfn.ok (D:Dfn K mg x st ps)(S:zak N ps (zq st))(hbody:Bd0 P w K mg ax N x st k sp)
  (len:∀vs H Q E,sp vs H Q E->vs.length=ps.length:=by intro vs H Q E h;cases h;subst_vars;rfl):Fn P w K mg ax x (k+1) ps sp:=by
 obtain⟨f,fd,F,b,m⟩:=D.ex;exact⟨f,fd,F.ok S len (λcdv A outer s H vs Q E hr h=>hbody f cdv A outer s H vs Q E hr h),b,F.kp,m⟩
def Dfn.never (D:Dfn K mg x st ps)(no:∀vs H Q E,¬sp vs H Q E):Fn P w K mg ax x k ps sp:=by obtain⟨f,fd,F,b,m⟩:=D.ex;exact⟨f,fd,⟨λvs H Q E h=>Jf h (no vs H Q E),λA outer s H args us vs Q E _ _ _ _ h=>Jf h (no vs H Q E)⟩,b,F.kp,m⟩
variable {X:Cx}{k':Nat}{e:aX}{es:List aX}{t:TA}{p pos:Pos}
def zhq (F:Fn X.prog X.w X.K X.mg X.ax x k ps sp)(hr:Room k' X.A)(ha:PA X (e::es) t)(hle:k<=k':=by lia)(hg:Gl X x:=by rfl)(hd:(x==("__debug__" :Str))=G:=by decide)
  (he:a7 (e::es) X.env=(G,aZ e X.env)::a7 es X.env:=by rfl) (hpl:∀pos,(a6 pos (a7 es X.env)).any (·.1)=G:=by intro _;rfl):PE X (.Call (.Name x p) (e::es) [] pos) (zeR sp [] E0 t):=by
 obtain⟨f,fd,a,b,kp,m⟩:=F.ex;exact zlM a (hr.mono hle) hg m kp b .nil zjF ha hd he (hpl _)
end
end L2
namespace Pv
open PySem L2
inductive Th where
 | non
 | int (i:Int)
 | str (x:Str)
 | tup (ts:List Th)
mutual
def nodes:Th->Nat
 | .non=>1
 | .int _=>1
 | .str _=>1
 | .tup ts=>1+zH ts
def zH:List Th->Nat
 | []=>0
 | t::r=>nodes t+zH r
end
mutual
def dep:Th->Nat
 | .non=>0
 | .int _=>0
 | .str _=>0
 | .tup ts=>depL ts+1
def depL:List Th->Nat
 | []=>0
 | t::r=>max (dep t) (depL r)
end
def Sign (c:Nat):Prop:=32<=c/\c<=126/\c≠37
def zpp (x:Str):Prop:=x.length<=60/\∀c∈x.cps.toList,Sign c
mutual
def Wf:Th->Prop
 | .non=>True
 | .int i=> -(10 ^ 30)<=i/\i<=10 ^ 30
 | .str x=>zpp x
 | .tup ts=>ts.length<=40/\WfL ts
def WfL:List Th->Prop
 | []=>True
 | t::r=>Wf t/\WfL r
end
theorem WfL.get:∀{ts:List Th}{i:Nat}{t:Th},WfL ts->ts[i]? =Y t->Wf t
 | [],_,_,_,e=>by simp at e
 | u::r,0,t,h,e=>by simp at e;subst e;exact h.1
 | u::r,i+1,t,h,e=>WfL.get (i:=i) h.2 (by simpa using e)
theorem WfL.snoc:∀{ts:List Th}{t:Th},WfL ts->Wf t->WfL (ts++ [t])
 | [],_,_,h=>⟨h,trivial⟩
 | _::_,_,h,h'=>⟨h.1,WfL.snoc h.2 h'⟩
theorem ze1:∀(ts:List Th)(t:Th),zH (ts++ [t])=zH ts+nodes t
 | [],t=>by simp[zH]
 | u::r,t=>by have:=ze1 r t;show nodes u+zH (r++ [t])=nodes u+zH r+nodes t;lia
theorem zgX:∀(ts:List Th)(t:Th),depL (ts++ [t])=max (depL ts) (dep t)
 | [],t=>by simp[depL]
 | u::r,t=>by have:=zgX r t;show max (dep u) (depL (r++ [t]))=max (max (dep u) (depL r)) (dep t);rw[this,Nat.max_assoc]
theorem zaT:∀{ts:List Th}{i:Nat}{t:Th},ts[i]? =Y t->dep t<=depL ts
 | [],_,_,e=>by simp at e
 | u::r,0,t,e=>by simp at e;subst e;exact Nat.le_max_left _ _
 | u::r,i+1,t,e=>Jg (zaT (i:=i) (by simpa using e)) (Nat.le_max_right _ _)
def _root_.JB:=@Nat.le_add_right
theorem zmI:∀t:Th,1<=nodes t
 | .non=>Jb _
 | .int _=>Jb _
 | .str _=>Jb _
 | .tup ts=>JB _ _
theorem zfQ:∀ts:List Th,ts.length<=zH ts
 | []=>Jb _
 | t::r=>by have:=zfQ r;have:=zmI t;show r.length+1<=nodes t+zH r;lia
inductive Rep (H:Hp):Th->V->Prop where
 | non:Rep H .non .non
 | int (i:Int):Rep H (.int i) (.int i)
 | str (x:Str):Rep H (.str x) (.str x)
 | tup {a:aE} {xs:QR} {ts:List Th} (e:H a=Y (.tup xs)) (l:xs.length=ts.length) (h:∀(i:Nat)(x:V)(t:Th),xs[i]? =Y x->ts[i]? =Y t->Rep H t x):Rep H (.tup ts) (.ref a)
def Tups (H H':Hp):Prop:=∀b xs,H b=Y (.tup xs)->H' b=Y (.tup xs)
theorem Rep.keep (r:Rep H t v)(k:Tups H H'):Rep H' t v:=by
 induction r with
 | non=>exact .non
 | int i=>exact .int i
 | str x=>exact .str x
 | tup e l h ih=>exact .tup (k _ _ e) l ih
def Frm (ws:QP)(H H':Hp):Prop:=∀b o,b∉ws->H b=Y o->H' b=Y o
theorem Frm.refl:Frm ws H H:=λ_ _ _ h=>h
theorem Frm.trans (a:Frm ws H H1)(b:Frm ws H1 H2):Frm ws H H2:=λc o n h=>b c o n (a c o n h)
theorem Frm.mono {ws ws':QP}(a:Frm ws H H1)(h:∀b∈ws,b∈ws'):Frm ws' H H1:=λc o n e=>a c o (λz=>n (h c z)) e
theorem Frm.new {H:Hp}{p:aE}(h:H p=U):Frm ws H (upd H p o):=λb u _ q=>by rw[zd (zf q h)];exact q
theorem Frm.upd {ws:QP}{p:aE}(h:p∈ws):Frm ws H (upd H p o):=λb u n q=>by rw[zd (λz=>n (by rw[z];exact h))];exact q
theorem Frm.same (a:Frm [] H H'):Same H H':=λb o h=>a b o (by simp) h
theorem Frm.of (a:Same H H'):Frm ws H H':=λb o _ h=>a b o h
theorem Frm.at {b:aE}{o:HO}(a:Frm ws H H')(h:H b=Y o)(n:b∉ws):H' b=Y o:=a b o n h
def NoT (ws:QP)(H:Hp):Prop:=∀b∈ws,∀xs,H b≠Y (.tup xs)
theorem Frm.ay (a:Frm ws H H')(n:NoT ws H):Tups H H':=λb xs e=>a b _ (λz=>n b z xs e) e
theorem Same.ay (a:Same H H'):Tups H H':=λb xs e=>a b _ e
theorem Tups.trans (a:Tups H H1)(b:Tups H1 H2):Tups H H2:=λc xs e=>b c xs (a c xs e)
theorem Tups.upd {H:Hp}{p:aE}(h:∀xs,H p≠Y (.tup xs)):Tups H (upd H p o):=λb xs e=>by rw[zd (λz=>h xs (by rw[<-z];exact e))];exact e
theorem Tups.new {H:Hp}{p:aE}(h:H p=U):Tups H (L2.upd H p o):=Tups.upd λxs e=>by rw[h] at e;cases e
end Pv
namespace L2
open PySem PySem.Spec PyProof.Rows
section
variable {X:Cx}{x y:Str}{scope:Scope}{j:Nat}{c:aE}
def _root_.No:=@List.mem_map
def zcu {p:Str ×NameKind}(h:p∈(relabel scope env).names):∃q∈scope.names,p.1=q.1/\(p=q\/q.2=.free):=by
 obtain⟨q,hq,e⟩:=No.mp h;obtain⟨n,k⟩:=q;refine⟨(n,k),hq,?_⟩;dsimp only at e;split at e
 ·rename_i hc;subst e;refine⟨O,.inr ?_⟩;have:=(J8 _ _).mp ((J8 _ _).mp hc).1;simpa using this.1
 ·subst e;exact⟨O,.inl rfl⟩
def zo.zero (kind:scope.kind=.function)(nf:∀y∈scope.names,y.2≠ .free)(nc:∀y∈scope.names,y.2≠ .cell)(nm:∀y∈scope.names,y.2=.local->scope.names.lookup y.1=Y .local)(tgt:scope.names.lookup x=Y .local):
  zo X x [] [] scope [] where
 clos:=closureFor_none nf
 kind:=kind
 nocell:=nc
 names:=nm
 tgt:=tgt
 nd:=by simp
 sub:=λp hp=>by simp at hp
 has:=λp hp hk=>by
  obtain⟨q,hq,e,h | h⟩:=zcu hp
  ·subst h;rcases hk with hk | hk
   ·exact Jf hk (nc _ hq)
   ·exact Jf hk (nf _ hq)
  ·exact Jf h (nf _ hq)
 fr:=λi y e=>by simp at e
 len:=rfl
def zo.one (clos:closureFor scope X.env=pure [(y,c)])(kind:scope.kind=.function)(nc:∀y∈scope.names,y.2≠ .cell)(nm:∀y∈scope.names,y.2=.local->scope.names.lookup y.1=Y .local)(tgt:scope.names.lookup x=Y .local)
  (ne:x≠y) (cell:X.env.cells.lookup y=Y c) (only:∀q∈scope.names,q.2=.free->q.1=y) (hN:X.N[j]? =Y y) (hk:X.env.kindOf y=Y .cell\/X.env.kindOf y=Y .free)
  (hk':(relabel scope X.env).names.lookup y=Y .cell\/(relabel scope X.env).names.lookup y=Y .free):zo X x [y] [j] scope [(y,c)] where
 clos:=clos
 kind:=kind
 nocell:=nc
 names:=nm
 tgt:=tgt
 nd:=by simp[ne]
 sub:=λp hp=>by cases Ji.mp hp;exact cell
 has:=λp hp hk=>by
  obtain⟨q,hq,e,h | h⟩:=zcu hp
  ·subst h;rcases hk with hk | hk
   ·exact Jf hk (nc _ hq)
   ·simp[only _ hq hk]
  ·simp[e,only _ hq h]
 fr:=λi z e=>by
  cases i with
  | zero=>cases e;exact⟨j,O,hN,hk,hk'⟩
  | succ i=>simp at e
 len:=rfl
end
def ifT {c:Bool}{A:Prop}(h:c=Z)(a:A):if c=Z then A else ai:=by rw[av h];exact a
def ifF {c:Bool}{ai:Prop}(h:c=G)(b:ai):if c=Z then A else ai:=by rw[au (by rw[h];exact Jd)];exact b
def ifB {c:Bool}{A ai:Prop}(a:c=Z->A)(b:c=G->ai):if c=Z then A else ai:=by
 cases c with
 | true=>exact ifT rfl (a rfl)
 | false=>exact ifF rfl (b rfl)
theorem zaa:decide (V.int i=V.int j)=decide (i=j):=by
 by_cases h:i=j
 ·subst h;simp
 ·rw[Jc h];exact Jc λz=>h (V.int.inj z)
section
variable {X:Cx}{K:QA}
def zqN (h:X.K=K):IxR X (rIxT K):=h ▸ zes
def zhR (h:X.K=K):zac X (.builtin "isinstance") (zoe K):=h ▸ zS
variable {x:Str}{ps:QQ}{sp:Sp}{k k':Nat}{p pos:Pos}
end
end L2
namespace L2
open PySem PySem.Spec PyProof.Rows Px
structure FnX (P:aG)(w:aH)(K:QA)(mg:QB)(ax:aF)(x:Str)(k:Nat)(ps:QQ)(sp:Sp):Prop where
 ex:∃f fd,FnOk P w K mg ax (CX1 P w) k f fd ps sp/\Binds K fd ps []/\bf K (.ref f)=Z/\mg x=Y (.ref f)
structure Mdf (K:QA)(C:aE)(m qual:Str)(st:aB)(ps:QQ):Prop where
 ex:∃f fd,Fun K m qual st f fd/\Binds K fd ps []/\Meth K C m f
structure Mt (P:aG)(w:aH)(K:QA)(mg:QB)(ax:aF)(CX:CXT)(C:aE)(m:Str)(k:Nat)(ps:QQ)(sp:Sp):Prop where
 ex:∃f fd,FnOk P w K mg ax CX k f fd ps sp/\Binds K fd ps []/\Meth K C m f
structure Mkd (K:QA)(mg:QB)(x:Str)(C:aE)(qual:Str)(st:aB)(ps:QQ):Prop where
 ex:∃f fd,Fun K "__init__" qual st f fd/\Binds K fd ps []/\Mk K C f/\mg x=Y (.ref C)
structure Mkr (P:aG)(w:aH)(K:QA)(mg:QB)(ax:aF)(x:Str)(C:aE)(k:Nat)(ps:QQ)(sp:Sp):Prop where
 ex:∃f fd,FnOk P w K mg ax CX0 k f fd ps sp/\Binds K fd ps []/\Mk K C f/\mg x=Y (.ref C)
structure XId (K:QA)(mg:QB)(x:Str)(C:aE)(qual:Str)(st:aB)(ps:QQ):Prop where
 cl:XCls K C
 ex:∃f fd,Fun K "__init__" qual st f fd/\Binds K fd ps []/\bd K (.ref C) "__init__" =Y (Y (.ref f))/\PySem.W.isFn K (.ref f)=Z/\mg x=Y (.ref C)
structure XI (P:aG)(w:aH)(K:QA)(mg:QB)(ax:aF)(x:Str)(C:aE)(k:Nat)(ps:QQ)(sp:Sp):Prop where
 cl:XCls K C
 ex:∃f fd,FnOk P w K mg ax CX0 k f fd ps sp/\Binds K fd ps []/\bd K (.ref C) "__init__" =Y (Y (.ref f))/\PySem.W.isFn K (.ref f)=Z/\mg x=Y (.ref C)
structure XP (K:QA)(mg:QB)(x:Str)(C:aE):Prop where
 cl:XCls K C
 ei:PySem.W.excIn K C bmV "ValueError.__new__" =Z
 mg:mg x=Y (.ref C)
section
variable {P:aG}{w:aH}{K:QA}{mg:QB}{ax:aF}{x m qual:Str}{C:aE}{st:aB}{ps N:QQ}{sp sp':Sp}{k:Nat}{CX:CXT}
abbrev BdX (P:aG)(w:aH)(K:QA)(mg:QB)(ax:aF)(N:QQ)(q:Str)(st:aB)(k:Nat)(sp:Sp):Prop:=∀(f:aE)(cdv:aD)(A:aU)(outer:List Env)(s:aM)(H:Hp)(vs:QR)(Q:VK)(E:XK),Room k (A.deeper (envOfC q (zq st) s.heap.objs.size f cdv))->sp vs H Q E->
 ∃t,PSs (cxOf (CX1 P w) P w K mg ax N q (zq st) f cdv A outer s H E) (zG st) t/\t {nx:=λ_ H'=>Q .non H',rt:=Q} (start N vs) H
def Dfn.okX (D:Dfn K mg x st ps)(S:zak N ps (zq st))(hbody:BdX P w K mg ax N x st k sp)
  (len:∀vs H Q E,sp vs H Q E->vs.length=ps.length:=by intro vs H Q E h;cases h;subst_vars;rfl):FnX P w K mg ax x (k+1) ps sp:=by
 obtain⟨f,fd,F,b,m⟩:=D.ex;exact⟨f,fd,F.okX S len (λcdv A outer s H vs Q E hr h=>hbody f cdv A outer s H vs Q E hr h),b,F.kp,m⟩
def Mdf.ok (D:Mdf K C m qual st ps)(S:zak N ps (zq st))(hbody:Bd0 P w K mg ax N qual st k sp)
  (len:∀vs H Q E,sp vs H Q E->vs.length=ps.length:=by intro vs H Q E h;cases h;subst_vars;rfl):Mt P w K mg ax CX0 C m (k+1) ps sp:=by
 obtain⟨f,fd,F,b,me⟩:=D.ex;exact⟨f,fd,F.ok S len (λcdv A outer s H vs Q E hr h=>hbody f cdv A outer s H vs Q E hr h),b,me⟩
def Mdf.okX (D:Mdf K C m qual st ps)(S:zak N ps (zq st))(hbody:BdX P w K mg ax N qual st k sp)
  (len:∀vs H Q E,sp vs H Q E->vs.length=ps.length:=by intro vs H Q E h;cases h;subst_vars;rfl):Mt P w K mg ax (CX1 P w) C m (k+1) ps sp:=by
 obtain⟨f,fd,F,b,me⟩:=D.ex;exact⟨f,fd,F.okX S len (λcdv A outer s H vs Q E hr h=>hbody f cdv A outer s H vs Q E hr h),b,me⟩
def Mkd.ok (D:Mkd K mg x C qual st ps)(S:zak N ps (zq st))(hbody:Bd0 P w K mg ax N qual st k sp)
  (len:∀vs H Q E,sp vs H Q E->vs.length=ps.length:=by intro vs H Q E h;cases h;subst_vars;rfl):Mkr P w K mg ax x C (k+1) ps sp:=by
 obtain⟨f,fd,F,b,mk,mm⟩:=D.ex;exact⟨f,fd,F.ok S len (λcdv A outer s H vs Q E hr h=>hbody f cdv A outer s H vs Q E hr h),b,mk,mm⟩
def XId.ok (D:XId K mg x C qual st ps)(S:zak N ps (zq st))(hbody:Bd0 P w K mg ax N qual st k sp)
  (len:∀vs H Q E,sp vs H Q E->vs.length=ps.length:=by intro vs H Q E h;cases h;subst_vars;rfl):XI P w K mg ax x C (k+1) ps sp:=by
 obtain⟨c,f,fd,F,b,i,n,mm⟩:=D;exact⟨c,f,fd,F.ok S len (λcdv A outer s H vs Q E hr h=>hbody f cdv A outer s H vs Q E hr h),b,i,n,mm⟩
variable {X:Cx}{k':Nat}{e o:aX}{es:List aX}{ta:TE}{t:TA}{p pos apos:Pos}{E:XK}{ES:St->XK}
def zki (F:FnX X.prog X.w X.K X.mg X.ax x k ps sp)(hr:Room k' X.A)(hx:zay (CX1 X.prog X.w) X E)(ha:PA X (e::es) t)(hle:k<=k':=by lia)(hg:Gl X x:=by rfl)(hd:(x==("__debug__" :Str))=G:=by decide)
  (he:a7 (e::es) X.env=(G,aZ e X.env)::a7 es X.env:=by rfl) (hpl:∀pos,(a6 pos (a7 es X.env)).any (·.1)=G:=by intro _;rfl):PE X (.Call (.Name x p) (e::es) [] pos) (zeR sp [] E t):=by
 obtain⟨f,fd,a,b,kp,m⟩:=F.ex;exact zlM a (hr.mono hle) hg m kp b .nil hx ha hd he (hpl _)
def zsR (F:FnX X.prog X.w X.K X.mg X.ax x k ps sp)(hr:Room k' X.A)(hx:zdU (CX1 X.prog X.w) X ES)(ha:PA X (e::es) t)(hle:k<=k':=by lia)(hg:Gl X x:=by rfl)(hd:(x==("__debug__" :Str))=G:=by decide)
  (he:a7 (e::es) X.env=(G,aZ e X.env)::a7 es X.env:=by rfl) (hpl:∀pos,(a6 pos (a7 es X.env)).any (·.1)=G:=by intro _;rfl):PE X (.Call (.Name x p) (e::es) [] pos) (zol sp ES t):=by
 obtain⟨f,fd,a,b,kp,m⟩:=F.ex;exact znm a (hr.mono hle) hg m kp b hx ha hd he (hpl _)
def zgm (he:PE X o ta)(c:Cls X.K C)(M:Mt X.prog X.w X.K X.mg X.ax CX C m k ps sp)(hr:Room k' X.A)(hle:k<=k')(hx:zay CX X E)(ha:PA X (e::es) t)
  (hst:a7 (e::es) X.env=(G,aZ e X.env)::a7 es X.env:=by rfl) (hpl:∀pos,(a6 pos (a7 es X.env)).any (·.1)=G:=by intro _;rfl)
  (ht:aZ (.Call (.Attribute o m apos) (e::es) [] pos) X.env=(do
   let ov<-aZ o X.env
   standAt apos.atName
   let (f,first) <-holding [ov] (getMethod ov m pl)
   callWith pos f first (a6 pos (a7 (e::es) X.env)) (backToKw pos (keywordEach [] X.env))):=by rfl):
  PE X (.Call (.Attribute o m apos) (e::es) [] pos) (zlc C m sp [] E ta t):=by
 obtain⟨f,fd,a,b,me⟩:=M.ex;exact zpW he c me a (hr.mono hle) b .nil hx ha hst (hpl _) ht
def zsH (he:PE X o ta)(c:Cls X.K C)(M:Mt X.prog X.w X.K X.mg X.ax CX C m k ps sp)(hr:Room k' X.A)(hle:k<=k')(hx:zay CX X E)
  (ht:aZ (.Call (.Attribute o m apos) [] [] pos) X.env=(do
   let ov<-aZ o X.env
   standAt apos.atName
   let (f,first) <-holding [ov] (getMethod ov m pl)
   callWith pos f first (a6 pos (a7 [] X.env)) (backToKw pos (keywordEach [] X.env))):=by rfl):
  PE X (.Call (.Attribute o m apos) [] [] pos) (zlc C m sp [] E ta tNil):=by
 obtain⟨f,fd,a,b,me⟩:=M.ex;exact zo6 he c me a (hr.mono hle) b .nil hx ht
def zpX (M:Mkr X.prog X.w X.K X.mg X.ax x C k ps sp)(hr:Room k' X.A)(hle:k+1<=k':=by lia)(hg:Gl X x:=by rfl)(hd:(x==("__debug__" :Str))=G:=by decide):PE X (.Call (.Name x p) [] [] pos) (zjp C sp [] E0 tNil):=by obtain⟨f,fd,a,b,mk,mm⟩:=M.ex;exact zov mk a (hr.mono hle) hg mm b .nil zjF hd
def zig (M:Mkr X.prog X.w X.K X.mg X.ax x C k ps sp)(hr:Room k' X.A)(ha:PA X (e::es) t)(hle:k+1<=k':=by lia)(hg:Gl X x:=by rfl)(hd:(x==("__debug__" :Str))=G:=by decide)
  (he:a7 (e::es) X.env=(G,aZ e X.env)::a7 es X.env:=by rfl) (hpl:∀pos,(a6 pos (a7 es X.env)).any (·.1)=G:=by intro _;rfl):PE X (.Call (.Name x p) (e::es) [] pos) (zjp C sp [] E0 t):=by
 obtain⟨f,fd,a,b,mk,mm⟩:=M.ex;exact zlC mk a (hr.mono hle) hg mm b .nil zjF ha hd he (hpl _)
def zuc (M:XI X.prog X.w X.K X.mg X.ax x C k ps sp)(hr:Room k' X.A)(ha:PA X (e::es) t)(hle:k+1<=k':=by lia)(hg:Gl X x:=by rfl)(hd:(x==("__debug__" :Str))=G:=by decide)
  (he:a7 (e::es) X.env=(G,aZ e X.env)::a7 es X.env:=by rfl) (hpl:∀pos,(a6 pos (a7 es X.env)).any (·.1)=G:=by intro _;rfl):PE X (.Call (.Name x p) (e::es) [] pos) (zrw C sp t):=by
 obtain⟨c,f,fd,a,b,i,n,mm⟩:=M;exact zpR c i n a (hr.mono hle) b hg mm ha hd he (hpl _)
def zt7 (M:XP X.K X.mg x C)(hg:Gl X x)(ha:PA X (e::es) t)(hd:(x==("__debug__" :Str))=G:=by decide)
  (he:a7 (e::es) X.env=(G,aZ e X.env)::a7 es X.env:=by rfl) (hpl:∀pos,(a6 pos (a7 es X.env)).any (·.1)=G:=by intro _;rfl):PE X (.Call (.Name x p) (e::es) [] pos) (tExc C t):=
 zr1 M.cl M.ei hg M.mg ha hd he (hpl _)
end
def clsV:V->aD
 | .ty n=>.type n
 | .ref a=>.ref a
 | _=>.none
def Clss (ts:QR):Prop:=∀v∈ts,(∃n,v=.ty n)\/∃a,v=.ref a
theorem zgO:∀{ts:QR}{us:QO},Clss ts->Vals ts us->us=ts.map clsV
 | _,_,_,.nil=>rfl
 | t::ts,u::us,h,.cons r q=>by
  rw[JX,<-zgO (λv hv=>h v (.tail _ hv)) q];congr 1;rcases h t (.head _) with ⟨n,e⟩ | ⟨a,e⟩
  ·subst e;exact r
  ·subst e;exact r
section
variable {X:Cx}{bH:QE}{σ:St}{H:Hp}{s:aM}
variable {K:QA}{h:aF}{mg:QB}{C f:aE}{x m qual:Str}{st:aB}{ps:QQ}{od an:QN}{sl:QJ}{oc kV dc pm cd ct:aD}
def zsX (a:bd K (.ref C) m=Y (Y (.ref f)))(fn:PySem.W.isFn K (.ref f)=Z)(l:K.lookup f=Y ⟨oc,od,.func (br m qual (zT st) (zG st) (zq st) .none kV dc pm an cd ct),sl⟩)(c:PySem.W.codeIn K cd qual=Z)(k:bf K (.ref f)=Z)
  (b:∀(kV doc pm:aD)(an:QN)(cdv ct:aD)(us:QO),us.length=ps.length->bindArgs (br m qual (zT st) (zG st) (zq st) .none kV doc pm an cdv ct) ⟨us,[]⟩=pure (ps.zip us)):Mdf K C m qual st ps:=
 ⟨_,_,zbc l c k,(zbc l c k).binds b,⟨a,fn,k⟩⟩
def zsV (pg:PySem.W.plainGet K C Str.empty=Z)(hd:PySem.W.hasDictIn K C=Z)(po:PySem.W.plainOver K C=Z)(sa:bd K (.ref C) "__setattr__" =Y (Y (.builtin "object.__setattr__"))):Cls K C:=⟨pg,hd,po,sa⟩
def zs5 (X:K.In h)(ah:h.Ns aR mg)(n:PySem.W.nsIn K aR x=Y (Y (.ref C)))(mk:PySem.W.makesIn K C=Z)(a:bd K (.ref C) "__init__" =Y (Y (.ref f))) (fn:PySem.W.isFn K (.ref f)=Z)
  (l:K.lookup f=Y ⟨oc,od,.func (br "__init__" qual (zT st) (zG st) (zq st) .none kV dc pm an cd ct),sl⟩) (c:PySem.W.codeIn K cd qual=Z) (k:bf K (.ref f)=Z) (kc:bf K (.ref C)=Z)
  (b:∀(kV doc pm:aD)(an:QN)(cdv ct:aD)(us:QO),us.length=ps.length->bindArgs (br "__init__" qual (zT st) (zG st) (zq st) .none kV doc pm an cdv ct) ⟨us,[]⟩=pure (ps.zip us)):Mkd K mg x C qual st ps:=
 ⟨_,_,zbc l c k,(zbc l c k).binds b,⟨mk,a,fn,kc⟩,PySem.W.mg_of X ah n⟩
def zfa (q:xIn K C=Z)(ov:zcJ K C=Z)(sa:bd K (.ref C) "__setattr__" =Y (Y (.builtin "object.__setattr__"))) (ga:bd K (.ref C) "__getattribute__" =Y (Y (.builtin "BaseException.__getattribute__"))) (gn:bd K (.ref C) "__getattr__" =Y U)
  (kp:bf K (.ref C)=Z):XCls K C:=⟨q,ov,sa,ga,gn,kp⟩
def zsK (X:K.In h)(ah:h.Ns aR mg)(n:PySem.W.nsIn K aR x=Y (Y (.ref C)))(cl:XCls K C)(a:bd K (.ref C) "__init__" =Y (Y (.ref f))) (fn:PySem.W.isFn K (.ref f)=Z)
  (l:K.lookup f=Y ⟨oc,od,.func (br "__init__" qual (zT st) (zG st) (zq st) .none kV dc pm an cd ct),sl⟩) (c:PySem.W.codeIn K cd qual=Z) (k:bf K (.ref f)=Z)
  (b:∀(kV doc pm:aD)(an:QN)(cdv ct:aD)(us:QO),us.length=ps.length->bindArgs (br "__init__" qual (zT st) (zG st) (zq st) .none kV doc pm an cdv ct) ⟨us,[]⟩=pure (ps.zip us)):XId K mg x C qual st ps:=
 ⟨cl,_,_,zbc l c k,(zbc l c k).binds b,a,fn,PySem.W.mg_of X ah n⟩
def zX {R:aE->Prop}(X:K.In h)(n:PySem.W.nsIn K aR x=Y (Y (.ref C)))(r:R C):∃C,R C:=⟨C,r⟩
end
end L2
namespace Px
open PySem PySem.W PySem.Builtin PySem.Builtin.ObjectAttr
def zqk {a g:aD}(hc:(clsIn K C).isSome=Z)(ha:findIn K (.ref C) name=Y (Y a))(hg:specialIn K a "__get__" =Y (Y g))
  (ht:takesIn K a=Y Z):findObj K C od name=Y (.bind g a):=by
 obtain⟨c,e⟩:=Option.isSome_iff_exists.mp hc;unfold findObj;rw[e,Option.bind_some,ha,Option.bind_some];simp[hg,ht]
section
variable {prog:aG}{w:aH}{A:aU}{E:QC}{s:aM}{K:Frag}{x D:aE}{ox:Obj}{od:Option Obj}
def zog {Q:Option aD->aM->Prop}(X:K.In s.heap)(I:InstAt s.heap x ox D od)(hp:zcJ K D=Z)
  (hga:findIn K (.ref D) "__getattribute__" =Y (Y (.builtin "BaseException.__getattribute__"))) (hgn:findIn K (.ref D) "__getattr__" =Y U)
  (ha:findIn K (.ref D) "__class__" =Y (Y (.builtin "object.__class__"))) (hn:specialIn K (.builtin "object.__class__") "__get__" =Y (Y (.builtin "getset_descriptor.__get__")))
  (htk:takesIn K (.builtin "object.__class__")=Y Z) (hm:mroIn K D (.type "object")=Y Z) (h:Q (Y (.ref D)) {s with toks:=s.toks+1}):aW (aY prog w) A (getAttr? (.ref x) "__class__") Q E s:=by
 have isB:=zhG (M:=aY prog w) (T:= "BaseException") X I hp ();have cd:(clsIn K D).isSome=Z:=by obtain⟨c,hc,_⟩:=any_some hp;rw[hc];rfl
 have hf:findObj K D od "__class__" =Y (.bind (.builtin "getset_descriptor.__get__") (.builtin "object.__class__")):=zqk cd ha hn htk;obtain⟨hp',g,d,t,os⟩:=s;have L0:=I.type (M:=aY prog w);have L1:=looks_findIn (M:=aY prog w) X hga;have L2:=looks_findIn (M:=aY prog w) X hgn;have L3:=looks_find (M:=aY prog w) X I hf;have FB:=PySem.F.attrBase_ValueError;have bi:=FB.ga.bind (.ref x);have kd:builtinKind "BaseException.__getattribute__" =Y .slot:=by decide+kernel
 have sp:splitId "BaseException.__getattribute__" =Y ("BaseException","__getattribute__"):=by decide+kernel
 unfold getAttr? getAttrBy? getAttrBy;refine Ja (wpAny_mkText (Ja (wpAny_attempt (bb (Ja (L0.at (Ja (L1.at ?_))))))));have nb:(onTheHeap (aP D) && bD "BaseException.__getattribute__" ==bD "object.__getattribute__")=G:=by rw[show(bD "BaseException.__getattribute__" ==bD "object.__getattribute__")=G from by decide+kernel,Nz]
 dsimp only;rw[nb,au Jd];unfold getAttrByItsOwn;refine Ja ?_;show aW _ _ (typeLookup (.ref D) "__getattr__") _ _ _;refine L2.at ?_;unfold callGetattribute;rw[Bool.false_and,au Jd];unfold boundAndCalled;refine Ja (wpAny_attempt (bb ?_));rw[bi];refine Ja (bc ?_);refine wpAny_call (codeAny_call_builtin FB.ga.plain PySem.F.entry_bexc_ga (@check_slot (aY prog w) _ _ _ "BaseException.__getattribute__" "BaseException" "__getattribute__" (.ref x) [.str "__class__" t] [] _ kd sp isB (PySem.F.args_bexc_ga _ _) ?_));unfold Builtin.«object.__getattribute__»
 repeat (any_goals (first | assumption | with_reducible refine Ja (L0.at ?_) | with_reducible refine Ja (L3.at ?_) | wp_step))
 refine class_get X I hm ?_;show aW _ _ (ret (.ref D)) _ _ _;refine bc ?_;show aW _ _ (handedOut (.ref D)) _ _ _;exact bc (bc h)
def ziX {x:aE}(hp:zcJ K D=Z)
  (hga:findIn K (.ref D) "__getattribute__" =Y (Y (.builtin "BaseException.__getattribute__"))) (hgn:findIn K (.ref D) "__getattr__" =Y U)
  (ha:findIn K (.ref D) "__class__" =Y (Y (.builtin "object.__class__"))) (hn:specialIn K (.builtin "object.__class__") "__get__" =Y (Y (.builtin "getset_descriptor.__get__")))
  (htk:takesIn K (.builtin "object.__class__")=Y Z) (hm:mroIn K D (.type "object")=Y Z):KitX K (.ref x) (.ref D) (λh=>InstAt h x ox D od) where
 ty:=λ_ _ _ I=>I.type
 it:=λ_ _ X _=>by
  obtain⟨c,hc,_⟩:=any_some hp;unfold clsIn at hc;split at hc
  ·rename_i ho;intro A' Q' E' s' k q;unfold isType loadHead;exact Ja (wpAny_loadPart (k _ _ (X _ _ ho)) (bc q))
  ·cases hc
 ne:=λh tp dd its n sl X ht=>by
  obtain⟨c,hc,_⟩:=any_some hp;refine Bool.eq_false_iff.mpr λq=>?_;have e:D=tp:=Value.ref.inj (beq_iff_eq.mp q);subst e;unfold clsIn at hc;split at hc
  ·rename_i ho;have z:=(X _ _ ho).symm.trans ht;cases z
  ·cases hc
 ca:=λX I k=>zog X I hp hga hgn ha hn htk hm k
end
end Px
namespace L2
open PySem PySem.Spec PyProof.Rows Px
structure zha (K:QA)(C:aE):Prop where
 cl:XCls K C
 ha:bd K (.ref C) "__class__" =Y (Y (.builtin "object.__class__"))
 hn:PySem.W.specialIn K (.builtin "object.__class__") "__get__" =Y (Y (.builtin "getset_descriptor.__get__"))
 ht:PySem.W.takesIn K (.builtin "object.__class__")=Y Z
 hm:PySem.W.mroIn K C (.type "object")=Y Z
section
variable {X:Cx}{bH:QE}{σ:St}{H:Hp}{s:aM}{a C:aE}{od:QN}{fr:Bool}
def zp3 (I:Inv X bH σ H s)(e:H a=Y (exO a C od fr))(k:zha X.K C)(hd:∀d,od=Y d->∃l,H d=Y (xdO d l)):∃ag:aF->Prop,PySem.W.KitX X.K (.ref a) (.ref C) ag/\ag s.heap:=by
 obtain⟨vs,sl,ge,_⟩:=zbq I.hok e;cases od with
 | none=>exact⟨_,ziX (od:=U) k.cl.ov k.cl.ga k.cl.gn k.ha k.hn k.ht k.hm,⟨ge,O,O,trivial⟩⟩
 | some d=>obtain⟨l,ed⟩:=hd d rfl;obtain⟨mA,ns,_,_⟩:=zik I.hok ed;obtain⟨ob,hob,_⟩:=zex ns;exact⟨_,ziX (od:=Y ob) k.cl.ov k.cl.ga k.cl.gn k.ha k.hn k.ht k.hm,⟨ge,O,O,hob⟩⟩
def zir (K:QA):List V->Hp->VK->Prop:=λxs H Q=>∃a C od fr y b,xs=[.ref a,y]/\H a=Y (exO a C od fr)/\zha K C/\(∀d,od=Y d->∃l,H d=Y (xdO d l))/\Q (.bl b) H/\
 ((∃c,(y=.ty c/\bg K (.ref C) (.type c)=Y b))\/(∃c,(y=.ref c/\bg K (.ref C) (.ref c)=Y b))\/∃p ts,y=.ref p/\H p=Y (.tup ts)/\Clss ts/\PySem.W.kitAny K (.ref C) (ts.map clsV)=Y b)
def zd7:zac X (.builtin "isinstance") (zir X.K):=by
 intro bH s σ H xs us Q I r h;obtain⟨a,C,od,fr,y,b,rfl,ea,k,hd,q,hy⟩:=h;obtain⟨u,w',rfl,ru,rw'⟩:=vals2 r;cases (show u=aP a from ru);obtain⟨ag,kx,z⟩:=zp3 I ea k hd;rcases hy with ⟨c,rfl,e⟩ | ⟨c,rfl,e⟩ | ⟨p,ts,rfl,ep,cl,e⟩
 ·cases (show w'=Value.type c from rw');exact bj kx I.kIn z e (λy=>nomatch y) λtk=>⟨.bl b,H,I.tok tk,O,q⟩
 ·cases (show w'=aP c from rw');exact bj kx I.kIn z e (λy=>nomatch y) λtk=>⟨.bl b,H,I.tok tk,O,q⟩
 ·cases (show w'=aP p from rw');obtain⟨_,its,vs,o,h1,h2,n,h3⟩:=(show zB X.prog X.w H s.heap p (.tup ts) from I.hok p _ ep);have ei:=zgO cl vs;obtain⟨c0,d0,dt,sl⟩:=o;dsimp only at h2 h3;subst h2;subst h3;exact PySem.W.kia_tup kx I.kIn z h1 (by rw[ei];exact e) (λy=>nomatch y) λtk=>⟨.bl b,H,I.tok tk,O,q⟩
variable {x n:Str}{cv:aD}{body suite:List aB}{b₀:aB}{np hpos pos:Pos}{tb:(St->XK)->TS}{ts:TS}
end
end L2
namespace L2
open PySem PySem.Spec PyProof.Rows
section
variable {X:Cx}{x y1 y2:Str}{scope:Scope}{j1 j2:Nat}{c1 c2:aE}
def zo.two (clos:closureFor scope X.env=pure [(y1,c1),(y2,c2)])(kind:scope.kind=.function)(nc:∀y∈scope.names,y.2≠ .cell)(nm:∀y∈scope.names,y.2=.local->scope.names.lookup y.1=Y .local)(tgt:scope.names.lookup x=Y .local)
  (n1:x≠y1) (n2:x≠y2) (n12:y1≠y2) (e1:X.env.cells.lookup y1=Y c1) (e2:X.env.cells.lookup y2=Y c2) (only:∀q∈scope.names,q.2=.free->q.1=y1\/q.1=y2) (h1:X.N[j1]? =Y y1) (h2:X.N[j2]? =Y y2)
  (k1:X.env.kindOf y1=Y .cell\/X.env.kindOf y1=Y .free) (k2:X.env.kindOf y2=Y .cell\/X.env.kindOf y2=Y .free)
  (r1:(relabel scope X.env).names.lookup y1=Y .cell\/(relabel scope X.env).names.lookup y1=Y .free) (r2:(relabel scope X.env).names.lookup y2=Y .cell\/(relabel scope X.env).names.lookup y2=Y .free):
  zo X x [y1,y2] [j1,j2] scope [(y1,c1),(y2,c2)] where
 clos:=clos
 kind:=kind
 nocell:=nc
 names:=nm
 tgt:=tgt
 nd:=by simp[n1,n2,n12]
 sub:=λp hp=>by
  rcases JJ.mp hp with z | z
  ·rw[z];exact e1
  ·rw[Ji.mp z];exact e2
 has:=λp hp hk=>by
  have key:∀q:Str ×NameKind,q∈scope.names->q.2=.free->q.1∈ [(y1,c1),(y2,c2)].map (·.1):=λq hq z=>by rcases only q hq z with z | z <;> simp[z]
  obtain⟨q,hq,e,h | h⟩:=zcu hp
  ·subst h;rcases hk with hk | hk
   ·exact Jf hk (nc _ hq)
   ·exact key _ hq hk
  ·rw[e];exact key _ hq h
 fr:=λi z e=>by
  match i,e with
  | 0,e=>cases e;exact⟨j1,O,h1,k1,r1⟩
  | 1,e=>cases e;exact⟨j2,O,h2,k2,r2⟩
  | i+2,e=>simp at e
 len:=rfl
variable {P:aG}{W:aH}{A:aU}{E:QC}{z:aM}
def zfu {v:aD}{Q:QC}(hj:z.heap.IsTupleIter j t n)(ht:z.heap.IsTuple t us)(hv:us[n]? =Y v)
  (q:∀g,g.IsTupleIter j t (n+1)->Heap.SameBut j z.heap g->Q v {z with heap:=g}):aW (aY P W) A (bE (.ref j)) Q E z:=by
 obtain⟨oj,ej,cj,dj⟩:=id hj;obtain⟨ot,et,_,nt,dt⟩:=ht;unfold bE;refine Ja (bw (name:=bz "__next__") hj.typeIs F.slot_tuple_iterator_next (bA F.slot_tuple_iterator_next hj.typeIs F.entry_tuple_iterator_next ?_ (F.args_tuple_iterator_next_1 _)));show aW _ _ (field (.ref j) 0 >>=_) _ _ z;refine Ja (bv ej dj (x:=.ref t) rfl ?_);show aW _ _ (if (aP t==aO)=Z then _ else _) _ _ z;rw[au (show¬((aP t==aO)=Z) from Jd)];show aW _ _ (field (.ref j) 1 >>=_) _ _ z;refine Ja (bv ej dj (x:=.int n 0) rfl ?_);show aW _ _ (seqItems? (.ref t) >>=_) _ _ z;refine Ja (wpAny_seqItems et dt ?_);simp only[Int.toNat_natCast,hv];refine Ja (wpAny_setField ej dj (by simp) (bc ⟨v,O,bc (q _ ⟨_,JZ _ ej (Obj.isFreed_of_fields (Obj.data_mapFields dj _)),(Obj.cls_mapFields ..).trans cj,by rw[Obj.data_mapFields dj];simp[rawInt]⟩ (Heap.SameBut.update ..))⟩))
def ziW (hh:A.handled=U)(hj:z.heap.IsTupleIter j t n)(ht:z.heap.IsTuple t us)(hv:us[n]? =U)
  (q:∀g e,Heap.ExtBut j z.heap g->(∃o,g.get? e=Y o/\o.cls=.type "StopIteration")->E (.ref e) {z with heap:=g}):aW (aY P W) A (bE (.ref j)) Q E z:=by
 obtain⟨oj,ej,cj,dj⟩:=id hj;obtain⟨ot,et,_,nt,dt⟩:=ht;unfold bE;refine Ja (bw (name:=bz "__next__") hj.typeIs F.slot_tuple_iterator_next (bA F.slot_tuple_iterator_next hj.typeIs F.entry_tuple_iterator_next ?_ (F.args_tuple_iterator_next_1 _)));show aW _ _ (field (.ref j) 0 >>=_) _ _ z;refine Ja (bv ej dj (x:=.ref t) rfl ?_);show aW _ _ (if (aP t==aO)=Z then _ else _) _ _ z;rw[au (show¬((aP t==aO)=Z) from Jd)];show aW _ _ (field (.ref j) 1 >>=_) _ _ z;refine Ja (bv ej dj (x:=.int n 0) rfl ?_);show aW _ _ (seqItems? (.ref t) >>=_) _ _ z;refine Ja (wpAny_seqItems et dt ?_);simp only[Int.toNat_natCast,hv];refine Ja (wpAny_rule (Ja (wpAny_setField ej dj (by simp) ?_)));show aW _ _ (newExc (.type "StopIteration") [] >>=_) _ _ _;refine Ja ?_;simp only[newExc,newTuple];refine Ja (bB ?_ (by size_fits));refine Ja (m:=firstArgMember _ _) (wpAny_of_eq (a:=aO) (by first | rfl | (simp only[firstArgMember];rfl)) ?_);refine bB ?_ (by size_fits);simp only[raiseNew];refine Ja (wpAny_handled ?_);first | rw[show A.in1.handled=U from hh] | rw[hh]
 refine Ja (bc (wpAny_throw ?_));exact q _ _ (((Heap.SameBut.update ..).extBut.push _).push _) ⟨_,JL _ rfl,O⟩
structure ZSt (g:aF)(y a o i k p q:aE)(n:Nat)(xs us:Array aD)(f:aD):Prop where
 zp:IsZip g y a o f
 its:IsPair g a (.ref i) (.ref k)
 own:∃b c,IsPair g o b c
 i1:g.IsTupleIter i p n
 i2:g.IsTupleIter k q n
 t1:g.IsTuple p xs
 t2:g.IsTuple q us
def znB {u v:aD}{Q:Option aD->aM->Prop}(D:ZipApart y a o i k p q)(S:ZSt z.heap y a o i k p q n xs us .none)(hu:xs[n]? =Y u)(hv:us[n]? =Y v)
  (fin:∀g,ZSt g y a o i k p q (n+1) xs us (rawInt z.heap.objs.size)->IsPair g z.heap.objs.size u v->g.objs.size=z.heap.objs.size+1->(∀c r,c≠y->c≠o->c≠i->c≠k->z.heap.get? c=Y r->g.get? c=Y r)->Q (Y (.ref z.heap.objs.size)) {z with heap:=g}):
  aW (aY P W) A (pyNext (.ref y)) Q E z:=by
 obtain⟨hz,ha,⟨b,c,ho⟩,hi,hk,hp,hq⟩:=S;have tz:z.TypeIs (.ref y) "zip" :=⟨_,hz,O⟩;have main:aW (aY P W) A.in1 (Builtin.«zip.__next__» ⟨[.ref y],[]⟩) (λr s'=>∃v,r=.done (.ret v)/\Q (Y v) s') (λe s'=>True/\False) z:=by
  show aW _ _ (field (.ref y) 2 >>=_) _ _ _;refine Ja (bv hz rfl (x:=.bool G) rfl ?_);show aW _ _ (field (.ref y) 3 >>=_) _ _ _;refine Ja (bv hz rfl (x:=.ref a) rfl ?_);refine Ja (wpAny_seqItems ha rfl ?_);show aW _ _ (bF (.ref y) >>=_) _ _ _;refine Ja ?_;unfold bF;refine Ja (bv hz rfl (x:=.none) rfl (bc ?_));simp only[if_true];refine Ja (wpAny_rule ?_);refine Ja (bv hz rfl (x:=.ref o) rfl ?_);refine Ja (wpAny_setField_rec hz (by simp) λg1 hz1 s1=>?_);replace hz1:IsZip g1 y a o .ellipsis:=hz1;refine Ja ?_;simp only[List.zipIdx_cons,List.zipIdx_nil,List.forIn_cons,List.forIn_nil];refine Ja (Ja (wpAny_onRaise ?_));show aW _ _ (bE (.ref i) >>=_) _ _ _;refine Ja (zfu (hi.extBut s1.extBut D.i1z) (hp.extBut s1.extBut D.l1z) hu λg2 i2 s2=>bc ?_);have ho2:IsPair g2 o b c:=s2.extBut _ _ D.TOi1 (s1.extBut _ _ D.TOz ho);refine Ja (wpAny_seqItems ho2 rfl ?_);refine Ja (wpAny_updateSeq_pair ho2 λg3 ho3 s3=>?_);replace ho3:IsPair g3 o u c:=ho3;refine Ja (wpAny_letGo (bc ?_));refine Ja (Ja (wpAny_onRaise ?_));show aW _ _ (bE (.ref k) >>=_) _ _ _;refine Ja (zfu (((hk.extBut s1.extBut D.i2z).extBut s2.extBut D.i12.symm).extBut s3.extBut D.TOi2.symm) (((hq.extBut s1.extBut D.l2z).extBut s2.extBut D.l2i1).extBut s3.extBut D.l2TO) hv λg4 k4 s4=>bc ?_);have ho4:IsPair g4 o u c:=s4.extBut _ _ D.TOi2 ho3;refine Ja (wpAny_seqItems ho4 rfl ?_);refine Ja (wpAny_updateSeq_pair ho4 λg5 ho5 s5=>?_);replace ho5:IsPair g5 o u v:=ho5;refine Ja (wpAny_letGo (bc (bc ?_)));refine Ja (wpAny_seqItems ho5 rfl ?_);refine Ja (wpAny_newTuple ?_);have sz:g5.objs.size=z.heap.objs.size:=by rw[s5.1,s4.1,s3.1,s2.1,s1.1]
  have hz5:IsZip g5 y a o .ellipsis:=s5.extBut _ _ D.TOz.symm (s4.extBut _ _ D.i2z.symm (s3.extBut _ _ D.TOz.symm (s2.extBut _ _ D.i1z.symm hz1)));have up5:∀c r,c≠y->c≠o->c≠i->c≠k->z.heap.get? c=Y r->g5.get? c=Y r:=λc r c1 c2 c3 c4 e=>s5.extBut _ _ c2 (s4.extBut _ _ c4 (s3.extBut _ _ c2 (s2.extBut _ _ c3 (s1.extBut _ _ c1 e))));have hi5:g5.IsTupleIter i p (n+1):=((i2.extBut s3.extBut D.TOi1.symm).extBut s4.extBut D.i12).extBut s5.extBut D.TOi1.symm;have hk5:g5.IsTupleIter k q (n+1):=k4.extBut s5.extBut D.TOi2.symm;have ly:y < g5.objs.size:=JK hz5;show aW _ _ (Builtin.SmallTypes.ownedTupleHandOut (.ref y) (.ref g5.objs.size) >>=_) _ _ _;refine Ja ?_;unfold Builtin.SmallTypes.ownedTupleHandOut;have hz6:IsZip (g5.push {cls:=.type "tuple",data:=.seq #[u,v]}) y a o .ellipsis:=JE _ hz5;refine Ja (wpAny_setField_rec hz6 (by simp) λg7 hz7 s7=>?_);replace hz7:IsZip g7 y a o (rawInt g5.objs.size):=hz7;refine wpAny_setField_rec hz7 (by simp) λg8 hz8 s8=>?_;replace hz8:IsZip g8 y a o (rawInt g5.objs.size):=hz8;have up:∀c r,c≠y->g5.get? c=Y r->g8.get? c=Y r:=λc r c1 e=>s8.extBut _ _ c1 (s7.extBut _ _ c1 (JE _ e));have new8:IsPair g8 g5.objs.size u v:=s8.extBut _ _ (Nat.ne_of_gt ly) (s7.extBut _ _ (Nat.ne_of_gt ly) (JL _ rfl));have sz8:g8.objs.size=g5.objs.size+1:=by rw[s8.1,s7.1,Ng]
  rw[sz] at hz8 new8 sz8;refine bc ⟨ar⟩;show Q (Y (.ref g5.objs.size)) _;rw[sz];have upz:∀c r,c≠y->c≠o->c≠i->c≠k->z.heap.get? c=Y r->g8.get? c=Y r:=λc r c1 c2 c3 c4 e=>up c r c1 (up5 c r c1 c2 c3 c4 e);refine fin g8 ⟨hz8,upz _ _ D.TIz D.TITO D.TIi1 D.TIi2 ha,⟨_,_,up _ _ D.TOz ho5⟩,?_,?_,?_,?_⟩ new8 sz8 upz
  ·obtain⟨r,e,x⟩:=hi5;exact⟨r,up _ r D.i1z e,x⟩
  ·obtain⟨r,e,x⟩:=hk5;exact⟨r,up _ r D.i2z e,x⟩
  ·obtain⟨r,e,x⟩:=hp;exact⟨r,upz _ r D.l1z D.l1TO D.l1i1 D.l1i2 e,x⟩
  ·obtain⟨r,e,x⟩:=hq;exact⟨r,upz _ r D.l2z D.l2TO D.l2i1 D.l2i2 e,x⟩
 unfold pyNext;exact Ja (wpAny_attempt (bw (name:=bz "__next__") tz F.slot_zip_next (bA F.slot_zip_next tz F.entry_zip_next (a8 main (λr s' ⟨v,e,h⟩=>⟨v,e,bc h⟩) λ_ _ x=>x.2.elim) (F.args_zip_next_1 _))))
def zn5 {Q:Option aD->aM->Prop}(hh:A.handled=U)(D:ZipApart y a o i k p q)(S:ZSt z.heap y a o i k p q n xs us .none)(he:xs[n]? =U\/us[n]? =U)
  (fin:∀g,(∀c r,c≠y->c≠o->c≠i->c≠k->z.heap.get? c=Y r->g.get? c=Y r)->Q U {z with heap:=g}):aW (aY P W) A (pyNext (.ref y)) Q E z:=by
 obtain⟨hz,ha,⟨b,c,ho⟩,hi,hk,hp,hq⟩:=S;have tz:z.TypeIs (.ref y) "zip" :=⟨_,hz,O⟩;have main:aW (aY P W) A.in1 (Builtin.«zip.__next__» ⟨[.ref y],[]⟩) (λ_ _=>False) (λe s'=>∃g x,e=.ref x/\s'={z with heap:=g}/\(∀c r,c≠y->c≠o->c≠i->c≠k->z.heap.get? c=Y r->g.get? c=Y r)/\∃r,g.get? x=Y r/\r.cls=.type "StopIteration") z:=by
  show aW _ _ (field (.ref y) 2 >>=_) _ _ _;refine Ja (bv hz rfl (x:=.bool G) rfl ?_);show aW _ _ (field (.ref y) 3 >>=_) _ _ _;refine Ja (bv hz rfl (x:=.ref a) rfl ?_);refine Ja (wpAny_seqItems ha rfl ?_);show aW _ _ (bF (.ref y) >>=_) _ _ _;refine Ja ?_;unfold bF;refine Ja (bv hz rfl (x:=.none) rfl (bc ?_));simp only[if_true];refine Ja (wpAny_rule ?_);refine Ja (bv hz rfl (x:=.ref o) rfl ?_);refine Ja (wpAny_setField_rec hz (by simp) λg1 hz1 s1=>?_);replace hz1:IsZip g1 y a o .ellipsis:=hz1;refine Ja ?_;simp only[List.zipIdx_cons,List.zipIdx_nil,List.forIn_cons,List.forIn_nil];refine Ja (Ja (wpAny_onRaise ?_));show aW _ _ (bE (.ref i) >>=_) _ _ _;cases hu:xs[n]? with
  | none=>
   refine Ja (ziW (A:=A.in1) (show A.in1.handled=U from hh) (hi.extBut s1.extBut D.i1z) (hp.extBut s1.extBut D.l1z) hu λg2 e s2 he2=>?_);obtain⟨r,er,cr⟩:=he2;have hz2:IsZip g2 y a o .ellipsis:=s2 _ _ D.i1z.symm hz1;have ne:e≠y:=λx=>by subst x;rw[hz2] at er;cases er;simp at cr
   exact wpAny_setField_rec hz2 (by simp) λg3 _ s3=>⟨g3,e,O,O,λc r c1 _ c3 _ x=>s3.extBut _ _ c1 (s2 _ _ c3 (s1.extBut _ _ c1 x)),r,s3.extBut _ _ ne er,cr⟩
  | some u=>
   have hv:us[n]? =U:=he.elim (λz=>by rw[hu] at z;cases z) id;refine Ja (zfu (hi.extBut s1.extBut D.i1z) (hp.extBut s1.extBut D.l1z) hu λg2 i2 s2=>bc ?_);have ho2:IsPair g2 o b c:=s2.extBut _ _ D.TOi1 (s1.extBut _ _ D.TOz ho);refine Ja (wpAny_seqItems ho2 rfl ?_);refine Ja (wpAny_updateSeq_pair ho2 λg3 ho3 s3=>?_);refine Ja (wpAny_letGo (bc ?_));refine Ja (Ja (wpAny_onRaise ?_));show aW _ _ (bE (.ref k) >>=_) _ _ _;refine Ja (ziW (A:=A.in1) (show A.in1.handled=U from hh) (((hk.extBut s1.extBut D.i2z).extBut s2.extBut D.i12.symm).extBut s3.extBut D.TOi2.symm) (((hq.extBut s1.extBut D.l2z).extBut s2.extBut D.l2i1).extBut s3.extBut D.l2TO) hv λg4 e s4 he4=>?_);obtain⟨r,er,cr⟩:=he4;have hz4:IsZip g4 y a o .ellipsis:=s4 _ _ D.i2z.symm (s3.extBut _ _ D.TOz.symm (s2.extBut _ _ D.i1z.symm hz1));have ne:e≠y:=λx=>by subst x;rw[hz4] at er;cases er;simp at cr
   exact wpAny_setField_rec hz4 (by simp) λg5 _ s5=>⟨g5,e,O,O,λc r c1 c2 c3 c4 x=>s5.extBut _ _ c1 (s4 _ _ c4 (s3.extBut _ _ c2 (s2.extBut _ _ c3 (s1.extBut _ _ c1 x)))),r,s5.extBut _ _ ne er,cr⟩
 unfold pyNext;refine Ja (wpAny_attempt (bw (name:=bz "__next__") tz F.slot_zip_next (bA F.slot_zip_next tz F.entry_zip_next (a8 main (λ_ _ x=>x.elim) λe s' h=>?_) (F.args_zip_next_1 _))));obtain⟨g,x,rfl,rfl,up,r,er,cr⟩:=h;exact Ja (wpAny_isInstance (T:= "StopIteration") (b:=true) ⟨r,er,cr⟩ isSubtype_stop (bc (fin _ up)))
abbrev tz1 (g:aF)(p:aE):aF:=g.push {cls:=.type "tuple_iterator",data:=.fields #[.ref p,.int 0 0]}
abbrev tz2 (g:aF)(p q:aE):aF:=(tz1 g p).push {cls:=.type "tuple_iterator",data:=.fields #[.ref q,.int 0 0]}
abbrev tz3 (g:aF)(p q:aE):aF:=(tz2 g p q).push {cls:=.type "tuple",data:=.seq #[.ref g.objs.size,.ref (tz1 g p).objs.size]}
abbrev tz4 (g:aF)(p q:aE):aF:=(tz3 g p q).push {cls:=.type "tuple",data:=.seq #[.none,.none]}
abbrev tz5 (g:aF)(p q:aE):aF:=(tz4 g p q).push {cls:=.type "zip",data:=.fields #[.none,.bool G,.bool G,.ref (tz2 g p q).objs.size,.ref (tz3 g p q).objs.size]}
def znP {Q:QC}(hp:z.heap.IsTuple p xs)(hq:z.heap.IsTuple q us)
  (fin:∀g,ZSt g (z.heap.objs.size+4) (z.heap.objs.size+2) (z.heap.objs.size+3) z.heap.objs.size (z.heap.objs.size+1) p q 0 xs us .none->g.objs.size=z.heap.objs.size+5->(∀c r,z.heap.get? c=Y r->g.get? c=Y r)->Q (.ref (z.heap.objs.size+4)) {z with heap:=g}):
  aW (aY P W) A (call (.type "zip") [.ref p,.ref q]) Q E z:=by
 have M:Meets (Builtin.«zip.__new__» ⟨[.type "zip",.ref p,.ref q],[]⟩) (λ_ R s=>s.heap.IsTuple p xs/\s.heap.IsTuple q us/\R (.ok (.ret (.ref (tz4 s.heap p q).objs.size))) {s with heap:=tz5 s.heap p q}):=
  .of_wp λprog w A R s h=>by
   obtain⟨hp0,g,d,tk,os⟩:=s;obtain⟨h1,h2,h⟩:=h;have hsub:=sub_zip;have L1:Heap.IsTuple (Shared.heap ⟨hp0,g,d,tk,os⟩) p xs:=h1;have L2:Heap.IsTuple (Shared.heap ⟨hp0.push {cls:=.type "tuple_iterator",data:=.fields #[.ref p,.int 0 0]},g,d,tk,os⟩) q us:=by obtain⟨r,e,x⟩:=h2;exact⟨r,JE _ e,x⟩
   wp_walk using wpAny_pyIter_tuple L1,wpAny_pyIter_tuple L2
   exact⟨B,h⟩
 have n1:(tz1 z.heap p).objs.size=z.heap.objs.size+1:=Ng ..;have n2:(tz2 z.heap p q).objs.size=z.heap.objs.size+2:=by rw[Ng,n1]
 have n3:(tz3 z.heap p q).objs.size=z.heap.objs.size+3:=by rw[Ng,n2]
 have n4:(tz4 z.heap p q).objs.size=z.heap.objs.size+4:=by rw[Ng,n3]
 have n5:(tz5 z.heap p q).objs.size=z.heap.objs.size+5:=by rw[Ng,n4]
 have a5:(tz5 z.heap p q).get? (tz4 z.heap p q).objs.size=Y _:=JL _ rfl;have a4:(tz5 z.heap p q).get? (tz3 z.heap p q).objs.size=Y _:=JE _ (JL _ rfl);have a3:(tz5 z.heap p q).get? (tz2 z.heap p q).objs.size=Y _:=JE _ (JE _ (JL _ rfl));have a2:(tz5 z.heap p q).get? (tz1 z.heap p).objs.size=Y _:=JE _ (JE _ (JE _ (JL _ rfl)));have a1:(tz5 z.heap p q).get? z.heap.objs.size=Y _:=JE _ (JE _ (JE _ (JE _ (JL _ rfl))));have up:∀c r,z.heap.get? c=Y r->(tz5 z.heap p q).get? c=Y r:=λc r x=>JE _ (JE _ (JE _ (JE _ (JE _ x))));rw[n2,n3,n4] at a5;rw[n1,n2] at a3;rw[n3] at a4;rw[n1] at a2;refine callType_new F.called_zip () (F.typeCall_zip_2 _ _) (F.newCall_zip_2 _ _) (λobj=>F.args_object_init_3 obj _ _) F.entry_zip_new M ⟨hp,hq,?_⟩;show _/\_;rw[n4];refine⟨⟨_,a5,O⟩,fin _ ⟨a5,a3,⟨_,_,a4⟩,⟨_,a1,O,O⟩,⟨_,a2,O,O⟩,?_,?_⟩ n5 up⟩
 ·obtain⟨r,e,x⟩:=hp;exact⟨r,up _ _ e,x⟩
 ·obtain⟨r,e,x⟩:=hq;exact⟨r,up _ _ e,x⟩
end
structure ZI (g:aF)(y a o i k p q:aE)(n:Nat)(f:aD):Prop where
 zp:IsZip g y a o f
 its:IsPair g a (.ref i) (.ref k)
 own:∃b c,IsPair g o b c
 i1:g.IsTupleIter i p n
 i2:g.IsTupleIter k q n
def ZSt.zi (S:ZSt g y a o i k p q n xs us f):ZI g y a o i k p q n f:=⟨S.zp,S.its,S.own,S.i1,S.i2⟩
def Itz (K:QA)(p q:aE)(xs us:QR):It:=
 ⟨λn H=>SqT K H p xs/\SqT K H q us/\n < min xs.length us.length,λn H v H'=>∃(T:aE)(x u:V),H T=U/\xs[n]? =Y x/\us[n]? =Y u/\v=.ref T/\H'=upd H T (.tup [x,u]),λn H=>SqT K H p xs/\SqT K H q us/\min xs.length us.length<=n⟩
def _root_.JR:=@List.not_mem_nil
def znY {P:aG}{w:aH}{K:QA}{elts:List aX}{x1:Nat}{tpos:Pos}{y a o i k p q:aE}{xs us:QR}(D:ZipApart y a o i k p q):
  Turn P w K (.Tuple elts x1 tpos) (Itz K p q xs us) [y,a,o,i,k] y (λn h=>ZI h y a o i k p q n .none) where
 mem:=by simp
 obj:=λn h st b hb=>by
  obtain⟨hz,ha,⟨b1,b2,ho⟩,⟨r1,e1,_,d1⟩,⟨r2,e2,_,d2⟩⟩:=st;simp only[JJ,JR,or_false] at hb;rcases hb with rfl | rfl | rfl | rfl | rfl
  ·exact⟨_,hz,λv z=>by cases z⟩
  ·exact⟨_,ha,λv z=>by cases z⟩
  ·exact⟨_,ho,λv z=>by cases z⟩
  ·exact⟨_,e1,λv z=>by rw[d1] at z;cases z⟩
  ·exact⟨_,e2,λv z=>by rw[d2] at z;cases z⟩
 keep:=λn h h' st kp=>by obtain⟨hz,ha,⟨b1,b2,ho⟩,⟨r1,e1,x1⟩,⟨r2,e2,x2⟩⟩:=st;exact⟨kp y (by simp) _ hz,kp a (by simp) _ ha,⟨b1,b2,kp o (by simp) _ ho⟩,⟨r1,kp i (by simp) _ e1,x1⟩,⟨r2,kp k (by simp) _ e2,x2⟩⟩
 item:=by
  intro X hP hw hK hc n bH s σ H E I hf st hg;subst hP hw hK;obtain⟨hp,hq,hn⟩:=hg;obtain⟨its,r1,T1,z1⟩:=I.tuple hp;obtain⟨jts,r2,T2,z2⟩:=I.tuple hq;have hx:xs[n]? =Y xs[n]:=JD ();have hu:us[n]? =Y us[n]:=JD ();obtain⟨v1,e1,q1⟩:=r1.get hx;obtain⟨v2,e2,q2⟩:=r2.get hu;have fy:=hf y (by simp);have fa:=hf a (by simp);have fo:=hf o (by simp);have fi:=hf i (by simp);have fk:=hf k (by simp);have S:ZSt s.heap y a o i k p q n its.toArray jts.toArray .none:=⟨st.zp,st.its,st.own,st.i1,st.i2,T1,T2⟩;refine znB D S (u:=v1) (v:=v2) (by simpa using e1) (by simpa using e2) λg Sg new sz up=>?_;have hT:H s.heap.objs.size=U:=I.hok.fresh (Jb _);have inch:∀{b:aE},H b≠U->b≠y/\b≠o/\b≠i/\b≠k:=λ{b} h=>⟨λz=>h (by rw[z];exact fy.1),λz=>h (by rw[z];exact fo.1),λz=>h (by rw[z];exact fi.1),λz=>h (by rw[z];exact fk.1)⟩;have hok:HOk X.prog X.w (upd H s.heap.objs.size (.tup [xs[n],us[n]])) g:=λb u e=>by
   by_cases hb:b=s.heap.objs.size
   ·subst hb;rw[za] at e;cases e;refine⟨⟨by simp only[JM,Nn];rw[sizeLine_eq];decide,_,new,O⟩,[v1,v2],.cons q1 (.cons q2 .nil),⟨_,new,O,B⟩⟩
   ·rw[zd hb] at e;refine(I.hok b u e).stay (λc r hc q=>?_) (λc q=>by rw[zd (zf q hT)];exact q) λc ys q=>by rw[zd (zf q hT)];exact q
    have hne:H c≠U:=by
     rcases hc with rfl | hc
     ·rw[e];intro z;cases z
     ·rw[hc];intro z;cases z
    obtain⟨c1,c2,c3,c4⟩:=inch hne;exact up c r c1 c2 c3 c4 q
  have I1:Inv X bH σ (upd H s.heap.objs.size (.tup [xs[n],us[n]])) {s with heap:=g}:=by
   refine I.step (g':=s.gens) (d':=s.drawn) (t':=s.toks) (ch:=[y,o,i,k]) (λb hb=>?_) (λb r _ _ hc e _=>?_) (λb r _ _ hc e _=>⟨r.slots,?_⟩) (λb r hc e hn=>?_) (λb r hc e=>⟨r,?_⟩) (λb ys e=>by rw[zd (zf e hT)];exact e)
    (λb r ys e=>by rw[zd (zf e hT)];exact e) (λb ps e=>⟨#[],by rw[zd (zf e hT),e];simp⟩) (λm hm=>?_) hok I.bare
   ·simp only[JJ,JR,or_false] at hb;rcases hb with rfl | rfl | rfl | rfl
    ·exact⟨fy.2.2.2.1,fy.2.1,fy.2.2.2.2.1,fy.2.2.2.2.2⟩
    ·exact⟨fo.2.2.2.1,fo.2.1,fo.2.2.2.2.1,fo.2.2.2.2.2⟩
    ·exact⟨fi.2.2.2.1,fi.2.1,fi.2.2.2.2.1,fi.2.2.2.2.2⟩
    ·exact⟨fk.2.2.2.1,fk.2.1,fk.2.2.2.2.1,fk.2.2.2.2.2⟩
   ·simp only[JJ,JR,or_false,not_or] at hc;exact up b r hc.1 hc.2.1 hc.2.2.1 hc.2.2.2 e
   ·simp only[JJ,JR,or_false,not_or] at hc;exact up b r hc.1 hc.2.1 hc.2.2.1 hc.2.2.2 e
   ·rw[zd (Jl (JK e))];exact hn
   ·simp only[JJ,JR,or_false,not_or] at hc;exact up b r hc.1 hc.2.1 hc.2.2.1 hc.2.2.2 e
   ·obtain⟨r,es,ep,er,d⟩:=hm;exact⟨r,es,ep,up _ r (aV fy.2.1) (aV fo.2.1) (aV fi.2.1) (aV fk.2.1) er,d⟩
  have hfp:∀b∈ [y,a,o,i,k],upd H s.heap.objs.size (.tup [xs[n],us[n]]) b=U:=λb hb=>by
   have fb:=hf b hb;have lt:b < s.heap.objs.size:=by
    obtain⟨hz,ha,⟨b1,b2,ho⟩,⟨r1,e1,_⟩,⟨r2,e2,_⟩⟩:=st;simp only[JJ,JR,or_false] at hb;rcases hb with rfl | rfl | rfl | rfl | rfl
    ·exact JK hz
    ·exact JK ha
    ·exact JK ho
    ·exact JK e1
    ·exact JK e2
   rw[zd (Jl lt)];exact fb.1
  refine⟨B,wpAny_letOwnedTupleGo_zip Sg.zp λg2 hz2 s2=>?_⟩;refine⟨.ref s.heap.objs.size,_,I1.turned (it:=y) (t':=s.toks) (λb r hb e=>s2.extBut _ _ hb e) (hfp y (by simp)) fy.2.1 fy.2.2.2.1 fy.2.2.2.2.1 fy.2.2.2.2.2,O,⟨_,_,_,hT,hx,hu,O,O⟩,⟨hz2,s2.extBut _ _ D.TIz Sg.its,?_,Sg.i1.extBut s2.extBut D.i1z,Sg.i2.extBut s2.extBut D.i2z⟩,hfp⟩;obtain⟨b1,b2,ho⟩:=Sg.own;exact⟨b1,b2,s2.extBut _ _ D.TOz ho⟩
 done:=by
  intro X hP hw hK hc n bH s σ H E I hf st hg;subst hP hw hK;obtain⟨hp,hq,hn⟩:=hg;obtain⟨its,r1,T1,z1⟩:=I.tuple hp;obtain⟨jts,r2,T2,z2⟩:=I.tuple hq;have fy:=hf y (by simp);have fo:=hf o (by simp);have fi:=hf i (by simp);have fk:=hf k (by simp);have S:ZSt s.heap y a o i k p q n its.toArray jts.toArray .none:=⟨st.zp,st.its,st.own,st.i1,st.i2,T1,T2⟩;have l1:=r1.length;have l2:=r2.length;have he:its.toArray[n]? =U\/jts.toArray[n]? =U:=by
   by_cases h:xs.length<=n
   ·exact .inl (by simp;lia)
   ·exact .inr (by simp;lia)
  refine zn5 (I.ok.hd hc) D S he λg up=>⟨O,?_⟩;have inch:∀{b:aE},H b≠U->b≠y/\b≠o/\b≠i/\b≠k:=λ{b} h=>⟨λz=>h (by rw[z];exact fy.1),λz=>h (by rw[z];exact fo.1),λz=>h (by rw[z];exact fi.1),λz=>h (by rw[z];exact fk.1)⟩;refine I.step (g':=s.gens) (d':=s.drawn) (t':=s.toks) (ch:=[y,o,i,k]) (λb hb=>?_) (λb r _ _ hc e _=>?_) (λb r _ _ hc e _=>⟨r.slots,?_⟩) (λb r hc e hn=>hn) (λb r hc e=>⟨r,?_⟩) (λb ys e=>e) (λb r ys e=>e) (λb ps e=>⟨#[],by rw[e];simp⟩) (λm hm=>?_) (λb u e=>?_) I.bare
  ·simp only[JJ,JR,or_false] at hb;rcases hb with rfl | rfl | rfl | rfl
   ·exact⟨fy.2.2.2.1,fy.2.1,fy.2.2.2.2.1,fy.2.2.2.2.2⟩
   ·exact⟨fo.2.2.2.1,fo.2.1,fo.2.2.2.2.1,fo.2.2.2.2.2⟩
   ·exact⟨fi.2.2.2.1,fi.2.1,fi.2.2.2.2.1,fi.2.2.2.2.2⟩
   ·exact⟨fk.2.2.2.1,fk.2.1,fk.2.2.2.2.1,fk.2.2.2.2.2⟩
  ·simp only[JJ,JR,or_false,not_or] at hc;exact up b r hc.1 hc.2.1 hc.2.2.1 hc.2.2.2 e
  ·simp only[JJ,JR,or_false,not_or] at hc;exact up b r hc.1 hc.2.1 hc.2.2.1 hc.2.2.2 e
  ·simp only[JJ,JR,or_false,not_or] at hc;exact up b r hc.1 hc.2.1 hc.2.2.1 hc.2.2.2 e
  ·obtain⟨r,es,ep,er,d⟩:=hm;exact⟨r,es,ep,up _ r (aV fy.2.1) (aV fo.2.1) (aV fi.2.1) (aV fk.2.1) er,d⟩
  ·refine(I.hok b u e).stay (λc r hc q=>?_) (λ_ q=>q) λ_ _ q=>q;have hne:H c≠U:=by
    rcases hc with rfl | hc
    ·rw[e];intro z;cases z
    ·rw[hc];intro z;cases z
   obtain⟨c1,c2,c3,c4⟩:=inch hne;exact up c r c1 c2 c3 c4 q
 self:=λ_ _ _ _ _ st h=>wpAny_pyIter_zip st.zp h
def zr2 (n p q:Nat)(h1:p < n)(h2:q < n):ZipApart (n+4) (n+2) (n+3) n (n+1) p q where
 TIz:=show(n+2:Nat)≠n+4 by lia
 TOz:=show(n+3:Nat)≠n+4 by lia
 i1z:=show(n:Nat)≠n+4 by lia
 i2z:=show(n+1:Nat)≠n+4 by lia
 TITO:=show(n+2:Nat)≠n+3 by lia
 TIi1:=show(n+2:Nat)≠n by lia
 TIi2:=show(n+2:Nat)≠n+1 by lia
 TOi1:=show(n+3:Nat)≠n by lia
 TOi2:=show(n+3:Nat)≠n+1 by lia
 i12:=show(n:Nat)≠n+1 by lia
 l1z:=show(p:Nat)≠n+4 by lia
 l1TO:=show(p:Nat)≠n+3 by lia
 l1i1:=show(p:Nat)≠n by lia
 l1i2:=show(p:Nat)≠n+1 by lia
 l2z:=show(q:Nat)≠n+4 by lia
 l2TO:=show(q:Nat)≠n+3 by lia
 l2i1:=show(q:Nat)≠n by lia
 l2i2:=show(q:Nat)≠n+1 by lia
section
variable {X:Cx}
def iZip (K:QA)(ta:TA):TI:=fun σ H R=>ta σ H λvs H1=>∃(p q:aE)(xs us:QR),vs=[.ref p,.ref q]/\SqT K H1 p xs/\SqT K H1 q us/\R (Itz K p q xs us) H1
def zsz {elts:List aX}{x1:Nat}{tpos:Pos}{a b:aX}{p pos:Pos}(hg:Gl X "zip") (hm:X.mg "zip" =U) (ha:PA X [a,b] ta) (hs:a7 [a,b] X.env=[(G,aZ a X.env),(G,aZ b X.env)]:=by rfl) (hs2:a7 [b] X.env=[(G,aZ b X.env)]:=by rfl):
  PI X (.Tuple elts x1 tpos) (.Call (.Name "zip" p) [a,b] [] pos) (iZip X.K ta):=by
 intro bH s σ H R I h;refine Call_ (zcr I hg hm (u:=.type "zip") (by rfl) (PyProof.Rows.callWith_type1 (thn (ha pos bH s σ H _ I h) λus s1 ⟨vs,H1,I1,r1,q1⟩=>?_) (by rw[hs,hs2]) (by rw[hs2];rfl)));obtain⟨p1,p2,xs,ys,rfl,hp,hq,q⟩:=q1;obtain⟨u,w',rfl,ru,rw'⟩:=vals2 r1;cases (show u=aP _ from ru);cases (show w'=aP _ from rw');obtain⟨its,r1,T1,z1⟩:=I1.tuple hp;obtain⟨jts,r2,T2,z2⟩:=I1.tuple hq;refine znP T1 T2 λg S sz up=>wpAny_pyIter_zip S.zp ?_;have lt1:p1 < s1.heap.objs.size:=by obtain⟨r,e,_⟩:=T1;exact JK e
 have lt2:p2 < s1.heap.objs.size:=by obtain⟨r,e,_⟩:=T2;exact JK e
 refine⟨_,_,_,_,H1,O,I1.kept (t':=s1.toks) up,znY (zr2 _ _ _ lt1 lt2),S.zi,λb hb=>?_,q⟩;have hb':s1.heap.objs.size<=b:=by
  simp only[JJ,JR,or_false] at hb;rcases hb with rfl | rfl | rfl | rfl | rfl
  ·exact JB _ _
  ·exact JB _ _
  ·exact JB _ _
  ·exact Jb _
  ·exact JB _ _
 exact I1.fpOk hb' (I1.hok.fresh hb')
def zqs {K:QA}{p q:aE}{xs us:QR}{g:TG}{tb:TS}{D:Ends}{σ:St}{H:Hp}(Pv:Nat->St->Hp->Prop)(h0:Pv 0 σ H)(hl:∀i σ H,Pv i σ H->SqT K H p xs/\SqT K H q us)
  (hs:∀i x u T σ H,xs[i]? =Y x->us[i]? =Y u->H T=U->Pv i σ H->g (.ref T) σ (upd H T (.tup [x,u])) fun σ2 H2=>tb {D with nx:=Pv (i+1),ct:=Pv (i+1),bk:=D.nx} σ2 H2) (hd:∀σ H,Pv (min xs.length us.length) σ H->D.nx σ H):
  xFor g tb D (Itz K p q xs us) σ H:=by
 refine⟨λi m σ H=>m=min xs.length us.length - i/\i<=min xs.length us.length/\Pv i σ H,⟨B,JN _,h0⟩,?_⟩;rintro i m σ H ⟨rfl,hi,p⟩;have q:=hl i σ H p;by_cases hlt:i < min xs.length us.length
 ·refine .inr ⟨⟨q.1,q.2,hlt⟩,Pv (i+1),fun σ' H' p'=>⟨_,(),O,hlt,p'⟩,λx H' y=>?_⟩;obtain⟨T,a,b,hT,e1,e2,rfl,rfl⟩:=y;exact hs i a b T σ H e1 e2 hT p
 ·have e:i=min xs.length us.length:=()
  subst e;exact .inl ⟨⟨q.1,q.2,Jb _⟩,hd σ H p⟩
end
end L2
namespace Pv
open PySem L2
mutual
def eqT:Th->Th->Bool
 | .non,.non=>Z
 | .int a,.int b=>a==b
 | .str a,.str b=>a==b
 | .tup a,.tup b=>eqL a b
 | _,_=>G
def eqL:List Th->List Th->Bool
 | [],[]=>Z
 | t::r,u::q=>eqT t u && eqL r q
 | _,_=>G
end
mutual
theorem zJ:∀t u:Th,eqT t u=Z↔t=u
 | .non,.non=>by simp[eqT]
 | .non,.int _=>by simp[eqT]
 | .non,.str _=>by simp[eqT]
 | .non,.tup _=>by simp[eqT]
 | .int _,.non=>by simp[eqT]
 | .int a,.int b=>by simp[eqT]
 | .int _,.str _=>by simp[eqT]
 | .int _,.tup _=>by simp[eqT]
 | .str _,.non=>by simp[eqT]
 | .str _,.int _=>by simp[eqT]
 | .str a,.str b=>by simp[eqT]
 | .str _,.tup _=>by simp[eqT]
 | .tup _,.non=>by simp[eqT]
 | .tup _,.int _=>by simp[eqT]
 | .tup _,.str _=>by simp[eqT]
 | .tup a,.tup b=>by have:=zcR a b;simp[eqT,this]
theorem zcR:∀a b:List Th,eqL a b=Z↔a=b
 | [],[]=>by simp[eqL]
 | [],_::_=>by simp[eqL]
 | _::_,[]=>by simp[eqL]
 | t::r,u::q=>by have h1:=zJ t u;have h2:=zcR r q;simp[eqL,h1,h2]
end
theorem z9 (t:Th):eqT t t=Z:=(zJ t t).mpr rfl
theorem zc4:∀a b:List Th,eqL a b=((List.range (min a.length b.length)).all (λj=>eqT (a[j]?.getD .non) (b[j]?.getD .non)) && a.length==b.length)
 | [],[]=>rfl
 | [],_::_=>by simp[eqL]
 | _::_,[]=>by simp[eqL]
 | t::r,u::q=>by
  have h:=zc4 r q;show(eqT t u && eqL r q)=_;rw[h,JM,JM,Nat.succ_min_succ,List.range_succ_eq_map,List.all_cons,List.all_map];have e:(λj=>eqT ((t::r)[j]?.getD .non) ((u::q)[j]?.getD .non)) ∘ Nat.succ=λj=>eqT (r[j]?.getD .non) (q[j]?.getD .non):=by funext j;simp
  rw[e];have e2:(r.length+1==q.length+1)=(r.length==q.length):=by rw[Nv];simp
  rw[e2,Bool.and_assoc]
  rfl
theorem Rep.inj (r:Rep H t v)(q:Rep H u v):t=u:=by
 induction r generalizing u with
 | non=>cases q;rfl
 | int i=>cases q;rfl
 | str x=>cases q;rfl
 | @tup a xs ts e l h ih=>
  cases q with
  | @tup _ ys us e' l' h'=>
   rw[e] at e';cases e';refine congrArg Th.tup (List.ext_getElem? λi=>?_);by_cases hi:i < xs.length
   ·have h1:ts[i]? =Y ts[i]:=JD ();have h2:us[i]? =Y us[i]:=JD ();rw[h1,h2,ih i xs[i] ts[i] (JD hi) h1 (h' i xs[i] us[i] (JD hi) h2)]
   ·rw[Nc (),Nc ()]
open PySem.SeqAt in
section
variable {X:Cx}{bH:QE}{σ:L2.St}{H:Hp}{s:aM}
def zju (I:Inv X bH σ H s){xs ys:QR}{ts us:List Th}{A:aU}(e:H a=Y (.tup xs))(e':H b=Y (.tup ys))(l:xs.length=ts.length)(l':ys.length=us.length)
  (ih:∀(j:Nat)(x y:V)(t u:Th)(vx vy:aD),xs[j]? =Y x->ys[j]? =Y y->ts[j]? =Y t->us[j]? =Y u->RelV x vx->RelV y vy->EqAt A.in1 s vx vy (eqT t u)):
  ∃its jts:List aD,s.heap.IsTuple a its.toArray/\s.heap.IsTuple b jts.toArray/\its.length=ts.length/\jts.length=us.length/\
   ∀j (h1:j < its.toArray.size) (h2:j < jts.toArray.size),EqAt A.in1 s its.toArray[j] jts.toArray[j] (eqT (ts[j]?.getD .non) (us[j]?.getD .non)):=by
 obtain⟨its,r1,T1,_⟩:=I.tuple (SqT.of e);obtain⟨jts,r2,T2,_⟩:=I.tuple (SqT.of e');have n1:=r1.length;have n2:=r2.length;refine⟨its,jts,T1,T2,(),(),λj h1 h2=>?_⟩;have h1':j < its.length:=by simpa using h1
 have h2':j < jts.length:=by simpa using h2
 obtain⟨vx,ex,rx⟩:=r1.get (JD (show j < xs.length by lia));obtain⟨vy,ey,ry⟩:=r2.get (JD (show j < ys.length by lia));have g1:ts[j]? =Y ts[j]:=JD ();have g2:us[j]? =Y us[j]:=JD ();have q:=ih j _ _ _ _ vx vy (JD (show j < xs.length by lia)) (JD (show j < ys.length by lia)) g1 g2 rx ry;rw[g1,g2];have z1:its.toArray[j]=vx:=by have:its[j]? =Y its[j]:=JD h1';rw[this] at ex;simpa using JP ex
 have z2:jts.toArray[j]=vy:=by have:jts[j]? =Y jts[j]:=JD h2';rw[this] at ey;simpa using JP ey
 rw[z1,z2];exact q
def zgb (I:Inv X bH σ H s)(r:Rep H t x):∀{u:Th}{y:V}{vx vy:aD}{A:aU},Rep H u y->RelV x vx->RelV y vy->A.units+dep t+1 < bn->EqAt A s vx vy (eqT t u):=by
 induction r with
 | non=>
  intro u y vx vy A q rx ry hu;cases (show vx=aO from rx);cases q with
  | non=>cases (show vy=aO from ry);exact EqAt.same _
  | int i=>obtain⟨k,rfl⟩:=ry;exact EqAt.none_int i k
  | str z=>obtain⟨k,rfl⟩:=ry;exact EqAt.none_str z k
  | tup e l h=>cases (show vy=aP _ from ry);obtain⟨its,_,T,_⟩:=I.tuple (SqT.of e);exact EqAt.none_tuple T ()
 | int a=>
  intro u y vx vy A q rx ry hu;obtain⟨k1,rfl⟩:=rx;cases q with
  | non=>cases (show vy=aO from ry);exact EqAt.int_none a k1
  | int i=>obtain⟨k,rfl⟩:=ry;exact EqAt.int_int a k1 i k
  | str z=>obtain⟨k,rfl⟩:=ry;exact EqAt.int_str a k1 z k
  | tup e l h=>cases (show vy=aP _ from ry);obtain⟨its,_,T,_⟩:=I.tuple (SqT.of e);exact EqAt.int_tuple a k1 T ()
 | str a=>
  intro u y vx vy A q rx ry hu;obtain⟨k1,rfl⟩:=rx;cases q with
  | non=>cases (show vy=aO from ry);exact EqAt.str_none a k1
  | int i=>obtain⟨k,rfl⟩:=ry;exact EqAt.str_int a k1 i k
  | str z=>obtain⟨k,rfl⟩:=ry;exact EqAt.str_str a k1 z k
  | tup e l h=>cases (show vy=aP _ from ry);obtain⟨its,_,T,_⟩:=I.tuple (SqT.of e);exact EqAt.str_tuple a k1 T ()
 | @tup a xs ts e l h ih=>
  intro u y vx vy A q rx ry hu;cases (show vx=aP a from rx);cases q with
  | non=>cases (show vy=aO from ry);obtain⟨its,_,T,_⟩:=I.tuple (SqT.of e);exact EqAt.tuple_none T ()
  | int i=>obtain⟨k,rfl⟩:=ry;obtain⟨its,_,T,_⟩:=I.tuple (SqT.of e);exact EqAt.tuple_int i k T ()
  | str z=>obtain⟨k,rfl⟩:=ry;obtain⟨its,_,T,_⟩:=I.tuple (SqT.of e);exact EqAt.tuple_str z k T ()
  | @tup b ys us e' l' h'=>
   cases (show vy=aP b from ry);by_cases hab:a=b
   ·subst hab;have z:=Rep.inj (Rep.tup e l h) (Rep.tup e' l' h');rw[<-z,z9];exact EqAt.same _
   ·have hd:dep (.tup ts)=depL ts+1:=rfl;obtain⟨its,jts,T1,T2,n1,n2,q⟩:=zju (A:=A) I e e' l l' λj x y t u vx vy h1 h2 h3 h4 rx ry=>ih j x t h1 h3 (h' j y u h2 h4) rx ry (by
     have:=zaT h3;show A.units+1+dep t+1 < bn;lia)
    have R:=RcAt.tuples T1 T2 (show A.units < bn by lia) q;have e3:((List.range (min its.toArray.size jts.toArray.size)).all (λj=>eqT (ts[j]?.getD .non) (us[j]?.getD .non)) && its.toArray.size==jts.toArray.size)=eqT (.tup ts) (.tup us):=by show _=eqL ts us;rw[zc4,JH,JH,n1,n2]
    rw[e3] at R;exact EqAt.of_refs hab R
def rc_T (I:Inv X bH σ H s){A:aU}(r:Rep H t x)(q:Rep H u y)(rx:RelV x vx)(ry:RelV y vy)(hu:A.units+dep t+1 < bn):RcAt A s vx vy (eqT t u)/\RcNeAt A s vx vy (!eqT t u):=by
 cases r with
 | non=>
  cases (show vx=aO from rx);cases q with
  | non=>cases (show vy=aO from ry);exact⟨RcAt.none_none,RcNeAt.none_none⟩
  | int i=>obtain⟨k,rfl⟩:=ry;exact⟨RcAt.none_int i k,RcNeAt.none_int i k⟩
  | str z=>obtain⟨k,rfl⟩:=ry;exact⟨RcAt.none_str z k,RcNeAt.none_str z k⟩
  | tup e l h=>cases (show vy=aP _ from ry);obtain⟨its,_,T,_⟩:=I.tuple (SqT.of e);exact⟨RcAt.none_tuple T (),RcNeAt.none_tuple T ()⟩
 | int a=>
  obtain⟨k1,rfl⟩:=rx;cases q with
  | non=>cases (show vy=aO from ry);exact⟨RcAt.int_none a k1,RcNeAt.int_none a k1⟩
  | int i=>obtain⟨k,rfl⟩:=ry;exact⟨RcAt.int_int a k1 i k,RcNeAt.int_int a k1 i k⟩
  | str z=>obtain⟨k,rfl⟩:=ry;exact⟨RcAt.int_str a k1 z k,RcNeAt.int_str a k1 z k⟩
  | tup e l h=>cases (show vy=aP _ from ry);obtain⟨its,_,T,_⟩:=I.tuple (SqT.of e);exact⟨RcAt.int_tuple a k1 T (),RcNeAt.int_tuple a k1 T ()⟩
 | str a=>
  obtain⟨k1,rfl⟩:=rx;cases q with
  | non=>cases (show vy=aO from ry);exact⟨RcAt.str_none a k1,RcNeAt.str_none a k1⟩
  | int i=>obtain⟨k,rfl⟩:=ry;exact⟨RcAt.str_int a k1 i k,RcNeAt.str_int a k1 i k⟩
  | str z=>obtain⟨k,rfl⟩:=ry;exact⟨RcAt.str_str a k1 z k,RcNeAt.str_str a k1 z k⟩
  | tup e l h=>cases (show vy=aP _ from ry);obtain⟨its,_,T,_⟩:=I.tuple (SqT.of e);exact⟨RcAt.str_tuple a k1 T (),RcNeAt.str_tuple a k1 T ()⟩
 | @tup a xs ts e l h=>
  cases (show vx=aP a from rx);cases q with
  | non=>cases (show vy=aO from ry);obtain⟨its,_,T,_⟩:=I.tuple (SqT.of e);exact⟨RcAt.tuple_none T (),RcNeAt.tuple_none T ()⟩
  | int i=>obtain⟨k,rfl⟩:=ry;obtain⟨its,_,T,_⟩:=I.tuple (SqT.of e);exact⟨RcAt.tuple_int i k T (),RcNeAt.tuple_int i k T ()⟩
  | str z=>obtain⟨k,rfl⟩:=ry;obtain⟨its,_,T,_⟩:=I.tuple (SqT.of e);exact⟨RcAt.tuple_str z k T (),RcNeAt.tuple_str z k T ()⟩
  | @tup b ys us e' l' h'=>
   cases (show vy=aP b from ry);have hd:dep (.tup ts)=depL ts+1:=rfl;obtain⟨its,jts,T1,T2,n1,n2,q⟩:=zju (A:=A) I e e' l l' λj x y t u vx vy h1 h2 h3 h4 rx ry=>zgb I (h j x t h1 h3) (h' j y u h2 h4) rx ry (by
     have:=zaT h3;show A.units+1+dep t+1 < bn;lia)
   have e3:((List.range (min its.toArray.size jts.toArray.size)).all (λj=>eqT (ts[j]?.getD .non) (us[j]?.getD .non)) && its.toArray.size==jts.toArray.size)=eqT (.tup ts) (.tup us):=by show _=eqL ts us;rw[zc4,JH,JH,n1,n2]
   have R:=RcAt.tuples T1 T2 (show A.units < bn by lia) q;have R':=RcNeAt.tuples T1 T2 (show A.units < bn by lia) q;rw[e3] at R R';exact⟨R,R'⟩
end
section
variable {X:Cx}
def zcT (hr:Room k X.A):OpR X (a9 .Eq) (λx y H Q=>∃t u,Rep H t x/\Rep H u y/\dep t<=50/\Q (.bl (eqT t u)) H):=by intro bH s σ H x y v w Q I rx ry h;obtain⟨t,u,r1,r2,hd,q⟩:=h;have hu:=hr.units;exact(rc_T I r1 r2 rx ry ()).1 _ _ _ _ ⟨.bl _,H,I,O,q⟩
def zd8 (hr:Room k X.A):OpR X (a9 .NotEq) (λx y H Q=>∃t u,Rep H t x/\Rep H u y/\dep t<=50/\Q (.bl (!eqT t u)) H):=by intro bH s σ H x y v w Q I rx ry h;obtain⟨t,u,r1,r2,hd,q⟩:=h;have hu:=hr.units;exact(rc_T I r1 r2 rx ry ()).2 _ _ _ _ ⟨.bl _,H,I,O,q⟩
end
end Pv
namespace L2
open PySem PySem.Spec PyProof.Rows
def zcs (kvs:QG):List Int:=kvs.filterMap λp=>match p.1 with | .inl n=>Y n | .inr _=>U
def IntKeys (kvs:QG):Prop:=kvs.map (·.1)=(zcs kvs).map aN
theorem KV.at {kvs:QG}{vs:List (Key ×aD)}(r:KV kvs vs):kvs.length=vs.length/\kvs.map (·.1)=vs.map (·.1):=by
 unfold KV at r
 induction r with
 | nil=>exact⟨O,O⟩
 | cons h _ ih=>exact⟨by simp[ih.1],by simp[ih.2,h.1]⟩
section
variable {X:Cx}
def zqX (r:KV kvs vs)(hi:IntKeys kvs){j:Nat}{k:Key}{x:aD}(e:vs[j]? =Y (k,x))(hk:zgd k v=Z):∃t,v=.int ((zcs kvs)[j]?.getD 0) t/\j < (zcs kvs).length:=by
 have h1:(vs.map (·.1))[j]? =Y k:=by rw[JV,e];rfl
 rw[<-r.at.2,hi,JV] at h1;cases z:(zcs kvs)[j]? with
 | none=>rw[z] at h1;cases h1
 | some n=>rw[z] at h1;have h2:k=aN n:=(JP h1).symm;subst h2;obtain⟨t,e'⟩:=Value.isInt_shape (k:=n) (v:=v) hk;exact⟨t,e',(JG.mp z).1⟩
theorem zge:∀{us:QO}{ns:List Int},us.length=ns.length->(∀(j:Nat)(v:aD),us[j]? =Y v->∃t,v=.int (ns[j]?.getD 0) t)->IntsAre us ns
 | [],[],_,_=>.nil
 | v::us,n::ns,hl,h=>by obtain⟨t,e⟩:=h 0 v rfl;subst e;exact .cons n t (zge (by simpa using hl) λj v e=>h (j+1) v e)
 | [],_::_,hl,_=>by simp at hl
 | _::_,[],hl,_=>by simp at hl
def zio (h:IntKeys kvs):(zcs kvs).length=kvs.length:=by have:=congrArg List.length h;simpa using this.symm
def gathered {A:aU}{s:aM}{R:List aD->aM->Prop}
  (src:PySem.W.KdlSrc P w T a d n F ah) (calm:A.handled=U) (g:ah s.heap) (le:n<=aQ)
  (h:∀(h':aF)(k:Nat)(xs:Array aD),(∀b o,s.heap.get? b=Y o->h'.get? b=Y o)->s.heap.objs.size < h'.objs.size->PySem.ItemsOf F xs n->R xs.toList {s with heap:=h',toks:=k}):
  aW (aY P w) A (collect (.ref a)) R E s:=by
 obtain⟨lt1,lt2⟩:=src.there _ g;unfold collect;refine Ja (wpAny_runValue (codeAny_builtin entry_proto_collect' ?_));rw[Around.under_plainId PySem.F.plain_proto_collect _];refine Ja (m:=newList []) (bB (bc ⟨plainId_quiet PySem.F.plain_list_iadd _,codeAny_builtin entry_list_iadd' ?_⟩));rw[Around.under_plainId PySem.F.plain_list_iadd _];refine a8 (PySem.W.kdl_extend (A:=A) (s:={s with heap:=s.heap.push {cls:=.type "list",data:=.seq ([]:QO).toArray}})
  (R:=λq s'=>∃h' k xs c,q=.ok (.ret (.ref s.heap.objs.size))/\s'={s with heap:=h',toks:=k}/\(∀b o,s.heap.get? b=Y o->h'.get? b=Y o)/\h'.get? s.heap.objs.size=Y {cls:=.type "list",dict:=U,data:=.seq xs c,slots:= #[]}/\PySem.ItemsOf F xs n)
  src calm (src.keep _ _ g λb _ o e=>JE _ e) s.heap.objs.size (Nat.ne_of_gt lt1) (Nat.ne_of_gt lt2) (.ref s.heap.objs.size) 0 (JL _ rfl)
  (λh' k xs c kk hS hx=>⟨h',k,xs,c,O,O,λb o e=>kk b o (Jl (JK e)) (JE _ e),hS,hx⟩) le) (λfin s' x=>?_) (λe s' x=>?_)
 ·cases fin with
  | done f=>obtain⟨h',k,xs,c,e,rfl,kk,hS,hx⟩:=x;cases e;exact Ja (m:=load s.heap.objs.size) (wpAny_load hS (bc (h h' k xs kk (JK hS) hx)))
  | again c₁=>refine⟨x.1,codeAny_mono x.2 λq s₂ y=>?_⟩;obtain⟨h',k,xs,c,rfl,rfl,kk,hS,hx⟩:=y;exact Ja (m:=load s.heap.objs.size) (wpAny_load hS (bc (h h' k xs kk (JK hS) hx)))
 ·obtain⟨_,_,_,_,e',_⟩:=x;cases e'
def zhY (hc:X.calm=Z):zac X (.builtin "sorted") (λxs H Q=>∃(d:aE)(kvs:QG),xs=[.ref d]/\H d=Y (.dK kvs)/\IntKeys kvs/\kvs.length < 64/\
  ∀(l:aE)(ns:List Int),H l=U->ns.Perm (zcs kvs)->ns.Pairwise (· <= ·)->Q (.ref l) (upd H l (.lst (ns.map V.int)))):=by
 intro bH s σ H xs us Q I r h;obtain⟨d,kvs,rfl,hd,hi,h64,q⟩:=h;obtain⟨u,rfl,ru⟩:=vals1 r;cases (show u=aP d from ru);obtain⟨hz,lo,vs,rel,hD⟩:=I.hok d _ hd;obtain⟨ep,hat⟩:=hD.dictAt;have hl:=rel.at.1;have hkl:=zio hi;refine Calls.call_function_entry kind_sorted plain_sorted entry_sorted (args_sorted1 _) ?_;unfold Builtin.«sorted»;refine Ja (m:=checkCount "sorted" 1 1 _) (bc ?_);refine Ja (gathered (A:=X.A.in1) (PySem.W.kdl_dict (knd:=zad X.prog X.w) (kvs:=vs) (ep:=ep) lo) (show X.A.in1.handled=U from I.ok.hd hc) hat (by rw[<-hl];exact hz) λh' tk acc hk hlt hacc=>?_);have la:acc.toList.length=vs.length:=by rw[Nf];exact hacc.1
 refine Ja (wpAny_newList ?_ (by rw[la,<-hl];exact hz));have hI:IntsAre acc.toList (zcs kvs):=zge () λj v e=>by obtain⟨k,x,e1,e2⟩:=hacc.2 j v (by rw[<-Nb];exact e);obtain⟨t,e3,_⟩:=zqX rel hi e1 e2;exact⟨t,e3⟩
 have hoL:(h'.push (seqObj "list" acc.toList.toArray 0)).get? h'.objs.size=Y (seqObj "list" acc.toList.toArray 0):=JL _ rfl;refine Ja (bb (bA slot_list_sort ⟨_,hoL,O⟩ entry_list_sort (list_sort_tree hoL hI () λout ns' a1 a2 a3=>⟨ar⟩) (args_list_sort _)));refine bc ⟨ar⟩;have sz:s.heap.objs.size<=h'.objs.size:=Nat.le_of_lt hlt;have kk:∀b u,s.heap.get? b=Y u->(sortedHeap (h'.push (seqObj "list" acc.toList.toArray 0)) h'.objs.size acc.toList out).get? b=Y u:=λb u e=>by have e1:=hk b u e;have lt:=JK e1;rw[sortedHeap_old (Jl lt) (by rw[size_push'];exact Nat.lt_succ_of_lt lt)];exact JE _ e1
 obtain⟨e,he⟩:=sortedHeap_at (out:=out) hoL;have hn:H h'.objs.size=U:=I.hok.fresh sz;refine⟨.ref h'.objs.size,_,I.laid (o:=.lst (ns'.map V.int)) kk sz ⟨?_,out.toList,e,zeC a1,he⟩,O,q _ ns' hn a2 a3⟩;rw[JI,a2.length_eq,hkl];exact hz
end
section
open PySem.SeqAt
open PySem.AutoSeq1 (wpAny_loadPart')
open PySem.MeetsSeq PySem.MeetsSeq2 PySem.MeetsSeq3
end
section
variable {X:Cx}
end
section
open PySem.AutoSeq1 (wpAny_loadPart')
end
section
variable {X:Cx}
def zqm (K:QA):R2:=λx y H Q=>∃(a b:aE)(xs ys:QR),x=.ref a/\y=.ref b/\H a=Y (.tup xs)/\H b=Y (.tup ys)/\xs.length+ys.length<=aQ/\
 ∀(r:aE)(H':Hp),Same H H'->H' r=Y (.tup (xs++ys))->Q (.ref r) H'
def zhe:OpR X (binaryOp .Add) (zqm X.K):=by
 intro bH s σ H x y v u Q I rx ry h;obtain⟨a,b,xs,ys,rfl,rfl,ha,hb,hz,q⟩:=h;by_cases hx:xs=[]
 ·subst hx;cases (show v=aP a from rx);cases (show u=aP b from ry);obtain⟨its,r1,T1,z1⟩:=I.tuple (SqT.of ha);obtain⟨jts,r2,T2,z2⟩:=I.tuple (SqT.of hb);have e1:its=[]:=by cases r1;rfl
  subst e1;obtain⟨⟨cls,dd,data,sl⟩,o1,hc,n,hd⟩:=id T1;obtain⟨⟨cls2,dd2,data2,sl2⟩,o2,hc2,n2,hd2⟩:=id T2;simp only at hc hd hc2 hd2;subst hc hd hc2 hd2;exact concat_meets ⟨_,o1,O⟩ ⟨_,o2,O⟩ noFill_tuple_add seq_tuple_add PySem.F.slot_tuple_add PySem.F.entry_tuple_add (PySem.F.args_tuple_add_2 _ _) (tuple_addW0 a b _ _ n n2 dd dd2 sl sl2 (by simp)) ⟨o1,o2,⟨.ref b,H,I,O,q b H (Same.refl _) (by simpa using hb)⟩⟩
 ·refine zpM bH s σ H _ _ v u Q I rx ry ⟨a,b,xs,ys,O,O,SqT.of ha,SqT.of hb,hx,hz,λhy=>q a H (Same.refl _) (by rw[hy,JS];exact ha),λ_ p hp=>q p _ (λc o hc=>?_) za⟩;rw[zd (zf hc hp)];exact hc
end
end L2
namespace Pv
open PySem L2
inductive RepL (H:Hp):List Th->List V->Prop where
 | nil:RepL H [] []
 | cons {t:Th} {v:V} {ts:List Th} {vs:QR} (h:Rep H t v) (r:RepL H ts vs):RepL H (t::ts) (v::vs)
theorem RepL.len:∀{ts:List Th}{vs:QR},RepL H ts vs->vs.length=ts.length
 | _,_,.nil=>rfl
 | _,_,.cons _ r=>by rw[JM,JM,r.len]
theorem RepL.at:∀{ts:List Th}{vs:QR},RepL H ts vs->∀(i:Nat)(x:V)(t:Th),vs[i]? =Y x->ts[i]? =Y t->Rep H t x
 | _,_,.nil,i,x,t,e,_=>by simp at e
 | _,_,.cons h r,0,x,t,e1,e2=>by simp at e1 e2;subst e1;subst e2;exact h
 | _,_,.cons h r,i+1,x,t,e1,e2=>r.at i x t (by simpa using e1) (by simpa using e2)
theorem RepL.keep (k:Tups H H'):∀{ts:List Th}{vs:QR},RepL H ts vs->RepL H' ts vs
 | _,_,.nil=>.nil
 | _,_,.cons h r=>.cons (h.keep k) (r.keep k)
theorem RepL.new {p:aE}(r:RepL H ts vs)(hp:H p=U):Rep (upd H p (.tup vs)) (.tup ts) (.ref p):=
 .tup za r.len λi x t e1 e2=>(r.at i x t e1 e2).keep (Tups.new hp)
theorem RepL.of:∀{ts:List Th}{vs:QR},vs.length=ts.length->(∀(i:Nat)(x:V)(t:Th),vs[i]? =Y x->ts[i]? =Y t->Rep H t x)->RepL H ts vs
 | [],[],_,_=>.nil
 | t::ts,v::vs,l,h=>.cons (h 0 v t rfl rfl) (RepL.of (by simpa using l) λi x u e1 e2=>h (i+1) x u (by simpa using e1) (by simpa using e2))
 | [],_::_,l,_=>by simp at l
 | _::_,[],l,_=>by simp at l
def Rep.list {ts:List Th}(r:Rep H (.tup ts) v):∃a xs,v=.ref a/\H a=Y (.tup xs)/\RepL H ts xs:=by
 cases r with
 | @tup a xs _ e l h=>exact⟨a,xs,O,e,RepL.of l h⟩
def _root_.Jm:=@List.getElem_mem
def RepL.pick {ts:List Th}{p:Th->Prop}{i:Int}(r:RepL H ts vs)(h0:0<=i)(h1:i < ts.length)(hp:∀t∈ts,p t):∃v t,atI vs i=Y v/\Rep H t v/\p t:=by
 have hl:=r.len;have hi:i.toNat < ts.length:=()
 have hv:i.toNat < vs.length:=()
 have ei:i=((i.toNat:Nat):Int):=()
 have q:atI vs ((i.toNat:Nat):Int)=Y vs[i.toNat]:=zbt (JD hv);rw[<-ei] at q;exact⟨_,ts[i.toNat],q,r.at _ _ _ (JD hv) (JD hi),hp _ (Jm hi)⟩
theorem RepL.snoc (h:Rep H t v):∀{ts:List Th}{vs:QR},RepL H ts vs->RepL H (ts++ [t]) (vs++ [v])
 | _,_,.nil=>.cons h .nil
 | _,_,.cons h' r=>.cons h' (r.snoc h)
open PySem.SeqAt in
def zrx (I:Inv X bH σ H s){ts:List Th}{A:aU}(e:SqL X.K H a xs)(e':SqL X.K H b ys)(r:RepL H ts xs)(q:RepL H us ys)(hd:∀t∈ts,dep t<=50)(hu:A.units+60 < bn):
  RcAt A s (.ref a) (.ref b) (eqL ts us)/\RcNeAt A s (.ref a) (.ref b) (!eqL ts us):=by
 obtain⟨its,r1,T1,_⟩:=I.list e;obtain⟨jts,r2,T2,_⟩:=I.list e';have n1:=r1.length;have n2:=r2.length;have l1:=r.len;have l2:=q.len;by_cases hl:ts.length=us.length
 ·have key:∀j (h1:j < its.toArray.size) (h2:j < jts.toArray.size),EqAt A.in1 s its.toArray[j] jts.toArray[j] (eqT (ts[j]?.getD .non) (us[j]?.getD .non)):=λj h1 h2=>by
   have h1':j < its.length:=by simpa using h1
   have h2':j < jts.length:=by simpa using h2
   obtain⟨vx,ex,rx⟩:=r1.get (JD (show j < xs.length by lia));obtain⟨vy,ey,ry⟩:=r2.get (JD (show j < ys.length by lia));have g1:ts[j]? =Y ts[j]:=JD ();have g2:us[j]? =Y us[j]:=JD ();have dj:=hd ts[j] (Jm ());rw[g1,g2];have z1:its.toArray[j]=vx:=by have:its[j]? =Y its[j]:=JD h1';rw[this] at ex;simpa using JP ex
   have z2:jts.toArray[j]=vy:=by have:jts[j]? =Y jts[j]:=JD h2';rw[this] at ey;simpa using JP ey
   rw[z1,z2];exact zgb I (r.at j _ _ (JD (show j < xs.length by lia)) g1) (q.at j _ _ (JD (show j < ys.length by lia)) g2) rx ry (by
    show A.units+1+dep ts[j]+1 < bn;lia)
  have hsz:its.toArray.size=jts.toArray.size:=by rw[JH,JH];lia
  have R:=RcAt.lists T1.isList T2.isList hsz (show A.units < bn by lia) key;have R':=RcNeAt.lists T1.isList T2.isList hsz (show A.units < bn by lia) key;have e3:(List.range its.toArray.size).all (λj=>eqT (ts[j]?.getD .non) (us[j]?.getD .non))=eqL ts us:=by rw[zc4,JH,show min ts.length us.length=its.length by lia,show(ts.length==us.length)=Z by rw[hl];exact beq_self_eq_true _,Bool.and_true]
  rw[e3] at R R';exact⟨R,R'⟩
 ·have hne:eqL ts us=G:=by
   cases z:eqL ts us with
   | true=>exact Jf (congrArg List.length ((zcR ts us).mp z)) hl
   | false=>rfl
  have hsz:(its.toArray.size !=jts.toArray.size)=Z:=by rw[JH,JH,bne_iff_ne];lia
  rw[hne];exact⟨RcAt.lists_lengths T1.isList T2.isList hsz (),RcNeAt.lists_lengths T1.isList T2.isList hsz ()⟩
section
variable {X:Cx}
def zuS (hr:Room k X.A):OpR X (a9 .Eq) (λx y H Q=>∃a b xs ys ts us,x=.ref a/\y=.ref b/\SqL X.K H a xs/\SqL X.K H b ys/\RepL H ts xs/\RepL H us ys/\(∀t∈ts,dep t<=50)/\Q (.bl (eqL ts us)) H):=by intro bH s σ H x y v w Q I rx ry h;obtain⟨a,b,xs,ys,ts,us,rfl,rfl,e1,e2,r1,r2,hd,q⟩:=h;cases (show v=aP a from rx);cases (show w=aP b from ry);have hu:=hr.units;exact(zrx I e1 e2 r1 r2 hd ()).1 _ _ _ _ ⟨.bl _,H,I,O,q⟩
def zla (hr:Room k X.A):OpR X (a9 .NotEq) (λx y H Q=>∃a b xs ys ts us,x=.ref a/\y=.ref b/\SqL X.K H a xs/\SqL X.K H b ys/\RepL H ts xs/\RepL H us ys/\(∀t∈ts,dep t<=50)/\Q (.bl (!eqL ts us)) H):=by intro bH s σ H x y v w Q I rx ry h;obtain⟨a,b,xs,ys,ts,us,rfl,rfl,e1,e2,r1,r2,hd,q⟩:=h;cases (show v=aP a from rx);cases (show w=aP b from ry);have hu:=hr.units;exact(zrx I e1 e2 r1 r2 hd ()).2 _ _ _ _ ⟨.bl _,H,I,O,q⟩
def mulS (x:Str)(n:Int):Str:=if n < 1 then Str.empty else if (n==1 || x.length==0)=Z then x else⟨(List.replicate n.toNat x.cps).foldl (· ++ ·) #[]⟩
def zpP:OpR X (binaryOp .Mult) (λx y H Q=>∃(z:Str)(n:Int),x=.str z/\y=.int n/\0<=n/\n<=1000/\z.length<=1000/\(mulS z n).length<=1000/\Q (.str (mulS z n)) H):=by
 intro bH s σ H x y v w Q I rx ry h;obtain⟨z,n,rfl,rfl,h0,h1,hz,hl,q⟩:=h;obtain⟨t1,rfl⟩:=rx;obtain⟨t2,rfl⟩:=ry;have hs:aQ=16777216:=sizeLine_eq;refine P.mul_str (by rw[Jc (),Jc ()];rfl) (λa b=>?_) (λa b=>?_) ?_
 ·intro c;have:(2 ^ 63 - 1:Int) / n≥1000:=by refine Int.le_ediv_of_mul_le () ?_;lia
  lia
 ·show decide (_ > aQ)=G;refine Jc ?_;have:z.length * n.toNat<=1000 * 1000:=Nat.mul_le_mul hz ();lia
 ·unfold mulS at q hl;by_cases a:n < 1
  ·rw[av a] at q ⊢;exact⟨(),.str _,H,I.tok _,⟨B⟩,q⟩
  ·rw[au a] at q hl ⊢;by_cases b:(n==1 || z.length==0)=Z
   ·rw[av b] at q ⊢;exact⟨.str _,H,I,⟨B⟩,q⟩
   ·rw[au b] at q hl ⊢;exact⟨(),.str _,H,I.tok _,⟨B⟩,q⟩
end
abbrev _root_.QF:=List (Int ×Th)
def zh (cs:QF)(n:Int):Option Th:=(cs.find? λp=>decide (p.1=n)).map (·.2)
inductive DRep (H:Hp):List (Int ×Th)->List (Key ×V)->Prop where
 | nil:DRep H [] []
 | cons {n:Int} {t:Th} {v:V} {cs:QF} {kvs:QG} (h:Rep H t v) (r:DRep H cs kvs):DRep H ((n,t)::cs) ((.inl n,v)::kvs)
theorem DRep.len {H:Hp}{cs:QF}{kvs:QG}(r:DRep H cs kvs):kvs.length=cs.length:=by
 induction r with
 | nil=>rfl
 | cons _ _ ih=>rw[JM,JM,ih]
theorem DRep.keep {H H':Hp}(k:Tups H H'){cs:QF}{kvs:QG}(r:DRep H cs kvs):DRep H' cs kvs:=by
 induction r with
 | nil=>exact .nil
 | cons h _ ih=>exact .cons (h.keep k) ih
def DRep.keys {H:Hp}{cs:QF}{kvs:QG}(r:DRep H cs kvs):zcs kvs=cs.map (·.1)/\L2.IntKeys kvs:=by
 induction r with
 | nil=>exact⟨O,O⟩
 | @cons n t v cs kvs _ _ ih=>have e:zcs ((.inl n,v)::kvs)=n::zcs kvs:=rfl;refine⟨by rw[e,ih.1];rfl,?_⟩;unfold L2.IntKeys;rw[e,JX,JX];exact congrArg _ ih.2
theorem zN {n:Int}{t:Th}{cs:QF}:zh ((n,t)::cs) m=if n=m then Y t else zh cs m:=by
 unfold zh;rw[Nm];by_cases e:n=m
 ·rw[av e,aw e];rfl
 ·rw[au e,Jc e]
theorem zfG {n m:Int}{v:V}{kvs:QG}:valV ((aN n,v)::kvs) (aN m:Key)=if n=m then Y v else valV kvs (.inl m):=by
 by_cases e:n=m
 ·rw[av e];exact zdS (by rw[e])
 ·rw[au e];unfold valV;rw[Nm];rw[Jc (λz=>e (Sum.inl.inj z))]
theorem DRep.none {H:Hp}{cs:QF}{kvs:QG}(r:DRep H cs kvs){n:Int}(h:zh cs n=.none):valV kvs (.inl n)=.none:=by
 induction r with
 | nil=>rfl
 | @cons m t v cs kvs _ _ ih=>
  rw[zN] at h;rw[zfG];by_cases e:m=n
  ·rw[av e] at h;cases h
  ·rw[au e] at h ⊢;exact ih h
theorem DRep.some {H:Hp}{cs:QF}{kvs:QG}(r:DRep H cs kvs){n:Int}{t:Th}(h:zh cs n=.some t):∃v,valV kvs (.inl n)=.some v/\Rep H t v:=by
 induction r with
 | nil=>cases h
 | @cons m u v cs kvs hv _ ih=>
  rw[zN] at h;rw[zfG];by_cases e:m=n
  ·rw[av e] at h ⊢;cases h;exact⟨v,O,hv⟩
  ·rw[au e] at h ⊢;exact ih h
def DRep.back {H:Hp}{cs:QF}{kvs:QG}(r:DRep H cs kvs){n:Int}{v:V}(h:valV kvs (.inl n)=.some v):∃t,zh cs n=.some t/\Rep H t v:=by
 cases e:zh cs n with
 | none=>rw[r.none e] at h;cases h
 | some t=>obtain⟨v',e',rv⟩:=r.some e;rw[h] at e';cases e';exact⟨t,O,rv⟩
def DRep.snoc {H:Hp}{cs:QF}{kvs:QG}{n:Int}{t:Th}{v:V}(h:Rep H t v)(r:DRep H cs kvs):DRep H (cs++ [(n,t)]) (kvs++ [(.inl n,v)]):=by
 induction r with
 | nil=>exact .cons h .nil
 | cons h' _ ih=>exact .cons h' ih
def DRep.put {H:Hp}{cs:QF}{kvs:QG}{n:Int}{t:Th}{v:V}(r:DRep H cs kvs)(h:Rep H t v)(hn:zh cs n=.none):DRep H (cs++ [(n,t)]) (putK kvs (.inl n) v):=by rw[znz v (r.none hn)];exact r.snoc h
def DRep.again {H:Hp}{cs:QF}{kvs:QG}{n:Int}{t:Th}{v:V}(r:DRep H cs kvs)(h:Rep H t v)(hn:zh cs n=.some t)(nd:(cs.map (·.1)).Nodup):DRep H cs (putK kvs (.inl n) v):=by
 have ha:(kvs.any λkv=>decide (kv.1=(aN n:Key)))=Z:=by
  obtain⟨v',e,_⟩:=r.some hn;unfold valV at e;cases z:kvs.find? λkv=>decide (kv.1=(aN n:Key)) with
  | none=>rw[z] at e;cases e
  | some p=>exact List.any_eq_true.mpr ⟨p,List.mem_of_find?_eq_some z,by have:=List.find?_some z;exact this⟩
 unfold putK;rw[av ha];clear ha
 induction r with
 | nil=>exact .nil
 | @cons m u v' cs kvs h' r' ih=>
  have nd':=Np.mp nd;rw[JX];by_cases e:m=n
  ·subst e;rw[av rfl];rw[zN,av rfl] at hn;cases hn;have rest:kvs.map (λkv=>if kv.1=(aN m:Key) then(kv.1,v) else kv)=kvs:=by
    have:∀kv∈kvs,(if kv.1=(aN m:Key) then(kv.1,v) else kv)=kv:=λkv hkv=>by
     refine au λz=>nd'.1 ?_;have e1:=r'.keys;have m1:(aN m:Key)∈kvs.map (·.1):=by rw[<-z];exact List.mem_map_of_mem hkv
     rw[e1.2,No] at m1;obtain⟨i,hi,ei⟩:=m1;cases ei;rw[<-e1.1];exact hi
    rw[List.map_congr_left this,List.map_id']
   rw[rest];exact .cons h r'
  ·rw[au (λz=>e (Sum.inl.inj z))];rw[zN,au e] at hn;exact .cons h' (ih hn nd'.2)
def zet {cs:QF}{n:Int}{t:Th}(h:zh cs n=Y t):(n,t)∈cs:=by
 induction cs with
 | nil=>cases h
 | cons p cs ih=>
  obtain⟨m,u⟩:=p;rw[zN] at h;by_cases e:m=n
  ·rw[av e] at h;cases h;subst e;exact JO
  ·rw[au e] at h;exact Jj _ (ih h)
def zc2 {cs:QF}{n:Int}(h:n∈cs.map (·.1)):∃t,zh cs n=Y t:=by
 induction cs with
 | nil=>cases h
 | cons p cs ih=>
  obtain⟨m,u⟩:=p;rw[zN];by_cases e:m=n
  ·exact⟨u,av e⟩
  ·rw[au e];rw[JX,JJ] at h;exact ih (h.resolve_left λz=>e z.symm)
def zke {cs:QF}{n:Int}(h:zh cs n=U):n∉cs.map (·.1):=λz=>by obtain⟨t,e⟩:=zc2 z;rw[h] at e;cases e
def _root_.Ni:=@List.cons_append
theorem zb3 {cs:QF}{n:Int}{t:Th}:zh (cs++ [(n,t)]) m=match zh cs m with | some u=>Y u | none=>if n=m then Y t else U:=by
 induction cs with
 | nil=>rw[List.nil_append,zN];rfl
 | cons p cs ih=>
  obtain⟨k,u⟩:=p;rw[Ni,zN,zN];by_cases e:k=m
  ·rw[av e,av e]
  ·rw[au e,au e,ih]
def zU (cs:QF)(ns:List Int):List Th:=ns.map λn=>(zh cs n).getD .non
end Pv
namespace L2
open PySem PySem.Spec PyProof.Rows Px
structure ClsM (K:QA)(mg:QB)(x:Str)(V:aE)(mc:aD)(m:Str)(f:aE):Prop where
 mg:mg x=Y (.ref V)
 sp:PySem.W.specialIn K (.ref V) "__getattribute__" =Y (Y (.builtin "type.__getattribute__"))
 rd:PySem.W.readsIn K V mc=Z
 fc:PySem.W.findCls K (.ref V) mc m=Y (.val (.ref f))
 kp:bf K (.ref f)=Z
structure Kdf (K:QA)(mg:QB)(x m qual:Str)(st:aB)(ps:QQ):Prop where
 ex:∃f fd V mc,Fun K m qual st f fd/\Binds K fd ps []/\ClsM K mg x V mc m f
structure Kfn (P:aG)(w:aH)(K:QA)(mg:QB)(ax:aF)(x m:Str)(k:Nat)(ps:QQ)(sp:Sp):Prop where
 ex:∃f fd V mc,FnOk P w K mg ax CX0 k f fd ps sp/\Binds K fd ps []/\ClsM K mg x V mc m f
section
variable {P:aG}{w:aH}{K:QA}{mg:QB}{ax:aF}{x m qual:Str}{st:aB}{ps N:QQ}{sp:Sp}{k:Nat}
def Kdf.ok (D:Kdf K mg x m qual st ps)(S:zak N ps (zq st))(hbody:Bd0 P w K mg ax N qual st k sp)
  (len:∀vs H Q E,sp vs H Q E->vs.length=ps.length:=by intro vs H Q E h;cases h;subst_vars;rfl):Kfn P w K mg ax x m (k+1) ps sp:=by
 obtain⟨f,fd,V,mc,F,b,me⟩:=D.ex;exact⟨f,fd,V,mc,F.ok S len (λcdv A outer s H vs Q E hr h=>hbody f cdv A outer s H vs Q E hr h),b,me⟩
variable {f V:aE}{mc:aD}{od an:QN}{sl:QJ}{oc kV dc pm cd ct:aD}{h:aF}
def zsW (X:K.In h)(ah:h.Ns aR mg)(n:PySem.W.nsIn K aR x=Y (Y (.ref V)))(g:PySem.W.specialIn K (.ref V) "__getattribute__" =Y (Y (.builtin "type.__getattribute__"))) (rd:PySem.W.readsIn K V mc=Z) (fc:PySem.W.findCls K (.ref V) mc m=Y (.val (.ref f)))
  (l:K.lookup f=Y ⟨oc,od,.func (br m qual (zT st) (zG st) (zq st) .none kV dc pm an cd ct),sl⟩) (c:PySem.W.codeIn K cd qual=Z) (k:bf K (.ref f)=Z)
  (b:∀(kV doc pm:aD)(an:QN)(cdv ct:aD)(us:QO),us.length=ps.length->bindArgs (br m qual (zT st) (zG st) (zq st) .none kV doc pm an cdv ct) ⟨us,[]⟩=pure (ps.zip us)):Kdf K mg x m qual st ps:=
 ⟨_,_,V,mc,zbc l c k,(zbc l c k).binds b,⟨PySem.W.mg_of X ah n,g,rd,fc,k⟩⟩
variable {X:Cx}{k':Nat}{e:aX}{es:List aX}{t:TA}{p pos apos:Pos}
def zsp (F:Kfn X.prog X.w X.K X.mg X.ax x m k ps sp)(hr:Room k' X.A)(ha:PA X (e::es) t)(hle:k<=k':=by lia)(hg:Gl X x:=by rfl)(hd:(x==("__debug__" :Str))=G:=by decide)
  (hst:a7 (e::es) X.env=(G,aZ e X.env)::a7 es X.env:=by rfl) (hpl:∀pos,(a6 pos (a7 es X.env)).any (·.1)=G:=by intro _;rfl)
  (ht:aZ (.Call (.Attribute (.Name x p) m apos) (e::es) [] pos) X.env=(do
   let ov<-aZ (.Name x p) X.env
   standAt apos.atName
   let (f,first) <-holding [ov] (getMethod ov m pl)
   callWith pos f first (a6 pos (a7 (e::es) X.env)) (backToKw pos (keywordEach [] X.env))):=by rfl):
  PE X (.Call (.Attribute (.Name x p) m apos) (e::es) [] pos) (zeR sp [] E0 t):=by
 obtain⟨f,fd,V,mc,a,b,M⟩:=F.ex;intro bH s σ H Q I h;refine PySem.W.methodCall_KW (pl:=pl) (thn (zhz (v:=.ref V) hg M.mg rfl hd bH s σ H (λv H1=>v=.ref V/\H1=H) I ⟨O,O⟩) λu s1 ⟨v,H1,I1,r1,e1,e2⟩=>?_) ht;subst e1 e2;obtain rfl:u=aP V:=r1;refine PySem.W.method_cls I1.kIn M.sp (PySem.W.cls_value I1.kIn M.rd M.fc rfl ?_);have I2:=I1.tok (s1.toks+1);refine bp (first:=[]) (h₀:=X.ax) I.ok.mod.kin M.kp (thn (ha pos bH _ σ H1 _ I2 h) λus s2 ⟨vs,H2,I3,r,q2⟩=>⟨I3.kIn,?_⟩) hst (hpl _);exact zhN (us:=us) (vs:=vs) a (hr.mono hle) b .nil zjF I3 r q2
end
end L2
namespace L2
open PySem PySem.Spec PyProof.Rows
section
variable {X:Cx}{x x2:Str}{scope:Scope}{bH:QE}{σ:St}{H:Hp}{s:aM}
variable {iter elt:aX}{ifs:List aX}{px px2 tpos pos:Pos}{kt:Nat}{wi:TI}{tt:TT}{te:TE}
end
end L2
namespace L2
open PySem
def ndS:List Str->Bool
 | []=>Z
 | x::r=>!r.contains x && ndS r
theorem zeQ:∀{l:QQ},ndS l=Z->l.Nodup
 | [],_=>List.nodup_nil
 | x::r,h=>by have h:(!r.contains x && ndS r)=Z:=h;rw[J8,Bool.not_eq_true'] at h;refine Np.mpr ⟨λhx=>?_,zeQ h.2⟩;rw[List.contains_iff_mem.mpr hx] at h;exact Jf h.1 ()
section
variable {X:Cx}{pos:Pos}{x:Str}
def setA (i:Nat){pos':Pos}(hi:X.N[i]? =Y x)(he:PE X e te)(hN:ndS X.N=Z:=by rfl)(hx:Loc X.env.scope x:=by first | exact Or.inl rfl | exact Or.inr rfl)(hs:swapsWith e (Y (.Name x pos')) pos.line X.env=pure G:=by rfl)(hf:X.fn x=Z\/X.env.scope.names.lookup x=Y .local:=by first | exact .inl rfl | exact .inr rfl | assumption):
  PS X (.Assign [.Name x pos'] e pos) (tAsg te (zcg i)):=zsk (zeQ hN) hi hx he hs hf
def nameA (i:Nat)(hi:X.N[i]? =Y x:=by rfl)(hN:ndS X.N=Z:=by rfl)(hx:Loc X.env.scope x:=by first | exact Or.inl rfl | exact Or.inr rfl)(hf:X.fn x=Z\/X.env.scope.names.lookup x=Y .local:=by first | exact .inl rfl | exact .inr rfl | assumption):PG X (.Name x pos) (zcg i):=zhZ (zeQ hN) hi hx hf
def ztW {n:Int}{t:Tok}(m:X.mg x=Y (.int n t))(h:Gl X x:=by rfl)(hd:(x==("__debug__" :Str))=G:=by decide):PE X (.Name x pos) (tC (.int n)):=zhz h m ⟨B⟩ hd
def zt3 {a:aE}(m:X.mg x=Y (.ref a))(h:Gl X x:=by rfl)(hd:(x==("__debug__" :Str))=G:=by decide):PE X (.Name x pos) (tC (.ref a)):=zhz h m rfl hd
def bltT {T:String}(m:X.mg x=U)(h:Gl X x:=by rfl)(hb:bootBuiltins x=Y (.type T):=by rfl)(h1:x≠("__name__" :Str):=by decide) (hd:(x==("__debug__" :Str))=G:=by decide):PE X (.Name x pos) (tC (.ty T)):=zqE h m hb rfl h1 hd
end
end L2
namespace Pv
open PySem L2
theorem szL {n:Nat}(h:n<=100000):n<=aQ:=Jg h (by rw[sizeLine_eq];decide)
def zaN {J:It}{n:Nat}{tt:TT}{Q:VK}(Pv:Nat->List V->Hp->Prop)(h0:Pv 0 [] (upd H1 p (.lst [])))
  (hg:∀i acc H,i < n->Pv i acc H->J.go i H) (ht:∀acc H,Pv n acc H->J.stop n H)
  (hs:∀i acc H x H',i < n->Pv i acc H->J.yld i H x H'->tt (Y x::frees σ js) H' λok H2=>
   if ok=Z then te (Y x::frees σ js) H2 λy H3=>H3 p=Y (.lst acc)/\acc.length < aQ/\∃m',m' < n - i/\(m'=n - (i+1)/\i+1<=n/\Pv (i+1) (acc++ [y]) (upd H3 p (.lst (acc++ [y]))))
   else∃m',m' < n - i/\(m'=n - (i+1)/\i+1<=n/\Pv (i+1) acc H2)) (hd:∀acc H,Pv n acc H->Q (.ref p) H):
  zeX J p σ js tt te H1 Q:=by
 refine⟨λi m acc H=>m=n - i/\i<=n/\Pv i acc H,⟨n,by simp,JN _,h0⟩,?_⟩;rintro i m acc H ⟨rfl,hi,p⟩;by_cases hlt:i < n
 ·exact .inr ⟨hg i acc H hlt p,λx H' y=>hs i acc H x H' hlt p y⟩
 ·have e:i=n:=()
  subst e;exact .inl ⟨ht acc H p,hd acc H p⟩
def nxt {i n:Nat}{C:Prop}(h:i < n)(c:C):∃m',m' < n - i/\(m'=n - (i+1)/\i+1<=n/\C):=⟨_,(),O,h,c⟩
def numOf (l:List Nat):Int:=l.foldl (λ(n:Int) (c:Nat)=>n * 128+(c:Int)) 0
theorem zkL (l:List Nat)(c:Nat):numOf (l++ [c])=numOf l * 128+c:=by unfold numOf;rw[List.foldl_append];rfl
def chunk (x:Str)(k:Nat):List Nat:=(x.cps.toList.drop (7 * k)).take 7
def zh8 (x:Str)(k:Nat):Str:=⟨(chunk x k).toArray⟩
def zaZ (x:Str):Nat:=(x.length+6) / 7
def zeE (x:Str):List Int:=(List.range (zaZ x)).map λk=>numOf (chunk x k)
mutual
def zu:Th->List Int
 | .non=>[1]
 | .int n=>[2,(n+10 ^ 30) / 10 ^ 15,(n+10 ^ 30) % 10 ^ 15]
 | .str x=>[3,(x.length:Int)]++zeE x
 | .tup ts=>[4,(ts.length:Int)]++zP ts
def zP:List Th->List Int
 | []=>[]
 | t::r=>zu t++zP r
end
def _root_.Nj:=@List.append_assoc
theorem zeV:∀(ts:List Th)(t:Th),zP (ts++ [t])=zP ts++zu t
 | [],t=>by simp[zP]
 | u::r,t=>by have:=zeV r t;show zu u++zP (r++ [t])=zu u++zP r++zu t;rw[this,Nj]
theorem zjj {ts:List Th}{i:Nat}{t:Th}(h:ts[i]? =Y t):zP (ts.take (i+1))=zP (ts.take i)++zu t:=by rw[Na,h];exact zeV _ _
mutual
theorem zeq:∀t:Th,Wf t->(zu t).length<=11 * nodes t
 | .non,_=>by show 1<=11 * 1;lia
 | .int n,_=>by show 3<=11 * 1;lia
 | .str x,h=>by
  have h1:x.length<=60:=h.1;show([3,(x.length:Int)]++zeE x).length<=11 * 1;have h2:(zeE x).length=zaZ x:=by unfold zeE;rw[JI,NE]
  rw[JF,h2];show 2+zaZ x<=11;unfold zaZ;lia
 | .tup ts,h=>by have:=zds ts h.2;show([4,(ts.length:Int)]++zP ts).length<=11 * (1+zH ts);rw[JF];show 2+(zP ts).length<=_;lia
theorem zds:∀ts:List Th,WfL ts->(zP ts).length<=11 * zH ts
 | [],_=>by show 0<=_;lia
 | t::r,h=>by have h1:=zeq t h.1;have h2:=zds r h.2;show(zu t++zP r).length<=11 * (nodes t+zH r);rw[JF];lia
end
theorem zci:∀(ts:List Th)(i:Nat),(zP (ts.take i)).length<=(zP ts).length
 | [],i=>by rw[List.take_nil];exact Jb _
 | t::r,0=>by show 0<=_;lia
 | t::r,i+1=>by have:=zci r i;show(zu t++zP (r.take i)).length<=(zu t++zP r).length;rw[JF,JF];lia
theorem zma {k:Nat}(h:k < zaZ x):cutS x (Y (0+(k:Int) * 7)) (Y (0+(k:Int) * 7+7))=zh8 x k:=by
 unfold zaZ at h;have e1:(0+(k:Int) * 7)=((7 * k:Nat):Int):=()
 have e2:(0+(k:Int) * 7+7)=((7 * k+7:Nat):Int):=()
 unfold cutS zh8 chunk;rw[e2,e1,HT.sIx_nat,HT.sIx_nat];have hl:x.cps.toList.length=x.length:=Nf;have a1:min (7 * k) x.length=7 * k:=()
 rw[a1];refine congrArg (λl=>(⟨List.toArray l⟩:Str)) ?_;by_cases hb:7 * k+7<=x.length
 ·rw[show min (7 * k+7) x.length - 7 * k=7 by lia]
 ·rw[Jq (by rw[JT];lia),Jq (by rw[JT];lia)]
theorem zmR {x:Str}:(((x.length:Int)+7 - 1) / 7).toNat=zaZ x:=by unfold zaZ;lia
def zea (l:List Int):Int:=l.foldl (λh c=>(h * 1234567890123456789+c) % 2305843009213693951) 7
def zk (t:Th):Int:=zea (zu t)+1
theorem zf3 (l:List Int)(c:Int):zea (l++ [c])=(zea l * 1234567890123456789+c) % 2305843009213693951:=by unfold zea;rw[List.foldl_append];rfl
theorem zkr {l:List Int}{i:Nat}{c:Int}(h:l[i]? =Y c):zea (l.take (i+1))=(zea (l.take i) * 1234567890123456789+c) % 2305843009213693951:=by rw[Na,h];exact zf3 _ _
def _root_.Jt:=@Int.emod_lt_of_pos
def _root_.JA:=@Int.emod_nonneg
def _root_.NB:=@List.eq_nil_or_concat
def _root_.NC:=@List.concat_eq_append
def zeJ (l:List Int):0<=zea l/\zea l < 2305843009213693951:=by
 rcases NB l with rfl | ⟨r,c,rfl⟩
 ·exact⟨(),()⟩
 ·rw[NC,zf3];exact⟨JA _ (),Jt _ ()⟩
end Pv
namespace Pv
theorem zdq:∀{ts:List Th}{i:Nat}{t:Th},ts[i]? =Y t->nodes t<=zH ts
 | [],_,_,e=>by simp at e
 | u::r,0,t,e=>by simp at e;subst e;exact JB _ _
 | u::r,i+1,t,e=>Jg (zdq (i:=i) (by simpa using e)) (Nat.le_add_left _ _)
end Pv
namespace Pv
open L2
def tt1 {σ:L2.St}{H:Hp}{A ai:Hp->Prop}(h:A H):zff σ H λok H2=>if ok=Z then A H2 else ai H2:=by
 show if Z=Z then A H else ai H
 rw[av rfl];exact h
end Pv
namespace Pv
open PySem L2
def zan:Th->Int
 | .non=>0
 | .int _=>1
 | .str _=>2
 | .tup _=>3
mutual
def zc:Th->Th->Bool
 | .non,.non=>G
 | .int a,.int b=>decide (a < b)
 | .str a,.str b=>decide (a.cps.toList < b.cps.toList)
 | .tup a,.tup b=>zaD a b
 | t,u=>decide (zan t < zan u)
def zaD:List Th->List Th->Bool
 | [],[]=>G
 | [],_::_=>Z
 | _::_,[]=>G
 | t::r,u::q=>if eqT t u=Z then zaD r q else zc t u
end
mutual
def rowT:Th->List Int
 | .non=>[0]
 | .int a=>[1,a]
 | .str x=>[2]++x.cps.toList.map (λ(c:Nat)=>(c:Int))++ [-1]
 | .tup ts=>[3]++rowL ts++ [-1]
def rowL:List Th->List Int
 | []=>[]
 | t::r=>rowT t++rowL r
end
theorem zhV:∀(p a b:List Int),HT.lexLt (p++a) (p++b)=HT.lexLt a b
 | [],_,_=>rfl
 | x::r,a,b=>by rw[Ni,Ni,HT.lexLt_cons,av rfl];exact zhV r a b
theorem zbh {x y:Int}(h:x≠y)(a b:List Int):HT.lexLt (x::a) (y::b)=decide (x < y):=by rw[HT.lexLt_cons,au h]
theorem zk4:∀(x y:List Nat)(a b:List Int),x≠y->HT.lexLt (x.map (λ(c:Nat)=>(c:Int))++ -1::a) (y.map (λ(c:Nat)=>(c:Int))++ -1::b)=decide (x < y)
 | [],[],_,_,h=>Jf rfl h
 | [],d::y,a,b,_=>by show HT.lexLt (-1::a) ((d:Int)::_)=_;rw[zbh (),aw ()];exact(aw (List.nil_lt_cons d y)).symm
 | c::x,[],a,b,_=>by show HT.lexLt ((c:Int)::_) (-1::b)=_;rw[zbh (),Jc ()];exact(Jc (List.not_lt_nil _)).symm
 | c::x,d::y,a,b,h=>by
  show HT.lexLt ((c:Int)::_) ((d:Int)::_)=_;by_cases e:c=d
  ·subst e;rw[HT.lexLt_cons,av rfl];have:=zk4 x y a b (λz=>h (by rw[z]));refine Eq.trans this ?_;rw[Nv];simp[List.cons_lt_cons_iff]
  ·rw[zbh ()];rw[Nv];simp[List.cons_lt_cons_iff,e]
def zdG (t:Th):∃r,rowT t=zan t::r:=by
 cases t with
 | non=>exact⟨[],O⟩
 | int a=>exact⟨[a],O⟩
 | str x=>exact⟨B⟩
 | tup ts=>exact⟨B⟩
def zlb (t:Th):0<=zan t:=by
 cases t with
 | non=>exact(by decide:(0:Int)<=0)
 | int _=>exact(by decide:(0:Int)<=1)
 | str _=>exact(by decide:(0:Int)<=2)
 | tup _=>exact(by decide:(0:Int)<=3)
def zti {x y:Str}(h:x≠y):x.cps.toList≠y.cps.toList:=λz=>h (by
 rcases x with ⟨a⟩;rcases y with ⟨b⟩;have:a=b:=Array.toList_inj.mp z;rw[this])
def zZ (h:zan t≠zan u)(a b:List Int):HT.lexLt (rowT t++a) (rowT u++b)=decide (zan t < zan u):=by obtain⟨r,e⟩:=zdG t;obtain⟨q,e'⟩:=zdG u;rw[e,e',Ni,Ni];exact zbh h _ _
mutual
theorem zli:∀(t u:Th)(a b:List Int),t≠u->HT.lexLt (rowT t++a) (rowT u++b)=zc t u
 | .non,.non,_,_,h=>Jf rfl h
 | .non,.int _,a,b,_=>zZ (t:=.non) (u:=.int _) (by show(0:Int)≠1;decide) a b
 | .non,.str _,a,b,_=>zZ (t:=.non) (u:=.str _) (by show(0:Int)≠2;decide) a b
 | .non,.tup _,a,b,_=>zZ (t:=.non) (u:=.tup _) (by show(0:Int)≠3;decide) a b
 | .int _,.non,a,b,_=>zZ (t:=.int _) (u:=.non) (by show(1:Int)≠0;decide) a b
 | .int x,.int y,a,b,h=>by show HT.lexLt (1::x::a) (1::y::b)=decide (x < y);rw[HT.lexLt_cons,av rfl];exact zbh (λz=>h (by rw[z])) _ _
 | .int _,.str _,a,b,_=>zZ (t:=.int _) (u:=.str _) (by show(1:Int)≠2;decide) a b
 | .int _,.tup _,a,b,_=>zZ (t:=.int _) (u:=.tup _) (by show(1:Int)≠3;decide) a b
 | .str _,.non,a,b,_=>zZ (t:=.str _) (u:=.non) (by show(2:Int)≠0;decide) a b
 | .str _,.int _,a,b,_=>zZ (t:=.str _) (u:=.int _) (by show(2:Int)≠1;decide) a b
 | .str x,.str y,a,b,h=>by
  have e:∀(z:Str)(w:List Int),rowT (.str z)++w=2::(z.cps.toList.map (λ(c:Nat)=>(c:Int))++ -1::w):=λz w=>by show([2]++_++ [-1])++w=_;simp
  rw[e,e,HT.lexLt_cons,av rfl];exact zk4 _ _ a b (zti λz=>h (by rw[z]))
 | .str _,.tup _,a,b,_=>zZ (t:=.str _) (u:=.tup _) (by show(2:Int)≠3;decide) a b
 | .tup _,.non,a,b,_=>zZ (t:=.tup _) (u:=.non) (by show(3:Int)≠0;decide) a b
 | .tup _,.int _,a,b,_=>zZ (t:=.tup _) (u:=.int _) (by show(3:Int)≠1;decide) a b
 | .tup _,.str _,a,b,_=>zZ (t:=.tup _) (u:=.str _) (by show(3:Int)≠2;decide) a b
 | .tup x,.tup y,a,b,h=>by
  have e:∀(z:List Th)(w:List Int),rowT (.tup z)++w=3::(rowL z++ -1::w):=λz w=>by show([3]++_++ [-1])++w=_;simp
  rw[e,e,HT.lexLt_cons,av rfl];exact zrP x y a b (λz=>h (by rw[z]))
theorem zrP:∀(x y:List Th)(a b:List Int),x≠y->HT.lexLt (rowL x++ -1::a) (rowL y++ -1::b)=zaD x y
 | [],[],_,_,h=>Jf rfl h
 | [],u::q,a,b,_=>by obtain⟨r,e⟩:=zdG u;have:=zlb u;show HT.lexLt (-1::a) ((rowT u++rowL q)++ -1::b)=Z;rw[e,Ni,Ni,zbh (),aw ()]
 | t::r,[],a,b,_=>by obtain⟨r',e⟩:=zdG t;have:=zlb t;show HT.lexLt ((rowT t++rowL r)++ -1::a) (-1::b)=G;rw[e,Ni,Ni,zbh (),Jc ()]
 | t::r,u::q,a,b,h=>by
  show HT.lexLt ((rowT t++rowL r)++ -1::a) ((rowT u++rowL q)++ -1::b)=if eqT t u=Z then zaD r q else zc t u
  rw[Nj,Nj];by_cases e:t=u
  ·subst e;rw[zhV,av (z9 t)];exact zrP r q a b (λz=>h (by rw[z]))
  ·rw[au (λz=>e ((zJ t u).mp z))];exact zli t u _ _ e
end
theorem zd0:∀l:List Int,HT.lexLt l l=G
 | []=>rfl
 | x::r=>by rw[HT.lexLt_cons,av rfl];exact zd0 r
mutual
theorem zD:∀t:Th,zc t t=G
 | .non=>rfl
 | .int a=>by show decide (a < a)=G;exact Jc ()
 | .str x=>by show decide (x.cps.toList < x.cps.toList)=G;exact Jc (List.lt_irrefl _)
 | .tup ts=>zdo ts
theorem zdo:∀ts:List Th,zaD ts ts=G
 | []=>rfl
 | t::r=>by show(if eqT t t=Z then zaD r r else zc t t)=G;rw[av (z9 t)];exact zdo r
end
theorem zaE (t u:Th):HT.lexLt (rowT t) (rowT u)=zc t u:=by
 by_cases h:t=u
 ·subst h;rw[zd0,zD]
 ·have:=zli t u [] [] h;rwa[JS,JS] at this
theorem zjw (h:zan t≠zan u):zc t u=decide (zan t < zan u):=by have:=zZ h [] [];rwa[JS,JS,zaE] at this
def _root_.Jp:=@List.drop_eq_getElem_cons
theorem ziZ {ts us:List Th}{i:Nat}(h1:i < ts.length)(h2:i < us.length):zaD (ts.drop i) (us.drop i)=if eqT ts[i] us[i]=Z then zaD (ts.drop (i+1)) (us.drop (i+1)) else zc ts[i] us[i]:=by
 rw[Jp h1,Jp h2]
 rfl
def _root_.ND:=@Nat.min_eq_left
theorem zkf (ts us:List Th):zaD (ts.drop (min ts.length us.length)) (us.drop (min ts.length us.length))=decide (ts.length < us.length):=by
 by_cases h:ts.length < us.length
 ·rw[ND (),List.drop_length,Jp h,aw h]
  rfl
 ·rw[Nat.min_eq_right (),List.drop_length,Jc h];cases e:ts.drop us.length <;> rfl
def Reps (H:Hp)(ts:List Th)(xs:QR):Prop:=xs.length=ts.length/\∀(i:Nat)(x:V)(t:Th),xs[i]? =Y x->ts[i]? =Y t->Rep H t x
theorem Reps.keep (r:Reps H ts xs)(k:Tups H H'):Reps H' ts xs:=⟨r.1,λi x t h1 h2=>(r.2 i x t h1 h2).keep k⟩
def Reps.snoc (r:Reps H ts xs)(h:Rep H t x):Reps H (ts++ [t]) (xs++ [x]):=by
 refine⟨by simp[r.1],λi y u h1 h2=>?_⟩;have hl:=r.1;by_cases hi:i < xs.length
 ·rw[Nt hi] at h1;rw[Nt ()] at h2;exact r.2 i y u h1 h2
 ·rw[JY ()] at h1 h2;cases e:i - xs.length with
  | zero=>rw[e] at h1;rw[show i - ts.length=0 by lia] at h2;cases h1;cases h2;exact h
  | succ k=>rw[e] at h1;simp at h1
theorem Reps.nil:Reps H [] []:=⟨O,λi x t h=>by simp at h⟩
end Pv
namespace L2
open PySem PySem.Spec PyProof.Rows
section
variable {X:Cx}{e:aX}{es:List aX}{te:TE}{pos:Pos}
def zgW:OpR X (a9 .LtE) (λx y H Q=>∃i j,x=.str i/\y=.str j/\Q (.bl (!decide (j.cps.toList < i.cps.toList))) H):=by intro bH s σ H x y v u Q I rx ry h;obtain⟨i,j,rfl,rfl,q⟩:=h;obtain⟨t,rfl⟩:=rx;obtain⟨t',rfl⟩:=ry;exact PySem.P.le_str (zA I q rfl)
theorem zlk:∀{ys:QQ}{its:QO},Vals (ys.map V.str) its->StrsAre its ys
 | [],_,.nil=>.nil
 | y::r,_,.cons h t=>by obtain⟨k,rfl⟩:=h;exact .cons y k (zlk t)
def rJoin:V->List V->Hp->VK->Prop:=λx vs H Q=>∃z p ys,x=.str z/\vs=[.ref p]/\H p=Y (.lst (ys.map V.str))/\(ys.map (·.length)).sum+ys.length * z.length<=16777216/\Q (.str (Str.join z ys)) H
def zlL:MtR X "str.join" rJoin:=by intro bH s σ H x vs v us Q I rx rv h;obtain⟨z,p,ys,rfl,rfl,hH,hz,q⟩:=h;obtain⟨t,rfl⟩:=rx;obtain⟨u,rfl,ru⟩:=Vals.one rv;cases ru;obtain⟨its,r,pl,_⟩:=I.list (SqL.of hH);refine join_list pl.isList (zlk r) hz λt' k=>?_;have e:Txt.join z ys=Str.join z ys:=PySem.StrLaws.glued_eq_join z ys;rw[e];exact⟨.str _,H,I.tok _,⟨B⟩,q⟩
end
end L2
namespace Pv
open PySem L2 PyProof.Rows PySem.NumText
def tx (l:List Nat):Str:=⟨l.toArray⟩
theorem zoD (l:List Nat):(tx l).length=l.length:=by show l.toArray.size=_;simp
theorem zob (a b:List Nat):tx a++tx b=tx (a++b):=by show(⟨a.toArray++b.toArray⟩:Str)=⟨(a++b).toArray⟩;simp
def zqA (ls:List (List Nat)):Str.join (tx []) (ls.map tx)=tx ls.flatten:=by
 induction ls with
 | nil=>rfl
 | cons a r ih=>
  cases r with
  | nil=>show tx a=tx _;simp
  | cons b r=>
   show tx a++tx []++Str.join (tx []) ((b::r).map tx)=_;rw[ih,zob,zob,JS]
   rfl
def numL (i:Int):List Nat:=(bz (toString i)).cps.toList
mutual
def wrT:Th->List Nat
 | .non=>[111]
 | .int i=>110::(numL i++ [59])
 | .str x=>116::(numL x.length++58::x.cps.toList)
 | .tup ts=>40::(wrL ts++ [41])
def wrL:List Th->List Nat
 | []=>[]
 | t::r=>wrT t++wrL r
end
theorem zlu:∀a b:List Int,HT.lexLt a b=G->HT.lexLt b a=G->a=b
 | [],[],_,_=>rfl
 | [],_::_,h,_=>by cases h
 | _::_,[],_,h=>by cases h
 | x::a,y::b,h1,h2=>by
  rw[HT.lexLt_cons] at h1 h2;by_cases e:x=y
  ·rw[av e] at h1;rw[av e.symm] at h2;rw[e,zlu a b h1 h2]
  ·rw[au e] at h1;rw[au (λz=>e z.symm)] at h2;have:=of_decide_eq_false h1;have:=of_decide_eq_false h2;lia
theorem zll:∀a b c:List Int,HT.lexLt a c=Z->HT.lexLt a b=Z\/HT.lexLt b c=Z
 | [],[],[],h=>by cases h
 | [],[],_::_,_=>.inr rfl
 | [],_::_,_,_=>.inl rfl
 | _::_,_,[],h=>by cases h
 | _::_,[],_::_,_=>.inr rfl
 | x::a,y::b,z::c,h=>by
  rw[HT.lexLt_cons] at h;rw[HT.lexLt_cons,HT.lexLt_cons];by_cases e1:x=y
  ·by_cases e2:y=z
   ·rw[av (e1.trans e2)] at h;rw[av e1,av e2];exact zll a b c h
   ·rw[au (λq=>e2 (e1.symm.trans q))] at h;rw[au e2];have:=of_decide_eq_true h;exact .inr (aw ())
  ·by_cases e2:y=z
   ·rw[au (λq=>e1 (q.trans e2.symm))] at h;rw[au e1];have:=of_decide_eq_true h;exact .inl (aw ())
   ·rw[au e1,au e2];by_cases hx:x < y
    ·exact .inl (aw hx)
    ·refine .inr (aw ?_);by_cases e3:x=z
     ·lia
     ·rw[au e3] at h;have:=of_decide_eq_true h;lia
def zqP (h:rowT t=rowT u):t=u:=by refine Classical.byContradiction λne=>?_;have e1:=zli t u [0] [1] ne;have e2:=zli t u [1] [0] ne;rw[h,zhV] at e1 e2;rw[<-e1] at e2;exact Jf e2 ()
def zmO (h1:zc t u=G)(h2:zc u t=G):t=u:=zqP (zlu _ _ (by rw[zaE];exact h1) (by rw[zaE];exact h2))
theorem zO (h:zc t u=Z):zc u t=G:=by
 cases e:zc u t with
 | false=>rfl
 | true=>
  rw[<-zaE] at h e;have:∀a b:List Int,HT.lexLt a b=Z->HT.lexLt b a=Z->False:=λa b=>by
   induction a generalizing b with
   | nil=>intro p q;cases b <;> cases q
   | cons x a ih=>
    intro p q;cases b with
    | nil=>cases p
    | cons y b=>
     rw[HT.lexLt_cons] at p q;by_cases z:x=y
     ·rw[av z] at p;rw[av z.symm] at q;exact ih b p q
     ·rw[au z] at p;rw[au (λk=>z k.symm)] at q;have:=of_decide_eq_true p;have:=of_decide_eq_true q;lia
  exact(this _ _ h e).elim
end Pv
namespace Pv
open PySem L2
def zmd (b:Th)(h:zc a c=Z):zc a b=Z\/zc b c=Z:=by rw[<-zaE] at h;rw[<-zaE,<-zaE];exact zll _ _ _ h
theorem z6 (h1:zc a b=Z)(h2:zc b c=Z):zc a c=Z:=by
 rcases zmd c h1 with h | h
 ·exact h
 ·rw[zO h2] at h;cases h
theorem zcI (h:zc a b=G)(n:a≠b):zc b a=Z:=by
 cases e:zc b a with
 | true=>rfl
 | false=>exact Jf (zmO h e) n
def zcE (t:Th):Int:=zk (.tup [.str ("rank" :Str),t])
def zab (t u:Th):Bool:=if zcE t=zcE u then zc t u else decide (zcE u < zcE t)
abbrev zaC (k wo:Th)(l r c:Int):Th:=.tup [k,wo,.int l,.int r,.int c]
def zi0 (t:Th):1<=zk t/\zk t<=2305843009213693951:=by have:=zeJ (zu t);unfold zk;lia
structure KeyT (t:Th):Prop where
 wf:Wf t
 dp:dep t<=3
 nd:nodes t<=20
 ne:t≠ .non
instance decTh:DecidableEq Th:=λt u=>decidable_of_iff _ (zJ t u)
inductive Tr where
 | nil:Tr
 | node (l:Tr) (k w:Th) (r:Tr):Tr
namespace Tr
def ps:Tr->List (Th ×Th)
 | nil=>[]
 | node l k w r=>l.ps++(k,w)::r.ps
def root:Tr->Int
 | nil=>0
 | node l k w r=>zk (zaC k w l.root r.root (((l.ps++(k,w)::r.ps).length:Nat):Int))
abbrev cnt (T:Tr):Nat:=T.ps.length
def thing:Tr->Th
 | nil=>.non
 | node l k w r=>zaC k w l.root r.root (((l.ps++(k,w)::r.ps).length:Nat):Int)
def InV (cs:QF):Tr->Prop
 | nil=>True
 | node l k w r=>zh cs (node l k w r).root=Y (node l k w r).thing/\l.InV cs/\r.InV cs
def kid (x:Th):Tr->Tr
 | nil=>nil
 | node l k _ r=>if zc k x=Z then r else l
def down (x:Th):Nat->Tr->Tr
 | 0,T=>T
 | n+1,T=>down x n (T.kid x)
def plug (x:Th):Nat->Tr->Tr->Tr
 | 0,_,S=>S
 | _+1,nil,_=>nil
 | n+1,node l k w r,S=>if zc k x=Z then node l k w (plug x n r S) else node (plug x n l S) k w r
def spl (x:Th):Nat->Tr->Tr ×Tr
 | 0,T=>(T,nil)
 | _+1,nil=>(nil,nil)
 | n+1,node l k w r=>if zc k x=Z then(node l k w (spl x n r).1,(spl x n r).2) else((spl x n l).1,node (spl x n l).2 k w r)
def wl (x:Th):Tr->Nat
 | nil=>0
 | node l k _ r=>if k=x then 1 else(if zc k x=Z then r.wl x else l.wl x)+1
def own (x:Th):Tr->Tr
 | nil=>nil
 | node l k w r=>if k=x then node l k w r else if zc k x=Z then r.own x else l.own x
end Tr
open Tr
theorem zhn (l:Tr)(k w:Th)(r:Tr):(node l k w r).root=zk (node l k w r).thing:=rfl
def zaH {T:Tr}:T.root=0↔T=nil:=by
 cases T with
 | nil=>exact⟨λ_=>O,λ_=>O⟩
 | node l k w r=>refine⟨λh=>?_,λh=>by cases h⟩;have:=(zi0 (node l k w r).thing).1;rw[zhn] at h;lia
def zfU (T:Tr):0<=T.root/\T.root<=2305843009213693951:=by
 cases T with
 | nil=>exact⟨Int.le_refl 0,()⟩
 | node l k w r=>have:=zi0 (node l k w r).thing;rw[zhn];lia
theorem zt (l:Tr)(k w:Th)(r:Tr):(node l k w r).cnt=l.cnt+r.cnt+1:=by show(l.ps++(k,w)::r.ps).length=_;rw[JF,JM];show l.ps.length+(r.ps.length+1)=l.ps.length+r.ps.length+1;lia
def Sub (cs cs':QF):Prop:=∀n t,zh cs n=Y t->zh cs' n=Y t
theorem Sub.refl (cs:QF):Sub cs cs:=λ_ _ h=>h
theorem Sub.trans (h:Sub a b)(h':Sub b c):Sub a c:=λn t e=>h' n t (h n t e)
theorem InV.mono {cs cs':QF}(s:Sub cs cs'):∀{T:Tr},T.InV cs->T.InV cs'
 | nil,_=>trivial
 | node _ _ _ _,h=>⟨s _ _ h.1,InV.mono s h.2.1,InV.mono s h.2.2⟩
abbrev _root_.QH:=List (Th ×Th)
def Srt (ps:QH):Prop:=ps.Pairwise λp q=>zc p.1 q.1=Z
def zbQ {l:Tr}{r:Tr}(h:Srt (node l k w r).ps):Srt l.ps/\Srt r.ps/\(∀p∈l.ps,zc p.1 k=Z)/\(∀p∈r.ps,zc k p.1=Z):=by have h':Srt (l.ps++(k,w)::r.ps):=h;obtain⟨h1,h2,h3⟩:=List.pairwise_append.mp h';obtain⟨h4,h5⟩:=List.pairwise_cons.mp h2;exact⟨h1,h5,λp hp=>h3 p hp _ JO,λp hp=>h4 p hp⟩
def lo (ps:QH)(x:Th):List (Th ×Th):=ps.filter λp=>zc p.1 x
def hi (ps:QH)(x:Th):List (Th ×Th):=ps.filter λp=>zc x p.1
def hiE (ps:QH)(x:Th):List (Th ×Th):=ps.filter λp=>!zc p.1 x
def insP (ps:QH)(x w:Th):List (Th ×Th):=lo ps x++(x,w)::hi ps x
def _root_.NA:=@List.filter_append
theorem zcU (a b:QH)(x:Th):lo (a++b) x=lo a x++lo b x:=NA ..
theorem zeF (a b:QH)(x:Th):hi (a++b) x=hi a x++hi b x:=NA ..
theorem zkc (a b:QH)(x:Th):hiE (a++b) x=hiE a x++hiE b x:=NA ..
theorem zib {a:QH}(h:∀p∈a,zc p.1 x=Z):lo a x=a:=List.filter_eq_self.mpr h
theorem zoF {a:QH}(h:∀p∈a,zc x p.1=Z):hi a x=a:=List.filter_eq_self.mpr h
theorem zk5 {a:QH}(h:∀p∈a,zc p.1 x=G):hiE a x=a:=List.filter_eq_self.mpr λp hp=>by rw[h p hp];rfl
def _root_.Nx:=@List.filter_eq_nil_iff
theorem zfk {a:QH}(h:∀p∈a,zc p.1 x=G):lo a x=[]:=Nx.mpr λp hp=>by rw[h p hp];exact Jd
theorem zlF {a:QH}(h:∀p∈a,zc x p.1=G):hi a x=[]:=Nx.mpr λp hp=>by rw[h p hp];exact Jd
theorem zjH {a:QH}(h:∀p∈a,zc p.1 x=Z):hiE a x=[]:=Nx.mpr λp hp=>by rw[h p hp];exact Jd
theorem zuq {p:Th ×Th}{a:QH}(h:zc p.1 x=Z):lo (p::a) x=p::lo a x:=List.filter_cons_of_pos h
theorem zoq {p:Th ×Th}{a:QH}(h:zc p.1 x=G):lo (p::a) x=lo a x:=List.filter_cons_of_neg (by rw[h];exact Jd)
theorem ztZ {p:Th ×Th}{a:QH}(h:zc x p.1=G):hi (p::a) x=hi a x:=List.filter_cons_of_neg (by rw[h];exact Jd)
theorem zpa {p:Th ×Th}{a:QH}(h:zc p.1 x=G):hiE (p::a) x=p::hiE a x:=List.filter_cons_of_pos (by rw[h];rfl)
theorem zsQ {p:Th ×Th}{a:QH}(h:zc p.1 x=Z):hiE (p::a) x=hiE a x:=List.filter_cons_of_neg (by rw[h];exact Jd)
theorem zlI {A M ai:QH}{w:Th}(hA:∀p∈A,zc p.1 x=Z)(hB:∀p∈ai,zc x p.1=Z):insP (A++M++ai) x w=A++insP M x w++ai:=by unfold insP;rw[zcU,zcU,zeF,zeF,zib hA,zoF hB,zlF (a:=A) λp hp=>zO (hA p hp),zfk (a:=ai) λp hp=>zO (hB p hp)];simp
theorem zl7 {l r:QH}{w w':Th}(hl:∀p∈l,zc p.1 k=Z)(hr:∀p∈r,zc k p.1=Z):insP (l++(k,w)::r) k w'=l++(k,w')::r:=by unfold insP;rw[zcU,zeF,zib hl,zoq (zD k),ztZ (zD k),zoF hr,zfk (a:=r) λp hp=>zO (hr p hp),zlF (a:=l) λp hp=>zO (hl p hp)];simp
theorem zr7 {a:QH}{x:Th}(h:∀p∈a,p.1≠x):hi a x=hiE a x:=by
 unfold hi hiE;refine List.filter_congr λp hp=>?_;cases e:zc p.1 x with
 | true=>rw[zO e];rfl
 | false=>rw[zcI e (h p hp)];rfl
def Up (x:Th):Nat->Tr->Prop
 | 0,_=>True
 | _+1,nil=>False
 | n+1,node l k _ r=>k≠x/\Up x n (if zc k x=Z then r else l)
theorem zcC:∀{n:Nat}{T:Tr},Srt T.ps->Up x n T->∃A ai:List (Th ×Th),(∀S,(plug x n T S).ps=A++S.ps++ai)/\T.ps=A++(down x n T).ps++ai/\(∀p∈A,zc p.1 x=Z)/\(∀p∈ai,zc x p.1=Z)
 | 0,T,_,_=>⟨[],[],λS=>(JS _).symm,(JS _).symm,λp h=>(nomatch h),λp h=>(nomatch h)⟩
 | n+1,nil,_,h=>h.elim
 | n+1,node l k w r,hs,h=>by
  obtain⟨h1,h2,h3,h4⟩:=zbQ hs;obtain⟨ne,h⟩:=h;by_cases c:zc k x=Z
  ·rw[av c] at h;obtain⟨A,ai,e1,e2,e3,e4⟩:=zcC h2 h;refine⟨l.ps++(k,w)::A,ai,λS=>?_,?_,λp hp=>?_,e4⟩
   ·show(if zc k x=Z then node l k w (plug x n r S) else node (plug x n l S) k w r).ps=_;rw[av c];show l.ps++(k,w)::(plug x n r S).ps=_;rw[e1 S];simp
   ·show l.ps++(k,w)::r.ps=(l.ps++(k,w)::A)++(down x n (if zc k x=Z then r else l)).ps++ai;rw[av c,e2];simp
   ·rcases Jk.mp hp with hp | hp
    ·exact z6 (h3 p hp) c
    ·rcases JJ.mp hp with rfl | hp
     ·exact c
     ·exact e3 p hp
  ·rw[au c] at h;have c':zc k x=G:=by cases z:zc k x with | true=>exact Jf z c | false=>rfl
   have xk:=zcI c' ne;obtain⟨A,ai,e1,e2,e3,e4⟩:=zcC h1 h;refine⟨A,ai++(k,w)::r.ps,λS=>?_,?_,e3,λp hp=>?_⟩
   ·show(if zc k x=Z then node l k w (plug x n r S) else node (plug x n l S) k w r).ps=_;rw[au c];show(plug x n l S).ps++(k,w)::r.ps=_;rw[e1 S];simp
   ·show l.ps++(k,w)::r.ps=A++(down x n (if zc k x=Z then r else l)).ps++(ai++(k,w)::r.ps);rw[au c,e2];simp
   ·rcases Jk.mp hp with hp | hp
    ·exact e4 p hp
    ·rcases JJ.mp hp with rfl | hp
     ·exact xk
     ·exact z6 xk (h4 p hp)
def _root_.Jx:=@Nat.succ_lt_succ
theorem zf5:∀{n:Nat}{T S:Tr},(∀m,m < n->down x m T≠nil)->(plug x n T S).cnt+(down x n T).cnt=T.cnt+S.cnt
 | 0,T,S,_=>Nat.add_comm _ _
 | n+1,nil,S,h=>Jf rfl (h 0 (Nat.zero_lt_succ _))
 | n+1,node l k w r,S,h=>by
  show(if zc k x=Z then node l k w (plug x n r S) else node (plug x n l S) k w r).cnt+(down x n (if zc k x=Z then r else l)).cnt=_;have h':∀m,m < n->down x m (if zc k x=Z then r else l)≠nil:=λm hm=>h (m+1) (Jx hm);by_cases c:zc k x=Z
  ·rw[av c] at h' ⊢;rw[av c];have:=zf5 (S:=S) h';rw[zt,zt];lia
  ·rw[au c] at h' ⊢;rw[au c];have:=zf5 (S:=S) h';rw[zt,zt];lia
def _root_.Jv:=@Nat.not_lt_zero
theorem up_down:∀{n:Nat}{T:Tr},Up x n T->∀m,m < n->down x m T≠nil
 | 0,_,_,m,hm=>Jf hm (Jv m)
 | n+1,nil,h,_,_=>h.elim
 | n+1,node l k w r,h,0,_=>λz=>by cases z
 | n+1,node l k w r,h,m+1,hm=>up_down (T:=if zc k x=Z then r else l) h.2 m (Nat.lt_of_succ_lt_succ hm)
theorem zfR:∀(n m:Nat)(T:Tr),down x (n+m) T=down x m (down x n T)
 | 0,m,T=>by rw[Nat.zero_add];rfl
 | n+1,m,T=>by rw[Nat.succ_add];exact zfR n m (T.kid x)
theorem zhH:∀{n m:Nat}{T:Tr},Up x n T->m<=n->Up x m T
 | _,0,_,_,_=>trivial
 | 0,m+1,_,_,h=>Jf h (Nat.not_succ_le_zero m)
 | n+1,m+1,nil,h,_=>h.elim
 | n+1,m+1,node l k w r,h,hm=>⟨h.1,zhH h.2 (Nat.le_of_succ_le_succ hm)⟩
theorem zeb:∀{T:Tr},own x T=nil->Up x (wl x T) T/\down x (wl x T) T=nil
 | nil,_=>⟨trivial,O⟩
 | node l k w r,h=>by
  unfold own at h;by_cases e:k=x
  ·rw[av e] at h;cases h
  ·rw[au e] at h;unfold wl;rw[au e];by_cases c:zc k x=Z
   ·rw[av c] at h ⊢;obtain⟨a,b⟩:=zeb h;refine⟨⟨e,?_⟩,?_⟩
    ·rw[av c];exact a
    ·show down x _ (if zc k x=Z then r else l)=nil;rw[av c];exact b
   ·rw[au c] at h ⊢;obtain⟨a,b⟩:=zeb h;refine⟨⟨e,?_⟩,?_⟩
    ·rw[au c];exact a
    ·show down x _ (if zc k x=Z then r else l)=nil;rw[au c];exact b
theorem zbP:∀{T l' r':Tr}{k' w':Th},own x T=node l' k' w' r'->k'=x/\∃n,wl x T=n+1/\Up x n T/\down x n T=node l' k' w' r'
 | nil,_,_,_,_,h=>by cases h
 | node l k w r,l',r',k',w',h=>by
  unfold own at h;by_cases e:k=x
  ·rw[av e] at h;cases h;unfold wl;rw[av e];exact⟨e,0,O,trivial,O⟩
  ·rw[au e] at h;unfold wl;rw[au e];by_cases c:zc k x=Z
   ·rw[av c] at h ⊢;obtain⟨a,n,b,d,f⟩:=zbP h;refine⟨a,n+1,by rw[b],⟨e,?_⟩,?_⟩
    ·rw[av c];exact d
    ·show down x n (if zc k x=Z then r else l)=_;rw[av c];exact f
   ·rw[au c] at h ⊢;obtain⟨a,n,b,d,f⟩:=zbP h;refine⟨a,n+1,by rw[b],⟨e,?_⟩,?_⟩
    ·rw[au c];exact d
    ·show down x n (if zc k x=Z then r else l)=_;rw[au c];exact f
def zqr:∀{n:Nat},Up x n T->wl x T=n+wl x (down x n T):=by
 intro n
 induction n generalizing T with
 | zero=>intro _;rw[Nat.zero_add];rfl
 | succ n ih=>
  intro h;cases T with
  | nil=>exact h.elim
  | node l k w r=>
   obtain⟨e,h⟩:=h;have:=ih h;show(if k=x then 1 else(if zc k x=Z then r.wl x else l.wl x)+1)=n+1+wl x (down x n (if zc k x=Z then r else l));rw[au e];by_cases c:zc k x=Z
   ·rw[av c] at this ⊢;rw[av c];lia
   ·rw[au c] at this ⊢;rw[au c];lia
theorem zlQ:∀T:Tr,wl x T<=T.cnt
 | nil=>Jb _
 | node l k w r=>by
  rw[zt];unfold wl;have h1:=zlQ (x:=x) l;have h2:=zlQ (x:=x) r;split
  ·lia
  ·split <;> lia
theorem zcx:∀{n:Nat}{T:Tr},Srt T.ps->Srt (down x n T).ps
 | 0,_,h=>h
 | n+1,T,h=>zcx (n:=n) (T:=T.kid x) (by
  cases T with
  | nil=>exact List.Pairwise.nil
  | node l k w r=>
   obtain⟨h1,h2,_,_⟩:=zbQ h;show Srt (if zc k x=Z then r else l).ps;split
   ·exact h2
   ·exact h1)
theorem zj4:∀{T:Tr},Srt T.ps->(spl x (wl x T) T).1.ps=lo T.ps x/\(spl x (wl x T) T).2.ps=hiE T.ps x
 | nil,_=>⟨O,O⟩
 | node l k w r,h=>by
  obtain⟨h1,h2,h3,h4⟩:=zbQ h;show(spl x (if k=x then 1 else(if zc k x=Z then r.wl x else l.wl x)+1) (node l k w r)).1.ps=lo (l.ps++(k,w)::r.ps) x/\(spl x (if k=x then 1 else(if zc k x=Z then r.wl x else l.wl x)+1) (node l k w r)).2.ps=hiE (l.ps++(k,w)::r.ps) x;rw[zcU,zkc];by_cases e:k=x
  ·subst e;rw[av rfl];have c:=zD k;show(if zc k k=Z then(node l k w r,nil) else(l,node nil k w r)).1.ps=_/\(if zc k k=Z then(node l k w r,nil) else(l,node nil k w r)).2.ps=_;rw[c,zib h3,zoq c,zpa c,zfk λp hp=>zO (h4 p hp),zjH h3,zk5 λp hp=>zO (h4 p hp)];exact⟨(JS _).symm,O⟩
  ·rw[au e];by_cases c:zc k x=Z
   ·obtain⟨i1,i2⟩:=zj4 (x:=x) h2;rw[av c];show(if zc k x=Z then(node l k w (spl x (r.wl x) r).1,(spl x (r.wl x) r).2) else _).1.ps=_/\(if zc k x=Z then(node l k w (spl x (r.wl x) r).1,(spl x (r.wl x) r).2) else _).2.ps=_;rw[av c,zib λp hp=>z6 (h3 p hp) c,zuq c,zjH λp hp=>z6 (h3 p hp) c,zsQ c];refine⟨?_,by rw[List.nil_append];exact i2⟩;show l.ps++(k,w)::(spl x (r.wl x) r).1.ps=_;rw[i1]
   ·have c':zc k x=G:=by cases z:zc k x with | true=>exact Jf z c | false=>rfl
    have xk:=zcI c' e;obtain⟨i1,i2⟩:=zj4 (x:=x) h1;rw[au c];show(if zc k x=Z then _ else((spl x (l.wl x) l).1,node (spl x (l.wl x) l).2 k w r)).1.ps=_/\(if zc k x=Z then _ else((spl x (l.wl x) l).1,node (spl x (l.wl x) l).2 k w r)).2.ps=_;have hr:∀p∈r.ps,zc p.1 x=G:=λp hp=>zO (z6 xk (h4 p hp));rw[au c,zoq c',zpa c',zfk hr,zk5 hr];refine⟨by rw[JS];exact i1,?_⟩;show(spl x (l.wl x) l).2.ps++(k,w)::r.ps=_;rw[i2]
def Tr.plc (x:Th):Tr->Nat
 | nil=>0
 | node l k _ r=>if zab x k=Z then 0 else(if zc k x=Z then r.plc x else l.plc x)+1
theorem zit:∀{T:Tr},own x T=nil->plc x T<=wl x T
 | nil,_=>Jb _
 | node l k w r,h=>by
  unfold own at h;by_cases e:k=x
  ·rw[av e] at h;cases h
  ·rw[au e] at h;unfold plc wl;rw[au e];split
   ·exact JN _
   ·by_cases c:zc k x=Z
    ·rw[av c] at h;rw[av c,av c];exact Nat.succ_le_succ (zit h)
    ·rw[au c] at h;rw[au c,au c];exact Nat.succ_le_succ (zit h)
theorem zot:∀{n:Nat}{T:Tr},Up x n T->own x (down x n T)=own x T
 | 0,_,_=>rfl
 | n+1,nil,h=>h.elim
 | n+1,node l k w r,h=>by
  show own x (down x n (if zc k x=Z then r else l))=own x (node l k w r);rw[zot h.2]
  conv=>rhs;unfold own
  rw[au h.1];split <;> rfl
theorem zfi:∀{T:Tr},Srt T.ps->own x T=nil->∀p∈T.ps,p.1≠x
 | nil,_,_,p,hp=>by cases hp
 | node l k w r,hs,h,p,hp=>by
  obtain⟨h1,h2,h3,h4⟩:=zbQ hs;unfold own at h;by_cases e:k=x
  ·rw[av e] at h;cases h
  ·rw[au e] at h;by_cases c:zc k x=Z
   ·rw[av c] at h;rcases Jk.mp hp with hp | hp
    ·intro z;have:=z6 (h3 p hp) c;rw[z,zD] at this;cases this
    ·rcases JJ.mp hp with rfl | hp
     ·exact e
     ·exact zfi h2 h p hp
   ·rw[au c] at h;have c':zc k x=G:=by cases z:zc k x with | true=>exact Jf z c | false=>rfl
    have xk:=zcI c' e;rcases Jk.mp hp with hp | hp
    ·exact zfi h1 h p hp
    ·rcases JJ.mp hp with rfl | hp
     ·exact e
     ·intro z;have:=z6 xk (h4 p hp);rw[z,zD] at this;cases this
def Tr.putT (x w:Th)(T:Tr):Tr:=
 match own x T with
 | node l _ _ r=>plug x (wl x T - 1) T (node l x w r)
 | nil=>plug x (plc x T) T (node (spl x (wl x T - plc x T) (down x (plc x T) T)).1 x w (spl x (wl x T - plc x T) (down x (plc x T) T)).2)
def zsZ {T:Tr}(hs:Srt T.ps):(putT x w T).ps=insP T.ps x w:=by
 unfold putT;cases h:own x T with
 | nil=>
  obtain⟨u,d⟩:=zeb h;have hp:=zit h;have u':=zhH u hp;obtain⟨A,ai,e1,e2,e3,e4⟩:=zcC hs u';have hd:=zqr u';have ew:wl x T - plc x T=wl x (down x (plc x T) T):=()
  have s1:=zj4 (x:=x) (zcx (x:=x) (n:=plc x T) hs);show(plug x (plc x T) T (node (spl x (wl x T - plc x T) (down x (plc x T) T)).1 x w (spl x (wl x T - plc x T) (down x (plc x T) T)).2)).ps=_;rw[ew,e1]
  conv=>rhs;rw[e2]
  rw[zlI e3 e4];show A++((spl x (wl x (down x (plc x T) T)) (down x (plc x T) T)).1.ps++(x,w)::(spl x (wl x (down x (plc x T) T)) (down x (plc x T) T)).2.ps)++ai=_;rw[s1.1,s1.2];unfold insP;rw[zr7 (zfi (zcx hs) (by rw[zot u',h]))]
 | node l k' w' r=>
  obtain⟨rfl,n,ew,u,d⟩:=zbP h;show(plug k' (wl k' T - 1) T (node l k' w r)).ps=_;rw[ew,Nat.add_sub_cancel];obtain⟨A,ai,e1,e2,e3,e4⟩:=zcC hs u;rw[e1]
  conv=>rhs;rw[e2]
  rw[zlI e3 e4,d];obtain⟨_,_,h3,h4⟩:=zbQ (d ▸ zcx hs);show A++(l.ps++(k',w)::r.ps)++ai=A++insP (l.ps++(k',w')::r.ps) k' w++ai;rw[zl7 h3 h4]
def zfD {ps:QH}(h:Srt ps)(f:Th ×Th->Bool):Srt (ps.filter f):=List.Pairwise.filter f h
def zqD {ps:QH}{x w:Th}(h:Srt ps):Srt (insP ps x w):=by
 refine List.pairwise_append.mpr ⟨zfD h _,List.pairwise_cons.mpr ⟨λp hp=>(Jz.mp hp).2,zfD h _⟩,λp hp q hq=>?_⟩;have a:=(Jz.mp hp).2;rcases JJ.mp hq with rfl | hq
 ·exact a
 ·exact z6 a (Jz.mp hq).2
def zpT {ps:QH}{x w:Th}:(insP ps x w).length<=ps.length+1:=by
 unfold insP lo hi;rw[JF,JM];have:∀qs:List (Th ×Th),(qs.filter λp=>zc p.1 x).length+(qs.filter λp=>zc x p.1).length<=qs.length:=λqs=>by
  induction qs with
  | nil=>exact Jb _
  | cons q qs ih=>
   rw[List.filter_cons,List.filter_cons];cases a:zc q.1 x with
   | true=>rw[zO a];show(q::qs.filter _).length+(qs.filter _).length<=_;rw[JM,JM];lia
   | false=>
    show(qs.filter _).length+(if zc x q.1=Z then q::qs.filter _ else qs.filter _).length<=_;split
    ·rw[JM,JM];lia
    ·rw[JM];lia
 have:=this ps;lia
def zq0 {ps:QH}{x w:Th}{p:Th ×Th}(h:p∈insP ps x w):p∈ps\/p=(x,w):=by
 rcases Jk.mp h with h | h
 ·exact .inl (Jz.mp h).1
 ·rcases JJ.mp h with h | h
  ·exact .inr h
  ·exact .inl (Jz.mp h).1
end Pv
namespace L2
open PySem PySem.Spec PyProof.Rows
structure PEw (X:Cx)(e:aX)(t:TE):Prop where
 h:PE X e t
structure PAw (X:Cx)(es:List aX)(t:TA):Prop where
 h:PA X es t
structure PPw (X:Cx)(pos:Pos)(keys:List (Option aX))(values:List aX)(trs:List (TE ×TE)):Prop where
 h:PPs X pos keys values trs
structure PSw (X:Cx)(st:aB)(t:TS):Prop where
 h:PS X st t
structure PSq (X:Cx)(st:List aB)(t:TS):Prop where
 h:PSs X st t
section
variable {X:Cx}
variable {bH:QE}{σ:St}{H:Hp}{s:aM}{d:aE}{kvs:QG}{o:Obj}
variable {tg:aX}
end
end L2
namespace L2
open PySem PySem.Spec PyProof.Rows PySem.W
section
variable {P:aG}{w:aH}{A:aU}{E:QC}{s:aM}{R:Result->aM->Prop}{I l S:aE}{items:Array aD}
variable {X:Cx}{e:aX}{te:TE}{p1 p2 q1 q2:Pos}
end
def Itv (K:QA)(p:aE)(xs:QR):It:=
 ⟨λn H=>SqL K H p xs/\n < xs.length,λn H v H'=>H'=H/\xs.reverse[n]? =Y v,λn H=>SqL K H p xs/\xs.length<=n⟩
def zoE {P:aG}{w:aH}{K:QA}{tg:aX}{xs:QR}(p it:aE):Turn P w K tg (Itv K p xs) [it] it (λi h=>i<=xs.length/\h.IsRevIter it p ((xs.length:Int) - 1 - (i:Nat))) where
 mem:=by simp
 obj:=λi h st b hb=>by
  have e:b=it:=by simpa using hb
  subst e;obtain⟨_,o,e,c,d⟩:=st;exact⟨o,e,λv z=>by rw[d] at z;cases z⟩
 keep:=λi h h' st k=>⟨st.1,st.2.at λo e=>k it (by simp) o e⟩
 item:=by
  intro X hP hw hK hc i bH s σ H E I hf st hg;subst hP hw hK;obtain⟨hq,hi⟩:=hg;obtain⟨_,st⟩:=st;obtain⟨its,rv,p',hz⟩:=I.list hq;have hn:xs.length - 1 - i < xs.length:=()
  have hx:xs[xs.length - 1 - i]? =Y xs[xs.length - 1 - i]:=JD hn;obtain⟨u,hu,ru⟩:=rv.get hx;obtain⟨f0,f1,f2,f3,f4,f5⟩:=hf it (by simp);have en:(xs.length:Int) - 1 - (i:Nat)=((xs.length - 1 - i:Nat):Int):=()
  rw[en] at st;refine wpAny_pyNext_rev_item st p'.isList (x:=u) (by simpa using hu) λh' st' sb=>?_;have I1:Inv X bH σ H {s with heap:=h'}:=I.turned (t':=s.toks) (λb o hb e=>(sb.2 b hb).trans e) f0 f1 f3 f4 f5;obtain⟨o,e,c,d⟩:=id st';have en2:((xs.length - 1 - i:Nat):Int) - 1=(xs.length:Int) - 1 - ((i+1:Nat):Int):=()
  rw[en2] at st';exact⟨u,O,zgQ (s:={s with heap:=h'}) e c d () ⟨_,H,I1,ru,⟨O,by rw[List.getElem?_reverse hi];exact hx⟩,⟨hi,st'⟩,λb hb=>(hf b hb).1⟩⟩
 done:=by
  intro X hP hw hK hc i bH s σ H E I hf st hg;subst hP hw hK;obtain⟨hq,hx⟩:=hg;obtain⟨hi,st⟩:=st;obtain⟨f0,f1,f2,f3,f4,f5⟩:=hf it (by simp);have en:(xs.length:Int) - 1 - (i:Nat)= -1:=()
  rw[en] at st;exact wpAny_pyNext_rev_end (I.ok.hd hc) st λh' eb=>⟨O,I.turned (t':=s.toks) (λb o hb e=>eb b o hb e) f0 f1 f3 f4 f5⟩
 self:=λ_ _ _ _ _ st h=>wpAny_pyIter_revIter st.2 h
section
variable {X:Cx}
def iRev (K:QA)(te:TE):TI:=fun σ H R=>te σ H λx H1=>∃(p:aE)(xs:QR),x=.ref p/\SqL K H1 p xs/\R (Itv K p xs) H1
def zsv {p pos:Pos}(hg:Gl X "reversed") (hm:X.mg "reversed" =U) (he:PE X a te) (hs:a7 [a] X.env=[(G,aZ a X.env)]:=by rfl):
  PI X tg (.Call (.Name "reversed" p) [a] [] pos) (iRev X.K te):=by
 intro bH s σ H R I h;refine bo (zcr I hg hm (show bootBuiltins "reversed" =Y (.type "reversed") from by rfl) ?_ () ());refine PyProof.Rows.callWith_type1 ?_ hs rfl;rw[hs];show aW _ _ (spliced ((G,aZ a X.env)::[])) _ _ s;refine Calls.spliced_cons (thn (he bH s σ H _ I h) λu t1 ⟨x,H1,I1,r1,p,ys,ex,hq,q⟩=>Calls.spliced_nil ?_);subst ex;cases (show u=aP p from r1);obtain⟨its,rv,pl,hz⟩:=I1.list hq;have hlen:=rv.length;refine call_reversed_list pl.isList ?_;have hri:(t1.heap.push (revObj p ((its.toArray.size:Int) - 1))).IsRevIter t1.heap.objs.size p ((ys.length:Int) - 1 - ((0:Nat):Int)):=⟨_,JL _ rfl,O,by rw[JH,<-hlen];simp[revObj]⟩;refine wpAny_pyIter_revIter (s:={t1 with heap:=t1.heap.push (revObj p ((its.toArray.size:Int) - 1))}) hri ?_;refine⟨t1.heap.objs.size,[t1.heap.objs.size],_,_,H1,O,I1.kept (t':=t1.toks) λb o e=>JE _ e,zoE p _,⟨JN _,hri⟩,λb hb=>?_,q⟩;have e:b=t1.heap.objs.size:=by simpa using hb
 subst e;exact I1.fpOk (Jb _) (I1.hok.fresh (Jb _))
def zhU {K:QA}{p:aE}{xs:QR}{g:TG}{tb:TS}{D:Ends}{σ:St}{H:Hp}(Pv:Nat->St->Hp->Prop)(h0:Pv 0 σ H)(hl:∀i σ H,Pv i σ H->SqL K H p xs)
  (hs:∀i x σ H,i < xs.length->xs.reverse[i]? =Y x->Pv i σ H->g x σ H fun σ2 H2=>tb {D with nx:=Pv (i+1),ct:=Pv (i+1),bk:=D.nx} σ2 H2) (hd:∀σ H,Pv xs.length σ H->D.nx σ H):
  xFor g tb D (Itv K p xs) σ H:=by
 refine⟨λi m σ H=>m=xs.length - i/\i<=xs.length/\Pv i σ H,⟨B,JN _,h0⟩,?_⟩;rintro i m σ H ⟨rfl,hi,p⟩;have q:=hl i σ H p;by_cases hlt:i < xs.length
 ·refine .inr ⟨⟨q,hlt⟩,Pv (i+1),fun σ' H' p'=>⟨_,(),O,hlt,p'⟩,λx H' y=>?_⟩;obtain⟨rfl,e1⟩:=y;exact hs i x σ _ hlt e1 p
 ·have e:i=xs.length:=()
  subst e;exact .inl ⟨⟨q,Jb _⟩,hd σ H p⟩
end
end L2
namespace L2
open PySem PySem.Spec PyProof.Rows
def Ite (K:QA)(p:aE)(xs:QR):It:=
 ⟨λn H=>SqL K H p xs/\n < xs.length,λn H v H'=>∃(T:aE)(x:V),H T=U/\xs[n]? =Y x/\v=.ref T/\H'=upd H T (.tup [.int n,x]),λn H=>SqL K H p xs/\xs.length<=n⟩
def zl5 {P:aG}{w:aH}{K:QA}{elts:List aX}{x1:Nat}{tpos:Pos}{e i p:aE}{xs:QR}(D:e≠i):
  Turn P w K (.Tuple elts x1 tpos) (Ite K p xs) [e,i] e (λn h=>(∃old,IsEnum h e i (n:Int) old)/\h.IsListIter i p n) where
 mem:=by simp
 obj:=λn h st b hb=>by
  obtain⟨⟨old,he⟩,⟨r1,e1,_,d1⟩⟩:=st;simp only[JJ,JR,or_false] at hb;rcases hb with rfl | rfl
  ·exact⟨_,he,λv z=>by cases z⟩
  ·exact⟨_,e1,λv z=>by rw[d1] at z;cases z⟩
 keep:=λn h h' st kp=>by obtain⟨⟨old,he⟩,⟨r1,e1,x1⟩⟩:=st;exact⟨⟨old,kp e (by simp) _ he⟩,⟨r1,kp i (by simp) _ e1,x1⟩⟩
 item:=by
  intro X hP hw hK hc n bH s σ H E I hf st hg;subst hP hw hK;obtain⟨hp,hn⟩:=hg;obtain⟨⟨old,he⟩,hi⟩:=st;obtain⟨its,r1,T1,z1⟩:=I.list hp;have hx:xs[n]? =Y xs[n]:=JD hn;obtain⟨v1,e1,q1⟩:=r1.get hx;have fe:=hf e (by simp);have fi:=hf i (by simp);refine wpAny_pyNext_enum_item he hi T1.isList (x:=v1) (by simpa using e1) D λg eo ig new sz up=>?_;have hT:H s.heap.objs.size=U:=I.hok.fresh (Jb _);have inch:∀{b:aE},H b≠U->b≠e/\b≠i:=λ{b} h=>⟨λz=>h (by rw[z];exact fe.1),λz=>h (by rw[z];exact fi.1)⟩;have hok:HOk X.prog X.w (upd H s.heap.objs.size (.tup [.int n,xs[n]])) g:=λb u e=>by
   by_cases hb:b=s.heap.objs.size
   ·subst hb;rw[za] at e;cases e;refine⟨⟨by simp only[JM,Nn];rw[sizeLine_eq];decide,_,new,O⟩,[.int n s.toks,v1],.cons ⟨B⟩ (.cons q1 .nil),⟨_,new,O,B⟩⟩
   ·rw[zd hb] at e;refine(I.hok b u e).stay (λc r hc q=>?_) (λc q=>by rw[zd (zf q hT)];exact q) λc ys q=>by rw[zd (zf q hT)];exact q
    have hne:H c≠U:=by
     rcases hc with rfl | hc
     ·rw[e];intro z;cases z
     ·rw[hc];intro z;cases z
    obtain⟨c1,c2⟩:=inch hne;exact up c r c1 c2 q
  have I1:Inv X bH σ (upd H s.heap.objs.size (.tup [.int n,xs[n]])) {s with heap:=g,toks:=s.toks+1}:=by
   refine I.step (g':=s.gens) (d':=s.drawn) (t':=s.toks+1) (ch:=[e,i]) (λb hb=>?_) (λb r _ _ hc e _=>?_) (λb r _ _ hc e _=>⟨r.slots,?_⟩) (λb r hc e hn=>?_) (λb r hc e=>⟨r,?_⟩) (λb ys e=>by rw[zd (zf e hT)];exact e)
    (λb r ys e=>by rw[zd (zf e hT)];exact e) (λb ps e=>⟨#[],by rw[zd (zf e hT),e];simp⟩) (λm hm=>?_) hok I.bare
   ·simp only[JJ,JR,or_false] at hb;rcases hb with rfl | rfl
    ·exact⟨fe.2.2.2.1,fe.2.1,fe.2.2.2.2.1,fe.2.2.2.2.2⟩
    ·exact⟨fi.2.2.2.1,fi.2.1,fi.2.2.2.2.1,fi.2.2.2.2.2⟩
   ·simp only[JJ,JR,or_false,not_or] at hc;exact up b r hc.1 hc.2 e
   ·simp only[JJ,JR,or_false,not_or] at hc;exact up b r hc.1 hc.2 e
   ·rw[zd (Jl (JK e))];exact hn
   ·simp only[JJ,JR,or_false,not_or] at hc;exact up b r hc.1 hc.2 e
   ·obtain⟨r,es,ep,er,d⟩:=hm;exact⟨r,es,ep,up _ r (aV fe.2.1) (aV fi.2.1) er,d⟩
  have le:e < s.heap.objs.size:=JK he;have hfp:∀b∈ [e,i],upd H s.heap.objs.size (.tup [.int n,xs[n]]) b=U:=λb hb=>by
   have fb:=hf b hb;have lt:b < s.heap.objs.size:=by
    obtain⟨r1,e1,_⟩:=hi;simp only[JJ,JR,or_false] at hb;rcases hb with rfl | rfl
    ·exact le
    ·exact JK e1
   rw[zd (Jl lt)];exact fb.1
  refine⟨B,wpAny_letOwnedTupleGo_enum eo λg2 e2 s2=>?_⟩;refine⟨.ref s.heap.objs.size,_,I1.turned (it:=e) (t':=s.toks+1) (λb r hb q=>s2.extBut _ _ hb q) (hfp e (by simp)) fe.2.1 fe.2.2.2.1 fe.2.2.2.2.1 fe.2.2.2.2.2,O,⟨_,_,hT,hx,O,O⟩,⟨⟨_,e2⟩,ig.extBut s2.extBut (aV D)⟩,hfp⟩
 done:=by intro X hP hw hK hc n bH s σ H E I hf st hg;subst hP hw hK;obtain⟨hp,hn⟩:=hg;obtain⟨⟨old,he⟩,hi⟩:=st;obtain⟨its,r1,T1,z1⟩:=I.list hp;have fi:=hf i (by simp);have l1:=r1.length;refine wpAny_pyNext_enum_end (I.ok.hd hc) he hi T1.isList (by simp;lia) λg up=>⟨O,?_⟩;exact I.turned (it:=i) (t':=s.toks) up fi.1 fi.2.1 fi.2.2.2.1 fi.2.2.2.2.1 fi.2.2.2.2.2
 self:=λ_ _ _ _ _ st h=>by obtain⟨⟨old,he⟩,hi⟩:=st;exact wpAny_pyIter_enum he h
section
variable {X:Cx}
def zuj (K:QA)(ta:TA):TI:=fun σ H R=>ta σ H λvs H1=>∃(p:aE)(xs:QR),vs=[.ref p]/\SqL K H1 p xs/\R (Ite K p xs) H1
def zqQ {elts:List aX}{x1:Nat}{tpos:Pos}{a:aX}{p pos:Pos}(hg:Gl X "enumerate") (hm:X.mg "enumerate" =U) (ha:PA X [a] ta) (hs:a7 [a] X.env=[(G,aZ a X.env)]:=by rfl):
  PI X (.Tuple elts x1 tpos) (.Call (.Name "enumerate" p) [a] [] pos) (zuj X.K ta):=by
 intro bH s σ H R I h;refine Call_ (zcr I hg hm (u:=.type "enumerate") (by rfl) (PyProof.Rows.callWith_type1 (thn (ha pos bH s σ H _ I h) λus s1 ⟨vs,H1,I1,r1,q1⟩=>?_) (by rw[hs];rfl) rfl));obtain⟨p1,xs,rfl,hp,q⟩:=q1;obtain⟨u,rfl,ru⟩:=Vals.one r1;cases (show u=aP _ from ru);obtain⟨its,r1,T1,z1⟩:=I1.list hp;refine call_enumerate_list T1.isList λg eg ig sz up=>wpAny_pyIter_enum eg ?_;refine⟨_,_,_,_,H1,O,I1.kept (t':=s1.toks) up,zl5 (show s1.heap.objs.size+1≠s1.heap.objs.size by lia),⟨⟨_,eg⟩,ig⟩,λb hb=>?_,q⟩;have hb':s1.heap.objs.size<=b:=by
  simp only[JJ,JR,or_false] at hb;rcases hb with rfl | rfl
  ·exact JB _ _
  ·exact Jb _
 exact I1.fpOk hb' (I1.hok.fresh hb')
def zoX {K:QA}{p:aE}{xs:QR}{g:TG}{tb:TS}{D:Ends}{σ:St}{H:Hp}(Pv:Nat->St->Hp->Prop)(h0:Pv 0 σ H)(hl:∀i σ H,Pv i σ H->SqL K H p xs)
  (hs:∀i x T σ H,xs[i]? =Y x->H T=U->Pv i σ H->g (.ref T) σ (upd H T (.tup [.int i,x])) fun σ2 H2=>tb {D with nx:=Pv (i+1),ct:=Pv (i+1),bk:=D.nx} σ2 H2) (hd:∀σ H,Pv xs.length σ H->D.nx σ H):
  xFor g tb D (Ite K p xs) σ H:=by
 refine⟨λi m σ H=>m=xs.length - i/\i<=xs.length/\Pv i σ H,⟨B,JN _,h0⟩,?_⟩;rintro i m σ H ⟨rfl,hi,p⟩;have q:=hl i σ H p;by_cases hlt:i < xs.length
 ·refine .inr ⟨⟨q,hlt⟩,Pv (i+1),fun σ' H' p'=>⟨_,(),O,hlt,p'⟩,λx H' y=>?_⟩;obtain⟨T,a,hT,e1,rfl,rfl⟩:=y;exact hs i a T σ H e1 hT p
 ·have e:i=xs.length:=()
  subst e;exact .inl ⟨⟨q,Jb _⟩,hd σ H p⟩
end
end L2
namespace Pv
open PySem L2
open Tr
def inR (a b:Th)(p:Th ×Th):Bool:=(decide (a=.non) || !zc p.1 a) && (decide (b=.non) || zc p.1 b)
def rng (a b:Th)(ps:QH):List (Th ×Th):=ps.filter (inR a b)
def zcO (a b:Th):Bool:= !decide (a=.non) && (!decide (b=.non) && !zc a b)
def zbe (a k:Th):Bool:=decide (a=.non) || zc a k
def zbf (b k:Th):Bool:=decide (b=.non) || zc k b
def Tr.ca (x:Th):Tr->Nat
 | nil=>0
 | node l k _ r=>if k=x then l.cnt else if zc k x=Z then l.cnt+1+r.ca x else l.ca x
def Abv:Tr->Prop
 | nil=>True
 | node l k _ r=>(∀p∈l.ps,zab k p.1=Z)/\(∀p∈r.ps,zab k p.1=Z)/\Abv l/\Abv r
def Tr.joinT:Tr->Tr->Tr
 | nil,R=>R
 | node l k w r,nil=>node l k w r
 | node l k w r,node l' k' w' r'=>if zab k k'=Z then node l k w (joinT r (node l' k' w' r')) else node (joinT (node l k w r) l') k' w' r'
 termination_by L R=>sizeOf L+sizeOf R
theorem zmi (L:Tr):joinT L nil=L:=by
 cases L with
 | nil=>rw[joinT]
 | node l k w r=>rw[joinT]
theorem ze9:∀(L R:Tr),(joinT L R).ps=L.ps++R.ps
 | nil,R=>by rw[joinT];rfl
 | node l k w r,nil=>by rw[joinT];exact(JS _).symm
 | node l k w r,node l' k' w' r'=>by
  rw[joinT];by_cases c:zab k k'=Z
  ·rw[av c];show l.ps++(k,w)::(joinT r (node l' k' w' r')).ps=(l.ps++(k,w)::r.ps)++_;rw[ze9 r (node l' k' w' r')];simp
  ·rw[au c];show(joinT (node l k w r) l').ps++(k',w')::r'.ps=_++(l'.ps++(k',w')::r'.ps);rw[ze9 (node l k w r) l'];simp
 termination_by L R=>sizeOf L+sizeOf R
def Tr.cutT (x:Th)(T:Tr):Tr:=
 match own x T with
 | nil=>T
 | node l _ _ r=>plug x (wl x T - 1) T (joinT l r)
def offP (ps:QH)(x:Th):List (Th ×Th):=ps.filter λp=>!eqT p.1 x
def zso {p x:Th}(h:p≠x):(!eqT p x)=Z:=by
 cases z:eqT p x with
 | true=>exact Jf ((zJ p x).mp z) h
 | false=>rfl
def zcW {ps:QH}{x:Th}(h:∀p∈ps,p.1≠x):offP ps x=ps:=List.filter_eq_self.mpr λp hp=>zso (h p hp)
def zsL {T:Tr}(hs:Srt T.ps):(cutT x T).ps=offP T.ps x:=by
 unfold cutT;cases z:own x T with
 | nil=>exact(zcW (zfi hs z)).symm
 | node l k v r=>
  obtain⟨rfl,n,ew,u,d⟩:=zbP z;show(plug k (wl k T - 1) T (joinT l r)).ps=_;rw[ew,Nat.add_sub_cancel];obtain⟨A,ai,e1,e2,e3,e4⟩:=zcC hs u;obtain⟨_,_,h3,h4⟩:=zbQ (d ▸ zcx hs);rw[e1,ze9]
  conv=>rhs;rw[e2,d]
  unfold offP;rw[NA,NA];have nA:∀p∈A,p.1≠k:=λp hp e=>by have:=e3 p hp;rw[e,zD] at this;cases this
  have nB:∀p∈ai,p.1≠k:=λp hp e=>by have:=e4 p hp;rw[e,zD] at this;cases this
  have nl:∀p∈l.ps,p.1≠k:=λp hp e=>by have:=h3 p hp;rw[e,zD] at this;cases this
  have nr:∀p∈r.ps,p.1≠k:=λp hp e=>by have:=h4 p hp;rw[e,zD] at this;cases this
  have:=zcW nA;have hA:A.filter (λp=>!eqT p.1 k)=A:=zcW nA;have hB:ai.filter (λp=>!eqT p.1 k)=ai:=zcW nB;have hl:l.ps.filter (λp=>!eqT p.1 k)=l.ps:=zcW nl;have hr:r.ps.filter (λp=>!eqT p.1 k)=r.ps:=zcW nr;rw[hA,hB];show A++(l.ps++r.ps)++ai=A++(l.ps++(k,v)::r.ps).filter (λp=>!eqT p.1 k)++ai;rw[NA,List.filter_cons,hl,hr,z9]
  rfl
end Pv
namespace L2
open PySem PySem.Spec PyProof.Rows Px
section
variable {M:Model}{A:aU}{E:QC}{s:aM}{ax:aF}{env:Env}{outer:List Env}{L e T:aE}{cls fl:aD}{od:QN}
def ztT {Q:QD}(hfr:A.frames=Y (env::outer))(hl:s.heap.FunFrames ax (env::outer))(hf:env.frame=Y L)
  (t:Tb s.heap e cls od T fl)
  (h:∀h' T',(T'=T\/s.heap.objs.size<=T')->Tb h' e cls od T' (rawInt L)->Chg2 ((env::outer).filterMap (·.frame)) (λb=>b=e\/b=T) s.heap h'->Q Unit.unit {s with heap:=h'}):
  aW M A (noteFrame (.ref e) env) Q E s:=by
 obtain⟨oe,vs,oT,ts,he,hc,ho,hd,h1,hTe,hT,hdT,h3⟩:=t;unfold noteFrame;simp only[hf];refine Ja (bv he hd h1 ?_);rw[av (show(aP T !=aO)=Z from by simp)];refine Ja (bv hT hdT h3 ?_);by_cases q:(fl==rawInt L)=Z
 ·rw[av q];rw[eq_of_beq q] at h3;exact bc (h s.heap T (.inl rfl) ⟨oe,vs,oT,ts,he,hc,ho,hd,h1,hTe,hT,hdT,h3⟩ ⟨Jb _,λ_ _ q _ _=>q,λ_ o q _ _=>⟨o.slots,q⟩⟩)
 rw[au q];refine Ja (wpAny_setField hT hdT (Nh.mp h3).1 ?_);have oth:∀b,b≠T->(s.heap.update T (bC (·.setIfInBounds 3 aO))).get? b=s.heap.get? b:=λb hb=>J1 _ _ (aV hb);have apart:∀b o,s.heap.get? b=Y o->(∀vs,o.data≠ .fields vs)->b≠T:=λb o hb hn q=>by subst q;exact hn ts (by rw[<-JP (hT.symm.trans hb)];exact hdT)
 refine entry (s:={s with heap:=s.heap.update T (bC (·.setIfInBounds 3 aO))}) hfr
  (hl.of_keeps λb o hb hn=>⟨o,(oth b (apart b o hb hn)).trans hb,O⟩) hf ((oth e (aV hTe)).trans he) hd (Nh.mp h1).1 λh' T' z1 z2 z3=>?_
 have z1':s.heap.objs.size<=T':=by rw[<-Nl s.heap T (bC (·.setIfInBounds 3 aO))];exact z1
 rw[hc,ho] at z2;have nT':∀b o,s.heap.get? b=Y o->b≠T':=λb o q1 q=>Jf (JK q1) (Nat.not_lt.mpr (q ▸ z1'));refine h h' T' (.inr z1') z2 ⟨?_,λb o q1 q2 q3=>?_,λb o q1 q2 q3=>?_⟩
 ·rw[<-Nl s.heap T (bC (·.setIfInBounds 3 aO))];exact z3.size
 ·exact z3.keep b o ((oth b λy=>q3 (.inr y)).trans q1) q2 (λy=>q3 (.inl y)) (nT' b o q1)
 ·exact z3.slot b o ((oth b λy=>q3 (.inr y)).trans q1) q2 (λy=>q3 (.inl y)) (nT' b o q1)
def zsY {Q:QD}(hfr:A.frames=Y (env::outer))(hl:s.heap.FunFrames ax (env::outer))(hf:env.frame=Y L)
  (t:Tb s.heap e cls od T fl)
  (h:∀h' T',(T'=T\/s.heap.objs.size<=T')->Tb h' e cls od T' .none->Chg2 ((env::outer).filterMap (·.frame)) (λb=>b=e\/b=T) s.heap h'->Q Unit.unit {s with heap:=h'}):
  aW M A (leaving env (.ref e)) Q E s:=by
 unfold leaving;refine Ja (ztT hfr hl hf t λg T' z t1 c=>?_);refine zfv (s:={s with heap:=g}) (fs:=(env::outer).filterMap (·.frame)) t1 λh' t' c' k=>h h' T' z t' ?_;have bT:∀b o,s.heap.get? b=Y o->¬(b=e\/b=T)->b≠T':=λb o q m y=>by
  rcases z with z | z
  ·exact m (.inr (y.trans z))
  ·subst y;rw[JW z] at q;cases q
 refine⟨Jg c.size c'.size,λb o q a m=>?_,λb o q a m=>?_⟩
 ·exact k b o (c.keep b o q a m) (bT b o q m)
 ·obtain⟨sl,y⟩:=c.slot b o q a m;exact⟨sl,k b _ y (bT b o q m)⟩
def zqf {α:Type}{Q:α->aM->Prop}(t:Tb s.heap e cls od T fl)
  (h:∀h' fl',Tb h' e cls od T fl'->s.heap.objs.size<=h'.objs.size->(∀b o,s.heap.get? b=Y o->b≠T->h'.get? b=Y o)->E (.ref e) {s with heap:=h'}):aW M A (passOn what (.ref e) env:Sem α) Q E s:=by
 obtain⟨oe,vs,oT,ts,he,hc,ho,hd,h1,hTe,hT,hdT,h3⟩:=t;have z3:3 < ts.size:=(Nh.mp h3).1;unfold PySem.passOn;refine Ja (bv he hd h1 ?_);rw[au (show¬(aP T==aO)=Z from by simp)];refine Ja ?_;unfold setFlight;refine Ja (bv he hd h1 ?_);rw[av (show(aP T !=aO)=Z from by simp)];generalize env.frame.elim aO (λf=>rawInt f)=fl';have oth:∀b,b≠T->(s.heap.update T (bC (·.setIfInBounds 3 fl'))).get? b=s.heap.get? b:=λb hb=>J1 _ _ (aV hb);have dd:=Obj.data_mapFields hdT (·.setIfInBounds 3 fl');refine wpAny_setField hT hdT z3 (wpAny_throw (h _ fl' ⟨oe,vs,_,_,(oth e (aV hTe)).trans he,hc,ho,hd,h1,hTe,JZ _ hT (Obj.isFreed_of_fields dd),dd,by simp[z3]⟩ ?_ λb o q1 q4=>(oth b q4).trans q1));rw[Nl];exact Jb _
end
def Un.chgE (u:Un fs ex H H' h h')(c:Chg2 fs' own h' h2)(hfs:∀b ob,h.get? b=Y ob->b∈fs'->b∈fs)
  (nw:∀b,own b->b∈ex\/h.get? b=U\/(H b≠U/\∃o',h2.get? b=Y o')):Un fs ex H H' h h2:=by
 have no:∀b ob,h.get? b=Y ob->H b=U->b∉ex->¬own b:=λb ob q n x z=>by
  rcases nw b z with y | y | y
  ·exact x y
  ·rw[y] at q;cases q
  ·exact y.1 n
 refine⟨λb ob q n hb hx=>c.keep b ob (u.keep b ob q n hb hx) (λz=>hb (hfs b ob q z)) (no b ob q n hx),λb ob q n hb hx=>?_,u.free,λb ob q hx=>?_,u.ay,u.frzs,u.tbls⟩
 ·obtain⟨sl,e⟩:=u.slot b ob q n hb hx;by_cases z:b∈fs'
  ·obtain⟨s2,e2⟩:=c.slot b _ e z (no b ob q n hx);exact⟨s2,e2⟩
  ·exact⟨sl,c.keep b _ e z (no b ob q n hx)⟩
 ·obtain⟨o',e⟩:=u.there b ob q hx;by_cases y:own b
  ·rcases nw b y with z | z | z
   ·exact Jf z hx
   ·rw[z] at q;cases q
   ·exact z.2
  ·by_cases z:b∈fs'
   ·obtain⟨s2,e2⟩:=c.slot b _ e z y;exact⟨_,e2⟩
   ·exact⟨_,c.keep b _ e z y⟩
def zdC (X:Cx)(E:XK):Prop:=∀(bH:QE)(σ:St)(H:Hp)(s:aM)(ea:aE)(cls:aD)(od:QN)(T:aE)(fl:aD),Inv X bH σ H s->Tb s.heap ea cls od T fl->(X.s₀.heap.get? ea=U\/X.H₀ ea≠U)->X.s₀.heap.get? T=U->H ea=U->H T=U->E cls od H->X.xe (.ref ea) s
section
variable {P:aG}{w:aH}{K:QA}{mg:QB}{ax:aF}{N:QQ}{qual:Str}{scope:Scope}{f:aE}{cd:aD}{A:aU}{outer:List Env}{s₀:aM}{H₀:Hp}{E:XK}
def zof:zdC (cxOf (CX1 P w) P w K mg ax N qual scope f cd A outer s₀ H₀ E) E:=by
 intro bH σ H s ea cls od T fl I tb old nT u1 u2 q;show aW (aY P w) (A.deeper _) (leaving _ (.ref ea)) _ _ s;refine zsY (ax:=ax) I.ok.frames I.stack rfl tb λh' T' z tb' c=>?_;have te:∃o',h'.get? ea=Y o':=let ⟨oe,_,_,_,y,_⟩:=tb';⟨oe,y⟩;have nT':s₀.heap.get? T'=U:=by
  rcases z with z | z
  ·rw[z];exact nT
  ·exact zal I.ax (by intro z;cases z) (JW z)
 refine⟨ea,cls,od,H,T',O,I.os,I.bare,?_,?_,tb',old,nT',u1,?_,q⟩
 ·refine I.ax.chg (fs':=frs (envOfC qual scope s₀.heap.objs.size f cd::outer)) c (λb ob q1 q2=>?_) λb y=>?_
  ·have lt:=JK q1;rcases JJ.mp (I.stkSub b q2) with y | y
   ·exact Jf lt (by rw[y];exact Nat.not_lt.mpr (Jb _))
   ·exact y
  ·rcases y with y | y
   ·subst y;rcases old with y | y
    ·exact .inl y
    ·exact .inr ⟨y,te⟩
   ·subst y;exact .inl nT
 ·refine I.hok.chg c (λb y=>?_) I.stkFree;rcases y with y | y
  ·rw[y];exact u1
  ·rw[y];exact u2
 ·rcases z with z | z
  ·rw[z];exact u2
  ·exact I.hok.fresh z
end
def xeC (E:XK)(X:Cx)(N:QQ)(scope:Scope)(cl:List (Str ×aE))(s₀:aM)(H₀:Hp)(ex:QP):aD->aM->Prop:=λe s=>
 ∃(bH:QE)(σ:St)(H:Hp)(ea:aE)(cls:aD)(od:QN)(T:aE),e=.ref ea/\Inv (cxC X N scope cl s₀ H₀ ex) bH σ H s/\Tb s.heap ea cls od T .none/\(ea∉ex->s₀.heap.get? ea=U\/H₀ ea≠U)/\
  (T∉ex->s₀.heap.get? T=U)/\H ea=U/\H T=U/\E cls od H
abbrev cxE (E:XK)(X:Cx)(N:QQ)(scope:Scope)(cl:List (Str ×aE))(s₀:aM)(H₀:Hp)(ex:QP):Cx:=(cxC X N scope cl s₀ H₀ ex).wish (xeC E X N scope cl s₀ H₀ ex)
def zrH {X:Cx}:zay (CX1 X.prog X.w) (cxE E X N scope cl s₀ H₀ ex) E:=by
 intro bH σ H s e s' I0 hc;obtain⟨ea,cls,od,H',T,rfl,os,bare,un,hok,tb,old,nT,u1,u2,q⟩:=hc;have I:=I0.call' os un hok bare (λb z=>nomatch z);refine⟨bH,σ,H',ea,cls,od,T,O,I.unwish,tb,λhx=>?_,λhx=>zal I0.ax hx nT,u1,u2,q⟩;cases q1:s₀.heap.get? ea with
 | none=>exact .inl rfl
 | some ob=>
  refine .inr λn=>?_;rcases old with y | y
  ·have y':s₀.heap.get? ea=U:=zal I0.ax hx y;rw[y'] at q1;cases q1
  ·exact y (I0.ax.free ea ob q1 n hx)
def zrI (X:Cx)(H2:Hp)(s2:aM)(fp:QP)(E:XK)(C ea:aE)(s':aM):Prop:=∃(H':Hp)(cls:aD)(od:QN)(T:aE)(fl:aD)(m:QB),s2.heap.objs.size<=C/\s'.heap.Ns C m/\H' C=U/\s'.os=s2.os/\AllBare s'.gens/\
 Un (frs X.stack) fp H2 H' s2.heap s'.heap/\HOk X.prog X.w H' s'.heap/\Tb s'.heap ea cls od T fl/\(X.s₀.heap.get? ea=U\/X.H₀ ea≠U)/\s2.heap.objs.size<=T/\H' ea=U/\H' T=U/\(∀b∈frs X.stack,H' b=U)/\E cls od H'
section
variable {X:Cx}{x:Str}{ys:QQ}{js:List Nat}{scope:Scope}{cl:List (Str ×aE)}{bH:QE}{σ:St}{H:Hp}{s:aM}{E:XK}
def zqu {fp:QP}(hN:zdC X E)(I2:Inv X bH σ H2 s2)(f2:∀b∈fp,FpOk X bH H2 b)(h:zrI X H2 s2 fp E C ea s'):
  compPost (aY X.prog X.w) X.A X.xe use Q acc C (.error (.ref ea)) s':=by
 obtain⟨H',cls,od,T,fl,m,hC,hn,fC,os,bare,af,hok,tb,old,hT,u1,u2,fr,q⟩:=h
 suffices g:∃m,s'.heap.Ns C m/\∀h',Heap.SameBut C s'.heap h'->∀cenv:Env,cenv.locals=C->aW (aY X.prog X.w) X.A (passOn "comprehension.variables-let-go" (.ref ea) cenv:Sem aD) (λ_ _=>False) X.xe {s' with heap:=h'} by cases use <;> exact g
 refine⟨m,hn,λh' hb cenv _=>?_⟩;obtain⟨oC,es,ep,ho,hd,_⟩:=hn;obtain⟨oe,vs,oT,ts,he,hc,hod,hde,h1,hTe,gT,hdT,h3⟩:=tb;have nC:∀{b:aE}{o:Obj}{vs:Array aD},s'.heap.get? b=Y o->o.data=.fields vs->b≠C:=λ{b o vs} q1 q2 z=>by subst z;rw[ho] at q1;cases q1;rw[hd] at q2;cases q2
 have tb':Tb h' ea cls od T fl:=⟨oe,vs,oT,ts,hb.extBut _ _ (nC he hde) he,hc,hod,hde,h1,hTe,hb.extBut _ _ (nC gT hdT) gT,hdT,h3⟩;refine zqf (s:={s' with heap:=h'}) tb' λh4 fl' t4 z4 k4=>?_;have c:Chg2 (frs X.stack) (λb=>b=C\/b=T) s'.heap h4:=
  ⟨Jg (Nat.le_of_eq hb.1.symm) z4,λb o q _ n=>k4 b o (hb.extBut b o (λy=>n (.inl y)) q) λy=>n (.inr y),λb o q _ n=>⟨o.slots,k4 b o (hb.extBut b o (λy=>n (.inl y)) q) λy=>n (.inr y)⟩⟩
 have U':Un (frs X.stack) fp H2 H' s2.heap h4:=af.chgE c (λ_ _ _ y=>y) λb y=>.inr (.inl (by
  rcases y with y | y
  ·rw[y];exact JW hC
  ·rw[y];exact JW hT))
 have ae:HOk X.prog X.w H' h4:=hok.chg c (λb y=>by
  rcases y with y | y
  ·rw[y];exact fC
  ·rw[y];exact u2) fr
 have I4:Inv X bH σ H' {s' with heap:=h4}:=I2.call' (s':={s' with heap:=h4}) os U' ae bare λb hb=>⟨(f2 b hb).2.2.2.1,(f2 b hb).2.1,(f2 b hb).2.2.2.2.1,(f2 b hb).2.2.2.2.2⟩;exact hN bH σ H' _ ea cls od T fl' I4 t4 old (JW (Jg I2.sz hT)) u1 u2 q
def znK {fp:QP}{s' s3:aM}{R:Result->aM->Prop}(hst:X.stack=X.env::X.outer)(hfm:X.env.frame=Y X.env.locals)(hex:X.ex=[])
  (I2:Inv X bH σ H2 s2) (f2:∀b∈fp,FpOk X bH H2 b) (o3:s3.os=s2.os) (U0:Un (frs X.stack) fp H2 (upd H2 p (.lst [])) s2.heap s3.heap) (hp:s2.heap.objs.size<=p) (k3:∀b o,s2.heap.get? b=Y o->s3.heap.get? b=Y o) (z3:s2.heap.objs.size<=s3.heap.objs.size)
  (h:xeC E X N scope cl s3 (upd H2 p (.lst [])) fp e s') (hR:∀ea s'',zrI X H2 s2 fp E s3.heap.objs.size ea s''->R (.error (.ref ea)) s''):
  notedBy (aY X.prog X.w) X.A (compEnvC scope cl s3.heap.objs.size X.env) (λe s'=>R (.error e) s') e s':=by
 obtain⟨pins',σ',H',ea,cls,od,T,rfl,J,tb,old,nT,u1,u2,q⟩:=h;have I':Inv X bH σ H' s':=zjc I2 f2 U0 o3 J;show aW _ X.A (noteFrame (.ref ea) X.env) _ _ s';refine znR (ax:=X.ax) (by rw[<-hst];exact I'.ok.frames) (by rw[<-hst];exact I'.stack) hfm tb λh4 T' z t4 c=>?_;rw[show(X.env::X.outer).filterMap (·.frame)=frs X.stack from by rw[hst];rfl] at c;have U1:Un (frs X.stack) fp (upd H2 p (.lst [])) H' s3.heap s'.heap:=J.ax;have af:Un (frs X.stack) fp H2 H' s2.heap s'.heap:=U0.trans U1;have sz:s2.heap.objs.size<=s'.heap.objs.size:=Jg z3 J.sz;have te:∃o',h4.get? ea=Y o':=let ⟨oe,_,_,_,y,_⟩:=t4;⟨oe,y⟩;have old2:ea∈fp\/s2.heap.get? ea=U\/H2 ea≠U:=by
  by_cases hx:ea∈fp
  ·exact .inl hx
  ·refine .inr ?_;rcases old hx with y | y
   ·refine .inl ?_;cases q1:s2.heap.get? ea with
    | none=>rfl
    | some o=>rw[k3 _ _ q1] at y;cases y
   ·by_cases he:ea=p
    ·rw[he];exact .inl (JW hp)
    ·rw[zd he] at y;exact .inr y
 have nT2:T∈fp\/s2.heap.get? T=U:=by
  by_cases hx:T∈fp
  ·exact .inl hx
  ·refine .inr ?_;cases q1:s2.heap.get? T with
   | none=>rfl
   | some o=>have y:=nT hx;rw[k3 _ _ q1] at y;cases y
 have old0:X.s₀.heap.get? ea=U\/X.H₀ ea≠U:=by
  cases q1:X.s₀.heap.get? ea with
  | none=>exact .inl rfl
  | some ob=>
   have nx:∀{b},b∉X.ex:=by rw[hex];intro b y;cases y
   refine .inr λn=>?_;rcases old2 with y | y | y
   ·rcases(f2 ea y).2.2.2.1 with w | w
    ·exact nx w
    ·exact Jf (JK q1) (Nat.not_lt.mpr w)
   ·rw[zal I2.ax nx y] at q1;cases q1
   ·exact y (I2.ax.free ea ob q1 n nx)
 obtain⟨m,⟨oC,es,ep,ho,hd,r⟩,_⟩:=J.loc;have hC:s2.heap.objs.size<=s3.heap.objs.size:=z3;have nfr:s3.heap.objs.size∉frs X.stack:=λy=>by
  rcases JJ.mp (I2.stkSub _ y) with w | w
  ·exact Jf I2.lt (Nat.not_lt.mpr (w ▸ hC))
  ·exact I2.nofs hC w
 have nE:s3.heap.objs.size≠ea:=λy=>by obtain⟨oe,vs,_,_,he,_,_,hde,_⟩:=tb;have e':=ho.symm.trans (show s'.heap.get? s3.heap.objs.size=Y oe from by rw[y];exact he);cases e';rw[hd] at hde;cases hde
 have nTC:s3.heap.objs.size≠T:=λy=>by obtain⟨oe,vs,oT,ts,_,_,_,_,_,_,gT,hdT,_⟩:=tb;have e':=ho.symm.trans (show s'.heap.get? s3.heap.objs.size=Y oT from by rw[y];exact gT);cases e';rw[hd] at hdT;cases hdT
 have c2:Chg2 (frs X.stack) (λb=>b=ea\/b=T) s'.heap h4:=c.two (.inl rfl) (.inl (.inr rfl));refine hR ea _ ⟨H',cls,od,T',_,m,hC,⟨oC,es,ep,c.keep _ _ ho nfr nE nTC,hd,r⟩,J.free,J.os.trans o3,J.bare,?_,?_,t4,old0,Jg sz z,u1,J.hok.fresh z,I'.stkFree,q⟩
 ·refine af.chgE c2 (λ_ _ _ y=>y) λb y=>?_;rcases y with y | y
  ·subst y;rcases old2 with w | w | w
   ·exact .inl w
   ·exact .inr (.inl w)
   ·exact .inr (.inr ⟨w,te⟩)
  ·subst y;rcases nT2 with w | w
   ·exact .inl w
   ·exact .inr (.inl w)
 ·refine J.hok.chg c2 (λb y=>?_) I'.stkFree;rcases y with y | y
  ·rw[y];exact u1
  ·rw[y];exact u2
variable {iter elt:aX}{ifs:List aX}{px pos:Pos}{wi:TI}{tt:TT}{te:TE}
def zsG {zs:QQ}{Cw:It->aE->St->Hp->VK->Prop}(hC:∀J p σ H1 Q,Cw J p σ H1 Q->zoi zs.length g J p σ js tt te H1 Q)(hst:X.stack=X.env::X.outer)(hfm:X.env.frame=Y X.env.locals)(hex:X.ex=[])(hN:zdC X E)(S:zo X x ys js scope cl)(hc:X.calm=Z)(ah:∀s₀ H₀ ex,PG (cxC X (zs++ys) scope cl s₀ H₀ ex) tg g)(ht:∀s₀ H₀ ex,PTs (cxC X (zs++ys) scope cl s₀ H₀ ex) ifs tt)(he:∀s₀ H₀ ex,PE (cxE E X (zs++ys) scope cl s₀ H₀ ex) elt te):CRun X tg Cw iter elt ifs scope cl pos:=
 λI2 T st2 f2 _ q _ _ hR=>zhg (W:=λs₀ H₀ ex=>xeC E X (zs++ys) scope cl s₀ H₀ ex) S hc ah ht he I2 T st2 f2 (λp hp=>hC _ _ _ _ _ (q p hp)) hR λ_ _ e'=>
  znK hst hfm hex I2 f2 (by rfl) (Un.laid (λb u e=>JE _ e) (Jb _) (I2.hok.fresh (Jb _))) (Jb _) (λb o q=>JE _ q) (by rw[Ng];exact Nat.le_succ _) e' λea s'' h=>zqu hN I2 f2 h
def zt8 (hst:X.stack=X.env::X.outer)(hfm:X.env.frame=Y X.env.locals)(hex:X.ex=[])(hN:zdC X E)(S:zo X x ys js scope cl)(hc:X.calm=Z)(ht:∀s₀ H₀ ex,PTs (cxC X (x::ys) scope cl s₀ H₀ ex) ifs tt)(he:∀s₀ H₀ ex,PE (cxE E X (x::ys) scope cl s₀ H₀ ex) elt te):CRun X (.Name x px) (λJ p σ H1 Q=>zeX J p σ js tt te H1 Q) iter elt ifs scope cl pos:=
 zsG (zs:=[x]) (λ_ _ _ _ _ h=>zeX.g h) hst hfm hex hN S hc (λ_ _ _=>tgN S) ht he
def zml (hst:X.stack=X.env::X.outer)(hfm:X.env.frame=Y X.env.locals)(hex:X.ex=[])(hN:zdC X E)(S:zo X x ys js scope cl)(hc:X.calm=Z)(hi:PI X (.Name x px) iter wi)(ht:∀s₀ H₀ ex,PTs (cxC X (x::ys) scope cl s₀ H₀ ex) ifs tt)(he:∀s₀ H₀ ex,PE (cxE E X (x::ys) scope cl s₀ H₀ ex) elt te)
  (hs:∀x,foldedSetIterable iter X.env x=pure x:=by intro _;rfl):PE X (.ListComp elt [⟨.Name x px,iter,ifs,0⟩] scope pos) (zlx wi js tt te):=
 zhj (zt8 hst hfm hex hN S hc ht he) S hi hs
end
end L2
namespace L2
open PySem PySem.Spec PyProof.Rows
section
variable {X:Cx}
end
end L2
namespace Px
open PySem PySem.W PySem.Builtin
section
variable {prog:aG}{w:aH}{A:aU}{E:QC}{s:aM}{K:Frag}{x D:aE}{ox:Obj}{od:Option Obj}
def zm0 {Q:Option aD->aM->Prop}(X:K.In s.heap)(I:InstAt s.heap x ox D od)(hp:zcJ K D=Z)(he:findIn K (.ref D) "__eq__" =Y (Y (.builtin "object.__eq__")))
  (h:Q (Y (.bool Z)) s):aW (aY prog w) A (callSpecialIfBound? (.ref x) "__eq__" [.ref x]) Q E s:=by
 have isO:=zhG (M:=aY prog w) (T:= "object") X I hp ();obtain⟨hp',g,d,t,os⟩:=s;have L1:=looks_findIn (M:=aY prog w) X he;have S:=F.cmp_object.eq;have sp:∀{Q:Option aD->aM->Prop},Q (Y (.builtin "object.__eq__")) ⟨hp',g,d,t,os⟩->aW (aY prog w) A (specialOf (.ref x) "__eq__") Q E ⟨hp',g,d,t,os⟩:=λ{Q} q=>by
  unfold specialOf
  repeat (first | (with_reducible refine wpAny_loadPart_at I.at_ ?_;rw[I.cls]) | with_reducible refine L1.at ?_ | wp_step)
  exact q
 simp only[callSpecialIfBound?,bindSpecialIfBound?];refine bb (Ja (Ja (sp ?_)));simp only[S.bind];have cl:aW (aY prog w) A (call (.builtin "object.__eq__") [.ref x,.ref x]) (λv=>Q (Y v)) E ⟨hp',g,d,t,os⟩:=
  wpAny_call (codeAny_call_builtin S.plain F.cmpEntry_eq (check_slot F.cmpKind_eq F.cmpSplit_eq isO (F.cmpArgs_eq _ _) (objEq_entry_same h)))
 have fin:aW (aY prog w) A (call (.builtin "object.__eq__") ([.ref x]++ [.ref x]) >>=λv=>pure (Y v)) Q E ⟨hp',g,d,t,os⟩:=
  Ja (a8 cl (λv s' h'=>bc h') λ_ _ h'=>h')
 refine Ja (wpAny_askSetting (wpAny_ite ?_));split
 ·exact Ja (bc (bc fin))
 ·exact wpAny_tryCatch (Ja (bc (bc fin)))
def znW {Q:QC}(X:K.In s.heap)(I:InstAt s.heap x ox D od)(hp:zcJ K D=Z)(he:findIn K (.ref D) "__eq__" =Y (Y (.builtin "object.__eq__"))) (hu:A.units < bn)
  (h:Q (.bool Z) s):aW (aY prog w) A (richCompare .Eq (.ref x) (.ref x)) Q E s:=by
 have tc:∀{Q:Option aD->aM->Prop},Q (Y (.bool Z)) s->aW (aY prog w) A (tryCompare (.ref x) "__eq__" (.ref x)) Q E s:=λ{Q} q=>by simp only[tryCompare];exact Ja (zm0 X I hp he (bc q))
 obtain⟨hp',g,d,t,os⟩:=s;have rf:∀{α:Type}{k:Bool->Sem α}{Q:α->aM->Prop},aW (aY prog w) A (k G) Q E ⟨hp',g,d,t,os⟩->aW (aY prog w) A (if aP D !=aP D then isSubtype (.ref D) (.ref D) >>=k else pure G >>=k) Q E ⟨hp',g,d,t,os⟩:=λ{α k Q} q=>by rw[au (by simp)];exact Ja (bc q)
 simp only[richCompare,cmpInfo_Eq,oneThing_ref]
 repeat (first | with_reducible refine wpAny_cRoomFor hu ?_ | (with_reducible refine wpAny_loadPart_at I.at_ ?_;rw[I.cls]) | with_reducible refine rf ?_ | with_reducible refine tc ?_ | wp_step)
 exact h
end
end Px
namespace L2
open PySem PySem.Spec PyProof.Rows Px
section
variable {X:Cx}
def zuW (hr:Room k X.A):OpR X (a9 .Eq) (λx y H Q=>∃a C,x=.ref a/\y=.ref a/\H a=Y (exO a C U Z)/\zha X.K C/\bd X.K (.ref C) "__eq__" =Y (Y (.builtin "object.__eq__"))/\Q (.bl Z) H):=by intro bH s σ H x y v w Q I rx ry h;obtain⟨a,C,rfl,rfl,e,kd,he,q⟩:=h;cases (show v=aP a from rx);cases (show w=aP a from ry);have hu:=hr.units;obtain⟨vs,sl,ge,_⟩:=zbq I.hok e;exact znW (od:=U) I.kIn ⟨ge,O,O,trivial⟩ kd.cl.ov he () ⟨.bl _,H,I,O,q⟩
def zo3 (hr:Room k X.A):OpR X (a9 .Eq) (λx y H Q=>∃a b xs,x=.ref a/\y=.ref b/\SqL X.K H a xs/\SqL X.K H b []/\Q (.bl (xs.isEmpty)) H):=by
 intro bH s σ H x y v w Q I rx ry h;obtain⟨a,b,xs,rfl,rfl,e,e',q⟩:=h;cases (show v=aP a from rx);cases (show w=aP b from ry);have hu:=hr.units;obtain⟨its,r1,T1,_⟩:=I.list e;obtain⟨jts,r2,T2,_⟩:=I.list e';have n1:=r1.length;have n2:=r2.length;cases xs with
 | nil=>
  have z1:its=[]:=by cases its with | nil=>rfl | cons=>simp at n1
  have z2:jts=[]:=by cases jts with | nil=>rfl | cons=>simp at n2
  subst z1 z2;exact(PySem.SeqAt.RcAt.lists (e:=λ_=>Z) T1.isList T2.isList rfl () (λj h1=>Jf h1 (Jv _))) _ _ _ _ ⟨.bl _,H,I,O,q⟩
 | cons c xs=>
  have z2:jts=[]:=by cases jts with | nil=>rfl | cons=>simp at n2
  subst z2;have hsz:(its.toArray.size != (#[]:Array aD).size)=Z:=by rw[JH,bne_iff_ne,<-n1,JM];exact Nat.succ_ne_zero _
  exact(PySem.SeqAt.RcAt.lists_lengths T1.isList T2.isList hsz ()) _ _ _ _ ⟨.bl _,H,I,O,q⟩
end
end L2
namespace Pv
open PySem L2
inductive Ob where
 | non | bl (b:Bool) | int (i:Int) | str (x:Str) | tup (ts:List Ob) | odd (k:Nat)
inductive RepO (CN:aE)(H:Hp):Ob->V->Prop where
 | non:RepO CN H .non .non
 | bl (b:Bool):RepO CN H (.bl b) (.bl b)
 | int (i:Int):RepO CN H (.int i) (.int i)
 | str (x:Str):RepO CN H (.str x) (.str x)
 | tup {a:aE} {xs:QR} {ts:List Ob} (e:H a=Y (.tup xs)) (l:xs.length=ts.length) (h:∀(i:Nat)(x:V)(t:Ob),xs[i]? =Y x->ts[i]? =Y t->RepO CN H t x):RepO CN H (.tup ts) (.ref a)
 | lst {a:aE} {xs:QR} (e:H a=Y (.lst xs)):RepO CN H (.odd 0) (.ref a)
 | dic {a:aE} {kvs:QG} (e:H a=Y (.dK kvs)):RepO CN H (.odd 1) (.ref a)
 | exc {a:aE} (e:H a=Y (exO a CN U Z)):RepO CN H (.odd 2) (.ref a)
def Kept (H H':Hp):Prop:=∀b o,H b=Y o->H' b=Y o\/∃xs ys,o=.lst xs/\H' b=Y (.lst ys)
theorem Kept.of (s:Same H H'):Kept H H':=λb o e=>.inl (s b o e)
def Kept.other (k:Kept H H'){b:aE}{o:HO}(n:∀xs,o≠ .lst xs)(e:H b=Y o):H' b=Y o:=by
 rcases k b o e with h | ⟨xs,_,h,_⟩
 ·exact h
 ·exact Jf h (n xs)
theorem RepO.keep (r:RepO CN H t v)(k:Kept H H'):RepO CN H' t v:=by
 induction r with
 | non=>exact .non
 | bl b=>exact .bl b
 | int i=>exact .int i
 | str x=>exact .str x
 | tup e l h ih=>exact .tup (k.other (by intro xs z;cases z) e) l ih
 | lst e=>
  rcases k _ _ e with h | ⟨_,ys,_,h⟩
  ·exact .lst h
  ·exact .lst h
 | dic e=>exact .dic (k.other (by intro xs z;cases z) e)
 | exc e=>exact .exc (k.other (by intro xs z;cases z) e)
mutual
def ofT:Th->Ob
 | .non=>.non
 | .int i=>.int i
 | .str x=>.str x
 | .tup ts=>.tup (ofL ts)
def ofL:List Th->List Ob
 | []=>[]
 | t::r=>ofT t::ofL r
end
theorem zec:∀ts:List Th,(ofL ts).length=ts.length
 | []=>rfl
 | _::r=>by show(ofL r).length+1=_;rw[zec r];rfl
theorem zlU:∀(ts:List Th)(i:Nat),(ofL ts)[i]? =ts[i]?.map ofT
 | [],i=>by simp[ofL]
 | t::r,0=>rfl
 | t::r,i+1=>by show(ofL r)[i]? =_;rw[zlU r i];simp
def Rep.toO (r:Rep H t v):RepO CN H (ofT t) v:=by
 induction r with
 | non=>exact .non
 | int i=>exact .int i
 | str x=>exact .str x
 | tup e l h ih=>refine RepO.tup e (by rw[zec];exact l) λi x t e1 e2=>?_;rw[zlU] at e2;obtain⟨u,e3,rfl⟩:=Option.map_eq_some_iff.mp e2;exact ih i x u e1 e3
mutual
def zfC:Ob->Nat
 | .tup ts=>zaG ts+1
 | _=>0
def zaG:List Ob->Nat
 | []=>0
 | t::r=>max (zfC t) (zaG r)
end
mutual
def OkO:Ob->Prop
 | .str x=>x.length<=900/\∀c∈x.cps.toList,c≠37
 | .tup ts=>ts.length<=900/\OkOL ts
 | _=>True
def OkOL:List Ob->Prop
 | []=>True
 | t::r=>OkO t/\OkOL r
end
def zbo (c:Nat):Bool:=decide (32<=c) && decide (c<=126) && !decide (c=37)
def absB (i:Int):Bool:=decide ((if i < 0 then -i else i)<=(10:Int) ^ (30:Int).toNat)
mutual
def within:Ob->Nat->Bool
 | .non,_=>Z
 | .bl _,_=>G
 | .int i,_=>absB i
 | .str x,_=>decide (x.length<=60) && x.cps.toList.all zbo
 | .tup ts,d=>match d with | 0=>G | d+1=>decide (ts.length<=40) && zF ts d
 | .odd _,_=>G
def zF:List Ob->Nat->Bool
 | [],_=>Z
 | t::r,d=>within t d && zF r d
end
mutual
def zgM:Ob->Bool
 | .non=>Z
 | .bl _=>G
 | .int i=>absB i
 | .str x=>decide (x.length < 61) && x.cps.toList.all λc=>!(decide (c < 32) || decide (126 < c))
 | .tup ts=>decide (ts.length<=40) && zbX ts
 | .odd _=>G
def zbX:List Ob->Bool
 | []=>Z
 | t::r=>zgM t && zbX r
end
theorem zi2:∀l:List Nat,(∀c∈l,c≠37)->l.all zbo=l.all λc=>!(decide (c < 32) || decide (126 < c))
 | [],_=>rfl
 | c::l,h=>by
  rw[List.all_cons,List.all_cons,zi2 l λc hc=>h c (Jj _ hc)];congr 1;have:=h c JO;unfold zbo;rw[Jc this,Bool.not_false,Bool.and_true];by_cases h1:c < 32
  ·rw[aw h1,Jc ()];rfl
  ·rw[Jc h1,aw ()];by_cases h2:126 < c
   ·rw[aw h2,Jc ()];rfl
   ·rw[Jc h2,aw ()];rfl
def _root_.NF:=@Bool.true_and
mutual
theorem zg8:∀(t:Ob)(d:Nat),OkO t->within t d=(decide (zfC t<=d) && zgM t)
 | .non,d,_=>by show Z=(decide (0<=d) && Z);rw[aw (JN d)];rfl
 | .bl _,d,_=>by show G=(decide (0<=d) && G);rw[Nz]
 | .int i,d,_=>by show absB i=(decide (0<=d) && absB i);rw[aw (JN d),NF]
 | .odd _,d,_=>by show G=(decide (0<=d) && G);rw[Nz]
 | .str x,d,h=>by show _=(decide (0<=d) && _);rw[aw (JN d),NF];show(decide (x.length<=60) && x.cps.toList.all zbo)=(decide (x.length < 61) && x.cps.toList.all λc=>!(decide (c < 32) || decide (126 < c)));rw[zi2 _ h.2];congr 1;exact decide_eq_decide.mpr Nat.lt_succ_iff.symm
 | .tup ts,0,h=>by show G=(decide (zaG ts+1<=0) && _);rw[Jc (Nat.not_succ_le_zero _)];rfl
 | .tup ts,d+1,h=>by show(decide (ts.length<=40) && zF ts d)=(decide (zaG ts+1<=d+1) && (decide (ts.length<=40) && zbX ts));rw[zfL ts d h.2,decide_eq_decide.mpr (Nat.succ_le_succ_iff (a:=zaG ts) (b:=d))];cases decide (ts.length<=40) <;> cases decide (zaG ts<=d) <;> rfl
theorem zfL:∀(ts:List Ob)(d:Nat),OkOL ts->zF ts d=(decide (zaG ts<=d) && zbX ts)
 | [],d,_=>by show Z=(decide (0<=d) && Z);rw[aw (JN d)];rfl
 | t::r,d,h=>by show(within t d && zF r d)=(decide (max (zfC t) (zaG r)<=d) && (zgM t && zbX r));rw[zg8 t d h.1,zfL r d h.2,decide_eq_decide.mpr (Nat.max_le (a:=zfC t) (b:=zaG r) (c:=d)),Bool.decide_and];cases decide (zfC t<=d) <;> cases decide (zaG r<=d) <;> cases zgM t <;> cases zbX r <;> rfl
end
theorem OkOL.get:∀{ts:List Ob}{i:Nat}{t:Ob},OkOL ts->ts[i]? =Y t->OkO t
 | [],i,t,_,e=>by simp at e
 | u::r,0,t,h,e=>by simp at e;subst e;exact h.1
 | u::r,i+1,t,h,e=>OkOL.get (i:=i) h.2 (by simpa using e)
mutual
theorem zfK:∀t:Th,Wf t->OkO (ofT t)
 | .non,_=>trivial
 | .int _,_=>trivial
 | .str x,h=>⟨Jg h.1 (),λc hc=>(h.2 c hc).2.2⟩
 | .tup ts,h=>⟨by rw[zec];exact Jg h.1 (),zou ts h.2⟩
theorem zou:∀ts:List Th,WfL ts->OkOL (ofL ts)
 | [],_=>trivial
 | t::r,h=>⟨zfK t h.1,zou r h.2⟩
end
mutual
theorem zjA:∀t:Th,zfC (ofT t)=dep t
 | .non=>rfl
 | .int _=>rfl
 | .str _=>rfl
 | .tup ts=>by show zaG (ofL ts)+1=depL ts+1;rw[zjD ts]
theorem zjD:∀ts:List Th,zaG (ofL ts)=depL ts
 | []=>rfl
 | t::r=>by show max (zfC (ofT t)) (zaG (ofL r))=max (dep t) (depL r);rw[zjA t,zjD r]
end
inductive KdO where | tuple | str | int | bool | list
def KdO.nm:KdO->String
 | .tuple=> "tuple" | .str=> "str" | .int=> "int" | .bool=> "bool" | .list=> "list"
def ze0:Ob->KdO->Bool
 | .bl _,.bool=>Z
 | .bl _,.int=>Z
 | .int _,.int=>Z
 | .str _,.str=>Z
 | .tup _,.tuple=>Z
 | .odd 0,.list=>Z
 | _,_=>G
structure NTk (K:QA)(CN:aE):Prop where
 kd:zha K CN
 k1:bg K (.ref CN) (.type "tuple")=Y G
 k2:bg K (.ref CN) (.type "str")=Y G
 k3:bg K (.ref CN) (.type "int")=Y G
 k4:bg K (.ref CN) (.type "bool")=Y G
 k5:bg K (.ref CN) (.type "list")=Y G
 he:bd K (.ref CN) "__eq__" =Y (Y (.builtin "object.__eq__"))
def zsU (CN:aE):List V->Hp->VK->Prop:=λxs H Q=>∃(t:Ob)(v:V)(c:KdO),xs=[v,.ty c.nm]/\RepO CN H t v/\Q (.bl (ze0 t c)) H
section
variable {X:Cx}{CN:aE}
def za1 (nt:NTk X.K CN):zac X (.builtin "isinstance") (zsU CN):=by
 intro bH s σ H xs us Q I r h;obtain⟨t,v,c,rfl,rv,q⟩:=h;cases rv with
 | non=>exact zS bH s σ H _ us Q I r ⟨_,_,_,G,O,.non,by cases c <;> rfl,by cases c <;> exact q⟩
 | bl b=>exact zS bH s σ H _ us Q I r ⟨_,_,_,ze0 (.bl b) c,O,.bl b,by cases c <;> rfl,q⟩
 | int i=>exact zS bH s σ H _ us Q I r ⟨_,_,_,ze0 (.int i) c,O,.int i,by cases c <;> rfl,q⟩
 | str x=>exact zS bH s σ H _ us Q I r ⟨_,_,_,ze0 (.str x) c,O,.str x,by cases c <;> rfl,q⟩
 | @tup a xs ts e l h=>exact zS bH s σ H _ us Q I r ⟨_,_,_,ze0 (.tup ts) c,O,.tup e,by cases c <;> rfl,q⟩
 | lst e=>exact zS bH s σ H _ us Q I r ⟨_,_,_,ze0 (.odd 0) c,O,.lst e,by cases c <;> rfl,q⟩
 | dic e=>exact zS bH s σ H _ us Q I r ⟨_,_,_,ze0 (.odd 1) c,O,.dK e,by cases c <;> rfl,q⟩
 | exc e=>exact zd7 bH s σ H _ us Q I r ⟨_,CN,U,Z,_,ze0 (.odd 2) c,O,e,nt.kd,(λd z=>nomatch z),q,.inl ⟨B,by cases c <;> first | exact nt.k1 | exact nt.k2 | exact nt.k3 | exact nt.k4 | exact nt.k5⟩⟩
end
end Pv
namespace L2
open PySem PySem.Spec PyProof.Rows Px
structure MkrX (P:aG)(w:aH)(K:QA)(mg:QB)(ax:aF)(x:Str)(C:aE)(k:Nat)(ps:QQ)(sp:Sp):Prop where
 ex:∃f fd,FnOk P w K mg ax (CX1 P w) k f fd ps sp/\Binds K fd ps []/\Mk K C f/\mg x=Y (.ref C)
section
variable {P:aG}{w:aH}{K:QA}{mg:QB}{ax:aF}{x qual:Str}{C:aE}{st:aB}{ps N:QQ}{sp:Sp}{k:Nat}
def Mkd.okX (D:Mkd K mg x C qual st ps)(S:zak N ps (zq st))(hbody:BdX P w K mg ax N qual st k sp)
  (len:∀vs H Q E,sp vs H Q E->vs.length=ps.length:=by intro vs H Q E h;cases h;subst_vars;rfl):MkrX P w K mg ax x C (k+1) ps sp:=by
 obtain⟨f,fd,F,b,mk,mm⟩:=D.ex;exact⟨f,fd,F.okX S len (λcdv A outer s H vs Q E hr h=>hbody f cdv A outer s H vs Q E hr h),b,mk,mm⟩
variable {X:Cx}{CX:CXT}{f:aE}{fd:FuncData}{k':Nat}{e:aX}{es:List aX}{t:TA}{p pos:Pos}{E:XK}{ES:St->XK}
variable {o:aX}{to:TE}{name:Str}{apos cpos:Pos}{T id:String}{r:V->List V->Hp->VK->Prop}
def zM (h:X.K=K):zac X (.builtin "isinstance") (zir K):=h ▸ zd7
end
end L2
namespace Pv
open PySem L2
def ff (h:Int)(l:List Int):Int:=l.foldl (λh c=>(h * 1234567890123456789+c) % 2305843009213693951) h
theorem zft {h:Int}(h0:0<=h)(h1:h < 2305843009213693951):∀l:List Int,0<=ff h l/\ff h l < 2305843009213693951
 | []=>⟨h0,h1⟩
 | c::r=>zft (h:=(h * 1234567890123456789+c) % 2305843009213693951) (JA _ ()) (Jt _ ()) r
structure zsB (r t:Int):Prop where
 r0:0 < r
 r1:r < 1000000000000000
 t0: -1000000000000000 < t
 t1:t < 1000000000000000
 ne:t≠0
 dv:(t * 1234567890123456789 - r) % 2305843009213693951=0
structure Two (one other:Int):Prop where
 ex:∃hi lo r t:Int,zsB r t/\one=hi * 1000000000000000+lo - 10 ^ 30/\other=one+t * 1000000000000000 - r/\r<=lo/\lo < 1000000000000000/\0<=hi/\hi < 2000000000000000/\0<=hi+t/\hi+t < 2000000000000000
abbrev Pl:=List (List Th ×Nat)
def put1 (p:List Th ×Nat)(t:Th):Th:=.tup (p.1.take p.2++ [t]++p.1.drop p.2)
structure PlOk (ps:Pl):Prop where
 len:ps.length<=4
 each:∀p∈ps,p.1.length<=3/\p.2<=p.1.length/\WfL p.1/\depL p.1<=1/\zH p.1<=12
end Pv
namespace Pv
open PySem L2 PySem.Spec PyProof.Rows
def truT:Th->Bool
 | .non=>G
 | .int i=>i !=0
 | .str z=>(z.length:Int) !=0
 | .tup ts=>!ts.isEmpty
inductive OrT (x:V)(H:Hp)(Q:L2.VK)(N:Prop):Prop
 | mk (t:Th)(_:Rep H t x)(_:Wf t)(_:truT t=Z->Q x H)(_:truT t=G->N):OrT x H Q N
def tOrT (ta tb:TE):TE:=fun σ H Q=>ta σ H λx H1=>OrT x H1 Q (tb σ H1 Q)
section
variable {X:Cx}{a b:aX}{rest:List aX}{pos:Pos}{ta tb:TE}
def zo1 (ha:PE X a ta)(hb:PE X (.BoolOp .Or (b::rest) pos) tb):PE X (.BoolOp .Or (a::b::rest) pos) (tOrT ta tb):=by
 intro bH s σ H Q I h;refine BoolOp_or (thn (ha bH s σ H _ I h) λv s1 ⟨x,H1,I1,r1,q1⟩=>?_);obtain⟨t,rt,wt,q1,q2⟩:=q1;cases rt with
 | non=>cases (show v=aO from r1);unfold truthy;exact bc (hb bH s1 σ H1 Q I1 (q2 rfl))
 | int i=>
  obtain⟨k,rfl⟩:=r1;refine PySem.P.truthy_int ?_;cases hz:i !=0 with
  | false=>exact hb bH s1 σ H1 Q I1 (q2 hz)
  | true=>exact⟨.int i,H1,I1,⟨k,O⟩,q1 hz⟩
 | str z=>
  obtain⟨k,rfl⟩:=r1;have hz:z.length<=60:=wt.1;refine PySem.P.truthy_str () ?_;cases hz:(z.length:Int) !=0 with
  | false=>exact hb bH _ σ H1 Q (I1.tok _) (q2 hz)
  | true=>exact⟨.str z,H1,I1.tok _,⟨k,O⟩,q1 hz⟩
 | @tup p xs ts e l hh=>
  cases (show v=aP p from r1);obtain⟨its,r2,T,_⟩:=I1.tuple (SqT.of e);have n1:=r2.length;have hz:ts.length<=40:=wt.1;refine PyProof.Rows.truthy_tuple T (by rw[JH];lia) ?_;have ee:(!its.toArray.isEmpty)=truT (.tup ts):=by
   show _= !ts.isEmpty;rw[List.isEmpty_toArray];cases its with
   | nil=>cases ts with | nil=>rfl | cons _ _=>exact Jf l (by simp at n1;rw[n1];simp)
   | cons _ _=>cases ts with | nil=>exact Jf l (by simp at n1;simp[n1]) | cons _ _=>rfl
  rw[ee];cases hz:truT (.tup ts) with
  | false=>exact hb bH _ σ H1 Q (I1.tok _) (q2 hz)
  | true=>exact⟨.ref p,H1,I1.tok _,O,q1 hz⟩
end
end Pv
namespace Pv
open PySem L2
inductive TV (h:aF):Th->aD->Prop
 | non:TV h .non .none
 | int (i:Int) (t:Tok):TV h (.int i) (.int i t)
 | str (x:Str) (t:Tok):TV h (.str x) (.str x t)
 | tup {a:aE} {o:Obj} {items:Array aD} {n:Nat} {ts:List Th} (ho:h.get? a=Y o) (hc:o.cls=.type "tuple") (hd:o.data=.seq items n) (l:items.size=ts.length)
   (k:∀(i:Nat)(u:aD)(t:Th),items[i]? =Y u->ts[i]? =Y t->TV h t u):TV h (.tup ts) (.ref a)
theorem TV.of (I:L2.Inv X bH σ H s)(r:Rep H t v):∀{u:aD},RelV v u->TV s.heap t u:=by
 induction r with
 | non=>intro u ru;cases (show u=aO from ru);exact .non
 | int i=>intro u ru;obtain⟨k,rfl⟩:=ru;exact .int i k
 | str x=>intro u ru;obtain⟨k,rfl⟩:=ru;exact .str x k
 | @tup a xs ts e l h ih=>
  intro u ru;cases (show u=aP a from ru);obtain⟨_,its,rv,o,h1,h2,n,h3⟩:=(show zB X.prog X.w H s.heap a (.tup xs) from I.hok a _ e);have hl:=rv.length;refine .tup h1 h2 h3 (by rw[JH];lia) λi u t eu et=>?_;have hi:i < xs.length:=by have:=(JG.mp et).1;lia
  have ex:xs[i]? =Y xs[i]:=JD hi;obtain⟨w,ew,rw'⟩:=rv.get ex;have:u=w:=by
   have e2:its[i]? =Y u:=by simpa using eu
   rw[ew] at e2;exact(JP e2).symm
  subst this;exact ih i _ _ ex et rw'
theorem TV.inj (r:TV h t u):∀{t':Th},TV h t' u->t=t':=by
 induction r with
 | non=>intro t' q;cases q;rfl
 | int i k=>intro t' q;cases q;rfl
 | str x k=>intro t' q;cases q;rfl
 | @tup a o items n ts ho hc hd l k ih=>
  intro t' q;cases q with
  | @tup _ o' items' n' ts' ho' hc' hd' l' k'=>
   obtain rfl:o=o':=JP (ho.symm.trans ho');rw[hd] at hd';injection hd' with e1 _
   subst e1;congr 1;apply List.ext_getElem?;intro i;by_cases hi:i < ts.length
   ·have e1:ts[i]? =Y ts[i]:=JD hi;have e2:ts'[i]? =Y (ts'[i]'()):=JD ();have e3:items[i]? =Y (items[i]'()):=Array.getElem?_eq_getElem ();rw[e1,e2,ih i _ _ e3 e1 (k' i _ _ e3 e2)]
   ·rw[Nc (),Nc ()]
def hsh (w:aH):Th->Int
 | .non=>0xFCA86420
 | .int i=>hashInt i
 | .str x=>hashStr w x
 | .tup ts=>reduceHash (bG (hshL w ts))
where hshL (w:aH):List Th->List Int
 | []=>[]
 | t::ts=>hsh w t::hshL w ts
theorem zjI (w:aH):∀ts:List Th,hsh.hshL w ts=ts.map (hsh w)
 | []=>rfl
 | t::ts=>by show hsh w t::hsh.hshL w ts=hsh w t::ts.map (hsh w);rw[zjI w ts]
section
variable {prog:aG}{w:aH}{A:aU}{E:QC}{s:aM}
def typeIs_none (s:aM):s.TypeIs .none "NoneType" :=by
 first | rfl | trivial | exact⟨B⟩
def zmb {Q:Int->aM->Prop}(h:∀k,Q 0xFCA86420 {s with toks:=k}):aW (aY prog w) A (pyHash .none) Q E s:=by
 unfold pyHash;have hv:[aO].any Value.onHeap=G:=rfl;unfold pyHashByItsType;refine Ja ?_;rw[cRoomFor,au (by rw[hv];exact Jd)];refine bc ?_;refine Ja (wpAny_specialOf (typeIs_none s) F.slot_NoneType_hash.lookup ?_);show aW _ _ (if (Y (bD "NoneType.__hash__")==Y aO)=Z then _ else _) Q E s;rw[au (by rw[beq_builtin_none];exact Jd)];refine Ja (wpAny_specialOf (typeIs_none s) F.slot_NoneType_hash.lookup ?_);show aW _ _ (callSpecialIfBoundUnlessNone? .none "__hash__" _ >>=_) Q E s;refine Ja (wpAny_callSpecialIfBoundUnlessNone?_slot (typeIs_none s) F.slot_NoneType_hash
  (bA F.slot_NoneType_hash (typeIs_none s) F.entry_NoneType_hash (show aW _ _ (do ret (<-mkInt 0xFCA86420)) _ _ s from wpAny_ret_mkInt ?_) (F.args_NoneType_hash_1 _)))
 show aW _ _ (if (decide (-(2:Int) ^ 63<=0xFCA86420) && decide ((0xFCA86420:Int) < 2 ^ 63))=Z then _ else _) Q E _;rw[av (by decide+kernel)];exact bc (h _)
def _root_.JU:=@List.map_append
def _root_.J9:=@List.take_length
def ziq (r:TV s.heap t u):∀{A:aU}{E:QC}{Q:Int->aM->Prop}{n:Nat},A.units+4 * dep t < bn->(∀k,Q (hsh w t) {s with toks:=k})->aW (aY prog w) A (pyHash u) Q E {s with toks:=n}:=by
 induction r with
 | non=>intro A E Q n _ h;exact zmb λk=>h k
 | int i k=>intro A E Q n _ h;exact wpAny_pyHash_int (h _)
 | str x k=>intro A E Q n _ h;exact wpAny_pyHash_str (h _)
 | @tup a o items m ts ho hc hd l k ih=>
  intro A E Q n hu h;have hT:({s with toks:=n}:aM).TypeIs (.ref a) "tuple" :=⟨o,ho,hc⟩;have hdep:dep (.tup ts)=depL ts+1:=rfl;unfold pyHash
  first | unfold pyHashByItsType | skip
  refine Ja (wpAny_cRoomFor_or (.inr ()) ?_);refine Ja (wpAny_specialOf hT F.slot_tuple_hash.lookup ?_);show aW _ _ (if (Y (bD "tuple.__hash__")==Y aO)=Z then _ else _) Q E _;rw[au (by rw[beq_builtin_none];exact Jd)];refine Ja (wpAny_specialOf hT F.slot_tuple_hash.lookup ?_);show aW _ _ (callSpecialIfBoundUnlessNone? (.ref a) "__hash__" _ >>=_) Q E _;refine Ja (wpAny_callSpecialIfBoundUnlessNone?_slot hT F.slot_tuple_hash (bA F.slot_tuple_hash hT F.entry_tuple_hash ?_ (F.args_tuple_hash_1 _)));show aW _ _ (Builtin.Tuple.tupleItemsOf (.ref a) >>=_) _ _ _;refine Ja (wpAny_tupleItemsOf (s:={s with toks:=n}) ho hd ?_);refine Ja ?_;rw[<-Array.forIn_toList];refine wpAny_forIn_list _
   (λrest (b:Array Int) s'=>∃(i:Nat)(n':Nat),i<=ts.length/\rest=items.toList.drop i/\b.toList=(ts.take i).map (hsh w)/\s'={s with toks:=n'})
   _ ?_ ?_ _ _ ⟨0,n,JN _,O,O,O⟩
  ·rintro x rest b s' ⟨i,n',hi,hr,hb,rfl⟩;have hil:i < items.toList.length:=by have:=congrArg List.length hr;rw[JM,JT] at this;lia
   have hit:i < ts.length:=by rw[Nf] at hil;lia
   rw[Jp hil] at hr;injection hr with e1 e2
   have ex:items[i]? =Y x:=by rw[e1,<-Nb];exact JD hil
   have et:ts[i]? =Y ts[i]:=JD hit;have hdi:=zaT et;refine Ja (ih i x _ ex et (A:=_) (by
    first
    | (show A.in1.units+4 * dep ts[i] < bn;show A.units+1+4 * dep ts[i] < bn;lia)
    | lia) λk'=>?_)
   first
    | exact bc ⟨i+1,k',hit,e2,(by rw[Array.toList_push,hb,Na,et,JU];rfl),O⟩
    | exact Ja (bc (bc ⟨i+1,k',hit,e2,(by rw[Array.toList_push,hb,Na,et,JU];rfl),O⟩))
  ·rintro b s' ⟨i,n',hi,hr,hb,rfl⟩;have:i=ts.length:=by have:=congrArg List.length hr;rw[Nn,JT,Nf] at this;lia
   subst this;rw[J9] at hb;have hQ:hsh w (.tup ts)=reduceHash (bG (ts.map (hsh w))):=by show reduceHash (bG (hsh.hshL w ts))=_;rw[zjI]
   rw[hQ] at h;show aW _ _ (retInt (bG b.toList)) _ _ _;rw[hb];refine wpAny_ret_mkInt ?_;show aW _ _ (if (decide (-(2:Int) ^ 63<=bG (ts.map (hsh w))) && decide (bG (ts.map (hsh w)) < 2 ^ 63))=Z then _ else _) Q E _;unfold reduceHash at h;by_cases hr:(decide (-(2:Int) ^ 63<=bG (ts.map (hsh w))) && decide (bG (ts.map (hsh w)) < 2 ^ 63))=Z
   ·rw[av hr];simp only[av hr] at h;exact bc (h _)
   ·rw[au hr];simp only[au hr] at h;exact Ja (wpAny_rule (bc (h _)))
end
open PySem.SeqAt in
section
variable {prog:aG}{w:aH}{A:aU}{E:QC}{s:aM}
def zkk:isSubtype (.type "tuple") (.type "tuple")=pure Z:=by rw[isSubtype_type];kernel_rfl
def _root_.Nq:=@Bool.false_eq_true
def zlf (r:TV s.heap t u):∀{n:Nat}{A:aU}{E:QC}{Q:Bool->aM->Prop},dep t<=n->Q Z s->aW (aY prog w) A (eqIsQuiet n u) Q E s:=by
 induction r with
 | non=>intro n A E Q _ h;rw[eqIsQuiet_byValue n rfl];exact bc h
 | int i k=>intro n A E Q _ h;rw[eqIsQuiet_byValue n rfl];exact bc h
 | str x k=>intro n A E Q _ h;rw[eqIsQuiet_byValue n rfl];exact bc h
 | @tup a o items m ts ho hc hd l k ih=>
  intro n A E Q hn h;have hdep:dep (.tup ts)=depL ts+1:=rfl;cases n with
  | zero=>lia
  | succ n=>
  have hT:s.TypeIs (.ref a) "tuple" :=⟨o,ho,hc⟩;unfold eqIsQuiet;refine Ja (wpAny_specialOf hT F.slot_tuple_eq.lookup ?_);show aW _ _ (isInstance (.ref a) (.type "tuple") >>=_) _ _ s;refine Ja (wpAny_isInstance hT zkk ?_);simp only[Bool.not_true,Nq,if_false];refine Ja (wpAny_seqItems ho hd ?_);refine Ja ?_;show aW _ _ (forIn items _ _) _ _ s;rw[<-Array.forIn_toList];refine wpAny_forIn_list _ (λrest r s'=>r.1=U/\s'=s/\∃i,i<=ts.length/\rest=items.toList.drop i) _ ?_ ?_ _ _ ⟨O,O,0,JN _,O⟩
  ·rintro v rest r s' ⟨hr0,rfl,i,hi,hr⟩;have hil:i < items.toList.length:=by have:=congrArg List.length hr;rw[JM,JT] at this;lia
   have hit:i < ts.length:=by rw[Nf] at hil;lia
   rw[Jp hil] at hr;injection hr with e1 e2
   have ex:items[i]? =Y v:=by rw[e1,<-Nb];exact JD hil
   have et:ts[i]? =Y ts[i]:=JD hit;have hdi:=zaT et;refine Ja (ih i v _ ex et (n:=n) () ?_);simp only[Bool.not_true,Nq,if_false];exact bc ⟨O,O,i+1,hit,e2⟩
  ·rintro⟨r1,r2⟩ s' ⟨hr,rfl,_⟩;simp only at hr;subst hr;exact bc h
abbrev Ent:=Th ×aD ×aD
def entT (w:aH)(x:Ent):DictEntry:=⟨hsh w x.1,x.2.1,x.2.2⟩
theorem zcB {es:Array DictEntry}{xs:List Ent}(he:es.toList=xs.map (entT w))(j:Nat):es[j]? =(xs[j]?).map (entT w):=by rw[<-Nb,he,JV]
def zdP {es:Array DictEntry}{xs:List Ent}(he:es.toList=xs.map (entT w)):es.size=xs.length:=by rw[<-Nf,he,JI]
def znU {xs:List Ent}(hn:(xs.map (·.1)).Nodup):∀{i j:Nat}{k:Th}{p q:aD ×aD},xs[i]? =Y (k,p)->xs[j]? =Y (k,q)->i=j:=by
 intro i j k p q hi hj;have hi':(xs.map (·.1))[i]? =Y k:=by rw[JV,hi];rfl
 have hj':(xs.map (·.1))[j]? =Y k:=by rw[JV,hj];rfl
 exact(List.getElem?_inj (JG.mp hi').1 hn).mp (hi'.trans hj'.symm)
def zpj {stored:QO}{Q:Bool->aM->Prop}(hkey:TV s.heap t u)(h8:dep t<=8)(hst:∀v∈stored,∃t',TV s.heap t' v/\dep t'<=8)(h:Q G s):aW (aY prog w) A (tableMayTell u stored) Q E s:=by
 unfold tableMayTell;split
 ·exact bc h
 ·refine Ja (zlf hkey h8 ?_);simp only[Bool.not_true,Nq,if_false];refine Ja ?_;refine wpAny_forIn_list _ (λrest r s'=>s'=s/\r=(U,Unit.unit)/\∀v∈rest,∃t',TV s.heap t' v/\dep t'<=8) _ ?_ ?_ _ _ ⟨O,O,hst⟩
  ·rintro x rest r s' ⟨rfl,rfl,hr⟩;obtain⟨t',ht',h8'⟩:=hr x JO;refine Ja (zlf ht' h8' ?_);simp only[Bool.not_true,Nq,if_false];exact bc ⟨O,O,λv hv=>hr v (Jj _ hv)⟩
  ·rintro r s' ⟨rfl,rfl,_⟩;exact bc h
structure FK (w:aH)(A:aU)(s:aM)(d:aE)(o:Obj)(es:Array DictEntry)(ep:Nat)(xs:List Ent)(t:Th)(key:aD):Prop where
 tv:TV s.heap t key
 h8:dep t<=8
 ho:s.heap.get? d=Y o
 hd:o.data=.dict es ep
 he:es.toList=xs.map (entT w)
 is:∀x∈xs,TV s.heap x.1 x.2.1/\dep x.1<=8
 eq:∀x∈xs,EqAt A s x.2.1 key (eqT x.1 t)
 nd:(xs.map (·.1)).Nodup
variable {d:aE}{o:Obj}{es:Array DictEntry}{ep:Nat}{xs:List Ent}{t:Th}{key:aD}{Q:Option Nat->aM->Prop}
theorem FK.has (F:FK w A s d o es ep xs t key)(j:Nat)(p:aD ×aD)(hj:xs[j]? =Y (t,p)):((es[j]?.map (·.hash))==Y (hsh w t))=Z:=by rw[zcB F.he j,hj];simp[entT]
def FK.mem (F:FK w A s d o es ep xs t key):∀e∈es,∃x∈xs,e=entT w x:=by intro e hin;have:e∈xs.map (entT w):=F.he ▸ Array.mem_toList_iff.mpr hin;obtain⟨x,hx,rfl⟩:=No.mp this;exact⟨x,hx,O⟩
def ztj (F:FK w A s d o es ep xs t key)(hnone:(∀(j:Nat)(p:aD ×aD),xs[j]? ≠Y (t,p))->Q U s)(hsome:∀(j:Nat)(p:aD ×aD),xs[j]? =Y (t,p)->Q (Y j) s):
  aW (aY prog w) A (dictWalkPlain d key (hsh w t) es (placesWithHash es.size (λi=>es[i]?.map (·.hash)) (hsh w t))) Q E s:=by
 have hsz:es.size=xs.length:=zdP F.he;refine Ja ?_;refine wpAny_forIn_list _
  (λrest b s'=>s'=s/\b=(U,Unit.unit)/\∃i,rest=(List.range' i (es.size - i)).filter (λi=>(es[i]?.map (·.hash))==Y (hsh w t))/\i<=es.size/\
   ∀j p,j < i->xs[j]? ≠Y (t,p)) _ ?_ ?_ _ _
  ⟨O,O,0,by rw[placesWithHash,List.range_eq_range',Nat.sub_zero],JN _,λ_ _ h=>Jf h (Jv _)⟩
 ·rintro x rest b s' ⟨rfl,rfl,i,hr,hi,hno⟩;obtain⟨hix,hxn,hpx,hskip,hrest⟩:=filter_range'_cons _ _ _ _ _ hr.symm;have hlt:x < es.size:=()
  have hxl:x < xs.length:=()
  obtain⟨⟨t',kv,v'⟩,hkv⟩:∃y,xs[x]? =Y y:=⟨xs[x],JD hxl⟩;have hex:es[x]? =Y ⟨hsh w t',kv,v'⟩:=by rw[zcB F.he x,hkv];rfl
  have hno':∀j p,j < x->xs[j]? ≠Y (t,p):=λj p hjx hj=>by
   rcases Nat.lt_or_ge j i with h | h
   ·exact hno j p h hj
   ·have:=hskip j h hjx;rw[F.has j p hj] at this;exact Jf this ()
  have hnext:¬t'=t->∃i,rest=(List.range' i (es.size - i)).filter (λi=>(es[i]?.map (·.hash))==Y (hsh w t))/\i<=es.size/\∀j p,j < i->xs[j]? ≠Y (t,p):=λhne=>
   ⟨x+1,by rw[hrest];congr 2;lia,hlt,λj p hji hj=>by
    rcases Nat.lt_or_ge j x with h' | h'
    ·exact hno' j p h' hj
    ·have:j=x:=()
     subst this;rw[hkv] at hj;injection hj with hj
     injection hj with hj
     exact hne hj⟩
  rw[hex];dsimp only;by_cases hh:(hsh w t'==hsh w t)=Z
  ·rw[av hh];refine Ja (wpAny_dictEpoch F.ho F.hd (Ja (F.eq _ (J2 hkv) _ _ _ _ (Ja (wpAny_dictEpoch F.ho F.hd ?_)))));show aW _ _ (if (ep !=ep)=Z then _ else _) _ E _;rw[au (by simp)];cases z:eqT t' t with
   | true=>have:t'=t:=(zJ t' t).mp z;subst this;exact Ja (wpAny_rule (bc (bc (hsome x _ hkv))))
   | false=>
    have hne:¬t'=t:=λe=>by rw[e,z9] at z;cases z
    exact Ja (wpAny_rule (bc ⟨O,O,hnext hne⟩))
  ·rw[au hh];exact bc ⟨O,O,hnext λe=>by rw[e] at hh;simp at hh⟩
 ·rintro b s' ⟨rfl,rfl,i,hr,hi,hno⟩;refine bc (hnone λj p hj=>?_);rcases Nat.lt_or_ge j i with h | h
  ·exact hno j p h hj
  ·have hjl:j < es.size:=by rw[hsz];exact(JG.mp hj).1
   have:=Nx.mp hr.symm j (List.mem_range'_1.mpr ⟨h,()⟩);exact this (F.has j p hj)
end
open PySem.SeqAt in
section
variable {prog:aG}{w:aH}{A:aU}{E:QC}{s:aM}{d:aE}{o:Obj}{es:Array DictEntry}{ep:Nat}{xs:List Ent}{t:Th}{key:aD}{Q:Option Nat->aM->Prop}
theorem FK.st (F:FK w A s d o es ep xs t key):∀v∈(placesWithHash es.size (λi=>es[i]?.map (·.hash)) (hsh w t)).filterMap (λi=>es[i]?.map (·.key)),∃t',TV s.heap t' v/\dep t'<=8:=by
 intro v hv;obtain⟨i,_,hi⟩:=List.mem_filterMap.mp hv;cases hei:es[i]? with
 | none=>rw[hei] at hi;cases hi
 | some e=>
  rw[hei] at hi;obtain rfl:e.key=v:=by simpa using hi
  obtain⟨x,hx,rfl⟩:=F.mem e (Array.mem_of_getElem? hei);exact⟨x.1,(F.is x hx).1,(F.is x hx).2⟩
def zih (F:FK w A s d o es ep xs t key)(hk:t≠ .non)(hnone:(∀(j:Nat)(p:aD ×aD),xs[j]? ≠Y (t,p))->Q U s)(hsome:∀(j:Nat)(p:aD ×aD),xs[j]? =Y (t,p)->Q (Y j) s):
  aW (aY prog w) A (dictFind d key (hsh w t)) Q E s:=by
 have hany:¬(es.any λe=>e.key==key && e.hash !=hsh w t)=Z:=by rw[<-Array.any_toList,List.any_eq_true];rintro⟨e,hin,hc⟩;obtain⟨x,hx,rfl⟩:=F.mem e (Array.mem_toList_iff.mp hin);simp only[entT,J8,beq_iff_eq,bne_iff_ne,ne_eq] at hc;obtain⟨hxa,hne⟩:=hc;have:=(F.is x hx).1;rw[hxa] at this;exact hne (by rw[this.inj F.tv])
 have hsz:es.size=xs.length:=zdP F.he;have hst:=F.st;have hall:=Classical.em (((key::((placesWithHash es.size (λi=>es[i]?.map (·.hash)) (hsh w t)).filterMap (λi=>es[i]?.map (·.key)))).all carriedByValue)=Z);have hone:=Classical.em ((((placesWithHash es.size (λi=>es[i]?.map (·.hash)) (hsh w t)).filterMap (λi=>es[i]?.map (·.key)))==[key])=Z);have kk:(∃n k,key=.int n k)\/(∃y k,key=.str y k/\t=.str y)\/∃a,key=.ref a:=by
  have tv:=F.tv;cases tv with
  | non=>exact Jf rfl hk
  | int i k=>exact .inl ⟨_,B⟩
  | str x k=>exact .inr (.inl ⟨am⟩)
  | tup ho hc hd l k=>exact .inr (.inr ⟨B⟩)
 rcases kk with ⟨n,k,rfl⟩ | ⟨y,k,rfl,et⟩ | ⟨a,rfl⟩ <;> unfold dictFind <;> (try with_reducible refine bb ?_) <;> refine Ja (wpAny_dictEntries F.ho F.hd ?_) <;> dsimp only
 rotate_left
 refine(Classical.em ((es.all λe=>isExactStrKey e.key)=Z)).elim (λhex=>?_) λhex=>?_
 ·rw[av hex];unfold foundByValue;have isk:∀(j:Nat)(t':Th)(kv v':aD),xs[j]? =Y (t',kv,v')->(kv.isStr y=Z↔t'=t):=λj t' kv v' hj=>by
   have h1:=(F.is _ (J2 hj)).1;have h2:isExactStrKey kv=Z:=by
    rw[Array.all_eq_true] at hex;have hjl:j < es.size:=by rw[hsz];exact(JG.mp hj).1
    have h3:=hex j hjl;have h4:=zcB F.he j;rw[hj,Array.getElem?_eq_getElem hjl] at h4;have h5:es[j]=entT w (t',kv,v'):=by simpa using h4
    rw[h5] at h3;exact h3
   rw[et];have h1':TV s.heap t' kv:=h1;cases h1' with
   | str z k'=>
    constructor
    ·intro h;have:z=y:=by simpa [Value.isStr] using h
     rw[this]
    ·intro h;cases h;simp[Value.isStr]
   | _=>cases h2
  cases hf:es.findIdx? (λe=>e.key.isStr y) with
  | none=>
   dsimp only;refine bc (hnone λj p hj=>?_);rw[Array.findIdx?_eq_none_iff] at hf;have hjl:j < es.size:=by rw[hsz];exact(JG.mp hj).1
   have h4:=zcB F.he j;rw[hj,Array.getElem?_eq_getElem hjl] at h4;have h5:es[j]=entT w (t,p):=by simpa using h4
   have h6:=hf es[j] (Array.getElem_mem hjl);rw[h5] at h6;have h7:=(isk j t p.1 p.2 hj).mpr rfl;have h8:p.1.isStr y=G:=h6;rw[h7] at h8;cases h8
  | some i=>
   obtain⟨hil,hi1,_⟩:=Array.findIdx?_eq_some_iff_getElem.mp hf;have hixl:i < xs.length:=()
   obtain⟨⟨t',kv,v'⟩,hkv⟩:∃z,xs[i]? =Y z:=⟨xs[i],JD hixl⟩;have h4:es[i]? =Y ⟨hsh w t',kv,v'⟩:=by rw[zcB F.he i,hkv];rfl
   have h5:es[i]=⟨hsh w t',kv,v'⟩:=by rw[Array.getElem?_eq_getElem hil] at h4;exact JP h4
   have h6:kv.isStr y=Z:=by rw[h5] at hi1;exact hi1
   have h7:t'=t:=(isk i t' kv v' hkv).mp h6;subst h7;dsimp only;rw[h4];dsimp only;refine Ja (wpAny_dictEpoch F.ho F.hd (Ja (F.eq _ (J2 hkv) _ _ _ _ (Ja (wpAny_dictEpoch F.ho F.hd ?_)))));show aW _ _ (if (ep !=ep)=Z then _ else _) _ E _;rw[au (by simp),z9];exact Ja (wpAny_rule (bc (hsome i _ hkv)))
 rw[au hex]
 all_goals
  rcases hall with hall | hall
  ·rw[av hall];exact ztj F hnone hsome
  ·rw[au hall]
   try rw[au hany]
   rcases hone with hone | hone <;>
   (first | rw[av hone] | rw[au hone]) <;> (first | refine Ja (bc ?_) | refine Ja (zpj F.tv F.h8 hst ?_)) <;> (
    rw[au (by simp)];refine Ja ?_;refine wpAny_forIn_list _
     (λrest b s'=>s'=s/\∃i hit,b=(U,hit)/\rest=(List.range' i (es.size - i)).filter (λi=>(es[i]?.map (·.hash))==Y (hsh w t))/\i<=es.size/\
      ((hit=U/\∀j p,j < i->xs[j]? ≠Y (t,p))\/∃j p,hit=Y j/\j < i/\xs[j]? =Y (t,p))) _ ?_ ?_ _ _
     ⟨O,0,U,O,by rw[placesWithHash,List.range_eq_range',Nat.sub_zero],JN _,.inl ⟨O,λ_ _ h=>Jf h (Jv _)⟩⟩
    ·rintro x rest b s' ⟨rfl,i,hit,rfl,hr,hi,hH⟩;obtain⟨hix,hxn,hpx,hskip,hrest⟩:=filter_range'_cons _ _ _ _ _ hr.symm;have hlt:x < es.size:=()
     have hxl:x < xs.length:=()
     have hrest':rest=(List.range' (x+1) (es.size - (x+1))).filter (λi=>(es[i]?.map (·.hash))==Y (hsh w t)):=by rw[hrest];congr 2;lia
     obtain⟨⟨t',kv,v'⟩,hkv⟩:∃y,xs[x]? =Y y:=⟨xs[x],JD hxl⟩;have hex:es[x]? =Y ⟨hsh w t',kv,v'⟩:=by rw[zcB F.he x,hkv];rfl
     have hHx:(hit=U/\∀j p,j < x->xs[j]? ≠Y (t,p))\/∃j p,hit=Y j/\j < x/\xs[j]? =Y (t,p):=by
      rcases hH with ⟨h0,hno⟩ | ⟨j,p,h1,hji,hj⟩
      ·refine .inl ⟨h0,λj p hjx hj=>?_⟩;rcases Nat.lt_or_ge j i with h | h
       ·exact hno j p h hj
       ·have:=hskip j h hjx;rw[F.has j p hj] at this;exact Jf this ()
      ·exact .inr ⟨j,p,h1,(),hj⟩
     have hstay:¬t'=t->((hit=U/\∀j p,j < x+1->xs[j]? ≠Y (t,p))\/∃j p,hit=Y j/\j < x+1/\xs[j]? =Y (t,p)):=by
      intro hne;rcases hHx with ⟨h0,hno⟩ | ⟨j,p,h1,hjx,hj⟩
      ·refine .inl ⟨h0,λj p hjx hj=>?_⟩;rcases Nat.lt_or_ge j x with h | h
       ·exact hno j p h hj
       ·have hjx':j=x:=()
        subst hjx';rw[hkv] at hj;injection hj with hj
        injection hj with hj
        exact hne hj
      ·exact .inr ⟨j,p,h1,(),hj⟩
     rw[hex];dsimp only;by_cases hh:(hsh w t'==hsh w t)=Z
     ·rw[av hh];refine Ja (wpAny_dictEpoch F.ho F.hd (Ja (F.eq _ (J2 hkv) _ _ _ _ (Ja (wpAny_dictEpoch F.ho F.hd ?_)))));show aW _ _ (if (ep !=ep)=Z then _ else _) _ E _;rw[au (by simp)];cases z:eqT t' t with
      | true=>
       have hkk:t'=t:=(zJ t' t).mp z;subst hkk;rcases hHx with ⟨rfl,_⟩ | ⟨j,p,_,hjx,hj⟩
       ·first | rw[av rfl] | skip
        simp only[Option.isSome_none,Nq,if_false]
        first | refine Ja (bc ?_) | skip
        refine Ja (wpAny_rule ?_);split
        ·exact bc (bc (hsome x _ hkv))
        ·exact bc ⟨O,x+1,Y x,O,hrest',hlt,.inr ⟨x,B,Jr x,hkv⟩⟩
       ·exact Jf (znU F.nd hj hkv) ()
      | false=>
       have hkk:¬t'=t:=λe=>by rw[e,z9] at z;cases z
       simp only[Nq,if_false];refine Ja (wpAny_rule ?_)
       first | rw[au (by simp)] | skip
       first
        | exact bc ⟨O,x+1,hit,O,hrest',hlt,hstay hkk⟩
        | exact Ja (bc (bc ⟨O,x+1,hit,O,hrest',hlt,hstay hkk⟩))
     ·rw[au hh];refine bc ⟨O,x+1,hit,O,hrest',hlt,hstay ?_⟩;intro hkk;rw[hkk] at hh;simp at hh
    ·rintro b s' ⟨rfl,i,hit,rfl,hr,hi,hH⟩;have hall2:∀j,i<=j->j < es.size->((es[j]?.map (·.hash))==Y (hsh w t))=G:=by intro j h1 h2;have:=Nx.mp hr.symm j (List.mem_range'_1.mpr ⟨h1,()⟩);simpa using this
     rcases hH with ⟨rfl,hno⟩ | ⟨j,p,rfl,_,hj⟩
     ·refine bc (hnone λj p hj=>?_);rcases Nat.lt_or_ge j i with h | h
      ·exact hno j p h hj
      ·have hjl:j < es.size:=by rw[hsz];exact(JG.mp hj).1
       have:=hall2 j h hjl;rw[F.has j p hj] at this;exact Jf this ()
     ·exact bc (hsome j p hj))
end
end Pv
set_option maxHeartbeats 400000
namespace Pv
open PySem L2 PySem.Spec PyProof.Rows
abbrev Kv:=Th ×V ×V
def zrQ (w:aH)(x:Kv)(e:DictEntry):Prop:=e.hash=hsh w x.1/\RelV x.2.1 e.key/\RelV x.2.2 e.val
def IsTD (w:aH)(d:aE)(xs:List Kv)(h:aF):Prop:=
 (d==sysModules)=G/\xs.length<=aQ/\∃o es ep,h.get? d=Y o/\o.ExactDict/\o.data=.dict es ep/\Paired (zrQ w) xs es.toList
def TD (w:aH)(d:aE)(xs:List Kv):HO:=.ext (IsTD w d xs)
def vT (xs:List Kv)(t:Th):Option V:=(xs.find? λx=>decide (x.1=t)).map (·.2.2)
def Keyed (H:Hp)(xs:List Kv):Prop:=(∀x∈xs,Rep H x.1 x.2.1/\dep x.1<=8)/\(xs.map (·.1)).Nodup
def zlr (q:IsTD w d xs h):zB P w H h d (TD w d xs):=by
 refine⟨q,?_,?_⟩
 ·obtain⟨_,_,o,_,_,ho,_⟩:=q;exact⟨o,ho⟩
 ·rintro h1 h2 ⟨a,b,o,es,ep,ho,r⟩ k;exact⟨a,b,o,es,ep,k _ ho,r⟩
abbrev EntP (x:Kv)(y:Ent):Prop:=y.1=x.1/\RelV x.2.1 y.2.1/\RelV x.2.2 y.2.2
def ents:∀{xs:List Kv}{l:List DictEntry},Paired (zrQ w) xs l->∃ys:List Ent,l=ys.map (entT w)/\Paired EntP xs ys:=by
 intro xs l r
 induction r with
 | nil=>exact⟨[],O,.nil⟩
 | @cons x e xs l h r ih=>
  obtain⟨ys,e1,e2⟩:=ih;refine⟨(x.1,e.key,e.val)::ys,?_,.cons ⟨O,h.2.1,h.2.2⟩ e2⟩;rw[JX,<-e1];have:e=entT w (x.1,e.key,e.val):=by cases e;have h1:=h.1;simp only at h1;simp[entT,h1]
  rw[<-this]
def zjC:∀{xs:List Kv}{ys:List Ent},Paired EntP xs ys->∀y∈ys,∃x∈xs,EntP x y:=by
 intro xs ys r
 induction r with
 | nil=>intro y hy;exact nomatch hy
 | @cons x e xs l h r ih=>
  intro y hy;rcases JJ.mp hy with rfl | hy
  ·exact⟨x,JO,h⟩
  ·obtain⟨z,hz,p⟩:=ih y hy;exact⟨z,Jj _ hz,p⟩
theorem zgL:∀{xs:List Kv}{ys:List Ent},Paired EntP xs ys->ys.map (·.1)=xs.map (·.1):=by
 intro xs ys r
 induction r with
 | nil=>rfl
 | @cons x e xs l h r ih=>rw[JX,JX,h.1,ih]
def zeN {x:Kv}{xs:List Kv}{t:Th}(e:x.1=t):vT (x::xs) t=Y x.2.2:=by simp[vT,Nm,e]
theorem zct {x:Kv}{xs:List Kv}{t:Th}(e:¬x.1=t):vT (x::xs) t=vT xs t:=by simp[vT,Nm,e]
def zqb {xs:List Kv}(h:vT xs t=U):∀x∈xs,x.1≠t:=by intro x hx e;rw[vT,Option.map_eq_none_iff,List.find?_eq_none] at h;exact h x hx (by simpa using e)
theorem zp1 (xs:List Kv)(t u:Th)(y v:V)(h:vT xs t=U):vT (xs++ [(t,y,v)]) u=if u=t then Y v else vT xs u:=by
 unfold vT;rw[List.find?_append];by_cases e:u=t
 ·subst e;rw[av rfl];unfold vT at h;rw[Option.map_eq_none_iff] at h;rw[h];simp
 ·rw[au e];have:List.find? (λx=>decide (x.1=u)) [(t,y,v)]=U:=by have e':¬t=u:=λq=>e q.symm;simp[Nm,e']
  rw[this];simp
theorem zid:∀{xs:List Kv}{ys:List Ent}{t:Th},Paired EntP xs ys->(∀(j:Nat)(p:aD ×aD),ys[j]? ≠Y (t,p))->vT xs t=U:=by
 intro xs ys t r
 induction r with
 | nil=>intro _;rfl
 | @cons x e xs l h r ih=>intro no;have n0:¬x.1=t:=λq=>no 0 e.2 (by rw[<-q,<-h.1];rfl);rw[zct n0];exact ih λj p=>no (j+1) p
def zgf {t:Th}{p:aD ×aD}(r:Paired EntP xs ys):∀{j:Nat},(xs.map (·.1)).Nodup->ys[j]? =Y (t,p)->∃v,vT xs t=Y v/\RelV v p.2:=by
 induction r with
 | nil=>intro j _ q;rw[List.getElem?_nil] at q;cases q
 | @cons x e xs l h r ih=>
  intro j nd q;cases j with
  | zero=>rw[List.getElem?_cons_zero] at q;have q':=JP q;have h1:=h.1;have h3:=h.2.2;rw[q'] at h1 h3;exact⟨x.2.2,zeN h1.symm,h3⟩
  | succ j=>
   rw[List.getElem?_cons_succ] at q;rw[JX,Np] at nd;have n0:¬x.1=t:=λz=>nd.1 (by
    rw[<-zgL r,z];exact No.mpr ⟨_,J2 q,O⟩)
   rw[zct n0];exact ih nd.2 q
section
variable {X:Cx}{bH:QE}{σ:L2.St}{H:Hp}{s:aM}{d:aE}{xs:List Kv}{t:Th}{y v:V}{key r:aD}{A:aU}{E:QC}
def zfW (I:L2.Inv X bH σ H s)(e:H d=Y (TD X.w d xs)):IsTD X.w d xs s.heap:=(show zB X.prog X.w H s.heap d (TD X.w d xs) from I.hok d _ e).1
def zk9 (hu:A.units+40 < bn)(I:L2.Inv X bH σ H s)(kd:Keyed H xs)(rt:Rep H t y)(h8:dep t<=8)(ry:RelV y key){o:Obj}{es:Array DictEntry}{ep:Nat}{ys:List Ent}
  (ho:s.heap.get? d=Y o) (hd:o.data=.dict es ep) (he:es.toList=ys.map (entT X.w)) (pp:Paired EntP xs ys):FK X.w A s d o es ep ys t key where
 tv:=TV.of I rt ry
 h8:=h8
 ho:=ho
 hd:=hd
 he:=he
 is:=λb hb=>by obtain⟨x,hx,e1,e2,_⟩:=zjC pp b hb;obtain⟨k1,k2⟩:=kd.1 x hx;rw[e1];exact⟨TV.of I k1 e2,k2⟩
 eq:=λb hb=>by obtain⟨x,hx,e1,e2,_⟩:=zjC pp b hb;obtain⟨k1,k2⟩:=kd.1 x hx;rw[e1];exact zgb I k1 rt e2 ry ()
 nd:=by rw[zgL pp];exact kd.2
def zhd {Q:Option aD->aM->Prop}(hu:A.units+40 < bn)(I:L2.Inv X bH σ H s)(e:H d=Y (TD X.w d xs))(kd:Keyed H xs)(rt:Rep H t y)(h8:dep t<=8)(hn:t≠ .non)(ry:RelV y key)
  (h:∀k o,RelO (vT xs t) o->Q o {s with toks:=k}):aW (aY X.prog X.w) A (dictGet d key) Q E s:=by
 obtain⟨_,_,o,es,ep,ho,_,hd,hp⟩:=zfW I e;obtain⟨ys,he,pp⟩:=ents hp;unfold dictGet
 try with_reducible refine bb ?_
 refine Ja (ziq (s:=s) (n:=s.toks) (TV.of I rt ry) () λk=>Ja (zih (s:={s with toks:=k}) (zk9 (A:=A) hu (I.tok k) kd rt h8 ry ho hd he pp) hn ?_ ?_))
 ·intro hno;have z:=zid pp hno;exact bc (h k U (by rw[z];trivial))
 ·intro j p hj;obtain⟨v,e1,e2⟩:=zgf pp kd.2 hj;refine Ja (wpAny_dictEntries (s:={s with toks:=k}) ho hd ?_);rw[zcB he j,hj];exact bc (h k (Y p.2) (by rw[e1];exact e2))
def zmG {Q:QD}(hu:A.units+40 < bn)(I:L2.Inv X bH σ H s)(e:H d=Y (TD X.w d xs))(kd:Keyed H xs)(rt:Rep H t y)(h8:dep t<=8)(hn:t≠ .non)(ry:RelV y key)(rv:RelV v r)
  (hv:vT xs t=U) (hl:xs.length < aQ) (h:∀s',L2.Inv X bH σ (upd H d (TD X.w d (xs++ [(t,y,v)]))) s'->Q Unit.unit s'):aW (aY X.prog X.w) A (dictSet d key r) Q E s:=by
 obtain⟨hm,_,o,es,ep,ho,hc,hd,hp⟩:=zfW I e;obtain⟨ys,he,pp⟩:=ents hp;unfold dictSet
 try with_reducible refine bb ?_
 refine Ja (ziq (s:=s) (n:=s.toks) (TV.of I rt ry) () λk=>?_);unfold dictSetHashed
 try with_reducible refine bb ?_
 refine Ja (zih (s:={s with toks:=k}) (zk9 (A:=A) hu (I.tok k) kd rt h8 ry ho hd he pp) hn ?_ ?_)
 ·intro hno;have hz:es.size<=aQ:=by have z1:=zdP he;have z2:=Paired.length pp;lia
  refine Ja (wpAny_rule (wpAny_updateDictKeys (hz:=hz) (s:={s with toks:=k}) ho hd (h _ (zdZ (t':=k) (I.tok k) (by rw[e];trivial) (Heap.SameBut.update ..) ⟨_,JZ _ ho (Obj.isFreed_of_dict (Obj.data_mapDictKeys hd _))⟩ (zlr ⟨hm,?_,?_⟩)))))
  ·rw[JF];simp only[JM,Nn];lia
  ·refine⟨_,_,ep+1,JZ _ ho (Obj.isFreed_of_dict (Obj.data_mapDictKeys hd _)),hc.mapDictKeys _,Obj.data_mapDictKeys hd _,?_⟩;rw[Array.toList_push];exact Paired.snoc hp ⟨O,ry,rv⟩
 ·intro j p hj;obtain⟨v',e1,_⟩:=zgf pp kd.2 hj;rw[hv] at e1;cases e1
end
def TGet (w:aH)(H:Hp)(a:aE)(y:V)(o:Option V):Prop:=∃xs t,H a=Y (TD w a xs)/\Keyed H xs/\Rep H t y/\dep t<=8/\t≠ .non/\o=vT xs t
def zut (w:aH)(td ty:TE):TE:=fun σ H Q=>td σ H λx H1=>ty σ H1 λy H2=>∃a v,x=.ref a/\TGet w H2 a y (Y v)/\Q v H2
def zrz (w:aH):TE:=λ_ H Q=>∀p,H p=U->Q (.ref p) (upd H p (TD w p []))
section
variable {X:Cx}{bH:QE}{σ:L2.St}{H:Hp}{s:aM}{a:aE}{y v:V}{u r:aD}{o:Option V}{A:aU}{E:QC}
def zcZ (I:L2.Inv X bH σ H s)(g:TGet X.w H a y o):s.TypeIs (.ref a) "dict" :=by obtain⟨xs,t,e,_⟩:=g;obtain⟨_,_,o,es,ep,ho,hc,_⟩:=zfW I e;exact⟨o,ho,hc.1⟩
def zl3 {Q:QC}(hu:A.units+50 < bn)(I:L2.Inv X bH σ H s)(g:TGet X.w H a y (Y v))(ry:RelV y u)(h:∀w' s',L2.Inv X bH σ H s'->RelV v w'->Q w' s'):
  aW (aY X.prog X.w) A (getItem (.ref a) u) Q E s:=by
 have hT:=zcZ I g;obtain⟨xs,t,e,kd,rt,h8,hn,l⟩:=g;unfold getItem
 try with_reducible refine bb ?_
 refine Ja (wpAny_sequenceKey hT () ?_);refine Ja (bw (name:=bz "__getitem__") hT slot_dict_getitem
  (bA slot_dict_getitem hT entry_dict_getitem ?_ (args_dict_getitem _ _)))
 show aW _ _ (dictGet a u >>=_) _ _ s;refine Ja (zhd (A:=A.in1) (show A.units+1+40 < bn by lia) I e kd rt h8 hn ry λk o' ro=>?_);rw[<-l] at ro;obtain⟨w',rfl,rw'⟩:=RelO.some_of ro;exact bc ⟨w',O,bc (h w' _ (I.tok _) rw')⟩
end
section
variable {X:Cx}{o i value:aX}{pos pos' tpos:Pos}{td ty tv:TE}
def zqg (hu:X.A.units+50 < bn)(ho:PE X o td)(hi:PE X i ty)(hs:NoSl i):PE X (.Subscript o i pos) (zut X.w td ty):=by intro bH s σ H Q I h;refine zlq PySem.F.slot_dict_getitem.lookup hs (thn (ho bH s σ H _ I h) λu s1 ⟨x,H1,I1,rx,q1⟩=>thn (hi bH s1 σ H1 _ I1 q1) λiv s2 ⟨y,H2,I2,ry,a,v,ex,g,q2⟩=>?_);subst ex;obtain rfl:u=aP a:=rx;exact⟨zcZ I2 g,zl3 hu I2 g ry λw' s3 I3 rw'=>⟨v,H2,I3,rw',q2⟩⟩
def znt (h:aF)(hb:sysModules < h.objs.size):zB P w H (h.push {cls:=.type "dict",data:=.dict #[]}) h.objs.size (TD w h.objs.size []):=
 zlr ⟨beq_eq_false_iff_ne.mpr (aV (Jl hb)),JN _,_, #[],0,JL _ rfl,⟨O,O,O⟩,O,.nil⟩
def zqd:PE X (.Dict [] [] pos) (zrz X.w):=λbH s σ H Q I h=>
 wpAny_Dict_empty ⟨.ref s.heap.objs.size,_,I.laid (a:=s.heap.objs.size) (o:=TD X.w s.heap.objs.size []) (t':=s.toks) (λ_ _ q=>JE _ q) (Jb _) (znt s.heap I.big),O,h _ (I.hok.fresh (Jb _))⟩
end
end Pv
namespace Pv
open PySem L2
def hu_t (hr:Room k A):A.units+50 < bn:=Jy (Nat.add_le_add_left (by decide:50<=64) _) hr.units
end Pv
set_option maxHeartbeats 4000000
namespace Pv
open PySem L2 PySem.Spec PyProof.Rows
theorem Paired.erase {α β:Type}{F:α->β->Prop}:∀{xs:List α}{ys:List β}(j:Nat),Paired F xs ys->Paired F (xs.eraseIdx j) (ys.eraseIdx j)
 | [],[],_,.nil=>.nil
 | _::_,_::_,0,.cons _ r=>r
 | _::_,_::_,j+1,.cons h r=>.cons h (Paired.erase j r)
theorem Paired.set {α β:Type}{F:α->β->Prop}{a:α}{b:β}(h:F a b):∀{xs:List α}{ys:List β}(j:Nat),Paired F xs ys->Paired F (xs.set j a) (ys.set j b)
 | [],[],_,.nil=>.nil
 | _::_,_::_,0,.cons _ r=>.cons h r
 | _::_,_::_,j+1,.cons h' r=>.cons h' (Paired.set h j r)
theorem Paired.at {α β:Type}{F:α->β->Prop}:∀{xs:List α}{ys:List β}{j:Nat}{y:β},Paired F xs ys->ys[j]? =Y y->∃x,xs[j]? =Y x/\F x y
 | [],[],_,_,.nil,e=>by simp at e
 | _::_,_::_,0,_,.cons h _,e=>⟨B,by cases e;exact h⟩
 | _::_,_::_,j+1,_,.cons _ r,e=>Paired.at (j:=j) r e
theorem zpc {xs:List Kv}{j:Nat}{x:Kv}{v:V}(h:xs[j]? =Y x):(xs.set j (x.1,x.2.1,v)).map (·.1)=xs.map (·.1):=by
 rw[List.map_set];refine List.ext_getElem? λi=>?_;rw[List.getElem?_set,JV];by_cases e:j=i
 ·subst e;have hj:=(JG.mp h).1;rw[av rfl,av (by rw[JI];exact hj),h];rfl
 ·rw[au e]
def zs0 {xs:List Kv}{j:Nat}{x:Kv}{v:V}:(xs.map (·.1)).Nodup->xs[j]? =Y x->vT (xs.set j (x.1,x.2.1,v)) x.1=Y v:=by
 induction xs generalizing j with
 | nil=>intro _ h;cases h
 | cons z r ih=>
  intro hn h;cases j with
  | zero=>cases h;exact zeN rfl
  | succ j=>rw[JX,Np] at hn;have hr:r[j]? =Y x:=h;rw[List.set_cons_succ,zct λe=>hn.1 (by rw[e];exact No.mpr ⟨x,J2 hr,O⟩)];exact ih hn.2 hr
section
variable {X:Cx}{bH:QE}{σ:L2.St}{H:Hp}{s:aM}{d a:aE}{xs:List Kv}{t:Th}{y v:V}{key r u:aD}{A:aU}{E:QC}
def zks {Q:QD}(hu:A.units+40 < bn)(I:L2.Inv X bH σ H s)(e:H d=Y (TD X.w d xs))(kd:Keyed H xs)(rt:Rep H t y)(h8:dep t<=8)(hn:t≠ .non)(ry:RelV y key)(rv:RelV v r)
  (hl:xs.length < aQ) (h:∀xs' s',Keyed H xs'->vT xs' t=Y v->xs'.length<=xs.length+1->L2.Inv X bH σ (upd H d (TD X.w d xs')) s'->Q Unit.unit s'):aW (aY X.prog X.w) A (dictSet d key r) Q E s:=by
 cases hv:vT xs t with
 | none=>
  refine zmG hu I e kd rt h8 hn ry rv hv hl λs' I'=>h _ s' ⟨λx hx=>?_,?_⟩ ?_ ?_ I'
  ·rcases Jk.mp hx with hx | hx
   ·exact kd.1 x hx
   ·rw[Ji.mp hx];exact⟨rt,h8⟩
  ·rw[JU,List.nodup_append];refine⟨kd.2,Np.mpr ⟨λz=>(nomatch z),List.nodup_nil⟩,λz hz z' hz'=>?_⟩;obtain⟨x,hx,rfl⟩:=No.mp hz;rw[Ji.mp hz'];exact zqb hv x hx
  ·rw[zp1 _ _ _ _ _ hv,av rfl]
  ·rw[JF];exact Jb _
 | some v0=>
 obtain⟨hm,hlen,o,es,ep,ho,hc,hd,hp⟩:=zfW I e;obtain⟨ys,he,pp⟩:=ents hp;unfold dictSet
 try with_reducible refine bb ?_
 refine Ja (ziq (s:=s) (n:=s.toks) (TV.of I rt ry) () λk=>?_);unfold dictSetHashed
 try with_reducible refine bb ?_
 refine Ja (zih (s:={s with toks:=k}) (zk9 (A:=A) hu (I.tok k) kd rt h8 ry ho hd he pp) hn ?_ ?_)
 ·intro hno;rw[zid pp hno] at hv;cases hv
 ·intro j p hj;obtain⟨x,hx,e1,e2,e3⟩:=Paired.at pp hj;have e1':x.1=t:=e1.symm;have hxm:=J2 hx;refine Ja (wpAny_rule (Ja (wpAny_updateDict (s:={s with toks:=k}) ho hd (wpAny_point (h (xs.set j (x.1,x.2.1,v)) _ ⟨λz hz=>?_,?_⟩ ?_ ?_ (zdZ (t':=k) (I.tok k) (by rw[e];trivial) (Heap.SameBut.update ..) ⟨_,JZ _ ho (Obj.isFreed_of_dict (Obj.data_mapDict hd _))⟩ (zlr ⟨hm,?_,?_⟩)))) (by rw[Array.size_modify];exact Jb _))))
  ·rcases List.mem_or_eq_of_mem_set hz with hz | rfl
   ·exact kd.1 z hz
   ·exact kd.1 x hxm
  ·rw[zpc hx];exact kd.2
  ·rw[<-e1'];exact zs0 kd.2 hx
  ·rw[List.length_set];exact Nat.le_succ _
  ·rw[List.length_set];exact hlen
  ·refine⟨_,_,_,JZ _ ho (Obj.isFreed_of_dict (Obj.data_mapDict hd _)),hc.mapDict _,Obj.data_mapDict hd _,?_⟩;have hj2:es.toList[j]? =Y (entT X.w (t,p)):=by rw[he,JV,hj];rfl
   have hmod:(es.modify j λe=>{e with val:=r}).toList=es.toList.set j {entT X.w (t,p) with val:=r}:=by
    refine List.ext_getElem? λi=>?_;rw[Nb,Array.getElem?_modify,List.getElem?_set,<-Nb];by_cases z:j=i
    ·subst z;have hjl:=(JG.mp hj2).1;rw[av rfl,av rfl,av hjl,hj2];rfl
    ·rw[au z,au z]
   rw[hmod];exact Paired.set ⟨by show(entT X.w (t,p)).hash=_;rw[e1'];rfl,e2,rv⟩ j hp
def zmn {Q:QC}(hu:A.units+50 < bn)(I:L2.Inv X bH σ H s)(e:H a=Y (TD X.w a xs))(kd:Keyed H xs)(rt:Rep H t y)(h8:dep t<=8)(hn:t≠ .non)(ry:RelV y key)(hv:vT xs t=Y v)
  (h:∀xs' s' w',Keyed H xs'->xs'.length<=xs.length->L2.Inv X bH σ (upd H a (TD X.w a xs')) s'->RelV v w'->Q w' s'):aW (aY X.prog X.w) A (call (.builtin "dict.pop") [.ref a,key]) Q E s:=by
 obtain⟨hm,hlen,o,es,ep,ho,hc,hd,hp⟩:=zfW I e;obtain⟨ys,he,pp⟩:=ents hp;have hT:s.TypeIs (.ref a) "dict" :=⟨o,ho,hc.1⟩;have l1:=Paired.length pp;have l2:=zdP he;refine bA PySem.F.slot_dict_pop hT PySem.F.entry_dict_pop ?_ (PySem.F.args_dict_pop_2 _ _);show aW _ _ (Builtin.«dict.pop» ⟨[.ref a,key],[]⟩) _ _ s;unfold Builtin.«dict.pop»;refine Ja ?_;unfold Builtin.Dict.keyAndDefault;refine Ja (wpAny_notOrdered_dict hT ?_);show aW _ _ (pure (a,key,U)) _ _ s;refine bc ?_;have hne:es.isEmpty=G:=by
  cases z:es.isEmpty with
  | false=>rfl
  | true=>
   have z':es.size=0:=by simpa using z
   have:xs=[]:=List.length_eq_zero_iff.mp ();rw[this] at hv;cases hv
 dsimp only;split
 rotate_left
 refine Ja (wpAny_dictEntries ho hd (Ja (bc ?_)));rw[hne]
 rotate_left
 refine Ja (bc ?_)
 all_goals
  simp only[Nq,if_false];refine Ja ?_;unfold Builtin.Dict.takeOut
  try with_reducible refine bb ?_
  refine Ja (ziq (s:=s) (n:=s.toks) (TV.of I rt ry) (by show A.units+1+4 * dep t < bn;lia) λk=>?_);refine Ja (zih (s:={s with toks:=k}) (zk9 (A:=A.in1) (show A.units+1+40 < bn by lia) (I.tok k) kd rt h8 ry ho hd he pp) hn ?_ ?_)
  ·intro hno;rw[zid pp hno] at hv;cases hv
  ·intro j p hj;obtain⟨v',e1,e2⟩:=zgf pp kd.2 hj;rw[hv] at e1;cases e1;refine Ja (wpAny_dictEntries (s:={s with toks:=k}) ho hd ?_);rw[zcB he j,hj];refine Ja (wpAny_updateDictKeys (hz:=by lia) (s:={s with toks:=k}) ho hd (bc ?_));simp only[Option.isNone_some,Nq,if_false];refine Ja (wpAny_letGo (bc ⟨B,h (xs.eraseIdx j) _ _ ⟨λz hz=>kd.1 z (List.mem_of_mem_eraseIdx hz),?_⟩ (List.length_eraseIdx_le ..) (zdZ (t':=k) I (by rw[e];trivial) (Heap.SameBut.update ..) ⟨_,JZ _ ho (Obj.isFreed_of_dict (Obj.data_mapDictKeys hd _))⟩ (zlr ⟨hm,?_,?_⟩)) e2⟩))
   ·exact kd.2.sublist (List.Sublist.map _ (List.eraseIdx_sublist ..))
   ·exact Jg (List.length_eraseIdx_le ..) hlen
   ·refine⟨_,_,_,JZ _ ho (Obj.isFreed_of_dict (Obj.data_mapDictKeys hd _)),hc.mapDictKeys _,Obj.data_mapDictKeys hd _,?_⟩;rw[Array.toList_eraseIdxIfInBounds];exact Paired.erase j hp
def t_in {Q:QC}(hu:A.units+50 < bn)(I:L2.Inv X bH σ H s)(g:TGet X.w H a y o)(ry:RelV y u)(h:∀s',L2.Inv X bH σ H s'->Q (.bool o.isSome) s'):
  aW (aY X.prog X.w) A (a9 .In u (.ref a)) Q E s:=by
 have hT:=zcZ I g;obtain⟨xs,t,e,kd,rt,h8,hn,l⟩:=g;have hd:=(zfW I e).1;show aW _ _ (do return .bool (<-contains (.ref a) u)) Q E s;refine Ja ?_;unfold contains
 try with_reducible refine bb ?_
 refine Ja (wpAny_specialOf hT slot_dict_contains.lookup ?_);show aW _ _ (if (Y (bD "dict.__contains__")==Y aO)=Z then _ else _) _ E s;rw[au (by rw[beq_builtin_none];exact Jd)];refine Ja (wpAny_callSpecialUnlessNone?_slot (name:=bz "__contains__") hT slot_dict_contains
  (bA slot_dict_contains hT entry_dict_contains ?_ (args_dict_contains _ _)))
 show aW _ _ (dictGet a u >>=_) _ _ s;refine Ja (zhd (A:=A.in1) (show A.units+1+40 < bn by lia) I e kd rt h8 hn ry λk o' ro=>?_);rw[<-l] at ro;have q:=ro.isSome_eq;have h':=h _ (I.tok k);cases o' with
 | some p=>rw[q] at h';show aW _ _ (ret (.bool Z)) _ _ _;exact bc ⟨B,ba (bc h')⟩
 | none=>rw[q] at h';show aW _ _ (Builtin.Dict.pendingKey? a u >>=_) _ _ _;exact Ja (wpAny_pendingKey_other hd (bc ⟨B,ba (bc h')⟩))
def zsj {Q:QD}(hu:A.units+50 < bn)(I:L2.Inv X bH σ H s)(e:H a=Y (TD X.w a xs))(kd:Keyed H xs)(rt:Rep H t y)(h8:dep t<=8)(hn:t≠ .non)(hl:xs.length < aQ)(ry:RelV y u)(rv:RelV v r)
  (h:∀xs' s',Keyed H xs'->vT xs' t=Y v->xs'.length<=xs.length+1->L2.Inv X bH σ (upd H a (TD X.w a xs')) s'->Q Unit.unit s'):aW (aY X.prog X.w) A (setItem (.ref a) u r) Q E s:=by
 have hT:=zcZ (o:=vT xs t) I ⟨xs,t,e,kd,rt,h8,hn,O⟩;unfold setItem
 try with_reducible refine bb ?_
 refine Ja (wpAny_sequenceKey hT () ?_);refine Ja (bw (name:=bz "__setitem__") hT slot_dict_setitem
  (bA slot_dict_setitem hT entry_dict_setitem ?_ (args_dict_setitem _ _ _)))
 show aW _ _ (Builtin.Dict.notOrdered "__setitem__" ⟨[.ref a,u,r],[]⟩ >>=_) _ _ s;refine Ja (wpAny_notOrdered_dict hT ?_);show aW _ _ (dictSet a u r >>=_) _ _ s;exact Ja (zks (A:=A.in1) (show A.units+1+40 < bn by lia) I e kd rt h8 hn ry rv hl λxs' s' a1 a2 a3 I'=>bc ⟨.none,O,bc (h xs' s' a1 a2 a3 I')⟩)
end
def tTIn (w:aH)(ty td:TE):TE:=fun σ H Q=>ty σ H λy H1=>td σ H1 λx H2=>∃a o,x=.ref a/\TGet w H2 a y o/\Q (.bl o.isSome) H2
inductive zrA (w:aH)(x y v:V)(H:Hp)(Q:Hp->Prop):Prop
 | mk (a:aE)(xs:List Kv)(t:Th)(_:x=.ref a)(_:H a=Y (TD w a xs)) (_:Keyed H xs) (_:Rep H t y) (_:dep t<=8) (_:t≠ .non) (_:xs.length < aQ) (_:∀xs',Keyed H xs'->vT xs' t=Y v->xs'.length<=xs.length+1->Q (upd H a (TD w a xs'))):zrA w x y v H Q
def zsA (w:aH)(td ty tv:TE):TS:=λD σ H=>tv σ H λv H1=>td σ H1 λx H2=>ty σ H2 λy H3=>zrA w x y v H3 (D.nx σ)
inductive TPop (w:aH)(a:aE)(y:V)(H:Hp)(Q:L2.VK):Prop
 | mk (xs:List Kv)(t:Th)(v:V)(_:H a=Y (TD w a xs)) (_:Keyed H xs) (_:Rep H t y) (_:dep t<=8) (_:t≠ .non) (_:vT xs t=Y v) (_:∀xs',Keyed H xs'->xs'.length<=xs.length->Q v (upd H a (TD w a xs'))):TPop w a y H Q
def ztU (w:aH)(td ty:TE):TE:=fun σ H Q=>td σ H λx H1=>∃a xs,x=.ref a/\H1 a=Y (TD w a xs)/\ty σ H1 λy H2=>TPop w a y H2 Q
section
variable {X:Cx}{o i e value:aX}{pos pos' tpos apos cpos:Pos}{td ty tv:TE}
def zth (hu:X.A.units+50 < bn)(hi:PE X i ty)(ho:PE X o td):PC X .In i o (tTIn X.w ty td):=by intro bH s σ H Q I h;refine thn (hi bH s σ H _ I h) λiv s1 ⟨y,H1,I1,ry,q1⟩=>thn (ho bH s1 σ H1 _ I1 q1) λu s2 ⟨x,H2,I2,rx,a,ov,ex,g,q2⟩=>?_;subst ex;obtain rfl:u=aP a:=rx;exact t_in hu I2 g ry λs3 I3=>⟨.bl ov.isSome,H2,I3,O,q2⟩
def znL (hu:X.A.units+50 < bn)(ho:PE X o td)(hi:PE X i ty)(hv:PE X value tv)(hs:swapsWith value (Y (.Subscript o i pos')) pos.line X.env=pure G):
  PS X (.Assign [.Subscript o i pos'] value pos) (zsA X.w td ty tv):=by
 intro bH s σ H D I h;refine wpAny_Assign_Subscript (thn (hv bH s σ H _ I h) λr s1 ⟨v,H1,I1,rv,q1⟩=>thn (ho bH s1 σ H1 _ I1 q1) λu s2 ⟨x,H2,I2,rx,q2⟩=>thn (hi bH s2 σ H2 _ I2 q2) λiv s3 ⟨y,H3,I3,ry,q3⟩=>?_) hs;obtain⟨a,xs,t,rfl,e,kd,rt,h8,hn,hl,q⟩:=q3;obtain rfl:u=aP a:=rx;exact zsj hu I3 e kd rt h8 hn hl ry rv λxs' s4 a1 a2 a3 I4=>⟨σ,_,I4,q xs' a1 a2 a3⟩
def zp5 (hu:X.A.units+60 < bn)(ho:PE X o td)(he:PE X e ty)(m:M1 X o "pop" apos e cpos):PE X (.Call (.Attribute o "pop" apos) [e] [] cpos) (ztU X.w td ty):=by intro bH s σ H Q I h;refine wpAny_Call_method m.ax m.few m.line PySem.F.plainAttrs_dict PySem.F.slot_dict_pop PySem.F.type_dict_pop (thn (ho bH s σ H _ I h) λu s1 ⟨x,H1,I1,rx,a,xs,ex,ea,q1⟩=>?_);subst ex;obtain rfl:u=aP a:=rx;obtain⟨_,_,ob,_,_,hob,hc,_⟩:=zfW I1 ea;refine⟨⟨ob,hob,hc.1⟩,λb q=>by cases q;exact⟨ob,hob,hc.2.1⟩,?_⟩;rw[m.trees];refine Calls.callWith_builtin rfl (Calls.evalArgs_plain (Calls.spliced_cons (thn (he bH s1 σ H1 _ I1 q1) λiv s2 ⟨y,H2,I2,ry,q2⟩=>Calls.spliced_nil ?_)));obtain⟨xs,t,v,e,kd,rt,h8,hn,hv,q⟩:=q2;exact zmn (by show X.A.units+50 < bn;lia) I2 e kd rt h8 hn ry hv λxs' s3 w' a1 a2 I3 rw'=>⟨v,_,I3,rw',q xs' a1 a2⟩
end
end Pv
set_option maxHeartbeats 400000
namespace Pv
open PySem L2 PySem.Spec PyProof.Rows
open Classical in
noncomputable def isT (h:aF)(t:Th)(u:aD):Bool:=decide (TV h t u)
open Classical in
theorem zpq (r:TV h u v):isT h t v=eqT u t:=by
 unfold isT;cases z:eqT u t with
 | true=>have e:u=t:=(zJ u t).mp z;rw[<-e];exact aw r
 | false=>exact Jc λq=>by rw[r.inj q,z9] at z;cases z
section
variable {X:Cx}
theorem zn4 {A:aU}(I:L2.Inv X bH σ H s)(rt:Rep H t x)(rx:RelV x v)(hu:A.units+52 < bn):∀{ts:List Th}{xs:QR}{its:QO},RepL H ts xs->Vals xs its->(∀u∈ts,dep u<=50)->∀w∈its,SeqAt.EqAt A s w v (isT s.heap t w)
 | _,_,_,.nil,.nil,_=>λw hw=>nomatch hw
 | u::_,_,_,.cons h r,.cons a b,hd=>λw hw=>by
  rcases JJ.mp hw with e | hw
  ·subst e;have:=hd u JO;rw[zpq (TV.of I h a)];exact zgb I h rt a rx ()
  ·exact zn4 I rt rx hu r b (λz hz=>hd z (Jj _ hz)) w hw
end
end Pv
set_option maxHeartbeats 4000000
namespace L2
open PySem PySem.Spec PyProof.Rows PySem.SeqAt
section
variable {X:Cx}
end
end L2
set_option maxHeartbeats 400000
namespace Pv
open PySem L2 PySem.Spec PyProof.Rows SeqAt
theorem zld:∀{xs:QR}{its:QO},Vals xs its->∀(i:Nat)(v:aD),its[i]? =Y v->∃x,xs[i]? =Y x/\RelV x v
 | _,_,.cons h r,0,v,e=>by cases e;exact⟨B,h⟩
 | _,_,.cons h r,i+1,v,e=>zld r i v e
def zkx {X:Cx}(hr:Room k X.A):MtR X "list.index" (λx vs H Q=>∃(l:aE)(xs:QR)(ts:List Th)(t:Th)(y:V)(j:Nat),x=.ref l/\vs=[y]/\SqL X.K H l xs/\RepL H ts xs/\Rep H t y/\(∀u∈ts,dep u<=50)/\j < 1000/\ts[j]? =Y t/\(∀m u,m < j->ts[m]? =Y u->u≠t)/\Q (.int (j:Nat)) H):=by
 intro bH s σ H x vs v us Q I rx rv h;obtain⟨l,xs,ts,t,y,j,rfl,rfl,hq,rl,rt,hd,hj,hit,hno,q⟩:=h;cases rx;obtain⟨u,rfl,ru⟩:=rv.one;obtain⟨its,r,pl,hz⟩:=I.list hq;have hu:=hr.units;have hl:=rl.len;have hv:=r.length;have at':∀(i:Nat)(hi:i < its.length),∃w,ts[i]? =Y w/\isT s.heap t its[i]=eqT w t:=λi hi=>by obtain⟨z,ez,rz⟩:=zld r i _ (JD hi);have et:=JD (l:=ts) (i:=i) ();exact⟨_,et,zpq (TV.of I (rl.at i _ _ ez et) rz)⟩
 obtain⟨⟨cls,dd,data,sl⟩,ho,hc,n,hdd⟩:=pl.isList;simp only at hc hdd;subst hc hdd;have lj:j < its.length:=by have:=(JG.mp hit).1;lia
 refine call_meets PySem.F.slot_list_index ⟨_,ho,O⟩ PySem.F.entry_list_index (PySem.F.args_list_index_2 _ _)
  (list_indexAt l its.toArray n dd sl u (isT s.heap t) j (by simpa using lj) () ?_ ?_) ⟨ho,λw hw=>zn4 I rt ru (by first | lia | (show X.A.units+1+52 < bn;lia)) rl r hd w (by simpa using hw),⟨.int _,H,I.tok _,⟨B⟩,q⟩⟩
 ·obtain⟨w,ew,e⟩:=at' j lj;rw[hit] at ew;cases ew;show isT s.heap t its[j]=Z;rw[e];exact z9 t
 ·intro m hm lt;have hm':m < its.length:=by simpa using hm
  obtain⟨w,ew,e⟩:=at' m hm';show isT s.heap t its[m]=G;rw[e];cases z:eqT w t with
  | false=>rfl
  | true=>exact Jf ((zJ w t).mp z) (hno m w lt ew)
end Pv
set_option maxHeartbeats 4000000
namespace Px
open PySem PySem.W PySem.Builtin
open PySem.AutoSeq1 (wpAny_loadPart')
section
variable {prog:aG}{w:aH}{A:aU}{E:QC}{s:aM}
end
end Px
namespace L2
open PySem PySem.Spec PyProof.Rows Px
section
variable {X:Cx}{e:aX}{ta:TA}{p1 p2 q1 q2:Pos}
end
end L2
namespace L2
open PySem PySem.Spec PyProof.Rows PySem.SeqAt
section
variable {X:Cx}
def zq2 {x:Str}{n:Int}{p1 p2 p3:Pos}{k1 k2:Nat}:PE X (.BinOp (.Constant (.str x) k1 p1) .Mult (.Constant (.int n) k2 p2) p3) (tOp (λx y H Q=>∃(z:Str)(n:Int),x=.str z/\y=.int n/\0<=n/\n<=1000/\z.length<=1000/\(Pv.mulS z n).length<=1000/\Q (.str (Pv.mulS z n)) H) (tC (.str x)) (tC (.int n))):=zaR Pv.zpP zcw zbD
def zoY (a b:aX)(op:Operator)(pos:Pos)(es:List aX)(env:Env):a7 (.BinOp a op b pos::es) env=(G,aZ (.BinOp a op b pos) env)::a7 es env:=rfl
def zoO {a b:aX}{op:Operator}{pos:Pos}(ha:PE X (.BinOp a op b pos) te)(hr:PA X es t):PA X (.BinOp a op b pos::es) (zw te t):=zl ha hr (zoY _ _ _ _ _ _)
end
end L2
namespace Pv
open PySem L2 PySem.SeqAt
inductive Alk (K:QA)(H:Hp):Nat->V->V->Prop
 | th {n:Nat} {t:Th} {x y:V} (r:Rep H t x) (q:Rep H t y) (d:dep t<=50):Alk K H n x y
 | ls {n:Nat} {a b:aE} {xs ys:QR} (e:SqL K H a xs) (e':SqL K H b ys) (l:xs.length=ys.length) (h:∀(i:Nat)(x y:V),xs[i]? =Y x->ys[i]? =Y y->Alk K H n x y):Alk K H (n+1) (.ref a) (.ref b)
 | tp {n:Nat} {a b:aE} {xs ys:QR} (e:SqT K H a xs) (e':SqT K H b ys) (l:xs.length=ys.length) (h:∀(i:Nat)(x y:V),xs[i]? =Y x->ys[i]? =Y y->Alk K H n x y):Alk K H (n+1) (.ref a) (.ref b)
def zjo {A:aU}{s:aM}{its jts:QO}(r1:Vals xs its)(r2:Vals ys jts)(l:xs.length=ys.length)(q:∀(i:Nat)(x y:V),xs[i]? =Y x->ys[i]? =Y y->∀vx vy,RelV x vx->RelV y vy->EqAt A.in1 s vx vy Z):
  its.toArray.size=jts.toArray.size/\∀j (h1:j < its.toArray.size) (h2:j < jts.toArray.size),EqAt A.in1 s its.toArray[j] jts.toArray[j] Z:=by
 have n1:=r1.length;have n2:=r2.length;refine⟨by rw[JH,JH];lia,λj h1 h2=>?_⟩;have h1':j < its.length:=by simpa using h1
 have h2':j < jts.length:=by simpa using h2
 have e1:xs[j]? =Y xs[j]:=JD ();have e2:ys[j]? =Y ys[j]:=JD ();obtain⟨vx,ex,rx⟩:=r1.get e1;obtain⟨vy,ey,ry⟩:=r2.get e2;rw[JD h1'] at ex;rw[JD h2'] at ey;rw[List.getElem_toArray,List.getElem_toArray,JP ex,JP ey];exact q j _ _ e1 e2 vx vy rx ry
theorem all_true (n:Nat):(List.range n).all (λ_=>Z)=Z:=List.all_eq_true.mpr λ_ _=>rfl
def Alk.rc (I:L2.Inv X bH σ H s)(h:Alk X.K H n x y):∀{A:aU}{vx vy:aD},RelV x vx->RelV y vy->A.units+n+52 < bn->(RcAt A s vx vy Z/\RcNeAt A s vx vy G)/\EqAt A s vx vy Z:=by
 induction h with
 | @th n t x y r q d=>intro A vx vy rx ry hu;have h1:=rc_T I r q rx ry (A:=A) ();have h2:=zgb I r q rx ry (A:=A) ();rw[z9] at h1 h2;exact⟨h1,h2⟩
 | @ls n a b xs ys e e' l h ih=>
  intro A vx vy rx ry hu;cases (show vx=aP a from rx);cases (show vy=aP b from ry);obtain⟨its,r1,T1,_⟩:=I.list e;obtain⟨jts,r2,T2,_⟩:=I.list e';obtain⟨hsz,key⟩:=zjo (A:=A) r1 r2 l λi x y e1 e2 vx vy q1 q2=>(ih i x y e1 e2 q1 q2 (by show A.units+1+n+52 < bn;lia)).2;have R:=RcAt.lists (e:=λ_=>Z) T1.isList T2.isList hsz (show A.units < bn by lia) key;have R':=RcNeAt.lists (e:=λ_=>Z) T1.isList T2.isList hsz (show A.units < bn by lia) key;rw[all_true] at R R';refine⟨⟨R,R'⟩,?_⟩;by_cases hab:a=b
  ·subst hab;exact EqAt.same _
  ·exact EqAt.of_refs hab R
 | @tp n a b xs ys e e' l h ih=>
  intro A vx vy rx ry hu;cases (show vx=aP a from rx);cases (show vy=aP b from ry);obtain⟨its,r1,T1,_⟩:=I.tuple e;obtain⟨jts,r2,T2,_⟩:=I.tuple e';obtain⟨hsz,key⟩:=zjo (A:=A) r1 r2 l λi x y e1 e2 vx vy q1 q2=>(ih i x y e1 e2 q1 q2 (by show A.units+1+n+52 < bn;lia)).2;have R:=RcAt.tuples (e:=λ_=>Z) T1 T2 (show A.units < bn by lia) key;have R':=RcNeAt.tuples (e:=λ_=>Z) T1 T2 (show A.units < bn by lia) key;rw[all_true,hsz,beq_self_eq_true] at R R';refine⟨⟨R,R'⟩,?_⟩;by_cases hab:a=b
  ·subst hab;exact EqAt.same _
  ·exact EqAt.of_refs hab R
section
variable {X:Cx}
def zpU (hr:Room k X.A):OpR X (a9 .Eq) (λx y H Q=>Alk X.K H 6 x y/\Q (.bl Z) H):=by intro bH s σ H x y v w Q I rx ry ⟨h,q⟩;have hu:=hr.units;exact(h.rc I rx ry ()).1.1 _ _ _ _ ⟨.bl _,H,I,O,q⟩
end
end Pv
namespace L2
open PySem PySem.Spec PyProof.Rows
section
variable {X:Cx}{x y1 y2 y3:Str}{scope:Scope}{j1 j2 j3:Nat}{c1 c2 c3:aE}
end
def pickN {α:Type}(is:List Nat)(xs:List α):List α:=is.filterMap λi=>xs[i]?
def picks (n:Nat)(lo hi st:Option Int):List Nat:=sliceRange (sliceBounds lo hi st n).1 (sliceBounds lo hi st n).2.1 (sliceBounds lo hi st n).2.2
theorem Vals.pickN:∀(is:List Nat){xs:QR}{its:QO},Vals xs its->Vals (L2.pickN is xs) (L2.pickN is its)
 | [],_,_,_=>.nil
 | i::is,xs,its,r=>by
  unfold L2.pickN;rw[List.filterMap_cons,List.filterMap_cons];have hl:=r.length;by_cases h:i < xs.length
  ·have e1:xs[i]? =Y xs[i]:=JD h;obtain⟨u,e2,ru⟩:=r.get e1;rw[e1,e2];exact .cons ru (Vals.pickN is r)
  ·rw[Nc (),Nc ()];exact Vals.pickN is r
theorem zfO (its:QO)(lo hi st:Option Int):slicePick its.toArray lo hi st=(pickN (picks its.length lo hi st) its).toArray:=by unfold slicePick pickN picks;simp only[JH];congr 1;congr 1;funext i;simp
section
variable {X:Cx}{e e3:aX}{lo hi:Option aX}{te:TE}{tl th ts:St->Hp->(Option Int->Hp->Prop)->Prop}{p2 pos:Pos}
def tSl3 (K:QA)(te:TE)(tl th ts:St->Hp->(Option Int->Hp->Prop)->Prop):TE:=fun σ H Q=>te σ H λx H1=>tl σ H1 λl H2=>th σ H2 λu H3=>ts σ H3 λk H4=>∃a xs,x=.ref a/\SqL K H4 a xs/\k≠Y 0/\(picks xs.length l u k).length<=aQ/\∀p,H4 p=U->Q (.ref p) (upd H4 p (.lst (pickN (picks xs.length l u k) xs)))
def zl1 (he:PE X e te)(hl:PO X lo tl)(hu:PO X hi th)(hk:PO X (Y e3) ts):PE X (.Subscript e (.Slice lo hi (Y e3) p2) pos) (tSl3 X.K te tl th ts):=by intro bH s σ H Q I h;refine Subscript_ (thn (he bH s σ H _ I h) λv s1 ⟨x,H1,I1,r1,q1⟩=>?_);refine wpAny_Slice (thn (hl bH s1 σ H1 _ I1 q1) λvl s2 ⟨l,H2,I2,pl,q2⟩=>thn (hu bH s2 σ H2 _ I2 q2) λvu s3 ⟨u,H3,I3,pu,q3⟩=>thn (hk bH s3 σ H3 _ I3 q3) λvk s4 ⟨k,H4,I4,pk,q4⟩=>?_);obtain⟨a,xs,rfl,hx,h0,hlen,q⟩:=q4;cases r1;have I5:Inv X bH σ H4 {s4 with heap:=s4.heap.push {cls:=.type "slice",data:=.fields #[vl,vu,vk]}}:=I4.kept (t':=s4.toks) λb ob q=>JE _ q;obtain⟨its,r,ht,hz⟩:=I5.list hx;have hl2:=r.length;show aW (aY X.prog X.w) X.A (subscriptTail e (.Slice lo hi (Y e3) p2) (.ref a) (.ref s4.heap.objs.size)) (EP X bH σ Q) X.xe {s4 with heap:=s4.heap.push {cls:=.type "slice",data:=.fields #[vl,vu,vk]}};refine tail_any (ops:=[.ref a,.ref s4.heap.objs.size]) ht.isList.typeIs slot_list_getitem.lookup ?_ (by with_unfolding_all rfl);refine wpAny_getItem_list_slice ht.isList (Heap.IsSliceOf.new ..) pl pu pk h0 ?_ (by rw[JH] <;> lia);rw[zfO,<-hl2];refine⟨.ref (s4.heap.push {cls:=.type "slice",data:=.fields #[vl,vu,vk]}).objs.size,_,I5.laid (t':=s4.toks) (o:=.lst (pickN (picks xs.length l u k) xs)) (λb ob q=>JE _ q) (Jb _) ?_,O,q _ (I5.hok.fresh (Jb _))⟩;exact⟨Jg (List.length_filterMap_le _ _) hlen,_,0,r.pickN _,JL _ rfl⟩
end
end L2
namespace Pv
open PySem L2
def zmf {is:List Nat}{xs:List α}{y:α}:y∈L2.pickN is xs↔∃i∈is,xs[i]? =Y y:=by unfold L2.pickN;rw[List.mem_filterMap]
end Pv
set_option hygiene false
local macro_rules | `(tactic| infer_instance)=> `(tactic| first | assumption | rfl | exact Or.inl rfl | exact Or.inr rfl | exact Or.inr (Or.inl rfl) | exact Or.inr (Or.inr rfl) | exact za6 | exact zrH | exact zjF | exact PassesOwn.leaving | exact PassesOwn.never | exact zn7 | exact λ_=>rfl | exact λ_ _=>rfl | exact zrU (by assumption) | lia | decide)
local macro_rules | `(tactic| ac_rfl)=> `(tactic| first
 | (show PE _ _ _;first | (show PE _ (.Name _ _) _;first | apply pv 0 | apply pv 1 | apply pv 2 | apply pv 3 | apply pv 4 | apply pv 5 | apply pv 6 | apply pv 7 | apply pv 8 | apply pv 9 | apply pv 10 | apply pv 11 | apply pv 12 | apply pv 13 | apply pv 14 | (apply ztW <;> ac_rfl) | (apply bltT <;> ac_rfl) | (apply zt3 <;> ac_rfl)) | (show PE _ (.Constant _ _ _) _;first | apply zbD | apply zcw | apply zoV | apply zrS) | (show PE _ (.Call (.Name _ _) _ _ _) _;first | (apply zhq;assumption) <;> ac_rfl | (apply zki;assumption) <;> ac_rfl | (apply zsR;assumption) <;> ac_rfl | (first | (apply zC;case hv=>rfl) | (apply zc1;case hv=>rfl)) <;> ac_rfl | (apply zt7 <;> ac_rfl) | (apply zpX <;> ac_rfl) | (apply zig <;> ac_rfl) | (apply zuc <;> ac_rfl)) | (show PE _ (.Call _ _ _ _) _;first | ((first | apply zgm | apply zsH);case M=>assumption) <;> ac_rfl | (apply zsp <;> ac_rfl) | (apply zi7 PySem.F.plainAttrs_list PySem.F.slot_list_append PySem.F.type_list_append zgR <;> ac_rfl) | (apply zi7 PySem.F.plainAttrs_list PySem.F.slot_list_extend PySem.F.type_list_extend zmB <;> ac_rfl) | (apply znH PySem.F.plainAttrs_list PySem.F.slot_list_pop PySem.F.type_list_pop ztl <;> ac_rfl) | (apply zi7 PySem.F.plainAttrs_str PySem.F.slot_str_join PySem.F.type_str_join zlL <;> ac_rfl)) | (show PE _ (.Subscript _ _ _) _;first | (apply zdI <;> ac_rfl) | (apply zl1 <;> ac_rfl) | (show PE _ (.Subscript (.Attribute _ _ _) _ _) _;apply zlO <;> ac_rfl) | (apply zdi <;> ac_rfl)) | (show PE _ (.Compare _ _ _ _) _;first | (show PE _ (.Compare _ _ [.Constant _ _ _] _) _;apply zax <;> ac_rfl) | (show PE _ (.Compare _ [.NotEq] [.List _ _] _) _;apply zax (zla (by assumption)) <;> ac_rfl) | ((have:=θ;first | apply zax (zcT (by assumption)) | apply zax (zd8 (by assumption))) <;> ac_rfl) | ((apply pe_cmp;first | apply znx | apply zhp) <;> ac_rfl) | (apply zax <;> ac_rfl) | (apply zpn <;> ac_rfl)) | (apply zj2 <;> ac_rfl) | (apply zfF <;> ac_rfl) | (apply zaR <;> ac_rfl) | (apply zta <;> ac_rfl) | (apply zf4 <;> ac_rfl) | (apply zuv <;> ac_rfl) | (apply zil <;> ac_rfl) | (apply zdx <;> ac_rfl) | (apply zfs <;> ac_rfl) | (apply zt9 <;> ac_rfl) | apply zjJ)
 | (show PA _ _ _;first | apply zK | (apply zl <;> ac_rfl))
 | (show PS _ _ _;first | (show PS _ (.Assign _ _ _) _;first | (apply setA 0;rfl) <;> ac_rfl | (apply setA 1;rfl) <;> ac_rfl | (apply setA 2;rfl) <;> ac_rfl | (apply setA 3;rfl) <;> ac_rfl | (apply setA 4;rfl) <;> ac_rfl | (apply setA 5;rfl) <;> ac_rfl | (apply setA 6;rfl) <;> ac_rfl | (apply setA 7;rfl) <;> ac_rfl | (apply setA 8;rfl) <;> ac_rfl | (apply setA 9;rfl) <;> ac_rfl | (apply setA 10;rfl) <;> ac_rfl | (apply setA 11;rfl) <;> ac_rfl | (apply setA 12;rfl) <;> ac_rfl | (apply setA 13;rfl) <;> ac_rfl | (apply setA 14;rfl) <;> ac_rfl | (show PS _ (.Assign [.Subscript (.Attribute _ _ _) _ _] _ _) _;apply zqM <;> ac_rfl) | (apply zsC <;> ac_rfl) | (apply zsS <;> ac_rfl)) | (apply zQ <;> ac_rfl) | (apply zeg <;> ac_rfl) | (apply zag <;> ac_rfl) | (apply zdy <;> ac_rfl) | (apply zpk <;> ac_rfl) | (apply znN <;> ac_rfl) | apply zjx)
 | (show PSs _ _ _;first | apply zE | (apply zx <;> ac_rfl) | (apply zb <;> ac_rfl))
 | (show PT _ _ _;first | (show PT _ (.Compare _ _ _ _) _;first | (show PT _ (.Compare _ _ [.Constant _ _ _] _) _;apply zao <;> ac_rfl) | (show PT _ (.Compare _ [.NotEq] [.List _ _] _) _;apply zao (zla (by assumption)) <;> ac_rfl) | ((have:=θ;first | apply zao (zcT (by assumption)) | apply zao (zd8 (by assumption))) <;> ac_rfl) | ((apply znV;first | apply znx | apply zhp) <;> ac_rfl) | (apply zao <;> ac_rfl) | (apply zi6 <;> ac_rfl)) | (apply zcL <;> ac_rfl) | ((apply PW.pt;first | apply zj6 | apply zgS) <;> ac_rfl) | (apply zaV <;> ac_rfl))
 | (show PW _ _ _;first | (apply zlz <;> ac_rfl) | (apply zhQ <;> ac_rfl) | (apply zj6 <;> ac_rfl) | (apply zgS <;> ac_rfl))
 | (show OpR _ _ _;first | assumption | apply znD | apply zsM | apply zrK | apply zua | apply zrT | apply zrC | apply zuo | apply ztS | apply zs3 | apply zqU | apply zsy | apply znJ | apply zsq | apply zsb)
 | (show PI _ _ _ _;first | (apply zmc <;> ac_rfl) | (apply zhb <;> ac_rfl) | (apply zsv <;> ac_rfl) | (apply zqQ <;> ac_rfl) | (apply zsz <;> ac_rfl) | (apply zhT <;> ac_rfl))
 | (show PG _ _ _;first | apply nameA 0 | apply nameA 1 | apply nameA 2 | apply nameA 3 | apply nameA 4 | apply nameA 5 | apply nameA 6 | apply nameA 7 | apply nameA 8 | apply nameA 9 | apply nameA 10 | apply nameA 11 | apply nameA 12 | apply nameA 13 | apply nameA 14 | (apply zsl <;> ac_rfl) | (apply zr5 <;> ac_rfl))
 | (show PGs _ _ _;first | apply zqe | (apply znX <;> ac_rfl))
 | (show zac _ _ _;first | apply za2 | apply zS | apply zo7 | apply zng | apply zmu | apply zhy | apply zaL)
 | (show PO _ _ _;first | apply zhK | (apply zdM <;> ac_rfl))
 | (show _=_;first | rfl | assumption | exact zaF _)
 | (show IxR _ _;first | (have:=ι;apply zes) | apply zfh)
 | apply zqW
 | apply zsD
 | apply set_list
 | infer_instance)
set_option hygiene true
seal L2.PE L2.PT L2.PW L2.PA L2.PS L2.PSs L2.PC L2.PG L2.PGs L2.PSet L2.PI L2.OpR L2.UnR L2.zac L2.PO L2.SlR L2.IxR L2.PTs
namespace Pv
open PySem L2
abbrev zhf:aB:=top 88
abbrev zf2:aB:=top 89
abbrev zf9:aB:=top 90
abbrev zeU:aB:=top 91
def szl {n:Nat}(h:n<=1000):n<=aQ:=Nat.le_of_lt (zc7 h)
def RowV (H:Hp)(row:aE):Prop:=∃a m:Int,H row=Y (.lst [.int a,.int m])/\(m=0\/(m=1/\0<=a/\a < 999999937))
theorem RowV.keep (r:RowV H row)(s:Same H H'):RowV H' row:=by obtain⟨a,m,e,h⟩:=r;exact⟨a,m,s _ _ e,h⟩
theorem RowV.new {p:aE}(r:RowV H row)(h:H p=U):RowV (upd H p o) row:=by obtain⟨a,m,e,k⟩:=r;exact⟨a,m,by rw[zd (zf e h)];exact e,k⟩
theorem RowV.ne {p:aE}(r:RowV H row)(h:H p=U):p≠row:=by obtain⟨a,m,e,_⟩:=r;exact(zf e h).symm
def RowV.noT (r:RowV H row):NoT [row] H:=λb hb xs z=>by cases Ji.mp hb;obtain⟨a,m,e,_⟩:=r;rw[e] at z;cases z
theorem not1 {a b:aE}(h:a≠b):a∉ [b]:=λz=>h (Ji.mp z)
def zj {p:aE}(sm:Same H H1)(h:H1 p=U):Same H (upd H1 p o):=λb u q=>by have q':=sm b u q;rw[zd (zf q' h)];exact q'
def zbR {p:aE}(sm:Same H H1)(h:H p=U):Same H (upd H1 p o):=λb u q=>by rw[zd (zf q h)];exact sm b u q
def zc0 {p:aE}(f:Frm ws H H1)(h:H1 p=U):Frm ws H (upd H1 p o):=f.trans (Frm.new h)
def zbs {p:aE}(f:Frm ws H H1)(h:H p=U):Frm ws H (upd H1 p o):=λb u n q=>by rw[zd (zf q h)];exact f b u n q
instance decSign (c:Nat):Decidable (Sign c):=inferInstanceAs (Decidable (32<=c/\c<=126/\c≠37))
def SGs:Str:=bz " !\"#$&'()*+,-./0123456789:;<=>?@ABCDEFGHIJKLMNOPQRSTUVWXYZ[\\]^_`" ++bz "abcdefghijklmnopqrstuvwxyz{|}~"
theorem zr9:SGs.cps.toList.length=94:=by decide+kernel
def zsE:∀c∈SGs.cps.toList,Sign c:=by decide+kernel
def zt6 {r:Int}(h0:0<=r)(h1:r < 94):∃c,atI SGs.cps.toList r=Y c/\Sign c:=by
 have hl:r.toNat < SGs.cps.toList.length:=by rw[zr9];lia
 have er:r=((r.toNat:Nat):Int):=()
 have q:atI SGs.cps.toList ((r.toNat:Nat):Int)=Y SGs.cps.toList[r.toNat]:=zbt (JD hl);rw[<-er] at q;exact⟨_,q,zsE _ (Jm hl)⟩
inductive zlR (vs:QR)(H:Hp)(Q:L2.VK)(_E:XK):Prop
 | mk (c:Int)(_:vs=[.int c])(_:∀(r:aE)(H':Hp),Same H H'->RowV H' r->H r=U->Q (.ref r) H'):zlR vs H Q _E
inductive zaI (vs:QR)(H:Hp)(Q:L2.VK)(_E:XK):Prop
 | mk (row:aE)(many:Int)(_:vs=[.ref row,.int many])(_:RowV H row)(_:0 < many)(_:many < 10 ^ 100)(_:∀(r:Int)(H':Hp),0<=r->r < many->Frm [row] H H'->RowV H' row->Q (.int r) H'):zaI vs H Q _E
inductive zkD (vs:QR)(H:Hp)(Q:L2.VK)(_E:XK):Prop
 | mk (row:aE)(_:vs=[.ref row])(_:RowV H row)(_:∀(x:Str)(H':Hp),zpp x->Frm [row] H H'->RowV H' row->Q (.str x) H'):zkD vs H Q _E
def many (n:Nat):Nat:=(3 ^ (n+1) - 1) / 2
inductive zhw (n:Nat)(vs:QR)(H:Hp)(Q:L2.VK)(_E:XK):Prop
 | mk (row:aE)(deep:Nat)(_:vs=[.ref row,.int (deep:Int)]) (_:RowV H row) (_:deep < n) (_:deep<=3) (_:∀(t:Th)(v:V)(H':Hp),Wf t->dep t<=deep->nodes t<=many deep->Frm [row] H H'->RowV H' row->Rep H' t v->Q v H'):zhw n vs H Q _E
def zsg (D:Dfn K mg "_law_row" zhf ["cell"]):Fn P w K mg ax "_law_row" 1 ["cell"] zlR:=by
 refine D.ok (k:=0) (fsN ["cell","low"]) ⟨⟩;obtain⟨c,rfl,q⟩:=h;refine⟨aq⟩;refine⟨B,am,(show(0:Int) < 2 by decide),ao⟩;refine ifB (λcc=>?_) (λcc=>?_)
 ·refine⟨B,am,⟨(),by decide+kernel⟩,szl (show 2<=1000 by decide),λp hp=>?_⟩;exact q p _ (zj (Same.refl H) hp) ⟨_,_,za,.inl rfl⟩ hp
 ·have b0:0<=c % 999999937:=JA _ ();have b1:c % 999999937 < 999999937:=Jt _ ();refine⟨B,am,(show(0:Int) < 999999937 by decide),?_⟩;generalize hd:c % 999999937=d at b0 b1;have g0:0<=d * d % 999999937:=JA _ ();have g1:d * d % 999999937 < 999999937:=Jt _ ();refine⟨ap,am,.inl ⟨(),()⟩,am,(show(0:Int) < 999999937 by decide),B,am,am,.inl ⟨(),()⟩,am,am,(show(0:Int) < 999999937 by decide),szl (show 2<=1000 by decide),λp hp=>?_⟩;exact q p _ (zj (Same.refl H) hp) ⟨_,_,za,.inr ⟨O,JA _ (),Jt _ ()⟩⟩ hp
abbrev _root_.Ss:List PySem.Str:=["row","many"]
def zqc (D:Dfn K mg "_law_take" zf2 Ss):Fn P w K mg ax "_law_take" 1 Ss zaI:=by
 refine D.ok (k:=0) (fsN ["row","many","got"]) ⟨⟩;obtain⟨row,many,rfl,⟨a,m,e,hm⟩,h0,h1,q⟩:=h;refine⟨aq⟩;refine⟨B,row,aj,SqL.of e,O,ao⟩;rcases hm with rfl | ⟨rfl,a0,a1⟩
 ·refine ifT () ?_;refine⟨B,row,aj,SqL.of e,O,B,am,h0,?_⟩;refine⟨B,row,aj,SqL.of e,O,B,am,⟨h0,h1⟩,B,row,aj,e,O,?_⟩;exact⟨B,q _ _ (JA _ ()) (Jt _ h0) (Frm.upd (by simp)) ⟨_,_,za,.inl rfl⟩⟩
 ·refine ifF () ?_;refine⟨B,row,aj,SqL.of e,O,am,B,row,aj,SqL.of e,O,am,am,.inl ⟨(),()⟩,am,(show(0:Int) < 999999937 by decide),B,row,aj,e,O,?_⟩;have z0:0<=(a+32452843) * (a+86028121) % 999999937:=JA _ ();have z1:(a+32452843) * (a+86028121) % 999999937 < 999999937:=Jt _ ();refine⟨B,row,[V.int ((a+32452843) * (a+86028121) % 999999937),V.int 1],am,SqL.of za,O,am,⟨(),(),()⟩,am,.inl ⟨(),()⟩,am,B,am,h0,?_⟩;exact q _ _ (JA _ ()) (Jt _ h0) (Frm.upd (by simp)) ⟨_,_,za,.inr ⟨O,z0,z1⟩⟩
def _root_.Pv.Frm.none_of {row p:aE}(f:Frm [row] H H')(h:H' p=U)(n:p≠row):H p=U:=by
 cases e:H p with
 | none=>rfl
 | some o=>rw[f p o (not1 n) e] at h;cases h
theorem RowV.upd {p:aE}(r:RowV H row)(n:p≠row):RowV (L2.upd H p o) row:=by obtain⟨a,m,e,k⟩:=r;exact⟨a,m,by rw[zd (aV n)];exact e,k⟩
def zsc {c:Bool}{A ai:Prop}{N:L2.St->Hp->Prop}(Pq:L2.St->Hp->Prop)(b:c=G->(∀σ H,Pq σ H->N σ H)->ai)(a:c=Z->(∀σ H,Pq σ H->N σ H)->A)(rest:∀σ H,Pq σ H->N σ H):if c=Z then A else ai:=
 ifB (λh=>a h rest) (λh=>b h rest)
theorem zlG:∀ds:List Nat,(((ds.map λc=>tx [c])).map (·.length)).sum=ds.length
 | []=>rfl
 | d::r=>by have:=zlG r;rw[JX,JX,List.sum_cons,this,JM,zoD];show 1+r.length=r.length+1;lia
theorem znl (ds:List Nat):Str.join (bz "") (ds.map λc=>tx [c])=tx ds:=by
 rw[show bz "" =tx [] from rfl,show(ds.map λc=>tx [c])=(ds.map λc=>[c]).map tx from by rw[List.map_map];rfl,zqA];congr 1
 induction ds with
 | nil=>rfl
 | cons d r ih=>rw[JX,List.flatten_cons,ih];rfl
def zqa (D:Dfn K mg "_law_text" zf9 ["row"]) (zV:Fn P w K mg ax "_law_take" 1 Ss zaI) (zaz:mg "range" =U):Fn P w K mg ax "_law_text" 2 ["row"] zkD:=by
 refine D.ok (k:=1) (fsN ["row","signs","many"]) ⟨⟩;obtain⟨row,rfl,R0,q⟩:=h;refine⟨_,(zb ∅
 (zb (setA 1 rfl (zaR zkK (pv 1) zcw))
 (zb ∅
 (zb ∅
 (zx (zQ (zi7 PySem.F.plainAttrs_str PySem.F.slot_str_join PySem.F.type_str_join zlL zcw (zl (zbl (zo.two (y1:= "signs") (y2:= "row") (j1:=1) (j2:=0) (c1:=s.heap.objs.size+2) (c2:=s.heap.objs.size+1) (by rfl) (by rfl) (by decide+kernel) (by decide+kernel) (by rfl) (by decide+kernel) (by decide+kernel) (by decide+kernel) (by rfl) (by rfl) (by decide+kernel) (by rfl) (by rfl) (by first | exact Or.inl rfl | exact Or.inr rfl) (by first | exact Or.inl rfl | exact Or.inr rfl) (by first | exact Or.inl rfl | exact Or.inr rfl) (by first | exact Or.inl rfl | exact Or.inr rfl)) rfl ∅ (λ_ _ _=>za5) (λ_ _ _=>(zdi zsu (pv 1) ∅ (λ_ _=>O)))) zK)))))))),?_⟩
 refine⟨B,am,szl (by decide+kernel),?_⟩;refine⟨B,row,B,R0,(show(0:Int) < 9 by decide),(by decide+kernel),λn1 H1 a0 a1 f1 R1=>?_⟩;refine⟨B,ao⟩;refine zsc (fun σ' H'=>∃n:Int,σ'=[Y (.ref row),Y (.str SGs),Y (.int n)]/\0<=n/\n<=60/\Frm [row] H H'/\RowV H' row) (λ_ k=>k _ _ ⟨n1,O,a0,(),f1,R1⟩) (λ_ k=>?_) ?_
 ·refine⟨B,row,B,R1,(show(0:Int) < 61 by decide),(by decide+kernel),λn2 H2 b0 b1 f2 R2=>?_⟩;exact k _ _ ⟨n2,O,b0,(),f1.trans f2,R2⟩
 ·rintro σ' H2 ⟨n,rfl,n0,n60,f2,R2⟩;refine⟨O,ap,(),(),λp hp=>?_⟩;have hHp:=f2.none_of hp (R2.ne hp);refine zaN (J:=Itr 0 n.toNat) (n:=n.toNat) (λi acc H'=>∃ds:List Nat,acc=(ds.map λc=>tx [c]).map V.str/\ds.length=i/\(∀c∈ds,Sign c)/\Frm [row] H H'/\RowV H' row/\H' p=Y (.lst acc)/\p≠row) ⟨[],O,O,(λc h=>nomatch h),zc0 f2 hp,R2.new hp,za,R2.ne hp⟩ (by exact λi acc H' hi _=>hi) (by exact λacc H' _=>Jb _) ?_ ?_
  ·rintro i acc H' y H'' hi ⟨ds,ha,hl,hs,f3,R3,ep,npr⟩ ⟨e1,e2⟩;subst e1 e2;refine tt1 ?_;refine⟨ap,row,B,R3,(show(0:Int) < 94 by decide),(by decide+kernel),λu H4 u0 u1 f4 R4=>?_⟩;obtain⟨c,ec,hc⟩:=zt6 u0 u1;have hal:acc.length=i:=by rw[ha,JI,JI,hl]
   refine⟨SGs,_,c,O,O,szl (by decide+kernel),ec,f4.at ep (not1 npr),Je (show acc.length < 1000 by lia) (szl (Jb _)),nxt hi ⟨ds++ [c],?_,by rw[JF,hl];rfl,?_,?_,?_,za,npr⟩⟩
   ·rw[ha,JU,JU];rfl
   ·intro d hd;rcases Jk.mp hd with z | z
    ·exact hs d z
    ·rw[Ji.mp z];exact hc
   ·exact zbs (f3.trans f4) hHp
   ·exact R4.upd npr
  ·rintro acc H' ⟨ds,ha,hl,hs,f3,R3,ep,npr⟩;refine⟨_,p,ds.map λc=>tx [c],O,O,by rw[ep,ha],?_,?_⟩
   ·rw[zlG,show(bz "").length=0 from rfl];lia
   rw[znl];exact q (tx ds) H' ⟨by rw[zoD];lia,by rw[show(tx ds).cps.toList=ds from by simp[tx]];exact hs⟩ f3 R3
theorem Frm.tupsV {row:aE}(f:Frm [row] H H')(r:RowV H row):Tups H H':=Frm.ay f r.noT
def zuR {n:Nat}(h:n<=3):many n<=40:=by
 match n,h with
 | 0,_=>decide
 | 1,_=>decide
 | 2,_=>decide
 | 3,_=>decide
def zmZ {n:Nat}(h:n<=2):1+3 * many n<=many (n+1):=by
 match n,h with
 | 0,_=>decide
 | 1,_=>decide
 | 2,_=>decide
def zoQ {n:Nat}(h:n<=3):1<=many n:=by
 match n,h with
 | 0,_=>decide
 | 1,_=>decide
 | 2,_=>decide
 | 3,_=>decide
theorem zjt (D:Dfn K mg "_law_thing" zeU ["row","deep"]) (zV:Fn P w K mg ax "_law_take" 1 Ss zaI) (zkN:Fn P w K mg ax "_law_text" 2 ["row"] zkD) (zaz:mg "range" =U) (zI:mg "tuple" =U):
  ∀n:Nat,Fn P w K mg ax "_law_thing" (n+2) ["row","deep"] (zhw n)
 | 0=>D.never λvs H Q E h=>by obtain⟨row,deep,_,_,h1,_⟩:=h;lia
 | n+1=>by
  have zjK:=zjt D zV zkN zaz zI n;refine D.ok (k:=n+2) (fsN ["row","deep","kind"]) ⟨⟩;obtain⟨row,deep,rfl,R0,d1,d3,q⟩:=h;refine⟨_,(zb ∅
 (zb ∅
 (zb ∅
 (zb ∅
 (zb ∅
 (zb ∅
 (zx (zQ (zc1 zaL (by rfl) zI (by rfl) (zl (zbl (zo.two (y1:= "row") (y2:= "deep") (j1:=0) (j2:=1) (c1:=s.heap.objs.size+1) (c2:=s.heap.objs.size+2) (by rfl) (by rfl) (by decide+kernel) (by decide+kernel) (by rfl) (by decide+kernel) (by decide+kernel) (by decide+kernel) (by rfl) (by rfl) (by decide+kernel) (by rfl) (by rfl) (by first | exact Or.inl rfl | exact Or.inr rfl) (by first | exact Or.inl rfl | exact Or.inr rfl) (by first | exact Or.inl rfl | exact Or.inr rfl) (by first | exact Or.inl rfl | exact Or.inr rfl)) rfl ∅ (λ_ _ _=>za5) (λ_ _ _=>∅)) zK)))))))))),?_⟩
  have e30:(10:Int) ^ (30:Int).toNat=1000000000000000000000000000000:=by decide+kernel
  have mp:=zoQ d3;refine⟨B,row,B,R0,(show(0:Int) < 7 by decide),(by decide+kernel),λkind H1 k0 k1 f1 R1=>?_⟩;refine⟨B,ao⟩;refine ifB (λc=>?_) (λc=>?_)
  ·refine⟨B,row,B,R1,(show(0:Int) < 9 by decide),(by decide+kernel),λr H2 r0 r1 f2 R2=>?_⟩;exact⟨am,q (.int _) _ H2 ⟨(),()⟩ (JN _) mp (f1.trans f2) R2 (.int _)⟩
  refine⟨B,ao⟩;refine ifB (λc=>?_) (λc=>?_)
  ·refine⟨B,am,⟨(),(),()⟩,am,.inl ⟨(),()⟩,am,row,B,R1,(by decide+kernel),(by decide+kernel),λr H2 r0 r1 f2 R2=>?_⟩;refine⟨am,⟨(),(),()⟩,am,q (.int _) _ H2 ?_ (JN _) mp (f1.trans f2) R2 (.int _)⟩;rw[e30] at r1 ⊢;exact⟨(),()⟩
  refine⟨B,ao⟩;refine ifB (λc=>?_) (λc=>?_)
  ·refine⟨B,szl (show 4<=1000 by decide),λp hp=>?_⟩;refine⟨B,row,B,R1.new hp,(show(0:Int) < 4 by decide),(by decide+kernel),λr H2 r0 r1 f2 R2=>?_⟩;have ep:=f2.at (za (H:=H1) (a:=p) (o:=.lst [.str ("raaAdRnaccsome" :Str),.str ("ElmfalQlaasome" :Str),.int 251530379464423,.int (-1285000000000000000)])) (not1 (R1.ne hp));have f02:Frm [row] H H2:=(zc0 f1 hp).trans f2;rcases(show r=0\/r=1\/r=2\/r=3 by lia) with rfl | rfl | rfl | rfl
   ·exact⟨p,aj,SqL.of ep,O,q (.str _) _ H2 ⟨by decide+kernel,by decide+kernel⟩ (JN _) mp f02 R2 (.str _)⟩
   ·exact⟨p,aj,SqL.of ep,O,q (.str _) _ H2 ⟨by decide+kernel,by decide+kernel⟩ (JN _) mp f02 R2 (.str _)⟩
   ·exact⟨p,aj,SqL.of ep,O,q (.int _) _ H2 ⟨(),()⟩ (JN _) mp f02 R2 (.int _)⟩
   ·exact⟨p,aj,SqL.of ep,O,q (.int _) _ H2 ⟨(),()⟩ (JN _) mp f02 R2 (.int _)⟩
  refine⟨B,ao⟩;refine ifB (λc=>?_) (λc=>?_)
  ·exact q .non _ H1 trivial (JN _) mp f1 R1 .non
  refine⟨B,ao⟩;refine ifB (λc1=>?_) (λc1=>?_)
  ·refine ifT rfl ?_;exact⟨B,row,O,R1,λx H2 hx f2 R2=>q (.str x) _ H2 hx (JN _) mp (f1.trans f2) R2 (.str x)⟩
  refine⟨B,ao⟩;rw[zaa];refine ifB (λc2=>?_) (λc2=>?_)
  ·exact⟨B,row,O,R1,λx H2 hx f2 R2=>q (.str x) _ H2 hx (JN _) mp (f1.trans f2) R2 (.str x)⟩
  have dpos:(deep:Int)≠0:=of_decide_eq_false c2;have hde:(deep:Int) - 1=((deep - 1:Nat):Int):=()
  have hms:=zmZ (n:=deep - 1) ();rw[show deep - 1+1=deep from by lia] at hms;refine⟨B,row,B,R1,(show(0:Int) < 4 by decide),(by decide+kernel),λm H2 m0 m1 f2 R2=>?_⟩;refine⟨B,(),(),λp hp=>?_⟩;have f02:=f1.trans f2;have hHp:=f02.none_of hp (R2.ne hp);refine zaN (J:=Itr 0 m.toNat) (n:=m.toNat) (λi acc H'=>∃ts:List Th,Reps H' ts acc/\ts.length=i/\WfL ts/\depL ts<=deep - 1/\zH ts<=i * many (deep - 1)/\Frm [row] H H'/\RowV H' row/\H' p=Y (.lst acc)/\p≠row) ⟨[],Reps.nil,O,trivial,JN _,JN _,zc0 f02 hp,R2.new hp,za,R2.ne hp⟩ (by exact λi acc H' hi _=>hi) (by exact λacc H' _=>Jb _) ?_ ?_
  ·rintro i acc H' y H'' hi ⟨ts,rs,hl,hw,hd,hn,f3,R3,ep,npr⟩ ⟨e1,e2⟩;subst e1 e2;refine tt1 ?_;refine⟨ap,am,row,deep - 1,by show[V.ref row,V.int ((deep:Int) - 1)]=_;rw[hde],R3,(),(),λt v H4 wt dt nt f4 R4 rt=>?_⟩;have tk:Tups H'' H4:=Frm.ay f4 R3.noT;have ep4:=f4.at ep (not1 npr);have tk2:Tups H4 (upd H4 p (.lst (acc++ [v]))):=Tups.upd λxs e=>by rw[ep4] at e;cases e
   have hal:acc.length=i:=by rw[rs.1,hl]
   refine⟨ep4,Je (show acc.length < 1000 by lia) (szl (Jb _)),nxt hi ⟨ts++ [t],((rs.keep tk).keep tk2).snoc (rt.keep tk2),by rw[JF,hl];rfl,hw.snoc wt,?_,?_,zbs (f3.trans f4) hHp,R4.upd npr,za,npr⟩⟩
   ·rw[zgX];lia
   ·rw[ze1,Nat.add_mul,Nat.one_mul];lia
  ·rintro acc H' ⟨ts,rs,hl,hw,hd,hn,f3,R3,ep,npr⟩;refine⟨p,B,.inl ⟨SqL.of ep,λl hl2=>?_⟩⟩;have hlr:l≠row:=R3.ne hl2;have nl:ts.length<=3:=()
   have hn2:zH ts<=3 * many (deep - 1):=Jg hn (Nat.mul_le_mul_right _ ());refine q (.tup ts) _ _ ⟨(),hw⟩ ?_ ?_ (zc0 f3 hl2) (R3.new hl2) (.tup za rs.1 λi x t h1 h2=>(rs.2 i x t h1 h2).keep (Tups.new hl2))
   ·show depL ts+1<=deep;lia
   ·show 1+zH ts<=many deep;lia
abbrev zrB:aB:=top 18
abbrev zpb:aB:=top 19
abbrev zfS:aB:=top 20
inductive zhC (vs:QR)(H:Hp)(Q:L2.VK)(_E:XK):Prop
 | mk (x:Str)(_:vs=[.str x])(_:Q (.int (numOf x.cps.toList)) H):zhC vs H Q _E
inductive zh6 (n:Nat)(vs:QR)(H:Hp)(Q:L2.VK)(_E:XK):Prop
 | mk (t:Th)(v:V)(_:vs=[v])(_:Rep H t v)(_:Wf t)(_:dep t < n)(_:nodes t<=100)(_:∀(r:aE)(H':Hp),Same H H'->H' r=Y (.lst ((zu t).map V.int))->Q (.ref r) H'):zh6 n vs H Q _E
inductive zb7 (vs:QR)(H:Hp)(Q:L2.VK)(_E:XK):Prop
 | mk (t:Th)(v:V)(_:vs=[v])(_:Rep H t v)(_:Wf t)(_:dep t < 10)(_:nodes t<=100)(_:∀(H':Hp),Same H H'->Q (.int (zk t)) H'):zb7 vs H Q _E
def zie (D:Dfn K mg "number_of" zfS ["signs"]) (m_ord:mg "ord" =U):Fn P w K mg ax "number_of" 1 ["signs"] zhC:=by
 refine D.ok (k:=0) (fsN ["signs","number","sign"]) ⟨⟩;obtain⟨x,rfl,q⟩:=h;refine⟨_,(zb ∅
 (zb (zdy PassesOwn.never rfl (zoG (pv 0)) ∅
 ∅)
 ∅)),?_⟩
 refine⟨B,x,O,?_⟩;refine zlK (z:=x) (λi σ H'=>H'=H/\∃kk,σ=[Y (.str x),Y (.int (numOf (x.cps.toList.take i))),kk]) ⟨O,B⟩ ?_ ?_
 ·rintro i c σ H' hc ⟨rfl,kk,rfl⟩;refine⟨B,am,.inr ⟨(),()⟩,ap,O,am,O,Y (.str ⟨#[c]⟩),?_⟩;have e:x.cps.toList.take (i+1)=x.cps.toList.take i++ [c]:=by rw[Na,Nb,hc];rfl
  rw[e,zkL]
  rfl
 ·rintro σ H' ⟨rfl,kk,rfl⟩;refine⟨ar⟩;have e:x.cps.toList.take x.cps.size=x.cps.toList:=Jq (by simp);rw[e];exact q
abbrev _root_.Sd:List PySem.Str:=["thing"]
theorem zi5 (D:Dfn K mg "codes" zpb Sd) (zjL:Fn P w K mg ax "number_of" 1 ["signs"] zhC) (zg:mg "isinstance" =U) (za0:mg "int" =U) (ze3:mg "str" =U) (zaz:mg "range" =U) (zy:mg "len" =U):
  ∀n:Nat,Fn P w K mg ax "codes" (n+2) Sd (zh6 n)
 | 0=>D.never λvs H Q E h=>by obtain⟨t,v,_,_,_,h1,_⟩:=h;lia
 | n+1=>by
  have zq8:=zi5 D zjL zg za0 ze3 zaz zy n;refine D.ok (k:=n+2) (fsN ["thing","raised","sevens","row","part"]) ⟨⟩;obtain⟨t,v,rfl,hrep,hwf,hdep,hnod,q⟩:=h;have hlen:=zeq t hwf;refine⟨_,(zb ∅
 (zb ∅
 (zb (zag ∅
 (zb (zgv (i:=2) (zo.one (y:= "thing") (j:=0) (c:=s.heap.objs.size+1) (by rfl) (by rfl) (by decide+kernel) (by decide+kernel) (by rfl) (by decide+kernel) (by rfl) (by decide+kernel) (by rfl) (by first | exact Or.inl rfl | exact Or.inr rfl) (by first | exact Or.inl rfl | exact Or.inr rfl)) rfl (zhb rfl zaz (zl zbD (zl (zC (zac.or za2 za3) (by rfl) zy (by rfl) ∅) (zl zbD zK)))) (λ_ _ _=>za5) (λ_ _ _=>(zdI zr3 (pv 1) (zdM (pv 0)) (zdM ∅))) (zeQ rfl) rfl (Or.inl rfl) (by rfl))
 (zx (zQ (zaR zbd (zfF (zl zbD (zl (zC (zac.or za2 za3) (by rfl) zy (by rfl) ∅) zK))) (zbl (zo.zero (by rfl) (by decide+kernel) (by decide+kernel) (by decide+kernel) (by rfl)) rfl ∅ (λ_ _ _=>za5) (λ_ _ _=>∅))))))
 zE)
 (zb (setA 3 rfl (zfF (zl zbD (zl (zC (zac.or za2 za3) (by rfl) zy (by rfl) ∅) zK))))
 (zb (zdy PassesOwn.never rfl (zhO (pv 0)) ∅
 ∅)
 ∅))))),?_⟩
  refine⟨B,ao⟩;cases hrep with
  | non=>refine ifT () ?_;refine⟨szl (show 1<=1000 by decide),λp hp=>?_⟩;exact q p _ (Frm.new hp).same za
  | int i=>refine ifF (by rfl) ?_;refine⟨B,_,_,_,B,.int i,ao⟩;refine ifT rfl ?_;refine⟨B,am,⟨(),(),()⟩,am,?_⟩;refine⟨B,am,⟨(),(),()⟩,am,⟨by decide+kernel,by decide+kernel⟩,B,am,⟨(),(),()⟩,am,(show(0:Int) < 10 ^ (15:Int).toNat by decide+kernel),szl (show 3<=1000 by decide),λp hp=>?_⟩;exact q p _ (Frm.new hp).same za
  | str x=>
   have hx:x.length<=60:=hwf.1;refine ifF (by rfl) ?_;refine⟨B,_,_,_,B,.str x,ao⟩;refine ifF rfl ?_;refine⟨B,_,_,_,B,.str x,ao⟩;refine ifT rfl ?_;refine⟨B,.inr ⟨x,O,szl (),?_⟩⟩;refine⟨_,B,(),(),(),(),λp hp=>?_⟩;rw[zmR];refine zaN (J:=Itrs 0 7 (zaZ x)) (n:=zaZ x) (λi acc H'=>acc=(List.range i).map (λk=>V.str (zh8 x k))/\H'=upd H p (.lst acc)) ⟨O,O⟩ (by exact λi acc H' hi _=>hi) (by exact λacc H' _=>Jb _) ?_ ?_
   ·rintro i acc H' y H'' hi ⟨ha,rfl⟩ ⟨e1,e2⟩;subst e1 e2;refine tt1 ?_;refine⟨ap,ap,am,B,x,O,szl (),?_⟩;have hal:acc.length=i:=by rw[ha,JI,NE]
    refine⟨za,Je (show acc.length < 1000 by unfold zaZ at hi;lia) (szl (Jb _)),nxt hi ⟨?_,zk8⟩⟩;rw[List.range_succ,JU,ha,zma hi]
    rfl
   ·rintro acc H' ⟨ha,rfl⟩;refine⟨B,.inr ⟨x,O,szl (),szl (show 2<=1000 by decide),λp2 hp2=>?_⟩⟩;have np:p≠p2:=λz=>by rw[<-z,za] at hp2;cases hp2
    have ep:upd (upd H p (.lst acc)) p2 (.lst [.int 3,.int (x.length:Nat)]) p=Y (.lst acc):=by rw[zd np];exact za
    have hal:acc.length=zaZ x:=by rw[ha,JI,NE]
    refine⟨B,p,O,⟨_,SqL.of ep⟩,λp3 hp3=>?_⟩;have np3:p≠p3:=(zf ep hp3);have np23:p2≠p3:=(zf za hp3);refine zaN (n:=zaZ x) (λi acc' H'=>acc'=(List.range i).map (λk=>V.int (numOf (chunk x k)))/\H'=upd (upd (upd H p (.lst acc)) p2 (.lst [.int 3,.int (x.length:Nat)])) p3 (.lst acc')) ⟨O,O⟩ ?_ ?_ ?_ ?_
    ·rintro i acc' H' hi ⟨_,rfl⟩;exact⟨acc,acc[i],SqL.of (by rw[zd np3];exact ep),by rw[JD]⟩
    ·rintro acc' H' ⟨_,rfl⟩;exact⟨acc,SqL.of (by rw[zd np3];exact ep),()⟩
    ·rintro i acc' H' y H'' hi ⟨ha',rfl⟩ ⟨e1,e2⟩;subst e1;have ey:=e2 acc (SqL.of (by rw[zd np3];exact ep));have ey2:y=V.str (zh8 x i):=by rw[ha,JV,List.getElem?_range hi] at ey;exact(JP ey).symm
     subst ey2;refine tt1 ?_;refine⟨ap,za,?_,nxt hi ⟨?_,zk8⟩⟩
     ·have:acc'.length=i:=by rw[ha',JI,NE]
      exact Je (show acc'.length < 1000 by unfold zaZ at hi;lia) (szl (Jb _))
     ·rw[List.range_succ,JU,ha']
      rfl
    ·rintro acc' H' ⟨ha',rfl⟩;have hal':acc'.length=zaZ x:=by rw[ha',JI,NE]
     refine⟨p2,p3,[.int 3,.int (x.length:Nat)],acc',O,O,by rw[zd np23];exact za,za,szl (show 2+acc'.length<=1000 by unfold zaZ at hal';lia),λr hr'=>?_⟩
     refine q r _ (λb o hb=>?_) ?_
     ·have n1:=zf hb hp;have e1:upd H p (.lst acc) b=Y o:=by rw[zd n1];exact hb
      have n2:=zf e1 hp2;have e2:upd (upd H p (.lst acc)) p2 (.lst [.int 3,.int (x.length:Nat)]) b=Y o:=by rw[zd n2];exact e1
      have n3:=zf e2 hp3;have e3:upd (upd (upd H p (.lst acc)) p2 (.lst [.int 3,.int (x.length:Nat)])) p3 (.lst acc') b=Y o:=by rw[zd n3];exact e2
      rw[zd (zf e3 hr')];exact e3
     ·rw[za,ha'];show Y (HO.lst ([V.int 3,V.int (x.length:Nat)]++_))=Y (HO.lst (([3,(x.length:Int)]++zeE x).map V.int));rw[JU];unfold zeE;rw[List.map_map]
      rfl
  | @tup a xs ts e hl hrs=>
   have hw:ts.length<=40:=hwf.1;refine ifF (by rfl) ?_;refine⟨B,_,_,_,B,.tup e,ao⟩;refine ifF rfl ?_;refine⟨B,_,_,_,B,.tup e,ao⟩;refine ifF rfl ?_;refine⟨B,.inl ⟨a,B,.inr (SqT.of e),szl (show 2<=1000 by decide),λrw hrw=>?_⟩⟩;have nra:a≠rw:=zf e hrw;have keepT:∀{H':Hp},Same H H'->Tups H H':=λz=>Same.ay z;refine⟨B,a,O,⟨_,SqT.of (by rw[zd nra];exact e)⟩,?_⟩;refine zlB (xs:=xs) (λi σ H'=>∃kk,σ=[Y (.ref a),U,U,Y (.ref rw),kk]/\Same H H'/\H' rw=Y (.lst (([4,(ts.length:Int)]++zP (ts.take i)).map V.int))) ⟨B,(Frm.new hrw).same,?_⟩ ?_ ?_ ?_
   ·rw[za,hl]
    rfl
   ·rintro i σ H' hi ⟨kk,rfl,sm,er⟩;exact SqT.of (sm _ _ e)
   ·rintro i x σ H' hx ⟨kk,rfl,sm,er⟩;have hil:i < ts.length:=by rw[<-hl];exact(JG.mp hx).1
    have ht:ts[i]? =Y ts[i]:=JD hil;have hcl:=zds ts hwf.2;have hcl':=zci ts i;have hcn:1+zH ts<=100:=hnod;have hsub:nodes ts[i]<=zH ts:=zdq ht;refine⟨B,.inl ⟨O,_,SqL.of er⟩,B,ts[i],x,O,(hrs i x _ hx ht).keep (keepT sm),hwf.2.get ht,?_,(),λr H2 sm2 er2=>?_⟩
    ·have:=zaT ht;have:depL ts+1 < n+1:=hdep;lia
    have hc1:=zeq ts[i] (hwf.2.get ht);refine⟨rw,r,am,sm2 _ _ er,er2,szL ?_,?_⟩
    ·simp only[JI,JF,JM,Nn];lia
    ·refine⟨B,λb o hb=>?_,?_⟩
     ·rw[zd (zf hb hrw)];exact sm2 _ _ (sm _ _ hb)
     ·rw[za,zjj ht];simp only[JU,Nj]
   ·rintro σ H' ⟨kk,rfl,sm,er⟩;refine⟨B,q rw H' sm ?_⟩;rw[er,hl,J9]
    rfl
def zqL (D:Dfn K mg "seal" zrB Sd) (zq8:Fn P w K mg ax "codes" 12 Sd (zh6 10)):Fn P w K mg ax "seal" 13 Sd zb7:=by
 refine D.ok (k:=12) (fsN ["thing","folded","code"]) ⟨⟩;obtain⟨t,v,rfl,hrep,hwf,hdep,hnod,q⟩:=h;refine⟨aq⟩;refine⟨B,t,v,O,hrep,hwf,hdep,hnod,λr H1 sm er=>?_⟩;refine⟨r,O,⟨_,SqL.of er⟩,?_⟩;refine zcD (xs:=(zu t).map V.int) (λi σ H'=>H'=H1/\∃kk,σ=[Y v,Y (.int (zea ((zu t).take i))),kk]) ⟨O,B⟩ ?_ ?_ ?_
 ·rintro i σ H' _ ⟨rfl,_⟩;exact SqL.of er
 ·rintro i x σ H' hx ⟨rfl,kk,rfl⟩;rw[JV] at hx;obtain⟨c,hc,rfl⟩:=Option.map_eq_some_iff.mp hx;have rg:=zeJ ((zu t).take i);have e61:(2:Int) ^ (61:Int).toNat - 1=2305843009213693951:=by decide+kernel
  refine⟨B,am,.inl ⟨(),()⟩,B,am,am,⟨(),(),()⟩,am,am,(show(0:Int) < 2 ^ (61:Int).toNat - 1 by decide+kernel),O,Y (.int c),?_⟩;rw[zkr hc,<-e61]
  rfl
 ·rintro σ H' ⟨rfl,kk,rfl⟩;refine⟨B,am,?_⟩;rw[JI,J9];exact q _ sm
abbrev zi4:aB:=top 31
abbrev zoJ:aB:=top 32
abbrev zaX:aB:=top 33
inductive zkp (vs:QR)(H:Hp)(Q:L2.VK)(_E:XK):Prop
 | mk (t:Th)(v:V)(_:vs=[v])(_:Rep H t v)(_:Q (.int (zan t)) H):zkp vs H Q _E
inductive zav (n:Nat)(vs:QR)(H:Hp)(Q:L2.VK)(_E:XK):Prop
 | mk (t u:Th)(v w:V)(_:vs=[v,w])(_:Rep H t v)(_:Rep H u w)(_:dep t < n)(_:dep t<=40)(_:∀H':Hp,Same H H'->Q (.bl (zc t u)) H'):zav n vs H Q _E
inductive ziN (n:Nat)(vs:QR)(H:Hp)(Q:L2.VK)(_E:XK):Prop
 | mk (ts us:List Th)(v w:V)(_:vs=[v,w])(_:Rep H (.tup ts) v) (_:Rep H (.tup us) w) (_:depL ts < n) (_:depL ts<=39) (_:∀H':Hp,Same H H'->Q (.bl (zaD ts us)) H'):ziN n vs H Q _E
def zq4 (D:Dfn K mg "kind_of" zi4 Sd) (zg:mg "isinstance" =U) (za0:mg "int" =U) (ze3:mg "str" =U):Fn P w K mg ax "kind_of" 1 Sd zkp:=by
 refine D.ok (k:=0) (fsN Sd) ⟨⟩;obtain⟨t,v,rfl,rt,q⟩:=h;refine⟨aq⟩;refine⟨B,ao⟩;cases rt with
 | non=>exact ifT () q
 | int i=>refine ifF (by rfl) ?_;refine⟨B,_,_,_,B,.int i,ao⟩;exact ifT rfl q
 | str x=>refine ifF (by rfl) ?_;refine⟨B,_,_,_,B,.str x,ao⟩;refine ifF rfl ?_;refine⟨B,_,_,_,B,.str x,ao⟩;exact ifT rfl q
 | tup e l h=>refine ifF (by rfl) ?_;refine⟨B,_,_,_,B,.tup e,ao⟩;refine ifF rfl ?_;refine⟨B,_,_,_,B,.tup e,ao⟩;exact ifF rfl q
abbrev _root_.Sk:List PySem.Str:=["one","other"]
def zmK {n:Nat}(D:Dfn K mg "is_tuple_ahead" zaX Sk) (zaQ:Fn P w K mg ax "ahead" (2 * n+2) Sk (zav n)) (zjM:mg "zip" =U) (zy:mg "len" =U):Fn P w K mg ax "is_tuple_ahead" (2 * n+3) Sk (ziN n):=by
 refine D.ok (k:=2 * n+2) (fsN ["one","other","mine","its"]) ⟨⟩;obtain⟨ts,us,v,w,rfl,r1,r2,hd,hd40,q⟩:=h;cases r1 with
 | @tup a xs _ e1 l1 h1=>
 cases r2 with
 | @tup b ys _ e2 l2 h2=>
 refine⟨_,(by have θ:=0;ac_rfl),?_⟩;refine⟨ap,a,b,xs,ys,O,SqT.of e1,SqT.of e2,?_⟩;refine zqs (K:=K) (p:=a) (q:=b) (xs:=xs) (us:=ys) (λi σ H'=>∃k2 k3,σ=[Y (.ref a),Y (.ref b),k2,k3]/\Same H H'/\zaD ts us=zaD (ts.drop i) (us.drop i)) ⟨_,B,Same.refl _,O⟩ ?_ ?_ ?_
 ·rintro i σ H1 ⟨k2,k3,rfl,sm,_⟩;exact⟨SqT.of (sm _ _ e1),SqT.of (sm _ _ e2)⟩
 ·rintro i x u T σ H1 hx hu hT ⟨k2,k3,rfl,sm,ea⟩;have hi:i < ts.length:=by rw[<-l1];exact(JG.mp hx).1
  have hj:i < us.length:=by rw[<-l2];exact(JG.mp hu).1
  have ht:ts[i]? =Y ts[i]:=JD hi;have hv:us[i]? =Y us[i]:=JD hj;have tk:Tups H (upd H1 T (.tup [x,u])):=(Same.ay sm).trans (Tups.new hT);have ra:=(h1 i x _ hx ht).keep tk;have rb:=(h2 i u _ hu hv).keep tk;have hdi:=zaT ht;refine⟨T,B,SqT.of za,O,_,B,am,?_⟩;refine⟨ap,ts[i],us[i],ra,rb,(),ar⟩;have sm':Same H (upd H1 T (.tup [x,u])):=λc o hc=>by rw[zd (zf (sm _ _ hc) hT)];exact sm _ _ hc
  rw[ziZ hi hj] at ea;refine ifB (λc=>?_) (λc=>?_)
  ·have ne:¬eqT ts[i] us[i]=Z:=by intro z;rw[z] at c;cases c
   rw[au ne] at ea;refine⟨ap,ts[i],us[i],_,B,ra,rb,(),(),λH2 s2=>?_⟩;rw[<-ea];exact q H2 (sm'.trans s2)
  ·have eq:eqT ts[i] us[i]=Z:=by
    cases z:eqT ts[i] us[i] with
    | true=>rfl
    | false=>rw[z] at c;cases c
   rw[av eq] at ea;exact⟨_,B,sm',ea⟩
 ·rintro σ H1 ⟨k2,k3,rfl,sm,ea⟩;refine⟨B,a,B,.inr (SqT.of (sm _ _ e1)),B,b,B,.inr (SqT.of (sm _ _ e2)),am,?_⟩;rw[l1,l2,zkf] at ea;have ed:decide ((xs.length:Int) < (ys.length:Int))=zaD ts us:=by rw[ea,l1,l2];rw[Nv];simp
  show Q (.bl (decide ((xs.length:Int) < (ys.length:Int)))) H1;rw[ed];exact q H1 sm
theorem zja (Da:Dfn K mg "ahead" zoJ Sk) (Dt:Dfn K mg "is_tuple_ahead" zaX Sk) (zm2:Fn P w K mg ax "kind_of" 1 Sd zkp) (zjM:mg "zip" =U) (zy:mg "len" =U) (zg:mg "isinstance" =U) (zI:mg "tuple" =U):
  ∀n:Nat,Fn P w K mg ax "ahead" (2 * n+2) Sk (zav n)
 | 0=>Da.never λvs H Q E h=>by obtain⟨t,u,v,w,_,_,_,h1,_⟩:=h;lia
 | n+1=>by
  have zm3:=zmK Dt (zja Da Dt zm2 zjM zy zg zI n) zjM zy;refine Da.ok (k:=2 * n+3) (fsN ["one","other","kind"]) ⟨⟩;obtain⟨t,u,v,w,rfl,r1,r2,hd,hd40,q⟩:=h;refine⟨_,(zb ∅
 (zb ∅
 (zb ∅
 (zb ∅
 (zx (zQ (zax (OpR.or zrT zmt) (pv 0) (pv 1) (zaF _)))))))),?_⟩
  refine⟨B,t,v,O,r1,?_⟩;refine⟨ap,u,w,O,r2,ao⟩;rw[zaa];refine ifB (λc=>?_) (λc=>?_)
  ·have ne:zan t≠zan u:=λz=>by rw[aw z] at c;cases c
   refine⟨ap,u,w,O,r2,am,?_⟩;show Q (.bl (decide (zan t < zan u))) H;rw[<-zjw ne];exact q H (Same.refl _)
  ·have eq:zan t=zan u:=by
    by_cases z:zan t=zan u
    ·exact z
    ·rw[Jc z] at c;cases c
   refine⟨B,ao⟩;cases r1 with
   | non=>
    refine ifT () ?_;cases r2 with
    | non=>exact q H (Same.refl _)
    | int i=>exact Jf eq (by show(0:Int)≠1;decide)
    | str x=>exact Jf eq (by show(0:Int)≠2;decide)
    | tup e l h=>exact Jf eq (by show(0:Int)≠3;decide)
   | int i=>
    refine ifF (by rfl) ?_;refine⟨B,_,_,_,B,.int i,ao⟩;refine ifF rfl ?_;cases r2 with
    | non=>exact Jf eq (by show(1:Int)≠0;decide)
    | int j=>exact⟨ap,.inl ⟨am,q H (Same.refl _)⟩⟩
    | str x=>exact Jf eq (by show(1:Int)≠2;decide)
    | tup e l h=>exact Jf eq (by show(1:Int)≠3;decide)
   | str x=>
    refine ifF (by rfl) ?_;refine⟨B,_,_,_,B,.str x,ao⟩;refine ifF rfl ?_;cases r2 with
    | non=>exact Jf eq (by show(2:Int)≠0;decide)
    | int j=>exact Jf eq (by show(2:Int)≠1;decide)
    | str y=>exact⟨ap,.inr ⟨am,q H (Same.refl _)⟩⟩
    | tup e l h=>exact Jf eq (by show(2:Int)≠3;decide)
   | @tup a xs ts e l h=>
    refine ifF (by rfl) ?_;refine⟨B,_,_,_,B,.tup e,ao⟩;refine ifT rfl ?_;cases r2 with
    | non=>exact Jf eq (by show(3:Int)≠0;decide)
    | int j=>exact Jf eq (by show(3:Int)≠1;decide)
    | str y=>exact Jf eq (by show(3:Int)≠2;decide)
    | @tup b ys us e' l' h'=>have hd':depL ts+1 < n+1:=hd;have hd'':depL ts+1<=40:=hd40;exact⟨ap,ts,us,_,B,.tup e l h,.tup e' l' h',(),(),λH2 s2=>q H2 s2⟩
abbrev z8:aB:=inClass (top 36) 0
abbrev zY:aB:=inClass (top 36) 1
abbrev zdr:aB:=inClass (top 36) 2
abbrev zb5:aB:=inClass (top 36) 3
abbrev zaW:aB:=inClass (top 5) 0
structure Good (t:Th):Prop where
 wf:Wf t
 dp:dep t<=8
 nd:nodes t<=80
structure Flds (fs:QI)(d:aE):Prop where
 la:fs.lookup ("laid" :Str)=Y (V.ref d)
 n1:fs.lookup ("refuse_clash" :Str)=U
 n2:fs.lookup ("lay" :Str)=U
 n3:fs.lookup ("thing" :Str)=U
 n4:fs.lookup ("things" :Str)=U
 n5:fs.lookup ("paper" :Str)=U
def zlA (d:aE):Flds [("laid",.ref d)] d:=⟨O,O,O,O,O,O⟩
structure VOk (H:Hp)(C a d:aE)(kvs:QG):Prop where
 ob:∃dx fs,H a=Y (.ins C dx fs)/\Flds fs d
 di:H d=Y (.dK kvs)
theorem VOk.keep (v:VOk H C a d kvs)(s:Same H H'):VOk H' C a d kvs:=by obtain⟨⟨dx,fs,e,f⟩,e2⟩:=v;exact⟨⟨dx,fs,s _ _ e,f⟩,s _ _ e2⟩
def zbY (H:Hp)(kvs:QG):Prop:=∀(n:Int)(v:V),valV kvs (.inl n)=Y v->∃t,Rep H t v/\Good t/\zk t=n
theorem zbY.keep (l:zbY H kvs)(s:Tups H H'):zbY H' kvs:=λn v e=>by obtain⟨t,r,g⟩:=l n v e;exact⟨t,r.keep s,g⟩
def zia (E:XK)(CC:aE)(H:Hp)(t1 t2:Th)(v1 v2:V):Prop:=∀(H':Hp)(x:aE),Same H H'->H' x=Y (xdO x [("one",v1),("other",v2)])->E (.ref CC) (Y x) H'
inductive zb2 (C:aE)(vs:QR)(H:Hp)(Q:L2.VK)(_E:XK):Prop
 | mk (a dx:aE)(_:vs=[.ref a])(_:H a=Y (.ins C dx [])) (_:∀d,H d=U->Q .non (upd (upd H d (.dK [])) a (.ins C dx [("laid",.ref d)]))):zb2 C vs H Q _E
inductive zhF (CC:aE)(vs:QR)(H:Hp)(Q:L2.VK)(_E:XK):Prop
 | mk (x:aE)(v1 v2:V)(_:vs=[.ref x,v1,v2])(_:H x=Y (exO x CC U Z)) (_:∀d,H d=U->d≠x->Q .non (upd (upd (upd H d (xdO d [("one",v1)])) x (exO x CC (Y d) Z)) d (xdO d [("one",v1),("other",v2)]))):zhF CC vs H Q _E
inductive zcP (C CC:aE)(vs:QR)(H:Hp)(Q:L2.VK)(E:XK):Prop
 | mk (a d:aE)(kvs:QG)(n:Int)(t:Th)(v:V)(_:vs=[.ref a,.int n,v])(_:VOk H C a d kvs)(_:zbY H kvs)(_:Rep H t v)(_:Good t)(_:zk t=n)(_:((∀t1 v1,valV kvs (.inl n)=Y v1->Rep H t1 v1->t1=t)->Q .non H)) (_:(∀t1 v1,valV kvs (.inl n)=Y v1->Rep H t1 v1->Good t1->zk t1=zk t->t1≠t->zia E CC H t1 t v1 v)):zcP C CC vs H Q E
inductive znC (C CC:aE)(vs:QR)(H:Hp)(Q:L2.VK)(E:XK):Prop
 | mk (a d:aE)(kvs:QG)(t:Th)(v:V)(_:vs=[.ref a,v])(_:VOk H C a d kvs)(_:zbY H kvs)(_:kvs.length<=1000000)(_:Rep H t v)(_:Good t)(_:(∀H',Same H H'->(∀t1 v1,valV kvs (.inl (zk t))=Y v1->Rep H t1 v1->t1=t)->Q (.int (zk t)) (upd H' d (.dK (putK kvs (.inl (zk t)) v))))) (_:(∀t1 v1 H',Same H H'->valV kvs (.inl (zk t))=Y v1->Rep H' t1 v1->Good t1->zk t1=zk t->t1≠t->zia E CC H' t1 t v1 v)):znC C CC vs H Q E
inductive zn9 (C:aE)(vs:QR)(H:Hp)(Q:L2.VK)(_E:XK):Prop
 | mk (a d:aE)(kvs:QG)(n:Int)(v:V)(_:vs=[.ref a,.int n])(_:VOk H C a d kvs)(_:valV kvs (.inl n)=Y v) (_:Q v H):zn9 C vs H Q _E
inductive zd5 (C CN:aE)(vs:QR)(H:Hp)(Q:L2.VK)(E:XK):Prop
 | mk (a d:aE)(kvs:QG)(n:Int)(_:vs=[.ref a,.int n])(_:VOk H C a d kvs)(_:(∀v,valV kvs (.inl n)=Y v->Q v H)) (_:(valV kvs (.inl n)=U->E (.ref CN) U H)):zd5 C CN vs H Q E
def DRep.laidOk {cs:QF}(r:DRep H cs kvs)(g:∀p∈cs,Good p.2/\zk p.2=p.1):zbY H kvs:=λn v e=>by obtain⟨t,e1,rv⟩:=r.back e;obtain⟨g1,g2⟩:=g _ (zet e1);exact⟨t,rv,g1,g2⟩
theorem zo5 (v1 v2:V):putF ("other" :Str) v2 [(("one" :Str),v1)]=[(("one" :Str),v1),(("other" :Str),v2)]:=by
 unfold putF;rw[au ()]
 rfl
def Rep.uniq (r:Rep H t v):Rep H u v->t=u:=by
 induction r generalizing u with
 | non=>intro q;cases q;rfl
 | int i=>intro q;cases q;rfl
 | str x=>intro q;cases q;rfl
 | @tup a xs ts e l h ih=>
  intro q;cases q with
  | @tup _ ys us e' l' h'=>
   rw[e] at e';cases e';congr 1;apply List.ext_getElem?;intro i;by_cases hi:i < ts.length
   ·have h1:ts[i]? =Y ts[i]:=JD hi;have h2:us[i]? =Y us[i]:=JD ();have h3:xs[i]? =Y xs[i]:=JD ();rw[h1,h2,ih i _ _ h3 h1 (h' i _ _ h3 h2)]
   ·rw[Nc (),Nc ()]
abbrev _root_.SA:List PySem.Str:=["self"]
def zoI (D:Mkd K mg x C "Vault.__init__" z8 SA) (c:Cls K C) (nl:zm K C "laid"):Mkr P w K mg ax x C 1 SA (zb2 C):=by refine D.ok (k:=0) (fsN SA) ⟨⟩;obtain⟨a,dx,rfl,ea,q⟩:=h;refine⟨aq⟩;intro d hd;exact⟨B,a,C,dx,[],O,by rw[zd (zf ea hd)];exact ea,c,nl,(),q d hd⟩
abbrev _root_.SB:List PySem.Str:=["self","one","other"]
def znZ (D:XId K mg "Clash" CC "Clash.__init__" zaW SB) (n1:zm K CC "one") (n2:zm K CC "other"):XI P w K mg ax "Clash" CC 1 SB (zhF CC):=by
 have c:=D.cl;refine D.ok (k:=0) (fsN SB) ⟨⟩;obtain⟨x,v1,v2,rfl,ex,q⟩:=h;refine⟨_,(zb (ztf (pv 0) (pv 1) (by rfl))
 (zx (ztd (pv 0) (pv 2) (by rfl)))),?_⟩
 refine⟨ap,x,CC,Z,O,ex,c,n1,λd hd hdx=>?_⟩;refine⟨ap,x,CC,Z,d,[("one",v1)],O,za,by rw[zd hdx];exact za,hdx,c,n2,(show(1:Nat) < 1000 by decide),?_⟩;show Q .non (upd _ d (xdO d (putF "other" v2 [("one",v1)])));rw[zo5];exact q d hd hdx
abbrev _root_.Sm:List PySem.Str:=["self","number","thing"]
def zeA (D:Mdf K C "refuse_clash" "Vault.refuse_clash" zY Sm) (zq9:XI P w K mg ax "Clash" CC 1 SB (zhF CC)) (c:Cls K C) (nl:zm K C "laid"):
  Mt P w K mg ax (CX1 P w) C "refuse_clash" 3 Sm (zcP C CC):=by
 refine D.okX (k:=2) (fsN Sm) ⟨⟩;obtain⟨a,d,kvs,n,t,v,rfl,vo,lo,rt,gt,sn,q,qe⟩:=h;obtain⟨⟨dx,fs,eo,fl⟩,ed⟩:=vo;refine⟨_,(by have θ:=0;ac_rfl),?_⟩;refine⟨ap,a,C,dx,_,B,eo,c,nl,fl.la,d,B,DGet.k (k:=aN n) ed,ar⟩;cases ev:valV kvs (aN n) with
 | none=>exact ifF rfl (ifF rfl (q λt1 v1 e=>by rw[ev] at e;cases e))
 | some v1=>
  obtain⟨t1,r1,g1,s1⟩:=lo n v1 ev;have gd:=g1.dp;have dg:DGet H d (.int n) (Y v1):=by rw[<-ev];exact DGet.k (k:=aN n) ed
  refine ifT rfl ?_;refine⟨B,a,C,dx,_,B,eo,c,nl,fl.la,B,d,v1,O,dg,B,t1,t,r1,rt,(),ar⟩;refine ifB (λcc=>?_) (λcc=>?_)
  ·have ne:t1≠t:=λz=>by rw[z,z9] at cc;cases cc
   refine⟨B,a,C,dx,_,B,eo,c,nl,fl.la,B,d,v1,O,dg,B,szl (show 2<=1000 by decide),λx hx=>?_⟩;refine⟨x,v1,v,O,za,λd' hd' hdx=>⟨O,?_⟩⟩;have hd2:H d'=U:=by rw[zd hdx] at hd';exact hd'
   refine⟨x,CC,Y d',O,by rw[zd (aV hdx)];exact za,zq9.cl.q,?_⟩;refine qe t1 v1 ev r1 g1 (s1.trans sn.symm) ne _ d' (λb o hb=>?_) ?_
   ·have b1:b≠x:=zf hb hx;have b2:b≠d':=zf hb hd2;rw[zbi b1,zd b2,zd b1,zd b2,zd b1];exact hb
   ·rw[zbi hdx];exact za
  ·have eq:t1=t:=(zJ t1 t).mp (by cases z:eqT t1 t with | true=>rfl | false=>rw[z] at cc;cases cc);exact q λt2 v2 e r2=>by rw[ev] at e;cases e;exact(r2.uniq r1).trans eq
abbrev _root_.Si:List PySem.Str:=["self","thing"]
def zoc (D:Mdf K C "lay" "Vault.lay" zdr Si) (zpr:Mt P w K mg ax (CX1 P w) C "refuse_clash" 3 Sm (zcP C CC)) (zdz:Fn P w K mg ax "seal" 13 Sd zb7) (c_K:Cls K C) (nl:zm K C "laid"):
  Mt P w K mg ax (CX1 P w) C "lay" 14 Si (znC C CC):=by
 refine D.okX (k:=13) (fsN ["self","thing","number"]) ⟨⟩;obtain⟨a,d,kvs,t,v,rfl,vo,lo,hl,rt,gt,q,qe⟩:=h;have gd:=gt.dp;have gn:=gt.nd;refine⟨aq⟩;refine⟨B,t,v,O,rt,gt.wf,(),(),λH1 s1=>?_⟩;have vo1:=vo.keep s1;obtain⟨⟨dx,fs,eo,fl⟩,ed⟩:=id vo1;have rt1:=rt.keep (Same.ay s1);refine⟨B,a,dx,B,eo,fl.n1,ap,a,d,kvs,_,t,v,O,vo1,lo.keep (Same.ay s1),rt1,gt,O,λsame=>?_,λt1 v1 ev r1 g1 sn ne=>qe t1 v1 H1 s1 ev r1 g1 sn ne⟩;refine⟨ap,a,C,dx,_,B,eo,c_K,nl,fl.la,B,d,B,DPut.k (k:=aN (zk t)) ed (Jy hl (by decide+kernel)),?_⟩;exact⟨B,q H1 s1 λt1 v1 e r=>same t1 v1 e (r.keep (Same.ay s1))⟩
abbrev _root_.Se:List PySem.Str:=["self","number"]
def zg1 (D:Mdf K C "thing" "Vault.thing" zb5 Se) (zm4:XP K mg "NoPaper" CN) (c:Cls K C) (nl:zm K C "laid"):Mt P w K mg ax (CX1 P w) C "thing" 1 Se (zd5 C CN):=by
 refine D.okX (k:=0) (fsN Se) ⟨⟩;obtain⟨a,d,kvs,n,rfl,⟨⟨dx,fs,eo,fl⟩,ed⟩,q,qe⟩:=h;refine⟨aq⟩;refine⟨ap,a,C,dx,_,B,eo,c,nl,fl.la,d,B,DGet.k (k:=aN n) ed,ar⟩;cases ev:valV kvs (aN n) with
 | none=>refine ifT rfl ⟨szl (show 1<=1000 by decide),λe he=>⟨e,CN,U,O,za,zm4.cl.q,?_⟩⟩;rw[zed he];exact qe ev
 | some v=>
  have dg:DGet H d (.int n) (Y v):=by rw[<-ev];exact DGet.k (k:=aN n) ed
  refine ifF rfl ?_;exact⟨B,a,C,dx,_,B,eo,c,nl,fl.la,B,d,v,O,dg,q v ev⟩
def addT (cs:QF)(n:Int)(t:Th):List (Int ×Th):=match zh cs n with | none=>cs++ [(n,t)] | some _=>cs
def Fits (cs:QF)(n:Int)(t:Th):Prop:=zh cs n=U\/zh cs n=Y t
structure GoodC (cs:QF):Prop where
 nd:(cs.map (·.1)).Nodup
 gd:∀p∈cs,Good p.2/\zk p.2=p.1
theorem zbg {cs:QF}{n:Int}{t:Th}(h:zh cs n=U):addT cs n t=cs++ [(n,t)]:=by unfold addT;rw[h]
theorem zbb {cs:QF}{n:Int}{t u:Th}(h:zh cs n=Y u):addT cs n t=cs:=by unfold addT;rw[h]
def zdY (cs:QF)(n:Int)(t:Th):(addT cs n t).length<=cs.length+1:=by
 cases e:zh cs n with
 | none=>rw[zbg e,JF];exact Jb _
 | some u=>rw[zbb e];lia
def DRep.add {H:Hp}{cs:QF}{kvs:QG}{n:Int}{t:Th}{v:V}(r:DRep H cs kvs)(h:Rep H t v)(f:Fits cs n t)(nd:(cs.map (·.1)).Nodup):DRep H (addT cs n t) (putK kvs (.inl n) v):=by
 rcases f with f | f
 ·rw[zbg f];exact r.put h f
 ·rw[zbb f];exact r.again h f nd
def GoodC.add {cs:QF}{n:Int}{t:Th}(g:GoodC cs)(gt:Good t)(sn:zk t=n):GoodC (addT cs n t):=by
 cases e:zh cs n with
 | some u=>rw[zbb e];exact g
 | none=>
  rw[zbg e];refine⟨?_,λp hp=>?_⟩
  ·rw[JU,List.nodup_append];refine⟨g.nd,by simp,λa ha b hb=>?_⟩;cases Ji.mp hb;exact λz=>zke e (by have z':a=n:=z;rw[<-z'];exact ha)
  ·rcases Jk.mp hp with h | h
   ·exact g.gd p h
   ·cases Ji.mp h;exact⟨gt,sn⟩
theorem GoodC.nil:GoodC []:=⟨List.nodup_nil,λp h=>by cases h⟩
theorem GoodC.dep {cs:QF}{n:Int}{t:Th}(g:GoodC cs)(e:zh cs n=Y t):Good t/\zk t=n:=g.gd _ (zet e)
theorem za9 {cs:QF}{n m:Int}{t u:Th}(e:zh cs m=Y u):zh (addT cs n t) m=Y u:=by
 cases z:zh cs n with
 | some y=>rw[zbb z];exact e
 | none=>rw[zbg z,zb3,e]
theorem zas {cs:QF}{n:Int}{t:Th}(f:Fits cs n t):zh (addT cs n t) n=Y t:=by
 rcases f with f | f
 ·rw[zbg f,zb3,f];exact av rfl
 ·rw[zbb f];exact f
def zaq {cs:QF}{n m:Int}{t u:Th}(e:zh (addT cs n t) m=Y u):zh cs m=Y u\/(m=n/\u=t):=by
 cases z:zh cs n with
 | some y=>rw[zbb z] at e;exact .inl e
 | none=>
  rw[zbg z,zb3] at e;cases y:zh cs m with
  | some w=>rw[y] at e;exact .inl e
  | none=>
   rw[y] at e;by_cases q:n=m
   ·have e':(if n=m then Y t else U)=Y u:=e;rw[av q] at e';cases e';exact .inr ⟨q.symm,O⟩
   ·have e':(if n=m then Y t else U)=Y u:=e;rw[au q] at e';cases e'
abbrev zeB:aB:=top 26
abbrev zjB:aB:=top 53
abbrev zi8:aB:=top 52
abbrev zbB:aB:=top 51
abbrev zbE:aB:=top 55
abbrev ssize:aB:=top 54
abbrev zrE:aB:=top 56
abbrev zor:aB:=top 57
open Tr
def Mt.imp {P:aG}{w:aH}{K:QA}{mg:QB}{ax:aF}{CX:CXT}{C:aE}{m:Str}{k:Nat}{ps:QQ}{sp sp':Sp}(F:Mt P w K mg ax CX C m k ps sp)(h:∀vs H Q E,sp' vs H Q E->sp vs H Q E):Mt P w K mg ax CX C m k ps sp':=by obtain⟨f,fd,a,b⟩:=F.ex;exact⟨f,fd,a.imp h,b⟩
structure VS (H:Hp)(C a d:aE)(cs:QF):Prop where
 vo:∃kv,VOk H C a d kv/\DRep H cs kv
 gc:GoodC cs
theorem VS.same {H H':Hp}{C a d:aE}{cs:QF}(v:VS H C a d cs)(s:Same H H'):VS H' C a d cs:=by obtain⟨kv,vo,dr⟩:=v.vo;exact⟨⟨kv,vo.keep s,dr.keep (Same.ay s)⟩,v.gc⟩
def Fr1 (d:aE)(H H':Hp):Prop:=∀b o,b≠d->H b=Y o->H' b=Y o
def Cl (CC:aE)(E:XK):Prop:=∀(t1 t2:Th)(v1 v2:V)(H:Hp)(x:aE),Rep H t1 v1->Rep H t2 v2->Good t1->Good t2->t1≠t2->zk t1=zk t2->H x=Y (xdO x [("one",v1),("other",v2)])->E (.ref CC) (Y x) H
inductive zte (C CC:aE)(vs:QR)(H:Hp)(Q:L2.VK)(E:XK):Prop
 | mk (a d:aE)(cs:QF)(t:Th)(v:V)(_:vs=[.ref a,v])(_:VS H C a d cs)(_:cs.length<=1000000)(_:Rep H t v)(_:Good t)(_:Cl CC E)(_:∀H',Fr1 d H H'->Fits cs (zk t) t->VS H' C a d (addT cs (zk t) t)->Q (.int (zk t)) H'):zte C CC vs H Q E
inductive zom (C:aE)(vs:QR)(H:Hp)(Q:L2.VK)(_E:XK):Prop
 | mk (a d:aE)(cs:QF)(n:Int)(t:Th)(_:vs=[.ref a,.int n])(_:VS H C a d cs)(_:zh cs n=Y t)(_:∀v,Rep H t v->Q v H):zom C vs H Q _E
def zqj {cs:QF}{n:Int}{t:Th}:Sub cs (addT cs n t):=λ_ _ e=>za9 e
structure NodeOk (k wo:Th)(l r c:Int):Prop where
 k0:k≠ .non
 w0:wo≠ .non
 l0:0<=l
 r0:0<=r
 c1:1<=c
 c2:c<=300
inductive zs4 (vs:QR)(H:Hp)(Q:L2.VK)(_E:XK):Prop
 | mk (i:Int)(_:vs=[.int i])(_:0<=i)(_:Q (.bl Z) H):zs4 vs H Q _E
inductive znh (vs:QR)(H:Hp)(Q:L2.VK)(_E:XK):Prop
 | mk (v:V)(k wo:Th)(l r c:Int)(_:vs=[v])(_:Rep H (zaC k wo l r c) v) (_:NodeOk k wo l r c) (_:Q (.bl Z) H):znh vs H Q _E
structure TOk (cs:QF)(T:Tr):Prop where
 iv:T.InV cs
 ky:∀p∈T.ps,KeyT p.1/\KeyT p.2
 ct:T.cnt<=300
theorem TOk.mono {cs cs':QF}{T:Tr}(t:TOk cs T)(s:Sub cs cs'):TOk cs' T:=⟨InV.mono s t.iv,t.ky,t.ct⟩
theorem TOk.nil {cs:QF}:TOk cs Tr.nil:=⟨trivial,λp h=>(nomatch h),JN _⟩
theorem TOk.l {cs:QF}{l r:Tr}{k w:Th}(t:TOk cs (node l k w r)):TOk cs l:=⟨t.iv.2.1,λp h=>t.ky p (Jo _ h),by have:=t.ct;rw[zt] at this;lia⟩
theorem TOk.r {cs:QF}{l r:Tr}{k w:Th}(t:TOk cs (node l k w r)):TOk cs r:=⟨t.iv.2.2,λp h=>t.ky p (Jh _ (Jj _ h)),by have:=t.ct;rw[zt] at this;lia⟩
theorem TOk.kw {cs:QF}{l r:Tr}{k w:Th}(t:TOk cs (node l k w r)):KeyT k/\KeyT w:=t.ky (k,w) (Jh _ JO)
def TOk.kid {cs:QF}{T:Tr}{x:Th}(t:TOk cs T):TOk cs (T.kid x):=by
 cases T with
 | nil=>exact .nil
 | node l k w r=>
  show TOk cs (if zc k x=Z then r else l);split
  ·exact t.r
  ·exact t.l
theorem TOk.down {cs:QF}{x:Th}:∀{n:Nat}{T:Tr},TOk cs T->TOk cs (down x n T)
 | 0,_,t=>t
 | n+1,_,t=>TOk.down (n:=n) t.kid
def KeyT.good (k:KeyT t):Good t:=⟨k.wf,Jg k.dp (),Jg k.nd ()⟩
def zme {l r c:Int}(hk:KeyT k)(hw:KeyT wo)(l0:0<=l)(l1:l<=10 ^ 30)(r0:0<=r)(r1:r<=10 ^ 30)(c0:1<=c)(c1:c<=300):NodeOk k wo l r c/\Good (zaC k wo l r c):=by
 refine⟨⟨hk.ne,hw.ne,l0,r0,c0,c1⟩,⟨⟨by show(5:Nat)<=40;decide,hk.wf,hw.wf,⟨(),l1⟩,⟨(),r1⟩,⟨(),()⟩,trivial⟩,?_,?_⟩⟩
 ·have h1:=hk.dp;have h2:=hw.dp;show max (dep k) (max (dep wo) (max 0 (max 0 (max 0 0))))+1<=8;lia
 ·have h1:=hk.nd;have h2:=hw.nd;show 1+(nodes k+(nodes wo+(1+(1+(1+0)))))<=80;lia
def za4 (hk:KeyT k)(hw:KeyT w)(h:(node l k w r).cnt<=300):NodeOk k w l.root r.root (((l.ps++(k,w)::r.ps).length:Nat):Int)/\Good (node l k w r).thing:=by have h1:=zfU l;have h2:=zfU r;have h3:(l.ps++(k,w)::r.ps).length=(node l k w r).cnt:=rfl;have h4:=zt l k w r;exact zme hk hw h1.1 () h2.1 () () ()
inductive zt5 (C:aE)(vs:QR)(H:Hp)(Q:L2.VK)(_E:XK):Prop
 | mk (a d:aE)(cs:QF)(l r:Tr)(k w:Th)(m:Int)(_:vs=[.ref a,.int (node l k w r).root,.int m]) (_:VS H C a d cs) (_:TOk cs (node l k w r)) (_:((node l k w r).cnt:Int) < m) (_:∀v,Rep H (node l k w r).thing v->Q v H):zt5 C vs H Q _E
inductive zpK (C:aE)(vs:QR)(H:Hp)(Q:L2.VK)(_E:XK):Prop
 | mk (a d:aE)(cs:QF)(T:Tr)(_:vs=[.ref a,.int T.root])(_:VS H C a d cs)(_:TOk cs T)(_:Q (.int (T.cnt:Int)) H):zpK C vs H Q _E
inductive zoa (C:aE)(vs:QR)(H:Hp)(Q:L2.VK)(_E:XK):Prop
 | mk (a d:aE)(cs:QF)(T:Tr)(m:Int)(_:vs=[.ref a,.int T.root,.int m])(_:VS H C a d cs)(_:TOk cs T)(_:(T.cnt:Int) < m) (_:Q (.int (T.cnt:Int)) H):zoa C vs H Q _E
inductive zkb (vs:QR)(H:Hp)(Q:L2.VK)(_E:XK):Prop
 | mk (t:Th)(v:V)(_:vs=[v])(_:Rep H t v)(_:Good t)(_:∀H',Same H H'->Q (.int (zcE t)) H'):zkb vs H Q _E
inductive zd4 (vs:QR)(H:Hp)(Q:L2.VK)(_E:XK):Prop
 | mk (t u:Th)(v w:V)(_:vs=[v,w])(_:Rep H t v)(_:Rep H u w)(_:Good t)(_:Good u)(_:∀H',Same H H'->Q (.bl (zab t u)) H'):zd4 vs H Q _E
def zmJ (g:Good t):Wf (.tup [.str ("rank" :Str),t])/\dep (.tup [.str ("rank" :Str),t]) < 10/\nodes (.tup [.str ("rank" :Str),t])<=100:=by
 have h1:=g.dp;have h2:=g.nd;refine⟨⟨by show(2:Nat)<=40;decide,⟨by decide+kernel,by decide+kernel⟩,g.wf,trivial⟩,?_,?_⟩
 ·show max 0 (max (dep t) 0)+1 < 10;lia
 ·show 1+(1+(nodes t+0))<=100;lia
theorem zr (rep:Rep H (zaC k wo l r c) v):∃a vk vw,v=.ref a/\H a=Y (.tup [vk,vw,.int l,.int r,.int c])/\Rep H k vk/\Rep H wo vw:=by
 obtain⟨a,xs,e,ea,r1⟩:=rep.list;cases r1 with
 | cons h1 r2=>
 cases r2 with
 | cons h2 r3=>
 cases r3 with
 | cons h3 r4=>
 cases r4 with
 | cons h4 r5=>
 cases r5 with
 | cons h5 r6=>
 cases r6 with
 | nil=>
 cases h3;cases h4;cases h5;exact⟨a,_,_,e,ea,h1,h2⟩
def zqT (D:Dfn K mg "rank" zrE ["key"]) (zdz:Fn P w K mg ax "seal" 13 Sd zb7):Fn P w K mg ax "rank" 14 ["key"] zkb:=by refine D.ok (k:=13) (fsN ["key"]) ⟨⟩;obtain⟨t,v,rfl,rt,gt,q⟩:=h;obtain⟨g1,g2,g3⟩:=zmJ gt;refine⟨aq⟩;refine⟨B,szl (show 2<=1000 by decide),λp hp=>?_⟩;exact⟨_,B,(RepL.cons (.str _) (.cons rt .nil)).new hp,g1,g2,g3,λH' s'=>q H' ((zj (Same.refl H) hp).trans s')⟩
abbrev _root_.SN:List PySem.Str:=["key","other"]
def zn3 (D:Dfn K mg "above" zor SN) (zuY:Fn P w K mg ax "rank" 14 ["key"] zkb) (zaQ:Fn P w K mg ax "ahead" 20 Sk (zav 9)):Fn P w K mg ax "above" 21 SN zd4:=by
 refine D.ok (k:=20) (fsN ["key","other","mine","its"]) ⟨⟩;obtain⟨t,u,v,w,rfl,rt,ru,gt,gu,q⟩:=h;refine⟨aq⟩;refine⟨B,t,v,O,rt,gt,λH1 s1=>?_⟩;refine⟨B,u,w,O,ru.keep (Same.ay s1),gu,λH2 s2=>?_⟩;have s12:=s1.trans s2;have gd:=gt.dp;refine⟨ap,ao⟩;rw[zaa];refine ifB (λc=>?_) (λc=>?_)
 ·have ne:zcE t≠zcE u:=λz=>by rw[aw z] at c;cases c
  refine⟨ap,am,?_⟩;have:=q H2 s12;unfold zab at this;rw[au ne] at this;exact this
 ·have eq:zcE t=zcE u:=by
   by_cases z:zcE t=zcE u
   ·exact z
   ·rw[Jc z] at c;cases c
  refine⟨ap,t,u,v,w,O,rt.keep (Same.ay s12),ru.keep (Same.ay s12),(),(),λH3 s3=>?_⟩;have:=q H3 (s12.trans s3);unfold zab at this;rw[av eq] at this;exact this
end Pv
namespace Pv
open PySem L2
theorem zaM (r:Rep H t v):decide (v=V.non)=decide (t=.non):=by
 cases r with
 | non=>rfl
 | int i=>exact(Jc (by intro z;cases z)).trans (Jc (by intro z;cases z)).symm
 | str x=>exact(Jc (by intro z;cases z)).trans (Jc (by intro z;cases z)).symm
 | tup e l h=>exact(Jc (by intro z;cases z)).trans (Jc (by intro z;cases z)).symm
structure Nd where
 k:Th
 w:Th
 l:Int
 r:Int
 c:Int
abbrev Nd.th (n:Nd):Th:=zaC n.k n.w n.l n.r n.c
def isW:Th->Bool
 | .int _=>Z
 | _=>G
def isR:Th->Bool
 | .int i=>decide (0<=i)
 | _=>G
def znA:Th->Bool
 | .int i=>decide (1<=i) && decide (i<=300)
 | _=>G
def isN:Th->Bool
 | .tup [k,w,l,r,c]=>!decide (k=.non) && (!decide (w=.non) && (isR l && (isR r && znA c)))
 | _=>G
def ndOf:Th->Option Nd
 | .tup [k,w,.int l,.int r,.int c]=>if isN (.tup [k,w,.int l,.int r,.int c])=Z then Y ⟨k,w,l,r,c⟩ else U
 | _=>U
theorem zlj {ts:List Th}(h:ts.length≠5):isN (.tup ts)=G:=by
 match ts,h with
 | [],_=>rfl
 | [_],_=>rfl
 | [_,_],_=>rfl
 | [_,_,_],_=>rfl
 | [_,_,_,_],_=>rfl
 | [_,_,_,_,_],h=>exact Jf rfl h
 | _::_::_::_::_::_::_,_=>rfl
def ztc {nd:Nd}(h:NodeOk nd.k nd.w nd.l nd.r nd.c):isN nd.th=Z:=by
 show(!decide (nd.k=.non) && (!decide (nd.w=.non) && (decide (0<=nd.l) && (decide (0<=nd.r) && (decide (1<=nd.c) && decide (nd.c<=300))))))=Z;rw[Jc h.k0,Jc h.w0,aw h.l0,aw h.r0,aw h.c1,aw h.c2]
 rfl
def zn1 {nd:Nd}(h:isN nd.th=Z):NodeOk nd.k nd.w nd.l nd.r nd.c:=by have h':(!decide (nd.k=.non) && (!decide (nd.w=.non) && (decide (0<=nd.l) && (decide (0<=nd.r) && (decide (1<=nd.c) && decide (nd.c<=300))))))=Z:=h;simp only[J8,Bool.not_eq_true',decide_eq_false_iff_not,decide_eq_true_eq] at h';obtain⟨a,b,c,d,e,f⟩:=h';exact⟨a,b,c,d,e,f⟩
theorem zk7 {nd:Nd}(h:isN nd.th=Z):ndOf nd.th=Y nd:=by show(if isN nd.th=Z then Y nd else U)=Y nd;rw[av h]
def zlh (h:isR t=Z):∃i,t=.int i:=by
 cases t with
 | int i=>exact⟨i,O⟩
 | non=>cases h
 | str x=>cases h
 | tup ts=>cases h
def zr4 (h:isN t=Z):∃nd:Nd,t=nd.th:=by
 cases t with
 | non=>cases h
 | int i=>cases h
 | str x=>cases h
 | tup ts=>
  by_cases hl:ts.length=5
  ·match ts,hl,h with
   | [k,w,l,r,c],_,h=>
    have h':(!decide (k=.non) && (!decide (w=.non) && (isR l && (isR r && znA c))))=Z:=h;simp only[J8] at h';obtain⟨_,_,h3,h4,h5⟩:=h';obtain⟨l',rfl⟩:=zlh h3;obtain⟨r',rfl⟩:=zlh h4;cases c with
    | int c'=>exact⟨⟨k,w,l',r',c'⟩,O⟩
    | non=>cases h5
    | str x=>cases h5
    | tup ts=>cases h5
  ·rw[zlj hl] at h;cases h
def zey {nd:Nd}(h:ndOf t=Y nd):t=nd.th/\isN t=Z:=by
 unfold ndOf at h;split at h
 ·rename_i k w l r c;split at h
  ·rename_i z;cases h;exact⟨O,z⟩
  ·cases h
 ·cases h
theorem zl8 (h:ndOf t=U):isN t=G:=by
 cases z:isN t with
 | false=>rfl
 | true=>obtain⟨nd,rfl⟩:=zr4 z;rw[zk7 z] at h;cases h
inductive zdR (vs:QR)(H:Hp)(Q:L2.VK)(_E:XK):Prop
 | mk (t:Th)(v:V)(_:vs=[v])(_:Rep H t v)(_:Q (.bl (isW t)) H):zdR vs H Q _E
inductive zhX (vs:QR)(H:Hp)(Q:L2.VK)(_E:XK):Prop
 | mk (t:Th)(v:V)(_:vs=[v])(_:Rep H t v)(_:Q (.bl (isR t)) H):zhX vs H Q _E
inductive zlw (vs:QR)(H:Hp)(Q:L2.VK)(_E:XK):Prop
 | mk (t:Th)(v:V)(_:vs=[v])(_:Rep H t v)(_:Q (.bl (isN t)) H):zlw vs H Q _E
abbrev _root_.SO:List PySem.Str:=["value"]
def zmP (D:Dfn K mg "is_whole" zeB SO) (zg:mg "isinstance" =U) (za0:mg "int" =U) (ziv:mg "bool" =U):Fn P w K mg ax "is_whole" 1 SO zdR:=by
 refine D.ok (k:=0) (fsN SO) ⟨⟩;obtain⟨t,v,rfl,rt,q⟩:=h;refine⟨aq⟩;cases rt with
 | non=>exact⟨B,_,_,_,B,.non,O,B,ifF rfl q⟩
 | int i=>refine⟨B,_,_,_,B,.int i,O,B,ifT rfl ?_⟩;exact⟨B,_,_,_,B,.int i,O,B,q⟩
 | str x=>exact⟨B,_,_,_,B,.str x,O,B,ifF rfl q⟩
 | tup e l h=>exact⟨B,_,_,_,B,.tup e,O,B,ifF rfl q⟩
def zpm (D:Dfn K mg "is_root" zjB Sd) (zdA:Fn P w K mg ax "is_whole" 1 SO zdR):Fn P w K mg ax "is_root" 2 Sd zhX:=by
 refine D.ok (k:=1) (fsN Sd) ⟨⟩;obtain⟨t,v,rfl,rt,q⟩:=h;refine⟨aq⟩;refine⟨B,t,v,O,rt,ar⟩;cases rt with
 | non=>exact ifF rfl q
 | int i=>exact ifT rfl ⟨B,am,q⟩
 | str x=>exact ifF rfl q
 | tup e l h=>exact ifF rfl q
def zmp (D:Dfn K mg "is_node" zi8 Sd) (ztL:Fn P w K mg ax "is_root" 2 Sd zhX) (zdA:Fn P w K mg ax "is_whole" 1 SO zdR) (zg:mg "isinstance" =U) (zI:mg "tuple" =U) (zy:mg "len" =U)
  (zat:mg "KEY" =Y (.int 0 t1)) (zbx:mg "WORTH" =Y (.int 1 t2)) (zar:mg "LEFT" =Y (.int 2 t3)) (zae:mg "RIGHT" =Y (.int 3 t4)) (z7:mg "COUNT" =Y (.int 4 t5)) (zeh:mg "MOST_NODES" =Y (.int 300 t6)):
  Fn P w K mg ax "is_node" 3 Sd zlw:=by
 refine D.ok (k:=2) (fsN Sd) ⟨⟩;obtain⟨t,v,rfl,rt,q⟩:=h;refine⟨_,(by have ι:=0;ac_rfl),?_⟩;cases rt with
 | non=>exact⟨B,_,_,_,B,.non,O,B,ifT rfl (ifT rfl q)⟩
 | int i=>exact⟨B,_,_,_,B,.int i,O,B,ifT rfl (ifT rfl q)⟩
 | str x=>exact⟨B,_,_,_,B,.str x,O,B,ifT rfl (ifT rfl q)⟩
 | @tup a xs ts ea l0 h0=>
  refine⟨B,_,_,_,B,.tup ea,O,B,ifF rfl ?_⟩;refine⟨B,a,B,.inr (SqT.of ea),ao⟩;rw[zaa];by_cases hl:ts.length=5
  ·have rep:Rep H (.tup ts) (.ref a):=.tup ea l0 h0
   match ts,hl,rep,q with
   | [k,wo,l,r,c],_,rep,q=>
   obtain⟨a',xs',e,ea',r1⟩:=rep.list;cases e;rw[ea] at ea';cases ea';cases r1 with
   | cons rk r2=>
   cases r2 with
   | cons rw' r3=>
   cases r3 with
   | cons rl r4=>
   cases r4 with
   | cons rr r5=>
   cases r5 with
   | cons rc r6=>
   cases r6 with
   | nil=>
   refine ifF (by rfl) ?_;rename_i vk vw vl vr vc;have et:SqT K H a [vk,vw,vl,vr,vc]:=SqT.of ea;have q':Q (.bl (!decide (k=.non) && (!decide (wo=.non) && (isR l && (isR r && znA c))))) H:=q;refine⟨B,a,aj,et,O,ao⟩;rw[zaM rk];cases z1:decide (k=.non) with
   | true=>rw[z1] at q';exact ifT rfl (ifT rfl q')
   | false=>
   rw[z1] at q';refine ifF rfl ?_;refine⟨B,a,aj,et,O,ao⟩;rw[zaM rw'];cases z2:decide (wo=.non) with
   | true=>rw[z2] at q';exact ifT rfl q'
   | false=>
   rw[z2] at q';refine ifF rfl ?_;refine⟨B,a,aj,et,O,l,B,rl,ar⟩;cases z3:isR l with
   | false=>rw[z3] at q';exact ifT rfl (ifT rfl q')
   | true=>
   rw[z3] at q';refine ifF rfl ?_;refine⟨B,a,aj,et,O,r,B,rr,ar⟩;cases z4:isR r with
   | false=>rw[z4] at q';exact ifT rfl q'
   | true=>
   rw[z4] at q';refine ifF rfl ?_;refine⟨B,a,aj,et,O,c,B,rc,ar⟩;cases rc with
   | non=>exact ifF rfl q'
   | str x=>exact ifF rfl q'
   | tup e l h=>exact ifF rfl q'
   | int i=>
    refine ifT rfl ?_;refine⟨B,a,aj,et,O,am,ar⟩;have q2:Q (.bl (decide (1<=i) && decide (i<=300))) H:=q';cases z5:decide (1<=i) with
    | false=>rw[z5] at q2;exact ifF rfl q2
    | true=>rw[z5] at q2;exact ifT rfl ⟨am,q2⟩
  ·rw[zlj hl] at q;refine ifT (by rw[l0];rw[Jc (show¬((ts.length:Nat):Int)=5 by lia)];rfl) q
inductive Er where
 | bad
 | lacks
 | clash (u t:Th)
structure Vst where
 own:List (Int ×Th)
 kp:List (Int ×Th)
 nt:List (Int ×Th)
 n:Nat
def Vst.all (s:Vst):List (Int ×Th):=s.own++s.kp
def Vst.look (s:Vst)(n:Int):Option (Th ×Vst):=
 match zh s.own n with
 | some t=>Y (t,{s with n:=s.n - 1})
 | none=>match zh s.kp n with
  | some t=>Y (t,{s with nt:=addT s.nt n t,n:=s.n - 1})
  | none=>U
def Vst.add (s:Vst)(t:Th):Vst:={s with own:=addT s.own (zk t) t,n:=s.n - 1}
def Vst.stop (s:Vst)(t:Th):Option Th:=match zh s.all (zk t) with
 | none=>U
 | some u=>if u=t then U else Y u
inductive Pg (α:Type) where
 | ret (x:α)
 | bad
 | rd (n:Int) (k:Th->Pg α)
 | lay (t:Th) (k:Pg α)
def Pg.bind {α β:Type}:Pg α->(α->Pg β)->Pg β
 | .ret x,f=>f x
 | .bad,_=>.bad
 | .rd n k,f=>.rd n λt=>(k t).bind f
 | .lay t k,f=>.lay t (k.bind f)
def Pg.wp {α:Type}:Pg α->Vst->(α->Vst->Prop)->(Er->Vst->Prop)->Prop
 | .ret x,s,q,_=>q x s
 | .bad,s,_,e=>e .bad s
 | .rd n k,s,q,e=>0 < s.n/\(∀t s',s.look n=Y (t,s')->(k t).wp s' q e)/\(s.look n=U->e .lacks s)
 | .lay t k,s,q,e=>0 < s.n/\Good t/\(s.stop t=U->k.wp (s.add t) q e)/\(∀u,s.stop t=Y u->e (.clash u t) s)
theorem Pg.az {α:Type}{f:α->Pg β}{q:β->Vst->Prop}{e:Er->Vst->Prop}:∀{p:Pg α}{s:Vst},(p.bind f).wp s q e=p.wp s (λx s'=>(f x).wp s' q e) e
 | .ret x,s=>rfl
 | .bad,s=>rfl
 | .rd n k,s=>by show(0 < s.n/\(∀t s',s.look n=Y (t,s')->((k t).bind f).wp s' q e)/\(s.look n=U->e .lacks s))=(0 < s.n/\(∀t s',s.look n=Y (t,s')->(k t).wp s' (λx s'=>(f x).wp s' q e) e)/\(s.look n=U->e .lacks s));rw[show(∀t s',s.look n=Y (t,s')->((k t).bind f).wp s' q e)=(∀t s',s.look n=Y (t,s')->(k t).wp s' (λx s'=>(f x).wp s' q e) e) from forall_congr λt=>forall_congr λs'=>by rw[az (p:=k t)]]
 | .lay t k,s=>by show(0 < s.n/\Good t/\(s.stop t=U->(k.bind f).wp (s.add t) q e)/\(∀u,s.stop t=Y u->e (.clash u t) s))=(0 < s.n/\Good t/\(s.stop t=U->k.wp (s.add t) (λx s'=>(f x).wp s' q e) e)/\(∀u,s.stop t=Y u->e (.clash u t) s));rw[az (p:=k)]
theorem Pg.aA {α:Type}{q q':α->Vst->Prop}{e e':Er->Vst->Prop}(hq:∀x s,q x s->q' x s)(he:∀r s,e r s->e' r s):∀{p:Pg α}{s:Vst},p.wp s q e->p.wp s q' e'
 | .ret x,s,h=>hq x s h
 | .bad,s,h=>he _ s h
 | .rd n k,s,⟨h0,h,h2⟩=>⟨h0,λt s' z=>aA hq he (h t s' z),λz=>he _ s (h2 z)⟩
 | .lay t k,s,⟨h0,hg,h,h2⟩=>⟨h0,hg,λz=>aA hq he (h z),λu z=>he _ s (h2 u z)⟩
def NL (H H':Hp):Prop:=∀b o,(∀xs,o≠ .lst xs)->H b=Y o->H' b=Y o
theorem Same.nl (s:Same H H'):NL H H':=λb o _ e=>s b o e
theorem NL.lst {H:Hp}{p:aE}{xs ys:QR}(e:H p=Y (.lst xs)):NL H (upd H p (.lst ys)):=λb o h q=>by rw[zd (λz=>by rw[z,e] at q;cases q;exact h xs rfl)];exact q
abbrev VRT:=Hp->aE->List aE->Vst->Prop
structure VI (C:aE)(VR:VRT):Prop where
 ins:∀{H a D s},VR H a D s->∃dx fs,H a=Y (.ins C dx fs)/\fs.lookup ("thing" :Str)=U/\fs.lookup ("lay" :Str)=U
 dic:∀{H a D s},VR H a D s->∀d∈D,∃kv,H d=Y (.dK kv)
 nl:∀{H H' a D s},VR H a D s->NL H H'->VR H' a D s
theorem VI.same (I:VI C VR){H:Hp}{a:aE}{D:QP}{s:Vst}(v:VR H a D s)(sm:Same H H'):VR H' a D s:=I.nl v (Same.nl sm)
def VI.not (I:VI C VR){H:Hp}{a b:aE}{D:QP}{s:Vst}{o:HO}(v:VR H a D s)(e:H b=Y o)(h:∀kv,o≠ .dK kv):b∉D:=λz=>by obtain⟨kv,ek⟩:=I.dic v b z;rw[ek] at e;cases e;exact h kv rfl
theorem VI.ay (I:VI C VR){H:Hp}{a:aE}{D:QP}{s:Vst}(v:VR H a D s)(f:Frm D H H'):Tups H H':=λb xs e=>f b _ (I.not v e (by intro kv z;cases z)) e
theorem VI.lst {C:aE}{VR:VRT}(I:VI C VR){H H':Hp}{a b:aE}{D:QP}{s:Vst}{xs:QR}(v:VR H a D s)(f:Frm D H H')(e:H b=Y (.lst xs)):H' b=Y (.lst xs):=f b _ (I.not v e (by intro kv z;cases z)) e
def OutE (VR:VRT)(CN CB CC a:aE)(D:QP)(H:Hp)(E:XK):Er->Vst->Prop
 | .bad,s=>∀H',Frm D H H'->VR H' a D s->E (.ref CB) U H'
 | .lacks,s=>∀H',Frm D H H'->VR H' a D s->E (.ref CN) U H'
 | .clash u t,s=>∀(x:aE)(v1 v2:V)(H':Hp),Frm D H H'->VR H' a D s->Rep H' u v1->Rep H' t v2->Good u->Good t->u≠t->zk u=zk t->H' x=Y (xdO x [("one",v1),("other",v2)])->E (.ref CC) (Y x) H'
theorem OutE.on (f:Frm D H H1):∀r s,OutE VR CN CB CC a D H E r s->OutE VR CN CB CC a D H1 E r s
 | .bad,s,h=>λH' f' v=>h H' (f.trans f') v
 | .lacks,s,h=>λH' f' v=>h H' (f.trans f') v
 | .clash u t,s,h=>λx v1 v2 H' f' v=>h x v1 v2 H' (f.trans f') v
def OutQ {α:Type}(VR:VRT)(a:aE)(D:QP)(rp:Hp->α->V->Prop)(H:Hp)(Q:V->Hp->Prop)(x:α)(s:Vst):Prop:=∀v H',Frm D H H'->VR H' a D s->rp H' x v->Q v H'
def OutQ.on {α:Type}{rp:Hp->α->V->Prop}(f:Frm D H H1)(x:α)(s:Vst)(h:OutQ VR a D rp H Q x s):OutQ VR a D rp H1 Q x s:=λv H' f'=>h v H' (f.trans f')
abbrev Out {α:Type}(VR:VRT)(CN CB CC a:aE)(D:QP)(p:Pg α)(s:Vst)(rp:Hp->α->V->Prop)(H:Hp)(Q:V->Hp->Prop)(E:XK):Prop:=p.wp s (OutQ VR a D rp H Q) (OutE VR CN CB CC a D H E)
inductive zcm (VR:VRT)(CN:aE)(vs:QR)(H:Hp)(Q:L2.VK)(E:XK):Prop
 | mk (a:aE)(D:QP)(s:Vst)(n:Int)(_:vs=[.ref a,.int n])(_:VR H a D s)(_:0 < s.n)(_:(∀t s' v H',s.look n=Y (t,s')->Frm D H H'->VR H' a D s'->Rep H' t v->Good t->Q v H')) (_:(∀H',s.look n=U->Frm D H H'->VR H' a D s->E (.ref CN) U H')):zcm VR CN vs H Q E
inductive zbV (VR:VRT)(CC:aE)(vs:QR)(H:Hp)(Q:L2.VK)(E:XK):Prop
 | mk (a:aE)(D:QP)(s:Vst)(t:Th)(v:V)(_:vs=[.ref a,v])(_:VR H a D s)(_:0 < s.n)(_:Rep H t v)(_:Good t)(_:(∀H',s.stop t=U->Frm D H H'->VR H' a D (s.add t)->Q (.int (zk t)) H')) (_:(∀(u:Th)(x:aE)(v1 v2:V)(H':Hp),s.stop t=Y u->Frm D H H'->VR H' a D s->Rep H' u v1->Rep H' t v2->Good u->Good t->u≠t->zk u=zk t->H' x=Y (xdO x [("one",v1),("other",v2)])->E (.ref CC) (Y x) H')):zbV VR CC vs H Q E
def NdR (H:Hp)(nd:Nd)(v:V):Prop:=Rep H nd.th v/\Good nd.th
def benK (m:Int)(t:Th):Pg Nd:=match ndOf t with
 | none=>.bad
 | some nd=>if nd.c < m then .ret nd else .bad
theorem zew (h:ndOf t=U):benK m t=.bad:=by unfold benK;rw[h]
theorem zc9 {nd:Nd}(h:ndOf t=Y nd):benK m t=if nd.c < m then .ret nd else .bad:=by unfold benK;rw[h]
def benP (n m:Int):Pg Nd:=.rd n (benK m)
def zjv {s:Vst}{q:Nd->Vst->Prop}{e:Er->Vst->Prop}(h:(benP n m).wp s q e):(benP n m).wp s (λnd s'=>(1<=nd.c/\nd.c < m)/\q nd s') e:=by
 refine⟨h.1,λt s' z=>?_,h.2.2⟩;have h1:=h.2.1 t s' z;cases y:ndOf t with
 | none=>rw[zew y] at h1 ⊢;exact h1
 | some nd=>
  rw[zc9 y] at h1 ⊢;obtain⟨rfl,zz⟩:=zey y;by_cases hc:nd.c < m
  ·rw[av hc] at h1 ⊢;exact⟨⟨(zn1 zz).c1,hc⟩,h1⟩
  ·rw[au hc] at h1 ⊢;exact h1
def zbv (n m:Int):Pg Int:=if n=0 then .ret 0 else(benP n m).bind λnd=>.ret nd.c
def IntR (_:Hp)(i:Int)(v:V):Prop:=v=.int i
def NonR (_:Hp)(_:Unit)(v:V):Prop:=v=.non
def sumP (nd:Nd):Pg Unit:=(zbv nd.l nd.c).bind λx=>(zbv nd.r nd.c).bind λy=>if x+y+1=nd.c then .ret Unit.unit else .bad
inductive zcA (VR:VRT)(CN CB CC:aE)(vs:QR)(H:Hp)(Q:L2.VK)(E:XK):Prop
 | mk (a:aE)(D:QP)(s:Vst)(n m:Int)(_:vs=[.ref a,.int n,.int m])(_:VR H a D s)(_:Out VR CN CB CC a D (benP n m) s NdR H Q E):zcA VR CN CB CC vs H Q E
inductive zbL (VR:VRT)(CN CB CC:aE)(vs:QR)(H:Hp)(Q:L2.VK)(E:XK):Prop
 | mk (a:aE)(D:QP)(s:Vst)(n m:Int)(_:vs=[.ref a,.int n,.int m])(_:VR H a D s)(_:Out VR CN CB CC a D (zbv n m) s IntR H Q E):zbL VR CN CB CC vs H Q E
inductive zh1 (VR:VRT)(CN CB CC:aE)(vs:QR)(H:Hp)(Q:L2.VK)(E:XK):Prop
 | mk (a:aE)(D:QP)(s:Vst)(n:Int)(_:vs=[.ref a,.int n])(_:VR H a D s)(_:Out VR CN CB CC a D (zbv n 301) s IntR H Q E):zh1 VR CN CB CC vs H Q E
inductive zkt (VR:VRT)(CN CB CC:aE)(vs:QR)(H:Hp)(Q:L2.VK)(E:XK):Prop
 | mk (a:aE)(D:QP)(s:Vst)(nd:Nd)(v:V)(_:vs=[.ref a,v])(_:VR H a D s)(_:NdR H nd v)(_:Out VR CN CB CC a D (sumP nd) s NonR H Q E):zkt VR CN CB CC vs H Q E
abbrev _root_.Sc:List PySem.Str:=["vault","root","count"]
def zql (I:VI C VR)(D:Dfn K mg "node_beneath" zbB Sc) (zlV:Mt P w K mg ax (CX1 P w) C "thing" 2 Se (zcm VR CN)) (c_K:Cls K C) (zhr:Fn P w K mg ax "is_node" 3 Sd zlw) (zaK:XP K mg "BadThing" CB) (z7:mg "COUNT" =Y (.int 4 t5)):
  FnX P w K mg ax "node_beneath" 4 Sc (zcA VR CN CB CC):=by
 refine D.okX (k:=3) (fsN ["vault","root","count","node"]) ⟨⟩;obtain⟨a,D,s,n,m,rfl,vs,h⟩:=h;obtain⟨h0,h1,h2⟩:=h;obtain⟨dx,fs,eo,n1,n2⟩:=I.ins vs;refine⟨_,(by have ι:=0;ac_rfl),?_⟩;refine⟨B,a,dx,B,eo,n1,B,a,D,s,n,O,vs,h0,λt s' v H1 lt f1 vs1 rep gt=>?_,λH1 ln f1 vs1=>h2 ln H1 f1 vs1⟩;have h3:=h1 t s' lt;refine⟨B,t,v,O,rep,ar⟩;cases z:ndOf t with
 | none=>rw[zew z] at h3;rw[zl8 z];refine ifT rfl (ifT rfl ⟨szl (show 1<=1000 by decide),λe he=>⟨e,CB,U,O,za,zaK.cl.q,?_⟩⟩);rw[zed he];exact h3 H1 f1 vs1
 | some nd=>
  rw[zc9 z] at h3;obtain⟨rfl,zz⟩:=zey z;rw[zz];obtain⟨p,vk,vw,rfl,ea,rk,rw'⟩:=zr rep;have et:SqT K H1 p [vk,vw,.int nd.l,.int nd.r,.int nd.c]:=SqT.of ea;refine ifF rfl ⟨B,p,aj,et,O,B,am,ar⟩;by_cases hc:nd.c < m
  ·rw[av hc] at h3;exact ifF (Jc (Int.not_le.mpr hc)) ⟨B,h3 _ H1 f1 vs1 ⟨rep,gt⟩⟩
  ·rw[au hc] at h3;refine ifT (aw (Int.not_lt.mp hc)) ⟨szl (show 1<=1000 by decide),λe he=>⟨e,CB,U,O,za,zaK.cl.q,?_⟩⟩;rw[zed he];exact h3 H1 f1 vs1
def zm1 (I:VI C VR)(D:Dfn K mg "size_beneath" zbE Sc) (zaA:FnX P w K mg ax "node_beneath" 4 Sc (zcA VR CN CB CC)) (z7:mg "COUNT" =Y (.int 4 t5)):
  FnX P w K mg ax "size_beneath" 5 Sc (zbL VR CN CB CC):=by
 refine D.okX (k:=4) (fsN Sc) ⟨⟩;obtain⟨a,D,s,n,m,rfl,vs,h⟩:=h;refine⟨_,(by have ι:=0;ac_rfl),?_⟩;refine⟨B,ao⟩;rw[zaa];unfold zbv Out at h;by_cases h0:n=0
 ·rw[av h0] at h;exact ifT (aw h0) (h _ H (Frm.of (Same.refl H)) vs rfl)
 ·rw[au h0,Pg.az] at h;refine ifF (Jc h0) ?_;refine⟨ap,B,a,D,s,n,m,O,vs,Pg.aA (λnd s' q v H1 f1 vs1 rn=>?_) (λ_ _ z=>z) h⟩;obtain⟨p,vk,vw,rfl,ea,rk,rw'⟩:=zr rn.1;exact⟨p,aj,SqT.of ea,O,q _ H1 f1 vs1 rfl⟩
abbrev _root_.SK:List PySem.Str:=["vault","root"]
def zow (I:VI C VR)(D:Dfn K mg "size" ssize SK) (zbm:FnX P w K mg ax "size_beneath" 5 Sc (zbL VR CN CB CC)) (zah:mg "BENEATH_NONE" =Y (.int 301 t7)):
  FnX P w K mg ax "size" 6 SK (zh1 VR CN CB CC):=by
 refine D.okX (k:=5) (fsN SK) ⟨⟩;obtain⟨a,D,s,n,rfl,vs,h⟩:=h;refine⟨aq⟩;exact⟨ap,a,D,s,n,301,O,vs,h⟩
abbrev zjq:aB:=top 59
abbrev zfB:aB:=top 71
abbrev zh3:aB:=top 60
abbrev zjm:aB:=top 61
abbrev zkg:aB:=top 62
def zcv {xs:QR}{v:V}:atI (xs++ [v]) (-1)=Y v:=by
 unfold atI ixN;rw[au (),av (by simp only[JF,List.length_singleton];lia)];show(xs++ [v])[((-1:Int)+(((xs++ [v]).length:Nat):Int)).toNat]? =_;rw[show((-1:Int)+(((xs++ [v]).length:Nat):Int)).toNat=xs.length by simp only[JF,List.length_singleton];lia,JY (Jb _),Nat.sub_self]
 rfl
theorem RepL.unsnoc {t:Th}:∀{ts:List Th}{vs:QR},RepL H (ts++ [t]) vs->∃us v,vs=us++ [v]/\RepL H ts us/\Rep H t v
 | [],_,.cons h .nil=>⟨[],B,.nil,h⟩
 | u::ts,_,.cons h r=>by obtain⟨us,v,e,r',h'⟩:=RepL.unsnoc r;exact⟨_::us,v,by rw[e];rfl,.cons h r',h'⟩
def zb6 {nd:Nd}(g:Good nd.th):dep nd.k<=7/\dep nd.w<=7:=by have h:max (dep nd.k) (max (dep nd.w) (max 0 (max 0 (max 0 0))))+1<=8:=Jg g.dp ();lia
def zcj (k x:Th):Int:=if zc k x=Z then 3 else 2
def kidI (nd:Nd)(x:Th):Int:=if zc nd.k x=Z then nd.r else nd.l
def wayP (x:Th):Nat->Int->Int->Pg (List Nd)
 | 0,_,_=>.bad
 | f+1,n,m=>if n=0 then .ret [] else(benP n m).bind λnd=>if nd.k=x then .ret [nd] else(wayP x f (kidI nd x) nd.c).bind λns=>.ret (nd::ns)
theorem znM {q:List Nd->Vst->Prop}{e:Er->Vst->Prop}:∀{f:Nat}{n m:Int}{s:Vst},m<=301->(wayP x f n m).wp s q e->(wayP x f n m).wp s (λns s'=>(∀nd∈ns,1<=nd.c/\nd.c<=300)/\q ns s') e
 | 0,_,_,_,_,h=>h
 | f+1,n,m,s,hm,h=>by
  unfold wayP at h ⊢;by_cases h0:n=0
  ·rw[av h0] at h ⊢;exact⟨λnd z=>(nomatch z),h⟩
  ·rw[au h0,Pg.az] at h ⊢;refine Pg.aA (λnd s' h1=>?_) (λ_ _ z=>z) (zjv h);obtain⟨⟨c1,c2⟩,h1⟩:=h1;by_cases ek:nd.k=x
   ·rw[av ek] at h1 ⊢;exact⟨λy hy=>by rw[Ji.mp hy];exact⟨c1,()⟩,h1⟩
   ·rw[au ek,Pg.az] at h1 ⊢;refine Pg.aA (λns s2 h2=>?_) (λ_ _ z=>z) (znM () h1);refine⟨λy hy=>?_,h2.2⟩;rcases JJ.mp hy with rfl | hy
    ·exact⟨c1,()⟩
    ·exact h2.1 y hy
def WayR (H:Hp)(ns:List Nd)(v:V):Prop:=∃pw ws,v=.ref pw/\H pw=Y (.lst ws)/\RepL H (ns.map Nd.th) ws/\(∀nd∈ns,Good nd.th)/\ns.length<=301
def zdg (ns:List Nd)(x:Th):Bool:=match ns.getLast? with
 | none=>G
 | some nd=>eqT nd.k x
def endW (ns:List Nd)(x:Th):Th:=match ns.getLast? with
 | none=>.non
 | some nd=>if nd.k=x then nd.w else .non
def zij (n:Int)(x:Th):Pg Th:=(wayP x 301 n 301).bind λns=>.ret (endW ns x)
def ThR (H:Hp)(t:Th)(v:V):Prop:=Rep H t v
inductive zc3 (vs:QR)(H:Hp)(Q:L2.VK)(_E:XK):Prop
 | mk (v vx:V)(nd:Nd)(x:Th)(_:vs=[v,vx])(_:Rep H nd.th v)(_:Rep H x vx)(_:dep nd.k<=7)(_:∀H',Same H H'->Q (.int (zcj nd.k x)) H'):zc3 vs H Q _E
def zW (nd:Nd)(s n m:Int):Nd:=if s=2 then⟨nd.k,nd.w,n,nd.r,m⟩ else⟨nd.k,nd.w,nd.l,n,m⟩
inductive zc6 (vs:QR)(H:Hp)(Q:L2.VK)(_E:XK):Prop
 | mk (v:V)(nd:Nd)(i n m:Int)(_:vs=[v,.int i,.int n,.int m])(_:Rep H nd.th v)(_:∀p H',Same H H'->Rep H' (zW nd i n m).th (.ref p)->Q (.ref p) H'):zc6 vs H Q _E
inductive zeD (VR:VRT)(CN CB CC:aE)(vs:QR)(H:Hp)(Q:L2.VK)(E:XK):Prop
 | mk (a:aE)(D:QP)(s:Vst)(n:Int)(x:Th)(vx:V)(_:vs=[.ref a,.int n,vx])(_:VR H a D s)(_:Rep H x vx)(_:dep x<=8)(_:Out VR CN CB CC a D (wayP x 301 n 301) s WayR H Q E):zeD VR CN CB CC vs H Q E
inductive zcV (K:QA)(vs:QR)(H:Hp)(Q:L2.VK)(_E:XK):Prop
 | mk (pw:aE)(ws:QR)(ns:List Nd)(x:Th)(vx:V)(_:vs=[.ref pw,vx])(_:SqL K H pw ws)(_:RepL H (ns.map Nd.th) ws) (_:(∀nd∈ns,Good nd.th)) (_:Rep H x vx) (_:Q (.bl (zdg ns x)) H):zcV K vs H Q _E
inductive zfy (VR:VRT)(CN CB CC:aE)(vs:QR)(H:Hp)(Q:L2.VK)(E:XK):Prop
 | mk (a:aE)(D:QP)(s:Vst)(n:Int)(x:Th)(vx:V)(_:vs=[.ref a,.int n,vx])(_:VR H a D s)(_:Rep H x vx)(_:dep x<=8)(_:Out VR CN CB CC a D (zij n x) s ThR H Q E):zfy VR CN CB CC vs H Q E
theorem zga {t u:Th}(h:t=u):eqT t u=Z:=by rw[h,z9]
theorem zhP {t u:Th}(h:t≠u):eqT t u=G:=by
 cases z:eqT t u with
 | true=>exact Jf ((zJ _ _).mp z) h
 | false=>rfl
abbrev _root_.SI:List PySem.Str:=["node","key"]
def zo9 (D:Dfn K mg "side_of" zjq SI) (zaQ:Fn P w K mg ax "ahead" 20 Sk (zav 9)) (zat:mg "KEY" =Y (.int 0 t1)) (zar:mg "LEFT" =Y (.int 2 t3)) (zae:mg "RIGHT" =Y (.int 3 t4)):Fn P w K mg ax "side_of" 21 SI zc3:=by
 refine D.ok (k:=20) (fsN SI) ⟨⟩;obtain⟨v,vx,nd,x,rfl,rn,rx,kd,q⟩:=h;obtain⟨p,vk,vw,rfl,ea,rk,rw'⟩:=zr rn;have et:SqT K H p [vk,vw,.int nd.l,.int nd.r,.int nd.c]:=SqT.of ea;refine⟨_,(by have ι:=0;ac_rfl),?_⟩;refine⟨B,p,aj,et,O,B,nd.k,x,_,B,rk,rx,(),(),λH1 s1=>⟨ar⟩⟩;have q1:=q H1 s1;unfold zcj at q1;cases z:zc nd.k x with
 | true=>rw[av z] at q1;exact ifT rfl q1
 | false=>rw[au (by rw[z];exact Jd)] at q1;exact ifF rfl q1
abbrev _root_.Sl:List PySem.Str:=["node","side","root","count"]
def zns (D:Dfn K mg "with_tree" zfB Sl) (zat:mg "KEY" =Y (.int 0 t1)) (zbx:mg "WORTH" =Y (.int 1 t2)) (zar:mg "LEFT" =Y (.int 2 t3)) (zae:mg "RIGHT" =Y (.int 3 t4)):Fn P w K mg ax "with_tree" 1 Sl zc6:=by
 refine D.ok (k:=0) (fsN Sl) ⟨⟩;obtain⟨v,nd,i,n,m,rfl,rn,q⟩:=h;obtain⟨p,vk,vw,rfl,ea,rk,rw'⟩:=zr rn;have et:SqT K H p [vk,vw,.int nd.l,.int nd.r,.int nd.c]:=SqT.of ea;refine⟨_,(by have ι:=0;ac_rfl),?_⟩;refine⟨B,ao⟩;rw[zaa];unfold zW at q;by_cases z:i=2
 ·refine ifT (aw z) ?_;refine⟨B,p,aj,et,O,B,p,aj,et,O,ap,p,aj,et,O,B,szl (show 5<=1000 by decide),λp' hp'=>?_⟩;refine q p' _ (zj (Same.refl H) hp') ?_;rw[av z];exact(RepL.cons rk (.cons rw' (.cons (.int _) (.cons (.int _) (.cons (.int _) .nil))))).new hp'
 ·refine ifF (Jc z) ?_;refine⟨B,p,aj,et,O,B,p,aj,et,O,B,p,aj,et,O,ap,szl (show 5<=1000 by decide),λp' hp'=>?_⟩;refine q p' _ (zj (Same.refl H) hp') ?_;rw[au z];exact(RepL.cons rk (.cons rw' (.cons (.int _) (.cons (.int _) (.cons (.int _) .nil))))).new hp'
abbrev _root_.Sb:List PySem.Str:=["vault","root","key"]
def zq5 (I:VI C VR)(D:Dfn K mg "way_to" zh3 Sb) (zaA:FnX P w K mg ax "node_beneath" 4 Sc (zcA VR CN CB CC)) (zhs:Fn P w K mg ax "side_of" 21 SI zc3) (zat:mg "KEY" =Y (.int 0 t1)) (z7:mg "COUNT" =Y (.int 4 t5)) (zah:mg "BENEATH_NONE" =Y (.int 301 t7)):
  FnX P w K mg ax "way_to" 22 Sb (zeD VR CN CB CC):=by
 refine D.okX (k:=21) (fsN ["vault","root","key","way","count","node"]) ⟨⟩;obtain⟨a,D,s,n,x,vx,rfl,vs,rx,dx,h⟩:=h;refine⟨_,(by have ι:=0;have θ:=0;ac_rfl),?_⟩;refine⟨szl (show 0<=1000 by decide),λpw hpw=>?_⟩;have s0:=zj (o:=.lst []) (Same.refl H) hpw;have e0:upd H pw (.lst []) pw=Y (.lst []):=za;generalize upd H pw (.lst [])=H0 at s0 e0;refine⟨λm σ H'=>∃(s1:Vst)(n c:Int)(done:List Nd)(ws:QR)(k5:Option V),(wayP x m n c).wp s1 (λrest s'=>OutQ VR a D WayR H Q (done++rest) s') (OutE VR CN CB CC a D H E)/\1<=c/\c<=(m:Int)/\done.length+m<=301/\σ=[Y (.ref a),Y (.int n),Y vx,Y (.ref pw),Y (.int c),k5]/\Frm D H H'/\VR H' a D s1/\H' pw=Y (.lst ws)/\RepL H' (done.map Nd.th) ws/\(∀nd∈done,Good nd.th),⟨301,s,n,301,[],[],_,h,(),(),(),O,Frm.of s0,I.same vs s0,e0,.nil,λnd z=>by cases z⟩,?_⟩;clear h;rintro m σ H1 ⟨s1,n,c,done,ws,k5,h,hc1,hcm,hdm,rfl,f1,vs1,e1,r1,gd⟩;refine⟨B,ao⟩;rw[zaa];obtain⟨m,rfl⟩:∃j,m=j+1:=⟨m - 1,()⟩;unfold wayP at h;by_cases hn:n=0
 ·rw[av hn] at h;refine ifF (by rw[aw hn];rfl) ⟨B,h _ H1 f1 vs1 ⟨pw,ws,O,e1,?_,?_,?_⟩⟩
  ·rw[JS];exact r1
  ·rw[JS];exact gd
  ·rw[JS];lia
 rw[au hn,Pg.az] at h;refine ifT (by rw[Jc hn];rfl) ⟨_,fun σ' H' h=>h,?_⟩;refine⟨ap,B,a,D,s1,n,c,O,vs1,?_⟩;have hb:(benP n c).wp s1 (λnd s'=>(1<=nd.c/\nd.c < c)/\(if nd.k=x then Pg.ret [nd] else(wayP x m (kidI nd x) nd.c).bind λns=>.ret (nd::ns)).wp s' (λrest s'=>OutQ VR a D WayR H Q (done++rest) s') (OutE VR CN CB CC a D H E)) (OutE VR CN CB CC a D H E):=zjv h;refine Pg.aA (λnd s2 h2 v H2 f2 vs2 rn=>?_) (OutE.on f1) hb;obtain⟨⟨c1,c2⟩,h2⟩:=h2;obtain⟨rn,gn⟩:=rn;obtain⟨p,vk,vw,rfl,ea,rk,rw'⟩:=zr rn;have gd':∀nd'∈done++ [nd],Good nd'.th:=λnd' z=>by
  rcases Jk.mp z with z | z
  ·exact gd nd' z
  ·rw[Ji.mp z];exact gn
 have e2:=I.lst vs1 f2 e1;have hlw:ws.length=done.length:=by rw[r1.len,JI]
 refine⟨B,.inl ⟨O,_,SqL.of e2⟩,B,pw,ws,B,O,e2,Je (show ws.length < 1000 by lia) (szl (Jb _)),?_⟩;have tk1:Tups H2 (upd H2 pw (.lst (ws++ [.ref p]))):=Tups.upd λxs z=>by rw[e2] at z;cases z
 have e3:upd H2 pw (.lst (ws++ [.ref p])) pw=Y (.lst (ws++ [.ref p])):=za;have f3:Frm D H (upd H2 pw (.lst (ws++ [.ref p]))):=zbs (f1.trans f2) hpw;have vs3:VR (upd H2 pw (.lst (ws++ [.ref p]))) a D s2:=I.nl vs2 (NL.lst e2);have r3:RepL (upd H2 pw (.lst (ws++ [.ref p]))) ((done++ [nd]).map Nd.th) (ws++ [.ref p]):=by rw[JU];exact((r1.keep (I.ay vs1 f2)).keep tk1).snoc (rn.keep tk1)
 have rn3:=rn.keep tk1;have ea3:=tk1 _ _ ea;have rk3:=rk.keep tk1;have rx3:=(rx.keep ((I.ay vs (f1.trans f2)).trans tk1));generalize upd H2 pw (.lst (ws++ [.ref p]))=H3 at tk1 e3 f3 vs3 r3 rn3 ea3 rk3 rx3;have et:SqT K H3 p _:=SqT.of ea3;have kd:=(zb6 gn).1;refine⟨B,p,aj,et,O,B,nd.k,x,rk3,rx3,(),ar⟩;by_cases ek:nd.k=x
 ·rw[av ek] at h2;exact ifT (zga ek) ⟨B,h2 _ H3 f3 vs3 ⟨pw,B,e3,r3,gd',by rw[JF];show done.length+1<=301;lia⟩⟩
 ·rw[au ek,Pg.az] at h2;refine ifF (zhP ek) ?_;refine⟨ap,B,_,_,nd,x,O,rn3,rx3,kd,λH4 s4=>?_⟩;have et4:SqT K H4 p _:=SqT.of (s4 _ _ ea3);have ix:atI [vk,vw,.int nd.l,.int nd.r,.int nd.c] (zcj nd.k x)=Y (.int (kidI nd x)):=by
   unfold zcj kidI;by_cases y:zc nd.k x=Z
   ·rw[av y,av y];rfl
   ·rw[au y,au y];rfl
  refine⟨p,aj,et4,ix,?_⟩;refine⟨B,p,aj,et4,O,?_⟩;refine⟨m,Jr m,s2,_,_,done++ [nd],_,_,Pg.aA (λns s' z=>?_) (λ_ _ z=>z) h2,c1,(),by rw[JF];show done.length+1+m<=301;lia,O,f3.trans (Frm.of s4),I.same vs3 s4,s4 _ _ e3,r3.keep (Same.ay s4),gd'⟩;have z':OutQ VR a D WayR H Q (done++(nd::ns)) s':=z;rw[Nj];exact z'
abbrev _root_.Sv:List PySem.Str:=["way","key"]
def _root_.Nk:=@List.getLast?_concat
def zoz (D:Dfn K mg "ends_at" zjm Sv) (zat:mg "KEY" =Y (.int 0 t1)) (zy:mg "len" =U):Fn P w K mg ax "ends_at" 1 Sv (zcV K):=by
 refine D.ok (k:=0) (fsN Sv) ⟨⟩;obtain⟨pw,ws,ns,x,vx,rfl,hs,rw,kt,rx,q⟩:=h;have hl:ws.length=ns.length:=by rw[rw.len,JI]
 refine⟨_,(zx (zQ (zfs ∅ (zdx (zax (zcT hr) (zdi zes ∅ ∅ (λ_ _=>O)) (pv 1) (zaF _)))))),?_⟩;refine⟨B,pw,B,.inl hs,am,ar⟩;rcases NB ns with e | ⟨pre,nd,e⟩
 ·subst e;refine ifF (by show decide ((0:Int) < ((ws.length:Nat):Int))=G;rw[hl];rfl) q
 ·rw[NC] at e;subst e;have kd:=(zb6 (kt nd (by simp))).1;rw[JU] at rw;obtain⟨us,v,rfl,rus,rn⟩:=rw.unsnoc;obtain⟨p,vk,vw,rfl,ea,rk,_⟩:=zr rn;refine ifT (aw (show(0:Int) < (((us++ [V.ref p]).length:Nat):Int) by simp only[JF,List.length_singleton];lia)) ?_;have q':Q (.bl (eqT nd.k x)) H:=by unfold zdg at q;rw[Nk] at q;exact q
  exact⟨ap,pw,aj,hs,zcv,p,aj,SqT.of ea,O,B,nd.k,x,rk,rx,(),q'⟩
def zmL (I:VI C VR)(D:Dfn K mg "found" zkg Sb) (zgw:FnX P w K mg ax "way_to" 22 Sb (zeD VR CN CB CC)) (zht:Fn P w K mg ax "ends_at" 1 Sv (zcV K)) (zbx:mg "WORTH" =Y (.int 1 t2)):FnX P w K mg ax "found" 23 Sb (zfy VR CN CB CC):=by
 refine D.okX (k:=22) (fsN ["vault","root","key","way"]) ⟨⟩;obtain⟨a,D,s,n,x,vx,rfl,vs,rx,dx,h⟩:=h;refine⟨_,(zb ∅
 (zx (zQ (zf4 ∅ (zdi zes ∅ ∅ (λ_ _=>O)) zoV)))),?_⟩
 unfold Out zij at h;rw[Pg.az] at h;refine⟨ap,B,a,D,s,n,x,vx,O,vs,rx,dx,Pg.aA (λns s1 h1 v H1 f1 vs1 rn=>?_) (λ_ _ z=>z) h⟩;obtain⟨pw,ws,rfl,ew,rwy,gd,hl⟩:=rn;refine⟨ap,pw,ws,ns,x,vx,O,SqL.of ew,rwy,gd,rx.keep (I.ay vs f1),ar⟩;have h2:OutQ VR a D ThR H Q (endW ns x) s1:=h1;rcases NB ns with e | ⟨pre,nd,e⟩
 ·subst e;exact ifF rfl (h2 _ H1 f1 vs1 .non)
 ·rw[NC] at e;subst e;have eb:zdg (pre++ [nd]) x=eqT nd.k x:=by unfold zdg;rw[Nk]
  have ew':endW (pre++ [nd]) x=if nd.k=x then nd.w else .non:=by unfold endW;rw[Nk]
  rw[ew'] at h2;rw[eb];by_cases ek:nd.k=x
  ·rw[av ek] at h2;rw[JU] at rwy;obtain⟨us,v,rfl,rus,rn⟩:=rwy.unsnoc;obtain⟨p,vk,vw,rfl,ea,rk,rw'⟩:=zr rn;exact ifT (zga ek) ⟨ap,pw,aj,SqL.of ew,zcv,p,aj,SqT.of ea,O,h2 vw H1 f1 vs1 rw'⟩
  ·rw[au ek] at h2;exact ifF (zhP ek) (h2 _ H1 f1 vs1 .non)
abbrev zn6:aB:=top 72
abbrev zin:aB:=top 73
abbrev zgV:aB:=top 74
abbrev sput:aB:=top 75
theorem RepL.take:∀{ts:List Th}{vs:QR}(n:Nat),RepL H ts vs->RepL H (ts.take n) (vs.take n)
 | _,_,0,_=>by rw[List.take_zero,List.take_zero];exact .nil
 | _,_,n+1,.nil=>by rw[List.take_nil,List.take_nil];exact .nil
 | _,_,n+1,.cons h r=>.cons h (RepL.take n r)
theorem RepL.drop:∀{ts:List Th}{vs:QR}(n:Nat),RepL H ts vs->RepL H (ts.drop n) (vs.drop n)
 | _,_,0,r=>r
 | _,_,n+1,.nil=>by rw[List.drop_nil,List.drop_nil];exact .nil
 | _,_,n+1,.cons h r=>RepL.drop n r
theorem zuh {xs:QR}{n:Nat}(h:n<=xs.length):cutV xs U (Y (n:Int))=xs.take n:=by
 unfold cutV;rw[HT.sIx_none,HT.sIx_nat,ND h]
 rfl
theorem zpL {xs:QR}{n:Nat}(h:n<=xs.length):cutV xs (Y (n:Int)) U=xs.drop n:=by unfold cutV;rw[HT.sIx_none,HT.sIx_nat,ND h];exact Jq (by rw[JT];exact Jb _)
theorem zlN {xs:QR}{n:Nat}(h:xs.length=n+1):cutV xs U (Y (-1))=xs.take n:=by unfold cutV;rw[HT.sIx_none];show(xs.drop 0).take (HT.sIx xs.length xs.length (Y (-1)) - 0)=_;rw[List.drop_zero,Nat.sub_zero,h];congr 1;unfold HT.sIx;simp;lia
def joinM {c:Bool}{A ai N:Prop}(a:c=Z->N->A)(b:c=G->N->ai)(rest:N):if c=Z then A else ai:=ifB (λh=>a h rest) (λh=>b h rest)
def zgu {nd:Nd}(g:Good nd.th):Good nd.k/\Good nd.w:=by have h1:max (dep nd.k) (max (dep nd.w) (max 0 (max 0 (max 0 0))))+1<=dep nd.th:=Jb _;have h4:=g.dp;have h2:1+(nodes nd.k+(nodes nd.w+(1+(1+(1+0)))))<=80:=g.nd;have h3:Wf nd.k/\Wf nd.w:=⟨g.wf.2.1,g.wf.2.2.1⟩;exact⟨⟨h3.1,(),()⟩,⟨h3.2,(),()⟩⟩
def zaY (x:Th)(more:Int):List Nd->Int->Pg Int
 | [],n=>.ret n
 | nd::r,n=>.lay (zW nd (zcj nd.k x) n (nd.c+more)).th (zaY x more r (zk (zW nd (zcj nd.k x) n (nd.c+more)).th))
def zeT (x:Th):List Nd->Int->Int->Int->Int->Pg (Int ×Int)
 | [],l,_,r,_=>.ret (l,r)
 | nd::t,l,lc,r,rc=>if zc nd.k x=Z then .lay (zW nd 3 l (nd.c - rc)).th (zeT x t (zk (zW nd 3 l (nd.c - rc)).th) (nd.c - rc) r rc)
  else .lay (zW nd 2 r (nd.c - lc)).th (zeT x t l lc (zk (zW nd 2 r (nd.c - lc)).th) (nd.c - lc))
def zap (x:Th):List Nd->Nat
 | []=>0
 | nd::r=>if zab x nd.k=Z then 0 else zap x r+1
theorem zhc (x:Th):∀ns:List Nd,zap x ns<=ns.length
 | []=>Jb _
 | nd::r=>by
  unfold zap;split
  ·exact JN _
  ·exact Nat.succ_le_succ (zhc x r)
def zd9 (ns:List Nd)(i:Nat):Int:=match ns[i]? with
 | some nd=>nd.c
 | none=>0
def putN (x wo:Th)(ns:List Nd):Pg Int:=(zeT x (ns.drop (zap x ns)).reverse 0 0 0 0).bind λlr=>
 .lay (Nd.mk x wo lr.1 lr.2 (zd9 ns (zap x ns)+1)).th (zaY x 1 (ns.take (zap x ns)).reverse (zk (Nd.mk x wo lr.1 lr.2 (zd9 ns (zap x ns)+1)).th))
def putO (x wo:Th)(ns:List Nd)(own:Nd):Pg Int:=.lay (Nd.mk x wo own.l own.r own.c).th (zaY x 0 ns.dropLast.reverse (zk (Nd.mk x wo own.l own.r own.c).th))
def zdD (x wo:Th)(ns:List Nd):Pg Int:=match ns.getLast? with
 | none=>putN x wo ns
 | some own=>if own.k=x then putO x wo ns own else putN x wo ns
def putP (n:Int)(x wo:Th):Pg Int:=(wayP x 301 n 301).bind (zdD x wo)
def zrG (H:Hp)(y:Int ×Int)(v:V):Prop:=∃p,v=.ref p/\H p=Y (.tup [.int y.1,.int y.2])
inductive zdV (VR:VRT)(CN CB CC:aE)(vs:QR)(H:Hp)(Q:L2.VK)(E:XK):Prop
 | mk (a pw:aE)(D:QP)(s:Vst)(ws:QR)(ns:List Nd)(x:Th)(vx:V)(n more:Int)(_:vs=[.ref a,.ref pw,vx,.int n,.int more])(_:VR H a D s)(_:H pw=Y (.lst ws)) (_:RepL H (ns.map Nd.th) ws) (_:(∀nd∈ns,Good nd.th)) (_:Rep H x vx) (_:Out VR CN CB CC a D (zaY x more ns.reverse n) s IntR H Q E):zdV VR CN CB CC vs H Q E
inductive zc5 (VR:VRT)(CN CB CC:aE)(vs:QR)(H:Hp)(Q:L2.VK)(E:XK):Prop
 | mk (a pw:aE)(D:QP)(s:Vst)(ws:QR)(ns:List Nd)(x:Th)(vx:V)(n m:Int)(_:vs=[.ref a,.ref pw,vx,.int n,.int m])(_:VR H a D s)(_:H pw=Y (.lst ws)) (_:RepL H (ns.map Nd.th) ws) (_:(∀nd∈ns,Good nd.th)) (_:Rep H x vx) (_:Out VR CN CB CC a D (zeT x ns.reverse n m 0 0) s zrG H Q E):zc5 VR CN CB CC vs H Q E
inductive zdK (vs:QR)(H:Hp)(Q:L2.VK)(_E:XK):Prop
 | mk (pw:aE)(ws:QR)(ns:List Nd)(x:Th)(vx:V)(_:vs=[.ref pw,vx])(_:H pw=Y (.lst ws)) (_:RepL H (ns.map Nd.th) ws) (_:(∀nd∈ns,Good nd.th)) (_:Good x) (_:Rep H x vx) (_:∀H',Same H H'->Q (.int (zap x ns:Int)) H'):zdK vs H Q _E
inductive zfI (VR:VRT)(CN CB CC:aE)(vs:QR)(H:Hp)(Q:L2.VK)(E:XK):Prop
 | mk (a:aE)(D:QP)(s:Vst)(n:Int)(x wo:Th)(vx vw:V)(_:vs=[.ref a,.int n,vx,vw])(_:VR H a D s)(_:Rep H x vx)(_:Good x)(_:Rep H wo vw)(_:Out VR CN CB CC a D (putP n x wo) s IntR H Q E):zfI VR CN CB CC vs H Q E
def zj3 {α:Type}{f:α->Th}{ns:List α}{j:Nat}{y:V}(r:RepL H (ns.map f) ws)(hj:j < ws.length)(hy:ws.reverse[j]? =Y y):∃nd,nd∈ns/\ns.reverse.drop j=nd::ns.reverse.drop (j+1)/\Rep H (f nd) y:=by
 have hl:ws.length=ns.length:=by rw[r.len,JI]
 have hr:j < ns.reverse.length:=by rw[Nw];lia
 rw[List.getElem?_reverse hj] at hy;have hn:ns[ns.length - 1 - j]? =Y (ns[ns.length - 1 - j]'()):=JD ();refine⟨ns[ns.length - 1 - j]'(),Jm _,?_,r.at (ws.length - 1 - j) _ _ hy (by rw[hl,JV,hn];rfl)⟩;rw[Jp hr,List.getElem_reverse]
abbrev _root_.Sj:List PySem.Str:=["vault","way","key","root","more"]
def _root_.Ny:=@List.drop_of_length_le
def zpl (I:VI C VR)(D:Dfn K mg "hung" zn6 Sj) (zlW:Mt P w K mg ax (CX1 P w) C "lay" 14 Si (zbV VR CC)) (c_C:Cls K C) (ze4:Fn P w K mg ax "with_tree" 1 Sl zc6) (zhs:Fn P w K mg ax "side_of" 21 SI zc3) (z7:mg "COUNT" =Y (.int 4 t5)) (zb9:mg "reversed" =U):
  FnX P w K mg ax "hung" 22 Sj (zdV VR CN CB CC):=by
 refine D.okX (k:=21) (fsN ["vault","way","key","root","more","node"]) ⟨⟩;obtain⟨a,pw,D,s,ws,ns,x,vx,n,more,rfl,vs,ew,rw,gd,rx,h⟩:=h;have hl:ws.length=ns.length:=by rw[rw.len,JI]
 refine⟨_,(by have ι:=0;ac_rfl),?_⟩;refine⟨B,pw,ws,O,SqL.of ew,?_⟩;refine zhU (λj σ H'=>∃(s1:Vst)(n:Int)(k5:Option V),(zaY x more (ns.reverse.drop j) n).wp s1 (OutQ VR a D IntR H Q) (OutE VR CN CB CC a D H E)/\σ=[Y (.ref a),Y (.ref pw),Y vx,Y (.int n),Y (.int more),k5]/\Frm D H H'/\VR H' a D s1) ⟨s,n,_,h,O,Frm.refl,vs⟩ ?_ ?_ ?_
 ·rintro j σ H' ⟨s1,n,k5,_,rfl,fr,_⟩;exact SqL.of (I.lst vs fr ew)
 ·rintro j y σ H' hj hy ⟨s1,n,k5,h,rfl,fr,vs1⟩;obtain⟨nd,hm,ed,rl⟩:=zj3 rw hj hy;have gn:=gd nd hm;rw[ed] at h;obtain⟨h0,gN,h1,h2⟩:=h;have tk:=I.ay vs fr;have rl':=rl.keep tk;obtain⟨p,vk,vw,rfl,ea,rk,rw'⟩:=zr rl';obtain⟨dx,fs,eo,_,n2⟩:=I.ins vs1;refine⟨B,a,dx,fs,O,eo,n2,ap,B,_,_,nd,x,O,rl',rx.keep tk,(zb6 gn).1,λH1 s1'=>?_⟩;refine⟨ap,p,aj,SqT.of (s1' _ _ ea),O,B,am,_,nd,_,_,B,rl'.keep (Same.ay s1'),λp2 H2 s2 r2=>?_⟩;have s12:Same H' H2:=λb o e=>s2 b o (s1' b o e);have f12:=fr.trans (Frm.of s12);exact⟨a,D,s1,_,B,I.same vs1 s12,h0,r2,gN,λH3 st f3 vs3=>⟨_,_,_,h1 st,O,f12.trans f3,vs3⟩,λu x' v1 v2 H3 st f3=>h2 u st x' v1 v2 H3 (f12.trans f3)⟩
 ·rintro σ H' ⟨s1,n,k5,h,rfl,fr,vs1⟩;rw[Ny (by rw[Nw];lia)] at h;exact⟨B,h _ H' fr vs1 rfl⟩
abbrev _root_.So:List PySem.Str:=["vault","way","key","root","count"]
def zkM (I:VI C VR)(D:Dfn K mg "parted" zin So) (zlW:Mt P w K mg ax (CX1 P w) C "lay" 14 Si (zbV VR CC)) (c_C:Cls K C) (ze4:Fn P w K mg ax "with_tree" 1 Sl zc6) (zhs:Fn P w K mg ax "side_of" 21 SI zc3) (z7:mg "COUNT" =Y (.int 4 t5)) (zar:mg "LEFT" =Y (.int 2 t3)) (zae:mg "RIGHT" =Y (.int 3 t4)) (zb9:mg "reversed" =U):
  FnX P w K mg ax "parted" 22 So (zc5 VR CN CB CC):=by
 refine D.okX (k:=21) (fsN ["vault","way","key","root","count","left","left_count","right","right_count","node"]) ⟨⟩;obtain⟨a,pw,D,s,ws,ns,x,vx,n,m,rfl,vs,ew,rw,gd,rx,h⟩:=h;have hl:ws.length=ns.length:=by rw[rw.len,JI]
 refine⟨_,(by have ι:=0;ac_rfl),?_⟩;refine⟨ap,B,pw,ws,O,SqL.of ew,?_⟩;refine zhU (λj σ H'=>∃(s1:Vst)(l lc r rc:Int)(k9:Option V),(zeT x (ns.reverse.drop j) l lc r rc).wp s1 (OutQ VR a D zrG H Q) (OutE VR CN CB CC a D H E)/\σ=[Y (.ref a),Y (.ref pw),Y vx,Y (.int n),Y (.int m),Y (.int l),Y (.int lc),Y (.int r),Y (.int rc),k9]/\Frm D H H'/\VR H' a D s1) ⟨s,n,m,0,0,_,h,O,Frm.refl,vs⟩ ?_ ?_ ?_
 ·rintro j σ H' ⟨s1,l,lc,r,rc,k9,_,rfl,fr,_⟩;exact SqL.of (I.lst vs fr ew)
 ·rintro j y σ H' hj hy ⟨s1,l,lc,r,rc,k9,h,rfl,fr,vs1⟩;obtain⟨nd,hm,ed,rl⟩:=zj3 rw hj hy;have gn:=gd nd hm;rw[ed] at h;unfold zeT at h;have tk:=I.ay vs fr;have rl':=rl.keep tk;obtain⟨p,vk,vw,rfl,ea,rk,rw'⟩:=zr rl';refine⟨ap,_,_,nd,x,O,rl',rx.keep tk,(zb6 gn).1,λH1 s1'=>⟨ao⟩⟩;rw[zaa];have vs2:=I.same vs1 s1';obtain⟨dx,fs,eo,_,n2⟩:=I.ins vs2;by_cases c:zc nd.k x=Z
  ·have e3:zcj nd.k x=3:=av c;rw[av c] at h;obtain⟨h0,gN,h1,h2⟩:=h;refine ifT (aw e3) ?_;refine⟨B,p,aj,SqT.of (s1' _ _ ea),O,B,am,?_⟩;refine⟨B,a,dx,fs,O,eo,n2,ap,B,_,nd,_,_,B,rl'.keep (Same.ay s1'),λp2 H2 s2 r2=>?_⟩;have f12:Frm D H H2:=fr.trans ((Frm.of s1').trans (Frm.of s2));exact⟨a,D,s1,_,B,I.same vs2 s2,h0,r2,gN,λH3 st f3 vs3=>⟨_,_,_,_,_,_,h1 st,O,f12.trans f3,vs3⟩,λu x' v1 v2 H3 st f3=>h2 u st x' v1 v2 H3 (f12.trans f3)⟩
  ·have e3:zcj nd.k x=2:=au c;rw[au c] at h;obtain⟨h0,gN,h1,h2⟩:=h;refine ifF (Jc (by rw[e3];decide)) ?_;refine⟨B,p,aj,SqT.of (s1' _ _ ea),O,B,am,?_⟩;refine⟨B,a,dx,fs,O,eo,n2,ap,B,_,nd,_,_,B,rl'.keep (Same.ay s1'),λp2 H2 s2 r2=>?_⟩;have f12:Frm D H H2:=fr.trans ((Frm.of s1').trans (Frm.of s2));exact⟨a,D,s1,_,B,I.same vs2 s2,h0,r2,gN,λH3 st f3 vs3=>⟨_,_,_,_,_,_,h1 st,O,f12.trans f3,vs3⟩,λu x' v1 v2 H3 st f3=>h2 u st x' v1 v2 H3 (f12.trans f3)⟩
 ·rintro σ H' ⟨s1,l,lc,r,rc,k9,h,rfl,fr,vs1⟩;rw[Ny (by rw[Nw];lia)] at h;refine⟨ap,szl (show 2<=1000 by decide),λp hp=>?_⟩;have s2:=zj (o:=.tup [.int l,.int r]) (Same.refl H') hp;exact h _ _ (fr.trans (Frm.of s2)) (I.same vs1 s2) ⟨p,O,za⟩
def zl2 (D:Dfn K mg "place_in" zgV Sv) (ziw:Fn P w K mg ax "above" 21 SN zd4) (zat:mg "KEY" =Y (.int 0 t1)) (ze5:mg "enumerate" =U) (zy:mg "len" =U):Fn P w K mg ax "place_in" 22 Sv zdK:=by
 refine D.ok (k:=21) (fsN ["way","key","number","node"]) ⟨⟩;obtain⟨pw,ws,ns,x,vx,rfl,ew,rw,gd,gx,rx,q⟩:=h;have hl:ws.length=ns.length:=by rw[rw.len,JI]
 refine⟨_,(by have ι:=0;ac_rfl),?_⟩;refine⟨B,pw,ws,O,SqL.of ew,?_⟩;refine zoX (λi σ H'=>∃k2 k3,σ=[Y (.ref pw),Y vx,k2,k3]/\Same H H'/\zap x ns=i+zap x (ns.drop i)) ⟨_,B,Same.refl _,by rw[Nat.zero_add];rfl⟩ ?_ ?_ ?_
 ·rintro i σ H' ⟨k2,k3,rfl,sm,_⟩;exact SqL.of (sm _ _ ew)
 ·rintro i y af σ H' hy hU ⟨k2,k3,rfl,sm,hp⟩;have hi:i < ws.length:=(JG.mp hy).1;have hn:ns[i]? =Y (ns[i]'()):=JD ();have rl:=rw.at i y _ hy (by rw[JV,hn];rfl);have gn:=gd _ (Jm (show i < ns.length by lia));have ed:ns.drop i=ns[i]'()::ns.drop (i+1):=Jp ();generalize ns[i]'()=nd at rl gn ed;have sm':Same H (upd H' af (.tup [.int i,y])):=zj sm hU;have eU:upd H' af (.tup [.int i,y]) af=Y (.tup [.int i,y]):=za;generalize upd H' af (.tup [.int i,y])=H1 at sm' eU;obtain⟨p,vk,vw,rfl,ea,rk,_⟩:=zr rl;refine⟨af,B,SqT.of eU,O,_,B,am,?_⟩;refine⟨ap,p,aj,SqT.of (sm' _ _ ea),O,x,nd.k,_,B,rx.keep (Same.ay sm'),rk.keep (Same.ay sm'),gx,(zgu gn).1,λH2 s2=>⟨ar⟩⟩;have s02:Same H H2:=λb o e=>s2 b o (sm' b o e);have e0:zap x (ns.drop i)=if zab x nd.k=Z then 0 else zap x (ns.drop (i+1))+1:=by rw[ed];rfl
  cases z:zab x nd.k with
  | true=>rw[av z] at e0;refine ifT rfl ⟨ar⟩;have:=q H2 s02;rw[hp,e0] at this;exact this
  | false=>rw[au (by rw[z];exact Jd)] at e0;exact ifF rfl ⟨_,B,s02,()⟩
 ·rintro σ H' ⟨k2,k3,rfl,sm,hp⟩;refine⟨B,pw,B,.inl (SqL.of (sm _ _ ew)),?_⟩;rw[Ny ()] at hp;have:=q H' sm;rw[hp] at this;exact this
def _root_.Jn:=@List.mem_of_mem_take
abbrev _root_.Sq:List PySem.Str:=["vault","root","key","worth"]
def zpN (I:VI C VR)(D:Dfn K mg "put" sput Sq) (zgw:FnX P w K mg ax "way_to" 22 Sb (zeD VR CN CB CC)) (zht:Fn P w K mg ax "ends_at" 1 Sv (zcV K)) (zlW:Mt P w K mg ax (CX1 P w) C "lay" 14 Si (zbV VR CC)) (c_C:Cls K C) (ztn:FnX P w K mg ax "hung" 22 Sj (zdV VR CN CB CC)) (zux:FnX P w K mg ax "parted" 22 So (zc5 VR CN CB CC))
  (zto:Fn P w K mg ax "place_in" 22 Sv zdK) (z7:mg "COUNT" =Y (.int 4 t5)) (zar:mg "LEFT" =Y (.int 2 t3)) (zae:mg "RIGHT" =Y (.int 3 t4)) (zy:mg "len" =U):FnX P w K mg ax "put" 23 Sq (zfI VR CN CB CC):=by
 refine D.okX (k:=22) (fsN ["vault","root","key","worth","way","own","new","place","trees","count"]) ⟨⟩;obtain⟨a,D,s,n,x,wo,vx,vw,rfl,vs,rx,gx,rw0,h⟩:=h;unfold Out putP at h;rw[Pg.az] at h;have ι:=0;refine⟨_,(zb ∅
 (zb (zag ∅
 (zb (setA 5 rfl (zdi zfh (pv 4) ∅ (λ_ _=>O)))
 ∅)
 zE)
 (zb ∅
 (zb ∅
 (zb (setA 9 rfl (zf4 ∅ (zdi zes (zdi zfh (pv 4) (pv 7) (λ_ _=>O)) ∅ (λ_ _=>O)) zbD))
 ∅))))),?_⟩
 refine⟨ap,B,a,D,s,n,x,vx,O,vs,rx,(Jg gx.dp ()),Pg.aA (λns s1 h1 v H1 f1 vs1 rn=>?_) (λ_ _ z=>z) h⟩;clear h;obtain⟨pw,ws,rfl,ew,rwy,gd,hl3⟩:=rn;have hl:ws.length=ns.length:=by rw[rwy.len,JI]
 have rx1:=rx.keep (I.ay vs f1);have rw1:=rw0.keep (I.ay vs f1);refine⟨ap,pw,ws,ns,x,vx,O,SqL.of ew,rwy,gd,rx1,ar⟩;have new:zdg ns x=G->(putN x wo ns).wp s1 (OutQ VR a D IntR H Q) (OutE VR CN CB CC a D H E):=λz=>by
  have h2:(zdD x wo ns).wp s1 (OutQ VR a D IntR H Q) (OutE VR CN CB CC a D H E):=h1;unfold zdD at h2;unfold zdg at z;cases y:ns.getLast? with
  | none=>rw[y] at h2;exact h2
  | some own=>
   rw[y] at h2 z;have z2:eqT own.k x=G:=z;have z':own.k≠x:=λe=>by rw[zga e] at z2;cases z2
   have h3:(if own.k=x then putO x wo ns own else putN x wo ns).wp s1 (OutQ VR a D IntR H Q) (OutE VR CN CB CC a D H E):=h2;rw[au z'] at h3;exact h3
 cases z:zdg ns x with
 | true=>
  refine ifT rfl ?_;rcases NB ns with e | ⟨pre,nd,e⟩
  ·subst e;cases z
  rw[NC] at e;subst e;have ek:nd.k=x:=by unfold zdg at z;rw[Nk] at z;exact(zJ _ _).mp z
  have h2:(zdD x wo (pre++ [nd])).wp s1 (OutQ VR a D IntR H Q) (OutE VR CN CB CC a D H E):=h1;unfold zdD at h2;rw[Nk] at h2;have h3:(if nd.k=x then putO x wo (pre++ [nd]) nd else putN x wo (pre++ [nd])).wp s1 (OutQ VR a D IntR H Q) (OutE VR CN CB CC a D H E):=h2;rw[av ek] at h3;obtain⟨h0,gN,h4,h5⟩:=h3;rw[List.dropLast_concat] at h4;rw[JU] at rwy;obtain⟨us,v,rfl,rus,rnd⟩:=rwy.unsnoc;obtain⟨p,vk,vw',rfl,ea,rk,_⟩:=zr rnd;have et:SqT K H1 p _:=SqT.of ea;obtain⟨dx,fs,eo,_,n2⟩:=I.ins vs1;refine⟨ap,pw,aj,SqL.of ew,zcv,?_⟩;refine⟨B,a,dx,fs,O,eo,n2,ap,B,p,aj,et,O,B,p,aj,et,O,B,p,aj,et,O,szl (show 5<=1000 by decide),λp2 hp2=>?_⟩;have r2:Rep (upd H1 p2 (.tup [vx,vw,.int nd.l,.int nd.r,.int nd.c])) (Nd.mk x wo nd.l nd.r nd.c).th (.ref p2):=(RepL.cons rx1 (.cons rw1 (.cons (.int _) (.cons (.int _) (.cons (.int _) .nil))))).new hp2;have s12:=zj (o:=.tup [vx,vw,.int nd.l,.int nd.r,.int nd.c]) (Same.refl H1) hp2;generalize upd H1 p2 (.tup [vx,vw,.int nd.l,.int nd.r,.int nd.c])=H2 at r2 s12;have vs2:=I.same vs1 s12;have f2:=f1.trans (Frm.of s12);refine⟨a,D,s1,_,B,vs2,h0,r2,gN,λH3 st f3 vs3=>?_,λu x' v1 v2 H3 st f3=>h5 u st x' v1 v2 H3 (f2.trans f3)⟩;have ew3:=I.lst vs2 f3 (s12 _ _ ew);have tk3:Tups H1 H3:=(Same.ay s12).trans (I.ay vs2 f3);refine⟨ap,ap,pw,B,SqL.of ew3,λpc hpc=>?_⟩;rw[zlN (n:=us.length) (by simp),List.take_left];have s34:=zj (o:=.lst us) (Same.refl H3) hpc;have ec:upd H3 pc (.lst us) pc=Y (.lst us):=za;generalize upd H3 pc (.lst us)=H4 at s34 ec;have f4:=(f2.trans f3).trans (Frm.of s34);have tk4:=tk3.trans (Same.ay s34);exact⟨ap,a,pc,D,_,us,pre,x,vx,_,0,O,I.same vs3 s34,ec,rus.keep tk4,λy hy=>gd y (Jo _ hy),rx1.keep tk4,Pg.aA (OutQ.on f4) (OutE.on f4) (h4 st)⟩
 | false=>
  have h2:=new z;refine ifF rfl ?_;clear new h1;unfold putN at h2;rw[Pg.az] at h2;have hpl:=zhc x ns;refine⟨ap,pw,ws,ns,x,vx,O,ew,rwy,gd,gx,rx1,λH2 s2=>?_⟩;generalize zap x ns=pl at hpl h2;have vs2:=I.same vs1 s2;have ew2:=s2 _ _ ew;have rwy2:=rwy.keep (Same.ay s2);have rx2:=rx1.keep (Same.ay s2);have rw2:=rw1.keep (Same.ay s2);refine⟨ap,ap,pw,B,SqL.of ew2,λpc hpc=>?_⟩;rw[zpL ()];have s23:=zj (o:=.lst (ws.drop pl)) (Same.refl H2) hpc;have ec:upd H2 pc (.lst (ws.drop pl)) pc=Y (.lst (ws.drop pl)):=za;generalize upd H2 pc (.lst (ws.drop pl))=H3 at s23 ec;have rd:=(rwy2.keep (Same.ay s23)).drop pl;rw[<-List.map_drop] at rd;have vs3:=I.same vs2 s23;have f3:Frm D H H3:=f1.trans ((Frm.of s2).trans (Frm.of s23));refine⟨B,a,pc,D,s1,ws.drop pl,ns.drop pl,x,vx,0,0,O,vs3,ec,rd,λy hy=>gd y (List.mem_of_mem_drop hy),rx2.keep (Same.ay s23),Pg.aA (λlr s4 h4 v H4 f4 vs4 rp=>?_) (OutE.on f3) h2⟩;obtain⟨pt,rfl,et⟩:=rp;have ew4:=I.lst vs3 f4 (s23 _ _ ew2);have tk24:Tups H2 H4:=(Same.ay s23).trans (I.ay vs3 f4);have rwy4:=rwy2.keep tk24;obtain⟨h0,gN,h5,h6⟩:=h4;refine⟨ap,pw,B,.inl (SqL.of ew4),am,ar⟩;have key:pl < ns.length->∃p xs,atI ws (pl:Int)=Y (.ref p)/\H4 p=Y (.tup xs)/\atI xs 4=Y (.int (zd9 ns pl)):=λhlt=>by have hv:ws[pl]? =Y (ws[pl]'()):=JD ();have hn:ns[pl]? =Y (ns[pl]'hlt):=JD hlt;have rl:=rwy4.at pl _ _ hv (by rw[JV,hn];rfl);obtain⟨p,vk,vw',ev,ea,rk,_⟩:=zr rl;refine⟨p,_,by rw[zbt hv,ev],ea,?_⟩;unfold zd9;rw[hn];rfl
  refine' joinM (λc hn=>?ja) (λc hn=>?jb) ?jr
  case ja=>have c':(pl:Int) < ((ws.length:Nat):Int):=of_decide_eq_true c;obtain⟨p,xs,e1,e2,e3⟩:=key (by clear hn;lia);exact⟨ap,pw,aj,SqL.of ew4,e1,p,aj,SqT.of e2,e3,hn⟩
  case jb=>
   have c':¬(pl:Int) < ((ws.length:Nat):Int):=of_decide_eq_false c;have hz:zd9 ns pl=0:=by unfold zd9;rw[Nc (by clear hn;lia)]
   rw[hz] at hn;exact hn
  have et4:SqT K H4 pt [.int lr.1,.int lr.2]:=SqT.of et;obtain⟨dx4,fs4,eo4,_,n4⟩:=I.ins vs4;have rx4:=rx2.keep tk24;have rw4:=rw2.keep tk24;generalize zd9 ns pl=cn at gN h5 h6;refine⟨B,a,dx4,fs4,O,eo4,n4,ap,B,pt,aj,et4,O,B,pt,aj,et4,O,B,am,szl (show 5<=1000 by decide),λp2 hp2=>?_⟩;have r5:Rep (upd H4 p2 (.tup [vx,vw,.int lr.1,.int lr.2,.int (cn+1)])) (Nd.mk x wo lr.1 lr.2 (cn+1)).th (.ref p2):=(RepL.cons rx4 (.cons rw4 (.cons (.int _) (.cons (.int _) (.cons (.int _) .nil))))).new hp2;have s45:=zj (o:=.tup [vx,vw,.int lr.1,.int lr.2,.int (cn+1)]) (Same.refl H4) hp2;generalize upd H4 p2 (.tup [vx,vw,.int lr.1,.int lr.2,.int (cn+1)])=H5 at r5 s45;have vs5:=I.same vs4 s45;have f5:Frm D H H5:=f3.trans (f4.trans (Frm.of s45));refine⟨a,D,s4,_,B,vs5,h0,r5,gN,λH6 st f6 vs6=>?_,λu x' v1 v2 H6 st f6=>h6 u st x' v1 v2 H6 (f5.trans f6)⟩;have ew6:=I.lst vs5 f6 (s45 _ _ ew4);have tk46:Tups H4 H6:=(Same.ay s45).trans (I.ay vs5 f6);refine⟨ap,ap,pw,B,SqL.of ew6,λpq hpq=>?_⟩;rw[zuh ()];have s67:=zj (o:=.lst (ws.take pl)) (Same.refl H6) hpq;have eq7:upd H6 pq (.lst (ws.take pl)) pq=Y (.lst (ws.take pl)):=za;generalize upd H6 pq (.lst (ws.take pl))=H7 at s67 eq7;have rt:=(rwy4.keep (tk46.trans (Same.ay s67))).take pl;rw[<-List.map_take] at rt;have f7:=(f5.trans f6).trans (Frm.of s67);exact⟨ap,a,pq,D,_,ws.take pl,ns.take pl,x,vx,_,1,O,I.same vs6 s67,eq7,rt,λy hy=>gd y (Jn hy),(rx4.keep tk46).keep (Same.ay s67),Pg.aA (OutQ.on f7) (OutE.on f7) (h5 st)⟩
abbrev zhi:aB:=top 63
abbrev zb4:aB:=top 68
abbrev zf6:aB:=top 69
abbrev snth:aB:=top 70
abbrev zbj (p:Th ×Th):Th:=.tup [p.1,p.2]
def zaf {t u:TS}{D:L2.Ends}{σ:L2.St}{H:Hp}(Pq:L2.St->Hp->Prop)(a:∀N:L2.St->Hp->Prop,(∀σ H,Pq σ H->N σ H)->t {D with nx:=N} σ H)(rest:∀σ H,Pq σ H->u D σ H):tSeq t u D σ H:=a (u D) rest
def cntL (x:Th):List Nd->Int->Pg Int
 | [],m=>.ret m
 | nd::r,m=>if zc x nd.k=Z then cntL x r m else(zbv nd.l nd.c).bind λc=>cntL x r (m+c+(if nd.k=x then 0 else 1))
def cntP (n:Int)(x:Th):Pg Int:=(wayP x 301 n 301).bind λns=>cntL x ns 0
def zfV (n:Int)(lo:Th)(m:Int):Pg Int:=if lo=.non then .ret m else(cntP n lo).bind λk=>.ret (m - k)
def zdW (n:Int)(lo hi:Th):Pg Int:=if zcO lo hi=Z then .ret 0 else(if hi=.non then zbv n 301 else cntP n hi).bind (zfV n lo)
def nthL:Nat->Int->Int->Int->Pg Th
 | 0,_,_,_=>.bad
 | f+1,n,m,i=>if n=0 then .ret .non else(benP n m).bind λnd=>if nd.c<=i then .ret .non else(zbv nd.l nd.c).bind λl=>
  if i=l then .ret (zbj (nd.k,nd.w)) else if i < l then nthL f nd.l nd.c i else nthL f nd.r nd.c (i - l - 1)
def nthQ (n i:Int):Pg Th:=if i < 0 then .ret .non else nthL 301 n 301 i
inductive zcM (vs:QR)(H:Hp)(Q:L2.VK)(_E:XK):Prop
 | mk (a b:Th)(va vb:V)(_:vs=[va,vb])(_:Rep H a va)(_:Rep H b vb)(_:dep a<=8)(_:∀H',Same H H'->Q (.bl (zcO a b)) H'):zcM vs H Q _E
inductive zkz (VR:VRT)(CN CB CC:aE)(vs:QR)(H:Hp)(Q:L2.VK)(E:XK):Prop
 | mk (a:aE)(D:QP)(s:Vst)(n:Int)(x:Th)(vx:V)(_:vs=[.ref a,.int n,vx])(_:VR H a D s)(_:Rep H x vx)(_:dep x<=8)(_:Out VR CN CB CC a D (cntP n x) s IntR H Q E):zkz VR CN CB CC vs H Q E
inductive zdt (VR:VRT)(CN CB CC:aE)(vs:QR)(H:Hp)(Q:L2.VK)(E:XK):Prop
 | mk (a:aE)(D:QP)(s:Vst)(n:Int)(lo hi:Th)(vl vh:V)(_:vs=[.ref a,.int n,vl,vh])(_:VR H a D s)(_:Rep H lo vl)(_:Rep H hi vh)(_:dep lo<=8)(_:dep hi<=8)(_:Out VR CN CB CC a D (zdW n lo hi) s IntR H Q E):zdt VR CN CB CC vs H Q E
inductive zj0 (VR:VRT)(CN CB CC:aE)(vs:QR)(H:Hp)(Q:L2.VK)(E:XK):Prop
 | mk (a:aE)(D:QP)(s:Vst)(n i:Int)(_:vs=[.ref a,.int n,.int i])(_:VR H a D s)(_:Out VR CN CB CC a D (nthQ n i) s ThR H Q E):zj0 VR CN CB CC vs H Q E
abbrev _root_.SD:List PySem.Str:=["low","high"]
def zmy (D:Dfn K mg "is_empty" zhi SD) (zaQ:Fn P w K mg ax "ahead" 20 Sk (zav 9)):Fn P w K mg ax "is_empty" 21 SD zcM:=by
 refine D.ok (k:=20) (fsN SD) ⟨⟩;obtain⟨a,b,va,vb,rfl,ra,rb,hd,q⟩:=h;refine⟨aq⟩;have e1:=zaM ra;have e2:=zaM rb;refine⟨B,ao⟩;rw[e1];unfold zcO at q;cases z:decide (a=.non) with
 | true=>rw[z] at q;exact ifF rfl (q H (Same.refl H))
 | false=>
  rw[z] at q;refine ifT rfl ⟨B,ao⟩;rw[e2];cases y:decide (b=.non) with
  | true=>rw[y] at q;exact ifF rfl (q H (Same.refl H))
  | false=>rw[y] at q;refine ifT rfl ⟨ap,a,b,_,B,ra,rb,(),(),λH1 s1=>⟨B,q H1 s1⟩⟩
def zpZ (I:VI C VR)(D:Dfn K mg "count_ahead" zb4 Sb) (zgw:FnX P w K mg ax "way_to" 22 Sb (zeD VR CN CB CC)) (zaQ:Fn P w K mg ax "ahead" 20 Sk (zav 9)) (zbm:FnX P w K mg ax "size_beneath" 5 Sc (zbL VR CN CB CC)) (zat:mg "KEY" =Y (.int 0 t1)) (zar:mg "LEFT" =Y (.int 2 t3)) (z7:mg "COUNT" =Y (.int 4 t5)):
  FnX P w K mg ax "count_ahead" 23 Sb (zkz VR CN CB CC):=by
 refine D.okX (k:=22) (fsN ["vault","root","key","many","node"]) ⟨⟩;obtain⟨a,D,s,n,x,vx,rfl,vs,rx,dx,h⟩:=h;unfold Out cntP at h;rw[Pg.az] at h;refine⟨_,(by have ι:=0;have θ:=0;ac_rfl),?_⟩;refine⟨ap,B,a,D,s,n,x,vx,O,vs,rx,dx,Pg.aA (λns s1 h1 v H1 f1 vs1 rn=>?_) (λ_ _ z=>z) h⟩;clear h;obtain⟨pw,ws,rfl,ew,rw,gd,hl3⟩:=rn;have hl:ws.length=ns.length:=by rw[rw.len,JI]
 refine⟨pw,O,⟨ws,SqL.of ew⟩,?_⟩;refine zcD (xs:=ws) (λi σ H'=>∃(s2:Vst)(m:Int)(k4:Option V),(cntL x (ns.drop i) m).wp s2 (OutQ VR a D IntR H Q) (OutE VR CN CB CC a D H E)/\σ=[Y (.ref a),Y (.int n),Y vx,Y (.int m),k4]/\Frm D H1 H'/\VR H' a D s2) ⟨s1,0,_,h1,O,Frm.refl,vs1⟩ ?_ ?_ ?_
 ·rintro i σ H' _ ⟨s2,m,k4,_,rfl,fr,_⟩;exact SqL.of (I.lst vs1 fr ew)
 ·rintro i y σ H' hy ⟨s2,m,k4,h2,rfl,fr,vs2⟩;have hi:i < ws.length:=(JG.mp hy).1;have hin:i < ns.length:=()
  have en:ns[i]? =Y ns[i]:=JD hin;have rn:Rep H' ns[i].th y:=(rw.at i y _ hy (by rw[JV,en];rfl)).keep (I.ay vs1 fr);have gn:=gd _ (Jm hin);rw[Jp hin] at h2;generalize ns[i]=nd at rn gn h2;have kd:=(zb6 gn).1;obtain⟨p,vk,vw,rfl,ea,rk,_⟩:=zr rn;have f1':=f1.trans fr;have rx':=rx.keep (I.ay vs f1');refine⟨ap,p,aj,SqT.of ea,O,x,nd.k,_,B,rx',rk,(),(),λH2 s2'=>⟨ar⟩⟩;have vs3:=I.same vs2 s2';unfold cntL at h2;cases z:zc x nd.k with
  | true=>rw[av z] at h2;exact ifT rfl ⟨_,m,_,h2,O,fr.trans (Frm.of s2'),vs3⟩
  | false=>
   rw[au (by rw[z];exact Jd),Pg.az] at h2;refine ifF rfl ?_;have et2:SqT K H2 p _:=SqT.of (s2' _ _ ea);refine⟨ap,B,p,aj,et2,O,B,p,aj,et2,O,a,D,s2,nd.l,nd.c,O,vs3,Pg.aA (λc s4 h4 v H4 f4 vs4 ev=>?_) (OutE.on (f1'.trans (Frm.of s2'))) h2⟩;have ev':v=.int c:=ev;subst ev';have tk4:=I.ay vs3 f4;refine⟨am,?_⟩;refine⟨B,p,aj,SqT.of (tk4 _ _ (s2' _ _ ea)),O,B,nd.k,x,(rk.keep (Same.ay s2')).keep tk4,(rx'.keep (Same.ay s2')).keep tk4,(),ar⟩;have f14:=fr.trans ((Frm.of s2').trans f4);by_cases ek:nd.k=x
   ·rw[av ek,Int.add_zero] at h4;rw[zga ek];exact ifF rfl ⟨_,_,_,h4,O,f14,vs4⟩
   ·rw[au ek] at h4;rw[zhP ek];exact ifT rfl ⟨B,am,_,_,_,h4,O,f14,vs4⟩
 ·rintro σ H' ⟨s2,m,k4,h2,rfl,fr,vs2⟩;rw[Ny ()] at h2;exact⟨B,h2 _ H' (f1.trans fr) vs2 rfl⟩
abbrev _root_.Sh:List PySem.Str:=["vault","root","low","high"]
def zjy (I:VI C VR)(D:Dfn K mg "counted" zf6 Sh) (zkO:Fn P w K mg ax "is_empty" 21 SD zcM) (zuZ:FnX P w K mg ax "size" 6 SK (zh1 VR CN CB CC)) (zpI:FnX P w K mg ax "count_ahead" 23 Sb (zkz VR CN CB CC)):FnX P w K mg ax "counted" 24 Sh (zdt VR CN CB CC):=by
 refine D.okX (k:=23) (fsN ["vault","root","low","high","many"]) ⟨⟩;obtain⟨a,D,s,n,lo,hi,vl,vh,rfl,vs,rl,rh,dl,dh,h⟩:=h;refine⟨aq⟩;refine⟨ap,lo,hi,vl,vh,O,rl,rh,dl,λH1 s1=>⟨ar⟩⟩;have rl1:=rl.keep (Same.ay s1);have rh1:=rh.keep (Same.ay s1);have vs1:=I.same vs s1;unfold Out zdW at h;cases ze:zcO lo hi with
 | true=>rw[av ze] at h;exact ifT rfl (h _ H1 (Frm.of s1) vs1 rfl)
 | false=>
  rw[au (by rw[ze];exact Jd),Pg.az] at h;refine ifF rfl ?_;dsimp only[zf0];refine zaf (fun σ H2=>∃(m:Int)(s2:Vst),σ=[Y (.ref a),Y (.int n),Y vl,Y vh,Y (.int m)]/\(zfV n lo m).wp s2 (OutQ VR a D IntR H Q) (OutE VR CN CB CC a D H E)/\Frm D H1 H2/\VR H2 a D s2) (λN kN=>?_) ?_
  ·refine⟨B,ao⟩;rw[zaM rh];by_cases eh:hi=.non
   ·rw[av eh] at h;refine ifT (aw eh) ⟨ap,a,D,s,n,O,vs1,Pg.aA (λm s2 h2 v H2 f2 vs2 ev=>?_) (OutE.on (Frm.of s1)) h⟩;have ev':v=.int m:=ev;subst ev';exact kN _ H2 ⟨m,s2,O,h2,f2,vs2⟩
   ·rw[au eh] at h;refine ifF (Jc eh) ⟨ap,B,a,D,s,n,hi,vh,O,vs1,rh1,dh,Pg.aA (λm s2 h2 v H2 f2 vs2 ev=>?_) (OutE.on (Frm.of s1)) h⟩;have ev':v=.int m:=ev;subst ev';exact kN _ H2 ⟨m,s2,O,h2,f2,vs2⟩
  ·rintro σ H2 ⟨m,s2,rfl,h2,f2,vs2⟩;refine⟨B,ao⟩;rw[zaM rl];unfold zfV at h2;by_cases el:lo=.non
   ·rw[av el] at h2;exact ifT (aw el) ⟨B,h2 _ H2 ((Frm.of s1).trans f2) vs2 rfl⟩
   ·rw[au el,Pg.az] at h2;have f02:Frm D H H2:=(Frm.of s1).trans f2;refine ifF (Jc el) ⟨ap,ap,a,D,s2,n,lo,vl,O,vs2,rl.keep (I.ay vs f02),dl,Pg.aA (λk s3 h3 v H3 f3 vs3 ev=>?_) (OutE.on f02) h2⟩;have ev':v=.int k:=ev;subst ev';exact⟨am,h3 _ H3 (f02.trans f3) vs3 rfl⟩
abbrev _root_.SH:List PySem.Str:=["vault","root","number"]
def zqt (I:VI C VR)(D:Dfn K mg "nth" snth SH) (zaA:FnX P w K mg ax "node_beneath" 4 Sc (zcA VR CN CB CC)) (zbm:FnX P w K mg ax "size_beneath" 5 Sc (zbL VR CN CB CC)) (zat:mg "KEY" =Y (.int 0 t1)) (zbx:mg "WORTH" =Y (.int 1 t2)) (zar:mg "LEFT" =Y (.int 2 t3)) (zae:mg "RIGHT" =Y (.int 3 t4)) (z7:mg "COUNT" =Y (.int 4 t5)) (zah:mg "BENEATH_NONE" =Y (.int 301 t7)):
  FnX P w K mg ax "nth" 6 SH (zj0 VR CN CB CC):=by
 refine D.okX (k:=5) (fsN ["vault","root","number","count","node","left"]) ⟨⟩;obtain⟨a,D,s,n,i,rfl,vs,h⟩:=h;refine⟨_,(by have ι:=0;ac_rfl),?_⟩;refine⟨B,am,ar⟩;unfold Out nthQ at h;by_cases hi:i < 0
 ·rw[av hi] at h;exact ifT (aw hi) (h _ H Frm.refl vs .non)
 rw[au hi] at h;refine ifF (Jc hi) ?_;refine⟨λm σ H'=>∃(s1:Vst)(n c i:Int)(k4 k5:Option V),(nthL m n c i).wp s1 (OutQ VR a D ThR H Q) (OutE VR CN CB CC a D H E)/\1<=c/\c<=(m:Int)/\σ=[Y (.ref a),Y (.int n),Y (.int i),Y (.int c),k4,k5]/\Frm D H H'/\VR H' a D s1,⟨301,s,n,301,i,_,_,h,(),(),O,Frm.refl,vs⟩,?_⟩;clear h hi;rintro m σ H1 ⟨s1,n,c,i,k4,k5,h,c1,cm,rfl,f1,vs1⟩;obtain⟨m,rfl⟩:∃j,m=j+1:=⟨m - 1,()⟩;refine⟨B,ao⟩;rw[zaa];unfold nthL at h;by_cases hn:n=0
 ·rw[av hn] at h;exact ifF (by rw[aw hn];rfl) (h _ H1 f1 vs1 .non)
 rw[au hn,Pg.az] at h;refine ifT (by rw[Jc hn];rfl) ⟨_,fun σ' H' h=>h,?_⟩;refine⟨ap,B,a,D,s1,n,c,O,vs1,Pg.aA (λnd s2 h2 v H2 f2 vs2 rn=>?_) (OutE.on f1) (zjv h)⟩;obtain⟨⟨d1,d2⟩,h2⟩:=h2;obtain⟨p,vk,vw,rfl,ea,rk,rw'⟩:=zr rn.1;have et:SqT K H2 p _:=SqT.of ea;refine⟨B,p,aj,et,O,?_⟩;refine⟨ap,am,ar⟩;have f12:=f1.trans f2;by_cases hc:nd.c<=i
 ·rw[av hc] at h2;exact ifT (aw hc) (h2 _ H2 f12 vs2 .non)
 rw[au hc,Pg.az] at h2;refine ifF (Jc (show¬i≥nd.c from hc)) ?_;refine⟨ap,p,aj,et,O,B,a,D,s2,nd.l,nd.c,O,vs2,Pg.aA (λl s3 h3 v H3 f3 vs3 ev=>?_) (OutE.on f12) h2⟩;have ev':v=.int l:=ev;subst ev';have tk3:=I.ay vs2 f3;have et3:SqT K H3 p _:=SqT.of (tk3 _ _ ea);have f13:=f12.trans f3;refine⟨ap,ao⟩;rw[zaa];by_cases h1:i=l
 ·rw[av h1] at h3;refine ifT (aw h1) ?_;refine⟨B,p,aj,et3,O,B,p,aj,et3,O,szl (show 2<=1000 by decide),λp2 hp2=>?_⟩;have s4:=zj (o:=.tup [vk,vw]) (Same.refl H3) hp2;exact h3 _ _ (f13.trans (Frm.of s4)) (I.same vs3 s4) ((RepL.cons (rk.keep tk3) (.cons (rw'.keep tk3) .nil)).new hp2)
 rw[au h1] at h3;refine ifF (Jc h1) ?_;refine⟨ap,am,ar⟩;by_cases h4:i < l
 ·rw[av h4] at h3;refine ifT (aw h4) ⟨B,p,aj,et3,O,?_⟩;exact⟨m,Jr m,s3,_,_,i,_,_,h3,d1,(),O,f13,vs3⟩
 ·rw[au h4] at h3;refine ifF (Jc h4) ⟨B,p,aj,et3,O,?_⟩;refine⟨ap,am,am,?_⟩;exact⟨m,Jr m,s3,_,_,i - l - 1,_,_,h3,d1,(),O,f13,vs3⟩
abbrev zh9:aB:=top 77
abbrev scut:aB:=top 76
structure Js where
 nd:Nd
 i:Int
 c:Int
abbrev Js.th (j:Js):Th:=.tup [j.nd.th,.int j.i,.int j.c]
def joinR:Nat->Int->Int->Int->Int->Pg (List Js ×Int)
 | 0,_,_,_,_=>.bad
 | f+1,l,lc,r,rc=>if l=0 then .ret ([],r) else if r=0 then .ret ([],l) else(benP l lc).bind λa=>(benP r rc).bind λb=>
  if zab a.k b.k=Z then(joinR f a.r a.c r rc).bind λy=>.ret (⟨a,3,a.c+b.c⟩::y.1,y.2) else(joinR f l lc b.l b.c).bind λy=>.ret (⟨b,2,a.c+b.c⟩::y.1,y.2)
def upP:List Js->Int->Pg Int
 | [],n=>.ret n
 | j::r,n=>.lay (zW j.nd j.i n j.c).th (upP r (zk (zW j.nd j.i n j.c).th))
def ziY (l r c:Int):Pg Int:=(joinR 600 l c r c).bind λy=>upP y.1.reverse y.2
def cutK (n:Int)(x:Th)(ns:List Nd):Pg Int:=match ns.getLast? with
 | none=>.ret n
 | some own=>if own.k=x then(ziY own.l own.r own.c).bind λm=>zaY x (-1) ns.dropLast.reverse m else .ret n
def cutP (n:Int)(x:Th):Pg Int:=(wayP x 301 n 301).bind (cutK n x)
inductive zep (VR:VRT)(CN CB CC:aE)(vs:QR)(H:Hp)(Q:L2.VK)(E:XK):Prop
 | mk (a:aE)(D:QP)(s:Vst)(l r c:Int)(_:vs=[.ref a,.int l,.int r,.int c])(_:VR H a D s)(_:1<=c)(_:c<=300)(_:Out VR CN CB CC a D (ziY l r c) s IntR H Q E):zep VR CN CB CC vs H Q E
inductive zgn (VR:VRT)(CN CB CC:aE)(vs:QR)(H:Hp)(Q:L2.VK)(E:XK):Prop
 | mk (a:aE)(D:QP)(s:Vst)(n:Int)(x:Th)(vx:V)(_:vs=[.ref a,.int n,vx])(_:VR H a D s)(_:Rep H x vx)(_:dep x<=8)(_:Out VR CN CB CC a D (cutP n x) s IntR H Q E):zgn VR CN CB CC vs H Q E
abbrev _root_.Sx:List PySem.Str:=["vault","left","right","count"]
def zoS (I:VI C VR)(D:Dfn K mg "joined" zh9 Sx) (zaA:FnX P w K mg ax "node_beneath" 4 Sc (zcA VR CN CB CC)) (ziw:Fn P w K mg ax "above" 21 SN zd4) (zlW:Mt P w K mg ax (CX1 P w) C "lay" 14 Si (zbV VR CC)) (c_C:Cls K C) (ze4:Fn P w K mg ax "with_tree" 1 Sl zc6)
  (zat:mg "KEY" =Y (.int 0 t1)) (zar:mg "LEFT" =Y (.int 2 t3)) (zae:mg "RIGHT" =Y (.int 3 t4)) (z7:mg "COUNT" =Y (.int 4 t5)) (zb9:mg "reversed" =U):FnX P w K mg ax "joined" 22 Sx (zep VR CN CB CC):=by
 refine D.okX (k:=21) (fsN ["vault","left","right","count","left_count","right_count","down","one","other","both","root","step"]) ⟨⟩;obtain⟨a,D,s,l,r,c,rfl,vs,c1,c3,h⟩:=h;unfold Out ziY at h;rw[Pg.az] at h;refine⟨_,(by have ι:=0;ac_rfl),?_⟩;refine⟨ap,szl (show 0<=1000 by decide),λpd hpd=>?_⟩;have s0:=zj (o:=.lst []) (Same.refl H) hpd;have e0:upd H pd (.lst []) pd=Y (.lst []):=za;generalize upd H pd (.lst [])=H0 at s0 e0;dsimp only[zcg];refine zaf (fun σ H'=>∃(s1:Vst)(l r lc rc:Int)(js:List Js)(ds:QR)(k7 k8 k9:Option V),(l=0\/r=0)/\(upP js.reverse (if l=0 then r else l)).wp s1 (OutQ VR a D IntR H Q) (OutE VR CN CB CC a D H E)/\σ=[Y (.ref a),Y (.int l),Y (.int r),Y (.int c),Y (.int lc),Y (.int rc),Y (.ref pd),k7,k8,k9,U,U]/\Frm D H H'/\VR H' a D s1/\H' pd=Y (.lst ds)/\RepL H' (js.map Js.th) ds) (λN kN=>?_) ?_
 ·refine⟨λm σ H'=>∃(s1:Vst)(l r lc rc:Int)(js:List Js)(ds:QR)(k7 k8 k9:Option V),(joinR m l lc r rc).wp s1 (λy s'=>(upP (js++y.1).reverse y.2).wp s' (OutQ VR a D IntR H Q) (OutE VR CN CB CC a D H E)) (OutE VR CN CB CC a D H E)/\1<=lc/\1<=rc/\lc+rc<=(m:Int)/\js.length+m<=600/\σ=[Y (.ref a),Y (.int l),Y (.int r),Y (.int c),Y (.int lc),Y (.int rc),Y (.ref pd),k7,k8,k9,U,U]/\Frm D H H'/\VR H' a D s1/\H' pd=Y (.lst ds)/\RepL H' (js.map Js.th) ds,⟨600,s,l,r,c,c,[],[],_,_,_,h,c1,c1,(),(),O,Frm.of s0,I.same vs s0,e0,.nil⟩,?_⟩;clear h;rintro m σ H1 ⟨s1,l,r,lc,rc,js,ds,k7,k8,k9,h,l1,r1,lm,jm,rfl,f1,vs1,e1,r1'⟩;obtain⟨m,rfl⟩:∃j,m=j+1:=⟨m - 1,()⟩;refine⟨B,ao⟩;rw[zaa];unfold joinR at h;by_cases hl:l=0
  ·rw[av hl] at h;refine ifF (by rw[aw hl];rfl) (ifF rfl (kN _ H1 ⟨s1,l,r,lc,rc,js,ds,k7,k8,k9,.inl hl,?_,O,f1,vs1,e1,r1'⟩));have h':(upP (js++ []).reverse r).wp s1 (OutQ VR a D IntR H Q) (OutE VR CN CB CC a D H E):=h;rw[JS] at h';rw[av hl];exact h'
  rw[au hl] at h;refine ifT (by rw[Jc hl];rfl) ⟨B,ao⟩;rw[zaa];by_cases hr0:r=0
  ·rw[av hr0] at h;refine ifF (by rw[aw hr0];rfl) (kN _ H1 ⟨s1,l,r,lc,rc,js,ds,k7,k8,k9,.inr hr0,?_,O,f1,vs1,e1,r1'⟩);have h':(upP (js++ []).reverse l).wp s1 (OutQ VR a D IntR H Q) (OutE VR CN CB CC a D H E):=h;rw[JS] at h';rw[au hl];exact h'
  rw[au hr0,Pg.az] at h;refine ifT (by rw[Jc hr0];rfl) ⟨_,fun σ' H' h=>h,?_⟩;refine⟨ap,B,a,D,s1,l,lc,O,vs1,Pg.aA (λone s2 h2 v H2 f2 vs2 rn=>?_) (OutE.on f1) (zjv h)⟩;obtain⟨⟨o1,o2⟩,h2⟩:=h2;rw[Pg.az] at h2;have f12:=f1.trans f2;refine⟨ap,B,a,D,s2,r,rc,O,vs2,Pg.aA (λother s3 h3 v' H3 f3 vs3 rn'=>?_) (OutE.on f12) (zjv h2)⟩;obtain⟨⟨q1,q2⟩,h3⟩:=h3;have f13:=f12.trans f3;obtain⟨rn,gn⟩:=rn;obtain⟨rn',gn'⟩:=rn';have rn3:=rn.keep (I.ay vs2 f3);have tk13:=(I.ay vs1 f2).trans (I.ay vs2 f3);have e3:=I.lst vs2 f3 (I.lst vs1 f2 e1);have r3:=r1'.keep tk13;clear rn r1' e1 h h2;obtain⟨p,vk,vw,rfl,ea,rk,_⟩:=zr rn3;obtain⟨p',vk',vw',rfl,ea',rk',_⟩:=zr rn';have et:SqT K H3 p _:=SqT.of ea;have et':SqT K H3 p' _:=SqT.of ea';refine⟨B,p,aj,et,O,B,p',aj,et',O,am,?_⟩;refine⟨B,p,aj,et,O,B,p',aj,et',O,one.k,other.k,_,B,rk,rk',(zgu gn).1,(zgu gn').1,λH4 s4=>⟨ar⟩⟩;have f14:=f13.trans (Frm.of s4);have vs4:=I.same vs3 s4;have e4:=s4 _ _ e3;have r4:=r3.keep (Same.ay s4);have ea4:=s4 _ _ ea;have ea4':=s4 _ _ ea';have rn4:=rn3.keep (Same.ay s4);have rn4':=rn'.keep (Same.ay s4);have hds:ds.length=js.length:=by rw[r4.len,JI]
  have grow:∀(j:Js)(q:aE)(d2:aE),Rep H4 j.nd.th (.ref q)->H4 d2=U->∃H5,upd (upd H4 d2 (.tup [.ref q,.int j.i,.int j.c])) pd (.lst (ds++ [.ref d2]))=H5/\upd H4 d2 (.tup [.ref q,.int j.i,.int j.c]) pd=Y (.lst ds)/\Frm D H H5/\VR H5 a D s3/\H5 pd=Y (.lst (ds++ [.ref d2]))/\RepL H5 ((js++ [j]).map Js.th) (ds++ [.ref d2])/\Tups H4 H5:=λj q d2 rq hd2=>by
   have s5:=zj (o:=.tup [.ref q,.int j.i,.int j.c]) (Same.refl H4) hd2;have rp:Rep (upd H4 d2 (.tup [.ref q,.int j.i,.int j.c])) j.th (.ref d2):=(RepL.cons rq (.cons (.int _) (.cons (.int _) .nil))).new hd2;generalize upd H4 d2 (.tup [.ref q,.int j.i,.int j.c])=H5 at s5 rp;have e5:=s5 _ _ e4;have tk:Tups H5 (upd H5 pd (.lst (ds++ [.ref d2]))):=Tups.upd λxs z=>by rw[e5] at z;cases z
   refine⟨B,e5,zbs (f14.trans (Frm.of s5)) hpd,I.nl (I.same vs4 s5) (NL.lst e5),za,?_,(Same.ay s5).trans tk⟩;rw[JU];exact((r4.keep (Same.ay s5)).keep tk).snoc (rp.keep tk)
  cases z:zab one.k other.k with
  | true=>rw[av z,Pg.az] at h3;refine ifT rfl ?_;refine⟨B,.inl ⟨O,_,SqL.of e4⟩,ap,szl (show 3<=1000 by decide),λpt hpt=>?_⟩;obtain⟨H5,eH,e5,f5,vs5,e5',r5,tk5⟩:=grow ⟨one,3,one.c+other.c⟩ p pt rn4 hpt;refine⟨pd,ds,B,O,e5,Je (show ds.length < 1000 by lia) (szl (Jb _)),?_⟩;rw[eH];have ea5:=tk5 _ _ ea4;refine⟨B,p,aj,SqT.of ea5,O,?_⟩;refine⟨B,p,aj,SqT.of ea5,O,?_⟩;refine⟨m,Jr m,s3,_,_,_,_,js++ [⟨one,3,one.c+other.c⟩],_,_,_,_,Pg.aA (λy s' z=>?_) (λ_ _ z=>z) h3,o1,r1,(),by rw[JF];show js.length+1+m<=600;lia,O,f5,vs5,e5',r5⟩;have z':(upP (js++(⟨one,3,one.c+other.c⟩::y.1)).reverse y.2).wp s' (OutQ VR a D IntR H Q) (OutE VR CN CB CC a D H E):=z;rw[Nj];exact z'
  | false=>rw[au (by rw[z];exact Jd),Pg.az] at h3;refine ifF rfl ?_;refine⟨B,.inl ⟨O,_,SqL.of e4⟩,ap,szl (show 3<=1000 by decide),λpt hpt=>?_⟩;obtain⟨H5,eH,e5,f5,vs5,e5',r5,tk5⟩:=grow ⟨other,2,one.c+other.c⟩ p' pt rn4' hpt;refine⟨pd,ds,B,O,e5,Je (show ds.length < 1000 by lia) (szl (Jb _)),?_⟩;rw[eH];have ea5:=tk5 _ _ ea4';refine⟨B,p',aj,SqT.of ea5,O,?_⟩;refine⟨B,p',aj,SqT.of ea5,O,?_⟩;refine⟨m,Jr m,s3,_,_,_,_,js++ [⟨other,2,one.c+other.c⟩],_,_,_,_,Pg.aA (λy s' z=>?_) (λ_ _ z=>z) h3,l1,q1,(),by rw[JF];show js.length+1+m<=600;lia,O,f5,vs5,e5',r5⟩;have z':(upP (js++(⟨other,2,one.c+other.c⟩::y.1)).reverse y.2).wp s' (OutQ VR a D IntR H Q) (OutE VR CN CB CC a D H E):=z;rw[Nj];exact z'
 ·clear h;rintro σ H1 ⟨s1,l,r,lc,rc,js,ds,k7,k8,k9,hlr,h,rfl,f1,vs1,e1,r1⟩;have hds:ds.length=js.length:=by rw[r1.len,JI]
  refine zaf (fun σ H'=>σ=[Y (.ref a),Y (.int l),Y (.int r),Y (.int c),Y (.int lc),Y (.int rc),Y (.ref pd),k7,k8,k9,Y (.int (if l=0 then r else l)),U]/\H'=H1) (λN kN=>?_) ?_
  ·refine⟨B,ao⟩;rw[zaa];by_cases hl:l=0
   ·exact ifT (aw hl) ⟨B,kN _ _ ⟨by rw[av hl];rfl,O⟩⟩
   ·exact ifF (Jc hl) ⟨B,kN _ _ ⟨by rw[au hl];rfl,O⟩⟩
  rintro σ H1' ⟨rfl,rfl⟩;generalize(if l=0 then r else l)=n at h;refine⟨B,pd,B,SqL.of e1,?_⟩;refine zhU (λj σ H'=>∃(s2:Vst)(n:Int)(k11:Option V),(upP (js.reverse.drop j) n).wp s2 (OutQ VR a D IntR H Q) (OutE VR CN CB CC a D H E)/\σ=[Y (.ref a),Y (.int l),Y (.int r),Y (.int c),Y (.int lc),Y (.int rc),Y (.ref pd),k7,k8,k9,Y (.int n),k11]/\Frm D H1' H'/\VR H' a D s2) ⟨s1,n,_,h,O,Frm.refl,vs1⟩ ?_ ?_ ?_
  ·rintro j σ H' ⟨s2,n,k11,_,rfl,fr,_⟩;exact SqL.of (I.lst vs1 fr e1)
  ·rintro j y σ H' hj hy ⟨s2,n,k11,h,rfl,fr,vs2⟩;obtain⟨st,hm,ed,rl⟩:=zj3 r1 hj hy;rw[ed] at h;obtain⟨h0,gN,h1,h2⟩:=h;have rl':=rl.keep (I.ay vs1 fr);obtain⟨pt,xs,e,ept,rx⟩:=rl'.list;subst e;cases rx with
   | cons rn rx2=>
   cases rx2 with
   | cons r2 rx3=>
   cases rx3 with
   | cons r3 rx4=>
   cases rx4 with
   | nil=>
   cases r2;cases r3;obtain⟨dx,fs,eo,_,n2⟩:=I.ins vs2;have et:SqT K H' pt _:=SqT.of ept;refine⟨B,a,dx,fs,O,eo,n2,B,pt,aj,et,O,B,pt,aj,et,O,ap,pt,aj,et,O,_,st.nd,_,_,B,rn,λp2 H3 s3 r3=>?_⟩;have f12:=f1.trans (fr.trans (Frm.of s3));exact⟨a,D,s2,_,B,I.same vs2 s3,h0,r3,gN,λH4 st4 f4 vs4=>⟨_,_,_,h1 st4,O,fr.trans ((Frm.of s3).trans f4),vs4⟩,λu x' v1 v2 H4 st4 f4=>h2 u st4 x' v1 v2 H4 (f12.trans f4)⟩
  ·rintro σ H' ⟨s2,n,k11,h,rfl,fr,vs2⟩;rw[Ny (by rw[Nw];lia)] at h;exact⟨B,h _ H' (f1.trans fr) vs2 rfl⟩
def zq1 (I:VI C VR)(D:Dfn K mg "cut" scut Sb) (zgw:FnX P w K mg ax "way_to" 22 Sb (zeD VR CN CB CC)) (zht:Fn P w K mg ax "ends_at" 1 Sv (zcV K)) (ztn:FnX P w K mg ax "hung" 22 Sj (zdV VR CN CB CC)) (zuy:FnX P w K mg ax "joined" 22 Sx (zep VR CN CB CC))
  (z7:mg "COUNT" =Y (.int 4 t5)) (zar:mg "LEFT" =Y (.int 2 t3)) (zae:mg "RIGHT" =Y (.int 3 t4)):FnX P w K mg ax "cut" 23 Sb (zgn VR CN CB CC):=by
 refine D.okX (k:=22) (fsN ["vault","root","key","way","own"]) ⟨⟩;obtain⟨a,D,s,n,x,vx,rfl,vs,rx,dx,h⟩:=h;unfold Out cutP at h;rw[Pg.az] at h;have ι:=0;refine⟨_,(zb ∅
 (zb ∅
 (zb (setA 4 rfl (zdi zfh (pv 3) ∅ (λ_ _=>O)))
 ∅))),?_⟩
 refine⟨ap,B,a,D,s,n,x,vx,O,vs,rx,dx,Pg.aA (λns s1 h1 v H1 f1 vs1 rn=>?_) (λ_ _ z=>z) (znM () h)⟩;obtain⟨hok,h1⟩:=h1;clear h;obtain⟨pw,ws,rfl,ew,rwy,gd,hl3⟩:=rn;have rx1:=rx.keep (I.ay vs f1);refine⟨ap,pw,ws,ns,x,vx,O,SqL.of ew,rwy,gd,rx1,ar⟩;unfold cutK at h1;rcases NB ns with e | ⟨pre,nd,e⟩
 ·subst e;exact ifT rfl ⟨B,h1 _ H1 f1 vs1 rfl⟩
 rw[NC] at e;subst e;have eb:zdg (pre++ [nd]) x=eqT nd.k x:=by unfold zdg;rw[Nk]
 rw[Nk] at h1;have h3:(if nd.k=x then(ziY nd.l nd.r nd.c).bind λm=>zaY x (-1) (pre++ [nd]).dropLast.reverse m else .ret n).wp s1 (OutQ VR a D IntR H Q) (OutE VR CN CB CC a D H E):=h1;rw[eb];by_cases ek:nd.k=x
 ·rw[av ek,Pg.az,List.dropLast_concat] at h3;rw[zga ek];refine ifF rfl ?_;have okn:=hok nd (Jh _ JO);rw[JU] at rwy;obtain⟨us,v,rfl,rus,rnd⟩:=rwy.unsnoc;obtain⟨p,vk,vw',rfl,ea,rk,_⟩:=zr rnd;have et:SqT K H1 p _:=SqT.of ea;refine⟨ap,pw,aj,SqL.of ew,zcv,?_⟩;refine⟨ap,ap,pw,B,SqL.of ew,λpc hpc=>?_⟩;rw[zlN (n:=us.length) (by simp),List.take_left];have s12:=zj (o:=.lst us) (Same.refl H1) hpc;have ec:upd H1 pc (.lst us) pc=Y (.lst us):=za;generalize upd H1 pc (.lst us)=H2 at s12 ec;have vs2:=I.same vs1 s12;have et2:SqT K H2 p _:=SqT.of (s12 _ _ ea);have f2:=f1.trans (Frm.of s12);refine⟨ap,B,p,aj,et2,O,B,p,aj,et2,O,B,p,aj,et2,O,a,D,s1,nd.l,nd.r,nd.c,O,vs2,okn.1,okn.2,Pg.aA (λm s3 h4 v H3 f3 vs3 ev=>?_) (OutE.on f2) h3⟩;have ev':v=.int m:=ev;subst ev';have f23:=f2.trans f3;have tk3:=(Same.ay s12).trans (I.ay vs2 f3);exact⟨B,a,pc,D,s3,us,pre,x,vx,m, -1,O,vs3,I.lst vs2 f3 ec,rus.keep tk3,λy hy=>gd y (Jo _ hy),rx1.keep tk3,Pg.aA (OutQ.on f23) (OutE.on f23) h4⟩
 ·rw[au ek] at h3;rw[zhP ek];exact ifT rfl ⟨B,h3 _ H1 f1 vs1 rfl⟩
abbrev zk6:aB:=top 35
def zrR (cs:QF)(H:Hp)(Q:VK):Prop:=∀(l:aE)(ns:List Int)(xs:QR)(H':Hp),Same H H'->H l=U->ns.Perm (cs.map (·.1))->ns.Pairwise (· <= ·)->H' l=Y (.lst xs)->RepL H' (zU cs ns) xs->Q (.ref l) H'
inductive zfJ (vs:QR)(H:Hp)(Q:L2.VK)(_E:XK):Prop
 | mk (d:aE)(kvs:QG)(cs:QF)(_:vs=[.ref d])(_:H d=Y (.dK kvs)) (_:DRep H cs kvs) (_:cs.length < 64) (_:zrR cs H Q):zfJ vs H Q _E
def zug {cs:QF}{kvs:QG}{H:Hp}{d l:aE}{ns:List Int}(r:DRep H cs kvs)(hl:H l=U)(hp:ns.Perm (zcs kvs)):ns.Perm (cs.map (·.1))/\∀n∈ns,∃t v,zh cs n=Y t/\valV kvs (.inl n)=Y v/\Rep H t v:=by rw[r.keys.1] at hp;refine⟨hp,λn hn=>?_⟩;obtain⟨t,e⟩:=zc2 (hp.subset hn);obtain⟨v,e',rv⟩:=r.some e;exact⟨t,v,e,e',rv⟩
def zmM (D:Dfn K mg "rising" zk6 ["laid"]) (zgx:mg "sorted" =U):Fn P w K mg ax "rising" 1 ["laid"] zfJ:=by
 refine D.ok (k:=0) (fsN ["laid"]) ⟨⟩;obtain⟨d,kvs,cs,rfl,ed,dr,h64,q⟩:=h;refine⟨_,(zx (zQ (zbl (zo.one (y:= "laid") (j:=0) (c:=s.heap.objs.size+1) (by rfl) (by rfl) (by decide+kernel) (by decide+kernel) (by rfl) (by decide+kernel) (by rfl) (by decide+kernel) (by rfl) (by first | exact Or.inl rfl | exact Or.inr rfl) (by first | exact Or.inl rfl | exact Or.inr rfl)) rfl (zhT (zC (zhY rfl) (by rfl) zgx (by rfl) ∅)) (λ_ _ _=>za5) (λ_ _ _=>(zlO (zrU hr) (pv 1) (pv 0) (λ_ _=>O)))))),?_⟩;refine⟨B,d,kvs,O,ed,dr.keys.2,by rw[dr.len];exact h64,λl ns hl hp hs=>?_⟩;obtain⟨hp',all⟩:=zug (d:=d) dr hl hp;have e1:upd H l (.lst (ns.map V.int)) l=Y (.lst (ns.map V.int)):=za;have s1:Same H (upd H l (.lst (ns.map V.int))):=zj (Same.refl H) hl;generalize upd H l (.lst (ns.map V.int))=H1 at e1 s1;refine⟨l,O,⟨_,SqL.of e1⟩,λp hp1=>?_⟩;have hn64:ns.length < 64:=by rw[hp'.length_eq,JI];exact h64
 refine zaN (n:=ns.length) (λi acc H'=>Same H1 H'/\H' p=Y (.lst acc)/\acc.length=i/\RepL H' (zU cs (ns.take i)) acc) ⟨zj (Same.refl H1) hp1,za,O,.nil⟩ ?_ ?_ ?_ ?_
 ·rintro i acc H' hi ⟨sm,ep,la,rr⟩;exact⟨ns.map V.int,.int ns[i],SqL.of (sm _ _ e1),by rw[JV,JD hi];rfl⟩
 ·rintro acc H' ⟨sm,ep,la,rr⟩;exact⟨ns.map V.int,SqL.of (sm _ _ e1),by rw[JI];exact Jb _⟩
 ·rintro i acc H' y H'' hi ⟨sm,ep,la,rr⟩ ⟨z1,z2⟩;subst z1;have ey:=z2 (ns.map V.int) (SqL.of (sm _ _ e1));have ey2:y=V.int ns[i]:=by rw[JV,JD hi] at ey;exact(JP ey).symm
  subst ey2;obtain⟨t,v,lt,lv,rv⟩:=all ns[i] (Jm hi);have dg:DGet H'' d (.int ns[i]) (Y v):=by rw[<-lv];exact DGet.k (k:=aN ns[i]) (sm _ _ (s1 _ _ ed))
  refine tt1 ?_;refine⟨ap,d,v,O,dg,ep,Je (show acc.length < 1000000 by lia) (by decide+kernel),nxt hi ⟨zbR sm hp1,za,by rw[JF,la];rfl,?_⟩⟩;have tk:Tups H'' (upd H'' p (.lst (acc++ [v]))):=Tups.upd λxs z=>by rw[ep] at z;cases z
  have ew:zU cs (ns.take (i+1))=zU cs (ns.take i)++ [t]:=by unfold zU;rw[Na,JD hi,JU];show _++ [(zh cs ns[i]).getD .non]=_;rw[lt];rfl
  rw[ew];exact RepL.snoc ((rv.keep (Same.ay (λb o e=>sm b o (s1 b o e)))).keep tk) (rr.keep tk)
 ·rintro acc H' ⟨sm,ep,la,rr⟩;rw[J9] at rr;refine q p ns acc H' (λb o e=>sm b o (s1 b o e)) ?_ hp' hs ep rr;cases z:H p with
  | none=>rfl
  | some o=>rw[s1 _ _ z] at hp1;cases hp1
abbrev zbJ:aB:=inClass (top 38) 0
abbrev ze2:aB:=inClass (top 38) 1
abbrev zdj:aB:=inClass (top 38) 2
abbrev zdl:aB:=inClass (top 38) 3
def rFs (dl kp dn:aE):List (Str ×V):=[("laid",.ref dl),("keeper",.ref kp),("noted",.ref dn)]
def zlg (dl kp dn:aE):Flds (rFs dl kp dn) dl:=⟨O,O,O,O,O,O⟩
structure ROk (H:Hp)(R a dl kp dn:aE)(kvs nvs:QG):Prop where
 ob:∃dx,H a=Y (.ins R dx (rFs dl kp dn))
 di:H dl=Y (.dK kvs)
 no:H dn=Y (.dK nvs)
theorem ROk.keep {H H':Hp}{R a dl kp dn:aE}{kvs nvs:QG}(v:ROk H R a dl kp dn kvs nvs)(s:Same H H'):ROk H' R a dl kp dn kvs nvs:=by obtain⟨⟨dx,e⟩,e2,e3⟩:=v;exact⟨⟨dx,s _ _ e⟩,s _ _ e2,s _ _ e3⟩
def ROk.vok {H:Hp}{R a dl kp dn:aE}{kvs nvs:QG}(v:ROk H R a dl kp dn kvs nvs):VOk H R a dl kvs:=by obtain⟨⟨dx,e⟩,e2,e3⟩:=v;exact⟨⟨dx,_,e,zlg dl kp dn⟩,e2⟩
inductive zfl (R:aE)(vs:QR)(H:Hp)(Q:L2.VK)(_E:XK):Prop
 | mk (a kp dx:aE)(_:vs=[.ref a,.ref kp])(_:H a=Y (.ins R dx [])) (_:∀(dl dn:aE)(H':Hp),(∀b o,b≠a->H b=Y o->H' b=Y o)->H dl=U->H dn=U->dl≠dn->H' a=Y (.ins R dx (rFs dl kp dn))->H' dl=Y (.dK [])->H' dn=Y (.dK [])->Q .non H'):zfl R vs H Q _E
def Alike (H:Hp)(kvs:QG)(t:Th):Prop:=∀t1 v1,valV kvs (.inl (zk t))=Y v1->Rep H t1 v1->t1=t
inductive zkv (R C CC:aE)(vs:QR)(H:Hp)(Q:L2.VK)(E:XK):Prop
 | mk (a dl kp dn dk:aE)(kvs nvs kvk:QG)(t:Th)(v:V)(_:vs=[.ref a,v])(_:ROk H R a dl kp dn kvs nvs)(_:VOk H C kp dk kvk)(_:zbY H kvs)(_:zbY H kvk)(_:kvs.length<=1000000)(_:Rep H t v)(_:Good t)(_:(∀H',Same H H'->Alike H kvs t->Alike H kvk t->Q (.int (zk t)) (upd H' dl (.dK (putK kvs (.inl (zk t)) v))))) (_:(∀t1 v1 H',Same H H'->(valV kvs (.inl (zk t))=Y v1\/(Alike H kvs t/\valV kvk (.inl (zk t))=Y v1))->Rep H' t1 v1->Good t1->zk t1=zk t->t1≠t->zia E CC H' t1 t v1 v)):zkv R C CC vs H Q E
inductive zgj (R C CN:aE)(vs:QR)(H:Hp)(Q:L2.VK)(E:XK):Prop
 | mk (a dl kp dn dk:aE)(kvs nvs kvk:QG)(n:Int)(_:vs=[.ref a,.int n])(_:ROk H R a dl kp dn kvs nvs)(_:VOk H C kp dk kvk)(_:nvs.length<=1000000)(_:(∀v,valV kvs (.inl n)=Y v->Q v H)) (_:(∀v,valV kvs (.inl n)=U->valV kvk (.inl n)=Y v->Q v (upd H dn (.dK (putK nvs (.inl n) v))))) (_:(valV kvs (.inl n)=U->valV kvk (.inl n)=U->E (.ref CN) U H)):zgj R C CN vs H Q E
inductive zis (R:aE)(vs:QR)(H:Hp)(Q:L2.VK)(_E:XK):Prop
 | mk (a dl kp dn:aE)(kvs nvs:QG)(cs:QF)(_:vs=[.ref a])(_:ROk H R a dl kp dn kvs nvs)(_:DRep H cs nvs)(_:cs.length < 64)(_:zrR cs H Q):zis R vs H Q _E
def ziJ (D:Kdf K mg "Vault" "__init__" "Vault.__init__" z8 SA) (c:Cls K C) (nl:zm K C "laid"):Kfn P w K mg ax "Vault" "__init__" 1 SA (zb2 C):=by refine D.ok (k:=0) (fsN SA) ⟨⟩;obtain⟨a,dx,rfl,ea,q⟩:=h;refine⟨aq⟩;intro d hd;exact⟨B,a,C,dx,[],O,by rw[zd (zf ea hd)];exact ea,c,nl,(),q d hd⟩
theorem zeL (a b:V):putF ("keeper" :Str) b [(("laid" :Str),a)]=[(("laid" :Str),a),(("keeper" :Str),b)]:=by
 unfold putF;rw[au ()]
 rfl
theorem zkm (a b c:V):putF ("noted" :Str) c [(("laid" :Str),a),(("keeper" :Str),b)]=[(("laid" :Str),a),(("keeper" :Str),b),(("noted" :Str),c)]:=by
 unfold putF;rw[au ()];unfold putF;rw[au ()]
 rfl
abbrev _root_.SS:List PySem.Str:=["self","keeper"]
def znw (D:Mkd K mg x R "Reader.__init__" zbJ SS) (zeH:Kfn P w K mg ax "Vault" "__init__" 1 SA (zb2 R)) (c:Cls K R) (nk:zm K R "keeper") (nn:zm K R "noted"):Mkr P w K mg ax x R 2 SS (zfl R):=by
 refine D.ok (k:=1) (fsN SS) ⟨⟩;obtain⟨a,kp,dx,rfl,ea,q⟩:=h;refine⟨aq⟩;refine⟨B,a,dx,O,ea,λdl hdl=>?_⟩;have ad:a≠dl:=zf ea hdl;refine⟨ap,a,R,dx,B,za,c,nk,(show(1:Nat) < 1000 by decide),?_⟩;intro dn hdn;have an:a≠dn:=λz=>by rw[<-z,za] at hdn;cases hdn
 rw[zd (aV an),zd (aV an)] at hdn;have dd:dl≠dn:=λz=>by rw[<-z,za] at hdn;cases hdn
 rw[zd (aV dd)] at hdn;refine⟨B,a,R,dx,B,by rw[zd an];exact za,c,nn,by rw[zeL];exact(show(2:Nat) < 1000 by decide),?_⟩;rw[zeL,zkm];refine q dl dn _ (λb o hb e=>?_) hdl hdn dd za ?_ ?_
 ·rw[zd hb,zd (zf e hdn),zd hb,zd hb,zd (zf e hdl)];exact e
 ·rw[zd (aV ad),zd dd,zd (aV ad),zd (aV ad)];exact za
 ·rw[zd (aV an)];exact za
def zqK (D:Mdf K R "lay" "Reader.lay" ze2 Si) (zkP:Mt P w K mg ax (CX1 P w) R "refuse_clash" 3 Sm (zcP R CC)) (zkQ:Mt P w K mg ax (CX1 P w) C "refuse_clash" 3 Sm (zcP C CC))
  (zdz:Fn P w K mg ax "seal" 13 Sd zb7) (c_R:Cls K R) (c_C:Cls K C) (nl:zm K R "laid") (nk:zm K R "keeper"):Mt P w K mg ax (CX1 P w) R "lay" 14 Si (zkv R C CC):=by
 refine D.okX (k:=13) (fsN ["self","thing","number"]) ⟨⟩;obtain⟨a,dl,kp,dn,dk,kvs,nvs,kvk,t,v,rfl,ro,vo,lo,lk,hl,rt,gt,q,qe⟩:=h;have gd:=gt.dp;have gn:=gt.nd;refine⟨_,(zb ∅
 (zb (zeg (zgm (pv 0) c_R zkP hr () za6 ∅))
 (zb (zeg (zgm ∅ c_C zkQ hr () za6 ∅))
 ∅))),?_⟩
 refine⟨B,t,v,O,rt,gt.wf,(),(),λH1 s1=>?_⟩;have ro1:=ro.keep s1;have vo1:=vo.keep s1;obtain⟨⟨dx,eo⟩,ed,en⟩:=id ro1;obtain⟨⟨dy,fs,ek,fl⟩,ed2⟩:=id vo1;have rt1:=rt.keep (Same.ay s1);have back:∀kvs',Alike H1 kvs' t->zbY H kvs'->Alike H kvs' t:=λkvs' al lo' t1 v1 ev r1=>al t1 v1 ev (r1.keep (Same.ay s1));refine⟨B,a,dx,B,eo,(zlg dl kp dn).n1,ap,a,dl,kvs,_,t,v,O,ro1.vok,lo.keep (Same.ay s1),rt1,gt,O,λsame=>?_,λt1 v1 ev r1 g1 sn ne=>qe t1 v1 H1 s1 (.inl ev) r1 g1 sn ne⟩;refine⟨B,a,R,dx,_,B,eo,c_R,nk,O,kp,dy,B,ek,fl.n1,ap,kp,dk,kvk,_,t,v,O,vo1,lk.keep (Same.ay s1),rt1,gt,O,λsame2=>?_,λt1 v1 ev r1 g1 sn ne=>qe t1 v1 H1 s1 (.inr ⟨back kvs same lo,ev⟩) r1 g1 sn ne⟩;refine⟨ap,a,R,dx,_,B,eo,c_R,nl,O,B,dl,B,DPut.k (k:=aN (zk t)) ed (Jy hl (by decide+kernel)),?_⟩;exact⟨B,q H1 s1 (back kvs same lo) (back kvk same2 lk)⟩
def zmX (D:Mdf K R "thing" "Reader.thing" zdj Se) (zlV:Mt P w K mg ax (CX1 P w) C "thing" 1 Se (zd5 C CN)) (c_R:Cls K R) (c_C:Cls K C) (nl:zm K R "laid") (nk:zm K R "keeper") (nn:zm K R "noted"):
  Mt P w K mg ax (CX1 P w) R "thing" 2 Se (zgj R C CN):=by
 refine D.okX (k:=1) (fsN ["self","number","read"]) ⟨⟩;obtain⟨a,dl,kp,dn,dk,kvs,nvs,kvk,n,rfl,ro,vo,hl,q1,q2,qe⟩:=h;obtain⟨⟨dx,eo⟩,ed,en⟩:=id ro;obtain⟨⟨dy,fs,ek,fl⟩,ed2⟩:=id vo;refine⟨_,(zb ∅
 (zb (setA 2 rfl (zgm ∅ c_C zlV hr () za6 ∅))
 ∅)),?_⟩
 refine⟨ap,a,R,dx,_,B,eo,c_R,nl,O,dl,B,DGet.k (k:=aN n) ed,ar⟩;cases ev:valV kvs (aN n) with
 | some v=>
  have dg:DGet H dl (.int n) (Y v):=by rw[<-ev];exact DGet.k (k:=aN n) ed
  refine ifT rfl ?_;exact⟨B,a,R,dx,_,B,eo,c_R,nl,O,B,dl,v,O,dg,q1 v ev⟩
 | none=>refine ifF rfl ?_;refine⟨B,a,R,dx,_,B,eo,c_R,nk,O,kp,dy,B,ek,fl.n3,B,kp,dk,kvk,n,O,vo,λv e=>?_,λe=>qe ev e⟩;refine⟨ap,a,R,dx,_,B,eo,c_R,nn,O,B,dn,B,DPut.k (k:=aN n) en (Jy hl (by decide+kernel)),?_⟩;exact⟨B,q2 v ev e⟩
def znI (D:Mdf K R "paper" "Reader.paper" zdl SA) (zuz:Fn P w K mg ax "rising" 1 ["laid"] zfJ) (c:Cls K R) (nn:zm K R "noted"):Mt P w K mg ax CX0 R "paper" 2 SA (zis R):=by refine D.ok (k:=1) (fsN SA) ⟨⟩;obtain⟨a,dl,kp,dn,kvs,nvs,cs,rfl,⟨⟨dx,eo⟩,ed,en⟩,dr,h64,q⟩:=h;refine⟨aq⟩;exact⟨B,a,R,dx,_,B,eo,c,nn,O,dn,nvs,cs,O,en,dr,h64,q⟩
theorem Mt.mono {P:aG}{w:aH}{K:QA}{mg:QB}{ax:aF}{CX:CXT}{C:aE}{m:Str}{j k:Nat}{ps:QQ}{sp:Sp}(F:Mt P w K mg ax CX C m j ps sp)(h:j<=k):Mt P w K mg ax CX C m k ps sp:=by obtain⟨f,fd,a,b⟩:=F.ex;exact⟨f,fd,a.mono h,b⟩
theorem NL.ay (n:NL H H'):Tups H H':=λb xs e=>n b _ (by intro ys z;cases z) e
theorem VOk.nl (v:VOk H C a d kvs)(n:NL H H'):VOk H' C a d kvs:=by obtain⟨⟨dx,fs,e,f⟩,e2⟩:=v;exact⟨⟨dx,fs,n _ _ (by intro ys z;cases z) e,f⟩,n _ _ (by intro ys z;cases z) e2⟩
theorem VS.nl {H H':Hp}{C a d:aE}{cs:QF}(v:VS H C a d cs)(n:NL H H'):VS H' C a d cs:=by obtain⟨kv,vo,dr⟩:=v.vo;exact⟨⟨kv,vo.nl n,dr.keep n.ay⟩,v.gc⟩
theorem zcX {a b:QF}:zh (a++b) n=(zh a n).or (zh b n):=by
 induction a with
 | nil=>rfl
 | cons p r ih=>
  obtain⟨k,u⟩:=p;rw[Ni,zN,zN];by_cases h:k=n
  ·rw[av h,av h];rfl
  ·rw[au h,au h];exact ih
theorem Vst.all_own {s:Vst}{n:Int}{t:Th}(h:zh s.own n=Y t):zh s.all n=Y t:=by unfold Vst.all;rw[zcX,h];rfl
theorem Vst.all_kp {s:Vst}{n:Int}(h:zh s.own n=U):zh s.all n=zh s.kp n:=by unfold Vst.all;rw[zcX,h];rfl
def zg5 {s:Vst}{t:Th}(h:s.stop t=U):zh s.all (zk t)=U\/zh s.all (zk t)=Y t:=by
 unfold Vst.stop at h;cases z:zh s.all (zk t) with
 | none=>exact .inl rfl
 | some u=>
  rw[z] at h;have h':(if u=t then U else Y u)=(U:Option Th):=h;by_cases e:u=t
  ·rw[e];exact .inr rfl
  ·rw[au e] at h';cases h'
theorem zim {s:Vst}(h:zh s.all (zk t)=U\/zh s.all (zk t)=Y t):s.stop t=U:=by
 unfold Vst.stop;rcases h with h | h
 ·rw[h]
 ·rw[h];exact av rfl
def zc8 {s:Vst}{u:Th}(h:zh s.all (zk t)=Y u)(n:u≠t):s.stop t=Y u:=by unfold Vst.stop;rw[h];exact au n
structure VK (C:aE)(H:Hp)(a:aE)(D:QP)(s:Vst):Prop where
 vs:∃d,D=[d]/\VS H C a d s.own
 kp:s.kp=[]
 rm:s.own.length+s.n<=1000000
def vi_K (C:aE):VI C (VK C) where
 ins:=λv=>by obtain⟨d,_,vs⟩:=v.vs;obtain⟨kv,⟨⟨dx,fs,e,f⟩,_⟩,_⟩:=vs.vo;exact⟨dx,fs,e,f.n3,f.n2⟩
 dic:=λv b hb=>by obtain⟨d,e,vs⟩:=v.vs;obtain⟨kv,vo,_⟩:=vs.vo;subst e;rw[Ji.mp hb];exact⟨kv,vo.di⟩
 nl:=λv n=>by obtain⟨d,e,vs⟩:=v.vs;exact⟨⟨d,e,vs.nl n⟩,v.kp,v.rm⟩
structure VRd (R C kp dk:aE)(H:Hp)(a:aE)(D:QP)(s:Vst):Prop where
 ro:∃dl dn kvs nvs,D=[dl,dn]/\ROk H R a dl kp dn kvs nvs/\DRep H s.own kvs/\DRep H s.nt nvs/\dl≠dn/\dk≠dl/\dk≠dn
 vs:VS H C kp dk s.kp
 g1:GoodC s.own
 g2:GoodC s.nt
 co:∀n t u,zh s.own n=Y t->zh s.kp n=Y u->t=u
 su:∀n t,zh s.nt n=Y t->zh s.kp n=Y t
 r1:s.own.length+s.n<=1000000
 r2:s.nt.length+s.n<=1000000
theorem ROk.nl {H H':Hp}{R a dl kp dn:aE}{kvs nvs:QG}(v:ROk H R a dl kp dn kvs nvs)(n:NL H H'):ROk H' R a dl kp dn kvs nvs:=by obtain⟨⟨dx,e⟩,e2,e3⟩:=v;exact⟨⟨dx,n _ _ (by intro ys z;cases z) e⟩,n _ _ (by intro ys z;cases z) e2,n _ _ (by intro ys z;cases z) e3⟩
def vi_R (R C kp dk:aE):VI R (VRd R C kp dk) where
 ins:=λv=>by obtain⟨dl,dn,kvs,nvs,_,ro,_⟩:=v.ro;obtain⟨⟨dx,e⟩,_⟩:=ro;exact⟨dx,_,e,(zlg dl kp dn).n3,(zlg dl kp dn).n2⟩
 dic:=λv b hb=>by
  obtain⟨dl,dn,kvs,nvs,e,ro,_⟩:=v.ro;subst e;simp only[JJ,JR,or_false] at hb;rcases hb with rfl | rfl
  ·exact⟨_,ro.di⟩
  ·exact⟨_,ro.no⟩
 nl:=λv n=>by obtain⟨dl,dn,kvs,nvs,e,ro,d1,d2,ne⟩:=v.ro;exact⟨⟨dl,dn,kvs,nvs,e,ro.nl n,d1.keep n.ay,d2.keep n.ay,ne⟩,v.vs.nl n,v.g1,v.g2,v.co,v.su,v.r1,v.r2⟩
theorem Vst.look_own {s:Vst}{n:Int}{t:Th}(h:zh s.own n=Y t):s.look n=Y (t,{s with n:=s.n - 1}):=by unfold Vst.look;rw[h]
theorem Vst.look_kp {s:Vst}{n:Int}{t:Th}(h:zh s.own n=U)(k:zh s.kp n=Y t):s.look n=Y (t,{s with nt:=addT s.nt n t,n:=s.n - 1}):=by unfold Vst.look;rw[h];show(match zh s.kp n with | some t=>_ | none=>_)=_;rw[k]
theorem Vst.look_no {s:Vst}{n:Int}(h:zh s.own n=U)(k:zh s.kp n=U):s.look n=U:=by unfold Vst.look;rw[h];show(match zh s.kp n with | some t=>_ | none=>_)=_;rw[k]
def zlt (M:Mt P w K mg ax (CX1 P w) C "thing" 1 Se (zd5 C CN)):Mt P w K mg ax (CX1 P w) C "thing" 2 Se (zcm (VK C) CN):=Mt.mono (Mt.imp M λvs H Q E h=>by
 obtain⟨a,D,s,n,rfl,vk,h0,q,qe⟩:=h;obtain⟨d,rfl,vs⟩:=id vk.vs;obtain⟨kv,vo,dr⟩:=vs.vo;refine⟨a,d,kv,n,O,vo,λv ev=>?_,λev=>?_⟩
 ·obtain⟨t,e1,rv⟩:=dr.back ev;exact q t _ v H (Vst.look_own e1) Frm.refl ⟨⟨d,O,vs⟩,vk.kp,by have:=vk.rm;show s.own.length+(s.n - 1)<=1000000;lia⟩ rv (vs.gc.dep e1).1
 ·refine qe H (Vst.look_no ?_ (by rw[vk.kp];rfl)) Frm.refl vk;cases z:zh s.own n with
  | none=>rfl
  | some t=>
   obtain⟨y,ey,_⟩:=dr.some z;rw[ev] at ey;cases ey) ()
def zny (M:Mt P w K mg ax (CX1 P w) C "lay" 14 Si (znC C CC)):Mt P w K mg ax (CX1 P w) C "lay" 14 Si (zbV (VK C) CC):=Mt.imp M λvs H Q E h=>by
 obtain⟨a,D,s,t,v,rfl,vk,h0,rt,gt,q,qe⟩:=h;obtain⟨d,rfl,vs⟩:=id vk.vs;obtain⟨kv,vo,dr⟩:=vs.vo;have rm:=vk.rm;have eall:∀n,zh s.all n=zh s.own n:=λn=>by unfold Vst.all;rw[vk.kp,JS]
 refine⟨a,d,kv,t,v,O,vo,dr.laidOk vs.gc.gd,by rw[dr.len];lia,rt,gt,λH' sm alike=>?_,λt1 v1 H' sm e1 r1 g1 se ne H2 x s2 ex=>?_⟩
 ·have ft:Fits s.own (zk t) t:=by
   cases z:zh s.own (zk t) with
   | none=>exact .inl z
   | some u=>obtain⟨y,ey,ry⟩:=dr.some z;rw[alike u y ey ry] at z;exact .inr z
  have ed':=sm _ _ vo.di;have tk:Tups H (upd H' d (.dK (putK kv (.inl (zk t)) v))):=(Same.ay sm).trans (Tups.upd λxs z=>by rw[ed'] at z;cases z);have fr:Frm [d] H (upd H' d (.dK (putK kv (.inl (zk t)) v))):=λb o n e=>by rw[zd (λz=>n (by rw[z];exact Ji.mpr rfl))];exact sm b o e
  obtain⟨⟨dx,fs,eo,fl⟩,ed⟩:=id vo;have hal:=zdY s.own (zk t) t;have had:a∉ [d]:=λz=>zL eo ed (by intro y;cases y) (Ji.mp z);exact q _ (zim (by rw[eall];exact ft)) fr ⟨⟨d,O,⟨⟨_,⟨⟨dx,fs,fr _ _ had eo,fl⟩,za⟩,(dr.keep tk).add (rt.keep tk) ft vs.gc.nd⟩,vs.gc.add gt rfl⟩⟩,vk.kp,by show(addT s.own (zk t) t).length+(s.n - 1)<=1000000;lia⟩
 ·obtain⟨t2,e2,r2⟩:=dr.back e1;have e12:t2=t1:=(r2.keep (Same.ay sm)).uniq r1;subst e12;exact qe t2 x v1 v H2 (zc8 (by rw[eall];exact e2) ne) (Frm.of λb o z=>s2 b o (sm b o z)) ((vi_K C).same vk λb o z=>s2 b o (sm b o z)) (r1.keep (Same.ay s2)) (rt.keep ((Same.ay sm).trans (Same.ay s2))) g1 gt ne se ex
def zqB (M:Mt P w K mg ax (CX1 P w) R "thing" 2 Se (zgj R C CN)):Mt P w K mg ax (CX1 P w) R "thing" 2 Se (zcm (VRd R C kp dk) CN):=Mt.imp M λvs H Q E h=>by
 obtain⟨a,D,s,n,rfl,vr,h0,q,qe⟩:=h;obtain⟨dl,dn,kvs,nvs,rfl,ro,d1,d2,ne,nk1,nk2⟩:=id vr.ro;obtain⟨kv,vo,dr⟩:=vr.vs.vo;have r1:=vr.r1;have r2:=vr.r2;have non:∀{cs:QF}{kvs:QG},DRep H cs kvs->valV kvs (aN n)=U->zh cs n=U:=λd ev=>by
  rename_i cs _;cases z:zh cs n with
  | none=>rfl
  | some t=>obtain⟨y,ey,_⟩:=d.some z;rw[ev] at ey;cases ey
 refine⟨a,dl,kp,dn,dk,kvs,nvs,kv,n,O,ro,vo,by rw[d2.len];lia,λv ev=>?_,λv e0 ev=>?_,λe0 ev=>?_⟩
 ·obtain⟨t,e1,rv⟩:=d1.back ev;exact q t _ v H (Vst.look_own e1) Frm.refl ⟨vr.ro,vr.vs,vr.g1,vr.g2,vr.co,vr.su,by show s.own.length+(s.n - 1)<=1000000;lia,by show s.nt.length+(s.n - 1)<=1000000;lia⟩ rv (vr.g1.dep e1).1
 ·obtain⟨t,e1,rv⟩:=dr.back ev;have ft:Fits s.nt n t:=by
   cases z:zh s.nt n with
   | none=>exact .inl z
   | some u=>have:=vr.su n u z;rw[e1] at this;cases this;exact .inr z
  have en:=ro.no;have tk:Tups H (upd H dn (.dK (putK nvs (.inl n) v))):=Tups.upd λxs z=>by rw[en] at z;cases z
  have fr:Frm [dl,dn] H (upd H dn (.dK (putK nvs (.inl n) v))):=Frm.upd (by simp);obtain⟨gt,sn⟩:=vr.vs.gc.dep e1;have hal:=zdY s.nt n t;obtain⟨⟨dx,eo⟩,ed,_⟩:=id ro;obtain⟨⟨dy,fs,eok,flk⟩,edk⟩:=id vo;refine q t _ v _ (Vst.look_kp (non d1 e0) e1) fr ⟨⟨dl,dn,kvs,B,⟨⟨dx,?_⟩,?_,za⟩,d1.keep tk,(d2.keep tk).add (rv.keep tk) ft vr.g2.nd,ne,nk1,nk2⟩,⟨⟨kv,⟨⟨dy,fs,?_,flk⟩,?_⟩,dr.keep tk⟩,vr.vs.gc⟩,vr.g1,vr.g2.add gt sn,vr.co,λm u z=>?_,by show s.own.length+(s.n - 1)<=1000000;lia,by show(addT s.nt n t).length+(s.n - 1)<=1000000;lia⟩ (rv.keep tk) gt
  ·rw[zd (zL eo en (by intro z;cases z))];exact eo
  ·rw[zd ne];exact ed
  ·rw[zd (zL eok en (by intro z;cases z))];exact eok
  ·rw[zd nk2];exact edk
  ·rcases zaq z with z | ⟨rfl,rfl⟩
   ·exact vr.su m u z
   ·exact e1
 ·exact qe H (Vst.look_no (non d1 e0) (non dr ev)) Frm.refl vr
def zt2 (M:Mt P w K mg ax (CX1 P w) R "lay" 14 Si (zkv R C CC)):Mt P w K mg ax (CX1 P w) R "lay" 14 Si (zbV (VRd R C kp dk) CC):=Mt.imp M λvs H Q E h=>by
 obtain⟨a,D,s,t,v,rfl,vr,h0,rt,gt,q,qe⟩:=h;obtain⟨dl,dn,kvs,nvs,rfl,ro,d1,d2,ne,nk1,nk2⟩:=id vr.ro;obtain⟨kv,vo,dr⟩:=vr.vs.vo;have r1:=vr.r1;have r2:=vr.r2;have fits:∀{cs:QF}{kvs:QG},DRep H cs kvs->Alike H kvs t->Fits cs (zk t) t:=λd al=>by
  rename_i cs _;cases z:zh cs (zk t) with
  | none=>exact .inl z
  | some u=>obtain⟨y,ey,ry⟩:=d.some z;rw[al u y ey ry] at z;exact .inr z
 refine⟨a,dl,kp,dn,dk,kvs,nvs,kv,t,v,O,ro,vo,d1.laidOk vr.g1.gd,dr.laidOk vr.vs.gc.gd,by rw[d1.len];lia,rt,gt,λH' sm al1 al2=>?_,λt1 v1 H' sm e1 r1' g1 se nt H2 x s2 ex=>?_⟩
 ·have f1:=fits d1 al1;have f2:=fits dr al2;have ed':=sm _ _ ro.di;have tk:Tups H (upd H' dl (.dK (putK kvs (.inl (zk t)) v))):=(Same.ay sm).trans (Tups.upd λxs z=>by rw[ed'] at z;cases z);have fr:Frm [dl,dn] H (upd H' dl (.dK (putK kvs (.inl (zk t)) v))):=λb o n e=>by rw[zd (λz=>n (by rw[z];simp))];exact sm b o e
  obtain⟨⟨dx,eo⟩,ed,en⟩:=id ro;obtain⟨⟨dy,fs,eok,flk⟩,edk⟩:=id vo;have hal:=zdY s.own (zk t) t;refine q _ (zim ?_) fr ⟨⟨dl,dn,_,nvs,O,⟨⟨dx,?_⟩,za,?_⟩,(d1.keep tk).add (rt.keep tk) f1 vr.g1.nd,d2.keep tk,ne,nk1,nk2⟩,⟨⟨kv,⟨⟨dy,fs,?_,flk⟩,?_⟩,dr.keep tk⟩,vr.vs.gc⟩,vr.g1.add gt rfl,vr.g2,λm u u' z z'=>?_,vr.su,by show(addT s.own (zk t) t).length+(s.n - 1)<=1000000;lia,by show s.nt.length+(s.n - 1)<=1000000;lia⟩
  ·rcases f1 with f1 | f1
   ·rw[Vst.all_kp f1];exact f2
   ·rw[Vst.all_own f1];exact .inr rfl
  ·rw[zd (zL eo ed (by intro z;cases z))];exact sm _ _ eo
  ·rw[zd (aV ne)];exact sm _ _ en
  ·rw[zd (zL eok ed (by intro z;cases z))];exact sm _ _ eok
  ·rw[zd nk1];exact sm _ _ edk
  ·have z':zh s.kp m=Y u':=z';rcases zaq z with z | ⟨rfl,rfl⟩
   ·exact vr.co m u u' z z'
   ·rcases f2 with f2 | f2
    ·rw[f2] at z';cases z'
    ·rw[f2] at z';cases z';rfl
 ·have st:s.stop t=Y t1:=by
   rcases e1 with e1 | ⟨al,e1⟩
   ·obtain⟨t2,e2,r2'⟩:=d1.back e1;have e12:t2=t1:=(r2'.keep (Same.ay sm)).uniq r1';subst e12;exact zc8 (Vst.all_own e2) nt
   ·obtain⟨t2,e2,r2'⟩:=dr.back e1;have e12:t2=t1:=(r2'.keep (Same.ay sm)).uniq r1';subst e12;rcases fits d1 al with f1 | f1
    ·exact zc8 (by rw[Vst.all_kp f1];exact e2) nt
    ·have:=vr.co _ _ _ f1 e2;exact Jf this.symm nt
  exact qe t1 x v1 v H2 st (Frm.of λb o z=>s2 b o (sm b o z)) ((vi_R R C kp dk).same vr λb o z=>s2 b o (sm b o z)) (r1'.keep (Same.ay s2)) (rt.keep ((Same.ay sm).trans (Same.ay s2))) g1 gt nt se ex
end Pv
namespace Pv
open PySem L2
open Tr
theorem zcp:∀{n:Nat}{T:Tr},(down x n T).cnt<=T.cnt
 | 0,_=>Jb _
 | n+1,nil=>zcp (n:=n) (T:=nil)
 | n+1,node l k w r=>by
  have h:=zcp (x:=x) (n:=n) (T:=if zc k x=Z then r else l);show(down x n (if zc k x=Z then r else l)).cnt<=_;rw[zt];by_cases c:zc k x=Z
  ·rw[av c] at h ⊢;lia
  ·rw[au c] at h ⊢;lia
theorem zfg:∀{n:Nat}{T:Tr},(∀m,m < n->down x m T≠nil)->(spl x n T).1.cnt+(spl x n T).2.cnt=T.cnt
 | 0,T,_=>rfl
 | n+1,nil,h=>Jf rfl (h 0 (Nat.zero_lt_succ _))
 | n+1,node l k w r,h=>by
  have h':∀m,m < n->down x m (if zc k x=Z then r else l)≠nil:=λm hm=>h (m+1) (Jx hm);show(if zc k x=Z then(node l k w (spl x n r).1,(spl x n r).2) else((spl x n l).1,node (spl x n l).2 k w r)).1.cnt+(if zc k x=Z then(node l k w (spl x n r).1,(spl x n r).2) else((spl x n l).1,node (spl x n l).2 k w r)).2.cnt=_;by_cases c:zc k x=Z
  ·rw[av c] at h' ⊢;have:=zfg h';show(node l k w (spl x n r).1).cnt+(spl x n r).2.cnt=_;rw[zt,zt];lia
  ·rw[au c] at h' ⊢;have:=zfg h';show(spl x n l).1.cnt+(node (spl x n l).2 k w r).cnt=_;rw[zt,zt];lia
structure Go (A:Th->Prop)(j:Nat)(s s':Vst):Prop where
 kp:s'.kp=s.kp
 al:Sub s.all s'.all
 nt:∀n t,zh s'.nt n=Y t->zh s.nt n=Y t\/A t
 n:s.n<=s'.n+j
theorem Go.refl (s:Vst):Go A 0 s s:=⟨O,Sub.refl _,λ_ _ h=>.inl h,Jb _⟩
theorem Go.trans (g:Go A i s s')(g':Go A j s' s''):Go A (i+j) s s'':=
 ⟨g'.kp.trans g.kp,g.al.trans g'.al,λn t h=>by
  rcases g'.nt n t h with h | h
  ·exact g.nt n t h
  ·exact .inr h,by have:=g.n;have:=g'.n;lia⟩
theorem Go.mono {j:Nat}(g:Go A i s s')(h:i<=j):Go A j s s':=⟨g.kp,g.al,g.nt,by have:=g.n;lia⟩
def zoh {s:Vst}{t:Th}{A:Th->Prop}(h:zh s.all n=Y t)(hA:A t)(h0:0 < s.n):∃s',s.look n=Y (t,s')/\Go A 1 s s'/\s'.own=s.own:=by
 cases z:zh s.own n with
 | some u=>rw[Vst.all_own z] at h;cases h;exact⟨_,Vst.look_own z,⟨O,Sub.refl _,λ_ _ h=>.inl h,by show s.n<=s.n - 1+1;lia⟩,O⟩
 | none=>
  rw[Vst.all_kp z] at h;refine⟨_,Vst.look_kp z h,⟨O,Sub.refl _,λm u y=>?_,by show s.n<=s.n - 1+1;lia⟩,O⟩;rcases zaq y with y | ⟨_,rfl⟩
  ·exact .inl y
  ·exact .inr hA
def ndT (l:Tr)(k w:Th)(r:Tr):Nd:=⟨k,w,l.root,r.root,(((l.ps++(k,w)::r.ps).length:Nat):Int)⟩
theorem zs6 {m:Int}(kw:KeyT k/\KeyT w)(c3:(node l k w r).cnt<=300)(hm:((node l k w r).cnt:Int) < m):benK m (node l k w r).thing=.ret (ndT l k w r):=by have ok:=(za4 kw.1 kw.2 c3).1;have e:ndOf (node l k w r).thing=Y (ndT l k w r):=zk7 (nd:=ndT l k w r) (ztc (nd:=ndT l k w r) ok);rw[zc9 e,av (show(ndT l k w r).c < m from hm)]
def zcS {A:Th->Prop}{m:Int}{s:Vst}{q:Nd->Vst->Prop}{e:Er->Vst->Prop}(tk:TOk s.all (node l k w r))(hm:((node l k w r).cnt:Int) < m)(h0:0 < s.n)(hA:A (node l k w r).thing)(h:∀s',Go A 1 s s'->s'.own=s.own->q (ndT l k w r) s'):(benP (node l k w r).root m).wp s q e:=by
 obtain⟨s',e1,g,eo⟩:=zoh tk.iv.1 hA h0;refine⟨h0,λt s2 z=>?_,λz=>?_⟩
 ·rw[e1] at z;cases z;rw[zs6 tk.kw tk.ct hm];exact h _ g eo
 ·rw[e1] at z;cases z
def wayN (x:Th):Tr->List Nd
 | nil=>[]
 | node l k w r=>ndT l k w r::(if k=x then[] else if zc k x=Z then wayN x r else wayN x l)
theorem zlo {x:Th}{k:Th}(h:k≠x):wayN x (node l k w r)=ndT l k w r::wayN x ((node l k w r).kid x):=by
 show ndT l k w r::(if k=x then[] else if zc k x=Z then wayN x r else wayN x l)=ndT l k w r::wayN x (if zc k x=Z then r else l);rw[au h];by_cases c:zc k x=Z
 ·rw[av c,av c]
 ·rw[au c,au c]
def zlv {x:Th}:((node l k w r).kid x).cnt+1<=(node l k w r).cnt:=by have:=zt l k w r;show(if zc k x=Z then r else l).cnt+1<=_;split <;> lia
theorem zoU:kidI (ndT l k w r) x=((node l k w r).kid x).root:=by show(if zc k x=Z then r.root else l.root)=(if zc k x=Z then r else l).root;split <;> rfl
def TOk.go {s:Vst}(t:TOk s.all T)(g:Go A j s s'):TOk s'.all T:=t.mono g.al
def zhA {A:Th->Prop}{x:Th}{e:Er->Vst->Prop}:∀{T:Tr}{f:Nat}{m:Int}{s:Vst}{q:List Nd->Vst->Prop},TOk s.all T->T.cnt < f->(T.cnt:Int) < m->T.cnt<=s.n->(∀nd∈wayN x T,A nd.th)->(∀s',Go A T.cnt s s'->s'.own=s.own->q (wayN x T) s')->(wayP x f T.root m).wp s q e:=by
 intro T f
 induction f generalizing T with
 | zero=>intro m s q _ h;exact Jf h (Jv _)
 | succ f ih=>
 intro m s q tk hf hm hn hA h;cases T with
 | nil=>unfold wayP;rw[av (show(Tr.nil).root=0 from rfl)];exact h s (Go.refl s) rfl
 | node l k w r=>
  have kc:=zlv (x:=x) (l:=l) (r:=r) (k:=k) (w:=w);unfold wayP;rw[au (λz=>by cases zaH.mp z),Pg.az];refine zcS (A:=A) tk hm () (hA _ JO) λs1 g1 o1=>?_;by_cases ek:k=x
  ·rw[av (show(ndT l k w r).k=x from ek)];have e1:wayN x (node l k w r)=[ndT l k w r]:=by show _::(if k=x then[] else _)=_;rw[av ek]
   rw[e1] at h;exact h s1 (g1.mono ()) o1
  ·rw[au (show¬(ndT l k w r).k=x from ek),Pg.az,zoU];rw[zlo ek] at hA h;have gn:=g1.n;refine ih (T:=(node l k w r).kid x) (tk.go g1).kid () (by show _ < (((l.ps++(k,w)::r.ps).length:Nat):Int);have:(l.ps++(k,w)::r.ps).length=(node l k w r).cnt:=rfl;lia) () (λnd hnd=>hA nd (Jj _ hnd)) λs2 g2 o2=>?_;exact h s2 ((g1.trans g2).mono ()) (o2.trans o1)
def zp4 {s:Vst}{t:Th}(h:s.stop t=U):Sub s.all (s.add t).all/\zh (s.add t).all (zk t)=Y t:=by
 have h':=zg5 h;have key:zh (s.add t).all (zk t)=Y t:=by
  show zh (addT s.own (zk t) t++s.kp) (zk t)=Y t;rw[zcX];cases z:zh s.own (zk t) with
  | none=>rw[zas (.inl z)];rfl
  | some u=>
   rw[Vst.all_own z] at h';rcases h' with h' | h'
   ·cases h'
   ·cases h';rw[zas (.inr z)];rfl
 refine⟨λn u e=>?_,key⟩;show zh (addT s.own (zk t) t++s.kp) n=Y u;rw[zcX];cases z:zh s.own n with
 | some v=>rw[Vst.all_own z] at e;cases e;rw[za9 z];rfl
 | none=>
  rw[Vst.all_kp z] at e;cases y:zh (addT s.own (zk t) t) n with
  | none=>exact e
  | some v=>
   rcases zaq y with y | ⟨rfl,rfl⟩
   ·rw[z] at y;cases y
   ·rw[Vst.all_kp z,e] at h';rcases h' with h' | h'
    ·cases h'
    ·exact h'.symm
def zbu {t:Th}{k:Pg α}{s:Vst}{q:α->Vst->Prop}{e:Er->Vst->Prop}(h0:0 < s.n)(g:Good t)(hc:∀u t s',e (.clash u t) s')(h:∀s',Go A 1 s s'->zh s'.all (zk t)=Y t->k.wp s' q e):(Pg.lay t k).wp s q e:=by refine⟨h0,g,λz=>?_,λu _=>hc u t s⟩;obtain⟨a,b⟩:=zp4 z;exact h _ ⟨O,a,λ_ _ h=>.inl h,by show s.n<=s.n - 1+1;lia⟩ b
def wayT (x:Th):Nat->Tr->List Nd
 | 0,_=>[]
 | _+1,nil=>[]
 | n+1,node l k w r=>ndT l k w r::wayT x n ((node l k w r).kid x)
theorem zbI:∀{T:Tr},wayN x T=wayT x (wl x T) T
 | nil=>rfl
 | node l k w r=>by
  by_cases ek:k=x
  ·have e1:wl x (node l k w r)=1:=by show(if k=x then 1 else _)=1;rw[av ek]
   rw[e1];show _::(if k=x then[] else _)=_;rw[av ek];rfl
  ·have e1:wl x (node l k w r)=wl x ((node l k w r).kid x)+1:=by show(if k=x then 1 else(if zc k x=Z then r.wl x else l.wl x)+1)=wl x (if zc k x=Z then r else l)+1;rw[au ek];split <;> rfl
   rw[e1,zlo ek];show _=ndT l k w r::wayT x (wl x ((node l k w r).kid x)) ((node l k w r).kid x);congr 1;show wayN x (if zc k x=Z then r else l)=wayT x (wl x (if zc k x=Z then r else l)) (if zc k x=Z then r else l);by_cases c:zc k x=Z
   ·rw[av c];exact zbI
   ·rw[au c];exact zbI
theorem zg0:∀{m n:Nat}{T:Tr},m<=n->(wayT x n T).take m=wayT x m T
 | 0,_,_,_=>by rw[List.take_zero];rfl
 | m+1,0,_,h=>Jf h (Nat.not_succ_le_zero m)
 | m+1,n+1,nil,_=>rfl
 | m+1,n+1,node l k w r,h=>congrArg (ndT l k w r:: ·) (zg0 (Nat.le_of_succ_le_succ h))
theorem zg4:∀{m n:Nat}{T:Tr},m<=n->(wayT x n T).drop m=wayT x (n - m) (down x m T)
 | 0,n,_,_=>rfl
 | m+1,0,_,h=>Jf h (Nat.not_succ_le_zero m)
 | m+1,n+1,nil,h=>by
  have e:wayT x (n+1) nil=[]:=rfl;rw[e,List.drop_nil];have:∀(j i:Nat),wayT x i (down x j nil)=[]:=λj=>by
   induction j with
   | zero=>intro i;cases i <;> rfl
   | succ j ih=>exact ih
  exact(this (m+1) _).symm
 | m+1,n+1,node l k w r,h=>by show(wayT x n ((node l k w r).kid x)).drop m=wayT x (n+1 - (m+1)) (down x m ((node l k w r).kid x));rw[zg4 (Nat.le_of_succ_le_succ h),Nat.succ_sub_succ]
theorem zg6:∀{a b:List Nd}{n:Int},zaY x more (a++b) n=(zaY x more a n).bind (zaY x more b)
 | [],_,_=>rfl
 | nd::a,b,n=>by show Pg.lay _ (zaY x more (a++b) _)=Pg.lay _ ((zaY x more a _).bind _);rw[zg6]
theorem zfb {e:Er->Vst->Prop}(hc:∀u t s',e (.clash u t) s'){more:Int}:∀{n:Nat}{T S:Tr}{s:Vst}{q:Int->Vst->Prop},TOk s.all T->S.InV s.all->(∀m,m < n->down x m T≠nil)->T.cnt+S.cnt<=300+(down x n T).cnt->more=(S.cnt:Int) - ((down x n T).cnt:Int)->n<=s.n->
  (∀s',Go A n s s'->(plug x n T S).InV s'.all->q (plug x n T S).root s')->(zaY x more (wayT x n T).reverse S.root).wp s q e
 | 0,T,S,s,q,_,iS,_,_,_,_,h=>h s (Go.refl s) iS
 | n+1,nil,_,_,_,_,_,nn,_,_,_,_=>Jf rfl (nn 0 (Nat.zero_lt_succ _))
 | n+1,node l k w r,S,s,q,tk,iS,nn,h3,hm,hn,h=>by
  have kc:=zlv (x:=x) (l:=l) (r:=r) (k:=k) (w:=w);show(zaY x more (ndT l k w r::wayT x n ((node l k w r).kid x)).reverse S.root).wp s q e;have hd:down x (n+1) (node l k w r)=down x n ((node l k w r).kid x):=rfl;rw[hd] at h3 hm;rw[Nr,zg6,Pg.az];refine zfb (A:=A) hc (n:=n) (T:=(node l k w r).kid x) tk.kid iS (λm hm=>nn (m+1) (Jx hm)) () hm () λs1 g1 i1=>?_;have pc:=zf5 (x:=x) (n:=n) (T:=(node l k w r).kid x) (S:=S) (λm hm=>nn (m+1) (Jx hm));have tk1:=tk.go g1;have gn:=g1.n;have cn:=zt l k w r;generalize hP:plug x n ((node l k w r).kid x) S=Pj at pc i1;have hnew:plug x (n+1) (node l k w r) S=if zc k x=Z then node l k w Pj else node Pj k w r:=by
   show(if zc k x=Z then node l k w (plug x n r S) else node (plug x n l S) k w r)=_;by_cases c:zc k x=Z
   ·have e1:(node l k w r).kid x=r:=av c;rw[e1] at hP;rw[av c,av c,hP]
   ·have e1:(node l k w r).kid x=l:=au c;rw[e1] at hP;rw[au c,au c,hP]
  rw[hnew] at h;have hlen:(l.ps++(k,w)::r.ps).length=(node l k w r).cnt:=rfl;by_cases c:zc k x=Z
  ·rw[av c] at h;have e1:(node l k w r).kid x=r:=av c;rw[e1] at pc h3 hm;have cn2:=zt l k w Pj;have et:(zW (ndT l k w r) (zcj (ndT l k w r).k x) Pj.root ((ndT l k w r).c+more)).th=(node l k w Pj).thing:=by have e3:zcj (ndT l k w r).k x=3:=av c;rw[e3];show zaC k w l.root Pj.root ((((l.ps++(k,w)::r.ps).length:Nat):Int)+more)=zaC k w l.root Pj.root (((l.ps++(k,w)::Pj.ps).length:Nat):Int);have:(l.ps++(k,w)::Pj.ps).length=(node l k w Pj).cnt:=rfl;rw[show(((l.ps++(k,w)::r.ps).length:Nat):Int)+more=(((l.ps++(k,w)::Pj.ps).length:Nat):Int) by lia]
   show(Pg.lay _ (Pg.ret _)).wp s1 q e;rw[et];refine zbu (A:=A) () (za4 tk.kw.1 tk.kw.2 ()).2 hc λs2 g2 e2=>?_;exact h s2 ((g1.trans g2).mono (Jb _)) ⟨e2,(tk1.go g2).l.iv,InV.mono g2.al i1⟩
  ·rw[au c] at h;have e1:(node l k w r).kid x=l:=au c;rw[e1] at pc h3 hm;have cn2:=zt Pj k w r;have et:(zW (ndT l k w r) (zcj (ndT l k w r).k x) Pj.root ((ndT l k w r).c+more)).th=(node Pj k w r).thing:=by have e3:zcj (ndT l k w r).k x=2:=au c;rw[e3];show zaC k w Pj.root r.root ((((l.ps++(k,w)::r.ps).length:Nat):Int)+more)=zaC k w Pj.root r.root (((Pj.ps++(k,w)::r.ps).length:Nat):Int);have:(Pj.ps++(k,w)::r.ps).length=(node Pj k w r).cnt:=rfl;rw[show(((l.ps++(k,w)::r.ps).length:Nat):Int)+more=(((Pj.ps++(k,w)::r.ps).length:Nat):Int) by lia]
   show(Pg.lay _ (Pg.ret _)).wp s1 q e;rw[et];refine zbu (A:=A) () (za4 tk.kw.1 tk.kw.2 ()).2 hc λs2 g2 e2=>?_;exact h s2 ((g1.trans g2).mono (Jb _)) ⟨e2,InV.mono g2.al i1,(tk1.go g2).r.iv⟩
def zbM (x:Th):List Nd->Int->Int->Int->Int->Pg (Int ×Int ×Int ×Int)
 | [],l,lc,r,rc=>.ret (l,lc,r,rc)
 | nd::t,l,lc,r,rc=>if zc nd.k x=Z then .lay (zW nd 3 l (nd.c - rc)).th (zbM x t (zk (zW nd 3 l (nd.c - rc)).th) (nd.c - rc) r rc)
  else .lay (zW nd 2 r (nd.c - lc)).th (zbM x t l lc (zk (zW nd 2 r (nd.c - lc)).th) (nd.c - lc))
theorem zfN:∀{a:List Nd}{l lc r rc:Int},zeT x a l lc r rc=(zbM x a l lc r rc).bind λy=>.ret (y.1,y.2.2.1)
 | [],_,_,_,_=>rfl
 | nd::a,l,lc,r,rc=>by
  unfold zeT zbM;split
  ·show Pg.lay _ _=Pg.lay _ _;rw[zfN]
  ·show Pg.lay _ _=Pg.lay _ _;rw[zfN]
theorem ziS {nd:Nd}{a:List Nd}(h:zc nd.k x=Z):zbM x (nd::a) l lc r rc=.lay (zW nd 3 l (nd.c - rc)).th (zbM x a (zk (zW nd 3 l (nd.c - rc)).th) (nd.c - rc) r rc):=av h
theorem ziR {nd:Nd}{a:List Nd}(h:¬zc nd.k x=Z):zbM x (nd::a) l lc r rc=.lay (zW nd 2 r (nd.c - lc)).th (zbM x a l lc (zk (zW nd 2 r (nd.c - lc)).th) (nd.c - lc)):=au h
theorem zeG:∀{a b:List Nd}{l lc r rc:Int},zbM x (a++b) l lc r rc=(zbM x a l lc r rc).bind λy=>zbM x b y.1 y.2.1 y.2.2.1 y.2.2.2
 | [],_,_,_,_,_=>rfl
 | nd::a,b,l,lc,r,rc=>by
  by_cases c:zc nd.k x=Z
  ·rw[Ni,ziS c,ziS c,zeG];rfl
  ·rw[Ni,ziR c,ziR c,zeG];rfl
theorem zlT {e:Er->Vst->Prop}(hc:∀u t s',e (.clash u t) s'):∀{n:Nat}{T:Tr}{s:Vst}{q:Int ×Int ×Int ×Int->Vst->Prop},TOk s.all T->(∀m,m < n->down x m T≠nil)->n<=s.n->
  (∀s',Go A n s s'->(spl x n T).1.InV s'.all->(spl x n T).2.InV s'.all->q ((spl x n T).1.root,((spl x n T).1.cnt:Int),(spl x n T).2.root,((spl x n T).2.cnt:Int)) s')->(zbM x (wayT x n T).reverse (down x n T).root ((down x n T).cnt:Int) 0 0).wp s q e
 | 0,T,s,q,tk,_,_,h=>h s (Go.refl s) tk.iv trivial
 | n+1,nil,_,_,_,nn,_,_=>Jf rfl (nn 0 (Nat.zero_lt_succ _))
 | n+1,node l k w r,s,q,tk,nn,hn,h=>by
  have hd:down x (n+1) (node l k w r)=down x n ((node l k w r).kid x):=rfl;rw[hd];show(zbM x (ndT l k w r::wayT x n ((node l k w r).kid x)).reverse _ _ 0 0).wp s q e;rw[Nr,zeG,Pg.az];have sc:=zfg (x:=x) (n:=n) (T:=(node l k w r).kid x) (λm hm=>nn (m+1) (Jx hm));refine zlT (A:=A) hc (n:=n) (T:=(node l k w r).kid x) tk.kid (λm hm=>nn (m+1) (Jx hm)) () λs1 g1 i1 i2=>?_;have tk1:=tk.go g1;have gn:=g1.n;have cn:=zt l k w r;have ct:=tk.ct;have hlen:(l.ps++(k,w)::r.ps).length=(node l k w r).cnt:=rfl;have hnew:spl x (n+1) (node l k w r)=if zc k x=Z then(node l k w (spl x n ((node l k w r).kid x)).1,(spl x n ((node l k w r).kid x)).2) else((spl x n ((node l k w r).kid x)).1,node (spl x n ((node l k w r).kid x)).2 k w r):=by
   show(if zc k x=Z then(node l k w (spl x n r).1,(spl x n r).2) else((spl x n l).1,node (spl x n l).2 k w r))=_;by_cases c:zc k x=Z
   ·have e1:(node l k w r).kid x=r:=av c;rw[e1,av c,av c]
   ·have e1:(node l k w r).kid x=l:=au c;rw[e1,au c,au c]
  rw[hnew] at h;generalize(spl x n ((node l k w r).kid x)).1=L at sc i1 h ⊢;generalize(spl x n ((node l k w r).kid x)).2=R at sc i2 h ⊢;show(if zc k x=Z then Pg.lay (zW (ndT l k w r) 3 L.root ((ndT l k w r).c - (R.cnt:Int))).th (Pg.ret (_,_,R.root,(R.cnt:Int))) else Pg.lay (zW (ndT l k w r) 2 R.root ((ndT l k w r).c - (L.cnt:Int))).th (Pg.ret (L.root,(L.cnt:Int),_,_))).wp s1 q e;by_cases c:zc k x=Z
  ·rw[av c] at h ⊢;have e1:(node l k w r).kid x=r:=av c;rw[e1] at sc;have cn2:=zt l k w L;have hl2:(l.ps++(k,w)::L.ps).length=(node l k w L).cnt:=rfl;have ec:(ndT l k w r).c - (R.cnt:Int)=((node l k w L).cnt:Int):=by show(((l.ps++(k,w)::r.ps).length:Nat):Int) - _=_;lia
   rw[ec];have et:(zW (ndT l k w r) 3 L.root ((node l k w L).cnt:Int)).th=(node l k w L).thing:=rfl;rw[et];refine zbu (A:=A) () (za4 tk.kw.1 tk.kw.2 ()).2 hc λs2 g2 e2=>?_;exact h s2 (g1.trans g2) ⟨e2,(tk1.go g2).l.iv,InV.mono g2.al i1⟩ (InV.mono g2.al i2)
  ·rw[au c] at h ⊢;have e1:(node l k w r).kid x=l:=au c;rw[e1] at sc;have cn2:=zt R k w r;have hl2:(R.ps++(k,w)::r.ps).length=(node R k w r).cnt:=rfl;have ec:(ndT l k w r).c - (L.cnt:Int)=((node R k w r).cnt:Int):=by show(((l.ps++(k,w)::r.ps).length:Nat):Int) - _=_;lia
   rw[ec];have et:(zW (ndT l k w r) 2 R.root ((node R k w r).cnt:Int)).th=(node R k w r).thing:=rfl;rw[et];refine zbu (A:=A) () (za4 tk.kw.1 tk.kw.2 ()).2 hc λs2 g2 e2=>?_;exact h s2 (g1.trans g2) (InV.mono g2.al i1) ⟨e2,InV.mono g2.al i2,(tk1.go g2).r.iv⟩
theorem zeu:∀{n:Nat}{T l r:Tr}{k w:Th},down x n T=node l k w r->(∀m,m < n->down x m T≠nil)->wayT x (n+1) T=wayT x n T++ [ndT l k w r]
 | 0,node l' k' w' r',l,r,k,w,e,_=>by cases e;rfl
 | 0,nil,_,_,_,_,e,_=>by cases e
 | n+1,nil,_,_,_,_,_,h=>Jf rfl (h 0 (Nat.zero_lt_succ _))
 | n+1,node l' k' w' r',l,r,k,w,e,h=>congrArg (ndT l' k' w' r':: ·) (zeu (n:=n) (T:=(node l' k' w' r').kid x) e λm hm=>h (m+1) (Jx hm))
theorem zdH {x:Th}:∀{T:Tr},own x T=nil->∀nd∈wayN x T,nd.k≠x
 | nil,_,nd,h=>by cases h
 | node l k w r,h,nd,hn=>by
  unfold own at h;by_cases e:k=x
  ·rw[av e] at h;cases h
  ·rw[au e] at h;have hn':nd∈ndT l k w r::(if k=x then[] else if zc k x=Z then wayN x r else wayN x l):=hn;rw[au e] at hn';rcases JJ.mp hn' with rfl | hn'
   ·exact e
   ·by_cases c:zc k x=Z
    ·rw[av c] at h hn';exact zdH h nd hn'
    ·rw[au c] at h hn';exact zdH h nd hn'
theorem zez:∀{T:Tr},own x T=nil->zap x (wayN x T)=plc x T
 | nil,_=>rfl
 | node l k w r,h=>by
  unfold own at h;by_cases e:k=x
  ·rw[av e] at h;cases h
  ·rw[au e] at h;show(if zab x k=Z then 0 else zap x (if k=x then[] else if zc k x=Z then wayN x r else wayN x l)+1)=(if zab x k=Z then 0 else(if zc k x=Z then r.plc x else l.plc x)+1);rw[au e];by_cases c:zc k x=Z
   ·rw[av c] at h;rw[av c,av c,zez h]
   ·rw[au c] at h;rw[au c,au c,zez h]
theorem znr:∀{n i:Nat}{T:Tr},i<=n->(∀m,m < n->down x m T≠nil)->down x n T=nil->zd9 (wayT x n T) i=((down x i T).cnt:Int)
 | 0,0,T,_,_,e=>by have e':T=nil:=e;subst e';rfl
 | 0,i+1,_,h,_,_=>Jf h (Nat.not_succ_le_zero i)
 | n+1,_,nil,_,h,_=>Jf rfl (h 0 (Nat.zero_lt_succ _))
 | n+1,0,node l k w r,_,_,_=>rfl
 | n+1,i+1,node l k w r,hi,h,e=>znr (n:=n) (i:=i) (T:=(node l k w r).kid x) (Nat.le_of_succ_le_succ hi) (λm hm=>h (m+1) (Jx hm)) e
def zo0 {A:Th->Prop}{x wo:Th}{e:Er->Vst->Prop}(hc:∀u t s',e (.clash u t) s'){T:Tr}{s:Vst}{q:Int->Vst->Prop}(tk:TOk s.all T)(c9:T.cnt<=299)(kx:KeyT x)(kw:KeyT wo)(hn:1000<=s.n)(hA:∀nd∈wayN x T,A nd.th)(h:∀s',Go A 1000 s s'->(putT x wo T).InV s'.all->q (putT x wo T).root s'):(putP T.root x wo).wp s q e:=by
 unfold putP;rw[Pg.az];refine zhA (A:=A) tk () () () hA λs1 g1 _=>?_;have tk1:=tk.go g1;have gn:=g1.n;have hwl:=zlQ (x:=x) T;cases z:own x T with
 | node l k w r=>
  obtain⟨rfl,n,ewl,up,ed⟩:=zbP z;have ew:wayN k T=wayT k n T++ [ndT l k w r]:=by rw[zbI,ewl,zeu ed (up_down up)]
  have ek:zdD k wo (wayN k T)=putO k wo (wayN k T) (ndT l k w r):=by unfold zdD;rw[ew,Nk];exact av rfl
  rw[ek];unfold putO;rw[ew,List.dropLast_concat];have hlen:(l.ps++(k,w)::r.ps).length=(l.ps++(k,wo)::r.ps).length:=by simp
  have et:(Nd.mk k wo (ndT l k w r).l (ndT l k w r).r (ndT l k w r).c).th=(node l k wo r).thing:=by show zaC k wo l.root r.root (((l.ps++(k,w)::r.ps).length:Nat):Int)=zaC k wo l.root r.root (((l.ps++(k,wo)::r.ps).length:Nat):Int);rw[hlen]
  rw[et];have hcn:(node l k wo r).cnt=(node l k w r).cnt:=by rw[zt,zt]
  have hdc:(node l k w r).cnt<=T.cnt:=by rw[<-ed];exact zcp
  have td:=tk1.down (x:=k) (n:=n);rw[ed] at td;refine zbu (A:=A) () (za4 kx kw ()).2 hc λs2 g2 e2=>?_;have gn2:=g2.n;have ep:putT k wo T=plug k n T (node l k wo r):=by unfold putT;rw[z,ewl,Nat.add_sub_cancel]
  rw[ep] at h;exact zfb (A:=A) hc (S:=node l k wo r) (tk1.go g2) ⟨e2,(td.go g2).l.iv,(td.go g2).r.iv⟩ (up_down up) (by rw[ed,hcn];lia) (by rw[ed,hcn];lia) () λs3 g3 i3=>h s3 ((g1.trans (g2.trans g3)).mono ()) i3
 | nil=>
  obtain⟨up,dn⟩:=zeb z;have hpl:=zit z;have ek:zdD x wo (wayN x T)=putN x wo (wayN x T):=by
   unfold zdD;cases y:(wayN x T).getLast? with
   | none=>rfl
   | some nd=>exact au (zdH z nd (List.mem_of_getLast? y))
  rw[ek];unfold putN;rw[zez z,zfN];generalize hp:plc x T=pl at hpl;have hdn:down x (wl x T - pl) (down x pl T)=nil:=by rw[<-zfR,show pl+(wl x T - pl)=wl x T by lia];exact dn
  have hnn:∀m,m < wl x T - pl->down x m (down x pl T)≠nil:=λm hm=>by rw[<-zfR];exact up_down up _ ()
  have ecn:zd9 (wayN x T) pl=((down x pl T).cnt:Int):=by rw[zbI];exact znr hpl (up_down up) dn
  rw[ecn,zbI,zg4 hpl,zg0 hpl,Pg.az,Pg.az];have hdc:(down x pl T).cnt<=T.cnt:=zcp;have hsc:=zfg hnn;have key:=zlT (A:=A) (x:=x) (e:=e) hc (n:=wl x T - pl) (T:=down x pl T) (s:=s1) (q:=λy s'=>(Pg.ret (y.1,y.2.2.1)).wp s' (λlr s'=>(Pg.lay (Nd.mk x wo lr.1 lr.2 (((down x pl T).cnt:Int)+1)).th (zaY x 1 (wayT x pl T).reverse (zk (Nd.mk x wo lr.1 lr.2 (((down x pl T).cnt:Int)+1)).th))).wp s' q e) e) tk1.down hnn ();rw[hdn] at key;refine key λs2 g2 i1 i2=>?_;clear key;have gn2:=g2.n;have hpq:putT x wo T=plug x pl T (node (spl x (wl x T - pl) (down x pl T)).1 x wo (spl x (wl x T - pl) (down x pl T)).2):=by unfold putT;rw[z,hp]
  rw[hpq] at h;generalize(spl x (wl x T - pl) (down x pl T)).1=L at i1 hsc h ⊢;generalize(spl x (wl x T - pl) (down x pl T)).2=R at i2 hsc h ⊢;have hcn:=zt L x wo R;have et:(Nd.mk x wo L.root R.root (((down x pl T).cnt:Int)+1)).th=(node L x wo R).thing:=by show zaC x wo L.root R.root (((down x pl T).cnt:Int)+1)=zaC x wo L.root R.root (((L.ps++(x,wo)::R.ps).length:Nat):Int);have:(L.ps++(x,wo)::R.ps).length=(node L x wo R).cnt:=rfl;rw[show((down x pl T).cnt:Int)+1=(((L.ps++(x,wo)::R.ps).length:Nat):Int) by lia]
  show(Pg.lay (Nd.mk x wo L.root R.root (((down x pl T).cnt:Int)+1)).th (zaY x 1 (wayT x pl T).reverse (zk (Nd.mk x wo L.root R.root (((down x pl T).cnt:Int)+1)).th))).wp s2 q e;rw[et];refine zbu (A:=A) () (za4 kx kw ()).2 hc λs3 g3 e3=>?_;have gn3:=g3.n;exact zfb (A:=A) hc (S:=node L x wo R) ((tk1.go g2).go g3) ⟨e3,InV.mono g3.al i1,InV.mono g3.al i2⟩ (up_down (zhH up hpl)) () () () λs4 g4 i4=>h s4 ((g1.trans (g2.trans (g3.trans g4))).mono ()) i4
def zhl:Tr->List Nd
 | nil=>[]
 | node l k w r=>ndT l k w r::zhl r
def zho:Tr->List Nd
 | nil=>[]
 | node l k w r=>ndT l k w r::zho l
theorem zii:∀{a b:List Js}{n:Int},upP (a++b) n=(upP a n).bind (upP b)
 | [],_,_=>rfl
 | j::a,b,n=>by show Pg.lay _ (upP (a++b) _)=Pg.lay _ ((upP a _).bind _);rw[zii]
def zfA (L R:Tr):(joinT L R).cnt=L.cnt+R.cnt:=by unfold Tr.cnt;rw[ze9,JF]
def zqZ {A:Th->Prop}{e:Er->Vst->Prop}(hc:∀u t s',e (.clash u t) s'):∀{f:Nat}{L R:Tr}{lc rc:Int}{s:Vst}{q:Int->Vst->Prop},TOk s.all L->TOk s.all R->(L.cnt:Int) < lc->(R.cnt:Int) < rc->L.cnt+R.cnt<=300->L.cnt+R.cnt < f->3 * (L.cnt+R.cnt)<=s.n->(∀nd∈zhl L,A nd.th)->(∀nd∈zho R,A nd.th)->
  (∀s',Go A (3 * (L.cnt+R.cnt)) s s'->(joinT L R).InV s'.all->q (joinT L R).root s')->(joinR f L.root lc R.root rc).wp s (λy s'=>(upP y.1.reverse y.2).wp s' q e) e:=by
 intro f
 induction f with
 | zero=>intro L R lc rc s q _ _ _ _ _ h;exact Jf h (Jv _)
 | succ f ih=>
 intro L R lc rc s q tl tr hl hr h3 hf hn hA hB h;cases L with
 | nil=>
  unfold joinR;rw[av (show(Tr.nil).root=0 from rfl)];have ej:joinT nil R=R:=by rw[joinT]
  rw[ej] at h;exact h s ((Go.refl s).mono (JN _)) tr.iv
 | node l k w r=>cases R with
  | nil=>unfold joinR;rw[au (λz=>by cases zaH.mp z),av (show(Tr.nil).root=0 from rfl)];rw[zmi] at h;exact h s ((Go.refl s).mono (JN _)) tl.iv
  | node l' k' w' r'=>
   have c1:=zt l k w r;have c2:=zt l' k' w' r';unfold joinR;rw[au (λz=>by cases zaH.mp z),au (λz=>by cases zaH.mp z),Pg.az];refine zcS (A:=A) tl hl () (hA _ JO) λs1 g1 _=>?_;have n1:=g1.n;rw[Pg.az];refine zcS (A:=A) (tr.go g1) hr () (hB _ JO) λs2 g2 _=>?_;have n2:=g2.n;have g12:=g1.trans g2;have tl2:=tl.go g12;have tr2:=tr.go g12;have hb:(ndT l k w r).c+(ndT l' k' w' r').c=(((node l k w r).cnt+(node l' k' w' r').cnt:Nat):Int):=by show(((l.ps++(k,w)::r.ps).length:Nat):Int)+(((l'.ps++(k',w')::r'.ps).length:Nat):Int)=_;have:(l.ps++(k,w)::r.ps).length=(node l k w r).cnt:=rfl;have:(l'.ps++(k',w')::r'.ps).length=(node l' k' w' r').cnt:=rfl;lia
   by_cases c:zab k k'=Z
   ·rw[av (show zab (ndT l k w r).k (ndT l' k' w' r').k=Z from c),Pg.az];have ej:joinT (node l k w r) (node l' k' w' r')=node l k w (joinT r (node l' k' w' r')):=by rw[joinT,av c]
    rw[ej] at h;have jc:=zfA r (node l' k' w' r');have cn:=zt l k w (joinT r (node l' k' w' r'));have key:=ih (L:=r) (R:=node l' k' w' r') (lc:=(ndT l k w r).c) (rc:=rc) (s:=s2) (q:=λn s'=>(upP [⟨ndT l k w r,3,(ndT l k w r).c+(ndT l' k' w' r').c⟩] n).wp s' q e) tl2.r tr2
     (by show(r.cnt:Int) < (((l.ps++(k,w)::r.ps).length:Nat):Int);have:(l.ps++(k,w)::r.ps).length=(node l k w r).cnt:=rfl;lia) hr () () () (λnd hd=>hA nd (Jj _ hd)) hB
    refine Pg.aA (λy s' z=>?_) (λ_ _ z=>z) (key λs3 g3 i3=>?_)
    ·show(upP (_::y.1).reverse y.2).wp s' q e;rw[Nr,zii,Pg.az];exact z
    ·have n3:=g3.n;show(Pg.lay (zW (ndT l k w r) 3 (joinT r (node l' k' w' r')).root ((ndT l k w r).c+(ndT l' k' w' r').c)).th (Pg.ret _)).wp s3 q e;have et:(zW (ndT l k w r) 3 (joinT r (node l' k' w' r')).root ((ndT l k w r).c+(ndT l' k' w' r').c)).th=(node l k w (joinT r (node l' k' w' r'))).thing:=by
      rw[hb];show zaC k w l.root _ (((node l k w r).cnt+(node l' k' w' r').cnt:Nat):Int)=zaC k w l.root _ (((l.ps++(k,w)::(joinT r (node l' k' w' r')).ps).length:Nat):Int);have:(l.ps++(k,w)::(joinT r (node l' k' w' r')).ps).length=(node l k w (joinT r (node l' k' w' r'))).cnt:=rfl;rw[show(node l k w r).cnt+(node l' k' w' r').cnt=(l.ps++(k,w)::(joinT r (node l' k' w' r')).ps).length by lia]
      rfl
     rw[et];refine zbu (A:=A) () (za4 tl.kw.1 tl.kw.2 ()).2 hc λs4 g4 e4=>?_;exact h s4 ((g12.trans (g3.trans g4)).mono ()) ⟨e4,((tl2.go g3).go g4).l.iv,InV.mono g4.al i3⟩
   ·rw[au (show¬zab (ndT l k w r).k (ndT l' k' w' r').k=Z from c),Pg.az];have ej:joinT (node l k w r) (node l' k' w' r')=node (joinT (node l k w r) l') k' w' r':=by rw[joinT,au c]
    rw[ej] at h;have jc:=zfA (node l k w r) l';have cn:=zt (joinT (node l k w r) l') k' w' r';have key:=ih (L:=node l k w r) (R:=l') (lc:=lc) (rc:=(ndT l' k' w' r').c) (s:=s2) (q:=λn s'=>(upP [⟨ndT l' k' w' r',2,(ndT l k w r).c+(ndT l' k' w' r').c⟩] n).wp s' q e) tl2 tr2.l hl
     (by show(l'.cnt:Int) < (((l'.ps++(k',w')::r'.ps).length:Nat):Int);have:(l'.ps++(k',w')::r'.ps).length=(node l' k' w' r').cnt:=rfl;lia) () () () hA (λnd hd=>hB nd (Jj _ hd))
    refine Pg.aA (λy s' z=>?_) (λ_ _ z=>z) (key λs3 g3 i3=>?_)
    ·show(upP (_::y.1).reverse y.2).wp s' q e;rw[Nr,zii,Pg.az];exact z
    ·have n3:=g3.n;show(Pg.lay (zW (ndT l' k' w' r') 2 (joinT (node l k w r) l').root ((ndT l k w r).c+(ndT l' k' w' r').c)).th (Pg.ret _)).wp s3 q e;have et:(zW (ndT l' k' w' r') 2 (joinT (node l k w r) l').root ((ndT l k w r).c+(ndT l' k' w' r').c)).th=(node (joinT (node l k w r) l') k' w' r').thing:=by
      rw[hb];show zaC k' w' _ r'.root (((node l k w r).cnt+(node l' k' w' r').cnt:Nat):Int)=zaC k' w' _ r'.root ((((joinT (node l k w r) l').ps++(k',w')::r'.ps).length:Nat):Int);have:((joinT (node l k w r) l').ps++(k',w')::r'.ps).length=(node (joinT (node l k w r) l') k' w' r').cnt:=rfl;rw[show(node l k w r).cnt+(node l' k' w' r').cnt=((joinT (node l k w r) l').ps++(k',w')::r'.ps).length by lia]
      rfl
     rw[et];refine zbu (A:=A) () (za4 tr.kw.1 tr.kw.2 ()).2 hc λs4 g4 e4=>?_;exact h s4 ((g12.trans (g3.trans g4)).mono ()) ⟨e4,InV.mono g4.al i3,((tr2.go g3).go g4).r.iv⟩
def gapN (x:Th)(T:Tr):List Nd:=match own x T with
 | nil=>[]
 | node l _ _ r=>zhl l++zho r
def zoo {A:Th->Prop}{x:Th}{e:Er->Vst->Prop}(hc:∀u t s',e (.clash u t) s'){T:Tr}{s:Vst}{q:Int->Vst->Prop}(tk:TOk s.all T)(hn:3000<=s.n)(hA:∀nd∈wayN x T,A nd.th)(hB:∀nd∈gapN x T,A nd.th)(h:∀s',Go A 3000 s s'->(cutT x T).InV s'.all->q (cutT x T).root s'):(cutP T.root x).wp s q e:=by
 have ct:=tk.ct;unfold cutP;rw[Pg.az];refine zhA (A:=A) tk () () () hA λs1 g1 _=>?_;have tk1:=tk.go g1;have gn:=g1.n;have hwl:=zlQ (x:=x) T;unfold gapN at hB;unfold cutK;cases z:own x T with
 | node l k w r=>
  rw[z] at hB;obtain⟨rfl,n,ewl,up,ed⟩:=zbP z;have ew:wayN k T=wayT k n T++ [ndT l k w r]:=by rw[zbI,ewl,zeu ed (up_down up)]
  rw[ew,Nk];have ep:cutT k T=plug k n T (joinT l r):=by unfold cutT;rw[z,ewl,Nat.add_sub_cancel]
  rw[ep] at h;have hdc:(node l k w r).cnt<=T.cnt:=by rw[<-ed];exact zcp
  have td:=tk1.down (x:=k) (n:=n);rw[ed] at td;have cn:=zt l k w r;have jc:=zfA l r;have hlen:(l.ps++(k,w)::r.ps).length=(node l k w r).cnt:=rfl;show(if (ndT l k w r).k=k then _ else _:Pg Int).wp s1 q e;rw[av (show(ndT l k w r).k=k from rfl),Pg.az];unfold ziY;rw[Pg.az,List.dropLast_concat];have dc:((ndT l k w r).c)=((node l k w r).cnt:Int):=rfl;rw[dc];refine zqZ (A:=A) hc (L:=l) (R:=r) td.l td.r () () () () () (λnd hd=>hB nd (Jo _ hd)) (λnd hd=>hB nd (Jh _ hd)) λs2 g2 i2=>?_;have gn2:=g2.n;exact zfb (A:=A) hc (S:=joinT l r) (tk1.go g2) i2 (up_down up) (by rw[ed];lia) (by rw[ed];lia) () λs3 g3 i3=>h s3 ((g1.trans (g2.trans g3)).mono ()) i3
 | nil=>
  have ep:cutT x T=T:=by unfold cutT;rw[z]
  rw[ep] at h;cases y:(wayN x T).getLast? with
  | none=>exact h s1 (g1.mono ()) tk1.iv
  | some nd=>show(if nd.k=x then _ else _:Pg Int).wp s1 q e;rw[au (zdH z nd (List.mem_of_getLast? y))];exact h s1 (g1.mono ()) tk1.iv
def topN:Tr->List Nd
 | nil=>[]
 | node l k w r=>[ndT l k w r]
def zcF {A:Th->Prop}{e:Er->Vst->Prop}{T:Tr}{m:Int}{s:Vst}{q:Int->Vst->Prop}(tk:TOk s.all T)(hm:(T.cnt:Int) < m)(h0:0 < s.n)(hA:∀nd∈topN T,A nd.th)(h:∀s',Go A 1 s s'->q (T.cnt:Int) s'):(zbv T.root m).wp s q e:=by
 unfold zbv;cases T with
 | nil=>rw[av (show(Tr.nil).root=0 from rfl)];exact h s ((Go.refl s).mono (JN _))
 | node l k w r=>rw[au (λz=>by cases zaH.mp z),Pg.az];exact zcS (A:=A) tk hm h0 (hA _ JO) λs1 g1 _=>h s1 g1
def cntN (x:Th):Tr->List Nd
 | nil=>[]
 | node l k _ r=>if zc x k=Z then cntN x l else topN l++(if k=x then[] else cntN x r)
theorem zh7 {A:Th->Prop}{x:Th}{e:Er->Vst->Prop}:∀{T:Tr}{m:Int}{s:Vst}{q:Int->Vst->Prop},TOk s.all T->T.cnt<=s.n->(∀nd∈cntN x T,A nd.th)->(∀s',Go A T.cnt s s'->q (m+(ca x T:Int)) s')->(cntL x (wayN x T) m).wp s q e
 | nil,m,s,q,_,_,_,h=>by have h':=h s (Go.refl s);have:m+((ca x nil:Nat):Int)=m:=Int.add_zero m;rw[this] at h';exact h'
 | node l k w r,m,s,q,tk,hn,hA,h=>by
  have cn:=zt l k w r;have hA':∀nd∈(if zc x k=Z then cntN x l else topN l++(if k=x then[] else cntN x r)),A nd.th:=hA;have ec:ca x (node l k w r)=if k=x then l.cnt else if zc k x=Z then l.cnt+1+r.ca x else l.ca x:=rfl
  show(if zc x k=Z then cntL x (if k=x then[] else if zc k x=Z then wayN x r else wayN x l) m else(zbv l.root (((l.ps++(k,w)::r.ps).length:Nat):Int)).bind λc=>cntL x (if k=x then[] else if zc k x=Z then wayN x r else wayN x l) (m+c+(if k=x then 0 else 1))).wp s q e;by_cases c:zc x k=Z
  ·have ne:k≠x:=λz=>by rw[z,zD] at c;cases c
   have c':¬zc k x=Z:=λz=>by rw[zO c] at z;cases z
   rw[av c] at hA' ⊢;rw[au ne,au c'] at ec ⊢;refine zh7 tk.l () hA' λs1 g1=>?_;have:=h s1 (g1.mono ());rw[ec] at this;exact this
  ·rw[au c] at hA' ⊢;rw[Pg.az];refine zcF (A:=A) tk.l (by have:(l.ps++(k,w)::r.ps).length=(node l k w r).cnt:=rfl;lia) () (λnd hd=>hA' nd (Jo _ hd)) λs1 g1=>?_;have n1:=g1.n;by_cases ne:k=x
   ·rw[av ne] at ec;rw[av ne,av ne,Int.add_zero];have:=h s1 (g1.mono ());rw[ec] at this;exact this
   ·have c':zc k x=Z:=zcI (by cases z:zc x k with | true=>exact Jf z c | false=>rfl) (λz=>ne z.symm);rw[au ne,av c'] at ec;rw[au ne] at hA';rw[au ne,au ne,av c'];refine zh7 (tk.go g1).r () (λnd hd=>hA' nd (Jh _ hd)) λs2 g2=>?_;have:=h s2 ((g1.trans g2).mono ());rw[ec] at this;rw[show m+(l.cnt:Int)+1+((ca x r:Nat):Int)=m+((l.cnt+1+ca x r:Nat):Int) by lia];exact this
def znT {A:Th->Prop}{x:Th}{e:Er->Vst->Prop}{T:Tr}{s:Vst}{q:Int->Vst->Prop}(tk:TOk s.all T)(hn:1000<=s.n)(hA:∀nd∈wayN x T,A nd.th)(hB:∀nd∈cntN x T,A nd.th)(h:∀s',Go A 1000 s s'->q (ca x T:Int) s'):(cntP T.root x).wp s q e:=by have ct:=tk.ct;unfold cntP;rw[Pg.az];refine zhA (A:=A) tk () () () hA λs1 g1 _=>?_;have n1:=g1.n;refine zh7 (A:=A) (tk.go g1) () hB λs2 g2=>?_;have:=h s2 ((g1.trans g2).mono ());rw[Int.zero_add];exact this
def nthV:Tr->Int->Th
 | nil,_=>.non
 | node l k w r,i=>if ((node l k w r).cnt:Int)<=i then .non else if i=(l.cnt:Int) then zbj (k,w) else if i < (l.cnt:Int) then nthV l i else nthV r (i - (l.cnt:Int) - 1)
def nthN:Tr->Int->List Nd
 | nil,_=>[]
 | node l k w r,i=>ndT l k w r::(if ((node l k w r).cnt:Int)<=i then[] else topN l++(if i=(l.cnt:Int) then[] else if i < (l.cnt:Int) then nthN l i else nthN r (i - (l.cnt:Int) - 1)))
def zqV {A:Th->Prop}{e:Er->Vst->Prop}:∀{T:Tr}{f:Nat}{m i:Int}{s:Vst}{q:Th->Vst->Prop},TOk s.all T->T.cnt < f->(T.cnt:Int) < m->2 * T.cnt<=s.n->(∀nd∈nthN T i,A nd.th)->(∀s',Go A (2 * T.cnt) s s'->q (nthV T i) s')->(nthL f T.root m i).wp s q e:=by
 intro T f
 induction f generalizing T with
 | zero=>intro m i s q _ h;exact Jf h (Jv _)
 | succ f ih=>
 intro m i s q tk hf hm hn hA h;cases T with
 | nil=>unfold nthL;rw[av (show(Tr.nil).root=0 from rfl)];exact h s (Go.refl s)
 | node l k w r=>
  have cn:=zt l k w r;have hlen:(l.ps++(k,w)::r.ps).length=(node l k w r).cnt:=rfl;unfold nthL;unfold nthN at hA;unfold nthV at h;rw[au (λz=>by cases zaH.mp z),Pg.az];refine zcS (A:=A) tk hm () (hA _ JO) λs1 g1 _=>?_;have n1:=g1.n;by_cases c:((node l k w r).cnt:Int)<=i
  ·rw[av c] at h;rw[av (show(ndT l k w r).c<=i from c)];exact h s1 (g1.mono ())
  rw[au c] at h hA;rw[au (show¬(ndT l k w r).c<=i from c),Pg.az];refine zcF (A:=A) (tk.go g1).l (by show(l.cnt:Int) < (((l.ps++(k,w)::r.ps).length:Nat):Int);lia) () (λnd hd=>hA nd (Jj _ (Jo _ hd))) λs2 g2=>?_;have n2:=g2.n;have g12:=g1.trans g2;by_cases e1:i=(l.cnt:Int)
  ·rw[av e1] at h;rw[av e1];exact h s2 (g12.mono ())
  rw[au e1] at h hA;rw[au e1];by_cases e2:i < (l.cnt:Int)
  ·rw[av e2] at h hA;rw[av e2];exact ih (T:=l) (tk.go g12).l () (by show(l.cnt:Int) < (((l.ps++(k,w)::r.ps).length:Nat):Int);lia) () (λnd hd=>hA nd (Jj _ (Jh _ hd))) λs3 g3=>h s3 ((g12.trans g3).mono ())
  ·rw[au e2] at h hA;rw[au e2];exact ih (T:=r) (tk.go g12).r () (by show(r.cnt:Int) < (((l.ps++(k,w)::r.ps).length:Nat):Int);lia) () (λnd hd=>hA nd (Jj _ (Jh _ hd))) λs3 g3=>h s3 ((g12.trans g3).mono ())
end Pv
namespace Pv
open PySem L2
abbrev zfE:aB:=top 64
abbrev zeP:aB:=top 65
abbrev zcN:aB:=top 66
abbrev zf8:aB:=top 67
def inB (lo hi:Th)(nd:Nd):Bool:=zbf hi nd.k && (decide (lo=.non) || !zc nd.k lo)
def strL (lo hi:Th):Nat->Int->Int->List Nd->List (Th ×Th)->Pg (List (Th ×Th))
 | 0,_,_,_,_=>.bad
 | f+1,n,c,st,ps=>if n=0 then(match st with
   | []=>.ret ps
   | nd::st'=>strL lo hi f (if zbf hi nd.k=Z then nd.r else 0) nd.c st' (if inB lo hi nd=Z then ps++ [(nd.k,nd.w)] else ps))
  else(benP n c).bind λnd=>(if (zbe lo nd.k && zbf hi nd.k)=Z then sumP nd else .ret Unit.unit).bind λ_=>strL lo hi f (if zbe lo nd.k=Z then nd.l else 0) nd.c (nd::st) ps
def strP (n:Int)(lo hi:Th):Pg (List (Th ×Th)):=if zcO lo hi=Z then .ret [] else strL lo hi 700 n 301 [] []
def zo2 (H:Hp)(ps:QH)(v:V):Prop:=∃pp xs,v=.ref pp/\H pp=Y (.lst xs)/\RepL H (ps.map zbj) xs/\ps.length<=700
def zcq (H0 H:Hp)(ps:QH)(v:V):Prop:=zo2 H ps v/\∀pp,v=.ref pp->H0 pp=U
def cntA (al:QF)(n:Int):Nat:=if n=0 then 0 else match zh al n with
 | none=>0
 | some t=>match ndOf t with
  | none=>0
  | some nd=>nd.c.toNat
def wgt (al:QF)(n c:Int):Nat:=2 * min (cntA al n) (c.toNat - 1)
def stkW (al:QF)(hi:Th):List Nd->Nat
 | []=>0
 | nd::st=>1+(if zbf hi nd.k=Z then wgt al nd.r nd.c else 0)+stkW al hi st
def zmg {s s':Vst}{n:Int}{t:Th}(h:s.look n=Y (t,s')):zh s.all n=Y t/\s'.own=s.own/\s'.kp=s.kp:=by
 cases z:zh s.own n with
 | some u=>rw[Vst.look_own z] at h;cases h;exact⟨Vst.all_own z,O,O⟩
 | none=>
  cases y:zh s.kp n with
  | some u=>rw[Vst.look_kp z y] at h;cases h;exact⟨by rw[Vst.all_kp z];exact y,O,O⟩
  | none=>rw[Vst.look_no z y] at h;cases h
def zqo {n:Int}{nd:Nd}{t:Th}(h0:n≠0)(h:zh al n=Y t)(e:ndOf t=Y nd):cntA al n=nd.c.toNat:=by unfold cntA;rw[au h0,h];show(match ndOf t with | none=>0 | some nd=>nd.c.toNat)=_;rw[e]
def zjf {n:Int}{s:Vst}{q:Nd->Vst->Prop}{e:Er->Vst->Prop}(h0:n≠0)(h:(benP n m).wp s q e):(benP n m).wp s (λnd s'=>(cntA s.all n=nd.c.toNat/\1<=nd.c/\nd.c < m)/\(s'.own=s.own/\s'.kp=s.kp)/\q nd s') e:=by
 refine⟨h.1,λt s' z=>?_,h.2.2⟩;have h1:=h.2.1 t s' z;obtain⟨a,b⟩:=zmg z;cases y:ndOf t with
 | none=>rw[zew y] at h1 ⊢;exact h1
 | some nd=>
  rw[zc9 y] at h1 ⊢;obtain⟨rfl,zz⟩:=zey y;by_cases hc:nd.c < m
  ·rw[av hc] at h1 ⊢;exact⟨⟨zqo h0 a y,(zn1 zz).c1,hc⟩,b,h1⟩
  ·rw[au hc] at h1 ⊢;exact h1
def zg7 {s:Vst}{q:Int->Vst->Prop}{e:Er->Vst->Prop}(h:(zbv n m).wp s q e):(zbv n m).wp s (λx s'=>x=(cntA s.all n:Int)/\(s'.own=s.own/\s'.kp=s.kp)/\q x s') e:=by
 unfold zbv at h ⊢;by_cases h0:n=0
 ·rw[av h0] at h ⊢;have e0:cntA s.all n=0:=by unfold cntA;rw[av h0]
  exact⟨by rw[e0];rfl,⟨O,O⟩,h⟩
 ·rw[au h0,Pg.az] at h ⊢;refine Pg.aA (λnd s' z=>?_) (λ_ _ z=>z) (zjf h0 h);obtain⟨⟨z1,z2,_⟩,z4,z5⟩:=z;exact⟨(),z4,z5⟩
def zoj {s:Vst}{q:Unit->Vst->Prop}{e:Er->Vst->Prop}(h:(sumP nd).wp s q e):(sumP nd).wp s (λu s'=>(cntA s.all nd.l:Int)+(cntA s.all nd.r:Int)+1=nd.c/\(s'.own=s.own/\s'.kp=s.kp)/\q u s') e:=by
 unfold sumP at h ⊢;rw[Pg.az] at h ⊢;refine Pg.aA (λx s1 z=>?_) (λ_ _ z=>z) (zg7 h);obtain⟨e1,⟨o1,k1⟩,h1⟩:=z;rw[Pg.az] at h1 ⊢;refine Pg.aA (λy s2 z=>?_) (λ_ _ z=>z) (zg7 h1);obtain⟨e2,⟨o2,k2⟩,h2⟩:=z;have ea:s1.all=s.all:=by unfold Vst.all;rw[o1,k1]
 rw[ea] at e2;by_cases hs:x+y+1=nd.c
 ·rw[av hs] at h2 ⊢;exact⟨(),⟨o2.trans o1,k2.trans k1⟩,h2⟩
 ·rw[au hs] at h2 ⊢;exact h2
inductive zdT (vs:QR)(H:Hp)(Q:L2.VK)(_E:XK):Prop
 | mk (v va:V)(nd:Nd)(a:Th)(_:vs=[v,va])(_:Rep H nd.th v)(_:Rep H a va)(_:dep a<=8)(_:∀H',Same H H'->Q (.bl (zbe a nd.k)) H'):zdT vs H Q _E
inductive zdQ (vs:QR)(H:Hp)(Q:L2.VK)(_E:XK):Prop
 | mk (v va:V)(nd:Nd)(a:Th)(_:vs=[v,va])(_:Rep H nd.th v)(_:Rep H a va)(_:dep nd.k<=8)(_:∀H',Same H H'->Q (.bl (zbf a nd.k)) H'):zdQ vs H Q _E
inductive zj1 (VR:VRT)(CN CB CC:aE)(vs:QR)(H:Hp)(Q:L2.VK)(E:XK):Prop
 | mk (a:aE)(D:QP)(s:Vst)(n:Int)(lo hi:Th)(vl vh:V)(_:vs=[.ref a,.int n,vl,vh])(_:VR H a D s)(_:Rep H lo vl)(_:Rep H hi vh)(_:dep lo<=8)(_:dep hi<=8)(_:Out VR CN CB CC a D (strP n lo hi) s (zcq H) H Q E):zj1 VR CN CB CC vs H Q E
structure SX (D:QP)(H0 H:Hp)(pp pb:aE)(st:List Nd)(ps:QH):Prop where
 fr:Frm D H0 H
 xs:∃xs,H pp=Y (.lst xs)/\RepL H (ps.map zbj) xs
 bs:∃bs,H pb=Y (.lst bs)/\RepL H (st.reverse.map Nd.th) bs
def SX.go (I:VI C VR){a:aE}{s:Vst}(i:SX D H0 H pp pb st ps)(v:VR H a D s)(f:Frm D H H'):SX D H0 H' pp pb st ps:=by obtain⟨xs,e1,r1⟩:=i.xs;obtain⟨bs,e2,r2⟩:=i.bs;exact⟨i.fr.trans f,⟨xs,I.lst v f e1,r1.keep (I.ay v f)⟩,⟨bs,I.lst v f e2,r2.keep (I.ay v f)⟩⟩
def SX.setB {st':List Nd}(i:SX D H0 H pp pb st ps)(np:pp≠pb)(hb:H0 pb=U)(r:RepL H (st'.reverse.map Nd.th) bs'):SX D H0 (upd H pb (.lst bs')) pp pb st' ps:=by
 obtain⟨xs,e1,r1⟩:=i.xs;obtain⟨bs,e2,r2⟩:=i.bs;have tk:Tups H (upd H pb (.lst bs')):=Tups.upd λxs z=>by rw[e2] at z;cases z
 exact⟨zbs i.fr hb,⟨xs,by rw[zd np];exact e1,r1.keep tk⟩,⟨_,za,r.keep tk⟩⟩
def SX.setP {ps':QH}(i:SX D H0 H pp pb st ps)(np:pp≠pb)(hb:H0 pp=U)(r:RepL H (ps'.map zbj) xs'):SX D H0 (upd H pp (.lst xs')) pp pb st ps':=by
 obtain⟨xs,e1,r1⟩:=i.xs;obtain⟨bs,e2,r2⟩:=i.bs;have tk:Tups H (upd H pp (.lst xs')):=Tups.upd λxs z=>by rw[e1] at z;cases z
 exact⟨zbs i.fr hb,⟨_,za,r.keep tk⟩,⟨bs,by rw[zd (aV np)];exact e2,r2.keep tk⟩⟩
abbrev _root_.SU:List PySem.Str:=["node","low"]
def zmv (D:Dfn K mg "goes_left" zfE SU) (zaQ:Fn P w K mg ax "ahead" 20 Sk (zav 9)) (zat:mg "KEY" =Y (.int 0 t1)):Fn P w K mg ax "goes_left" 21 SU zdT:=by
 refine D.ok (k:=20) (fsN SU) ⟨⟩;obtain⟨v,va,nd,a,rfl,rn,ra,hd,q⟩:=h;obtain⟨p,vk,vw,rfl,ea,rk,rw'⟩:=zr rn;refine⟨_,(by have ι:=0;ac_rfl),?_⟩;refine⟨B,ao⟩;rw[zaM ra];unfold zbe at q;cases z:decide (a=.non) with
 | true=>rw[z] at q;exact ifT rfl (q H (Same.refl H))
 | false=>rw[z] at q;exact ifF rfl ⟨ap,p,aj,SqT.of ea,O,a,nd.k,_,B,ra,rk,(),(),λH1 s1=>q H1 s1⟩
abbrev _root_.SR:List PySem.Str:=["node","high"]
def zmm (D:Dfn K mg "goes_right" zeP SR) (zaQ:Fn P w K mg ax "ahead" 20 Sk (zav 9)) (zat:mg "KEY" =Y (.int 0 t1)):Fn P w K mg ax "goes_right" 21 SR zdQ:=by
 refine D.ok (k:=20) (fsN SR) ⟨⟩;obtain⟨v,va,nd,a,rfl,rn,ra,hd,q⟩:=h;obtain⟨p,vk,vw,rfl,ea,rk,rw'⟩:=zr rn;refine⟨_,(by have ι:=0;ac_rfl),?_⟩;refine⟨B,ao⟩;rw[zaM ra];unfold zbf at q;cases z:decide (a=.non) with
 | true=>rw[z] at q;exact ifT rfl (q H (Same.refl H))
 | false=>rw[z] at q;exact ifF rfl ⟨B,p,aj,SqT.of ea,O,B,nd.k,a,_,B,rk,ra,(),(),λH1 s1=>q H1 s1⟩
abbrev _root_.SV:List PySem.Str:=["vault","node"]
def zp9 (I:VI C VR)(D:Dfn K mg "refuse_sum" zcN SV) (zbm:FnX P w K mg ax "size_beneath" 5 Sc (zbL VR CN CB CC)) (zaK:XP K mg "BadThing" CB) (zar:mg "LEFT" =Y (.int 2 t3)) (zae:mg "RIGHT" =Y (.int 3 t4)) (z7:mg "COUNT" =Y (.int 4 t5)):FnX P w K mg ax "refuse_sum" 6 SV (zkt VR CN CB CC):=by
 refine D.okX (k:=5) (fsN ["vault","node","left","right"]) ⟨⟩;obtain⟨a,D,s,nd,v,rfl,vs,rn,h⟩:=h;obtain⟨p,vk,vw,rfl,ea,rk,rw'⟩:=zr rn.1;have et:SqT K H p [vk,vw,.int nd.l,.int nd.r,.int nd.c]:=SqT.of ea;unfold Out sumP at h;rw[Pg.az] at h;refine⟨_,(by have ι:=0;ac_rfl),?_⟩;refine⟨ap,p,aj,et,O,B,p,aj,et,O,a,D,s,nd.l,nd.c,O,vs,Pg.aA (λx s1 h1 v H1 f1 vs1 ev=>?_) (λ_ _ z=>z) h⟩;have ev':v=.int x:=ev;subst ev';rw[Pg.az] at h1;have ea1:=I.ay vs f1 _ _ ea;have et1:SqT K H1 p _:=SqT.of ea1;refine⟨ap,p,aj,et1,O,B,p,aj,et1,O,a,D,s1,nd.r,nd.c,O,vs1,Pg.aA (λy s2 h2 v H2 f2 vs2 ev=>?_) (OutE.on f1) h1⟩;have ev':v=.int y:=ev;subst ev';have et2:SqT K H2 p _:=SqT.of (I.ay vs1 f2 _ _ ea1);refine⟨ap,am,am,B,p,aj,et2,O,ao⟩;rw[zaa];by_cases hs:x+y+1=nd.c
 ·rw[av hs] at h2;exact ifF (by rw[aw hs];rfl) (h2 _ H2 (f1.trans f2) vs2 rfl)
 ·rw[au hs] at h2;refine ifT (by rw[Jc hs];rfl) ⟨szl (show 1<=1000 by decide),λe he=>⟨e,CB,U,O,za,zaK.cl.q,?_⟩⟩;rw[zed he];exact h2 H2 (f1.trans f2) vs2
def zq6 (I:VI C VR)(D:Dfn K mg "stretch" zf8 Sh) (zkO:Fn P w K mg ax "is_empty" 21 SD zcM) (zaA:FnX P w K mg ax "node_beneath" 4 Sc (zcA VR CN CB CC)) (zrV:Fn P w K mg ax "goes_left" 21 SU zdT) (zra:Fn P w K mg ax "goes_right" 21 SR zdQ) (zrb:FnX P w K mg ax "refuse_sum" 6 SV (zkt VR CN CB CC)) (zaQ:Fn P w K mg ax "ahead" 20 Sk (zav 9))
  (zat:mg "KEY" =Y (.int 0 t1)) (zbx:mg "WORTH" =Y (.int 1 t2)) (zar:mg "LEFT" =Y (.int 2 t3)) (zae:mg "RIGHT" =Y (.int 3 t4)) (z7:mg "COUNT" =Y (.int 4 t5)) (zah:mg "BENEATH_NONE" =Y (.int 301 t7)) (zy:mg "len" =U):FnX P w K mg ax "stretch" 22 Sh (zj1 VR CN CB CC):=by
 refine D.okX (k:=21) (fsN ["vault","root","low","high","pairs","begun","count","node"]) ⟨⟩;obtain⟨a,D,s,n,lo,hi,vx,vy,rfl,vs,rx,ry,dx,dy,h⟩:=h;refine⟨_,(by have ι:=0;ac_rfl),?_⟩;refine⟨szl (show 0<=1000 by decide),λpp hpp=>?_⟩;have s1:=zj (o:=.lst []) (Same.refl H) hpp;have e1:upd H pp (.lst []) pp=Y (.lst []):=za;generalize upd H pp (.lst [])=H1 at s1 e1;refine⟨ap,lo,hi,vx,vy,O,rx.keep (Same.ay s1),ry.keep (Same.ay s1),dx,λH2 s2=>⟨ar⟩⟩;have s02:Same H H2:=λb o e=>s2 b o (s1 b o e);have e2:=s2 _ _ e1;unfold Out strP at h;cases ze:zcO lo hi with
 | true=>rw[av ze] at h;exact ifT rfl ⟨B,h _ H2 (Frm.of s02) (I.same vs s02) ⟨⟨pp,[],O,e2,.nil,()⟩,λ_ z=>by cases z;exact hpp⟩⟩
 | false=>
 rw[au (by rw[ze];exact Jd)] at h;refine ifF rfl ?_;refine⟨szl (show 0<=1000 by decide),λpb hpb=>?_⟩;have s3:=zj (o:=.lst []) (Same.refl H2) hpb;have e3:upd H2 pb (.lst []) pb=Y (.lst []):=za;have nb:pp≠pb:=zf e2 hpb;have hpb0:H pb=U:=by
  cases y:H pb with
  | none=>rfl
  | some o=>rw[s02 _ _ y] at hpb;cases hpb
 generalize upd H2 pb (.lst [])=H3 at s3 e3;have w0:wgt s.all n 301 < 700:=by unfold wgt;have:min (cntA s.all n) ((301:Int).toNat - 1)<=300:=Nat.min_le_right _ _;lia
 refine⟨λm σ H'=>∃(s1:Vst)(n c:Int)(st:List Nd)(ps:QH)(k7:Option V),(strL lo hi m n c st ps).wp s1 (OutQ VR a D (zcq H) H Q) (OutE VR CN CB CC a D H E)/\wgt s.all n c+stkW s.all hi st < m/\s1.all=s.all/\st.length+m<=700/\ps.length+m<=700/\σ=[Y (.ref a),Y (.int n),Y vx,Y vy,Y (.ref pp),Y (.ref pb),Y (.int c),k7]/\SX D H H' pp pb st ps/\VR H' a D s1/\∀nd∈st,Good nd.th,
  ⟨700,s,n,301,[],[],_,h,w0,O,(),(),O,⟨(Frm.of s02).trans (Frm.of s3),⟨[],s3 _ _ e2,.nil⟩,⟨[],e3,.nil⟩⟩,I.same (I.same vs s02) s3,λnd z=>by cases z⟩,?_⟩
 clear h w0;rintro m σ H4 ⟨s4,n,c,st,ps,k7,h,hw,hal,hb1,hb2,rfl,si,vs4,gd⟩;obtain⟨m,rfl⟩:∃j,m=j+1:=⟨m - 1,()⟩;have t04:=I.ay vs si.fr;have rx4:=rx.keep t04;have ry4:=ry.keep t04;obtain⟨xs,ex,rxs⟩:=si.xs;obtain⟨bs,eb,rbs⟩:=si.bs;have hxs:xs.length<=700:=by rw[rxs.len,JI];lia
 have hbl:bs.length=st.length:=by rw[rbs.len,JI,Nw]
 unfold strL at h;refine⟨B,ao⟩;rw[zaa];by_cases hn:n=0
 ·subst hn;rw[av rfl] at h;refine ifF rfl ?_;refine⟨B,pb,B,.inl (SqL.of eb),am,ar⟩;cases st with
  | nil=>
   refine ifF (by show decide ((0:Int) < ((bs.length:Nat):Int))=G;rw[hbl];rfl) ?_
   exact⟨B,h _ H4 si.fr vs4 ⟨⟨pp,xs,O,ex,rxs,()⟩,λ_ z=>by cases z;exact hpp⟩⟩
  | cons nd st'=>
   replace h:(strL lo hi m (if zbf hi nd.k=Z then nd.r else 0) nd.c st' (if inB lo hi nd=Z then ps++ [(nd.k,nd.w)] else ps)).wp s4 (OutQ VR a D (zcq H) H Q) (OutE VR CN CB CC a D H E):=h;have gn:=gd nd JO;have kd:=(zb6 gn).1;have hsl:(nd::st').length=st'.length+1:=rfl;have hw':wgt s.all 0 c+(1+(if zbf hi nd.k=Z then wgt s.all nd.r nd.c else 0)+stkW s.all hi st') < m+1:=hw;refine ifT (aw (show(0:Int) < ((bs.length:Nat):Int) by lia)) ⟨_,fun σ' H' h=>h,?_⟩;rw[Nr,JU] at rbs;obtain⟨us,v,rfl,rus,rn⟩:=rbs.unsnoc;have si5:=si.setB (st':=st') nb hpb0 (bs':=us) rus;have vs5:VR (upd H4 pb (.lst us)) a D s4:=I.nl vs4 (NL.lst eb);refine zaf (fun σ H'=>∃(n':Int)(ps':QH)(v:V),σ=[Y (.ref a),Y (.int n'),Y vx,Y vy,Y (.ref pp),Y (.ref pb),Y (.int c),Y v]/\SX D H H' pp pb st' ps'/\(strL lo hi m n' nd.c st' ps').wp s4 (OutQ VR a D (zcq H) H Q) (OutE VR CN CB CC a D H E)/\wgt s.all n' nd.c+stkW s.all hi st' < m/\ps'.length+m<=700/\Rep H' nd.th v/\VR H' a D s4) (λN kN=>?_) ?_
   ·refine⟨B,ao⟩;rw[zaa];refine ifF rfl ?_;refine⟨B,.inl ⟨O,_,SqL.of eb⟩,pb,_,v,O,O,eb,by rw[JF,JY (by simp)];simp,?_⟩;rw[List.dropLast_concat];have tk5:Tups H4 (upd H4 pb (.lst us)):=Tups.upd λxs z=>by rw[eb] at z;cases z
    have rn5:=rn.keep tk5;have rx5:=rx4.keep tk5;have ry5:=ry4.keep tk5;generalize upd H4 pb (.lst us)=H5 at si5 tk5 rn5 rx5 ry5 vs5;refine⟨ap,v,vy,nd,hi,O,rn5,ry5,(),λH6 s6=>⟨ar⟩⟩;have si6:=si5.go I vs5 (Frm.of s6);have vs6:=I.same vs5 s6;have rn6:=rn5.keep (Same.ay s6);have rx6:=rx5.keep (Same.ay s6);have w00:wgt s.all 0 nd.c=0:=by unfold wgt cntA;rw[av rfl,Nat.zero_min]
    cases z1:zbf hi nd.k with
    | false=>
     have hin:inB lo hi nd=G:=by unfold inB;rw[z1];rfl
     rw[z1,hin,au Jd,au Jd] at h;rw[z1,au Jd] at hw';exact ifF rfl (kN _ _ ⟨0,ps,v,O,si6,h,(),(),rn6,vs6⟩)
    | true=>
     rw[z1,av rfl] at h hw';refine ifT rfl ?_;refine zaf (fun σ H'=>∃ps',σ=[Y (.ref a),Y (.int 0),Y vx,Y vy,Y (.ref pp),Y (.ref pb),Y (.int c),Y v]/\SX D H H' pp pb st' ps'/\Rep H' nd.th v/\(strL lo hi m nd.r nd.c st' ps').wp s4 (OutQ VR a D (zcq H) H Q) (OutE VR CN CB CC a D H E)/\ps'.length<=ps.length+1/\VR H' a D s4) (λN2 k2=>?_) ?_
     ·obtain⟨p,vk,vw,rfl,ea,rk,rw'⟩:=zr rn6;obtain⟨xs6,ex6,rxs6⟩:=si6.xs;have hx6:xs6.length<=700:=by rw[rxs6.len,JI];lia
      have hinB:∀b,(decide (lo=.non) || !zc nd.k lo)=b->inB lo hi nd=b:=λb e=>by unfold inB;rw[z1,e];rfl
      have app:∀(H7:Hp)(s67:Same H6 H7)(h:inB lo hi nd=Z)(p2:aE),H7 p2=U->N2 [Y (.ref a),Y (.int 0),Y vx,Y vy,Y (.ref pp),Y (.ref pb),Y (.int c),Y (.ref p)] (upd (upd H7 p2 (.tup [vk,vw])) pp (.lst (xs6++ [.ref p2]))):=λH7 s67 hin p2 hp2=>by
       have rp:=(RepL.cons (rk.keep (Same.ay s67)) (.cons (rw'.keep (Same.ay s67)) .nil)).new hp2;have s78:=zj (o:=.tup [vk,vw]) (Same.refl H7) hp2;generalize upd H7 p2 (.tup [vk,vw])=H8 at rp s78;have s68:Same H6 H8:=λb o e=>s78 b o (s67 b o e);have si8:=si6.go I vs6 (Frm.of s68);have ex8:=s68 _ _ ex6;have rxs8:=rxs6.keep (Same.ay s68);have tk9:Tups H8 (upd H8 pp (.lst (xs6++ [.ref p2]))):=Tups.upd λxs z=>by rw[ex8] at z;cases z
       rw[hin,av rfl] at h;refine k2 _ _ ⟨ps++ [(nd.k,nd.w)],O,si8.setP nb hpp ?_,(rn6.keep (Same.ay s68)).keep tk9,h,by simp,I.nl (I.same vs6 s68) (NL.lst ex8)⟩;rw[JU];exact rxs8.snoc rp
      refine⟨B,ao⟩;rw[zaM rx6];cases z2:decide (lo=.non) with
      | true=>have hin:=hinB Z (by rw[z2];rfl);refine ifT rfl (ifT rfl ?_);exact⟨B,.inl ⟨O,_,SqL.of ex6⟩,B,p,aj,SqT.of ea,O,B,p,aj,SqT.of ea,O,szl (show 2<=1000 by decide),λp2 hp2=>⟨pp,xs6,B,O,by rw[zd (zf ex6 hp2)];exact ex6,Je (show xs6.length < 1000 by lia) (szl (Jb _)),app H6 (Same.refl _) hin p2 hp2⟩⟩
      | false=>
       refine ifF rfl ⟨B,p,aj,SqT.of ea,O,B,nd.k,lo,_,B,rk,rx6,(),(),λH7 s7=>⟨ar⟩⟩;have ex7:=s7 _ _ ex6;have ea7:=s7 _ _ ea;cases z3:zc nd.k lo with
       | true=>have hin:=hinB G (by rw[z2,z3];rfl);rw[hin,au Jd] at h;exact ifF rfl (k2 _ _ ⟨ps,O,si6.go I vs6 (Frm.of s7),rn6.keep (Same.ay s7),h,(),I.same vs6 s7⟩)
       | false=>have hin:=hinB Z (by rw[z2,z3];rfl);refine ifT rfl ?_;exact⟨B,.inl ⟨O,_,SqL.of ex7⟩,B,p,aj,SqT.of ea7,O,B,p,aj,SqT.of ea7,O,szl (show 2<=1000 by decide),λp2 hp2=>⟨pp,xs6,B,O,by rw[zd (zf ex7 hp2)];exact ex7,Je (show xs6.length < 1000 by lia) (szl (Jb _)),app H7 s7 hin p2 hp2⟩⟩
     ·rintro σ H7 ⟨ps',rfl,si7,rn7,h7,hl7,vs7⟩;obtain⟨p,vk,vw,rfl,ea,rk,rw'⟩:=zr rn7;exact⟨B,p,aj,SqT.of ea,O,kN _ _ ⟨nd.r,ps',B,si7,h7,(),(),rn7,vs7⟩⟩
   ·rintro σ H5 ⟨n',ps',v',rfl,si',h',hw2,hp',rn',vs'⟩;obtain⟨p,vk,vw,rfl,ea,rk,rw'⟩:=zr rn';exact⟨B,p,aj,SqT.of ea,O,m,Jr m,s4,n',_,st',ps',_,h',hw2,hal,(),(),O,si',vs',λy hy=>gd y (Jj _ hy)⟩
 ·rw[au hn,Pg.az] at h;refine ifT (by rw[Jc hn];rfl) (ifT rfl ⟨_,fun σ' H' h=>h,?_⟩);refine zaf (fun σ H'=>∃(s5:Vst)(nd:Nd)(v:V),σ=[Y (.ref a),Y (.int (if zbe lo nd.k=Z then nd.l else 0)),Y vx,Y vy,Y (.ref pp),Y (.ref pb),Y (.int c),Y v]/\SX D H H' pp pb (nd::st) ps/\(strL lo hi m (if zbe lo nd.k=Z then nd.l else 0) nd.c (nd::st) ps).wp s5 (OutQ VR a D (zcq H) H Q) (OutE VR CN CB CC a D H E)/\wgt s.all (if zbe lo nd.k=Z then nd.l else 0) nd.c+stkW s.all hi (nd::st) < m/\s5.all=s.all/\Rep H' nd.th v/\Good nd.th/\VR H' a D s5) (λN kN=>?_) ?_
  ·refine⟨B,ao⟩;rw[zaa];refine ifT (by rw[Jc hn];rfl) ?_;refine⟨ap,B,a,D,s4,n,c,O,vs4,Pg.aA (λnd s5 h5 v H5 f5 vs5 rn=>?_) (OutE.on si.fr) (zjf hn h)⟩;obtain⟨⟨c1,c2,c3⟩,⟨o5,k5⟩,h5⟩:=h5;obtain⟨rn,gn⟩:=rn;have kd:=(zb6 gn).1;have ea5:s5.all=s.all:=by rw[<-hal];unfold Vst.all;rw[o5,k5]
   rw[hal] at c1;have si5:=si.go I vs4 f5;have t45:=I.ay vs4 f5;have rx5:=rx4.keep t45;have ry5:=ry4.keep t45;rw[Pg.az] at h5;have wn:wgt s.all n c=2 * nd.c.toNat:=by unfold wgt;rw[c1,ND ()]
   have wk:∀k,wgt s.all k nd.c<=2 * (nd.c.toNat - 1):=λk=>by unfold wgt;have:=Nat.min_le_right (cntA s.all k) (nd.c.toNat - 1);lia
   have w00:wgt s.all 0 nd.c=0:=by unfold wgt cntA;rw[av rfl,Nat.zero_min]
   dsimp only[zcg];refine zaf (fun σ H'=>∃s6:Vst,σ=[Y (.ref a),Y (.int n),Y vx,Y vy,Y (.ref pp),Y (.ref pb),Y (.int c),Y v]/\Frm D H5 H'/\VR H' a D s6/\s6.all=s.all/\(strL lo hi m (if zbe lo nd.k=Z then nd.l else 0) nd.c (nd::st) ps).wp s6 (OutQ VR a D (zcq H) H Q) (OutE VR CN CB CC a D H E)/\wgt s.all (if zbe lo nd.k=Z then nd.l else 0) nd.c+(if zbf hi nd.k=Z then wgt s.all nd.r nd.c else 0)+1 < wgt s.all n c) (λN2 k2=>?_) ?_
   ·refine⟨ap,v,vx,nd,lo,O,rn,rx5,dx,λH6 s6=>⟨ar⟩⟩;cases z1:zbe lo nd.k with
    | false=>rw[z1] at h5 k2;rw[au (by rw[Bool.false_and];exact Jd)] at h5;refine ifF rfl (ifF rfl (k2 _ _ ⟨s5,O,Frm.of s6,I.same vs5 s6,ea5,h5,?_⟩));rw[au Jd,w00];have:=wk nd.r;split <;> lia
    | true=>
     rw[z1] at h5 k2;refine ifT rfl ⟨ap,v,vy,nd,hi,O,rn.keep (Same.ay s6),ry5.keep (Same.ay s6),(),λH7 s7=>⟨ar⟩⟩;have s57:Same H5 H7:=λb o e=>s7 b o (s6 b o e);have wl:=wk nd.l;cases z2:zbf hi nd.k with
     | false=>rw[z2] at h5 k2;rw[au (by exact Jd)] at h5;refine ifF rfl (k2 _ _ ⟨s5,O,Frm.of s57,I.same vs5 s57,ea5,h5,?_⟩);rw[av rfl,au Jd];lia
     | true=>
      rw[z2] at h5 k2;rw[av (by rfl)] at h5;refine ifT rfl ⟨ap,a,D,s5,nd,v,O,I.same vs5 s57,⟨rn.keep (Same.ay s57),gn⟩,Pg.aA (λu s6' h6 v6 H8 f8 vs8 ev=>?_) (OutE.on ((si.fr.trans f5).trans (Frm.of s57))) (zoj h5)⟩;obtain⟨he,⟨o6,k6⟩,h6⟩:=h6;have ea6:s6'.all=s.all:=by rw[<-ea5];unfold Vst.all;rw[o6,k6]
      rw[ea5] at he;refine k2 _ _ ⟨s6',O,(Frm.of s57).trans f8,vs8,ea6,h6,?_⟩;rw[av rfl,av rfl];have h1:wgt s.all nd.l nd.c<=2 * cntA s.all nd.l:=by unfold wgt;have:=Nat.min_le_left (cntA s.all nd.l) (nd.c.toNat - 1);lia
      have h2:wgt s.all nd.r nd.c<=2 * cntA s.all nd.r:=by unfold wgt;have:=Nat.min_le_left (cntA s.all nd.r) (nd.c.toNat - 1);lia
      lia
   ·rintro σ H7 ⟨s7,rfl,f7,vs7,ea7,h7,hw7⟩;have si7:=si5.go I vs5 f7;have t57:=I.ay vs5 f7;have eb7:=I.lst vs5 f7 (I.lst vs4 f5 eb);have rbs7:=(rbs.keep t45).keep t57;have rn7:=rn.keep t57;refine⟨B,.inl ⟨O,_,SqL.of eb7⟩,B,pb,bs,B,O,eb7,Je (show bs.length < 1000 by lia) (szl (Jb _)),?_⟩;have si8:=si7.setB (st':=nd::st) nb hpb0 (bs':=bs++ [v]) (by rw[Nr,JU];exact rbs7.snoc rn7);have tk8:Tups H7 (upd H7 pb (.lst (bs++ [v]))):=Tups.upd λxs z=>by rw[eb7] at z;cases z
    have rn8:=rn7.keep tk8;have rx8:=(rx5.keep t57).keep tk8;have vs8:VR (upd H7 pb (.lst (bs++ [v]))) a D s7:=I.nl vs7 (NL.lst eb7);generalize upd H7 pb (.lst (bs++ [v]))=H8 at si8 tk8 rn8 rx8 vs8;refine⟨ap,v,vx,nd,lo,O,rn8,rx8,dx,λH9 s9=>⟨ar⟩⟩;have si9:=si8.go I vs8 (Frm.of s9);have rn9:=rn8.keep (Same.ay s9);have hws:wgt s.all (if zbe lo nd.k=Z then nd.l else 0) nd.c+stkW s.all hi (nd::st) < m:=by show _+(1+(if zbf hi nd.k=Z then wgt s.all nd.r nd.c else 0)+stkW s.all hi st) < m;lia
    cases z1:zbe lo nd.k with
    | true=>obtain⟨p,vk,vw,rfl,ea,rk,rw'⟩:=zr rn9;refine ifT rfl ⟨B,p,aj,SqT.of ea,O,kN _ _ ⟨s7,nd,_,?_,si9,h7,hws,ea7,rn9,gn,I.same vs8 s9⟩⟩;rw[z1];rfl
    | false=>refine ifF rfl (kN _ _ ⟨s7,nd,v,?_,si9,h7,hws,ea7,rn9,gn,I.same vs8 s9⟩);rw[z1];rfl
  ·rintro σ H5 ⟨s5,nd,v,rfl,si',h',hw',ea',rn,gn,vs'⟩;obtain⟨p,vk,vw,rfl,ea,rk,rw'⟩:=zr rn;refine⟨B,p,aj,SqT.of ea,O,m,Jr m,s5,_,_,nd::st,ps,_,h',hw',ea',by show st.length+1+m<=700;lia,(),O,si',vs',λy hy=>?_⟩;rcases JJ.mp hy with rfl | hy
   ·exact gn
   ·exact gd y hy
inductive Pg.Run {α:Type}:Pg α->Vst->Except Er α->Vst->Prop
 | ret {x:α} {s:Vst}:Pg.Run (.ret x) s (.ok x) s
 | bad {s:Vst}:Pg.Run .bad s (.error .bad) s
 | rd {n:Int} {k:Th->Pg α} {s s1 s':Vst} {t:Th} {r:Except Er α}:s.look n=Y (t,s1)->Pg.Run (k t) s1 r s'->Pg.Run (.rd n k) s r s'
 | lacks {n:Int} {k:Th->Pg α} {s:Vst}:s.look n=U->Pg.Run (.rd n k) s (.error .lacks) s
 | lay {t:Th} {k:Pg α} {s s':Vst} {r:Except Er α}:s.stop t=U->Pg.Run k (s.add t) r s'->Pg.Run (.lay t k) s r s'
 | clash {t u:Th} {k:Pg α} {s:Vst}:s.stop t=Y u->Pg.Run (.lay t k) s (.error (.clash u t)) s
inductive Pg.Fit {α:Type}:Pg α->Vst->Prop
 | ret {x:α} {s:Vst}:Pg.Fit (.ret x) s
 | bad {s:Vst}:Pg.Fit .bad s
 | rd {n:Int} {k:Th->Pg α} {s:Vst}:0 < s.n->(∀t s1,s.look n=Y (t,s1)->Pg.Fit (k t) s1)->Pg.Fit (.rd n k) s
 | lay {t:Th} {k:Pg α} {s:Vst}:0 < s.n->Good t->(s.stop t=U->Pg.Fit k (s.add t))->Pg.Fit (.lay t k) s
theorem Pg.run_ex {α:Type}:∀(p:Pg α)(s:Vst),∃r s',Pg.Run p s r s'
 | .ret x,s=>⟨_,_,.ret⟩
 | .bad,s=>⟨_,_,.bad⟩
 | .rd n k,s=>by
  cases z:s.look n with
  | none=>exact⟨_,_,.lacks z⟩
  | some y=>obtain⟨r,s',h⟩:=run_ex (k y.1) y.2;exact⟨r,s',.rd z h⟩
 | .lay t k,s=>by
  cases z:s.stop t with
  | none=>obtain⟨r,s',h⟩:=run_ex k (s.add t);exact⟨r,s',.lay z h⟩
  | some u=>exact⟨_,_,.clash z⟩
theorem Pg.wp_of {α:Type}{q:α->Vst->Prop}{e:Er->Vst->Prop}:∀{p:Pg α}{s:Vst},p.Fit s->(∀x s',Pg.Run p s (.ok x) s'->q x s')->(∀r s',Pg.Run p s (.error r) s'->e r s')->p.wp s q e
 | .ret x,s,_,hq,_=>hq x s .ret
 | .bad,s,_,_,he=>he _ s .bad
 | .rd n k,s,.rd h0 hf,hq,he=>⟨h0,λt s' z=>wp_of (hf t s' z) (λx s2 r=>hq x s2 (.rd z r)) (λr s2 y=>he r s2 (.rd z y)),λz=>he _ s (.lacks z)⟩
 | .lay t k,s,.lay h0 hg hf,hq,he=>⟨h0,hg,λz=>wp_of (hf z) (λx s2 r=>hq x s2 (.lay z r)) (λr s2 y=>he r s2 (.lay z y)),λu z=>he _ s (.clash z)⟩
theorem Pg.of_wp {α:Type}{q:α->Vst->Prop}:∀{p:Pg α}{s:Vst},p.wp s q e->p.Fit s/\(∀x s',Pg.Run p s (.ok x) s'->q x s')/\(∀r s',Pg.Run p s (.error r) s'->e r s')
 | .ret x,s,h=>⟨.ret,λy s' r=>by cases r;exact h,λ_ _ r=>by cases r⟩
 | .bad,s,h=>⟨.bad,λ_ _ r=>(by cases r),λ_ _ r=>by cases r;exact h⟩
 | .rd n k,s,⟨h0,h1,h2⟩=>by
  refine⟨.rd h0 λt s1 z=>(of_wp (h1 t s1 z)).1,λx s' r=>?_,λr s' y=>?_⟩
  ·cases r with
   | rd z r=>exact(of_wp (h1 _ _ z)).2.1 x s' r
  ·cases y with
   | rd z r=>exact(of_wp (h1 _ _ z)).2.2 _ s' r
   | lacks z=>exact h2 z
 | .lay t k,s,⟨h0,hg,h1,h2⟩=>by
  refine⟨.lay h0 hg λz=>(of_wp (h1 z)).1,λx s' r=>?_,λr s' y=>?_⟩
  ·cases r with
   | lay z r=>exact(of_wp (h1 z)).2.1 x s' r
  ·cases y with
   | lay z r=>exact(of_wp (h1 z)).2.2 _ s' r
   | clash z=>exact h2 _ z
def zqJ {s s':Vst}{n:Int}{t:Th}(h:s.look n=Y (t,s')):Sub s.nt s'.nt:=by
 cases z:zh s.own n with
 | some u=>rw[Vst.look_own z] at h;cases h;exact Sub.refl _
 | none=>
  cases y:zh s.kp n with
  | some u=>rw[Vst.look_kp z y] at h;cases h;exact zqj
  | none=>rw[Vst.look_no z y] at h;cases h
theorem Pg.Run.nt {p:Pg α}{r:Except Er α}(h:Pg.Run p s r s'):Sub s.nt s'.nt:=by
 induction h with
 | ret=>exact Sub.refl _
 | bad=>exact Sub.refl _
 | rd z _ ih=>exact(zqJ z).trans ih
 | lacks=>exact Sub.refl _
 | lay _ _ ih=>exact ih
 | clash=>exact Sub.refl _
def zqp (h:Sub a b)(hb:zh b (zk t)=U\/zh b (zk t)=Y t):Sub (addT a (zk t) t) (addT b (zk t) t):=λn u e=>by
 rcases zaq e with e | ⟨rfl,rfl⟩
 ·exact za9 (h n u e)
 ·exact zas hb
def zs9 {s s':Vst}{n:Int}{t:Th}(h:s.look n=Y (t,s')):s'.n=s.n - 1:=by
 cases z:zh s.own n with
 | some u=>rw[Vst.look_own z] at h;cases h;rfl
 | none=>
  cases y:zh s.kp n with
  | none=>rw[Vst.look_no z y] at h;cases h
  | some u=>rw[Vst.look_kp z y] at h;cases h;rfl
def zjg {s s':Vst}{n:Int}{t:Th}(su:Sub s.nt s.kp)(h:s.look n=Y (t,s')):s'.own=s.own/\s'.kp=s.kp/\Sub s'.nt s'.kp/\(zh s.own n=Y t\/(zh s.own n=U/\zh s'.nt n=Y t))/\∀m,m≠n->zh s'.nt m=zh s.nt m:=by
 cases z:zh s.own n with
 | some u=>rw[Vst.look_own z] at h;cases h;exact⟨O,O,su,.inl rfl,λ_ _=>O⟩
 | none=>
  cases y:zh s.kp n with
  | none=>rw[Vst.look_no z y] at h;cases h
  | some u=>
   rw[Vst.look_kp z y] at h;cases h;have ft:Fits s.nt n t:=by
    cases x:zh s.nt n with
    | none=>exact .inl x
    | some v=>have:=su _ _ x;rw[y] at this;cases this;exact .inr x
   refine⟨O,O,λm v e=>?_,.inr ⟨O,zas ft⟩,λm hm=>?_⟩
   ·rcases zaq e with e | ⟨rfl,rfl⟩
    ·exact su _ _ e
    ·exact y
   ·show zh (addT s.nt n t) m=zh s.nt m;rcases ft with ft | ft
    ·rw[zbg ft,zb3];cases zh s.nt m with
     | some v=>rfl
     | none=>exact au λz=>hm z.symm
    ·rw[zbb ft]
def zpi {w:Vst}{t:Th}(hk:w.kp=[])(h:w.stop t=U):zh w.own (zk t)=U\/zh w.own (zk t)=Y t:=by have:=zg5 h;unfold Vst.all at this;rw[hk,JS] at this;exact this
def Pg.sim {α:Type}{p:Pg α}{r:Except Er α}(h:Pg.Run p s r s'):∀{x:α}{w:Vst},r=.ok x->p.Fit s->s.n<=w.n->Sub s.nt s.kp->Sub s.own w.own->w.kp=[]->Sub s'.nt w.own->p.Fit w/\∃w',Pg.Run p w (.ok x) w'\/∃u t,Pg.Run p w (.error (.clash u t)) w':=by
 induction h with
 | ret=>intro x w e _ _ _ _ _ _;cases e;exact⟨.ret,w,.inl .ret⟩
 | bad=>intro x w e;cases e
 | lacks=>intro x w e;cases e
 | clash=>intro x w e;cases e
 | @rd n k s s1 s' t r z hr ih=>
  intro x w e fi hwn su ho hk hn;obtain⟨e1,e2,su1,hl,_⟩:=zjg su z;have sn:=zs9 z;cases fi with
  | rd f0 ff=>
  have lw:zh w.own n=Y t:=by
   rcases hl with hl | ⟨_,hl⟩
   ·exact ho _ _ hl
   ·exact hn _ _ (hr.nt _ _ hl)
  obtain⟨fw,w',hw⟩:=ih (w:={w with n:=w.n - 1}) e (ff _ _ z) (by show s1.n<=w.n - 1;lia) su1 (by rw[e1];exact ho) hk hn;refine⟨.rd () λt' w1 z'=>(by rw[Vst.look_own lw] at z';cases z';exact fw),w',?_⟩;rcases hw with hw | ⟨u,v,hw⟩
  ·exact .inl (.rd (Vst.look_own lw) hw)
  ·exact .inr ⟨u,v,.rd (Vst.look_own lw) hw⟩
 | @lay t k s s' r z hr ih=>
  intro x w e fi hwn su ho hk hn;cases fi with
  | lay f0 fg ff=>
  cases y:w.stop t with
  | some u=>exact⟨.lay () fg λz'=>(by rw[y] at z';cases z'),w,.inr ⟨u,t,.clash y⟩⟩
  | none=>
   obtain⟨fw,w',hw⟩:=ih (w:=w.add t) e (ff z) (by show s.n - 1<=w.n - 1;lia) su (zqp ho (zpi hk y)) hk λn v e=>za9 (hn n v e);refine⟨.lay () fg λ_=>fw,w',?_⟩;rcases hw with hw | ⟨u,v,hw⟩
   ·exact .inl (.lay y hw)
   ·exact .inr ⟨u,v,.lay y hw⟩
end Pv
namespace L2
open PySem PySem.Spec PyProof.Rows
unseal PE in
def zkn {Ws:List ι}{t:ι->TE}(h:∀W,W∈Ws->PE X e (t W)):PE X e (fun σ H Q=>∃W,W∈Ws/\t W σ H Q):=by intro bH s σ H Q I q;obtain⟨W,hW,q⟩:=q;exact h W hW bH s σ H Q I q
end L2
namespace Pv
open PySem L2
abbrev zco:aB:=inClass (top 80) 0
abbrev zbW:aB:=inClass (top 80) 1
abbrev zbn:aB:=inClass (top 81) 0
abbrev zaU:aB:=inClass (top 81) 1
abbrev zcf:aB:=inClass (top 82) 0
abbrev zbF:aB:=inClass (top 82) 1
abbrev zdk:aB:=inClass (top 83) 0
abbrev zcK:aB:=inClass (top 83) 1
abbrev zdh:aB:=inClass (top 84) 0
abbrev zcH:aB:=inClass (top 84) 1
abbrev zdp:aB:=inClass (top 85) 0
abbrev zcG:aB:=inClass (top 85) 1
inductive Qn where
 | find (k:Th)
 | str (lo hi:Th)
 | cnt (lo hi:Th)
 | nth (i:Int)
 | put (k w:Th)
 | cut (k:Th)
inductive Kd where
 | fi | st | co | nt | pu | cu
def Qn.kd:Qn->Kd
 | .find _=>.fi
 | .str _ _=>.st
 | .cnt _ _=>.co
 | .nth _=>.nt
 | .put _ _=>.pu
 | .cut _=>.cu
def zfY:List Kd:=[.fi,.st,.co,.nt,.pu,.cu]
def zn2 (k:Kd):k∈zfY:=by cases k <;> simp[zfY]
def Qn.fs (H:Hp):Qn->List (Str ×V)->Prop
 | .find k,fs=>∃v,fs=[(("key" :Str),v)]/\Rep H k v
 | .str lo hi,fs=>∃v u,fs=[(("low" :Str),v),(("high" :Str),u)]/\Rep H lo v/\Rep H hi u
 | .cnt lo hi,fs=>∃v u,fs=[(("low" :Str),v),(("high" :Str),u)]/\Rep H lo v/\Rep H hi u
 | .nth i,fs=>fs=[(("number" :Str),V.int i)]
 | .put k w,fs=>∃v u,fs=[(("key" :Str),v),(("worth" :Str),u)]/\Rep H k v/\Rep H w u
 | .cut k,fs=>∃v,fs=[(("key" :Str),v)]/\Rep H k v
def Qn.fs_keep {q:Qn}{fs:QI}(t:Tups H H')(h:q.fs H fs):q.fs H' fs:=by
 cases q with
 | find k=>obtain⟨v,e,r⟩:=h;exact⟨v,e,r.keep t⟩
 | str lo hi=>obtain⟨v,u,e,r,s⟩:=h;exact⟨v,u,e,r.keep t,s.keep t⟩
 | cnt lo hi=>obtain⟨v,u,e,r,s⟩:=h;exact⟨v,u,e,r.keep t,s.keep t⟩
 | nth i=>exact h
 | put k w=>obtain⟨v,u,e,r,s⟩:=h;exact⟨v,u,e,r.keep t,s.keep t⟩
 | cut k=>obtain⟨v,e,r⟩:=h;exact⟨v,e,r.keep t⟩
def Qn.noAns {H:Hp}{q:Qn}{fs:QI}(h:q.fs H fs):fs.lookup ("answer" :Str)=U:=by
 cases q with
 | find k=>obtain⟨v,rfl,_⟩:=h;rfl
 | str lo hi=>obtain⟨v,u,rfl,_⟩:=h;rfl
 | cnt lo hi=>obtain⟨v,u,rfl,_⟩:=h;rfl
 | nth i=>cases h;rfl
 | put k w=>obtain⟨v,u,rfl,_⟩:=h;rfl
 | cut k=>obtain⟨v,rfl,_⟩:=h;rfl
def QAt (cl:Kd->aE)(H:Hp)(q:Qn)(b:aE):Prop:=∃dx fs,H b=Y (.ins (cl q.kd) dx fs)/\q.fs H fs
theorem QAt.same {cl:Kd->aE}{H H':Hp}{q:Qn}{b:aE}(h:QAt cl H q b)(s:Same H H'):QAt cl H' q b:=by obtain⟨dx,fs,e,f⟩:=h;exact⟨dx,fs,s _ _ e,Qn.fs_keep (Same.ay s) f⟩
def QAt.go {cl:Kd->aE}{C:aE}{VR:VRT}(I:VI C VR){H H':Hp}{a b:aE}{D:QP}{s:Vst}{q:Qn}(h:QAt cl H q b)(v:VR H a D s)(f:Frm D H H'):QAt cl H' q b:=by obtain⟨dx,fs,e,g⟩:=h;exact⟨dx,fs,f _ _ (I.not v e (by intro kv z;cases z)) e,Qn.fs_keep (I.ay v f) g⟩
inductive Av where
 | th (t:Th)
 | ls (ps:QH)
def AvF (H0 H:Hp):Av->V->Prop
 | .th t,v=>Rep H t v
 | .ls ps,v=>zcq H0 H ps v
def ansP (n:Int):Qn->Pg Av
 | .find k=>(zij n k).bind λt=>.ret (.th t)
 | .str lo hi=>(strP n lo hi).bind λps=>.ret (.ls ps)
 | .cnt lo hi=>(zdW n lo hi).bind λi=>.ret (.th (.int i))
 | .nth i=>(nthQ n i).bind λt=>.ret (.th t)
 | .put k w=>(putP n k w).bind λi=>.ret (.th (.int i))
 | .cut k=>(cutP n k).bind λi=>.ret (.th (.int i))
def QOk:Qn->Prop
 | .find k=>dep k<=8
 | .str lo hi=>dep lo<=8/\dep hi<=8
 | .cnt lo hi=>dep lo<=8/\dep hi<=8
 | .nth _=>True
 | .put k _=>Good k
 | .cut k=>dep k<=8
inductive zbz (cl:Kd->aE)(VR:VRT)(CN CB CC:aE)(kd:Kd)(vs:QR)(H:Hp)(Q:L2.VK)(E:XK):Prop
 | mk (b a:aE)(D:QP)(s:Vst)(n:Int)(q:Qn)(_:vs=[.ref b,.ref a,.int n])(_:q.kd=kd)(_:QAt cl H q b)(_:QOk q)(_:VR H a D s)(_:Out VR CN CB CC a D (ansP n q) s (AvF H) H Q E):zbz cl VR CN CB CC kd vs H Q E
inductive spI1 (C:aE)(f:Str)(vs:QR)(H:Hp)(Q:L2.VK)(_E:XK):Prop
 | mk (a dx:aE)(v:V)(_:vs=[.ref a,v])(_:H a=Y (.ins C dx [])) (_:∀H',(∀b o,b≠a->H b=Y o->H' b=Y o)->H' a=Y (.ins C dx [(f,v)])->Q .non H'):spI1 C f vs H Q _E
inductive spI2 (C:aE)(f g:Str)(vs:QR)(H:Hp)(Q:L2.VK)(_E:XK):Prop
 | mk (a dx:aE)(v u:V)(_:vs=[.ref a,v,u])(_:H a=Y (.ins C dx [])) (_:∀H',(∀b o,b≠a->H b=Y o->H' b=Y o)->H' a=Y (.ins C dx [(f,v),(g,u)])->Q .non H'):spI2 C f g vs H Q _E
def zkE {f g:Str}{v:V}(h:(f==g)=G):putF g u [(f,v)]=[(f,v),(g,u)]:=by
 unfold putF;rw[au (by intro z;rw[z,beq_self_eq_true] at h;cases h)]
 rfl
section
variable {cl:Kd->aE}
abbrev _root_.Sz:List PySem.Str:=["self","key"]
def zoL (D:Mkd K mg "Find" A "Find.__init__" zco Sz) (c:Cls K A) (n1:zm K A "key"):Mkr P w K mg ax "Find" A 1 Sz (spI1 A "key"):=by refine D.ok (k:=0) (fsN Sz) (λf cdv A' outer s H vs Q E hr h=>?_);obtain⟨a,dx,v,rfl,ea,q⟩:=h;refine⟨aq⟩;exact⟨ap,a,A,dx,[],O,ea,c,n1,(),q _ (λb o n e=>by rw[zd n];exact e) za⟩
abbrev _root_.Sr:List PySem.Str:=["self","low","high"]
def zjh (D:Mkd K mg "Stretch" A "Stretch.__init__" zbn Sr) (c:Cls K A) (n1:zm K A "low") (n2:zm K A "high"):Mkr P w K mg ax "Stretch" A 1 Sr (spI2 A "low" "high"):=by refine D.ok (k:=0) (fsN Sr) (λf cdv A' outer s H vs Q E hr h=>?_);obtain⟨a,dx,v,u,rfl,ea,q⟩:=h;refine⟨aq⟩;refine⟨ap,a,A,dx,[],O,ea,c,n1,(),?_⟩;refine⟨ap,a,A,dx,B,za,c,n2,(show(1:Nat) < 1000 by decide),q _ (λb o n e=>by rw[zd n,zd n];exact e) ?_⟩;rw[za];exact congrArg (λz=>Y (HO.ins A dx z)) (zkE ())
def zmo (D:Mkd K mg "Count" A "Count.__init__" zcf Sr) (c:Cls K A) (n1:zm K A "low") (n2:zm K A "high"):Mkr P w K mg ax "Count" A 1 Sr (spI2 A "low" "high"):=by refine D.ok (k:=0) (fsN Sr) (λf cdv A' outer s H vs Q E hr h=>?_);obtain⟨a,dx,v,u,rfl,ea,q⟩:=h;refine⟨aq⟩;refine⟨ap,a,A,dx,[],O,ea,c,n1,(),?_⟩;refine⟨ap,a,A,dx,B,za,c,n2,(show(1:Nat) < 1000 by decide),q _ (λb o n e=>by rw[zd n,zd n];exact e) ?_⟩;rw[za];exact congrArg (λz=>Y (HO.ins A dx z)) (zkE ())
def zqq (D:Mkd K mg "Nth" A "Nth.__init__" zdk Se) (c:Cls K A) (n1:zm K A "number"):Mkr P w K mg ax "Nth" A 1 Se (spI1 A "number"):=by refine D.ok (k:=0) (fsN Se) (λf cdv A' outer s H vs Q E hr h=>?_);obtain⟨a,dx,v,rfl,ea,q⟩:=h;refine⟨aq⟩;exact⟨ap,a,A,dx,[],O,ea,c,n1,(),q _ (λb o n e=>by rw[zd n];exact e) za⟩
abbrev _root_.SJ:List PySem.Str:=["self","key","worth"]
def zp8 (D:Mkd K mg "Put" A "Put.__init__" zdh SJ) (c:Cls K A) (n1:zm K A "key") (n2:zm K A "worth"):Mkr P w K mg ax "Put" A 1 SJ (spI2 A "key" "worth"):=by refine D.ok (k:=0) (fsN SJ) (λf cdv A' outer s H vs Q E hr h=>?_);obtain⟨a,dx,v,u,rfl,ea,q⟩:=h;refine⟨aq⟩;refine⟨ap,a,A,dx,[],O,ea,c,n1,(),?_⟩;refine⟨ap,a,A,dx,B,za,c,n2,(show(1:Nat) < 1000 by decide),q _ (λb o n e=>by rw[zd n,zd n];exact e) ?_⟩;rw[za];exact congrArg (λz=>Y (HO.ins A dx z)) (zkE ())
def zqS (D:Mkd K mg "Cut" A "Cut.__init__" zdp Sz) (c:Cls K A) (n1:zm K A "key"):Mkr P w K mg ax "Cut" A 1 Sz (spI1 A "key"):=by refine D.ok (k:=0) (fsN Sz) (λf cdv A' outer s H vs Q E hr h=>?_);obtain⟨a,dx,v,rfl,ea,q⟩:=h;refine⟨aq⟩;exact⟨ap,a,A,dx,[],O,ea,c,n1,(),q _ (λb o n e=>by rw[zd n];exact e) za⟩
abbrev _root_.Sa:List PySem.Str:=["self","vault","root"]
def znp (D:Mdf K (cl .fi) "answer" "Find.answer" zbW Sa) (zuT:FnX P w K mg ax "found" 23 Sb (zfy VR CN CB CC)) (c:Cls K (cl .fi)) (n1:zm K (cl .fi) "key"):Mt P w K mg ax (CX1 P w) (cl .fi) "answer" 25 Sa (zbz cl VR CN CB CC .fi):=by
 refine D.okX (k:=24) (fsN Sa) ⟨⟩;obtain⟨b,a,D,s,n,qn,rfl,hk,⟨dx,fs,eb,hf⟩,qo,vs,h⟩:=h;refine⟨aq⟩;have int:∀(m:Int)(s':Vst),(Pg.ret (Av.th (Th.int m))).wp s' (OutQ VR a D (AvF H) H Q) (OutE VR CN CB CC a D H E)->OutQ VR a D IntR H Q m s':=λm s' z v H' f' vs' ev=>by have ev':v=.int m:=ev;subst ev';exact z _ H' f' vs' (Rep.int m)
 cases qn with
 | str _ _=>cases hk
 | cnt _ _=>cases hk
 | nth _=>cases hk
 | put _ _=>cases hk
 | cut _=>cases hk
 | find k=>
 obtain⟨v,rfl,rk⟩:=hf;unfold Out ansP at h;rw[Pg.az] at h;exact⟨ap,B,b,cl .fi,dx,_,B,eb,c,n1,O,a,D,s,n,k,v,O,vs,rk,qo,Pg.aA (λt s1 z v1 H1 f1 vs1 r1=>z v1 H1 f1 vs1 r1) (λ_ _ z=>z) h⟩
def zi9 (D:Mdf K (cl .st) "answer" "Stretch.answer" zaU Sa) (ztM:FnX P w K mg ax "stretch" 22 Sh (zj1 VR CN CB CC)) (c:Cls K (cl .st)) (n1:zm K (cl .st) "low") (n2:zm K (cl .st) "high"):Mt P w K mg ax (CX1 P w) (cl .st) "answer" 25 Sa (zbz cl VR CN CB CC .st):=by
 refine D.okX (k:=24) (fsN Sa) ⟨⟩;obtain⟨b,a,D,s,n,qn,rfl,hk,⟨dx,fs,eb,hf⟩,qo,vs,h⟩:=h;refine⟨aq⟩;have int:∀(m:Int)(s':Vst),(Pg.ret (Av.th (Th.int m))).wp s' (OutQ VR a D (AvF H) H Q) (OutE VR CN CB CC a D H E)->OutQ VR a D IntR H Q m s':=λm s' z v H' f' vs' ev=>by have ev':v=.int m:=ev;subst ev';exact z _ H' f' vs' (Rep.int m)
 cases qn with
 | find _=>cases hk
 | cnt _ _=>cases hk
 | nth _=>cases hk
 | put _ _=>cases hk
 | cut _=>cases hk
 | str lo hi=>
 obtain⟨v,u,rfl,r1,r2⟩:=hf;unfold Out ansP at h;rw[Pg.az] at h;exact⟨ap,B,b,cl .st,dx,_,B,eb,c,n1,O,B,b,cl .st,dx,_,B,eb,c,n2,O,a,D,s,n,lo,hi,v,u,O,vs,r1,r2,qo.1,qo.2,Pg.aA (λt s1 z v1 H1 f1 vs1 r1=>z v1 H1 f1 vs1 r1) (λ_ _ z=>z) h⟩
def zmQ (D:Mdf K (cl .co) "answer" "Count.answer" zbF Sa) (ztN:FnX P w K mg ax "counted" 24 Sh (zdt VR CN CB CC)) (c:Cls K (cl .co)) (n1:zm K (cl .co) "low") (n2:zm K (cl .co) "high"):Mt P w K mg ax (CX1 P w) (cl .co) "answer" 25 Sa (zbz cl VR CN CB CC .co):=by
 refine D.okX (k:=24) (fsN Sa) ⟨⟩;obtain⟨b,a,D,s,n,qn,rfl,hk,⟨dx,fs,eb,hf⟩,qo,vs,h⟩:=h;refine⟨aq⟩;have int:∀(m:Int)(s':Vst),(Pg.ret (Av.th (Th.int m))).wp s' (OutQ VR a D (AvF H) H Q) (OutE VR CN CB CC a D H E)->OutQ VR a D IntR H Q m s':=λm s' z v H' f' vs' ev=>by have ev':v=.int m:=ev;subst ev';exact z _ H' f' vs' (Rep.int m)
 cases qn with
 | find _=>cases hk
 | str _ _=>cases hk
 | nth _=>cases hk
 | put _ _=>cases hk
 | cut _=>cases hk
 | cnt lo hi=>
 obtain⟨v,u,rfl,r1,r2⟩:=hf;unfold Out ansP at h;rw[Pg.az] at h;exact⟨ap,B,b,cl .co,dx,_,B,eb,c,n1,O,B,b,cl .co,dx,_,B,eb,c,n2,O,a,D,s,n,lo,hi,v,u,O,vs,r1,r2,qo.1,qo.2,Pg.aA int (λ_ _ z=>z) h⟩
def zq7 (D:Mdf K (cl .nt) "answer" "Nth.answer" zcK Sa) (zu5:FnX P w K mg ax "nth" 6 SH (zj0 VR CN CB CC)) (c:Cls K (cl .nt)) (n1:zm K (cl .nt) "number"):Mt P w K mg ax (CX1 P w) (cl .nt) "answer" 25 Sa (zbz cl VR CN CB CC .nt):=by
 refine D.okX (k:=24) (fsN Sa) ⟨⟩;obtain⟨b,a,D,s,n,qn,rfl,hk,⟨dx,fs,eb,hf⟩,qo,vs,h⟩:=h;refine⟨aq⟩;have int:∀(m:Int)(s':Vst),(Pg.ret (Av.th (Th.int m))).wp s' (OutQ VR a D (AvF H) H Q) (OutE VR CN CB CC a D H E)->OutQ VR a D IntR H Q m s':=λm s' z v H' f' vs' ev=>by have ev':v=.int m:=ev;subst ev';exact z _ H' f' vs' (Rep.int m)
 cases qn with
 | find _=>cases hk
 | str _ _=>cases hk
 | cnt _ _=>cases hk
 | put _ _=>cases hk
 | cut _=>cases hk
 | nth i=>
 have hf:fs=_:=hf;subst hf;unfold Out ansP at h;rw[Pg.az] at h;exact⟨ap,B,b,cl .nt,dx,_,B,eb,c,n1,O,a,D,s,n,i,O,vs,Pg.aA (λt s1 z v1 H1 f1 vs1 r1=>z v1 H1 f1 vs1 r1) (λ_ _ z=>z) h⟩
def zqR (D:Mdf K (cl .pu) "answer" "Put.answer" zcH Sa) (zrW:FnX P w K mg ax "put" 23 Sq (zfI VR CN CB CC)) (c:Cls K (cl .pu)) (n1:zm K (cl .pu) "key") (n2:zm K (cl .pu) "worth"):Mt P w K mg ax (CX1 P w) (cl .pu) "answer" 25 Sa (zbz cl VR CN CB CC .pu):=by
 refine D.okX (k:=24) (fsN Sa) ⟨⟩;obtain⟨b,a,D,s,n,qn,rfl,hk,⟨dx,fs,eb,hf⟩,qo,vs,h⟩:=h;refine⟨aq⟩;have int:∀(m:Int)(s':Vst),(Pg.ret (Av.th (Th.int m))).wp s' (OutQ VR a D (AvF H) H Q) (OutE VR CN CB CC a D H E)->OutQ VR a D IntR H Q m s':=λm s' z v H' f' vs' ev=>by have ev':v=.int m:=ev;subst ev';exact z _ H' f' vs' (Rep.int m)
 cases qn with
 | find _=>cases hk
 | str _ _=>cases hk
 | cnt _ _=>cases hk
 | nth _=>cases hk
 | cut _=>cases hk
 | put k wo=>
 obtain⟨v,u,rfl,rk,rw'⟩:=hf;unfold Out ansP at h;rw[Pg.az] at h;exact⟨ap,B,b,cl .pu,dx,_,B,eb,c,n1,O,B,b,cl .pu,dx,_,B,eb,c,n2,O,a,D,s,n,k,wo,v,u,O,vs,rk,qo,rw',Pg.aA int (λ_ _ z=>z) h⟩
def zpV (D:Mdf K (cl .cu) "answer" "Cut.answer" zcG Sa) (zuA:FnX P w K mg ax "cut" 23 Sb (zgn VR CN CB CC)) (c:Cls K (cl .cu)) (n1:zm K (cl .cu) "key"):Mt P w K mg ax (CX1 P w) (cl .cu) "answer" 25 Sa (zbz cl VR CN CB CC .cu):=by
 refine D.okX (k:=24) (fsN Sa) ⟨⟩;obtain⟨b,a,D,s,n,qn,rfl,hk,⟨dx,fs,eb,hf⟩,qo,vs,h⟩:=h;refine⟨aq⟩;have int:∀(m:Int)(s':Vst),(Pg.ret (Av.th (Th.int m))).wp s' (OutQ VR a D (AvF H) H Q) (OutE VR CN CB CC a D H E)->OutQ VR a D IntR H Q m s':=λm s' z v H' f' vs' ev=>by have ev':v=.int m:=ev;subst ev';exact z _ H' f' vs' (Rep.int m)
 cases qn with
 | find _=>cases hk
 | str _ _=>cases hk
 | cnt _ _=>cases hk
 | nth _=>cases hk
 | put _ _=>cases hk
 | cut k=>
 obtain⟨v,rfl,rk⟩:=hf;unfold Out ansP at h;rw[Pg.az] at h;exact⟨ap,B,b,cl .cu,dx,_,B,eb,c,n1,O,a,D,s,n,k,v,O,vs,rk,qo,Pg.aA int (λ_ _ z=>z) h⟩
end
abbrev zcy:aB:=inClass (top 86) 0
abbrev zb0:aB:=inClass (top 86) 1
def zfP (n:Int):List Qn->Pg (List Av)
 | []=>.ret []
 | q::r=>(ansP n q).bind λx=>(zfP n r).bind λxs=>.ret (x::xs)
structure QsAt (cl:Kd->aE)(CA:aE)(H:Hp)(qs:List Qn)(b:aE):Prop where
 ob:∃(dx pl:aE)(vs:QR),H b=Y (.ins CA dx [("asks",.ref pl)])/\H pl=Y (.lst vs)/\vs.length=qs.length/\∀(i:Nat)(q:Qn),qs[i]? =Y q->∃b',vs[i]? =Y (.ref b')/\QAt cl H q b'
def AvR (H:Hp):Av->V->Prop
 | .th t,v=>Rep H t v
 | .ls ps,v=>zo2 H ps v
def AvsR (H:Hp)(xs:List Av)(v:V):Prop:=∃(p:aE)(vs:QR),v=.ref p/\H p=Y (.lst vs)/\vs.length=xs.length/\∀(i:Nat)(x:Av)(u:V),xs[i]? =Y x->vs[i]? =Y u->AvR H x u
def AvN (p:aE)(H:Hp)(x:Av)(u:V):Prop:=AvR H x u/\∀ps,x=.ls ps->u≠ .ref p
theorem AvN.keep (h:AvN p H x u)(t:Tups H H')(l:∀b xs,b≠p->H b=Y (.lst xs)->H' b=Y (.lst xs)):AvN p H' x u:=by
 refine⟨?_,h.2⟩;cases x with
 | th t'=>exact Rep.keep h.1 t
 | ls ps=>obtain⟨pp,xs,rfl,e,r,k⟩:=h.1;exact⟨pp,xs,O,l pp xs (λz=>h.2 ps rfl (by rw[z])) e,r.keep t,k⟩
theorem AvF.non {p:aE}{o:HO}(h:AvF H0 H x u)(e:H0 p=Y o):AvN p H x u:=by
 cases x with
 | th t=>exact⟨h,λ_ z=>by cases z⟩
 | ls ps=>exact⟨h.1,λ_ _ z=>by rw[h.2 p z] at e;cases e⟩
inductive zhS (cl:Kd->aE)(CA:aE)(VR:VRT)(CN CB CC:aE)(vs:QR)(H:Hp)(Q:L2.VK)(E:XK):Prop
 | mk (b a:aE)(D:QP)(s:Vst)(n:Int)(qs:List Qn)(_:vs=[.ref b,.ref a,.int n])(_:QsAt cl CA H qs b)(_:qs.length<=100)(_:(∀q∈qs,QOk q)) (_:VR H a D s) (_:Out VR CN CB CC a D (zfP n qs) s AvsR H Q E):zhS cl CA VR CN CB CC vs H Q E
inductive zhx (CA:aE)(vs:QR)(H:Hp)(Q:L2.VK)(_E:XK):Prop
 | mk (a dx pl:aE)(xs:QR)(_:vs=[.ref a,.ref pl])(_:H a=Y (.ins CA dx [])) (_:H pl=Y (.lst xs)) (_:∀(p:aE)(H':Hp),H p=U->(∀b o,b≠a->H b=Y o->H' b=Y o)->H' a=Y (.ins CA dx [("asks",.ref p)])->H' p=Y (.lst xs)->Q .non H'):zhx CA vs H Q _E
section
variable {cl:Kd->aE}
def znn (D:Mkd K mg "Also" A "Also.__init__" zcy ["self","asks"]) (zix:mg "list" =U) (c:Cls K A) (n1:zm K A "asks"):Mkr P w K mg ax "Also" A 1 ["self","asks"] (zhx A):=by
 refine D.ok (k:=0) (fsN ["self","asks"]) (λf cdv A' outer s H vs Q E hr h=>?_);obtain⟨a,dx,pl,xs,rfl,ea,el,q⟩:=h;refine⟨aq⟩;refine⟨B,pl,xs,O,.inl (SqL.of el),λp hp=>?_⟩;have ea1:upd H p (.lst xs) a=Y (.ins A dx []):=by rw[zd (zf ea hp)];exact ea
 refine⟨B,a,A,dx,[],O,ea1,c,n1,(),q p _ hp (λb o n e=>by rw[zd n,zd (zf e hp)];exact e) za ?_⟩;rw[zd (λz=>by rw[z] at hp;rw[hp] at ea;cases ea)];exact za
def zoy (I:VI C VR)(D:Mdf K CA "answer" "Also.answer" zb0 Sa) (M:∀k∈zfY,Mt P w K mg ax (CX1 P w) (cl k) "answer" 25 Sa (zbz cl VR CN CB CC k)) (Cc:∀k∈zfY,Cls K (cl k)) (c:Cls K CA) (n1:zm K CA "asks"):Mt P w K mg ax (CX1 P w) CA "answer" 26 Sa (zhS cl CA VR CN CB CC):=by
 refine D.okX (k:=25) (fsN Sa) ⟨⟩;obtain⟨b,a,D,st,n,qs,rfl,⟨dx,pl,vs0,eb,el,hl,hq⟩,h100,qo,vs,h⟩:=h;refine⟨_,(zx (zQ (zml (E:=E) (by rfl) (by rfl) (by rfl) zof (zo.two (y1:= "vault") (y2:= "root") (j1:=1) (j2:=2) (c1:=s.heap.objs.size+1) (c2:=s.heap.objs.size+2) (by rfl) (by rfl) (by decide+kernel) (by decide+kernel) (by rfl) (by decide+kernel) (by decide+kernel) (by decide+kernel) (by rfl) (by rfl) (by decide+kernel) (by rfl) (by rfl) (by first | exact Or.inl rfl | exact Or.inr rfl) (by first | exact Or.inl rfl | exact Or.inr rfl) (by first | exact Or.inl rfl | exact Or.inr rfl) (by first | exact Or.inl rfl | exact Or.inr rfl)) rfl ∅ (λ_ _ _=>za5) (λ_ _ _=>(zkn λW hW=>zgm (pv 0) (Cc W hW) (M W hW) hr () zrH ∅))))),?_⟩;refine⟨B,b,CA,dx,_,B,eb,c,n1,O,pl,O,⟨_,SqL.of el⟩,λp hp=>?_⟩;refine zaN (n:=qs.length) (λi acc H'=>∃(st':Vst)(xs:List Av),acc.length=i/\xs.length=i/\(∀(j:Nat)(x:Av)(u:V),xs[j]? =Y x->acc[j]? =Y u->AvN p H' x u)/\Frm D H H'/\VR H' a D st'/\H' p=Y (.lst acc)/\
  (zfP n (qs.drop i)).wp st' (λys s1=>OutQ VR a D AvsR H Q (xs++ys) s1) (OutE VR CN CB CC a D H E)) ⟨st,[],O,O,λj x u z=>(by cases z),Frm.new hp,I.same vs (zj (Same.refl H) hp),za,h⟩ ?_ ?_ ?_ ?_
 ·rintro i acc H' hi ⟨st',xs,la,lx,rr,fr,vs',ep,hw⟩;exact⟨vs0,vs0[i],SqL.of (I.lst vs fr el),JD ()⟩
 ·rintro acc H' ⟨st',xs,la,lx,rr,fr,vs',ep,hw⟩;exact⟨vs0,SqL.of (I.lst vs fr el),()⟩
 ·rintro i acc H' y H'' hi ⟨st',xs,la,lx,rr,fr,vs',ep,hw⟩ ⟨z1,z2⟩;subst z1;obtain⟨b',eb',qa⟩:=hq i qs[i] (JD hi);have ey:=z2 vs0 (SqL.of (I.lst vs fr el));rw[eb'] at ey;have ey2:=(JP ey).symm;subst ey2;have qa':=qa.go I vs fr;have hd:qs.drop i=qs[i]::qs.drop (i+1):=Jp hi;rw[hd] at hw;unfold zfP at hw;rw[Pg.az] at hw;obtain⟨dx',fs',eo,hf⟩:=qa';refine tt1 ⟨qs[i].kd,zn2 _,B,b',dx',fs',O,eo,Qn.noAns hf,ap,b',a,D,st',n,qs[i],O,O,⟨dx',fs',eo,hf⟩,qo _ (Jm hi),vs',Pg.aA (λx s1 z v H3 f3 vs3 r3=>?_) (OutE.on fr) hw⟩;have np:=I.not vs' ep (by intro kv z;cases z);have ep3:=f3 p _ np ep;have h0:H p=U:=hp;have tk:Tups H'' (upd H3 p (.lst (acc++ [v]))):=(I.ay vs' f3).trans (Tups.upd λxs z=>by rw[ep3] at z;cases z);have tk3:Tups H3 (upd H3 p (.lst (acc++ [v]))):=Tups.upd λxs z=>by rw[ep3] at z;cases z
  refine⟨ep3,Je (show acc.length < 1000000 by lia) (by decide+kernel),nxt hi ⟨s1,xs++ [x],by rw[JF,la];rfl,by rw[JF,lx];rfl,λj x' u e1 e2=>?_,zbs (fr.trans f3) h0,I.nl vs3 (NL.lst ep3),za,?_⟩⟩
  ·by_cases hj:j < i
   ·rw[Nt ()] at e1 e2;exact(rr j x' u e1 e2).keep tk λb xs nb e=>by rw[zd nb];exact I.lst vs' f3 e
   ·rw[JY (),lx] at e1;rw[JY (),la] at e2;have ej:j - i=0:=by
     cases w:j - i with
     | zero=>rfl
     | succ k=>rw[w] at e1;cases e1
    rw[ej] at e1 e2;cases e1;cases e2;exact(AvF.non r3 ep).keep tk3 λb xs nb e=>by rw[zd nb];exact e
  ·rw[Pg.az] at z;refine Pg.aA (λys s2 z2=>?_) (λ_ _ z=>z) z;rw[Nj];exact z2
 ·rintro acc H' ⟨st',xs,la,lx,rr,fr,vs',ep,hw⟩;rw[List.drop_length] at hw;have hw':OutQ VR a D AvsR H Q (xs++ []) st':=hw;rw[JS] at hw';exact hw' _ H' fr vs' ⟨p,acc,O,ep,by rw[la,lx],λi x u e1 e2=>(rr i x u e1 e2).1⟩
end
abbrev zhh:aB:=top 27
abbrev zbN:aB:=top 28
abbrev zaJ:aB:=top 29
abbrev zaS:aB:=top 30
theorem lt1 (c k:Nat):decide ([c] < [k])=decide (c < k):=by
 by_cases h:c < k
 ·rw[aw h];exact aw (by simp[List.cons_lt_cons_iff,h])
 ·rw[Jc h];exact Jc (by simp[List.cons_lt_cons_iff];lia)
def zsF:Ob->Bool
 | .int _=>Z
 | _=>G
inductive zgg (CN:aE)(vs:QR)(H:Hp)(Q:L2.VK)(_E:XK):Prop
 | mk (t:Ob)(v:V)(_:vs=[v])(_:RepO CN H t v)(_:Q (.bl (zsF t)) H):zgg CN vs H Q _E
inductive zgs (vs:QR)(H:Hp)(Q:L2.VK)(_E:XK):Prop
 | mk (x:Str)(_:vs=[.str x])(_:Q (.bl (x.cps.toList.all zbo)) H):zgs vs H Q _E
inductive spWO (CN:aE)(n:Nat)(vs:QR)(H:Hp)(Q:L2.VK)(_E:XK):Prop
 | mk (t:Ob)(v:V)(d:Nat)(_:vs=[v,.int (d:Int)]) (_:RepO CN H t v) (_:OkO t) (_:d < n) (_:Q (.bl (within t d)) H):spWO CN n vs H Q _E
inductive spTO (CN:aE)(n:Nat)(vs:QR)(H:Hp)(Q:L2.VK)(_E:XK):Prop
 | mk (ts:List Ob)(v:V)(d:Nat)(_:vs=[v,.int (d:Int)]) (_:RepO CN H (.tup ts) v) (_:OkO (.tup ts)) (_:d<=n) (_:Q (.bl (within (.tup ts) d)) H):spTO CN n vs H Q _E
inductive zo4 (CN:aE)(vs:QR)(H:Hp)(Q:L2.VK)(_E:XK):Prop
 | mk (t:Ob)(v:V)(_:vs=[v])(_:RepO CN H t v)(_:OkO t)(_:Q (.bl (within t 5)) H):zo4 CN vs H Q _E
def zmW (nt:NTk K CN)(D:Dfn K mg "is_whole" zeB SO) (zg:mg "isinstance" =U) (za0:mg "int" =U) (ziv:mg "bool" =U):Fn P w K mg ax "is_whole" 1 SO (zgg CN):=by
 refine D.ok (k:=0) (fsN SO) ⟨⟩;obtain⟨t,v,rfl,rv,q⟩:=h;refine⟨_,(zx (zQ (zfs (zC (za1 nt) (by rfl) zg (by rfl) ∅) (zdx (zil (zC (za1 nt) (by rfl) zg (by rfl) ∅)))))),?_⟩;refine⟨B,t,v,.int,O,rv,ar⟩;cases rv with
 | int i=>exact ifT rfl ⟨B,.int i,_,.bool,O,.int i,B,q⟩
 | bl b=>exact ifT rfl ⟨B,.bl b,_,.bool,O,.bl b,B,q⟩
 | non=>exact ifF rfl q
 | str x=>exact ifF rfl q
 | tup e l h=>exact ifF rfl q
 | lst e=>exact ifF rfl q
 | dic e=>exact ifF rfl q
 | exc e=>exact ifF rfl q
theorem znO {l:List Nat}{p:Nat->Bool}{i c:Nat}(e:l[i]? =Y c)(h:(l.take i).all p=Z):(l.take (i+1)).all p=p c:=by rw[Na,e,List.all_append,h];simp
theorem zfX {l:List Nat}{p:Nat->Bool}{i c:Nat}(e:l[i]? =Y c)(h:p c=G):l.all p=G:=by
 cases z:l.all p with
 | false=>rfl
 | true=>have:=List.all_eq_true.mp z c (J2 e);rw[h] at this;cases this
def zmk (D:Dfn K mg "has_signs_of_things" zaS ["text"]) (m_ord:mg "ord" =U) (zhu:mg "PERCENT" =Y (.int 37 t5)):Fn P w K mg ax "has_signs_of_things" 1 ["text"] zgs:=by
 refine D.ok (k:=0) (fsN ["text","sign"]) ⟨⟩;obtain⟨x,rfl,q⟩:=h;refine⟨_,(zb (zdy PassesOwn.never rfl (zoG (pv 0)) ∅
 (zx (zag (PW.pt (zgS (zcL (zi6 zgW zgW zcw (pv 1) zcw)) (zhQ ∅)))
 ∅
 zE)))
 ∅),?_⟩
 refine⟨B,x,O,?_⟩;refine zlK (z:=x) (λi σ H'=>∃k,σ=[Y (.str x),k]/\H'=H/\(x.cps.toList.take i).all zbo=Z) ⟨B,O,O⟩ ?_ ?_
 ·rintro i c σ H' hc ⟨k,rfl,rfl,ha⟩;have hc':x.cps.toList[i]? =Y c:=(Nb (xs:=x.cps) (i:=i)).trans hc;refine⟨B,am,ar⟩;by_cases h1:32<=c
  ·have e1:(!decide ((⟨#[c]⟩:Str).cps.toList < (bz " ").cps.toList))=Z:=by show(!decide ([c] < [32]))=Z;rw[lt1,Jc ()];rfl
   refine ifT e1 ?_;refine⟨am,ar⟩;by_cases h2:c<=126
   ·have e2:(!decide ((bz "~").cps.toList < (⟨#[c]⟩:Str).cps.toList))=Z:=by show(!decide ([126] < [c]))=Z;rw[lt1,Jc ()];rfl
    refine ifF (by rw[e2];rfl) ?_;refine⟨ap,O,ao⟩;rw[zaa];by_cases h3:c=37
    ·refine ifT (aw (by show(c:Int)=37;lia)) ?_;rw[zfX hc' (by unfold zbo;rw[h3];rfl)] at q;exact q
    ·refine ifF (Jc ?_) ⟨B,O,?_⟩
     ·show¬((c:Int)=37);lia
     ·rw[znO hc' ha];unfold zbo;rw[aw h1,aw h2,Jc h3];rfl
   ·have e2:(!decide ((bz "~").cps.toList < (⟨#[c]⟩:Str).cps.toList))=G:=by show(!decide ([126] < [c]))=G;rw[lt1,aw ()];rfl
    refine ifT (by rw[e2];rfl) ?_;rw[zfX hc' (by unfold zbo;rw[Jc h2,Nz,Bool.false_and])] at q;exact q
  ·have e1:(!decide ((⟨#[c]⟩:Str).cps.toList < (bz " ").cps.toList))=G:=by show(!decide ([c] < [32]))=G;rw[lt1,aw ()];rfl
   refine ifF e1 ⟨B,ifT rfl ?_⟩;rw[zfX hc' (by unfold zbo;rw[Jc h1,Bool.false_and,Bool.false_and])] at q;exact q
 ·rintro σ H' ⟨k,rfl,rfl,ha⟩;have:x.cps.size=x.cps.toList.length:=by simp
  rw[show x.cps.toList.all zbo=Z by rw[<-ha];congr 1;exact(Jq (by first | exact Jb _ | simp[Str.length])).symm] at q
  exact q
theorem zh4 {ts:List Ob}{i:Nat}{t:Ob}(e:ts[i]? =Y t)(h:zF (ts.take i) d=Z):zF (ts.take (i+1)) d=within t d:=by
 have:∀(l:List Ob),zF l d=Z->zF (l++ [t]) d=within t d:=λl=>by
  induction l with
  | nil=>intro _;show(within t d && Z)=_;rw[Bool.and_true]
  | cons u r ih=>intro h;have h':(within u d && zF r d)=Z:=h;rw[J8] at h';show(within u d && zF (r++ [t]) d)=_;rw[h'.1,NF];exact ih h'.2
 rw[Na,e];exact this _ h
theorem zbZ {d:Nat}{t:Ob}:∀{ts:List Ob}{i:Nat},ts[i]? =Y t->within t d=G->zF ts d=G
 | [],i,e,_=>by simp at e
 | u::r,0,e,h=>by simp at e;subst e;show(within u d && zF r d)=G;rw[h];rfl
 | u::r,i+1,e,h=>by show(within u d && zF r d)=G;rw[zbZ (i:=i) (by simpa using e) h,Nz]
abbrev _root_.SL:List PySem.Str:=["thing","deep"]
def zmS {n:Nat}(D:Dfn K mg "is_tuple_within" zaJ ["parts","deep"]) (zei:Fn P w K mg ax "is_thing_within" (2 * n+2) SL (spWO CN n)) (zy:mg "len" =U) (zaB:mg "MOST_PARTS" =Y (.int 40 t2)):Fn P w K mg ax "is_tuple_within" (2 * n+3) ["parts","deep"] (spTO CN n):=by
 refine D.ok (k:=2 * n+2) (fsN ["parts","deep","part"]) ⟨⟩;obtain⟨ts,v,d,rfl,rv,ok,hdn,q⟩:=h;cases rv with
 | @tup a xs _ e l h=>
 have h900:ts.length<=900:=ok.1;refine⟨_,(zb ∅
 (zb (zdy PassesOwn.never rfl (zhO (pv 0)) ∅
 ∅)
 ∅)),?_⟩
 refine⟨B,ao⟩;rw[zaa];cases d with
 | zero=>exact ifT (aw rfl) (ifT rfl q)
 | succ d'=>
 have ed:((d'+1:Nat):Int) - 1=(d':Int):=()
 refine ifF (Jc ()) ?_;refine⟨B,a,xs,O,.inr (SqT.of e),am,ar⟩;by_cases h40:ts.length<=40
 ·refine ifF (Jc ()) ?_;have q':Q (.bl (zF ts d')) H:=by
   have e:within (.tup ts) (d'+1)=zF ts d':=by show(decide (ts.length<=40) && zF ts d')=_;rw[aw h40,NF]
   rw[<-e];exact q
  refine⟨B,a,O,⟨_,SqT.of e⟩,?_⟩;refine zlB (xs:=xs) (λi σ H'=>∃kk,σ=[Y (.ref a),Y (.int ((d'+1:Nat):Int)),kk]/\H'=H/\zF (ts.take i) d'=Z) ⟨B,O,O⟩ ?_ ?_ ?_
  ·rintro i σ H' hi ⟨kk,rfl,rfl,_⟩;exact SqT.of e
  ·rintro i x σ H' hx ⟨kk,rfl,rfl,hw⟩;have hil:i < ts.length:=by rw[<-l];exact(JG.mp hx).1
   have ht:ts[i]? =Y ts[i]:=JD hil;refine⟨ap,am,ts[i],x,d',?_,h i x _ hx ht,ok.2.get ht,(),?_⟩
   ·show[x,V.int (((d'+1:Nat):Int) - 1)]=_;rw[ed]
   ·refine⟨ar⟩;cases z:within ts[i] d' with
    | true=>exact ifF rfl ⟨Y x,O,O,by rw[zh4 ht hw,z]⟩
    | false=>refine ifT rfl ?_;rw[zbZ ht z] at q';exact q'
  ·rintro σ H' ⟨kk,rfl,rfl,hw⟩;rw[l,J9] at hw;rw[hw] at q';exact q'
 ·refine ifT (aw ()) ?_;have e:within (.tup ts) (d'+1)=G:=by show(decide (ts.length<=40) && zF ts d')=_;rw[Jc h40];rfl
  rw[e] at q;exact q
theorem zfr (nt:NTk K CN)(D:Dfn K mg "is_thing_within" zbN SL) (Dt:Dfn K mg "is_tuple_within" zaJ ["parts","deep"]) (zdA:Fn P w K mg ax "is_whole" 1 SO (zgg CN)) (zck:Fn P w K mg ax "has_signs_of_things" 1 ["text"] zgs)
  (zg:mg "isinstance" =U) (zI:mg "tuple" =U) (ze3:mg "str" =U) (za0:mg "int" =U) (zy:mg "len" =U) (zps:mg "abs" =U) (zca:mg "MOST_SIGNS" =Y (.int 60 t1)) (zaB:mg "MOST_PARTS" =Y (.int 40 t2)):
  ∀n:Nat,Fn P w K mg ax "is_thing_within" (2 * n+2) SL (spWO CN n)
 | 0=>D.never λvs H Q E h=>by obtain⟨t,v,d,_,_,_,h1,_⟩:=h;lia
 | n+1=>by
  have zlX:=zmS Dt (zfr nt D Dt zdA zck zg zI ze3 za0 zy zps zca zaB n) zy zaB;refine D.ok (k:=2 * n+3) (fsN SL) ⟨⟩;obtain⟨t,v,d,rfl,rv,ok,hdn,q⟩:=h;refine⟨_,(zb (zag (zaV (zC (za1 nt) (by rfl) zg (by rfl) ∅))
 ∅
 zE)
 (zb (zag (zaV (zC (za1 nt) (by rfl) zg (by rfl) ∅))
 (zx (zQ (zfs (zax zrC (zC (za3) (by rfl) zy (by rfl) ∅) ∅ (zaF _)) (zdx ∅))))
 zE)
 ∅)),?_⟩
  refine⟨B,t,v,.tuple,O,rv,ar⟩;cases rv with
  | @tup a xs ts e l h=>exact ifT rfl ⟨ap,ts,_,d,O,.tup e l h,ok,(),q⟩
  | str x=>
   refine ifF rfl ⟨B,.str x,_,.str,O,.str x,B,ifT rfl ?_⟩;have hl:x.length<=900:=ok.1;refine⟨B,x,O,szl (),am,ar⟩;by_cases h60:x.length<=60
   ·refine ifT (aw ()) ⟨B,x,O,?_⟩;have e:within (.str x) d=x.cps.toList.all zbo:=by show(decide (x.length<=60) && x.cps.toList.all zbo)=_;rw[aw h60,NF]
    rw[e] at q;exact q
   ·refine ifF (Jc ()) ?_;have e:within (.str x) d=G:=by show(decide (x.length<=60) && x.cps.toList.all zbo)=_;rw[Jc h60];rfl
    rw[e] at q;exact q
  | int i=>refine ifF rfl ⟨B,.int i,_,.str,O,.int i,B,ifF rfl ?_⟩;refine⟨B,.int i,B,.int i,B,ifT rfl ?_⟩;exact⟨B,i,O,am,⟨(),(),()⟩,am,q⟩
  | bl b=>exact ifF rfl ⟨B,.bl b,_,.str,O,.bl b,B,ifF rfl ⟨B,.bl b,B,.bl b,B,ifF rfl ⟨B,O,q⟩⟩⟩
  | non=>exact ifF rfl ⟨B,.non,_,.str,O,.non,B,ifF rfl ⟨B,.non,B,.non,B,ifF rfl ⟨B,O,q⟩⟩⟩
  | lst e=>exact ifF rfl ⟨B,.odd 0,_,.str,O,.lst e,B,ifF rfl ⟨B,.odd 0,B,.lst e,B,ifF rfl ⟨B,O,q⟩⟩⟩
  | dic e=>exact ifF rfl ⟨B,.odd 1,_,.str,O,.dic e,B,ifF rfl ⟨B,.odd 1,B,.dic e,B,ifF rfl ⟨B,O,q⟩⟩⟩
  | exc e=>exact ifF rfl ⟨B,.odd 2,_,.str,O,.exc e,B,ifF rfl ⟨B,.odd 2,B,.exc e,B,ifF rfl ⟨B,O,q⟩⟩⟩
def zs1 (D:Dfn K mg "is_thing" zhh Sd) (zei:Fn P w K mg ax "is_thing_within" 14 SL (spWO CN 6)) (ze6:mg "MOST_DEEP" =Y (.int 5 t3)):Fn P w K mg ax "is_thing" 15 Sd (zo4 CN):=by refine D.ok (k:=14) (fsN Sd) ⟨⟩;obtain⟨t,v,rfl,rv,ok,q⟩:=h;refine⟨aq⟩;exact⟨B,t,v,5,O,rv,ok,(),q⟩
abbrev zbr:aB:=inClass (top 39) 0
structure G5 (t:Th):Prop where
 wf:Wf t
 dp:dep t<=5
 nd:nodes t<=80
def G5.good (g:G5 t):Good t:=⟨g.wf,Jg g.dp (),g.nd⟩
def zv (ts:List Th):List (Int ×Th):=ts.foldl (λcs t=>addT cs (zk t) t) []
theorem zaj {ts:List Th}{i:Nat}(h:i < ts.length):zv (ts.take (i+1))=addT (zv (ts.take i)) (zk ts[i]) ts[i]:=by
 unfold zv;rw[Na,JD h,List.foldl_append]
 rfl
theorem zbw:∀{ts:List Th}{i:Nat}{n:Int}{u:Th},zh (zv (ts.take i)) n=Y u->u∈ts/\zk u=n
 | ts,0,n,u,h=>by cases h
 | ts,i+1,n,u,h=>by
  by_cases hi:i < ts.length
  ·rw[zaj hi] at h;rcases zaq h with h | ⟨rfl,rfl⟩
   ·exact zbw h
   ·exact⟨Jm hi,O⟩
  ·rw[Jq (),<-Jq (i:=i) (show ts.length<=i by lia)] at h;exact zbw h
theorem zhL {ts:List Th}(g:∀t∈ts,G5 t):∀i,i<=ts.length->GoodC (zv (ts.take i))
 | 0,_=>GoodC.nil
 | i+1,h=>by rw[zaj (show i < ts.length by lia)];exact(zhL g i ()).add (g _ (Jm ())).good rfl
theorem zcz (ts:List Th):∀i,i<=ts.length->(zv (ts.take i)).length<=i
 | 0,_=>Jb _
 | i+1,h=>by rw[zaj (show i < ts.length by lia)];have:=zdY (zv (ts.take i)) (zk ts[i]) ts[i];have:=zcz ts i ();lia
def zch (ts:List Th):Prop:=∀t∈ts,∀u∈ts,zk t=zk u->t=u
def Held (cs:QF)(ts:List Th):Prop:=∀t∈ts,zh cs (zk t)=Y t
def zd1 (h:zch ts){i:Nat}(hi:i < ts.length):zh (zv (ts.take i)) (zk ts[i])=U\/zh (zv (ts.take i)) (zk ts[i])=Y ts[i]:=by
 cases e:zh (zv (ts.take i)) (zk ts[i]) with
 | none=>exact .inl rfl
 | some u=>obtain⟨hu,es⟩:=zbw e;rw[h u hu _ (Jm hi) es];exact .inr rfl
mutual
theorem zgt:∀t:Th,Wf t->zgM (ofT t)=Z
 | .non,_=>rfl
 | .int i,h=>by show absB i=Z;have h0:=h.1;have h1:=h.2;exact aw (by show(if i < 0 then -i else i)<=(10:Int) ^ 30;split <;> lia)
 | .str x,h=>by show(decide (x.length < 61) && _)=Z;rw[aw (Nat.lt_succ_of_le h.1),NF,List.all_eq_true];intro c hc;obtain⟨h1,h2,h3⟩:=h.2 c hc;rw[Jc (),Jc ()];rfl
 | .tup ts,h=>by show(decide ((ofL ts).length<=40) && zbX (ofL ts))=Z;rw[zec,aw h.1,NF];exact zeS ts h.2
theorem zeS:∀ts:List Th,WfL ts->zbX (ofL ts)=Z
 | [],_=>rfl
 | t::r,h=>by show(zgM (ofT t) && zbX (ofL r))=Z;rw[zgt t h.1,zeS r h.2];rfl
end
def zdE (wf:Wf t)(d:dep t<=5):within (ofT t) 5=Z:=by rw[zg8 _ _ (zfK t wf),zjA,aw d,NF];exact zgt t wf
def RepO.keepF {a C dx:aE}{fs:QI}{H':Hp}(r:RepO CN H t v)(ea:H a=Y (.ins C dx fs))(fr:∀b o,b≠a->H b=Y o->H' b=Y o):RepO CN H' t v:=by
 induction r with
 | non=>exact .non
 | bl b=>exact .bl b
 | int i=>exact .int i
 | str x=>exact .str x
 | tup e l h ih=>exact .tup (fr _ _ (zL e ea (by intro z;cases z)) e) l ih
 | lst e=>exact .lst (fr _ _ (zL e ea (by intro z;cases z)) e)
 | dic e=>exact .dic (fr _ _ (zL e ea (by intro z;cases z)) e)
 | exc e=>exact .exc (fr _ _ (zL e ea (by intro z;unfold exO at z;cases z)) e)
structure Pre (H:Hp)(pp:aE)(pvs:QR)(ts:List Th):Prop where
 ep:H pp=Y (.lst pvs)
 hl:ts.length<=500
 le:ts.length<=pvs.length
 rp:RepL H ts (pvs.take ts.length)
 hg:∀t∈ts,G5 t
 nt:zch ts
theorem Pre.same (p:Pre H pp pvs ts)(s:Same H H'):Pre H' pp pvs ts:=⟨s _ _ p.ep,p.hl,p.le,p.rp.keep (Same.ay s),p.hg,p.nt⟩
inductive Spo (CN:aE)(H:Hp)(pvs:QR)(ts:List Th)(A:Prop)(ai:Th->Th->Prop):Prop
 | odd (x:V) (ob:Ob) (hx:pvs[ts.length]? =Y x) (r:RepO CN H ob x) (ok:OkO ob) (wn:within ob 5=G) (q:A)
 | two (x:V) (t u:Th) (hx:pvs[ts.length]? =Y x) (r:Rep H t x) (g:G5 t) (hu:u∈ts) (se:zk u=zk t) (ne:u≠t) (q:ai u t)
def Spo.imp {A':Prop}{B':Th->Th->Prop}(h:Spo CN H pvs ts A ai)(s:Same H H')(ha:A->A')(hb:∀u t,ai u t->B' u t):Spo CN H' pvs ts A' B':=by
 cases h with
 | odd x ob hx r ok wn q=>exact .odd x ob hx (r.keep (Kept.of s)) ok wn (ha q)
 | two x t u hx r g hu se ne q=>exact .two x t u hx (r.keep (Same.ay s)) g hu se ne (hb u t q)
def EB (CB:aE)(F:Hp->Prop)(E:XK):Prop:=∀H',F H'->E (.ref CB) U H'
def EC (CC:aE)(F:Hp->Prop)(E:XK)(u t:Th):Prop:=∀H' y v1 v2,F H'->Rep H' u v1->Rep H' t v2->H' y=Y (xdO y [("one",v1),("other",v2)])->E (.ref CC) (Y y) H'
def But (a:aE)(H H':Hp):Prop:=∀b o,b≠a->H b=Y o->H' b=Y o
inductive spW4 (W CN CB CC:aE)(vs:QR)(H:Hp)(Q:L2.VK)(E:XK):Prop
 | mk (a pp dx:aE)(pvs:QR)(ts:List Th)(_:vs=[.ref a,.ref pp])(_:H a=Y (.ins W dx [])) (_:Pre H pp pvs ts) (_:((ts.length=pvs.length/\∀(d:aE)(H':Hp),H d=U->But a H H'->VS H' W a d (zv ts)->Held (zv ts) ts->Q .non H')\/Spo CN H pvs ts (EB CB (But a H) E) (EC CC (But a H) E))):spW4 W CN CB CC vs H Q E
def ztY (D:Mkd K mg x W "Witness.__init__" zbr ["self","paper"]) (zeH:Kfn P w K mg ax "Vault" "__init__" 1 SA (zb2 W)) (ztp:Fn P w K mg ax "is_thing" 15 Sd (zo4 CN)) (zlW:Mt P w K mg ax (CX1 P w) W "lay" 14 Si (zbV (VK W) CC)) (zaK:XP K mg "BadThing" CB) (c_W:Cls K W):
  MkrX P w K mg ax x W 16 ["self","paper"] (spW4 W CN CB CC):=by
 refine D.okX (k:=15) (fsN ["self","paper","thing"]) ⟨⟩;obtain⟨a,pp,dx,pvs,ts,rfl,ea,⟨epp,hl,hlp,rp,hg,nt⟩,q⟩:=h;refine⟨aq⟩;refine⟨B,a,dx,O,ea,λd hd=>?_⟩;have ad:a≠d:=zf ea hd;have f0:But a H (upd (upd H d (.dK [])) a (.ins W dx [("laid",.ref d)])):=λb o n e=>by rw[zd n,zd (zf e hd)];exact e
 have ea0:upd (upd H d (.dK [])) a (.ins W dx [("laid",.ref d)]) a=Y (.ins W dx [("laid",.ref d)]):=za;have ed0:upd (upd H d (.dK [])) a (.ins W dx [("laid",.ref d)]) d=Y (.dK []):=by rw[zd ad.symm];exact za
 generalize upd (upd H d (.dK [])) a (.ins W dx [("laid",.ref d)])=H0 at f0 ea0 ed0;have pa:pp≠a:=zL epp ea (by intro z;cases z);have epp0:=f0 _ _ pa epp;have tk0:Tups H H0:=λb xs e=>f0 b _ (zL e ea (by intro z;cases z)) e;have vs0:VS H0 W a d (zv (ts.take 0)):=⟨⟨[],⟨⟨dx,_,ea0,zlA d⟩,ed0⟩,.nil⟩,GoodC.nil⟩;refine⟨B,pp,O,⟨_,SqL.of epp0⟩,?_⟩;refine zcD (xs:=pvs) (λi σ H'=>i<=ts.length/\∃(k2:Option V),σ=[Y (.ref a),Y (.ref pp),k2]/\Frm [d] H0 H'/\VS H' W a d (zv (ts.take i))/\Held (zv (ts.take i)) (ts.take i)) ⟨JN _,B,Frm.refl,vs0,λt h=>by cases h⟩ ?_ ?_ ?_
 ·rintro i σ H' _ ⟨_,k2,rfl,f1,v1,_⟩;exact SqL.of (f1 _ _ (not1 (zL epp0 ed0 (by intro z;cases z))) epp0)
 ·rintro i y σ H' hy ⟨hi,k2,rfl,f1,v1,h1⟩;have tk:Tups H H':=λb xs e=>f1 b _ (not1 (zL (tk0 b xs e) ed0 (by intro z;cases z))) (tk0 b xs e);have ea1:=f1 _ _ (not1 ad) ea0;have ln:=zcz ts i hi;have fr:But a H H':=λb o n e=>f1 b o (not1 (zf e hd)) (f0 b o n e);have vk:VK W H' a [d] ⟨zv (ts.take i),[],[],1000⟩:=⟨⟨d,O,v1⟩,O,by show(zv (ts.take i)).length+1000<=1000000;lia⟩;have eall:∀n,zh (Vst.all ⟨zv (ts.take i),[],[],1000⟩) n=zh (zv (ts.take i)) n:=λn=>by unfold Vst.all;rw[JS]
  by_cases hil:i < ts.length
  ·have ht:ts[i]? =Y ts[i]:=JD hil;have ry:=(rp.at i y _ (by rw[List.getElem?_take_of_lt hil];exact hy) ht).keep tk;have g:=hg ts[i] (Jm hil);have ft:=zd1 nt hil;refine⟨B,ofT ts[i],y,O,ry.toO,zfK _ g.wf,Z,congrArg V.bl (zdE g.wf g.dp),ifF rfl ?_⟩;refine⟨B,a,dx,B,ea1,(zlA d).n2,B,a,[d],_,ts[i],y,O,vk,(show 0 < 1000 by decide),ry,g.good,λH2 _ f2 v2=>?_,λu xd v1 v2 H2 st=>?_⟩
   ·obtain⟨d',ed,vs2⟩:=v2.vs;cases ed;refine⟨hil,B,f1.trans f2,by rw[zaj hil];exact vs2,?_⟩;rw[zaj hil];intro t ht';rw[Na,ht] at ht';rcases Jk.mp ht' with h | h
    ·exact za9 (h1 t h)
    ·have e:t=ts[i]:=by simpa using h
     rw[e];exact zas ft
   ·rw[zim (by rw[eall];exact ft)] at st;cases st
  ·have ei:i=ts.length:=()
   subst ei;rw[J9] at v1 h1 vk eall;rcases q with ⟨hq,_⟩ | q
   ·have:=(JG.mp hy).1;lia
   cases q with
   | odd z ob hz rz okz wz q=>cases JP (hy.symm.trans hz);refine⟨B,ob,y,O,rz.keepF ea fr,okz,G,congrArg V.bl wz,ifT rfl ?_⟩;refine⟨szl (show 1<=1000 by decide),λe he=>⟨e,CB,U,O,za,zaK.cl.q,?_⟩⟩;rw[zed he];exact q H' fr
   | two z t u hz rz g hu su ne q=>
    cases JP (hy.symm.trans hz);have rz':=rz.keep tk;have lu:=h1 u hu;rw[su] at lu;have st:=zc8 (s:=⟨zv ts,[],[],1000⟩) (by rw[eall];exact lu) ne;refine⟨B,ofT t,y,O,rz'.toO,zfK _ g.wf,Z,congrArg V.bl (zdE g.wf g.dp),ifF rfl ?_⟩;refine⟨B,a,dx,B,ea1,(zlA d).n2,B,a,[d],_,t,y,O,vk,(show 0 < 1000 by decide),rz',g.good,λH2 s2=>?_,λu' xd w1 w2 H2 s2 f2 _ r1 r2 _ _ _ _ ex=>?_⟩
    ·rw[st] at s2;cases s2
    ·rw[st] at s2;cases s2;exact q H2 xd w1 w2 (λb o n e=>f2 b o (not1 (zf e hd)) (fr b o n e)) r1 r2 ex
 ·rintro σ H' ⟨hi,k2,rfl,f1,v1,h1⟩;rcases q with ⟨hq,q⟩ | q
  ·rw[<-hq,J9] at v1 h1;exact q d H' hd (λb o n e=>f1 b o (not1 (zf e hd)) (f0 b o n e)) v1 h1
  ·cases q with
   | odd z ob hz=>have:=(JG.mp hz).1;lia
   | two z t u hz=>have:=(JG.mp hz).1;lia
end Pv
namespace L2
open PySem PySem.Spec PyProof.Rows Px
def zqO {X:Cx}{e:aX}{es:List aX}{p pos:Pos}(M:MkrX X.prog X.w X.K X.mg X.ax x C k ps sp)(hr:Room k' X.A)(hx:zay (CX1 X.prog X.w) X E)(ha:PA X (e::es) t)(hle:k+1<=k':=by lia)(hg:Gl X x:=by rfl)(hd:(x==("__debug__" :Str))=G:=by decide)
  (he:a7 (e::es) X.env=(G,aZ e X.env)::a7 es X.env:=by rfl) (hpl:∀pos,(a6 pos (a7 es X.env)).any (·.1)=G:=by intro _;rfl):PE X (.Call (.Name x p) (e::es) [] pos) (zjp C sp [] E t):=by
 obtain⟨f,fd,a,b,mk,mm⟩:=M.ex;exact zlC mk a (hr.mono hle) hg mm b .nil hx ha hd he (hpl _)
end L2
namespace Pv
open PySem L2
abbrev zjk:aB:=top 42
inductive As where
 | one (q:Qn)
 | also (qs:List Qn)
inductive K7 where
 | k (k:Kd)
 | al
def As.kd:As->K7
 | .one q=>.k q.kd
 | .also _=>.al
def all7:List K7:=[.k .fi,.k .st,.k .co,.k .nt,.k .pu,.k .cu,.al]
def zoK (k:K7):k∈all7:=by
 cases k with
 | k k=>cases k <;> simp[all7]
 | al=>simp[all7]
def cl7 (cl:Kd->aE)(CA:aE):K7->aE
 | .k k=>cl k
 | .al=>CA
def AsAt (cl:Kd->aE)(CA:aE)(H:Hp):As->aE->Prop
 | .one q,b=>QAt cl H q b
 | .also qs,b=>QsAt cl CA H qs b
def AsOk:As->Prop
 | .one q=>QOk q
 | .also qs=>qs.length<=100/\∀q∈qs,QOk q
inductive An where
 | one (x:Av)
 | many (xs:List Av)
def AnF (H0 H:Hp):An->V->Prop
 | .one x,v=>AvF H0 H x v
 | .many xs,v=>AvsR H xs v
def AnF.weak {H0':Hp}(h:AnF H0 H x v)(w:∀c,H0 c=U->H0' c=U):AnF H0' H x v:=by
 cases x with
 | many xs=>exact h
 | one x=>
  cases x with
  | th t=>exact h
  | ls ps=>exact⟨h.1,λpp e=>w pp (h.2 pp e)⟩
def asP (n:Int):As->Pg An
 | .one q=>(ansP n q).bind λx=>.ret (.one x)
 | .also qs=>(zfP n qs).bind λxs=>.ret (.many xs)
def AsAt.noAns {cl:Kd->aE}{CA:aE}{H:Hp}{q:As}{b:aE}(h:AsAt cl CA H q b):∃dx fs,H b=Y (.ins (cl7 cl CA q.kd) dx fs)/\fs.lookup ("answer" :Str)=U:=by
 cases q with
 | one q=>obtain⟨dx,fs,e,f⟩:=h;exact⟨dx,fs,e,Qn.noAns f⟩
 | also qs=>obtain⟨dx,pl,vs,e,_⟩:=h.ob;exact⟨dx,_,e,O⟩
theorem AsAt.same {cl:Kd->aE}{CA:aE}{H H':Hp}{q:As}{b:aE}(h:AsAt cl CA H q b)(s:Same H H'):AsAt cl CA H' q b:=by
 cases q with
 | one q=>exact QAt.same h s
 | also qs=>obtain⟨dx,pl,vs,e,el,hl,hq⟩:=h.ob;refine⟨dx,pl,vs,s _ _ e,s _ _ el,hl,λi q hi=>?_⟩;obtain⟨b',e',qa⟩:=hq i q hi;exact⟨b',e',qa.same s⟩
inductive spAs (cl:Kd->aE)(CA:aE)(VR:VRT)(CN CB CC:aE)(k7:K7)(vs:QR)(H:Hp)(Q:L2.VK)(E:XK):Prop
 | mk (b a:aE)(D:QP)(s:Vst)(n:Int)(q:As)(_:vs=[.ref b,.ref a,.int n])(_:q.kd=k7)(_:AsAt cl CA H q b)(_:AsOk q)(_:VR H a D s)(_:Out VR CN CB CC a D (asP n q) s (AnF H) H Q E):spAs cl CA VR CN CB CC k7 vs H Q E
def ErS (CN CB CC:aE)(H:Hp)(E:XK):Er->Prop
 | .bad=>∀H',Same H H'->E (.ref CB) U H'
 | .lacks=>∀H',Same H H'->E (.ref CN) U H'
 | .clash u t=>∀(x:aE)(v1 v2:V)(H':Hp),Same H H'->Rep H' u v1->Rep H' t v2->Good u->Good t->u≠t->zk u=zk t->H' x=Y (xdO x [("one",v1),("other",v2)])->E (.ref CC) (Y x) H'
inductive zh5 (cl:Kd->aE)(CA W CNS CN CB CC:aE)(vs:QR)(H:Hp)(Q:L2.VK)(E:XK):Prop
 | mk (b pp:aE)(n:Int)(q:As)(pvs:QR)(ts:List Th)(_:vs=[.int n,.ref b,.ref pp])(_:AsAt cl CA H q b)(_:AsOk q)(_:Pre H pp pvs ts)(_:((ts.length=pvs.length/\(Held (zv ts) ts->(asP n q).wp ⟨zv ts,[],[],900000⟩ (λx _=>∀v H',Same H H'->AnF H H' x v->Q v H') (λe _=>ErS CN CB CC H E e)))\/Spo CNS H pvs ts (EB CB (Same H) E) (EC CC (Same H) E))):zh5 cl CA W CNS CN CB CC vs H Q E
section
variable {cl:Kd->aE}
def mt7 (M:∀k∈zfY,Mt P w K mg ax (CX1 P w) (cl k) "answer" 25 Sa (zbz cl VR CN CB CC k)) (M':Mt P w K mg ax (CX1 P w) CA "answer" 26 Sa (zhS cl CA VR CN CB CC)):
  ∀k∈all7,Mt P w K mg ax (CX1 P w) (cl7 cl CA k) "answer" 26 Sa (spAs cl CA VR CN CB CC k):=by
 intro k _;cases k with
 | k k=>
  refine Mt.mono (Mt.imp (M k (zn2 k)) λvs H Q E h=>?_) ();obtain⟨b,a,D,s,n,q,rfl,hk,qa,qo,vr,h⟩:=h;cases q with
  | also qs=>cases hk
  | one q=>unfold Out asP at h;rw[Pg.az] at h;exact⟨b,a,D,s,n,q,O,K7.k.inj hk,qa,qo,vr,Pg.aA (λx s1 z v H1 f1 v1 r1=>z v H1 f1 v1 r1) (λ_ _ z=>z) h⟩
 | al=>
  refine Mt.imp M' λvs H Q E h=>?_;obtain⟨b,a,D,s,n,q,rfl,hk,qa,qo,vr,h⟩:=h;cases q with
  | one q=>cases hk
  | also qs=>unfold Out asP at h;rw[Pg.az] at h;exact⟨b,a,D,s,n,qs,O,qa,qo.1,qo.2,vr,Pg.aA (λx s1 z v H1 f1 v1 r1=>z v H1 f1 v1 r1) (λ_ _ z=>z) h⟩
abbrev _root_.Sf:List PySem.Str:=["root","ask","paper"]
def zqv (D:Dfn K mg "checked" zjk Sf) (zm5:MkrX P w K mg ax "Witness" W 16 ["self","paper"] (spW4 W CNS CB CC)) (M:∀k∈all7,Mt P w K mg ax (CX1 P w) (cl7 cl CA k) "answer" 26 Sa (spAs cl CA (VK W) CN CB CC k)) (Cc:∀k∈all7,Cls K (cl7 cl CA k)):FnX P w K mg ax "checked" 27 Sf (zh5 cl CA W CNS CN CB CC):=by
 refine D.okX (k:=26) (fsN Sf) ⟨⟩;obtain⟨b,pp,n,q,pvs,ts,rfl,qa,qo,pre,h⟩:=h;refine⟨_,(zx (zQ (zkn λW hW=>zgm (pv 1) (Cc W hW) (M W hW) hr () za6 (zl (zqO zm5 hr za6 ∅) (zl (pv 0) zK))))),?_⟩;obtain⟨dx,fs,eb,hf⟩:=qa.noAns;refine⟨q.kd,zoK _,B,b,dx,fs,O,eb,hf,B,λx dx' hx hdx nx=>?_⟩;have sm:Same H (upd (upd H dx' (.own x)) x (.ins W dx' [])):=zbR (zj (Same.refl H) hdx) hx;have ex:upd (upd H dx' (.own x)) x (.ins W dx' []) x=Y (.ins W dx' []):=za;generalize upd (upd H dx' (.own x)) x (.ins W dx' [])=H1 at sm ex;have back:∀{H2:Hp},But x H1 H2->Same H H2:=λf2 c o e=>f2 c o (zf e hx) (sm c o e);refine⟨x,pp,dx',pvs,ts,O,ex,pre.same sm,?_⟩;rcases h with ⟨hlen,h⟩ | h
 rotate_left
 ·exact .inr (h.imp sm (λq H' f'=>q H' (back f')) λu t q H' y v1 v2 f'=>q H' y v1 v2 (back f'))
 refine .inl ⟨hlen,λd H2 hd f2 vs2 held=>⟨O,?_⟩⟩;have s2:Same H H2:=back f2;have hl:=pre.hl;have hd0:H d=U:=by
  cases y:H d with
  | none=>rfl
  | some o=>rw[sm _ _ y] at hd;cases hd
 have sf:∀{H3:Hp},Frm [d] H2 H3->Same H H3:=λf3 c o e=>f3 c o (λz=>by rw[Ji.mp z,hd0] at e;cases e) (s2 c o e);have nw:∀c,H2 c=U->H c=U:=λc e=>by
  cases y:H c with
  | none=>rfl
  | some o=>rw[s2 _ _ y] at e;cases e
 have ln:=zcz ts ts.length (Jb _);rw[J9] at ln;refine⟨B,b,x,[d],⟨zv ts,[],[],900000⟩,n,q,O,O,qa.same s2,qo,⟨⟨d,O,vs2⟩,O,by show(zv ts).length+900000<=1000000;lia⟩,Pg.aA (λy s1 z v H3 f3 v3 r3=>z v H3 (sf f3) (AnF.weak r3 nw)) (λe s1 z=>?_) (h held)⟩;cases e with
 | bad=>exact λH3 f3 _=>z H3 (sf f3)
 | lacks=>exact λH3 f3 _=>z H3 (sf f3)
 | clash u t=>exact λx v1 v2 H3 f3 _=>z x v1 v2 H3 (sf f3)
end
abbrev zee:aB:=top 99
abbrev zdL:aB:=top 100
abbrev zdn:aB:=top 101
def Rep.tupL {H:Hp}{p:aE}{vs:QR}(e:H p=Y (.tup vs))(r:RepL H ts vs):Rep H (.tup ts) (.ref p):=.tup e r.len r.at
def zbK (a:RepL H ts xs)(b:RepL H us ys):RepL H (ts++us) (xs++ys):=by
 induction a with
 | nil=>exact b
 | cons h _ ih=>exact .cons h ih
inductive znE (cl:Kd->aE)(CA CNS CB CC:aE)(vs:QR)(H:Hp)(Q:L2.VK)(_E:XK):Prop
 | mk (b pp:aE)(n:Int)(q:As)(pvs:QR)(ts:List Th)(e:vs=[.int n,.ref b,.ref pp])(qa:AsAt cl CA H q b)(qo:AsOk q)(pre:Pre H pp pvs ts)(h:Spo CNS H pvs ts (∀e H',Same H H'->H' e=Y (exO e CB U G)->Q (.ref e) H') (λu t=>∀e y v1 v2 H',Same H H'->Rep H' u v1->Rep H' t v2->H' y=Y (xdO y [("one",v1),("other",v2)])->H' e=Y (exO e CC (Y y) G)->Q (.ref e) H'))
inductive zrM (cl:Kd->aE)(CA CNS:aE)(vs:QR)(H:Hp)(Q:L2.VK)(_E:XK):Prop
 | mk (b pp:aE)(n:Int)(q:As)(pvs:QR)(ts:List Th)(e:vs=[.int n,.ref b,.ref pp])(qa:AsAt cl CA H q b)(qo:AsOk q)(pre:Pre H pp pvs ts)(h:Spo CNS H pvs ts (∀H',Same H H'->Q (.bl Z) H') λ_ _=>False)
inductive zj7 (cl:Kd->aE)(CA CNS:aE)(vs:QR)(H:Hp)(Q:L2.VK)(_E:XK):Prop
 | mk (b pp:aE)(n:Int)(q:As)(pvs:QR)(ts:List Th)(u t:Th)(vu vt:V)(e:vs=[.int n,.ref b,.ref pp,vu,vt])(qa:AsAt cl CA H q b)(qo:AsOk q)(pre:Pre H pp pvs ts)(ru:Rep H u vu)(rt:Rep H t vt)(gu:dep u<=40)(gt:dep t<=40)(h:Spo CNS H pvs ts False λu' t'=>u'=u/\t'=t/\∀H',Same H H'->Q (.bl Z) H')
structure SpK (K:QA)(CV C:aE)(ts us:QO):Prop where
 kd:zha K C
 em:PySem.W.exmOne K (.ref C) (.ref CV)=Y Z
 k1:bg K (.ref C) (.ref C)=Y Z
 k2:bg K (.ref C) (.type "ValueError")=Y Z
 k3:PySem.W.kitAny K (.ref C) ts=Y G
 k4:PySem.W.kitAny K (.ref C) us=Y G
section
variable {cl:Kd->aE}{ts us:QO}
def zs8 (D:Dfn K mg "_law_caught" zee Sf) (zm6:FnX P w K mg ax "checked" 27 Sf (zh5 cl CA W CNS CN CB CC)) (e1:PySem.W.exmOne K (.ref CB) (.ref CV)=Y Z) (e2:PySem.W.exmOne K (.ref CC) (.ref CV)=Y Z) (zcb:mg "VaultError" =Y (.ref CV)):Fn P w K mg ax "_law_caught" 28 Sf (znE cl CA CNS CB CC):=by
 refine D.ok (k:=27) (fsN ["root","ask","paper","caught","e"]) ⟨⟩;obtain⟨b,pp,n,q,pvs,ts,rfl,qa,qo,pre,h⟩:=h;refine⟨_,(zb ∅
 (zb (zjl (i:=4) rfl rfl (zeQ rfl) rfl rfl (by rfl) zcb (λxe pn E hx=>∅) (λe=>∅))
 ∅)),?_⟩
 refine⟨ap,B,b,pp,n,q,pvs,ts,O,qa,qo,pre,.inr (h.imp (Same.refl H) (λq H' s'=>⟨CB,O,e1,λe he=>?_⟩) λu t q H' y v1 v2 s' r1 r2 ey=>⟨CC,O,e2,λe he=>?_⟩)⟩
 ·exact⟨ap,q e _ (zj s' he) za⟩
 ·have sn:Same H' (upd H' e (exO e CC (Y y) G)):=zj (Same.refl H') he;exact⟨ap,q e y v1 v2 _ (zj s' he) (r1.keep (Same.ay sn)) (r2.keep (Same.ay sn)) (sn _ _ ey) za⟩
def none_of {e:aE}{i:Nat}{ta tb:TA}{as bs:QP}{D:Ends}{σ:L2.St}{H:Hp}(kd:zha K C)(k3:PySem.W.kitAny K (.ref C) (as.map aP)=Y G)(k4:PySem.W.kitAny K (.ref C) (bs.map aP)=Y G)(hi:σ[i]? =Y (Y (.ref e)))(la:as.length<=100)(lb:bs.length<=100)(ha:∀H Q,Q (as.map V.ref) H->ta σ H Q)(hb:∀H Q,Q (bs.map V.ref) H->tb σ H Q)
  (ee:H e=Y (exO e C d G)) (ho:∀y,d=Y y->∃l,H y=Y (xdO y l)) (q:∀H',Same H H'->D.rt (.bl Z) H'):tSeq (tIfS (tB (tCB (zir K) (zw (tVar i) (zw (tTup ta) tNil)))) (tRet (tC (.bl G))) zf0) (tRet (zrO (tCB (zir K) (zw (tVar i) (zw (tTup tb) tNil))))) D σ H:=by
 have cm:∀l:List aE,(l.map V.ref).map clsV=l.map aP/\Clss (l.map V.ref):=λl=>⟨by rw[List.map_map];rfl,λv hv=>by obtain⟨b,_,rfl⟩:=No.mp hv;exact .inr ⟨B⟩⟩
 refine⟨_,hi,ha H _ ⟨szl (show(as.map V.ref).length<=1000 by rw[JI];lia),λp hp=>?_⟩⟩;have s2:=zj (o:=.tup (as.map V.ref)) (Same.refl H) hp;have et:upd H p (.tup (as.map V.ref)) p=Y (.tup (as.map V.ref)):=za;generalize upd H p (.tup (as.map V.ref))=H2 at et s2;refine⟨e,C,d,G,_,G,O,s2 _ _ ee,kd,λy z=>(ho y z).imp λl z=>s2 _ _ z,?_,.inr (.inr ⟨p,B,et,(cm as).2,by rw[(cm as).1];exact k3⟩)⟩;refine⟨B,ifF rfl ⟨_,hi,hb H2 _ ⟨szl (show(bs.map V.ref).length<=1000 by rw[JI];lia),λp3 hp3=>?_⟩⟩⟩;have s3:=zj (o:=.tup (bs.map V.ref)) s2 hp3;have eu:upd H2 p3 (.tup (bs.map V.ref)) p3=Y (.tup (bs.map V.ref)):=za;generalize upd H2 p3 (.tup (bs.map V.ref))=H3 at eu s3;exact⟨e,C,d,G,_,G,O,s3 _ _ ee,kd,λy z=>(ho y z).imp λl z=>s3 _ _ z,⟨B,q H3 s3⟩,.inr (.inr ⟨p3,B,eu,(cm bs).2,by rw[(cm bs).1];exact k4⟩)⟩
def ztb (D:Dfn K mg "_law_is_bad" zdL Sf) (ziy:Fn P w K mg ax "_law_caught" 28 Sf (znE cl CA CNS CB CC)) {cNoColumn cNoCommand cNoName cNoPaper cNoPlan cNoQuestion cNoRow cNoState cNoStep cNoTable cNoThing cNotOn cNotSo:aE} (sk:SpK K CV CB [.ref cNoColumn,.ref cNoCommand,.ref cNoName,.ref cNoPaper,.ref cNoPlan,.ref cNoQuestion,.ref cNoRow,.ref cNoState,.ref cNoStep,.ref cNoTable] [.ref CC,.ref cNoThing,.ref cNotOn,.ref cNotSo]) (zcc:mg "NoColumn" =Y (.ref cNoColumn)) (zby:mg "NoCommand" =Y (.ref cNoCommand)) (zej:mg "NoName" =Y (.ref cNoName)) (zda:mg "NoPaper" =Y (.ref cNoPaper)) (zek:mg "NoPlan" =Y (.ref cNoPlan)) (za7:mg "NoQuestion" =Y (.ref cNoQuestion)) (zfm:mg "NoRow" =Y (.ref cNoRow)) (zdb:mg "NoState" =Y (.ref cNoState)) (zel:mg "NoStep" =Y (.ref cNoStep)) (zdc:mg "NoTable" =Y (.ref cNoTable)) (zdd:mg "NoThing" =Y (.ref cNoThing)) (zfn:mg "NotOn" =Y (.ref cNotOn)) (zfo:mg "NotSo" =Y (.ref cNotSo)) (zcd:mg "Clash" =Y (.ref CC)) (zce:mg "BadThing" =Y (.ref CB)) (zg:mg "isinstance" =U) (za8:mg "ValueError" =U):Fn P w K mg ax "_law_is_bad" 29 Sf (zrM cl CA CNS):=by
 refine D.ok (k:=28) (fsN ["root","ask","paper","e"]) ⟨⟩;obtain⟨b,pp,n,q,pvs,ts,rfl,qa,qo,pre,h⟩:=h;refine⟨_,(zb ∅
 (zb (zag (PW.pt (zgS (zcL (zaV (zC (zM (K:=K) rfl) (by rfl) zg (by rfl) ∅))) (zhQ (zcL (zaV (zC (zM (K:=K) rfl) (by rfl) zg (by rfl) ∅))))))
 ∅
 zE)
 (zb (zag (zaV (zC (zM (K:=K) rfl) (by rfl) zg (by rfl) ∅))
 ∅
 zE)
 (zx (zQ (zil (zC (zM (K:=K) rfl) (by rfl) zg (by rfl) ∅))))))),?_⟩
 refine⟨ap,B,b,pp,n,q,pvs,ts,O,qa,qo,pre,h.imp (Same.refl H) (λq e H1 s1 ee=>?_) λ_ _ z=>z.elim⟩;have ho:∀y,(U:QN)=Y y->∃l,H1 y=Y (xdO y l):=λd z=>by cases z
 refine⟨B,e,CB,U,G,_,Z,O,ee,sk.kd,ho,⟨B,ifF rfl ?_⟩,.inr (.inl ⟨B,sk.k1⟩)⟩;refine⟨B,e,CB,U,G,_,Z,O,ee,sk.kd,ho,⟨B,ifF rfl ?_⟩,.inl ⟨B,sk.k2⟩⟩;exact none_of (as:=[cNoColumn,cNoCommand,cNoName,cNoPaper,cNoPlan,cNoQuestion,cNoRow,cNoState,cNoStep,cNoTable]) (bs:=[CC,cNoThing,cNotOn,cNotSo]) sk.kd sk.k3 sk.k4 rfl (by show 10<=100;decide) (by show 4<=100;decide) (λ_ _ h=>h) (λ_ _ h=>h) ee ho λH' s'=>q H' (s1.trans s')
abbrev _root_.Su:List PySem.Str:=["root","ask","paper","one","other"]
def zqG (D:Dfn K mg "_law_clashes" zdn Su) (ziy:Fn P w K mg ax "_law_caught" 28 Sf (znE cl CA CNS CB CC)) (xc:XCls K CC) (n1:zm K CC "one") (n2:zm K CC "other") {cNoColumn cNoCommand cNoName cNoPaper cNoPlan cNoQuestion cNoRow cNoState cNoStep cNoTable cNoThing cNotOn cNotSo:aE} (sk:SpK K CV CC [.ref cNoColumn,.ref cNoCommand,.ref cNoName,.ref cNoPaper,.ref cNoPlan,.ref cNoQuestion,.ref cNoRow,.ref cNoState,.ref cNoStep,.ref cNoTable] [.ref CB,.ref cNoThing,.ref cNotOn,.ref cNotSo]) (zcc:mg "NoColumn" =Y (.ref cNoColumn)) (zby:mg "NoCommand" =Y (.ref cNoCommand)) (zej:mg "NoName" =Y (.ref cNoName)) (zda:mg "NoPaper" =Y (.ref cNoPaper)) (zek:mg "NoPlan" =Y (.ref cNoPlan)) (za7:mg "NoQuestion" =Y (.ref cNoQuestion)) (zfm:mg "NoRow" =Y (.ref cNoRow)) (zdb:mg "NoState" =Y (.ref cNoState)) (zel:mg "NoStep" =Y (.ref cNoStep)) (zdc:mg "NoTable" =Y (.ref cNoTable)) (zdd:mg "NoThing" =Y (.ref cNoThing)) (zfn:mg "NotOn" =Y (.ref cNotOn)) (zfo:mg "NotSo" =Y (.ref cNotSo)) (zcd:mg "Clash" =Y (.ref CC)) (zce:mg "BadThing" =Y (.ref CB)) (zg:mg "isinstance" =U) (za8:mg "ValueError" =U):Fn P w K mg ax "_law_clashes" 29 Su (zj7 cl CA CNS):=by
 refine D.ok (k:=28) (fsN ["root","ask","paper","one","other","e"]) ⟨⟩;obtain⟨b,pp,n,q,pvs,ts,u,t,vu,vt,rfl,qa,qo,pre,ru,rt,gu,gt,h⟩:=h;refine⟨_,(zb ∅
 (zb (zag (PW.pt (zgS (zcL (zaV (zC (zM (K:=K) rfl) (by rfl) zg (by rfl) ∅))) (zgS (zcL (zaV (zC (zM (K:=K) rfl) (by rfl) zg (by rfl) ∅))) (zhQ (zao (zd8 hr) (zj2 (zl (zpg (pv 5) (by rfl)) (zl (zpg (pv 5) (by rfl)) zK))) ∅ (zaF _))))))
 ∅
 zE)
 (zb (zag (zaV (zC (zM (K:=K) rfl) (by rfl) zg (by rfl) ∅))
 ∅
 zE)
 (zx (zQ (zil (zC (zM (K:=K) rfl) (by rfl) zg (by rfl) ∅))))))),?_⟩
 refine⟨ap,B,b,pp,n,q,pvs,ts,O,qa,qo,pre,h.imp (Same.refl H) (λz=>z.elim) λu' t' z e y v1 v2 H1 s1 r1 r2 ey ee=>?_⟩;obtain⟨rfl,rfl,q⟩:=z;have ho:∀d,Y y=Y d->∃l,H1 d=Y (xdO d l):=λd z=>by cases z;exact⟨_,ey⟩
 refine⟨B,e,CC,Y y,G,_,Z,O,ee,sk.kd,ho,⟨B,ifF rfl ?_⟩,.inr (.inl ⟨B,sk.k1⟩)⟩;refine⟨B,e,CC,Y y,G,_,Z,O,ee,sk.kd,ho,⟨B,ifF rfl ?_⟩,.inl ⟨B,sk.k2⟩⟩;refine⟨B,e,CC,G,y,_,v1,O,ee,ey,xc,n1,by rfl,B,e,CC,G,y,_,v2,O,ee,ey,xc,n2,by rfl,szl (show 2<=1000 by decide),λp hp=>?_⟩;have s2:=zj (o:=.tup [v1,v2]) (Same.refl H1) hp;have ep:upd H1 p (.tup [v1,v2]) p=Y (.tup [v1,v2]):=za;generalize upd H1 p (.tup [v1,v2])=H2 at s2 ep;refine⟨ap,szl (show 2<=1000 by decide),λp3 hp3=>?_⟩;have s3:=zj (o:=.tup [vu,vt]) (Same.refl H2) hp3;have ep3:upd H2 p3 (.tup [vu,vt]) p3=Y (.tup [vu,vt]):=za;generalize upd H2 p3 (.tup [vu,vt])=H3 at s3 ep3;have s13:=s2.trans s3;have t3:=Same.ay s3;have r1:=r1.keep (Same.ay s2);have r2:=r2.keep (Same.ay s2);have t13:=Same.ay (s1.trans s13);have pr:Rep H3 (.tup [u',t']) (.ref p):=Rep.tupL (s3 _ _ ep) (.cons (r1.keep t3) (.cons (r2.keep t3) .nil));have pr3:Rep H3 (.tup [u',t']) (.ref p3):=Rep.tupL ep3 (.cons (ru.keep t13) (.cons (rt.keep t13) .nil));refine⟨.tup [u',t'],.tup [u',t'],pr,pr3,by show max (dep u') (max (dep t') 0)+1<=50;lia,ar⟩;rw[(zJ _ _).mpr rfl];exact ifF rfl (none_of (as:=[cNoColumn,cNoCommand,cNoName,cNoPaper,cNoPlan,cNoQuestion,cNoRow,cNoState,cNoStep,cNoTable]) (bs:=[CB,cNoThing,cNotOn,cNotSo]) sk.kd sk.k3 sk.k4 rfl (by show 10<=100;decide) (by show 4<=100;decide) (λ_ _ h=>h) (λ_ _ h=>h) (s13 _ _ ee) (λd z=>(ho d z).imp λl z=>s13 _ _ z) λH' s'=>q H' ((s1.trans s13).trans s'))
end
abbrev zbk:aB:=top 41
def zkF {R x dx:aE}{H:Hp}{ag:Hp->Prop}(hx:H x=U)(hdx:H dx=U)(n:dx≠x)(q:∀dl dn H',Same H H'->H dl=U->H dn=U->dl≠dn->H' x=Y (.ins R dx (rFs dl kp dn))->H' dl=Y (.dK [])->H' dn=Y (.dK [])->ag H'):
  zfl R [.ref x,.ref kp] (upd (upd H dx (.own x)) x (.ins R dx [])) (λv H2=>v=.non/\ag H2) E:=by
 refine⟨x,kp,dx,O,za,λdl dn H' f hl hn ne e1 e2 e3=>⟨O,?_⟩⟩;have un:∀b,upd (upd H dx (.own x)) x (.ins R dx []) b=U->H b=U:=λb hb=>by
  have xb:b≠x:=λz=>by rw[z,za] at hb;cases hb
  rw[zd xb] at hb;have db:b≠dx:=λz=>by rw[z,za] at hb;cases hb
  rw[zd db] at hb;exact hb
 refine q dl dn H' (λb o e=>?_) (un _ hl) (un _ hn) ne e1 e2 e3;have n1:=zf e hx;exact f b o n1 (by rw[zd n1,zd (zf e hdx)];exact e)
def zhB {R C kp dk x dx dl dn:aE}{H H':Hp}{cs:QF}(s:Same H H')(hl:H dl=U)(hn:H dn=U)(ne:dl≠dn)(e1:H' x=Y (.ins R dx (rFs dl kp dn)))(e2:H' dl=Y (.dK []))(e3:H' dn=Y (.dK []))(vs:VS H C kp dk cs):VRd R C kp dk H' x [dl,dn] ⟨[],cs,[],900000⟩:=by obtain⟨kv,vo,_⟩:=vs.vo;have n1:dk≠dl:=zf vo.di hl;have n2:dk≠dn:=zf vo.di hn;exact⟨⟨dl,dn,[],[],O,⟨⟨dx,e1⟩,e2,e3⟩,.nil,.nil,ne,n1,n2⟩,vs.same s,GoodC.nil,GoodC.nil,λn t u h _=>(by cases h),λn t h=>(by cases h),by show 0+900000<=1000000;decide,by show 0+900000<=1000000;decide⟩
def zdF {D:QP}(s:Same H H1)(hD:∀d∈D,H d=U)(f:Frm D H1 H2):Same H H2:=λb o e=>f b o (λz=>by rw[hD b z] at e;cases e) (s b o e)
theorem AvR.same (h:AvR H x v)(s:Same H H'):AvR H' x v:=by
 cases x with
 | th t=>exact Rep.keep h (Same.ay s)
 | ls ps=>obtain⟨pp,xs,e,el,r,k⟩:=h;exact⟨pp,xs,e,s _ _ el,r.keep (Same.ay s),k⟩
theorem AnF.same (h:AnF H0 H x v)(s:Same H H'):AnF H0 H' x v:=by
 cases x with
 | one x=>
  cases x with
  | th t=>exact Rep.keep h (Same.ay s)
  | ls ps=>obtain⟨pp,xs,e,el,r,k⟩:=h.1;exact⟨⟨pp,xs,e,s _ _ el,r.keep (Same.ay s),k⟩,h.2⟩
 | many xs=>obtain⟨p,vs,e,el,hl,r⟩:=h;exact⟨p,vs,e,s _ _ el,hl,λi x u e1 e2=>(r i x u e1 e2).same s⟩
def PprR (H0 H:Hp)(x:An)(nt:QF)(p:aE):Prop:=∃(va:V)(l:aE)(ns:List Int)(xs:QR),H p=Y (.tup [va,.ref l])/\AnF H0 H x va/\H0 l=U/\ns.Perm (nt.map (·.1))/\ns.Pairwise (· <= ·)/\H l=Y (.lst xs)/\RepL H (zU nt ns) xs
inductive zn0 (cl:Kd->aE)(CA C CN CB CC:aE)(vs:QR)(H:Hp)(Q:L2.VK)(E:XK):Prop
 | mk (kp dk b:aE)(cs:QF)(n:Int)(q:As)(_:vs=[.ref kp,.int n,.ref b])(_:VS H C kp dk cs)(_:AsAt cl CA H q b)(_:AsOk q)(_:(asP n q).wp ⟨[],cs,[],900000⟩ (λx s1=>s1.nt.length < 64/\∀(p:aE)(H':Hp),Same H H'->GoodC s1.nt->PprR H H' x s1.nt p->Q (.ref p) H') (λe _=>ErS CN CB CC H E e)):zn0 cl CA C CN CB CC vs H Q E
section
variable {cl:Kd->aE}
abbrev _root_.SM:List PySem.Str:=["keeper","root","ask"]
def zss (D:Dfn K mg "answer_with_paper" zbk SM) (zuB:Mkr P w K mg ax "Reader" R 2 SS (zfl R)) (zuU:Mt P w K mg ax CX0 R "paper" 2 SA (zis R)) (c_R:Cls K R) (M:∀kp dk,∀k∈all7,Mt P w K mg ax (CX1 P w) (cl7 cl CA k) "answer" 26 Sa (spAs cl CA (VRd R C kp dk) CN CB CC k)) (Cc:∀k∈all7,Cls K (cl7 cl CA k)):FnX P w K mg ax "answer_with_paper" 27 SM (zn0 cl CA C CN CB CC):=by
 refine D.okX (k:=26) (fsN ["keeper","root","ask","reader","answer"]) ⟨⟩;obtain⟨kp,dk,b,cs,n,q,rfl,vs,qa,qo,h⟩:=h;replace M:=M kp dk;refine⟨_,(zb ∅
 (zb (setA 4 rfl (zkn λW hW=>zgm (pv 2) (Cc W hW) (M W hW) hr () za6 ∅))
 ∅)),?_⟩
 refine⟨B,λx dx hx hdx nx=>zkF hx hdx nx λdl dn H1 s1 hl hn ne e1 e2 e3=>?_⟩;have vr:=zhB s1 hl hn ne e1 e2 e3 vs;obtain⟨dxb,fs,eb,hf⟩:=(qa.same s1).noAns;have hD:∀d∈ [dl,dn],H d=U:=λd hd=>by
  simp only[JJ,JR,or_false] at hd;rcases hd with rfl | rfl
  ·exact hl
  ·exact hn
 have nw:∀c,H1 c=U->H c=U:=λc e=>by
  cases y:H c with
  | none=>rfl
  | some o=>rw[s1 _ _ y] at e;cases e
 refine⟨q.kd,zoK _,B,b,dxb,fs,O,eb,hf,ap,b,x,[dl,dn],⟨[],cs,[],900000⟩,n,q,O,O,qa.same s1,qo,vr,Pg.aA (λy s2 z v H2 f2 v2 r2=>?_) (λe s2 z=>?_) h⟩
 ·have s02:=zdF s1 hD f2;obtain⟨dl',dn',kvs,nvs,eD,ro,d1,d2,_⟩:=v2.ro;obtain⟨⟨dx2,eo⟩,ed,en⟩:=id ro;refine⟨ap,x,dx2,B,eo,O,x,dl',kp,dn',kvs,nvs,s2.nt,O,ro,d2,z.1,λl ns xs H3 s3 hl3 hp hs el rr=>?_⟩;refine⟨szl (show 2<=1000 by decide),λp hp3=>?_⟩;have s34:Same H3 (upd H3 p (.tup [v,.ref l])):=zj (Same.refl H3) hp3;have l0:H l=U:=by
   cases y:H l with
   | none=>rfl
   | some o=>rw[s02 _ _ y] at hl3;cases hl3
  refine z.2 p _ (λc o e=>s34 c o (s3 c o (s02 c o e))) v2.g2 ⟨v,l,ns,xs,za,((AnF.weak r2 nw).same s3).same s34,l0,hp,hs,s34 _ _ el,rr.keep (Same.ay s34)⟩
 ·cases e with
  | bad=>exact λH3 f3 _=>z H3 (zdF s1 hD f3)
  | lacks=>exact λH3 f3 _=>z H3 (zdF s1 hD f3)
  | clash u t=>exact λx v1 v2 H3 f3 _=>z x v1 v2 H3 (zdF s1 hD f3)
end
abbrev zeW:aB:=top 92
abbrev zd3:aB:=top 102
theorem take_snoc {l:List α}{i:Nat}(h:i < l.length):l.take (i+1)=l.take i++ [l[i]]:=by rw[Na,JD h];rfl
abbrev MM:Int:=1234567890123456789
abbrev PP:Int:=2305843009213693951
def valC:List Int->Int
 | []=>0
 | c::r=>c * MM ^ r.length+valC r
theorem zj5:∀(l:List Int)(x:Int),∃m,ff x l=x * MM ^ l.length+valC l+PP * m
 | [],x=>⟨0,by show x=x * MM ^ 0+0+PP * 0;rw[Int.pow_zero];lia⟩
 | c::r,x=>by
  obtain⟨m,h⟩:=zj5 r ((x * MM+c) % PP);refine⟨m - ((x * MM+c) / PP) * MM ^ r.length,?_⟩;show ff ((x * MM+c) % PP) r=x * MM ^ (r.length+1)+(c * MM ^ r.length+valC r)+_;have e:(x * MM+c) % PP=(x * MM+c) - PP * ((x * MM+c) / PP):=by have:=Int.mul_ediv_add_emod (x * MM+c) PP;lia
  have e2:∀a b c d k:Int,(a * k+c - b * d) * k ^ r.length=a * k ^ (r.length+1)+c * k ^ r.length - b * (d * k ^ r.length):=λa b c d k=>by rw[Int.sub_mul,Int.add_mul,Int.pow_succ,Int.mul_assoc,Int.mul_assoc,Int.mul_comm k]
  rw[h,e,e2,Int.mul_sub];lia
theorem zgl:∀a b:List Int,valC (a++b)=valC a * MM ^ b.length+valC b
 | [],b=>by show valC b=0 * _+_;rw[Int.zero_mul,Int.zero_add]
 | c::r,b=>by show c * MM ^ (r++b).length+valC (r++b)=(c * MM ^ r.length+valC r) * _+_;rw[zgl r b,JF,Int.pow_add,Int.add_mul,Int.mul_assoc];lia
def zaw (a b:List Int):Prop:=a.length=b.length/\∃m,valC a - valC b=PP * m
theorem zaw.refl (a:List Int):zaw a a:=⟨O,0,()⟩
def zaw.app (h:zaw a b)(g:zaw c d):zaw (a++c) (b++d):=by obtain⟨h1,m,h2⟩:=h;obtain⟨g1,n,g2⟩:=g;refine⟨by rw[JF,JF,h1,g1],m * MM ^ d.length+n,?_⟩;rw[zgl,zgl,g1,Int.mul_add,<-Int.mul_assoc,<-h2,<-g2,Int.sub_mul];lia
def zaw.seal (h:zaw (zu t) (zu u)):zk t=zk u:=by
 obtain⟨hl,m,hm⟩:=h;show ff 7 (zu t)+1=ff 7 (zu u)+1;obtain⟨a,ha⟩:=zj5 (zu t) 7;obtain⟨b,hb⟩:=zj5 (zu u) 7;have r1:=zft (h:=7) () () (zu t);have r2:=zft (h:=7) () () (zu u);rw[hl] at ha;generalize MM ^ (zu u).length=k at ha hb;generalize ff 7 (zu t)=x at ha r1 ⊢;generalize ff 7 (zu u)=y at hb r2 ⊢;generalize valC (zu t)=p at ha hm;generalize valC (zu u)=q at hb hm;have:x - y=PP * (m+a - b):=by rw[ha,hb,Int.mul_sub,Int.mul_add];lia
 have e1:(2305843009213693951:Int) * (m+a - b)=x - y:=this.symm;generalize m+a - b=z at e1;obtain⟨h1,h2⟩:=r1;obtain⟨h3,h4⟩:=r2;lia
structure Sw where
 x:Str
 y:Str
 m:Int
 n:Int
mutual
def swT (c:Sw):Th->Th
 | .int i=>if i=c.m then .int c.n else .int i
 | .tup ts=>.tup (swL c ts)
 | .non=>.non
 | .str z=>if z=c.x then .str c.y else .str z
def swL (c:Sw):List Th->List Th
 | []=>[]
 | t::r=>swT c t::swL c r
end
structure SwOk (c:Sw):Prop where
 wy:zpp c.y
 wn:Wf (.int c.n)
 l1:zaw (zu (.str c.y)) (zu (.str c.x))
 l2:zaw (zu (.int c.n)) (zu (.int c.m))
section
variable {c:Sw}
theorem zfj:∀ts:List Th,(swL c ts).length=ts.length
 | []=>rfl
 | t::r=>by show(swL c r).length+1=r.length+1;rw[zfj r]
theorem ziT:∀(ts:List Th)(t:Th),swL c (ts++ [t])=swL c ts++ [swT c t]
 | [],t=>rfl
 | u::r,t=>by show swT c u::swL c (r++ [t])=swT c u::(swL c r++ [swT c t]);rw[ziT r t]
mutual
theorem zjd (ok:SwOk c):∀t:Th,zaw (zu (swT c t)) (zu t)/\(Wf t->Wf (swT c t))/\dep (swT c t)=dep t/\nodes (swT c t)=nodes t
 | .non=>⟨zaw.refl _,λh=>h,O,O⟩
 | .str z=>by
  unfold swT;by_cases h:z=c.x
  ·rw[av h,h];exact⟨ok.l1,λ_=>ok.wy,O,O⟩
  ·rw[au h];exact⟨zaw.refl _,λh=>h,O,O⟩
 | .int i=>by
  unfold swT;by_cases h:i=c.m
  ·rw[av h,h];exact⟨ok.l2,λ_=>ok.wn,O,O⟩
  ·rw[au h];exact⟨zaw.refl _,λh=>h,O,O⟩
 | .tup ts=>by
  obtain⟨h0,h1,h2,h3⟩:=znF ok ts;refine⟨?_,λh=>⟨by rw[zfj];exact h.1,h1 h.2⟩,?_,?_⟩
  ·show zaw ([4,((swL c ts).length:Int)]++zP (swL c ts)) ([4,(ts.length:Int)]++zP ts);rw[zfj];exact(zaw.refl _).app h0
  ·show depL (swL c ts)+1=depL ts+1;rw[h2]
  ·show 1+zH (swL c ts)=1+zH ts;rw[h3]
theorem znF (ok:SwOk c):∀ts:List Th,zaw (zP (swL c ts)) (zP ts)/\(WfL ts->WfL (swL c ts))/\depL (swL c ts)=depL ts/\zH (swL c ts)=zH ts
 | []=>⟨zaw.refl _,λh=>h,O,O⟩
 | t::r=>by
  obtain⟨a0,a1,a2,a3⟩:=zjd ok t;obtain⟨b0,b1,b2,b3⟩:=znF ok r;refine⟨a0.app b0,λh=>⟨a1 h.1,b1 h.2⟩,?_,?_⟩
  ·show max (dep (swT c t)) (depL (swL c r))=max (dep t) (depL r);rw[a2,b2]
  ·show nodes (swT c t)+zH (swL c r)=nodes t+zH r;rw[a3,b3]
end
end
def zf7:Sw:=⟨"ElmfalQlaasome","raaAdRnaccsome", -1285000000000000000,251530379464423⟩
def zaP:Sw:=⟨"raaAdRnaccsome","ElmfalQlaasome",251530379464423, -1285000000000000000⟩
def ziL (h:(zu t).length=(zu u).length/\valC (zu t) - valC (zu u)=PP * ((valC (zu t) - valC (zu u)) / PP)):zaw (zu t) (zu u):=⟨h.1,_,h.2⟩
def zmF:SwOk zf7:=⟨⟨by decide+kernel,by decide+kernel⟩,⟨(),()⟩,ziL (by decide+kernel),ziL (by decide+kernel)⟩
theorem zdv:SwOk zaP:=⟨⟨by decide+kernel,by decide+kernel⟩,⟨(),()⟩,ziL (by decide+kernel),ziL (by decide+kernel)⟩
inductive spSw (c:Sw)(n:Nat)(vs:QR)(H:Hp)(Q:L2.VK)(_E:XK):Prop
 | mk (t:Th)(v:V)(_:vs=[v])(_:Rep H t v)(_:dep t < n)(_:dep t<=8)(_:nodes t<=10000)(_:∀v' H',Same H H'->Rep H' (swT c t) v'->Q v' H'):spSw c n vs H Q _E
def sw_run {c:Sw}{n:Nat}{σ:L2.St}{v:V}{te1 te2:TE}{D:Ends}{H:Hp}{t:Th}(h0:σ[0]? =Y (Y v))(t1:∀H Q,Q (.int c.m) H->te1 σ H Q)(t2:∀H Q,Q (.int c.n) H->te2 σ H Q)(rv:Rep H t v)(d1:dep t < n+1)(d3:dep t<=8)(n3:nodes t<=10000)(q:∀v' H',Same H H'->Rep H' (swT c t) v'->D.rt v' H'):
  tSeq (tIfS (zlp (tOp (λx y H Q=>∃t u,Rep H t x/\Rep H u y/\dep t<=50/\Q (V.bl (eqT t u)) H) (tVar 0) (tC (V.str c.x)))) (tRet (tC (V.str c.y))) zf0)
  (tSeq (tIfS (zlp (tOp (λx y H Q=>∃t u,Rep H t x/\Rep H u y/\dep t<=50/\Q (V.bl (eqT t u)) H) (tVar 0) te1)) (tRet te2) zf0)
  (tSeq (tIfS (tB (tCB (zoe K) (zw (tVar 0) (zw (tC (V.ty "tuple")) tNil)))) (tRet (tCB (λxs H Q=>∃p ys,xs=[V.ref p]/\((SqL K H p ys/\∀(l:aE),H l=U->Q (V.ref l) (upd H l (HO.tup ys)))\/SqT K H p ys/\Q (V.ref p) H)) (zw (zlx (iTup K (tVar 0)) [] zff (zeR (spSw c n) [] E0 (zw (tVar 0) tNil))) tNil))) zf0) (tRet (tVar 0)))) D σ H:=by
 refine⟨_,h0,t,.str c.x,rv,.str _,(),ar⟩;refine ifB (λz=>?_) (λz=>?_)
 ·have et:=(zJ _ _).mp z;subst et;unfold swT at q;rw[av rfl] at q;exact q _ H (Same.refl H) (.str _)
 have c1:t≠ .str c.x:=λy=>by rw[(zJ _ _).mpr y] at z;cases z
 refine⟨_,h0,t1 H _ ⟨t,.int c.m,rv,.int _,(),ar⟩⟩;refine ifB (λz=>?_) (λz=>?_)
 ·have et:=(zJ _ _).mp z;subst et;unfold swT at q;rw[av rfl] at q;exact t2 H _ (q _ H (Same.refl H) (.int _))
 have c2:t≠ .int c.m:=λy=>by rw[(zJ _ _).mpr y] at z;cases z
 cases rv with
 | non=>exact⟨_,h0,_,_,_,B,.non,O,B,ifF rfl ⟨_,h0,q _ H (Same.refl H) .non⟩⟩
 | int i=>unfold swT at q;rw[au (λz=>c2 (by rw[z]))] at q;exact⟨_,h0,_,_,_,B,.int i,O,B,ifF rfl ⟨_,h0,q _ H (Same.refl H) (.int i)⟩⟩
 | str x=>unfold swT at q;rw[au (λz=>c1 (by rw[z]))] at q;exact⟨_,h0,_,_,_,B,.str x,O,B,ifF rfl ⟨_,h0,q _ H (Same.refl H) (.str x)⟩⟩
 | @tup a xs ts e l hh=>
 have dt:dep (.tup ts)=depL ts+1:=rfl;refine⟨_,h0,_,_,_,B,.tup e,O,B,ifT rfl ?_⟩;refine⟨_,h0,a,O,⟨_,SqT.of e⟩,λp hp=>?_⟩;refine zaN (n:=xs.length) (λi acc H'=>Same H H'/\H' p=Y (.lst acc)/\Reps H' (swL c (ts.take i)) acc) ⟨zj (Same.refl H) hp,za,Reps.nil⟩ ?_ ?_ ?_ ?_
 ·rintro i acc H' hi ⟨sm,ep,rs⟩;exact⟨xs,xs[i],SqT.of (sm _ _ e),JD hi⟩
 ·rintro acc H' ⟨sm,ep,rs⟩;exact⟨xs,SqT.of (sm _ _ e),Jb _⟩
 ·rintro i acc H' y H'' hi ⟨sm,ep,rs⟩ ⟨z1,z2⟩;subst z1;have ey:=z2 xs (SqT.of (sm _ _ e));have hit:i < ts.length:=()
  have et:=JD hit;have dd:=zaT et;have nn:=zdq et;have nl:=zfQ ts;have n3':1+zH ts<=10000:=n3;have la:acc.length=i:=by rw[rs.1,zfj,JQ];lia
  refine tt1 ⟨B,ts[i],y,O,(hh i y ts[i] ey et).keep (Same.ay sm),(),(),(),λv' H3 s3 ru=>⟨s3 _ _ ep,Je (show acc.length < 1000000 by lia) (by decide+kernel),nxt hi ⟨zbR (λb o z=>s3 b o (sm b o z)) hp,za,?_⟩⟩⟩;rw[take_snoc hit,ziT];have tk:Tups H3 (upd H3 p (.lst (acc++ [v']))):=Tups.upd λxs z=>by rw[s3 _ _ ep] at z;cases z
  exact((rs.keep (Same.ay s3)).snoc ru).keep tk
 ·rintro acc H' ⟨sm,ep,rs⟩;rw[l,J9] at rs;refine⟨p,acc,O,.inl ⟨SqL.of ep,λr hr'=>?_⟩⟩;have tk:Tups H' (upd H' r (.tup acc)):=Tups.new hr';exact q _ _ (zj sm hr') (.tup za rs.1 λi x t h1 h2=>(rs.2 i x t h1 h2).keep tk)
theorem ziQ (D:Dfn K mg "_law_first" zeW Sd) (zg:mg "isinstance" =U) (zI:mg "tuple" =U):
  ∀n:Nat,Fn P w K mg ax "_law_first" (n+2) Sd (spSw zf7 n)
 | 0=>D.never λvs H Q E h=>by obtain⟨t,v,_,_,h1,_⟩:=h;lia
 | n+1=>by
  have zjN:=ziQ (P:=P) (w:=w) (ax:=ax) D zg zI n;refine D.ok (k:=n+2) (fsN Sd) ⟨⟩;obtain⟨t,v,rfl,rv,d1,d3,n3,q⟩:=h;have θ:=0;refine⟨_,(zb (zag (zao (zcT hr) (pv 0) zcw (zaF _))
 ∅
 zE)
 (zb ∅
 (zb (zag ∅
 (zx (zQ (zc1 zaL (by rfl) zI (by rfl) (zl (zbl (zo.zero (by rfl) (by decide+kernel) (by decide+kernel) (by decide+kernel) (by rfl)) rfl (zhO (pv 0)) (λ_ _ _=>za5) (λ_ _ _=>∅)) zK))))
 zE)
 ∅))),?_⟩
  exact sw_run (c:=zf7) rfl (λ_ _ h=>⟨B,h⟩) (λ_ _ h=>h) rv d1 d3 n3 q
theorem zgP (D:Dfn K mg "_law_second" zd3 Sd) (zg:mg "isinstance" =U) (zI:mg "tuple" =U):
  ∀n:Nat,Fn P w K mg ax "_law_second" (n+2) Sd (spSw zaP n)
 | 0=>D.never λvs H Q E h=>by obtain⟨t,v,_,_,h1,_⟩:=h;lia
 | n+1=>by
  have ziz:=zgP (P:=P) (w:=w) (ax:=ax) D zg zI n;refine D.ok (k:=n+2) (fsN Sd) ⟨⟩;obtain⟨t,v,rfl,rv,d1,d3,n3,q⟩:=h;refine⟨_,(zb (zag (zao (zcT hr) (pv 0) zcw (zaF _))
 ∅
 zE)
 (zb (zag (zao (zcT hr) (pv 0) zbD (zaF _))
 ∅
 zE)
 (zb (zag ∅
 (zx (zQ (zc1 zaL (by rfl) zI (by rfl) (zl (zbl (zo.zero (by rfl) (by decide+kernel) (by decide+kernel) (by decide+kernel) (by rfl)) rfl (zhO (pv 0)) (λ_ _ _=>za5) (λ_ _ _=>∅)) zK))))
 zE)
 ∅))),?_⟩
  exact sw_run (c:=zaP) rfl (λ_ _ h=>h) (λ_ _ h=>⟨B,h⟩) rv d1 d3 n3 q
end Pv
namespace Pv
open PySem L2
open Tr
def allN:Tr->List Nd
 | nil=>[]
 | node l k w r=>ndT l k w r::(allN l++allN r)
theorem zgk:∀T:Tr,(allN T).length=T.cnt
 | nil=>rfl
 | node l k w r=>by rw[zt];show(allN l++allN r).length+1=_;rw[JF,zgk l,zgk r]
def zbU {nd:Nd}(h:nd∈allN l):nd∈allN (node l k w r):=Jj _ (Jo _ h)
def zdw {nd:Nd}(h:nd∈allN r):nd∈allN (node l k w r):=Jj _ (Jh _ h)
theorem zfd:∀{T:Tr}{nd:Nd},nd∈wayN x T->nd∈allN T
 | nil,_,h=>h
 | node l k w r,nd,h=>by
  have h':nd∈ndT l k w r::(if k=x then[] else if zc k x=Z then wayN x r else wayN x l):=h;rcases JJ.mp h' with rfl | h'
  ·exact JO
  ·split at h'
   ·cases h'
   ·split at h'
    ·exact zdw (zfd h')
    ·exact zbU (zfd h')
theorem zd6:∀{T:Tr}{nd:Nd},nd∈zhl T\/nd∈zho T->nd∈allN T
 | nil,_,h=>by rcases h with h | h <;> exact h
 | node l k w r,nd,h=>by
  rcases h with h | h
  ·rcases JJ.mp (show nd∈ndT l k w r::zhl r from h) with rfl | h
   ·exact JO
   ·exact zdw (zd6 (.inl h))
  ·rcases JJ.mp (show nd∈ndT l k w r::zho l from h) with rfl | h
   ·exact JO
   ·exact zbU (zd6 (.inr h))
theorem all_own:∀{T l r:Tr}{k w:Th}{nd:Nd},own x T=node l k w r->nd∈allN (node l k w r)->nd∈allN T
 | nil,_,_,_,_,_,e,_=>by cases e
 | node l' k' w' r',l,r,k,w,nd,e,h=>by
  unfold own at e;split at e
  ·rw[e];exact h
  ·split at e
   ·exact zdw (all_own e h)
   ·exact zbU (all_own e h)
def zqw {nd:Nd}(h:nd∈gapN x T):nd∈allN T:=by
 unfold gapN at h;cases z:own x T with
 | nil=>rw[z] at h;cases h
 | node l k w r=>
  rw[z] at h;rcases Jk.mp (show nd∈zhl l++zho r from h) with h | h
  ·exact all_own z (zbU (zd6 (.inl h)))
  ·exact all_own z (zdw (zd6 (.inr h)))
def zef {nd:Nd}(h:nd∈topN T):nd∈allN T:=by
 cases T with
 | nil=>exact h
 | node l k w r=>rw[Ji.mp h];exact JO
theorem zh0:∀{T:Tr}{nd:Nd},nd∈cntN x T->nd∈allN T
 | nil,_,h=>h
 | node l k w r,nd,h=>by
  unfold cntN at h;split at h
  ·exact zbU (zh0 h)
  ·rcases Jk.mp h with h | h
   ·exact zbU (zef h)
   ·split at h
    ·cases h
    ·exact zdw (zh0 h)
theorem zhE:∀{T:Tr}{i:Int}{nd:Nd},nd∈nthN T i->nd∈allN T
 | nil,_,_,h=>h
 | node l k w r,i,nd,h=>by
  unfold nthN at h;rcases JJ.mp h with rfl | h
  ·exact JO
  split at h
  ·cases h
  rcases Jk.mp h with h | h
  ·exact zbU (zef h)
  split at h
  ·cases h
  split at h
  ·exact zbU (zhE h)
  ·exact zdw (zhE h)
theorem ze8 {cs:QF}:∀{T:Tr}{nd:Nd},TOk cs T->nd∈allN T->KeyT nd.k/\KeyT nd.w
 | nil,_,_,h=>by cases h
 | node l k w r,nd,tk,h=>by
  rcases JJ.mp (show nd∈ndT l k w r::(allN l++allN r) from h) with rfl | h
  ·exact tk.kw
  ·rcases Jk.mp h with h | h
   ·exact ze8 tk.l h
   ·exact ze8 tk.r h
def AvK:Av->Prop
 | .th t=>dep t<=50
 | .ls ps=>∀p∈ps,dep (zbj p)<=50
def zjE (h:KeyT k/\KeyT w):dep (zbj (k,w))<=50:=by have h1:=h.1.dp;have h2:=h.2.dp;show max (dep k) (max (dep w) 0)+1<=50;lia
theorem zic {A:Th->Prop}{lo hi:Th}{e:Er->Vst->Prop}:∀{T:Tr}{f:Nat}{m:Int}{st:List Nd}{ps:QH}{s:Vst}{q:List (Th ×Th)->Vst->Prop},TOk s.all T->(T.cnt:Int) < m->2 * T.cnt<=f->3 * T.cnt<=s.n->(∀nd∈allN T,A nd.th)->(∀p∈ps,dep (zbj p)<=50)->
  (∀f' c ps' s',f<=f'+2 * T.cnt->Go A (3 * T.cnt) s s'->(∀p∈ps',dep (zbj p)<=50)->(strL lo hi f' 0 c st ps').wp s' q e)->(strL lo hi f T.root m st ps).wp s q e
 | nil,f,m,st,ps,s,q,_,_,_,_,_,hp,h=>h f m ps s (Jb _) (Go.refl s) hp
 | node l k w r,f,m,st,ps,s,q,tk,hm,hf,hn,hA,hp,h=>by
  have cn:=zt l k w r;have hlen:(l.ps++(k,w)::r.ps).length=(node l k w r).cnt:=rfl;have hc:(ndT l k w r).c=((node l k w r).cnt:Int):=rfl;obtain⟨f,rfl⟩:∃f0,f=f0+1:=⟨f - 1,()⟩;unfold strL;rw[au (λz=>by cases zaH.mp z),Pg.az];refine zcS (A:=A) tk hm () (hA _ JO) λs1 g1 _=>?_;have n1:=g1.n;have hl:∀nd∈allN l,A nd.th:=λnd hd=>hA nd (zbU hd);have hr:∀nd∈allN r,A nd.th:=λnd hd=>hA nd (zdw hd)
  have back:∀f' c ps' s',f<=f'+2 * l.cnt->Go A (3+3 * l.cnt) s s'->(∀p∈ps',dep (zbj p)<=50)->(strL lo hi f' 0 c (ndT l k w r::st) ps').wp s' q e:=λf' c ps' s' hf' g' hp'=>by
   have n':=g'.n;obtain⟨f',rfl⟩:∃f0,f'=f0+1:=⟨f' - 1,()⟩;unfold strL;rw[av rfl];have hp2:∀p∈(if inB lo hi (ndT l k w r)=Z then ps'++ [((ndT l k w r).k,(ndT l k w r).w)] else ps'),dep (zbj p)<=50:=λp hq=>by
    split at hq
    ·rcases Jk.mp hq with hq | hq
     ·exact hp' p hq
     ·rw[Ji.mp hq];exact zjE tk.kw
    ·exact hp' p hq
   show(strL lo hi f' (if zbf hi (ndT l k w r).k=Z then(ndT l k w r).r else 0) (ndT l k w r).c st _).wp s' q e;generalize(if inB lo hi (ndT l k w r)=Z then ps'++ [((ndT l k w r).k,(ndT l k w r).w)] else ps')=ps2 at hp2;by_cases c2:zbf hi (ndT l k w r).k=Z
   ·rw[av c2];exact zic (T:=r) (tk.go g').r () () () hr hp2 λf2 c2 ps3 s3 h1 g3 h3=>h f2 c2 ps3 s3 () ((g'.trans g3).mono ()) h3
   ·rw[au c2];exact h f' _ ps2 s' () (g'.mono ()) hp2
  have goL:∀s2,Go A 3 s s2->(strL lo hi f (if zbe lo (ndT l k w r).k=Z then(ndT l k w r).l else 0) (ndT l k w r).c (ndT l k w r::st) ps).wp s2 q e:=λs2 g2=>by
   have n2:=g2.n;by_cases c1:zbe lo (ndT l k w r).k=Z
   ·rw[av c1];exact zic (T:=l) (tk.go g2).l () () () hl hp λf' c ps' s' h1 g' h3=>back f' c ps' s' h1 (g2.trans g') h3
   ·rw[au c1];exact back f _ ps s2 () (g2.mono ()) hp
  rw[Pg.az];by_cases c0:(zbe lo (ndT l k w r).k && zbf hi (ndT l k w r).k)=Z
  ·rw[av c0];unfold sumP;rw[Pg.az];refine zcF (A:=A) (T:=l) (tk.go g1).l () () (λnd hd=>hl nd (zef hd)) λs2 g2=>?_;have n2:=g2.n;rw[Pg.az];refine zcF (A:=A) (T:=r) ((tk.go g1).go g2).r () () (λnd hd=>hr nd (zef hd)) λs3 g3=>?_;rw[av ()];exact goL s3 ((g1.trans (g2.trans g3)).mono ())
  ·rw[au c0];exact goL s1 (g1.mono ())
def QK:Qn->Prop
 | .find k=>KeyT k
 | .str lo hi=>(lo=.non\/KeyT lo)/\(hi=.non\/KeyT hi)
 | .cnt lo hi=>(lo=.non\/KeyT lo)/\(hi=.non\/KeyT hi)
 | .nth _=>True
 | .put k w=>KeyT k/\KeyT w
 | .cut k=>KeyT k
def zop {cs:QF}{x:Th}{T:Tr}(tk:TOk cs T):dep (endW (wayN x T) x)<=50:=by
 unfold endW;cases z:(wayN x T).getLast? with
 | none=>exact JN _
 | some nd=>
  have:=(ze8 tk (zfd (List.mem_of_getLast? z))).2.dp;show dep (if nd.k=x then nd.w else .non)<=50;split
  ·lia
  ·exact JN _
theorem zgc {cs:QF}:∀{T:Tr}{i:Int},TOk cs T->dep (nthV T i)<=50
 | nil,_,_=>JN _
 | node l k w r,i,tk=>by
  unfold nthV;split
  ·exact JN _
  ·split
   ·exact zjE tk.kw
   ·split
    ·exact zgc tk.l
    ·exact zgc tk.r
def zoB {A:Th->Prop}{e:Er->Vst->Prop}(hc:∀u t s',e (.clash u t) s'){T:Tr}{s:Vst}{q:Av->Vst->Prop}(tk:TOk s.all T)(c9:T.cnt<=299)(ok:QK qn)(hn:3000<=s.n)(hA:∀nd∈allN T,A nd.th)(h:∀x s',Go A 3000 s s'->AvK x->q x s'):(ansP T.root qn).wp s q e:=by
 have hw:∀x,∀nd∈wayN x T,A nd.th:=λx nd hd=>hA nd (zfd hd);have hcn:∀x,∀nd∈cntN x T,A nd.th:=λx nd hd=>hA nd (zh0 hd);have zz:∀{i:Int},AvK (.th (.int i)):=JN _;cases qn with
 | find k=>unfold ansP zij;rw[Pg.az,Pg.az];exact zhA (A:=A) tk () () () (hw k) λs1 g1 _=>h _ s1 (g1.mono ()) (zop tk)
 | str lo hi=>
  unfold ansP strP;rw[Pg.az];by_cases z:zcO lo hi=Z
  ·rw[av z];exact h _ s ((Go.refl s).mono (JN _)) (λp hp=>by cases hp)
  ·rw[au z];refine zic (A:=A) (T:=T) tk () () () hA (λp hp=>by cases hp) λf c ps s1 hf g1 hp=>?_;obtain⟨f,rfl⟩:∃f0,f=f0+1:=⟨f - 1,()⟩;unfold strL;rw[av rfl];exact h _ s1 (g1.mono ()) hp
 | cnt lo hi=>
  unfold ansP zdW;rw[Pg.az];by_cases z:zcO lo hi=Z
  ·rw[av z];exact h _ s ((Go.refl s).mono (JN _)) zz
  ·rw[au z,Pg.az];have lower:∀m s1,Go A 1000 s s1->(zfV T.root lo m).wp s1 (λi s2=>(Pg.ret (Av.th (.int i))).wp s2 q e) e:=λm s1 g1=>by
    have n1:=g1.n;unfold zfV;by_cases y:lo=.non
    ·rw[av y];exact h _ s1 (g1.mono ()) zz
    ·rw[au y,Pg.az];exact znT (A:=A) (tk.go g1) () (hw lo) (hcn lo) λs2 g2=>h _ s2 ((g1.trans g2).mono ()) zz
   by_cases y:hi=.non
   ·rw[av y];exact zcF (A:=A) tk () () (λnd hd=>hA nd (zef hd)) λs1 g1=>lower _ s1 (g1.mono ())
   ·rw[au y];exact znT (A:=A) tk () (hw hi) (hcn hi) λs1 g1=>lower _ s1 g1
 | nth i=>
  unfold ansP nthQ;rw[Pg.az];by_cases z:i < 0
  ·rw[av z];exact h _ s ((Go.refl s).mono (JN _)) (JN _)
  ·rw[au z];exact zqV (A:=A) tk () () () (λnd hd=>hA nd (zhE hd)) λs1 g1=>h _ s1 (g1.mono ()) (zgc tk)
 | put k w=>unfold ansP;rw[Pg.az];exact zo0 (A:=A) hc tk c9 ok.1 ok.2 () (hw k) λs1 g1 _=>h _ s1 (g1.mono ()) zz
 | cut k=>unfold ansP;rw[Pg.az];exact zoo (A:=A) hc tk () (hw k) (λnd hd=>hA nd (zqw hd)) λs1 g1 _=>h _ s1 (g1.mono ()) zz
theorem zls {A:Th->Prop}{e:Er->Vst->Prop}(hc:∀u t s',e (.clash u t) s'){T:Tr}(c9:T.cnt<=299)(hA:∀nd∈allN T,A nd.th):∀{qs:List Qn}{s:Vst}{q:List Av->Vst->Prop},TOk s.all T->(∀qn∈qs,QK qn)->3000 * qs.length<=s.n->(∀xs s',Go A (3000 * qs.length) s s'->xs.length=qs.length->(∀x∈xs,AvK x)->q xs s')->(zfP T.root qs).wp s q e
 | [],s,q,_,_,_,h=>h [] s (Go.refl s) rfl λx hx=>by cases hx
 | qn::qs,s,q,tk,ok,hn,h=>by
  have hl:(qn::qs).length=qs.length+1:=rfl;unfold zfP;rw[Pg.az];refine zoB (A:=A) hc tk c9 (ok _ JO) () hA λx s1 g1 k1=>?_;have n1:=g1.n;rw[Pg.az];refine zls hc c9 hA (tk.go g1) (λz hz=>ok z (Jj _ hz)) () λxs s2 g2 l2 k2=>h _ s2 ((g1.trans g2).mono ()) (congrArg (· +1) l2) λy hy=>?_;rcases JJ.mp hy with rfl | hy
  ·exact k1
  ·exact k2 y hy
def AsK:As->Prop
 | .one q=>QK q
 | .also qs=>qs.length=5/\∀q∈qs,QK q
def AnK:An->Prop
 | .one x=>AvK x
 | .many xs=>xs.length=5/\∀x∈xs,AvK x
def ztV {A:Th->Prop}{e:Er->Vst->Prop}(hc:∀u t s',e (.clash u t) s'){T:Tr}{s:Vst}{q:An->Vst->Prop}(tk:TOk s.all T)(c9:T.cnt<=299)(ok:AsK a)(hn:15000<=s.n)(hA:∀nd∈allN T,A nd.th)(h:∀x s',Go A 15000 s s'->AnK x->q x s'):(asP T.root a).wp s q e:=by
 cases a with
 | one qn=>unfold asP;rw[Pg.az];exact zoB (A:=A) hc tk c9 ok () hA λx s1 g1 k1=>h _ s1 (g1.mono ()) k1
 | also qs=>unfold asP;have:=ok.1;rw[Pg.az];exact zls (A:=A) hc c9 hA tk ok.2 () λx s1 g1 l1 k1=>h _ s1 (g1.mono ()) ⟨(),k1⟩
def QK.ok (h:QK qn):QOk qn:=by
 have d:∀{t:Th},KeyT t->dep t<=8:=λk=>Jg k.dp ();have d':∀{t:Th},t=.non\/KeyT t->dep t<=8:=λk=>by
  rcases k with rfl | k
  ·exact JN _
  ·exact d k
 cases qn with
 | find k=>exact d h
 | str lo hi=>exact⟨d' h.1,d' h.2⟩
 | cnt lo hi=>exact⟨d' h.1,d' h.2⟩
 | nth i=>trivial
 | put k w=>exact h.1.good
 | cut k=>exact d h
def AsK.ok (h:AsK a):AsOk a:=by
 cases a with
 | one q=>exact QK.ok h
 | also qs=>exact⟨by rw[h.1];decide,λq hq=>(h.2 q hq).ok⟩
def zl9 {l:List Int}:∀{m:List Int},l.Nodup->(∀a∈l,a∈m)->l.length<=m.length:=by
 induction l with
 | nil=>intro m _ _;exact JN _
 | cons a l ih=>intro m hn hs;rw[Np] at hn;have hm:=hs a JO;have h1:=ih (m:=m.erase a) hn.2 λb hb=>(List.mem_erase_of_ne (λz=>hn.1 (by rw[<-z];exact hb))).mpr (hs b (Jj _ hb));have h2:=List.length_pos_of_mem hm;rw[List.length_erase_of_mem hm] at h1;rw[JM];lia
def zl6 {T:Tr}(g:GoodC nt)(h:∀n t,zh nt n=Y t->∃nd∈allN T,t=nd.th):nt.length<=T.cnt:=by
 have hs:∀n∈nt.map (·.1),n∈(allN T).map λnd=>zk nd.th:=λn hn=>by obtain⟨t,e⟩:=zc2 hn;obtain⟨nd,hd,rfl⟩:=h n t e;exact No.mpr ⟨nd,hd,(g.dep e).2⟩
 have:=zl9 g.nd hs;rw[JI,JI,zgk] at this;exact this
end Pv
namespace Pv
open PySem L2
abbrev zfz:aB:=top 93
abbrev zgN:aB:=top 97
inductive zfM (vs:QR)(H:Hp)(Q:L2.VK)(_E:XK):Prop
 | mk (row:aE)(_:vs=[.ref row])(_:RowV H row)(_:∀t v H',Frm [row] H H'->RowV H' row->KeyT t->Rep H' t v->Q v H'):zfM vs H Q _E
structure Drw (H:Hp)(row pl:aE)(xs:QR)(ts:List Th):Prop where
 R:RowV H row
 el:H pl=Y (.lst xs)
 rl:RepL H ts xs
 hk:∀t∈ts,KeyT t
 hl:ts.length<=100
 ne:pl≠row
theorem Drw.frm (d:Drw H row pl xs ts)(f:Frm [row] H H')(R:RowV H' row):Drw H' row pl xs ts:=⟨R,f.at d.el (not1 d.ne),d.rl.keep (Frm.tupsV f d.R),d.hk,d.hl,d.ne⟩
theorem Drw.same (d:Drw H row pl xs ts)(s:Same H H'):Drw H' row pl xs ts:=⟨d.R.keep s,s _ _ d.el,d.rl.keep (Same.ay s),d.hk,d.hl,d.ne⟩
inductive zlm (vs:QR)(H:Hp)(Q:L2.VK)(_E:XK):Prop
 | mk (row pl:aE)(xs:QR)(ts:List Th)(_:vs=[.ref row,.ref pl])(_:Drw H row pl xs ts)(_:∀t v H',Frm [row] H H'->RowV H' row->KeyT t->Rep H' t v->Q v H'):zlm vs H Q _E
def zpQ (D:Dfn K mg "_law_some" zfz ["row"]) (zjN:Fn P w K mg ax "_law_first" 6 Sd (spSw zf7 4)) (zjK:Fn P w K mg ax "_law_thing" 6 ["row","deep"] (zhw 4)):Fn P w K mg ax "_law_some" 7 ["row"] zfM:=by
 refine D.ok (k:=6) (fsN ["row","new"]) ⟨⟩;obtain⟨row,rfl,R0,q⟩:=h;refine⟨aq⟩;have m2:many 2=13:=by decide
 refine⟨B,row,2,O,R0,(),(),λt v H1 wt dt nt f1 R1 r1=>?_⟩;refine⟨t,v,O,r1,(),(),(),λv' H2 s2 r2=>?_⟩;obtain⟨_,wu,du,nu⟩:=zjd zmF t;have wu:=wu wt;generalize swT zf7 t=u at r2 wu du nu;have q:=λt v=>q t v H2 (f1.trans (Frm.of s2)) (R1.keep s2);refine⟨B,ao⟩;rw[zaM r2];by_cases z:u=.non
 ·exact ifT (aw z) (q (.int 7) _ ⟨⟨(),()⟩,(),(),λz=>by cases z⟩ (.int 7))
 ·exact ifF (Jc z) ⟨B,q _ _ ⟨wu,(),(),z⟩ r2⟩
abbrev _root_.SE:List PySem.Str:=["row","pool"]
def zsN (D:Dfn K mg "_law_key" zgN SE) (zV:Fn P w K mg ax "_law_take" 1 Ss zaI) (zgy:Fn P w K mg ax "_law_some" 7 ["row"] zfM) (zy:mg "len" =U):Fn P w K mg ax "_law_key" 8 SE zlm:=by
 refine D.ok (k:=7) (fsN SE) (λf _ _ _ _ H _ Q E hr h=>?_);obtain⟨row,pl,xs,ts,rfl,d,q⟩:=h;refine⟨aq⟩;refine⟨B,szl (show 0<=1000 by decide),λp hp=>?_⟩;have s1:=zj (o:=.lst []) (Same.refl H) hp;have ep:upd H p (.lst []) p=Y (.lst []):=za;generalize upd H p (.lst [])=H1 at s1 ep;have d1:=d.same s1;have q:=λt v H' (f:Frm [row] H1 H')=>q t v H' ((Frm.of s1).trans f);have hxl:=d.rl.len;have h100:=d.hl;refine⟨pl,p,xs,[],ts,[],O,O,SqL.of d1.el,SqL.of ep,d1.rl,.nil,λt ht=>Jg (d.hk t ht).dp (),?_⟩;refine⟨ar⟩;by_cases z:ts=[]
 ·subst z;exact ifF rfl (ifF rfl ⟨B,row,O,d1.R,λt v H2 f2 R2 k r2=>q t v H2 f2 R2 k r2⟩)
 ·have hpos:=List.length_pos_iff.mpr z;have ne:eqL ts []=G:=by
   cases y:eqL ts [] with
   | false=>rfl
   | true=>exact Jf ((zcR _ _).mp y) z
  rw[ne];refine ifT rfl ⟨B,row,B,d1.R,(show(0:Int) < 3 by decide),(by decide+kernel),λr H2 r0 r1 f2 R2=>?_⟩;have d2:=d1.frm f2 R2;refine⟨am,ar⟩;refine ifB (λc=>?_) (λc=>?_)
  ·refine⟨ap,B,pl,B,.inl (SqL.of d2.el),row,B,R2,(),by omega +splitNatSub,λj H3 j0 j1 f3 R3=>?_⟩;have d3:=d2.frm f3 R3;obtain⟨v,t,e,rv,kt⟩:=d3.rl.pick j0 () d.hk;exact⟨pl,xs,_,v,O,O,SqL.of d3.el,e,q t v H3 (f2.trans f3) R3 kt rv⟩
  ·exact⟨B,row,O,R2,λt v H3 f3 R3 k r3=>q t v H3 (f2.trans f3) R3 k r3⟩
abbrev zgK:aB:=top 98
def orF (t:Th)(n:Int):Th:=if truT t=Z then t else .int n
def Bnd (t:Th):Prop:=t=.non\/KeyT t
theorem Bnd.wf (h:Bnd t):Wf t:=by
 rcases h with rfl | h
 ·trivial
 ·exact h.wf
def zph {n:Int}(hn:n=1\/n=2)(h:Bnd t):KeyT (orF t n):=by
 unfold orF;by_cases c:truT t=Z
 ·rw[av c];rcases h with rfl | h
  ·cases c
  ·exact h
 ·rw[au c];rcases hn with rfl | rfl <;> exact⟨⟨(),()⟩,by show(0:Nat)<=3;decide,by show(1:Nat)<=20;decide,λz=>by cases z⟩
def zdJ {C x dx:aE}{H:Hp}(hx:H x=U)(hdx:H dx=U)(n:dx≠x){H':Hp}(f:∀b o,b≠x->upd (upd H dx (.own x)) x (.ins C dx []) b=Y o->H' b=Y o):Same H H':=λb o e=>by have n1:=zf e hx;exact f b o n1 (by rw[zd n1,zd (zf e hdx)];exact e)
def ziV {cl:Kd->aE}{x dx:aE}{f:Str}{v:V}{q:Qn}{H:Hp}{ag:Hp->Prop}{E:XK}(hx:H x=U)(hdx:H dx=U)(n:dx≠x)(hf:∀H',Same H H'->q.fs H' [(f,v)])(z:∀H',Same H H'->QAt cl H' q x->ag H'):
  spI1 (cl q.kd) f [.ref x,v] (upd (upd H dx (.own x)) x (.ins (cl q.kd) dx [])) (λu H2=>u=.non/\ag H2) E:=
 ⟨x,dx,v,O,za,λH' f' e=>⟨O,z H' (zdJ hx hdx n f') ⟨dx,_,e,hf H' (zdJ hx hdx n f')⟩⟩⟩
def zg2 {cl:Kd->aE}{x dx:aE}{f g:Str}{v u:V}{q:Qn}{H:Hp}{ag:Hp->Prop}{E:XK}(hx:H x=U)(hdx:H dx=U)(n:dx≠x)(hf:∀H',Same H H'->q.fs H' [(f,v),(g,u)])(z:∀H',Same H H'->QAt cl H' q x->ag H'):
  spI2 (cl q.kd) f g [.ref x,v,u] (upd (upd H dx (.own x)) x (.ins (cl q.kd) dx [])) (λu H2=>u=.non/\ag H2) E:=
 ⟨x,dx,v,u,O,za,λH' f' e=>⟨O,z H' (zdJ hx hdx n f') ⟨dx,_,e,hf H' (zdJ hx hdx n f')⟩⟩⟩
def zln {σ:L2.St}{H:Hp}{Q:L2.VK}(h0:σ[0]? =Y (Y (V.ref row)))(h1:σ[1]? =Y (Y (V.ref pl)))(d:Drw H row pl xs ts)(q:∀t v H',Frm [row] H H'->RowV H' row->Bnd t->Rep H' t v->Q v H'):
  tOp (rIxL K) (tLst (zw (tC V.non) (zw (zeR zlm [] E0 (zw (tVar 0) (zw (tVar 1) tNil))) tNil))) (tCB (λxs H Q=>(∃i,xs=[V.int i]/\Q (V.int i) H)\/∃k,xs=[V.bl k]/\Q (V.int (if k=Z then 1 else 0)) H) (zw (tOp (rI0 λi j=>V.bl (decide (j < i))) (zeR zaI [] E0 (zw (tVar 0) (zw (tC (V.int 4)) tNil))) (tC (V.int 0))) tNil)) σ H Q:=by
 refine⟨_,h0,_,h1,row,pl,xs,ts,O,d,λt v H1 f1 R1 k1 r1=>?_⟩;refine⟨szl (show 2<=1000 by decide),λp hp=>?_⟩;refine⟨_,h0,row,B,R1.new hp,(show(0:Int) < 4 by decide),(by decide+kernel),λr H2 r0 r1' f2 R2=>?_⟩;have ep:=f2.at (za (H:=H1) (a:=p) (o:=.lst [.non,v])) (not1 (R1.ne hp));have r2:=(r1.keep (Tups.new (o:=.lst [.non,v]) hp)).keep (Frm.tupsV f2 (R1.new hp));have f02:=(zc0 (o:=.lst [.non,v]) f1 hp).trans f2;refine⟨am,.inr ⟨ar⟩⟩;cases c:decide ((0:Int) < r) with
 | true=>exact⟨p,_,_,v,O,O,SqL.of ep,O,q t v H2 f02 R2 (.inr k1) r2⟩
 | false=>exact⟨p,_,_,.non,O,O,SqL.of ep,O,q .non _ H2 f02 R2 (.inl rfl) .non⟩
def Hm (H:Hp)(row:aE):Hp:=λa=>if a=row then U else H a
theorem Hm.at {a:aE}{o:HO}(R:RowV H row)(e:H a=Y o)(h:∀xs,o≠ .lst xs):Hm H row a=Y o:=by
 have n:a≠row:=λz=>by obtain⟨_,_,er,_⟩:=R;rw[z,er] at e;cases e;exact h _ rfl
 unfold Hm;rw[au n];exact e
theorem Hm.same:Same (Hm H row) H:=λa o e=>by
 unfold Hm at e;by_cases c:a=row
 ·rw[av c] at e;cases e
 ·rw[au c] at e;exact e
theorem Hm.frm {row:aE}(f:Frm [row] H H'):Same (Hm H row) (Hm H' row):=λa o e=>by
 have e':=Hm.same _ _ e;unfold Hm at e ⊢;by_cases c:a=row
 ·rw[av c] at e;cases e
 ·rw[au c];exact f a o (not1 c) e'
theorem Hm.ne {H:Hp}{row a:aE}{o:HO}(n:a≠row)(e:H a=Y o):Hm H row a=Y o:=by unfold Hm;rw[au n];exact e
theorem Hm.ay (R:RowV H row):Tups H (Hm H row):=λb xs e=>Hm.at R e (by intro _ z;cases z)
theorem QAt.hm {cl:Kd->aE}{H:Hp}{row b:aE}{q:Qn}(h:QAt cl H q b)(R:RowV H row):QAt cl (Hm H row) q b:=by obtain⟨dx,fs,e,f⟩:=h;exact⟨dx,fs,Hm.at R e (by intro _ z;cases z),Qn.fs_keep (Hm.ay R) f⟩
inductive zoC (cl:Kd->aE)(CA:aE)(vs:QR)(H:Hp)(Q:L2.VK)(_E:XK):Prop
 | mk (row pl:aE)(xs:QR)(ts:List Th)(_:vs=[.ref row,.ref pl])(_:Drw H row pl xs ts)(_:∀ak b H',Frm [row] H H'->RowV H' row->AsK ak->AsAt cl CA (Hm H' row) ak b->Q (.ref b) H'):zoC cl CA vs H Q _E
section
variable {cl:Kd->aE}
def zsx (D:Dfn K mg "_law_ask" zgK SE) (zV:Fn P w K mg ax "_law_take" 1 Ss zaI) (zgy:Fn P w K mg ax "_law_some" 7 ["row"] zfM) (ztO:Fn P w K mg ax "_law_key" 8 SE zlm) (zy:mg "len" =U) (za0:mg "int" =U)
  (zu0:Mkr P w K mg ax "Find" (cl .fi) 1 Sz (spI1 (cl .fi) "key")) (ztP:Mkr P w K mg ax "Stretch" (cl .st) 1 Sr (spI2 (cl .st) "low" "high")) (zuV:Mkr P w K mg ax "Count" (cl .co) 1 Sr (spI2 (cl .co) "low" "high")) (zu6:Mkr P w K mg ax "Nth" (cl .nt) 1 Se (spI1 (cl .nt) "number")) (zuC:Mkr P w K mg ax "Put" (cl .pu) 1 SJ (spI2 (cl .pu) "key" "worth")) (zuD:Mkr P w K mg ax "Cut" (cl .cu) 1 Sz (spI1 (cl .cu) "key")) (ztq:Mkr P w K mg ax "Also" CA 1 ["self","asks"] (zhx CA)):Fn P w K mg ax "_law_ask" 9 SE (zoC cl CA):=by
 refine D.ok (k:=8) (fsN ["row","pool","kind","low","high","key"]) ⟨⟩;obtain⟨row,pl,xs,ts,rfl,d0,q⟩:=h;refine⟨_,(zb ∅
 (zb ∅
 (zb ∅
 (zb ∅
 (zb ∅
 (zb ∅
 (zb ∅
 (zb ∅
 (zb ∅
 (zb ∅
 (zx (zQ (zig ztq hr (zl (zfF (zl (zig zuC hr (zl (pv 5) (zl (zo1 (pv 3) (zdx zbD)) zK))) (zl ∅ (zl (zig zuD hr (zl (zo1 (pv 4) (zdx zbD)) zK)) (zl ∅ (zl ∅ zK)))))) zK)))))))))))))),?_⟩
 refine⟨B,row,B,d0.R,(show(0:Int) < 7 by decide),(by decide+kernel),λkd H1 _ _ f1 R1=>?_⟩;have d1:=d0.frm f1 R1;refine zln rfl rfl d1 λlo vl H2 f2 R2 bl r2=>?_;have d2:=d1.frm f2 R2;refine zln rfl rfl d2 λhi vh H3 f3 R3 bh r3=>?_;have d3:=d2.frm f3 R3;have r2:=r2.keep (Frm.tupsV f3 R2);refine⟨ap,row,pl,xs,ts,O,d3,λk vk H4 f4 R4 kk r4=>?_⟩;have d4:=d3.frm f4 R4;have r2:=r2.keep (Frm.tupsV f4 R3);have r3:=r3.keep (Frm.tupsV f4 R3);have f04:=f1.trans (f2.trans (f3.trans f4));have hxl:=d4.rl.len;have h100:=d4.hl;have q':∀qn b H',Same H4 H'->QK qn->QAt cl H' qn b->Q (.ref b) H':=λqn b H' s k qa=>q (.one qn) b H' (f04.trans (Frm.of s)) (R4.keep s) k (qa.hm (R4.keep s));clear f1 f2 f3 f4 R1 R2 R3 d1 d2 d3;refine⟨B,ao⟩;rw[zaa];refine ifB (λc=>?_) (λc=>?_)
 ·exact⟨B,λx dx hx hdx n=>ziV (q:=.find k) hx hdx n (λH' s=>⟨B,r4.keep (Same.ay s)⟩) λH' s qa=>q' (.find k) x H' s kk qa⟩
 refine⟨B,ao⟩;rw[zaa];refine ifB (λc=>?_) (λc=>?_)
 ·exact⟨ap,λx dx hx hdx n=>zg2 (q:=.str lo hi) hx hdx n (λH' s=>⟨_,B,r2.keep (Same.ay s),r3.keep (Same.ay s)⟩) λH' s qa=>q' (.str lo hi) x H' s ⟨bl,bh⟩ qa⟩
 refine⟨B,ao⟩;rw[zaa];refine ifB (λc=>?_) (λc=>?_)
 ·exact⟨ap,λx dx hx hdx n=>zg2 (q:=.cnt lo hi) hx hdx n (λH' s=>⟨_,B,r2.keep (Same.ay s),r3.keep (Same.ay s)⟩) λH' s qa=>q' (.cnt lo hi) x H' s ⟨bl,bh⟩ qa⟩
 refine⟨B,ao⟩;rw[zaa];refine ifB (λc=>?_) (λc=>?_)
 ·refine⟨ap,pl,B,.inl (SqL.of d4.el),am,row,B,R4,(),by omega +splitNatSub,λj H5 _ _ f5 R5=>?_⟩;exact⟨am,λx dx hx hdx n=>ziV (q:=.nth (j - 1)) hx hdx n (λH' s=>O) λH' s qa=>q (.one (.nth (j - 1))) x H' ((f04.trans f5).trans (Frm.of s)) (R5.keep s) trivial (QAt.hm qa (R5.keep s))⟩
 refine⟨B,ao⟩;rw[zaa];refine ifB (λc=>?_) (λc=>?_)
 ·refine⟨ap,row,O,R4,λwt vw H5 f5 R5 kw r5=>?_⟩;have r4:=r4.keep (Frm.tupsV f5 R4);exact λx dx hx hdx n=>zg2 (q:=.put k wt) hx hdx n (λH' s=>⟨_,B,r4.keep (Same.ay s),r5.keep (Same.ay s)⟩) λH' s qa=>q (.one (.put k wt)) x H' ((f04.trans f5).trans (Frm.of s)) (R5.keep s) ⟨kk,kw⟩ (QAt.hm qa (R5.keep s))
 refine⟨B,ao⟩;rw[zaa];refine ifB (λc=>?_) (λc=>?_)
 ·exact⟨B,λx dx hx hdx n=>ziV (q:=.cut k) hx hdx n (λH' s=>⟨B,r4.keep (Same.ay s)⟩) λH' s qa=>q' (.cut k) x H' s kk qa⟩
 have or1:∀{x:V}{t:Th}{n:Int}{H0:Hp}{ag:L2.VK},Rep H0 t x->Wf t->(∀u,Rep H0 (orF t n) u->ag u H0)->OrT x H0 ag (ag (.int n) H0):=λr wt z=>by
  unfold orF at z;refine⟨_,r,wt,λc=>?_,λc=>?_⟩
  ·rw[av c] at z;exact z _ r
  ·rw[au (by rw[c];exact Jd)] at z;exact z _ (.int _)
 refine⟨ap,or1 r2 bl.wf λu1 ru1=>?_⟩;refine λx1 d1 hx1 hd1 n1=>zg2 (q:=.put k (orF lo 1)) hx1 hd1 n1 (λH' s=>⟨_,B,r4.keep (Same.ay s),ru1.keep (Same.ay s)⟩) λH5 s5 q1=>?_;refine⟨B,λx2 d2 hx2 hd2 n2=>ziV (q:=.find k) hx2 hd2 n2 (λH' s=>⟨B,r4.keep (Same.ay (s5.trans s))⟩) λH6 s6 q2=>?_⟩;have s46:=s5.trans s6;refine⟨B,or1 (r3.keep (Same.ay s46)) bh.wf λu3 ru3=>?_⟩;refine λx3 d3 hx3 hd3 n3=>ziV (q:=.cut (orF hi 2)) hx3 hd3 n3 (λH' s=>⟨B,ru3.keep (Same.ay s)⟩) λH7 s7 q3=>?_;have s47:=s46.trans s7;refine⟨ap,λx4 d4 hx4 hd4 n4=>zg2 (q:=.str lo hi) hx4 hd4 n4 (λH' s=>⟨_,B,r2.keep (Same.ay (s47.trans s)),r3.keep (Same.ay (s47.trans s))⟩) λH8 s8 q4=>?_⟩;have s48:=s47.trans s8;refine⟨B,λx5 d5 hx5 hd5 n5=>zg2 (q:=.cnt .non hi) hx5 hd5 n5 (λH' s=>⟨_,B,.non,r3.keep (Same.ay (s48.trans s))⟩) λH9 s9 q5=>?_⟩;refine⟨szl (show 5<=1000 by decide),λp hp=>?_⟩;have sp:Same H9 (upd H9 p (.lst [.ref x1,.ref x2,.ref x3,.ref x4,.ref x5])):=zj (Same.refl H9) hp;have ep:upd H9 p (.lst [.ref x1,.ref x2,.ref x3,.ref x4,.ref x5]) p=Y (.lst [.ref x1,.ref x2,.ref x3,.ref x4,.ref x5]):=za;generalize upd H9 p (.lst [.ref x1,.ref x2,.ref x3,.ref x4,.ref x5])=H10 at sp ep;intro x6 d6 hx6 hd6 n6;refine⟨x6,d6,p,B,za,by rw[zd (zf ep hx6),zd (zf ep hd6)];exact ep,λp' H' hp' f' e1 e2=>⟨O,?_⟩⟩;have s':=zdJ hx6 hd6 n6 f';have t9:=sp.trans s';have t8:=s9.trans t9;have t7:=s8.trans t8;have t6:=s7.trans t7;have R':=R4.keep (s46.trans t6);have np:p'≠row:=λz=>by have R9:=(R4.keep ((s46.trans s7).trans (s8.trans s9)));obtain⟨_,_,er,_⟩:=R9.keep sp;rw[z,zd (zf er hx6),zd (zf er hd6),er] at hp';cases hp'
 refine q (.also [.put k (orF lo 1),.find k,.cut (orF hi 2),.str lo hi,.cnt .non hi]) x6 H' (f04.trans (Frm.of (s46.trans t6))) R' ⟨O,λqn hq=>?_⟩ ⟨d6,p',_,Hm.at R' e1 (by intro _ z;cases z),Hm.ne np e2,O,λi qn hi=>?_⟩
 ·simp only[JJ,JR,or_false] at hq;rcases hq with rfl | rfl | rfl | rfl | rfl
  ·exact⟨kk,zph (.inl rfl) bl⟩
  ·exact kk
  ·exact zph (.inr rfl) bh
  ·exact⟨bl,bh⟩
  ·exact⟨.inl rfl,bh⟩
 match i,hi with
 | 0,hi=>cases hi;exact⟨x1,O,(q1.same (s6.trans t6)).hm R'⟩
 | 1,hi=>cases hi;exact⟨x2,O,(q2.same t6).hm R'⟩
 | 2,hi=>cases hi;exact⟨x3,O,(q3.same t7).hm R'⟩
 | 3,hi=>cases hi;exact⟨x4,O,(q4.same t8).hm R'⟩
 | 4,hi=>cases hi;exact⟨x5,O,(q5.same t9).hm R'⟩
 | i+5,hi=>cases hi
end
end Pv
namespace Pv
open PySem L2
open Tr
abbrev zeO:aB:=top 95
def zun {c:Bool}{A ai N:Prop}(b:c=G->N->ai)(a:c=Z->N->A)(rest:N):if c=Z then A else ai:=ifB (λh=>a h rest) (λh=>b h rest)
def hu_p (hr:Room k A):A.units+60 < bn:=Jy (Nat.add_le_add_left (by decide:60<=64) _) hr.units
def zk3 (cl:Cl CC E)(u t:Th)(s:Vst):OutE VR CN CB CC a D H E (.clash u t) s:=λx v1 v2 H' _ _ r1 r2 g1 g2 ne sn ex=>cl u t v1 v2 H' x r1 r2 g1 g2 ne sn ex
def VK.at1 {C d p:aE}{o:HO}(v:VK C H a [d] s)(e:H p=Y o)(h1:∀C dx fs,o≠ .ins C dx fs)(h2:∀kv,o≠ .dK kv)(h3:∀xs,o≠ .tup xs)(f:Frm [p] H H'):VK C H' a [d] s:=by obtain⟨d',ed,⟨kv,⟨⟨dx,fs,eo,fl⟩,ek⟩,dr⟩,gc⟩:=v.vs;cases ed;refine⟨⟨d,O,⟨kv,⟨⟨dx,fs,f _ _ (not1 (zL eo e λz=>h1 _ _ _ z.symm)) eo,fl⟩,f _ _ (not1 (zL ek e λz=>h2 _ z.symm)) ek⟩,dr.keep λb xs q=>f b _ (not1 (zL q e λz=>h3 _ z.symm)) q⟩,gc⟩,v.kp,v.rm⟩
structure zru (C:aE)(H:Hp)(a d:aE)(st:Vst)(T:Tr):Prop where
 vk:VK C H a [d] st
 tk:TOk st.all T
 so:Srt T.ps
structure Pool (H:Hp)(pl:aE)(ts:List Th):Prop where
 ex:∃xs,H pl=Y (.lst xs)/\RepL H ts xs
 ky:∀t∈ts,KeyT t
theorem Pool.frm (p:Pool H pl ts)(f:Frm W H H')(n:pl∉W)(t:Tups H H'):Pool H' pl ts:=by obtain⟨xs,e,r⟩:=p.ex;exact⟨⟨xs,f _ _ n e,r.keep t⟩,p.ky⟩
structure Plain (w:aH)(H:Hp)(pd:aE)(n:Nat):Prop where
 ex:∃xs,H pd=Y (TD w pd xs)/\Keyed H xs/\xs.length<=n
theorem Keyed.keep (k:Keyed H xs)(t:Tups H H'):Keyed H' xs:=⟨λx hx=>⟨(k.1 x hx).1.keep t,(k.1 x hx).2⟩,k.2⟩
theorem Plain.frm (p:Plain w H pd m)(f:Frm W H H')(n:pd∉W)(t:Tups H H'):Plain w H' pd m:=by obtain⟨xs,e,k,l⟩:=p.ex;exact⟨xs,f _ _ n e,k.keep t,l⟩
def zdN {o:HO}(h:∀f,o≠ .ext f):TD w pd xs≠o:=λz=>h _ z.symm
structure GS (C:aE)(w:aH)(a d pl pd:aE)(H:Hp)(st:Vst)(T:Tr)(ts:List Th)(m:Nat):Prop where
 gr:zru C H a d st T
 po:Pool H pl ts
 pa:Plain w H pd m
theorem GS.same (g:GS C w a d pl pd H st T ts m)(s:Same H H'):GS C w a d pl pd H' st T ts m:=
 ⟨⟨(vi_K C).same g.gr.vk s,g.gr.tk,g.gr.so⟩,g.po.frm (W:=[]) (Frm.of s) (λz=>nomatch z) (Same.ay s),g.pa.frm (W:=[]) (Frm.of s) (λz=>nomatch z) (Same.ay s)⟩
theorem GS.row {C:aE}{w:aH}{a d pl pd row:aE}{H H':Hp}{st:Vst}{T:Tr}{ts:List Th}{m:Nat}(g:GS C w a d pl pd H st T ts m)(R:RowV H row)(n:pl≠row)(f:Frm [row] H H'):GS C w a d pl pd H' st T ts m:=by obtain⟨xs,e,_⟩:=g.pa.ex;have t:=Frm.tupsV f R;obtain⟨_,_,el,_⟩:=R;exact⟨⟨g.gr.vk.at1 el (by intro _ _ _ z;cases z) (by intro _ z;cases z) (by intro _ z;cases z) f,g.gr.tk,g.gr.so⟩,g.po.frm f (not1 n) t,g.pa.frm f (not1 (zL e el (zdN (by intro _ z;cases z)))) t⟩
inductive zhM (C CC:aE)(w:aH)(vs:QR)(H:Hp)(Q:L2.VK)(E:XK):Prop
 | mk (a d cp pl pd:aE)(cells:List Int)(_:vs=[.ref a,.ref cp,.ref pl,.ref pd])(_:VK C H a [d] ⟨[],[],[],1000000⟩)(_:H cp=Y (.lst (cells.map V.int))) (_:cells.length<=30) (_:H pl=Y (.lst [])) (_:cp≠pl) (_:Plain w H pd 0) (_:Cl CC E) (_:∀(T:Tr)(st:Vst)(ts:List Th)(H':Hp),Frm [d,pl,pd] H H'->zru C H' a d st T->Pool H' pl ts->T.cnt<=30->ts.length<=30->900000<=st.n->Q (.int T.root) H'):zhM C CC w vs H Q E
abbrev _root_.SC:List PySem.Str:=["keeper","cells","pool","plain"]
def zo8 (D:Dfn K mg "_law_grown" zeO SC) (zm7:Fn P w K mg ax "_law_row" 1 ["cell"] zlR) (zV:Fn P w K mg ax "_law_take" 1 Ss zaI) (zgy:Fn P w K mg ax "_law_some" 7 ["row"] zfM) (zrW:FnX P w K mg ax "put" 23 Sq (zfI (VK C) CN CB CC)) (zuA:FnX P w K mg ax "cut" 23 Sb (zgn (VK C) CN CB CC)) (zy:mg "len" =U):
  FnX P w K mg ax "_law_grown" 24 SC (zhM C CC w):=by
 refine D.okX (k:=23) (fsN ["keeper","cells","pool","plain","root","cell","row","key"]) (λf _ A _ _ H _ Q E hr h=>?_);obtain⟨a,d,cp,pl,pd,cells,rfl,vk,ecp,hcl,epl,ncp,pd0,cl,q⟩:=h;refine⟨_,(zb ∅
 (zb (zdy PassesOwn.leaving rfl ∅ ∅
 (zb ∅
 (zb ∅
 (zb ∅
 (zb (zag (PW.pt (zj6 ∅ (zlz (znV (zth (hu_t hr) (pv 7) (pv 3))))))
 (zb ∅
 (zx (zeg (zp5 (hu_p hr) (pv 3) (pv 7) ⟨by rfl,by rfl,by rfl,by rfl⟩))))
 (zb (znL (hu_t hr) (pv 3) (pv 7) ∅ (by rfl))
 (zx (setA 4 rfl (zki zrW hr za6 (zl (pv 0) (zl (pv 4) (zl (pv 7) (zl (zqg (hu_t hr) (pv 3) (pv 7) (λ_ _=>O)) zK)))))))))
 ∅)))))
 ∅)),?_⟩
 dsimp only[cxOf];refine⟨B,cp,O,⟨_,SqL.of ecp⟩,?_⟩;have hD:∀{st:Vst}{T:Tr}{ts:List Th}{m:Nat}{H1:Hp},GS C w a d pl pd H1 st T ts m->d≠pl/\d≠pd/\pl≠pd:=λg=>by obtain⟨d',ed,⟨kv,⟨_,ek⟩,_⟩,_⟩:=g.gr.vk.vs;cases ed;obtain⟨xs,e1,_⟩:=g.po.ex;obtain⟨ys,e2,_⟩:=g.pa.ex;exact⟨zL ek e1 (by intro z;cases z),(zL e2 ek (zdN (by intro _ z;cases z))).symm,(zL e2 e1 (zdN (by intro _ z;cases z))).symm⟩
 have g0:GS C w a d pl pd H ⟨[],[],[],1000000⟩ nil [] 0:=⟨⟨vk,TOk.nil,List.Pairwise.nil⟩,⟨⟨[],epl,.nil⟩,λt h=>(nomatch h)⟩,pd0⟩;obtain⟨nd1,nd2,nd3⟩:=hD g0;have ncpW:cp∉ [d,pl,pd]:=λz=>by
  simp only[JJ,JR,or_false] at z;rcases z with z | z | z
  ·exact(vi_K C).not vk ecp (by intro kv z;cases z) (Ji.mpr z)
  ·exact ncp z
  ·obtain⟨xs,e,_⟩:=pd0.ex;rw[z,e] at ecp;cases ecp
 refine zcD (xs:=cells.map V.int) (λi σ H'=>∃(T:Tr)(st:Vst)(ts:List Th)(k5 k6 k7:Option V),σ=[Y (.ref a),Y (.ref cp),Y (.ref pl),Y (.ref pd),Y (.int T.root),k5,k6,k7]/\GS C w a d pl pd H' st T ts i/\ts.length=i/\T.cnt<=i/\1000000<=st.n+3000 * i/\Frm [d,pl,pd] H H')
  ⟨nil,_,[],_,_,B,g0,O,Jb _,Jb _,Frm.refl⟩ ?_ ?_ ?_
 ·rintro i σ H1 _ ⟨T,st,ts,k5,k6,k7,rfl,g1,hl,hc,hn,fr⟩;exact SqL.of (fr.at ecp ncpW)
 ·rintro i y σ H1 hy ⟨T,st,ts,k5,k6,k7,rfl,g1,hl,hc,hn,fr⟩;have hi:i < 30:=by have:=(JG.mp hy).1;rw[JI] at this;lia
  obtain⟨c,ec⟩:∃c,y=.int c:=by rw[JV] at hy;obtain⟨c,_,e⟩:=Option.map_eq_some_iff.mp hy;exact⟨c,e.symm⟩
  subst ec;refine⟨B,c,O,λrow H2 s2 R2 hrow=>?_⟩;have nrow:pl≠row:=λz=>by obtain⟨xs,e,_⟩:=g1.po.ex;rw[z,hrow] at e;cases e
  have g2:=g1.same s2;have f2:Frm [d,pl,pd] H H2:=fr.trans (Frm.of s2);have hrow0:H row=U:=by
   cases e:H row with
   | none=>rfl
   | some o=>
    have nW:row∉ [d,pl,pd]:=λz=>by
     obtain⟨d',ed,⟨kv,⟨_,ek⟩,_⟩,_⟩:=g1.gr.vk.vs;cases ed;obtain⟨xs,e1,_⟩:=g1.po.ex;obtain⟨ys,e2,_⟩:=g1.pa.ex;simp only[JJ,JR,or_false] at z;rcases z with z | z | z
     ·rw[z,ek] at hrow;cases hrow
     ·rw[z,e1] at hrow;cases hrow
     ·rw[z,e2] at hrow;cases hrow
    rw[fr row o nW e] at hrow;cases hrow
  have fW:∀{H3 H4:Hp},Frm [d,pl,pd] H H3->Frm [row] H3 H4->Frm [d,pl,pd] H H4:=λf f' b o n e=>f' b o (not1 λz=>by rw[z,hrow0] at e;cases e) (f b o n e);refine⟨B,row,O,R2,λk v H3 f3 R3 k3 r3=>?_⟩;have g3:=g2.row R2 nrow f3;have f03:=fW f2 f3;dsimp only[zcg];refine zaf (fun σ H'=>∃(v:V)(k:Th),σ=[Y (.ref a),Y (.ref cp),Y (.ref pl),Y (.ref pd),Y (.int T.root),Y (.int c),Y (.ref row),Y v]/\KeyT k/\Rep H' k v/\RowV H' row/\GS C w a d pl pd H' st T ts i/\Frm [d,pl,pd] H H') (λN hN=>?_) ?_
  ·refine⟨B,row,B,R3,(show(0:Int) < 3 by decide),(by decide+kernel),λ_ H4 _ _ f4 R4=>⟨ao⟩⟩;have g4:=g3.row R3 nrow f4;have r4:=r3.keep (Frm.tupsV f4 R3);have f04:=fW f03 f4;refine ifB (λc1=>?_) (λc1=>?_)
   rotate_left
   ·exact ifF rfl (hN _ _ ⟨v,k,O,k3,r4,R4,g4,f04⟩)
   refine⟨B,szl (show 0<=1000 by decide),λp hp=>?_⟩;have s5:Same H4 (upd H4 p (.lst [])):=zj (Same.refl H4) hp;have ep:upd H4 p (.lst []) p=Y (.lst []):=za;generalize upd H4 p (.lst [])=H5 at s5 ep;have g5:=g4.same s5;have R5:=R4.keep s5;have r5:=r4.keep (Same.ay s5);have f05:Frm [d,pl,pd] H H5:=f04.trans (Frm.of s5);obtain⟨xs,el,rl⟩:=g5.po.ex;have hxl:=rl.len;refine⟨pl,p,xs,[],ts,[],O,O,SqL.of el,SqL.of ep,rl,.nil,λt ht=>Jg (g5.po.ky t ht).dp (),⟨ar⟩⟩;by_cases z:ts=[]
   ·subst z;exact ifF rfl (hN _ _ ⟨v,k,O,k3,r5,R5,g5,f05⟩)
   have hpos:=List.length_pos_iff.mpr z;have ne:eqL ts []=G:=by
    cases y:eqL ts [] with
    | false=>rfl
    | true=>exact Jf ((zcR _ _).mp y) z
   rw[ne];refine ifT rfl ⟨ap,B,pl,B,.inl (SqL.of el),row,B,R5,(),by omega +splitNatSub,λj H6 j0 j1 f6 R6=>?_⟩;have g6:=g5.row R5 nrow f6;obtain⟨xs6,el6,rl6⟩:=g6.po.ex;obtain⟨v6,t6,e6,r6,k6⟩:=rl6.pick j0 () g6.po.ky;exact⟨pl,xs6,_,v6,O,O,SqL.of el6,e6,hN _ _ ⟨v6,t6,O,k6,r6,R6,g6,fW f05 f6⟩⟩
  clear R3 r3 g3 f03 f3;rintro σ H4 ⟨v,k,rfl,kk,r4,R4,g4,f04⟩;refine zaf (fun σ H'=>∃(v:V)(k:Th)(T':Tr)(st':Vst),σ=[Y (.ref a),Y (.ref cp),Y (.ref pl),Y (.ref pd),Y (.int T'.root),Y (.int c),Y (.ref row),Y v]/\KeyT k/\Rep H' k v/\GS C w a d pl pd H' st' T' ts (i+1)/\T'.cnt<=i+1/\1000000<=st'.n+3000 * (i+1)/\Frm [d,pl,pd] H H') (λN hN=>?_) ?_
  ·refine⟨B,row,B,R4,(show(0:Int) < 5 by decide),(by decide+kernel),λ_ H5 _ _ f5 R5=>⟨ao⟩⟩;have g5:=g4.row R4 nrow f5;have r5:=r4.keep (Frm.tupsV f5 R4);have f05:=fW f04 f5;obtain⟨xs,epd,kd,xl⟩:=g5.pa.ex;obtain⟨m1,m2,m3⟩:=hD g5;have k8:dep k<=8:=Jg kk.dp ();have tkU:∀{H6:Hp}{ys zs:List Kv},H6 pd=Y (TD w pd ys)->Tups H6 (upd H6 pd (TD w pd zs)):=λe=>Tups.upd λxs z=>by rw[e] at z;cases z
   refine zun (λ_ n=>ifF rfl n) (λc1 n=>?_) ?_
   ·refine⟨ap,pd,B,⟨xs,k,epd,kd,r5,k8,kk.ne,O⟩,ar⟩;cases hv:vT xs k with
    | none=>exact ifF rfl n
    | some v0=>
    clear n;refine ifT rfl ⟨ap,B,a,[d],st,T.root,k,v,O,g5.gr.vk,r5,k8,zoo (A:=λ_=>True) (zk3 cl) g5.gr.tk () (λ_ _=>trivial) (λ_ _=>trivial) λs6 g6 i6 v6 H6 f6 vk6 ev6=>?_⟩;have ev6':v6=.int (cutT k T).root:=ev6;subst ev6';have ep:=zsL (x:=k) g5.gr.so;have gn:=g6.n;have tk:=g5.gr.tk;have cl':(cutT k T).cnt<=T.cnt:=by show(cutT k T).ps.length<=T.ps.length;rw[ep];exact List.length_filter_le _ _
    have t6:=(vi_K C).ay g5.gr.vk f6;have epd6:=f6 _ _ (not1 m2.symm) epd;have r6:=r5.keep t6;have po6:=g5.po.frm f6 (not1 m1.symm) t6;refine⟨B,pd,xs,O,epd6,B,⟨xs,k,v0,epd6,kd.keep t6,r6,k8,kk.ne,hv,λxs' kd' l'=>?_⟩⟩;have t7:=tkU (zs:=xs') epd6;refine hN _ _ ⟨v,k,cutT k T,s6,O,kk,r6.keep t7,⟨⟨vk6.at1 epd6 (λ_ _ _=>zdN (by intro _ z;cases z)) (λ_=>zdN (by intro _ z;cases z)) (λ_=>zdN (by intro _ z;cases z)) (Frm.upd (by simp)),⟨i6,λp hp=>tk.ky p ?_,by have:=tk.ct;lia⟩,?_⟩,po6.frm (W:=[pd]) (Frm.upd (by simp)) (not1 m3) t7,⟨xs',za,kd'.keep t7,()⟩⟩,(),(),(f05.trans (Frm.mono f6 (by simp))).trans (Frm.upd (by simp))⟩
    ·rw[ep] at hp;exact(Jz.mp hp).1
    ·rw[ep];exact List.Pairwise.filter _ g5.gr.so
   ·refine⟨B,row,O,R5,λk1 v1 H6 f6 R6 k1k r6=>?_⟩;have g6:=g5.row R5 nrow f6;have rk6:=r5.keep (Frm.tupsV f6 R5);have f06:=fW f05 f6;obtain⟨ys,epd6,kd6,yl⟩:=g6.pa.ex;refine⟨ap,⟨pd,ys,k,O,epd6,kd6,rk6,k8,kk.ne,Je (show ys.length < 1000 by lia) (szl (Jb _)),λxs' kd' hv' l'=>?_⟩⟩;have t7:=tkU (zs:=xs') epd6;have vk7:VK C (upd H6 pd (TD w pd xs')) a [d] st:=g6.gr.vk.at1 epd6 (λ_ _ _=>zdN (by intro _ z;cases z)) (λ_=>zdN (by intro _ z;cases z)) (λ_=>zdN (by intro _ z;cases z)) (Frm.upd (by simp));have po7:=g6.po.frm (W:=[pd]) (Frm.upd (o:=TD w pd xs') (by simp)) (not1 m3) t7;have f07:Frm [d,pl,pd] H (upd H6 pd (TD w pd xs')):=f06.trans (Frm.upd (by simp));have e7:upd H6 pd (TD w pd xs') pd=Y (TD w pd xs'):=za;have rk7:=rk6.keep t7;have r7:=r6.keep t7;have kd7:=kd'.keep t7;generalize upd H6 pd (TD w pd xs')=H7 at vk7 po7 f07 e7 rk7 r7 kd7;refine⟨ap,ap,B,pd,v1,O,⟨xs',k,e7,kd7,rk7,k8,kk.ne,hv'.symm⟩,a,[d],st,T.root,k,k1,v,v1,O,vk7,rk7,kk.good,r7,zo0 (A:=λ_=>True) (zk3 cl) g6.gr.tk () kk k1k () (λ_ _=>trivial) λs8 g8 i8 v8 H8 f8 vk8 ev8=>?_⟩;have ev8':v8=.int (Tr.putT k k1 T).root:=ev8;subst ev8';have so:=g6.gr.so;have tk:=g6.gr.tk;have ep:=zsZ (x:=k) (w:=k1) so;have il:=zpT (ps:=T.ps) (x:=k) (w:=k1);have gn:=g8.n;have cl':(Tr.putT k k1 T).cnt<=T.cnt+1:=by show(Tr.putT k k1 T).ps.length<=_;rw[ep];exact il
    have t8:=(vi_K C).ay vk7 f8;refine hN _ _ ⟨v,k,Tr.putT k k1 T,s8,O,kk,rk7.keep t8,⟨⟨vk8,⟨i8,λp hp=>?_,()⟩,by rw[ep];exact zqD so⟩,po7.frm f8 (not1 m1.symm) t8,⟨xs',f8 _ _ (not1 m2.symm) e7,kd7.keep t8,()⟩⟩,(),(),f07.trans (Frm.mono f8 (by simp))⟩;rw[ep] at hp;rcases zq0 hp with hp | hp
    ·exact tk.ky p hp
    ·rw[hp];exact⟨kk,k1k⟩
  rintro σ H5 ⟨v,k,T',st',rfl,kk,r5,g5,hc5,hn5,f05⟩;obtain⟨xs,el,rl⟩:=g5.po.ex;have hxl:=rl.len;obtain⟨m1,m2,m3⟩:=hD g5;refine⟨B,.inl ⟨O,_,SqL.of el⟩,B,pl,xs,v,O,O,el,Je (show xs.length < 1000 by lia) (szl (Jb _)),T',st',ts++ [k],_,_,B,⟨⟨(vi_K C).nl g5.gr.vk (NL.lst el),g5.gr.tk,g5.gr.so⟩,⟨⟨_,za,?_⟩,λt ht=>?_⟩,?_⟩,by rw[JF,hl];rfl,hc5,hn5,f05.trans (Frm.upd (by simp))⟩
  ·exact(RepL.snoc r5 rl).keep (Tups.upd λys z=>by rw[el] at z;cases z)
  ·rcases Jk.mp ht with ht | ht
   ·exact g5.po.ky t ht
   ·rw[Ji.mp ht];exact kk
  ·exact g5.pa.frm (W:=[pl]) (Frm.upd (by simp)) (not1 m3.symm) (Tups.upd λys z=>by rw[el] at z;cases z)
 ·rintro σ H1 ⟨T,st,ts,k5,k6,k7,rfl,g1,hl,hc,hn,fr⟩;rw[JI] at hl hc hn;exact⟨B,q T st ts H1 fr g1.gr g1.po () () ()⟩
end Pv
namespace Pv
open PySem L2
abbrev zhk:aB:=top 104
abbrev zdm:aB:=top 103
theorem zfe:∀{ts:List Th}{i:Nat}{t:Th},WfL ts->ts[i]? =Y t->Wf t
 | u::r,0,t,h,e=>by cases e;exact h.1
 | u::r,i+1,t,h,e=>zfe h.2 e
theorem zai {xs:QR}{i:Nat}(h:i<=xs.length):cutV xs U (Y (i:Int))=xs.take i:=by unfold cutV;rw[HT.sIx_nat,HT.sIx_none,ND h];rfl
theorem zam {xs:QR}{i:Nat}(h:i<=xs.length):cutV xs (Y (i:Int)) U=xs.drop i:=by unfold cutV;rw[HT.sIx_nat,HT.sIx_none,ND h,Jq (by rw[JT];lia)]
def GL (σ:L2.St)(H0:Hp)(te:TE)(vs:QR):Prop:=∀H (Q:L2.VK),Same H0 H->(∀l H',Same H H'->H' l=Y (.lst vs)->H l=U->Q (.ref l) H')->te σ H Q
section
variable {σ:L2.St}{H0:Hp}
def GL.sl {te:TE}{tl th:TO}{pp:aE}{xs:QR}{lo hi:Option Int}(h1:∀H Q,Q (.ref pp) H->te σ H Q)(h2:∀H Q,Q lo H->tl σ H Q)(h3:∀H Q,Q hi H->th σ H Q)(e:H0 pp=Y (.lst xs)):GL σ H0 (tSl (rSlL K) te tl th) (cutV xs lo hi):=λH Q s q=>
 h1 H _ (h2 H _ (h3 H _ ⟨pp,xs,O,SqL.of (s _ _ e),λp hp=>q p _ (zj (Same.refl H) hp) za hp⟩))
def GL.one {te:TE}(h:∀H Q,Same H0 H->Q v H->te σ H Q):GL σ H0 (tLst (zw te tNil)) [v]:=λH Q s q=>
 h H _ s ⟨szl (show 1<=1000 by decide),λp hp=>q p _ (zj (Same.refl H) hp) za hp⟩
def GL.cat (h1:GL σ H0 t1 a)(h2:GL σ H0 t2 b)(n:a.length+b.length<=1000):GL σ H0 (tOp rCat t1 t2) (a++b):=λH Q s q=>
 h1 H _ s λl1 H1 s1 e1 n1=>h2 H1 _ (s.trans s1) λl2 H2 s2 e2 n2=>⟨l1,l2,a,b,O,O,s2 _ _ e1,e2,szl n,λp hp=>q p _ ((s1.trans s2).trans (zj (Same.refl H2) hp)) za (s1.free (s2.free hp))⟩
end
inductive zfp (vs:QR)(H:Hp)(Q:L2.VK)(_E:XK):Prop
 | mk (row pp:aE)(xs:QR)(x:V)(_:vs=[.ref row,.ref pp,x])(_:RowV H row)(_:H pp=Y (.lst xs)) (_:pp≠row) (_:xs.length<=500) (_:∀(i:Nat)(l:aE)(H':Hp),i<=xs.length->Frm [row] H H'->RowV H' row->H' l=Y (.lst (xs.take i++ [x]++xs.drop i))->H l=U->Q (.ref l) H'):zfp vs H Q _E
inductive ziu (vs:QR)(H:Hp)(Q:L2.VK)(_E:XK):Prop
 | mk (row:aE)(v:V)(ts:List Th)(j:Nat)(n:Int)(_:vs=[.ref row,v])(_:RowV H row)(_:Rep H (.tup ts) v) (_:WfL ts) (_:ts.length<=40) (_:ts[j]? =Y (.int n)) (_:∀(us:List Th)(v':V)(H':Hp),us.length=ts.length->(∀u∈us,(∃i,u=.int i)\/Wf u)->(∃(j:Nat)(i:Int),us[j]? =Y (.int i)/\(10 ^ 30 < i\/i < -(10 ^ 30)))->Frm [row] H H'->RowV H' row->Rep H' (.tup us) v'->Q v' H'):ziu vs H Q _E
def RowV.pf {p:aE}(R:RowV H row)(f:Frm [row] H H')(h:H' p=U)(R':RowV H' row):H p=U:=by
 cases e:H p with
 | none=>rfl
 | some o=>
  by_cases c:p=row
  ·obtain⟨_,_,z,_⟩:=R';rw[c,z] at h;cases h
  ·rw[f p o (not1 c) e] at h;cases h
def _root_.JC:=@Int.eq_ofNat_of_zero_le
abbrev _root_.SG:List PySem.Str:=["row","paper","new"]
def zqH (D:Dfn K mg "_law_put" zhk SG) (zV:Fn P w K mg ax "_law_take" 1 Ss zaI) (zy:mg "len" =U):Fn P w K mg ax "_law_put" 2 SG zfp:=by
 refine D.ok (k:=1) (fsN ["row","paper","new","at"]) ⟨⟩;obtain⟨row,pp,xs,x,rfl,R0,ep,ne,hl,q⟩:=h;refine⟨_,(zb ∅
 (zx (zQ (zaR zbd (zaR zbd ∅ ∅) ∅)))),?_⟩
 refine⟨ap,pp,B,.inl (SqL.of ep),am,row,B,R0,(),(),λr H1 r0 r1 f1 R1=>?_⟩;obtain⟨i,rfl⟩:=JC r0;have hi:i<=xs.length:=()
 have e1:=f1.at ep (not1 ne);have g:=GL.cat (σ:=[Y (.ref row),Y (.ref pp),Y x,Y (.int (i:Int))]) (H0:=H1) (GL.cat (GL.sl (K:=K) (te:=tVar 1) (tl:=zau) (th:=zcn (tVar 3)) (λ_ _ h=>⟨B,h⟩) (λ_ _ h=>h) (λ_ _ h=>⟨ap,h⟩) e1) (GL.one (te:=tVar 2) λ_ _ _ h=>⟨B,h⟩) (by rw[zai hi,JQ];show _+1<=1000;lia)) (GL.sl (K:=K) (te:=tVar 1) (tl:=zcn (tVar 3)) (th:=zau) (λ_ _ h=>⟨B,h⟩) (λ_ _ h=>⟨ap,h⟩) (λ_ _ h=>h) e1) (by rw[zai hi,zam hi,JF,JQ,JT];show _+1+_<=1000;lia);rw[zai hi,zam hi] at g;exact g H1 _ (Same.refl H1) λl H2 s2 e2 n2=>q i l H2 hi (f1.trans (Frm.of s2)) (R1.keep s2) e2 (R0.pf f1 n2 R1)
def zoN (D:Dfn K mg "_law_shifted" zdm ["row","thing"]) (zV:Fn P w K mg ax "_law_take" 1 Ss zaI) (zy:mg "len" =U) (zg:mg "isinstance" =U) (za0:mg "int" =U) (zaz:mg "range" =U):Fn P w K mg ax "_law_shifted" 2 ["row","thing"] ziu:=by
 refine D.ok (k:=1) (fsN ["row","thing","by","places","at"]) ⟨⟩;obtain⟨row,v,ts,j,n,rfl,R0,rv,wf,hl,hj,q⟩:=h;refine⟨_,(zb ∅
 (zb ∅
 (zb (zgv (i:=3) (zo.one (y:= "thing") (j:=1) (c:=s.heap.objs.size+1) (by rfl) (by rfl) (by decide+kernel) (by decide+kernel) (by rfl) (by decide+kernel) (by rfl) (by decide+kernel) (by rfl) (by first | exact Or.inl rfl | exact Or.inr rfl) (by first | exact Or.inl rfl | exact Or.inr rfl)) rfl ∅ (λ_ _ _=>zlS (zaV (zC (zhR (K:=K) rfl) (by rfl) zg (by rfl) (zl (zdi (zqN (K:=K) rfl) (pv 1) (pv 0) (λ_ _=>O)) (zl ∅ zK))))) (λ_ _ _=>(pv 0)) (zeQ rfl) rfl (Or.inl rfl) (by rfl))
 (zb ∅
 (zx (zQ (zaR zhe (zaR zhe (zdI znk (pv 1) zhK (zdM (pv 4))) (zj2 (zl (zaR znD (zdi zes (pv 1) (pv 4) (λ_ _=>O)) (pv 2)) zK))) (zdI znk (pv 1) (zdM ∅) zhK)))))))),?_⟩
 dsimp only[cxOf];obtain⟨a,vs,rfl,ea,rs⟩:=Rep.list rv;have hvl:=rs.len
 refine zaf (fun σ H'=>∃b:Int,σ=[Y (.ref row),Y (.ref a),Y (.int b),U,U]/\(b=2305843009213693951000000000000000\/b= -2305843009213693951000000000000000)/\Frm [row] H H'/\RowV H' row) (λN hN=>?_) ?_
 ·refine⟨am,by unfold CPow;decide,am,am,by unfold CPow;decide,am,.inl ⟨(),()⟩,?_⟩
  refine⟨B,szl (show 2<=1000 by decide),λp hp=>?_⟩;refine⟨B,row,B,R0.new hp,(show(0:Int) < 2 by decide),(by decide+kernel),λr H2 r0 r1 f2 R2=>?_⟩;have ep:=f2.at (za (H:=H) (a:=p) (o:=.lst [.int 1,.int (-1)])) (not1 (R0.ne hp));have f02:=(zc0 (o:=.lst [.int 1,.int (-1)]) Frm.refl hp).trans f2;have:r=0\/r=1:=()
  rcases this with rfl | rfl
  ·exact⟨p,_,_,.int 1,O,O,SqL.of ep,O,am,.inr ⟨(),()⟩,hN _ _ ⟨B,.inl (),f02,R2⟩⟩
  ·exact⟨p,_,_,.int (-1),O,O,SqL.of ep,O,am,.inr ⟨(),()⟩,hN _ _ ⟨B,.inr (),f02,R2⟩⟩
 rintro σ H1 ⟨b,rfl,hb,f1,R1⟩;have t1:=Frm.tupsV f1 R0;have ea1:=t1 _ _ ea;have rs1:=rs.keep t1;refine⟨B,_,_,_,B,.tup ea1,O,B,ifF rfl ?_⟩;dsimp only[zf0];refine zaf (fun σ H'=>∃(l:aE)(ps:List Nat),σ=[Y (.ref row),Y (.ref a),Y (.int b),Y (.ref l),U]/\Same H1 H'/\H1 l=U/\H' l=Y (.lst (ps.map λk:Nat=>V.int (k:Int)))/\ps≠ []/\ps.length<=40/\∀k∈ps,∃m,ts[k]? =Y (.int m)) (λN hN=>?_) ?_
 ·refine⟨B,a,vs,O,.inr (SqT.of ea1),?_⟩;refine⟨B,(),(),λp hp=>?_⟩;refine zaN (n:=vs.length) (λi acc H'=>Same H1 H'/\H' p=Y (.lst acc)/\∃ps:List Nat,acc=ps.map (λk:Nat=>V.int (k:Int))/\ps.length<=i/\(∀k∈ps,∃m,ts[k]? =Y (.int m))/\(j < i->ps≠ [])) ⟨zj (Same.refl H1) hp,za,[],O,Jb _,(λk h=>by cases h),λh=>Jf h (Jv _)⟩ (λi acc H' hi _=>hi) (λacc H' _=>Jb _) ?_ ?_
  ·rintro i acc H' y H'' hi ⟨sm,ep,ps,rfl,hpl,hpm,hpj⟩ ⟨z1,z2⟩;subst z1 z2;have ev:vs[i]? =Y vs[i]:=JD hi;have et:ts[i]? =Y ts[i]:=JD ();have rx:=(rs1.at i _ _ ev et).keep (Same.ay sm);have nj:(∀m,ts[i]≠ .int m)->j < i+1->ps≠ []:=λh1 h2=>hpj (by
    by_cases c:j=i
    ·subst c;rw[hj] at et;exact Jf (JP et).symm (h1 n)
    ·lia)
   refine⟨ap,a,vs,_,vs[i],O,O,SqT.of (sm _ _ ea1),by rw[Int.zero_add];exact zbt ev,?_⟩;generalize vs[i]=x at rx;generalize hti:ts[i]=ti at rx et nj;cases rx with
   | non=>exact⟨_,_,_,B,.non,O,B,ifF rfl (nxt hi ⟨sm,ep,ps,O,(),hpm,nj (by intro m z;cases z)⟩)⟩
   | str=>exact⟨_,_,_,B,.str _,O,B,ifF rfl (nxt hi ⟨sm,ep,ps,O,(),hpm,nj (by intro m z;cases z)⟩)⟩
   | tup e l h=>exact⟨_,_,_,B,.tup e,O,B,ifF rfl (nxt hi ⟨sm,ep,ps,O,(),hpm,nj (by intro m z;cases z)⟩)⟩
   | int m=>
    refine⟨_,_,_,B,.int _,O,B,ifT rfl ⟨B,ep,zc7 (by rw[JI];lia),nxt hi ⟨zbR sm hp,za,ps++ [i],by rw[JU,Int.zero_add];rfl,by rw[JF];exact Nat.succ_le_succ hpl,λk hk=>?_,λ_ z=>by simp at z⟩⟩⟩
    rcases Jk.mp hk with hk | hk
    ·exact hpm k hk
    ·rw[Ji.mp hk];exact⟨m,et⟩
  ·rintro acc H' ⟨sm,ep,ps,rfl,hpl,hpm,hpj⟩;exact hN _ _ ⟨p,ps,O,sm,hp,ep,hpj (by rw[hvl];exact(JG.mp hj).1),(),hpm⟩
 rintro σ H2 ⟨l,ps,rfl,s2,hl2,el,hps,hpl,hpm⟩;have R2:=R1.keep s2;have t2:=Same.ay s2;refine⟨ap,B,l,B,.inl (SqL.of el),row,B,R2,by rw[JI];have:=List.length_pos_iff.mpr hps;lia,by rw[JI];lia,λr H3 r0 r1 f3 R3=>?_⟩;obtain⟨i,rfl⟩:=JC r0;have hi:i < ps.length:=by rw[JI] at r1;lia
 have el3:=f3.at el (not1 (R1.ne hl2));have ei:atI (ps.map λk:Nat=>V.int (k:Int)) (i:Int)=Y (.int (ps[i]:Nat)):=zbt (by rw[JV,JD hi];rfl);obtain⟨m,em⟩:=hpm _ (Jm hi);generalize ps[i]=k at ei em;have hk:k < ts.length:=(JG.mp em).1;refine⟨l,aj,SqL.of el3,ei,?_⟩;have t13:=t2.trans (Frm.tupsV f3 R2);have ea3:=t13 _ _ ea1;have rs3:=rs1.keep t13;have ek:vs[k]? =Y (.int m):=by have h:=JD (l:=vs) (i:=k) ();have:=rs3.at k _ _ h em;rw[h];generalize vs[k]'_=x at this;cases this;rfl
 have hw1:¬(HT.sIx vs.length 0 U=0/\HT.sIx vs.length vs.length (Y (k:Int))=vs.length):=by rintro⟨_,z⟩;rw[HT.sIx_nat] at z;lia
 have hw2:¬(HT.sIx vs.length 0 (Y ((k:Int)+1))=0/\HT.sIx vs.length vs.length U=vs.length):=by rintro⟨z,_⟩;rw[show(k:Int)+1=((k+1:Nat):Int) from rfl,HT.sIx_nat] at z;lia
 refine⟨ap,B,a,vs,O,SqT.of ea3,hw1,λp1 hp1=>?_⟩;rw[zai ()];have s4:=zj (o:=.tup (vs.take k)) (Same.refl H3) hp1;have e4:upd H3 p1 (.tup (vs.take k)) p1=Y (.tup (vs.take k)):=za;generalize upd H3 p1 (.tup (vs.take k))=H4 at s4 e4;refine⟨ap,a,vs,am,SqT.of (s4 _ _ ea3),zbt ek,B,am,szl (show 1<=1000 by decide),λp2 hp2=>?_⟩;have s5:=zj (o:=.tup [.int (m+b)]) (Same.refl H4) hp2;have e5:upd H4 p2 (.tup [.int (m+b)]) p2=Y (.tup [.int (m+b)]):=za;generalize upd H4 p2 (.tup [.int (m+b)])=H5 at s5 e5;refine⟨p1,p2,am,s5 _ _ e4,e5,szl (by rw[JQ];show _+1<=1000;lia),λp6 H6 s6 e6=>?_⟩;have s36:=(s4.trans s5).trans s6;refine⟨ap,am,B,a,vs,O,SqT.of (s36 _ _ ea3),hw2,λp7 hp7=>?_⟩;rw[show(k:Int)+1=((k+1:Nat):Int) from rfl,zam ()];have s7:=zj (o:=.tup (vs.drop (k+1))) (Same.refl H6) hp7;refine⟨p6,p7,am,s7 _ _ e6,za,szl (by rw[JF,JQ,JT];show _+1+_<=1000;lia),λp8 H8 s8 e8=>?_⟩;have s38:=s36.trans (s7.trans s8);have rs8:=rs3.keep (Same.ay s38);refine q (ts.take k++ [.int (m+b)]++ts.drop (k+1)) _ H8 ?_ (λu hu=>?_) ⟨k,m+b,?_,?_⟩ ((f1.trans (Frm.of s2)).trans (f3.trans (Frm.of s38))) (R3.keep s38) (Rep.tupL e8 (zbK (zbK (rs8.take k) (.cons (.int _) .nil)) (rs8.drop (k+1))))
 ·rw[JF,JF,JQ,JT];show _+1+_=_;lia
 ·rcases Jk.mp hu with hu | hu
  ·rcases Jk.mp hu with hu | hu
   ·obtain⟨i,hi⟩:=List.getElem?_of_mem (Jn hu);exact .inr (zfe wf hi)
   ·exact .inl ⟨_,Ji.mp hu⟩
  ·obtain⟨i,hi⟩:=List.getElem?_of_mem (List.mem_of_mem_drop hu);exact .inr (zfe wf hi)
 ·rw[Nj,JY (by rw[JQ];lia),JQ,ND (),Nat.sub_self];rfl
 ·have wm:=zfe wf em;have wm: -(10 ^ 30)<=m/\m<=10 ^ 30:=wm;rcases hb with rfl | rfl
  ·left;lia
  ·right;lia
abbrev zdO:aB:=top 105
structure Ppr (H:Hp)(l:aE)(xs:QR)(ts:List Th):Prop where
 el:H l=Y (.lst xs)
 rl:RepL H ts xs
 fw:ts.length < 64
 g5:∀t∈ts,G5 t
 nt:zch ts
 nn:∀t∈ts,∃(us:List Th)(j:Nat)(n:Int),t=.tup us/\us[j]? =Y (.int n)
theorem Ppr.same (p:Ppr H l xs ts)(s:Same H H'):Ppr H' l xs ts:=⟨s _ _ p.el,p.rl.keep (Same.ay s),p.fw,p.g5,p.nt,p.nn⟩
structure Bun (cl:Kd->aE)(CA:aE)(H:Hp)(row l b:aE)(xs:QR)(ts:List Th)(q:As):Prop where
 R:RowV H row
 qa:AsAt cl CA (Hm H row) q b
 qo:AsOk q
 pp:Ppr (Hm H row) l xs ts
section
variable {cl:Kd->aE}{H H':Hp}{xs:QR}{ts:List Th}{q:As}
theorem Bun.frm (u:Bun cl CA H row l b xs ts q)(f:Frm [row] H H')(R:RowV H' row):Bun cl CA H' row l b xs ts q:=⟨R,u.qa.same (Hm.frm f),u.qo,u.pp.same (Hm.frm f)⟩
theorem Bun.same (u:Bun cl CA H row l b xs ts q)(s:Same H H'):Bun cl CA H' row l b xs ts q:=u.frm (Frm.of s) (u.R.keep s)
theorem Bun.p (u:Bun cl CA H row l b xs ts q):Ppr H l xs ts:=u.pp.same Hm.same
theorem Bun.a (u:Bun cl CA H row l b xs ts q):AsAt cl CA H q b:=u.qa.same Hm.same
theorem Bun.ne (u:Bun cl CA H row l b xs ts q):l≠row:=λz=>by have:=u.pp.el;unfold Hm at this;rw[av z] at this;cases this
end
theorem Pre.of {H:Hp}{pp:aE}{as rest:QR}{x:V}{ts:List Th}(ep:H pp=Y (.lst (as++x::rest)))(r:RepL H ts as)(hl:ts.length<=500)(hg:∀t∈ts,G5 t)(nt:zch ts):Pre H pp (as++x::rest) ts/\(as++x::rest)[ts.length]? =Y x:=by
 have e:=r.len;refine⟨⟨ep,hl,by rw[JF,JM];lia,?_,hg,nt⟩,?_⟩
 ·rw[List.take_append_of_le_length (),<-e,J9];exact r
 ·rw[JY (),e,Nat.sub_self];rfl
def zch.sub {us:List Th}(n:zch ts)(h:∀u∈us,u∈ts):zch us:=λt ht u hu e=>n t (h t ht) u (h u hu) e
def zch.add {ts us:List Th}{t0:Th}(n:zch ts)(h:∀u∈us,u=t0\/u∈ts)(hn:∀t∈ts,zk t≠zk t0):zch us:=λt ht u hu e=>by
 rcases h t ht with rfl | h1
 ·rcases h u hu with rfl | h2
  ·rfl
  ·exact Jf e.symm (hn u h2)
 ·rcases h u hu with rfl | h2
  ·exact Jf e (hn t h1)
  ·exact n t h1 u h2 e
def zkl {p:aE}{Q:L2.VK}(pp:Ppr H1 l xs ts)(hp:H1 p=U)(q:∀H',Same H1 H'->H' p=Y (.lst ((ts.map zk).map V.int))->Q (.ref p) H'):zeX (Itl K l) p σ js zff (zeR zb7 [] E0 (zw (tVar 0) tNil)) H1 Q:=by
 have hx:=pp.rl.len;refine zaN (n:=xs.length) (λi acc H'=>Same H1 H'/\H' p=Y (.lst acc)/\acc=((ts.take i).map zk).map V.int) ⟨zj (Same.refl H1) hp,za,O⟩ ?_ ?_ ?_ ?_
 ·rintro i acc H' hi ⟨sm,ep,_⟩;exact⟨xs,xs[i],SqL.of (sm _ _ pp.el),JD hi⟩
 ·rintro acc H' ⟨sm,ep,_⟩;exact⟨xs,SqL.of (sm _ _ pp.el),Jb _⟩
 ·rintro i acc H' y H'' hi ⟨sm,ep,ha⟩ ⟨z1,z2⟩;subst z1;have ey:=z2 xs (SqL.of (sm _ _ pp.el));have hit:i < ts.length:=()
  have g:=pp.g5 ts[i] (Jm hit);have fw:=pp.fw;have gd:=g.good;refine tt1 ⟨B,ts[i],y,O,(pp.rl.at i _ _ ey (JD hit)).keep (Same.ay sm),g.wf,by have:=gd.dp;lia,by have:=gd.nd;lia,λH3 s3=>⟨s3 _ _ ep,zc7 (by rw[ha,JI,JI,JQ];lia),nxt hi ⟨zbR (sm.trans s3) hp,za,?_⟩⟩⟩;rw[ha,take_snoc hit,JU,JU];rfl
 ·rintro acc H' ⟨sm,ep,ha⟩;rw[hx,J9] at ha;rw[ha] at ep;exact q H' sm ep
structure Tw (t u:Th):Prop where
 g1:G5 t
 g2:G5 u
 se:zk t=zk u
 ne:t≠u
theorem Tw.symm (h:Tw t u):Tw u t:=⟨h.g2,h.g1,h.se.symm,λz=>h.ne z.symm⟩
def unA:Th:=.tup [.str "unread",.str "raaAdRnaccsome"]
def unB:Th:=.tup [.str "unread",.str "ElmfalQlaasome"]
def zrt:Tw unA unB:=⟨⟨⟨(),⟨by decide+kernel,by decide+kernel⟩,⟨by decide+kernel,by decide+kernel⟩,trivial⟩,(),()⟩,⟨⟨(),⟨by decide+kernel,by decide+kernel⟩,⟨by decide+kernel,by decide+kernel⟩,trivial⟩,(),()⟩,(ziL (by decide+kernel)).seal,by decide+kernel⟩
inductive ziK (cl:Kd->aE)(CA:aE)(vs:QR)(H:Hp)(Q:L2.VK)(_E:XK):Prop
 | mk (row l b:aE)(n:Int)(xs:QR)(ts:List Th)(q:As)(_:vs=[.ref row,.int n,.ref b,.ref l])(_:Bun cl CA H row l b xs ts q)(_:∀H',Frm [row] H H'->RowV H' row->Q (.bl Z) H'):ziK cl CA vs H Q _E
section
variable {cl:Kd->aE}
abbrev _root_.Sn:List PySem.Str:=["row","root","ask","paper"]
def zsn (D:Dfn K mg "_law_unread" zdO Sn) (zV:Fn P w K mg ax "_law_take" 1 Ss zaI) (zdz:Fn P w K mg ax "seal" 13 Sd zb7) (zhv:Fn P w K mg ax "_law_put" 2 SG zfp) (zbG:Fn P w K mg ax "_law_clashes" 29 Su (zj7 cl CA CNS)) (zy:mg "len" =U):Fn P w K mg ax "_law_unread" 30 Sn (ziK cl CA):=by
 refine D.ok (k:=29) (fsN ["row","root","ask","paper","twins","at","spoilt"]) ⟨⟩;obtain⟨row,l,b,n,xs,ts,ak,rfl,bu,q⟩:=h;refine⟨_,(zb ∅
 (zb (zag ∅
 (zx (zeg (znH PySem.F.plainAttrs_list PySem.F.slot_list_reverse PySem.F.type_list_reverse zkq (pv 4))))
 zE)
 (zb (zag (zao zmU ∅ (zbl (zo.zero (by rfl) (by decide+kernel) (by decide+kernel) (by decide+kernel) (by rfl)) rfl ∅ (λ_ _ _=>za5) (λ_ _ _=>∅)) (by rfl))
 ∅
 zE)
 (zb ∅
 (zb (setA 6 rfl (zaR zbd (zaR zbd ∅ ∅) ∅))
 ∅))))),?_⟩
 dsimp only[cxOf];have fw:=bu.p.fw;refine zaf (fun σ H'=>∃w0 v0 v1,σ=[Y (.ref row),Y (.int n),Y (.ref b),Y (.ref l),Y (.ref w0),U,U]/\Same H H'/\H w0=U/\H' w0=Y (.lst [v0,v1])/\Rep H' unA v0/\Rep H' unB v1) (λN hN=>?_) ?_
 ·refine⟨szl (show 2<=1000 by decide),λp1 hp1=>⟨szl (show 2<=1000 by decide),λp2 hp2=>⟨szl (show 2<=1000 by decide),λp3 hp3=>?_⟩⟩⟩;have r1:Rep (upd H p1 (.tup [.str "unread",.str "raaAdRnaccsome"])) unA (.ref p1):=Rep.tupL za (.cons (.str _) (.cons (.str _) .nil));have s1:=zj (o:=.tup [.str "unread",.str "raaAdRnaccsome"]) (Same.refl H) hp1;generalize upd H p1 (.tup [.str "unread",.str "raaAdRnaccsome"])=H1 at r1 s1 hp2 hp3;have r2:Rep (upd H1 p2 (.tup [.str "unread",.str "ElmfalQlaasome"])) unB (.ref p2):=Rep.tupL za (.cons (.str _) (.cons (.str _) .nil));have s2:=zj (o:=.tup [.str "unread",.str "ElmfalQlaasome"]) (Same.refl H1) hp2;generalize upd H1 p2 (.tup [.str "unread",.str "ElmfalQlaasome"])=H2 at r2 s2 hp3;have s3:=zj (o:=.lst [.ref p1,.ref p2]) (Same.refl H2) hp3;exact hN _ _ ⟨p3,_,B,(s1.trans s2).trans s3,s1.free (s2.free hp3),za,r1.keep (Same.ay (s2.trans s3)),r2.keep (Same.ay s3)⟩
 rintro σ H1 ⟨w0,v0,v1,rfl,s1,hw0,e1,r0,r1⟩;have bu1:=bu.same s1;have nw:w0≠row:=bu.R.ne hw0;refine zaf (fun σ H'=>∃t0 t1 v0 v1,σ=[Y (.ref row),Y (.int n),Y (.ref b),Y (.ref l),Y (.ref w0),U,U]/\Frm [row] H H'/\RowV H' row/\H' w0=Y (.lst [v0,v1])/\Rep H' t0 v0/\Rep H' t1 v1/\Tw t0 t1) (λN hN=>?_) ?_
 ·refine⟨B,row,B,bu1.R,(show(0:Int) < 2 by decide),(by decide+kernel),λr H2 _ _ f2 R2=>⟨ao⟩⟩;have e2:=f2.at e1 (not1 nw);have t2:=Frm.tupsV f2 bu1.R;have f02:=(Frm.of s1).trans f2;refine ifB (λ_=>?_) (λ_=>?_)
  ·refine⟨B,.inl ⟨O,_,SqL.of e2⟩,w0,B,O,e2,?_⟩;have tk:Tups H2 (upd H2 w0 (.lst [v1,v0])):=Tups.upd λxs z=>by rw[e2] at z;cases z
   exact hN _ _ ⟨_,_,v1,v0,O,zbs f02 hw0,R2.upd nw,za,(r1.keep t2).keep tk,(r0.keep t2).keep tk,zrt.symm⟩
  ·exact hN _ _ ⟨_,_,v0,v1,O,f02,R2,e2,r0.keep t2,r1.keep t2,zrt⟩
 clear r0 r1 e1 bu1 s1;rintro σ H1 ⟨t0,t1,v0,v1,rfl,f1,R1,e1,r0,r1,tw⟩;have bu1:=bu.frm f1 R1;have gd:=tw.g1.good;refine⟨B,w0,_,_,v0,O,O,SqL.of e1,O,t0,v0,O,r0,tw.g1.wf,by have:=gd.dp;lia,by have:=gd.nd;lia,λH2 s2=>?_⟩;have bu2:=bu1.same s2;refine⟨B,l,O,⟨_,SqL.of bu2.p.el⟩,λp hp=>zkl bu2.p hp λH3 s3 e3=>?_⟩;have fl:((ts.map zk).map V.int).all zd2=Z:=List.all_eq_true.mpr λv hv=>by obtain⟨_,_,rfl⟩:=No.mp hv;rfl
 refine⟨p,B,.inl (SqL.of e3),O,fl,ar⟩;have s13:=s2.trans s3;have f3:=f1.trans (Frm.of s13);have bu3:=bu1.same s13;cases hin:inV (.int (zk t0)) ((ts.map zk).map V.int) with
 | true=>exact ifT rfl (q H3 f3 bu3.R)
 | false=>
 have hno:∀t∈ts,zk t≠zk t0:=λt ht e=>by
  have:inV (.int (zk t0)) ((ts.map zk).map V.int)=Z:=List.any_eq_true.mpr ⟨.int (zk t),List.mem_map_of_mem (List.mem_map_of_mem ht),by rw[e];simp[eqV]⟩
  rw[hin] at this;cases this
 refine ifF rfl ?_;have hx:=bu3.p.rl.len;refine⟨ap,l,B,.inl (SqL.of bu3.p.el),am,row,B,bu3.R,(),(),λi H4 i0 i1 f4 R4=>?_⟩;obtain⟨i,rfl⟩:=JC i0;have hi:i<=xs.length:=()
 have bu4:=bu3.frm f4 R4;have t14:=(Same.ay s13).trans (Frm.tupsV f4 bu3.R);have e4:=f4.at (s13 _ _ e1) (not1 nw);have r0:=r0.keep t14;have r1:=r1.keep t14;have ix:∀{H':Hp}{σ:L2.St}{ag:L2.VK}{j:Int}{v:V},σ[4]? =Y (Y (.ref w0))->H' w0=Y (.lst [v0,v1])->atI [v0,v1] j=Y v->ag v H'->tOp (rIxL K) (tVar 4) (tC (.int j)) σ H' ag:=λh4 e ea z=>⟨_,h4,w0,aj,SqL.of e,ea,z⟩;have gA:GL [Y (.ref row),Y (.int n),Y (.ref b),Y (.ref l),Y (.ref w0),Y (.int (i:Int)),U] H4 (tOp rCat (tSl (rSlL K) (tVar 3) zau (zcn (tVar 5))) (tLst (zw (tOp (rIxL K) (tVar 4) (tC (.int 0))) tNil))) (cutV xs U (Y (i:Int))++ [v0]):=GL.cat (GL.sl (pp:=l) (λ_ _ h=>⟨B,h⟩) (λ_ _ h=>h) (λ_ _ h=>⟨ap,h⟩) bu4.p.el) (GL.one (v:=v0) λ_ _ s h=>ix rfl (s _ _ e4) rfl h) (by rw[zai hi,JQ];show _+1<=1000;lia);rw[zai hi] at gA;refine gA H4 _ (Same.refl H4) λlA H5 s5 eA nA=>?_;have gB:GL [Y (.ref row),Y (.int n),Y (.ref b),Y (.ref l),Y (.ref w0),Y (.int (i:Int)),U] H5 (tSl (rSlL K) (tVar 3) (zcn (tVar 5)) zau) (cutV xs (Y (i:Int)) U):=GL.sl (pp:=l) (λ_ _ h=>⟨B,h⟩) (λ_ _ h=>⟨ap,h⟩) (λ_ _ h=>h) (s5 _ _ bu4.p.el);rw[zam hi] at gB;refine⟨B,gB H5 _ (Same.refl H5) λlB H6 s6 eB nB=>?_⟩;have s46:=s5.trans s6;have R6:=R4.keep s46;refine ix rfl (s46 _ _ e4) rfl ⟨row,lB,_,v1,O,R6,eB,(R4.keep s5).ne nB,by rw[JT];lia,λm lC H7 hm f7 R7 eC _=>?_⟩;have eA7:=f7.at (s6 _ _ eA) (not1 (R4.ne nA));refine⟨lA,lC,am,eA7,eC,szl (by simp only[JF,JQ,JT,JM,Nn] at *;lia),λlD hD=>?_⟩;have s8:=zj (o:=.lst (xs.take i++ [v0]++((xs.drop i).take m++ [v1]++(xs.drop i).drop m))) (Same.refl H7) hD;have eD:upd H7 lD (.lst (xs.take i++ [v0]++((xs.drop i).take m++ [v1]++(xs.drop i).drop m))) lD=Y (.lst ((xs.take i++ [v0]++(xs.drop i).take m)++v1::(xs.drop i).drop m)):=by rw[za];simp[Nj]
 generalize upd H7 lD (.lst (xs.take i++ [v0]++((xs.drop i).take m++ [v1]++(xs.drop i).drop m)))=H8 at s8 eD;have f48:=(Frm.of s46).trans (f7.trans (Frm.of s8));have bu8:=bu4.frm f48 (R7.keep s8);have t48:=Frm.tupsV f48 R4;have e8:=f48.at e4 (not1 nw);have r0:=r0.keep t48;have r1:=r1.keep t48;have rl:=bu8.p.rl;have hm':∀t∈ts.take i++ [t0]++(ts.drop i).take m,t=t0\/t∈ts:=λt ht=>by
  rcases Jk.mp ht with ht | ht
  ·rcases Jk.mp ht with ht | ht
   ·exact .inr (Jn ht)
   ·exact .inl (Ji.mp ht)
  ·exact .inr (List.mem_of_mem_drop (Jn ht))
 obtain⟨pre,hx1⟩:=Pre.of eD (zbK (zbK (rl.take i) (.cons r0 .nil)) ((rl.drop i).take m)) (by simp only[JF,JQ,JT,JM,Nn];lia) (λt ht=>by rcases hm' t ht with rfl | h;exact tw.g1;exact bu8.p.g5 t h) (bu8.p.nt.add hm' hno);have d0:=tw.g1.dp;have d1:=tw.g2.dp;exact⟨ap,B,ix rfl e8 rfl (ix rfl e8 rfl ⟨b,lD,n,ak,_,_,t0,t1,v0,v1,O,bu8.a,bu8.qo,pre,r0,r1,(),(),.two v1 t1 t0 hx1 r1 tw.g2 (Jo _ (Jh _ (Ji.mpr rfl))) tw.se tw.ne ⟨O,O,λH' s'=>q H' ((f3.trans f4).trans (f48.trans (Frm.of s'))) (bu8.R.keep s')⟩⟩)⟩
end
abbrev zfT:aB:=top 106
theorem zjs {t:Th}:∀{ts:List Th},t∈ts->∃j:Nat,ts[j]? =Y t/\∀(m:Nat)(u:Th),m < j->ts[m]? =Y u->u≠t
 | u::r,h=>by
  by_cases c:u=t
  ·exact⟨0,by rw[c];rfl,λm _ h=>Jf h (Jv _)⟩
  ·obtain⟨j,h1,h2⟩:=zjs ((JJ.mp h).resolve_left λz=>c z.symm);refine⟨j+1,h1,λm w hm hw=>?_⟩;cases m with
   | zero=>cases hw;exact c
   | succ m=>exact h2 m w () hw
def G5.sw (g:G5 t):G5 (swT zaP t):=by obtain⟨_,b,c,d⟩:=zjd zdv t;exact⟨b g.wf,by rw[c];exact g.dp,by rw[d];exact g.nd⟩
section
variable {cl:Kd->aE}
def zp7 (D:Dfn K mg "_law_twin" zfT Sn) (zV:Fn P w K mg ax "_law_take" 1 Ss zaI) (zdz:Fn P w K mg ax "seal" 13 Sd zb7) (ziz:Fn P w K mg ax "_law_second" 8 Sd (spSw zaP 6)) (zhv:Fn P w K mg ax "_law_put" 2 SG zfp) (zbG:Fn P w K mg ax "_law_clashes" 29 Su (zj7 cl CA CNS)) (zy:mg "len" =U):Fn P w K mg ax "_law_twin" 30 Sn (ziK cl CA):=by
 refine D.ok (k:=29) (fsN ["row","root","ask","paper","some","one","other","at"]) ⟨⟩;obtain⟨row,l,b,n,xs,ts,ak,rfl,bu,q⟩:=h;refine⟨_,(zb (zgv (i:=4) (zo.zero (by rfl) (by decide+kernel) (by decide+kernel) (by decide+kernel) (by rfl)) rfl ∅ (λ_ _ _=>zlS (zao (zd8 hr) ∅ (pv 0) (zaF _))) (λ_ _ _=>(pv 0)) (zeQ rfl) rfl (Or.inl rfl) (by rfl))
 (zb (zag (zao (zo3 hr) (pv 4) ∅ (zaF _))
 ∅
 zE)
 (zb ∅
 (zb ∅
 (zb (setA 7 rfl (zi7 PySem.F.plainAttrs_list PySem.F.slot_list_index PySem.F.type_list_index (zkx hr) (pv 3) ∅))
 (zb ∅
 (zb (zag (zcL (zaV (zhq zbG hr (zl (pv 1) (zl (pv 2) (zl (zaR zbd (zaR zbd ∅ ∅) ∅) (zl (pv 6) (zl (pv 5) zK))))))))
 ∅
 zE)
 (zx (zQ (zhq zbG hr (zl (pv 1) (zl (pv 2) (zl (zaR zbd ∅ ∅) (zl (pv 5) (zl (pv 6) zK))))))))))))))),?_⟩
 dsimp only[cxOf];have fw:=bu.p.fw;have hx:=bu.p.rl.len;refine zaf (fun σ H'=>∃l4 ys us,σ=[Y (.ref row),Y (.int n),Y (.ref b),Y (.ref l),Y (.ref l4),U,U,U]/\Same H H'/\H l4=U/\H' l4=Y (.lst ys)/\RepL H' us ys/\us.length<=63/\∀u∈us,u∈ts/\swT zaP u≠u) (λN hN=>?_) ?_
 ·refine⟨B,l,O,⟨_,SqL.of bu.p.el⟩,λp hp=>?_⟩;refine zaN (n:=xs.length) (λi acc H'=>Same H H'/\H' p=Y (.lst acc)/\∃us,RepL H' us acc/\us.length<=i/\∀u∈us,u∈ts/\swT zaP u≠u) ⟨zj (Same.refl H) hp,za,[],.nil,Jb _,λu h=>by cases h⟩ ?_ ?_ ?_ ?_
  ·rintro i acc H' hi ⟨sm,ep,_⟩;exact⟨xs,xs[i],SqL.of (sm _ _ bu.p.el),JD hi⟩
  ·rintro acc H' ⟨sm,ep,_⟩;exact⟨xs,SqL.of (sm _ _ bu.p.el),Jb _⟩
  ·rintro i acc H' y H'' hi ⟨sm,ep,us,ru,hul,hum⟩ ⟨z1,z2⟩;subst z1;have ey:=z2 xs (SqL.of (sm _ _ bu.p.el));have hit:i < ts.length:=()
   have mt:=Jm hit;have g:=bu.p.g5 ts[i] mt;have gd:=g.dp;have ry:=(bu.p.rl.at i _ _ ey (JD hit)).keep (Same.ay sm);generalize ts[i]=t at mt g gd ry;refine⟨B,t,y,O,ry,(),(),Jg g.nd (),λv' H3 s3 r3=>⟨B,_,t,r3,ry.keep (Same.ay s3),by rw[(zjd zdv t).2.2.1];lia,ar⟩⟩;have sm3:=sm.trans s3;cases z:eqT (swT zaP t) t with
   | true=>exact ifF rfl (nxt hi ⟨sm3,s3 _ _ ep,us,ru.keep (Same.ay s3),(),hum⟩)
   | false=>
    have tk:Tups H3 (upd H3 p (.lst (acc++ [y]))):=Tups.upd λxs z=>by rw[s3 _ _ ep] at z;cases z
    refine ifT rfl ⟨B,s3 _ _ ep,zc7 (by rw[ru.len];lia),nxt hi ⟨zbR sm3 hp,za,us++ [t],RepL.snoc ((ry.keep (Same.ay s3)).keep tk) ((ru.keep (Same.ay s3)).keep tk),by rw[JF];exact Nat.succ_le_succ hul,λu hu=>?_⟩⟩;rcases Jk.mp hu with hu | hu
    ·exact hum u hu
    ·rw[Ji.mp hu];exact⟨mt,λe=>by rw[(zJ _ _).mpr e] at z;cases z⟩
  ·rintro acc H' ⟨sm,ep,us,ru,hul,hum⟩;exact hN _ _ ⟨p,acc,us,O,sm,hp,ep,ru,(),hum⟩
 rintro σ H1 ⟨l4,ys,us,rfl,s1,hl4,e4,ru,hul,hum⟩;have bu1:=bu.same s1;refine⟨B,szl (show 0<=1000 by decide),λp0 hp0=>?_⟩;have s2:=zj (o:=.lst []) (Same.refl H1) hp0;have e0:upd H1 p0 (.lst []) p0=Y (.lst []):=za;generalize upd H1 p0 (.lst [])=H2 at s2 e0;have s02:=s1.trans s2;have bu2:=bu.same s02;refine⟨l4,p0,ys,O,O,SqL.of (s2 _ _ e4),SqL.of e0,ar⟩;have hyl:=ru.len;cases hys:ys.isEmpty with
 | true=>exact ifT rfl (q H2 (Frm.of s02) bu2.R)
 | false=>
 have hpos:0 < us.length:=by
  cases ys with
  | nil=>cases hys
  | cons a r=>rw[<-hyl];exact Nat.succ_pos _
 refine ifF rfl ?_;refine⟨ap,B,l4,B,.inl (SqL.of (s2 _ _ e4)),row,B,bu2.R,(),(),λr H3 r0 r1 f3 R3=>?_⟩;have bu3:=bu2.frm f3 R3;have e43:=f3.at (s2 _ _ e4) (not1 (bu.R.ne hl4));have ru3:=(ru.keep (Same.ay s2)).keep (Frm.tupsV f3 bu2.R);obtain⟨v1,t1,ea,rv1,ht1,hne⟩:=ru3.pick r0 () hum;refine⟨l4,_,_,v1,O,O,SqL.of e43,ea,?_⟩;have g1:=bu.p.g5 t1 ht1;have gd:=g1.good;have dd:=g1.dp;refine⟨B,t1,v1,O,rv1,(),(),Jg g1.nd (),λvo H4 s4 ro=>?_⟩;have se:zk (swT zaP t1)=zk t1:=(zjd zdv t1).1.seal;have go:=g1.sw;generalize swT zaP t1=to at hne ro se go;have bu4:=bu3.same s4;have rv1:=rv1.keep (Same.ay s4);obtain⟨j,hj,hno⟩:=zjs ht1;have jl:j < ts.length:=(JG.mp hj).1;have f04:=(Frm.of s02).trans (f3.trans (Frm.of s4));refine⟨B,.inl ⟨O,_,SqL.of bu4.p.el⟩,B,l,xs,ts,t1,v1,j,O,O,SqL.of bu4.p.el,bu4.p.rl,rv1,λu hu=>Jg (bu.p.g5 u hu).dp (),(),hj,hno,?_⟩;have god:=go.good;refine⟨B,t1,v1,O,rv1,g1.wf,(),by have:=gd.nd;lia,λH5 s5=>?_⟩;have ro5:=ro.keep (Same.ay s5);refine⟨B,to,vo,O,ro5,go.wf,by have:=god.dp;lia,by have:=god.nd;lia,λH6 s6=>?_⟩;have s46:=s5.trans s6;have bu6:=bu4.same s46;have ro6:=ro5.keep (Same.ay s6);have rv6:=rv1.keep (Same.ay s46);refine⟨O,B,ifF (by rw[se,aw rfl];rfl) ?_⟩;have hjx:j<=xs.length:=()
 have hjx1:j+1<=xs.length:=()
 have d1:=g1.dp;have d2:=go.dp
 have exj:xs.drop j=xs[j]::xs.drop (j+1):=(Jp ());have rxj:∀{H':Hp},Same H6 H'->Rep H' t1 xs[j]:=λs=>(bu6.p.rl.at j _ _ (JD ()) hj).keep (Same.ay s);have gA:GL [Y (.ref row),Y (.int n),Y (.ref b),Y (.ref l),Y (.ref l4),Y v1,Y vo,Y (.int (j:Int))] H6 (tOp rCat (tOp rCat (tSl (rSlL K) (tVar 3) zau (zcn (tVar 7))) (tLst (zw (tVar 6) tNil))) (tSl (rSlL K) (tVar 3) (zcn (tVar 7)) zau)) (cutV xs U (Y (j:Int))++ [vo]++cutV xs (Y (j:Int)) U):=GL.cat (GL.cat (GL.sl (pp:=l) (λ_ _ h=>⟨B,h⟩) (λ_ _ h=>h) (λ_ _ h=>⟨ap,h⟩) bu6.p.el) (GL.one λ_ _ _ h=>⟨B,h⟩) (by rw[zai hjx,JQ];show _+1<=1000;lia)) (GL.sl (pp:=l) (λ_ _ h=>⟨B,h⟩) (λ_ _ h=>⟨ap,h⟩) (λ_ _ h=>h) bu6.p.el) (by rw[zai hjx,zam hjx,JF,JQ,JT];show _+1+_<=1000;lia);rw[zai hjx,zam hjx,exj] at gA;refine⟨ap,gA H6 _ (Same.refl H6) λlA H7 s7 eA nA=>?_⟩;have bu7:=bu6.same s7;have hm':∀t∈ts.take j++ [to],t=to\/t∈ts.take j:=λt ht=>(Jk.mp ht).elim .inr λh=>.inl (Ji.mp h);have hno':∀t∈ts.take j,zk t≠zk to:=λt ht e=>by have e:=bu.p.nt t (Jn ht) t1 ht1 (e.trans se);obtain⟨m,hm,em⟩:=List.getElem_of_mem ht;rw[JQ] at hm;rw[List.getElem_take] at em;exact hno m t () (by rw[<-em];exact JD ()) e
 obtain⟨pre,hx1⟩:=Pre.of eA (zbK (bu7.p.rl.take j) (.cons (ro6.keep (Same.ay s7)) .nil)) (by simp only[JF,JQ,JM,Nn];lia) (λt ht=>by rcases hm' t ht with rfl | h;exact go;exact bu.p.g5 t (Jn h)) ((bu.p.nt.sub λu hu=>Jn hu).add hm' hno')
 refine⟨ap,b,lA,n,ak,_,_,to,t1,vo,v1,O,bu7.a,bu7.qo,pre,ro6.keep (Same.ay s7),rv6.keep (Same.ay s7),(),(),.two _ t1 to hx1 (rxj s7) g1 (Jh _ (Ji.mpr rfl)) se hne ⟨O,O,λH8 s8=>⟨B,ifF rfl ?_⟩⟩⟩
 have s68:=s7.trans s8;have bu8:=bu6.same s68;have gB:GL [Y (.ref row),Y (.int n),Y (.ref b),Y (.ref l),Y (.ref l4),Y v1,Y vo,Y (.int (j:Int))] H8 (tSl (rSlL K) (tVar 3) zau (zcn (tOp (rI0 λi j=>V.int (i+j)) (tVar 7) (tC (.int 1))))) (cutV xs U (Y ((j+1:Nat):Int))):=GL.sl (pp:=l) (λ_ _ h=>⟨B,h⟩) (λ_ _ h=>h) (λ_ _ h=>⟨B,am,B,h⟩) bu8.p.el;rw[zai hjx1] at gB;refine⟨ap,gB H8 _ (Same.refl H8) λlB H9 s9 eB nB=>?_⟩;have gC:GL [Y (.ref row),Y (.int n),Y (.ref b),Y (.ref l),Y (.ref l4),Y v1,Y vo,Y (.int (j:Int))] H9 (tSl (rSlL K) (tVar 3) (zcn (tOp (rI0 λi j=>V.int (i+j)) (tVar 7) (tC (.int 1)))) zau) (cutV xs (Y ((j+1:Nat):Int)) U):=GL.sl (pp:=l) (λ_ _ h=>⟨B,h⟩) (λ_ _ h=>⟨B,am,B,h⟩) (λ_ _ h=>h) (s9 _ _ bu8.p.el);rw[zam hjx1] at gC;refine⟨B,gC H9 _ (Same.refl H9) λlC HA sA eC nC=>?_⟩;have s8A:=s9.trans sA;have RA:=bu8.R.keep s8A;refine⟨B,row,lC,_,vo,O,RA,eC,(bu8.R.keep s9).ne nC,by rw[JT];lia,λm lD HB hm fB RB eD _=>?_⟩;have eBB:=fB.at (sA _ _ eB) (not1 (bu8.R.ne nB));refine⟨lB,lD,am,eBB,eD,szl (by simp only[JF,JQ,JT,JM,Nn] at *;lia),λlE hE=>?_⟩;have sC:=zj (o:=.lst (xs.take (j+1)++((xs.drop (j+1)).take m++ [vo]++(xs.drop (j+1)).drop m))) (Same.refl HB) hE;have eE:upd HB lE (.lst (xs.take (j+1)++((xs.drop (j+1)).take m++ [vo]++(xs.drop (j+1)).drop m))) lE=Y (.lst ((xs.take (j+1)++(xs.drop (j+1)).take m)++vo::(xs.drop (j+1)).drop m)):=by rw[za];simp[Nj]
 generalize upd HB lE (.lst (xs.take (j+1)++((xs.drop (j+1)).take m++ [vo]++(xs.drop (j+1)).drop m)))=HC at sC eE;have f8C:=(Frm.of s8A).trans (fB.trans (Frm.of sC));have buC:=bu8.frm f8C (RB.keep sC);have tC':=(Same.ay s68).trans (Frm.tupsV f8C bu8.R);have hmC:∀t∈ts.take (j+1)++(ts.drop (j+1)).take m,t∈ts:=λt ht=>(Jk.mp ht).elim Jn λh=>List.mem_of_mem_drop (Jn h);obtain⟨preC,hxC⟩:=Pre.of eE (zbK (buC.p.rl.take (j+1)) ((buC.p.rl.drop (j+1)).take m)) (by simp only[JF,JQ,JT];lia) (λt ht=>bu.p.g5 t (hmC t ht)) (bu.p.nt.sub hmC);have m1:t1∈ts.take (j+1):=J2 (i:=j) (by rw[List.getElem?_take_of_lt (Jr j)];exact hj);exact⟨ap,b,lE,n,ak,_,_,t1,to,v1,vo,O,buC.a,buC.qo,preC,rv6.keep tC',ro6.keep tC',(),(),.two vo to t1 hxC (ro6.keep tC') go (Jo _ m1) se.symm (λz=>hne z.symm) ⟨O,O,λHD sD=>q HD ((f04.trans (Frm.of (s46.trans s68))).trans (f8C.trans (Frm.of sD))) (buC.R.keep sD)⟩⟩
end
abbrev zeY:aB:=top 107
def AnR (H:Hp):An->V->Prop
 | .one x,v=>AvR H x v
 | .many xs,v=>AvsR H xs v
theorem AnF.r (h:AnF H0 H x v):AnR H x v:=by
 cases x with
 | many xs=>exact h
 | one x=>cases x with
  | th t=>exact h
  | ls ps=>exact h.1
theorem AnR.same (h:AnR H x v)(s:Same H H'):AnR H' x v:=by
 cases x with
 | one x=>exact AvR.same h s
 | many xs=>obtain⟨p,vs,e,el,hl,r⟩:=h;exact⟨p,vs,e,s _ _ el,hl,λi x u e1 e2=>(r i x u e1 e2).same s⟩
def ztg {H:Hp}{n:Nat}{a b:aE}{xs ys:QR}{ts:List Th}(e:H a=Y (.lst xs))(e':H b=Y (.lst ys))(r:RepL H ts xs)(r':RepL H ts ys)(d:∀t∈ts,dep t<=50):Alk K H (n+1) (.ref a) (.ref b):=by
 have l1:=r.len;have l2:=r'.len;refine .ls (SqL.of e) (SqL.of e') () λi x y e1 e2=>?_;have hi:i < ts.length:=by have:=(JG.mp e1).1;lia
 exact .th (r.at i x _ e1 (JD hi)) (r'.at i y _ e2 (JD hi)) (d _ (Jm hi))
def AvR.alk {n:Nat}(h:AvR H x u)(h':AvR H x v)(k:AvK x):Alk K H (n+1) u v:=by
 cases x with
 | th t=>exact .th h h' k
 | ls ps=>obtain⟨a,xs,rfl,e,r,_⟩:=h;obtain⟨b,ys,rfl,e',r',_⟩:=h';refine ztg e e' r r' λt ht=>?_;obtain⟨p,hp,rfl⟩:=No.mp ht;exact k p hp
def AnR.alk {n:Nat}(h:AnR H x u)(h':AnR H x v)(k:AnK x):Alk K H (n+2) u v:=by
 cases x with
 | one x=>exact AvR.alk h h' k
 | many xs=>
  obtain⟨a,us,rfl,e,l,r⟩:=h;obtain⟨b,ws,rfl,e',l',r'⟩:=h';refine .ls (SqL.of e) (SqL.of e') () λi y z e1 e2=>?_;have hi:i < xs.length:=by have:=(JG.mp e1).1;lia
  exact(r i _ y (JD hi) e1).alk (r' i _ z (JD hi) e2) (k.2 _ (Jm hi))
theorem AvR.hm (h:AvR H x v)(R:RowV H row):AvR (Hm H row) x v:=by
 cases x with
 | th t=>exact Rep.keep h (Hm.ay R)
 | ls ps=>
  obtain⟨pp,xs,rfl,e,r,k⟩:=h;refine⟨pp,xs,O,Hm.ne (λz=>?_) e,r.keep (Hm.ay R),k⟩;obtain⟨a,m,er,_⟩:=R;rw[z,er] at e;cases e;cases ps with
  | nil=>cases r
  | cons p ps=>cases r with
   | cons h _=>cases h
theorem AnR.hm (h:AnR H x v)(k:AnK x)(R:RowV H row):AnR (Hm H row) x v:=by
 cases x with
 | one x=>exact AvR.hm h R
 | many xs=>obtain⟨p,vs,e,el,hl,r⟩:=h;refine⟨p,vs,e,Hm.ne (λz=>?_) el,hl,λi x u e1 e2=>(r i x u e1 e2).hm R⟩;obtain⟨a,m,er,_⟩:=R;rw[z,er] at el;cases el;have h5:=k.1;have:2=xs.length:=hl;lia
def RO (CN:aE)(H:Hp)(ts:List Ob)(vs:QR):Prop:=vs.length=ts.length/\∀(i:Nat)(x:V)(t:Ob),vs[i]? =Y x->ts[i]? =Y t->RepO CN H t x
theorem RO.cons {CN:aE}{H:Hp}{t:Ob}{v:V}{ts:List Ob}{vs:QR}(h:RepO CN H t v)(r:RO CN H ts vs):RO CN H (t::ts) (v::vs):=
 ⟨congrArg (· +1) r.1,λi x u e1 e2=>by
  cases i with
  | zero=>cases e1;cases e2;exact h
  | succ i=>exact r.2 i x u e1 e2⟩
theorem RO.same (r:RO CN H ts vs)(s:Same H H'):RO CN H' ts vs:=⟨r.1,λi x t e1 e2=>(r.2 i x t e1 e2).keep (Kept.of s)⟩
def GO (CN:aE)(σ:L2.St)(te:TE)(t:Ob):Prop:=∀H (Q:L2.VK),(∀v H',Same H H'->RepO CN H' t v->Q v H')->te σ H Q
def GOA (CN:aE)(σ:L2.St)(ta:TA)(ts:List Ob):Prop:=∀H (Q:List V->Hp->Prop),(∀vs H',Same H H'->RO CN H' ts vs->Q vs H')->ta σ H Q
section
variable {σ:L2.St}
theorem GO.val {te:TE}(h:∀H (Q:L2.VK),Q v H->te σ H Q)(r:∀H,RepO CN H t v):GO CN σ te t:=λH _ q=>h H _ (q v H (Same.refl H) (r H))
theorem GO.bl (b:Bool):GO CN σ (tC (.bl b)) (.bl b):=.val (λ_ _ h=>h) λ_=>.bl b
theorem GO.int (i:Int):GO CN σ (tC (.int i)) (.int i):=.val (λ_ _ h=>h) λ_=>.int i
theorem GO.str (x:Str):GO CN σ (tC (.str x)) (.str x):=.val (λ_ _ h=>h) λ_=>.str x
theorem GOA.nil:GOA CN σ tNil []:=λH _ q=>q [] H (Same.refl H) ⟨O,λi x t e=>by cases e⟩
theorem GOA.cons {te:TE}{ta:TA}{t:Ob}{ts:List Ob}(a:GO CN σ te t)(b:GOA CN σ ta ts):GOA CN σ (zw te ta) (t::ts):=λH Q q=>
 a H _ λv H1 s1 r1=>b H1 _ λvs H2 s2 r2=>q (v::vs) H2 (s1.trans s2) (.cons (r1.keep (Kept.of s2)) r2)
def GO.tup {ta:TA}{ts:List Ob}(h:GOA CN σ ta ts)(n:ts.length<=40:=by decide):GO CN σ (tTup ta) (.tup ts):=λH Q q=>
 h H _ λvs H1 s1 r1=>⟨szl (show vs.length<=1000 by rw[r1.1];lia),λp hp=>by
  have s2:=zj (o:=.tup vs) (Same.refl H1) hp;have r2:=r1.same s2;exact q _ _ (s1.trans s2) (.tup za r2.1 r2.2)⟩
theorem GO.lst {ta:TA}{ts:List Ob}(h:GOA CN σ ta ts)(n:ts.length<=40:=by decide):GO CN σ (tLst ta) (.odd 0):=λH Q q=>
 h H _ λvs H1 s1 r1=>⟨szl (show vs.length<=1000 by rw[r1.1];lia),λp hp=>q _ _ (s1.trans (zj (Same.refl H1) hp)) (.lst za)⟩
def GO.dic:GO CN σ zkw (.odd 1):=λH Q q p hp=>q _ _ (zj (Same.refl H) hp) (.dic za)
end
def oddO:List Ob:=[.bl Z,.odd 0,.int 1000000000000000000000000000001,.str (mulS "a" 61),.tup [.str "k",.bl Z,.int 0,.int 0,.int 1],.tup [.str "k",.tup [.odd 0],.int 0,.int 0,.int 1],.odd 1,.tup [.tup [.bl G],.int 1,.int 0,.int 0,.int 1]]
def zrv:TA:=zw (tC (V.bl Z)) (zw (tLst (zw (tC (V.int 1)) tNil)) (zw (tOp (rI0 λi j=>V.int (i+j)) (tOp (rI CPow λi j=>V.int (i ^ j.toNat)) (tC (V.int 10)) (tC (V.int 30))) (tC (V.int 1))) (zw (tOp (λx y H Q=>∃z n,x=V.str z/\y=V.int n/\0<=n/\n<=1000/\z.length<=1000/\(mulS z n).length<=1000/\Q (V.str (mulS z n)) H) (tC (V.str "a")) (tC (V.int 61)))
 (zw (tTup (zw (tC (V.str "k")) (zw (tC (V.bl Z)) (zw (tC (V.int 0)) (zw (tC (V.int 0)) (zw (tC (V.int 1)) tNil)))))) (zw (tTup (zw (tC (V.str "k")) (zw (tTup (zw (tLst (zw (tC (V.int 1)) tNil)) tNil)) (zw (tC (V.int 0)) (zw (tC (V.int 0)) (zw (tC (V.int 1)) tNil)))))) (zw zkw (zw (tTup (zw (tTup (zw (tC (V.bl G)) tNil)) (zw (tC (V.int 1)) (zw (tC (V.int 0)) (zw (tC (V.int 0)) (zw (tC (V.int 1)) tNil)))))) tNil)))))))
def zqx (σ:L2.St):GOA CN σ zrv oddO:=by
 unfold zrv oddO;refine .cons (.bl _) (.cons (.lst (.cons (.int _) .nil)) (.cons (.val (v:=.int 1000000000000000000000000000001) (λ_ _ h=>⟨am,by unfold CPow;decide,am,h⟩) λ_=>.int _) (.cons (.val (v:=.str (mulS "a" 61)) (λ_ _ h=>⟨"a",61,O,O,(),(),by decide+kernel,by decide+kernel,h⟩) λ_=>.str _) (.cons (.tup ?_) (.cons (.tup ?_) (.cons .dic (.cons (.tup ?_) .nil)))))))
 ·exact .cons (.str _) (.cons (.bl _) (.cons (.int _) (.cons (.int _) (.cons (.int _) .nil))))
 ·exact .cons (.str _) (.cons (.tup (.cons (.lst (.cons (.int _) .nil)) .nil)) (.cons (.int _) (.cons (.int _) (.cons (.int _) .nil))))
 ·exact .cons (.tup (.cons (.bl _) .nil)) (.cons (.int _) (.cons (.int _) (.cons (.int _) (.cons (.int _) .nil))))
def zsd:∀t∈oddO,within t 5=G:=by decide+kernel
def zqC:∀t∈oddO,OkO t:=by
 have k:OkO (.str "k"):=⟨by decide+kernel,by decide+kernel⟩;intro t ht;simp only[oddO,JJ,JR,or_false] at ht;rcases ht with rfl | rfl | rfl | rfl | rfl | rfl | rfl | rfl
 ·trivial
 ·trivial
 ·trivial
 ·exact⟨by decide+kernel,by decide+kernel⟩
 ·exact⟨(),k,trivial,trivial,trivial,trivial,trivial⟩
 ·exact⟨(),k,⟨(),trivial,trivial⟩,trivial,trivial,trivial,trivial⟩
 ·trivial
 ·exact⟨(),⟨(),trivial,trivial⟩,trivial,trivial,trivial,trivial,trivial⟩
theorem RowV.kept (R:RowV H row)(R':RowV H' row)(f:Frm [row] H H'):Kept H H':=λb o e=>by
 by_cases c:b=row
 ·obtain⟨_,_,e1,_⟩:=R;obtain⟨_,_,e2,_⟩:=R';rw[c,e1] at e;cases e;exact .inr ⟨_,B,by rw[c];exact e2⟩
 ·exact .inl (f b o (not1 c) e)
theorem znS:∀{us:List Th}{j:Nat}{t:Th},us[j]? =Y t->(ofL us)[j]? =Y (ofT t)
 | u::r,0,t,e=>by cases e;rfl
 | u::r,j+1,t,e=>znS (us:=r) e
theorem zpd:∀{us:List Th},(∀u∈us,(∃i,u=.int i)\/Wf u)->OkOL (ofL us)
 | [],_=>trivial
 | u::r,h=>⟨by
   rcases h u JO with ⟨i,rfl⟩ | w
   ·trivial
   ·exact zfK u w,zpd λv hv=>h v (Jj _ hv)⟩
inductive zhJ (cl:Kd->aE)(CA CC:aE)(vs:QR)(H:Hp)(Q:L2.VK)(E:XK):Prop
 | mk (row l b:aE)(n:Int)(va:V)(xs:QR)(ts:List Th)(q:As)(x:An)(_:vs=[.ref row,.int n,.ref b,va,.ref l])(_:Bun cl CA H row l b xs ts q)(_:AnR (Hm H row) x va) (_:AnK x) (_:(asP n q).wp ⟨zv ts,[],[],900000⟩ (λy _=>y=x) (λe _=>∃u t,e=.clash u t)) (_:Cl CC E) (_:∀H',Frm [row] H H'->RowV H' row->Q (.bl Z) H'):zhJ cl CA CC vs H Q E
section
variable {cl:Kd->aE}
abbrev _root_.Sy:List PySem.Str:=["row","root","ask","answer","paper"]
def znq (D:Dfn K mg "_law_right" zeY Sy) (zV:Fn P w K mg ax "_law_take" 1 Ss zaI) (zhv:Fn P w K mg ax "_law_put" 2 SG zfp) (zpJ:Fn P w K mg ax "_law_shifted" 2 ["row","thing"] ziu) (ziA:Fn P w K mg ax "_law_is_bad" 29 Sf (zrM cl CA CNS)) (zrc:Fn P w K mg ax "_law_unread" 30 Sn (ziK cl CA)) (ztr:Fn P w K mg ax "_law_twin" 30 Sn (ziK cl CA)) (zm6:FnX P w K mg ax "checked" 27 Sf (zh5 cl CA W CNS CN CB CC)) (zy:mg "len" =U):FnX P w K mg ax "_law_right" 31 Sy (zhJ cl CA CC):=by
 refine D.okX (k:=30) (fsN ["row","root","ask","answer","paper","odds","at","shifted"]) ⟨⟩;obtain⟨row,l,b,n,va,xs,ts,ak,x,rfl,bu,ra,kx,ck,cc,q⟩:=h;refine⟨_,(zb (setA 5 rfl (zfF (zl zrS (zl ∅ (zl ∅ (zoO zq2 (zl ∅ (zl ∅ (zl zjJ (zl ∅ zK))))))))))
 (zb ∅
 (zb (zag ∅
 (zb ∅
 (zb ∅
 (zx (zag (zcL (zaV (zhq ziA hr (zl (pv 1) (zl (pv 2) (zl (zaR zbd (zaR zbd ∅ ∅) ∅) zK))))))
 ∅
 zE))))
 zE)
 (zb ∅
 (zx (zQ (zax (zpU hr) ∅ (pv 3) (zaF _)))))))),?_⟩
 dsimp only[cxOf];have fw:=bu.p.fw;have hx:=bu.p.rl.len;refine zaf (fun σ H'=>∃l5 vs,σ=[Y (.ref row),Y (.int n),Y (.ref b),Y va,Y (.ref l),Y (.ref l5),U,U]/\Same H H'/\H l5=U/\H' l5=Y (.lst vs)/\RO CNS H' oddO vs) (λN hN=>?_) ?_
 ·refine zqx (CN:=CNS) _ H _ λvs H1 s1 r1=>⟨szl (show vs.length<=1000 by rw[r1.1];decide),λp hp=>?_⟩;have s2:=zj (o:=.lst vs) (Same.refl H1) hp;exact hN _ _ ⟨p,vs,O,s1.trans s2,s1.free hp,za,r1.same s2⟩
 rintro σ H1 ⟨l5,vs,rfl,s1,hl5,e5,ro⟩;have bu1:=bu.same s1;have nl5:l5≠row:=bu.R.ne hl5
 refine zaf (fun σ H'=>σ=[Y (.ref row),Y (.int n),Y (.ref b),Y va,Y (.ref l),Y (.ref l5),U,U]/\Frm [row] H H'/\RowV H' row) (λN hN=>?_) ?_
 ·refine⟨ap,ap,ap,row,B,bu1.R,(show(0:Int) < 8 by decide),(by decide+kernel),λr H2 r0 r1 f2 R2=>?_⟩;have bu2:=bu1.frm f2 R2;obtain⟨j,rfl⟩:=JC r0;have hv8:vs.length=8:=ro.1;have hj:j < vs.length:=()
  have ho:oddO.length=8:=rfl;have hjo:j < oddO.length:=()
  have ev:=JD hj;have rv:=(ro.2 j _ _ ev (JD hjo)).keep (bu1.R.kept R2 f2);have mo:=Jm hjo;generalize oddO[j]=ob at rv mo;refine⟨l5,_,_,vs[j],O,O,SqL.of (f2.at e5 (not1 nl5)),zbt ev,row,l,xs,vs[j],O,R2,bu2.p.el,bu.ne,(),λi lA H3 hi f3 R3 eA nA=>?_⟩;have bu3:=bu2.frm f3 R3;rw[show xs.take i++ [vs[j]]++xs.drop i=xs.take i++vs[j]::xs.drop i from by simp] at eA;obtain⟨pre,hx1⟩:=Pre.of eA (bu3.p.rl.take i) (by rw[JQ];lia) (λt ht=>bu.p.g5 t (Jn ht)) (bu.p.nt.sub λt ht=>Jn ht);exact⟨b,lA,n,ak,_,B,bu3.a,bu3.qo,pre,.odd _ ob hx1 (rv.keep (R2.kept R3 f3)) (zqC ob mo) (zsd ob mo) λH4 s4=>⟨B,ifF rfl (hN _ _ ⟨O,(Frm.of s1).trans (f2.trans (f3.trans (Frm.of s4))),R3.keep s4⟩)⟩⟩
 clear ro e5 bu1 s1;rintro σ H1 ⟨rfl,f1,R1⟩;have bu1:=bu.frm f1 R1
 refine zaf (fun σ H'=>∃k6 k7,σ=[Y (.ref row),Y (.int n),Y (.ref b),Y va,Y (.ref l),Y (.ref l5),k6,k7]/\Frm [row] H H'/\RowV H' row) (λN hN=>?_) ?_
 ·refine⟨B,szl (show 0<=1000 by decide),λp0 hp0=>?_⟩;have s2:=zj (o:=.lst []) (Same.refl H1) hp0;have e0:upd H1 p0 (.lst []) p0=Y (.lst []):=za;generalize upd H1 p0 (.lst [])=H2 at s2 e0;have bu2:=bu1.same s2;have f2:=f1.trans (Frm.of s2);refine⟨l,p0,xs,[],ts,[],O,O,SqL.of bu2.p.el,SqL.of e0,bu2.p.rl,.nil,λt ht=>Jg (bu.p.g5 t ht).dp (),⟨ar⟩⟩;by_cases z:ts=[]
  ·subst z;exact ifF rfl (hN _ _ ⟨_,B,f2,bu2.R⟩)
  have hpos:=List.length_pos_iff.mpr z;have ne:eqL ts []=G:=by
   cases y:eqL ts [] with
   | false=>rfl
   | true=>exact Jf ((zcR _ _).mp y) z
  rw[ne];refine ifT rfl ⟨ap,l,B,.inl (SqL.of bu2.p.el),row,B,bu2.R,(),(),λr H3 r0 r1 f3 R3=>?_⟩;have bu3:=bu2.frm f3 R3;obtain⟨k,rfl⟩:=JC r0;have hk:k < xs.length:=()
  have hkt:k < ts.length:=()
  have ek:=JD hk;have rk:=bu3.p.rl.at k _ _ ek (JD hkt);have mk:=Jm hkt;obtain⟨us,j,m,et,ej⟩:=bu.p.nn _ mk;have wt:=(bu.p.g5 _ mk).wf;rw[et] at rk wt;refine⟨ap,B,l,_,_,xs[k],O,O,SqL.of bu3.p.el,zbt ek,row,_,us,j,m,O,R3,rk,wt.2,wt.1,ej,λus' v' H4 hlen hus hbad f4 R4 r4=>?_⟩;have bu4:=bu3.frm f4 R4;have hk1:k+1<=xs.length:=hk;have hk0:k<=xs.length:=()
  have gA:GL [Y (.ref row),Y (.int n),Y (.ref b),Y va,Y (.ref l),Y (.ref l5),Y (.int (k:Int)),Y v'] H4 (tOp rCat (tOp rCat (tSl (rSlL K) (tVar 4) zau (zcn (tVar 6))) (tLst (zw (tVar 7) tNil))) (tSl (rSlL K) (tVar 4) (zcn (tOp (rI0 λi j=>V.int (i+j)) (tVar 6) (tC (.int 1)))) zau)) (cutV xs U (Y (k:Int))++ [v']++cutV xs (Y ((k+1:Nat):Int)) U):=GL.cat (GL.cat (GL.sl (pp:=l) (λ_ _ h=>⟨B,h⟩) (λ_ _ h=>h) (λ_ _ h=>⟨ap,h⟩) bu4.p.el) (GL.one λ_ _ _ h=>⟨B,h⟩) (by rw[zai hk0,JQ];show _+1<=1000;lia)) (GL.sl (pp:=l) (λ_ _ h=>⟨B,h⟩) (λ_ _ h=>⟨B,am,B,h⟩) (λ_ _ h=>h) bu4.p.el) (by rw[zai hk0,zam hk1,JF,JQ,JT];show _+1+_<=1000;lia);rw[zai hk0,zam hk1,show xs.take k++ [v']++xs.drop (k+1)=xs.take k++v'::xs.drop (k+1) from by simp] at gA;refine⟨ap,gA H4 _ (Same.refl H4) λlA H5 s5 eA nA=>?_⟩;have bu5:=bu4.same s5;obtain⟨pre,hx1⟩:=Pre.of eA (bu5.p.rl.take k) (by rw[JQ];lia) (λt ht=>bu.p.g5 t (Jn ht)) (bu.p.nt.sub λt ht=>Jn ht);have wn:within (ofT (.tup us')) 5=G:=by
   obtain⟨j',i',e',hi'⟩:=hbad;have:zF (ofL us') 4=G:=zbZ (znS e') (by
    show absB i'=G;refine Jc ?_;show¬(if i' < 0 then -i' else i')<=(10:Int) ^ 30;split <;> lia)
   show(decide ((ofL us').length<=40) && zF (ofL us') 4)=G;rw[this,Nz]
  refine⟨b,lA,n,ak,_,B,bu5.a,bu5.qo,pre,.odd _ (ofT (.tup us')) hx1 (r4.keep (Same.ay s5)).toO ⟨by rw[zec,hlen];have:=wt.1;lia,zpd hus⟩ wn λH6 s6=>⟨B,ifF rfl (hN _ _ ⟨_,B,f2.trans (f3.trans (f4.trans (Frm.of (s5.trans s6)))),bu5.R.keep s6⟩)⟩⟩
 clear bu1 f1 R1;rintro σ H1 ⟨k6,k7,rfl,f1,R1⟩;have bu1:=bu.frm f1 R1;refine⟨ap,ap,row,l,b,n,xs,ts,ak,O,bu1,λH2 f2 R2=>⟨B,ifF rfl ?_⟩⟩;have bu2:=bu1.frm f2 R2;refine⟨ap,ap,row,l,b,n,xs,ts,ak,O,bu2,λH3 f3 R3=>⟨B,ifF rfl ?_⟩⟩;have bu3:=bu2.frm f3 R3;have f03:=f1.trans (f2.trans f3);have pre:Pre H3 l xs ts:=⟨bu3.p.el,(),(),by rw[<-hx,J9];exact bu3.p.rl,bu.p.g5,bu.p.nt⟩;refine⟨ap,B,b,l,n,ak,xs,ts,O,bu3.a,bu3.qo,pre,.inl ⟨hx.symm,λ_=>Pg.aA (λy _ e=>?_) (λe _ z=>?_) ck⟩⟩
 rotate_left
 ·obtain⟨u,t,rfl⟩:=z;exact λy v1 v2 H' _ r1 r2 g1 g2 ne sn ex=>cc u t v1 v2 H' y r1 r2 g1 g2 ne sn ex
 rw[e];intro v H4 s4 an;have ra4:=((ra.same (Hm.frm f03)).same Hm.same).same s4;exact⟨B,an.r.alk ra4 kx,q H4 (f03.trans (Frm.of s4)) (R3.keep s4)⟩
end
end Pv
namespace Pv
open PySem L2
open Tr
abbrev zgo:aB:=top 108
def zon {X:Cx}{w:aH}{pos:Pos}(h:X.w=w):PE X (.Dict [] [] pos) (zrz w):=h ▸ zqd
def SqL.keepS (h:SqL K H a xs)(s:Same H H'):SqL K H' a xs:=by
 rcases h with h | h
 ·rcases h with h | ⟨o,h⟩
  ·exact .inl (.inl (s _ _ h))
  ·exact .inl (.inr ⟨o,s _ _ h⟩)
 ·exact .inr h
def zno (ns:List Int)(lo hi:Option Int):∃ms:List Int,cutV (ns.map V.int) lo hi=ms.map V.int/\ms.length<=ns.length:=by
 refine⟨(ns.drop (HT.sIx ns.length 0 lo)).take (HT.sIx ns.length ns.length hi - HT.sIx ns.length 0 lo),?_,?_⟩
 ·unfold cutV;rw[JI,List.map_take,List.map_drop]
 ·rw[JQ,JT];lia
def ziP {row:aE}(s:Same H H1)(hr:H row=U)(f:Frm [row] H1 H2):Same H H2:=λb o e=>f b o (not1 (zf e hr)) (s b o e)
def zmw (ns:List Int){v:Int}(h:0<=v):∃ms:List Int,cutV (ns.map V.int) U (Y v)=ms.map V.int/\ms.length<=v.toNat:=by
 refine⟨ns.take (HT.sIx ns.length ns.length (Y v)),?_,?_⟩
 ·unfold cutV;rw[JI,List.map_take]
  rfl
 ·rw[JQ];show min (if v < 0 then(v+(ns.length:Int)).toNat else min v.toNat ns.length) _<=_;rw[au ()];lia
def zmx {C x dx:aE}{H:Hp}{ag:Hp->Prop}(hx:H x=U)(hdx:H dx=U)(n:dx≠x)(q:∀d H',Same H H'->H d=U->H' x=Y (.ins C dx [("laid",.ref d)])->H' d=Y (.dK [])->ag H'):
  zb2 C [.ref x] (upd (upd H dx (.own x)) x (.ins C dx [])) (λv H2=>v=.non/\ag H2) E:=by
 refine⟨x,dx,O,za,λd hd=>⟨O,?_⟩⟩;have xd:x≠d:=λz=>by rw[<-z,za] at hd;cases hd
 have dd:dx≠d:=λz=>by rw[<-z,zd n,za] at hd;cases hd
 have hd0:H d=U:=by rw[zd (aV xd),zd (aV dd)] at hd;exact hd
 refine q d _ (λb o e=>?_) hd0 za (by rw[zd (aV xd)];exact za);have n1:=zf e hx;rw[zd n1,zd (zf e hd0),zd n1,zd (zf e hdx)];exact e
def Pg.Run.det {p:Pg α}{r1 r2:Except Er α}(h:Pg.Run p s r1 s1):Pg.Run p s r2 s2->r1=r2/\s1=s2:=by
 induction h with
 | ret=>intro g;cases g;exact⟨O,O⟩
 | bad=>intro g;cases g;exact⟨O,O⟩
 | rd z _ ih=>
  intro g;cases g with
  | rd y g=>rw[z] at y;cases y;exact ih g
  | lacks y=>rw[z] at y;cases y
 | lacks z=>
  intro g;cases g with
  | rd y g=>rw[z] at y;cases y
  | lacks y=>exact⟨O,O⟩
 | lay z _ ih=>
  intro g;cases g with
  | lay y g=>exact ih g
  | clash y=>rw[z] at y;cases y
 | clash z=>
  intro g;cases g with
  | lay y g=>rw[z] at y;cases y
  | clash y=>rw[z] at y;cases y;exact⟨O,O⟩
def zba {cs:QF}{ns:List Int}(g:GoodC cs)(hp:ns.Perm (cs.map (·.1))){t:Th}:t∈zU cs ns↔zh cs (zk t)=Y t:=by
 unfold zU;constructor
 ·intro h;obtain⟨n,hn,e⟩:=No.mp h;obtain⟨u,eu⟩:=zc2 (hp.subset hn);rw[eu] at e;have e':u=t:=e;subst e';rw[(g.dep eu).2];exact eu
 ·intro h;refine No.mpr ⟨zk t,hp.symm.subset (No.mpr ⟨_,zet h,O⟩),?_⟩;rw[h];rfl
def zgh {cs:QF}{ns:List Int}(g:GoodC cs)(hp:ns.Perm (cs.map (·.1))):zch (zU cs ns):=λt ht u hu e=>by have h1:=(zba g hp).mp ht;have h2:=(zba g hp).mp hu;rw[e,h2] at h1;exact(JP h1).symm
def zj9 {cs:QF}{ns:List Int}(hp:ns.Perm (cs.map (·.1))):(zU cs ns).length=cs.length:=by unfold zU;rw[JI,hp.length_eq,JI]
theorem zdX (nt:zch ts):∀i,i<=ts.length->Held (zv (ts.take i)) (ts.take i)
 | 0,_=>λt h=>by cases h
 | i+1,hi=>λt ht=>by
  have hil:i < ts.length:=()
  rw[Na,JD hil] at ht;rw[zaj hil];rcases Jk.mp ht with ht | ht
  ·exact za9 (zdX nt i () t ht)
  ·have e:t=ts[i]:=by simpa using ht
   subst e;exact zas (zd1 nt hil)
theorem zje {cs:QF}{ns:List Int}(g:GoodC cs)(hp:ns.Perm (cs.map (·.1)))(n:Int):zh (zv (zU cs ns)) n=zh cs n:=by
 have hh:=zdX (zgh g hp) _ (Jb _);rw[J9] at hh;cases z:zh cs n with
 | some u=>have e:=(g.dep z).2;have hu:u∈zU cs ns:=(zba g hp).mpr (by rw[e];exact z);have:=hh u hu;rw[e] at this;exact this
 | none=>
  cases y:zh (zv (zU cs ns)) n with
  | none=>rfl
  | some u=>
   have y':zh (zv ((zU cs ns).take (zU cs ns).length)) n=Y u:=by rw[J9];exact y
   obtain⟨hu,e⟩:=zbw y';have:=(zba g hp).mp hu;rw[e,z] at this;cases this
def Pg.wp_run {p:Pg α}{q:α->Vst->Prop}{e:Er->Vst->Prop}{s:Vst}{r:Except Er α}(fi:p.Fit s)(h:Pg.Run p s r s')(hq:∀x,r=.ok x->q x s')(he:∀y,r=.error y->e y s'):p.wp s q e:=
 Pg.wp_of fi (λx s2 g=>by obtain⟨a,b⟩:=h.det g;subst b;exact hq x a) (λy s2 g=>by obtain⟨a,b⟩:=h.det g;subst b;exact he y a)
theorem look_own {s s':Vst}{n:Int}{t:Th}(h:s.look n=Y (t,s')):s'.own=s.own/\s'.kp=s.kp/\zh s.all n=Y t/\((zh s.own n=Y t/\s'.nt=s.nt)\/(zh s.own n=U/\zh s.kp n=Y t/\s'.nt=addT s.nt n t)):=by
 cases z:zh s.own n with
 | some u=>rw[Vst.look_own z] at h;cases h;exact⟨O,O,Vst.all_own z,.inl ⟨O,O⟩⟩
 | none=>
  cases y:zh s.kp n with
  | some u=>rw[Vst.look_kp z y] at h;cases h;exact⟨O,O,by rw[Vst.all_kp z];exact y,.inr ⟨O,O,O⟩⟩
  | none=>rw[Vst.look_no z y] at h;cases h
theorem Pg.Run.keep {p:Pg α}{r:Except Er α}(h:Pg.Run p s r s'):GoodC s.kp->Sub s.nt s.kp->GoodC s.nt->Sub s'.nt s.kp/\GoodC s'.nt:=by
 induction h with
 | ret=>intro _ a b;exact⟨a,b⟩
 | bad=>intro _ a b;exact⟨a,b⟩
 | lacks=>intro _ a b;exact⟨a,b⟩
 | clash=>intro _ a b;exact⟨a,b⟩
 | lay _ _ ih=>exact ih
 | rd z _ ih=>
  intro g a b;obtain⟨_,e2,su,_⟩:=zjg a z;obtain⟨_,_,_,hl⟩:=look_own z;rw[e2] at ih su;refine ih g su ?_;rcases hl with ⟨_,e3⟩ | ⟨_,lk,e3⟩
  ·rw[e3];exact b
  ·rw[e3];exact b.add (g.dep lk).1 (g.dep lk).2
theorem Sub.nil (b:QF):Sub [] b:=λn t e=>by cases e
structure T4 (n:Int)(q:As)(x:An)(nt:QF):Prop where
 gc:GoodC nt
 fw:nt.length < 64
 ak:AnK x
 nd:∀m t,zh nt m=Y t->G5 t/\∃(us:List Th)(j:Nat)(i:Int),t=.tup us/\us[j]? =Y (.int i)
 ck:∀ns,ns.Perm (nt.map (·.1))->(asP n q).wp ⟨zv (zU nt ns),[],[],900000⟩ (λy _=>y=x) (λe _=>∃u t,e=.clash u t)
def ztR {cs:QF}{T:Tr}{q:As}(gk:GoodC cs)(tk:TOk cs T)(c9:T.cnt<=60)(ok:AsK q):(asP T.root q).Fit ⟨[],cs,[],900000⟩/\∃r s1,Pg.Run (asP T.root q) ⟨[],cs,[],900000⟩ r s1/\((∃x,r=.ok x/\T4 T.root q x s1.nt)\/∃u t,r=.error (.clash u t)):=by
 obtain⟨fi,h1,h2⟩:=Pg.of_wp (ztV (A:=λt=>∃nd∈allN T,t=nd.th) (e:=λr _=>∃u t,r=.clash u t) (q:=λx s'=>Go (λt=>∃nd∈allN T,t=nd.th) 15000 ⟨[],cs,[],900000⟩ s'/\AnK x) (s:=⟨[],cs,[],900000⟩) (a:=q) (λu t _=>⟨u,t,O⟩) tk () ok (by show 15000<=900000;decide) (λnd hd=>⟨nd,hd,O⟩) λx s' g k=>⟨g,k⟩);obtain⟨r,s1,run⟩:=Pg.run_ex (asP T.root q) ⟨[],cs,[],900000⟩;refine⟨fi,r,s1,run,?_⟩;cases r with
 | error y=>obtain⟨u,t,e⟩:=h2 y s1 run;exact .inr ⟨u,t,by rw[e]⟩
 | ok x=>
  obtain⟨g,k⟩:=h1 x s1 run;obtain⟨su,gc⟩:=run.keep gk (Sub.nil _) GoodC.nil;have hA:∀m t,zh s1.nt m=Y t->∃nd∈allN T,t=nd.th:=λm t e=>by
   rcases g.nt m t e with z | z
   ·cases z
   ·exact z
  have fw:=zl6 gc hA;refine .inl ⟨x,O,⟨gc,(),k,λm t e=>?_,λns hp=>?_⟩⟩
  ·obtain⟨nd,hd,rfl⟩:=hA m t e;obtain⟨k1,k2⟩:=ze8 tk hd;have h1:=k1.dp;have h2:=k2.dp;have gd:=(gc.dep e).1;refine⟨⟨gd.wf,?_,gd.nd⟩,_,2,nd.l,O,O⟩;show max (dep nd.k) (max (dep nd.w) (max 0 (max 0 (max 0 0))))+1<=5;lia
  ·obtain⟨f2,w',h⟩:=Pg.sim run rfl fi (w:=⟨zv (zU s1.nt ns),[],[],900000⟩) (Jb _) (Sub.nil _) (Sub.nil _) rfl λn t e=>by show zh (zv (zU s1.nt ns)) n=Y t;rw[zje gc hp];exact e
   rcases h with run2 | ⟨u,t,run2⟩
   ·exact Pg.wp_run f2 run2 (λy ey=>by cases ey;rfl) (λy ey=>by cases ey)
   ·exact Pg.wp_run f2 run2 (λy ey=>by cases ey) (λy ey=>by cases ey;exact⟨u,t,O⟩)
inductive zkI (K:QA)(CC:aE)(vs:QR)(H:Hp)(Q:L2.VK)(E:XK):Prop
 | mk (a:aE)(ns:List Int)(_:vs=[.ref a])(_:SqL K H a (ns.map V.int)) (_:ns.length<=63) (_:(∀H',Q (.bl Z) H')) (_:Cl CC E):zkI K CC vs H Q E
section
variable {cl:Kd->aE}
def zqh (D:Dfn K mg "_law_held" zgo ["script"]) (zuE:Mkr P w K mg ax "Keeper" C 1 SA (zb2 C)) (zjO:FnX P w K mg ax "_law_grown" 24 SC (zhM C CC w)) (zm7:Fn P w K mg ax "_law_row" 1 ["cell"] zlR) (ztQ:Fn P w K mg ax "_law_ask" 9 SE (zoC cl CA)) (zjZ:FnX P w K mg ax "answer_with_paper" 27 SM (zn0 cl CA C CN CB CC)) (zrX:FnX P w K mg ax "_law_right" 31 Sy (zhJ cl CA CC)) (zy:mg "len" =U) (zix:mg "list" =U):FnX P w K mg ax "_law_held" 32 ["script"] (zkI K CC):=by
 refine D.okX (k:=31) (fsN ["script","keeper","cells","pool","root","cell","row","ask","told"]) ⟨⟩;obtain⟨sc,ns,rfl,hS,h63,q,cc⟩:=h;have ι:=0;refine⟨_,(zb ∅
 (zb ∅
 (zb ∅
 (zb (setA 4 rfl (zki zjO hr za6 (zl (pv 1) (zl ∅ (zl (pv 3) (zl (zon (w:=w) rfl) zK))))))
 (zb (zdy PassesOwn.leaving rfl (zhT (zaR zbd ∅ ∅)) ∅
 ∅)
 ∅))))),?_⟩
 dsimp only[cxOf];intro a dx ha hdx ndx;refine zmx ha hdx ndx λd H1 s1 hd ex ed=>?_;have vk1:VK C H1 a [d] ⟨[],[],[],1000000⟩:=⟨⟨d,O,⟨⟨[],⟨⟨dx,_,ex,zlA d⟩,ed⟩,.nil⟩,GoodC.nil⟩⟩,O,by show 0+1000000<=1000000;decide⟩;obtain⟨ms,ems,hms⟩:=zno ns U (Y 63);refine⟨ap,sc,B,Pv.SqL.keepS hS s1,λcp hcp=>?_⟩;rw[ems];have s2:=zj (o:=.lst (ms.map V.int)) (Same.refl H1) hcp;have ecp:upd H1 cp (.lst (ms.map V.int)) cp=Y (.lst (ms.map V.int)):=za;generalize upd H1 cp (.lst (ms.map V.int))=H2 at s2 ecp;refine⟨szl (show 0<=1000 by decide),λpl hpl=>?_⟩;have s3:=zj (o:=.lst []) (Same.refl H2) hpl;have epl:upd H2 pl (.lst []) pl=Y (.lst []):=za;generalize upd H2 pl (.lst [])=H3 at s3 epl;have hml:(ms.map V.int).length=ms.length:=JI _;have ecp3:=s3 _ _ ecp;refine⟨ap,B,cp,B,.inl (SqL.of ecp3),am,⟨(),by decide+kernel⟩,B,cp,B,SqL.of ecp3,λc1 hc1=>?_⟩;obtain⟨cells,ece,hcl⟩:=zmw ms (v:=((ms.map V.int).length:Int) / 3) ();rw[ece];have s4:=zj (o:=.lst (cells.map V.int)) (Same.refl H3) hc1;have ec1:upd H3 c1 (.lst (cells.map V.int)) c1=Y (.lst (cells.map V.int)):=za;have n1:c1≠pl:=(zf epl hc1).symm;generalize upd H3 c1 (.lst (cells.map V.int))=H4 at s4 ec1;refine⟨B,λpd hpd=>?_⟩;have s5:=zj (o:=TD w pd []) (Same.refl H4) hpd;have epd:upd H4 pd (TD w pd []) pd=Y (TD w pd []):=za;generalize upd H4 pd (TD w pd [])=H5 at s5 epd;have s15:=s2.trans (s3.trans (s4.trans s5));refine⟨a,d,c1,pl,pd,cells,O,(vi_K C).same vk1 s15,s5 _ _ ec1,(),(s4.trans s5) _ _ epl,n1,⟨[],epd,⟨λx hx=>(nomatch hx),List.nodup_nil⟩,Jb _⟩,cc,λT st ts H6 f6 g6 po6 c6 l6 n6=>?_⟩;have ncp:cp∉ [d,pl,pd]:=λz=>by
  simp only[JJ,JR,or_false] at z;rcases z with z | z | z
  ·rw[z,s2 _ _ ed] at ecp;cases ecp
  ·rw[z,hpl] at ecp;cases ecp
  ·rw[z] at ecp3;rw[s4 _ _ ecp3] at hpd;cases hpd
 have ecp6:=f6 _ _ ncp ((s4.trans s5) _ _ ecp3);obtain⟨d',ed',vs6⟩:=g6.vk.vs;cases ed';have tk6:=g6.tk;have hall:st.all=st.own:=by unfold Vst.all;rw[g6.vk.kp,JS]
 rw[hall] at tk6;generalize st.own=cs at vs6 tk6;clear f6 s15 g6 hall;refine⟨szl (show 3<=1000 by decide),λp0 hp0=>?_⟩;have sA:=zj (o:=.lst [.int 0,.int 3,.int 12]) (Same.refl H6) hp0;have e0:upd H6 p0 (.lst [.int 0,.int 3,.int 12]) p0=Y (.lst [.int 0,.int 3,.int 12]):=za;generalize upd H6 p0 (.lst [.int 0,.int 3,.int 12])=HA at sA e0;have ecpA:=sA _ _ ecp6;have hpk:(L2.picks (ms.map V.int).length (Y (((ms.map V.int).length:Int) / 3)) U (Y 3)).length<=ms.length:=by unfold L2.picks;refine Jg (sliceRange_len_le _ _ _ (by simp[sliceBounds])) ?_;simp[sliceBounds];lia
 refine⟨ap,cp,B,.inl (SqL.of ecpA),am,⟨(),by decide+kernel⟩,ap,cp,B,SqL.of ecpA,(),Jg hpk (szl ()),λp1 hp1=>?_⟩;have hpm:∀y∈L2.pickN (L2.picks (ms.map V.int).length (Y (((ms.map V.int).length:Int) / 3)) U (Y 3)) (ms.map V.int),∃n:Int,y=.int n:=λy hy=>by obtain⟨i,_,e⟩:=zmf.mp hy;obtain⟨n,_,e'⟩:=No.mp (J2 e);exact⟨n,e'.symm⟩
 have hpl2:=Jg (List.length_filterMap_le (λi=>(ms.map V.int)[i]?) (L2.picks (ms.map V.int).length (Y (((ms.map V.int).length:Int) / 3)) U (Y 3))) hpk;have hpl3:(L2.pickN (L2.picks (ms.map V.int).length (Y (((ms.map V.int).length:Int) / 3)) U (Y 3)) (ms.map V.int)).length<=ms.length:=hpl2;generalize L2.pickN (L2.picks (ms.map V.int).length (Y (((ms.map V.int).length:Int) / 3)) U (Y 3)) (ms.map V.int)=more at hpm hpl3;have sB:=zj (o:=.lst more) (Same.refl HA) hp1;have e1:upd HA p1 (.lst more) p1=Y (.lst more):=za;generalize upd HA p1 (.lst more)=HB at sB e1;refine⟨p0,p1,am,sB _ _ e0,e1,szl (by show 3+_<=1000;lia),λpr hpr=>?_⟩;have sC:=zj (o:=.lst ([V.int 0,V.int 3,V.int 12]++more)) (sA.trans sB) hpr;have e2:upd HB pr (.lst ([V.int 0,V.int 3,V.int 12]++more)) pr=Y (.lst ([V.int 0,V.int 3,V.int 12]++more)):=za;generalize upd HB pr (.lst ([V.int 0,V.int 3,V.int 12]++more))=HC at sC e2;have vsC:=vs6.same sC;obtain⟨xs,elC,rlC⟩:=(po6.frm (W:=[]) (Frm.of sC) (λz=>nomatch z) (Same.ay sC)).ex;have hk:=po6.ky;refine⟨pr,O,⟨_,SqL.of e2⟩,?_⟩;refine zcD (xs:=[V.int 0,V.int 3,V.int 12]++more) (λi σ H'=>∃k5 k6 k7 k8:Option V,σ=[Y (.ref sc),Y (.ref a),Y (.ref cp),Y (.ref pl),Y (.int T.root),k5,k6,k7,k8]/\Same HC H') ⟨_,_,_,B,Same.refl _⟩ ?_ ?_ ?_
 ·rintro i σ H' _ ⟨k5,k6,k7,k8,rfl,sm⟩;exact SqL.of (sm _ _ e2)
 ·rintro i y σ H' hy ⟨k5,k6,k7,k8,rfl,sm⟩;have key:∃n:Int,y=.int n:=by
   rcases Jk.mp (J2 hy) with h | h
   ·simp only[JJ,JR,or_false] at h;rcases h with rfl | rfl | rfl <;> exact⟨B⟩
   ·exact hpm y h
  obtain⟨n,rfl⟩:=key;refine⟨B,n,O,λrow Hr sr Rr hr0=>?_⟩;have smr:=sm.trans sr;refine⟨ap,row,pl,xs,ts,O,⟨Rr,smr _ _ elC,rlC.keep (Same.ay smr),hk,(),λe=>by rw[<-e,sm _ _ elC] at hr0;cases hr0⟩,λak b Hb fb Rb ok qa=>?_⟩;have sb:=sm.trans (ziP sr hr0 fb);obtain⟨fi,r,s1,run,h⟩:=ztR vs6.gc tk6 () ok;refine⟨ap,B,a,d,b,cs,T.root,ak,O,vsC.same sb,qa.same Hm.same,ok.ok,?_⟩;rcases h with ⟨x,rfl,tl⟩ | ⟨u,t,rfl⟩
  rotate_left
  ·refine Pg.wp_run fi run (λy ey=>by cases ey) (λy ey=>?_);cases ey;exact λx v1 v2 H' _ r1 r2 g1 g2 ne sn ex=>cc u t v1 v2 H' x r1 r2 g1 g2 ne sn ex
  refine Pg.wp_run fi run (λy ey=>?_) (λy ey=>by cases ey);cases ey;refine⟨tl.fw,λp Hp' sp gc pr'=>?_⟩;obtain⟨va,l,ns',xs',ep,an,hl0,hp,hs,el,rl⟩:=pr';have hm:∀{t:Th},t∈zU s1.nt ns'↔zh s1.nt (zk t)=Y t:=zba gc hp;have hln:=zj9 (cs:=s1.nt) hp;have ckk:=tl.ck ns' hp;have nt2:=zgh gc hp;generalize zU s1.nt ns'=us at hm hln ckk nt2 rl;have fw:=tl.fw;refine⟨ap,ap,p,aj,SqT.of ep,O,B,p,aj,SqT.of ep,O,l,xs',O,.inl (SqL.of el),λl2 hl2=>?_⟩;have s2:=zj (o:=.lst xs') (Same.refl Hp') hl2;have el2:upd Hp' l2 (.lst xs') l2=Y (.lst xs'):=za;generalize upd Hp' l2 (.lst xs')=H9 at s2 el2;have sb9:=sp.trans s2;have R9:=Rb.keep sb9;have nl2:l2≠row:=(Rb.keep sp).ne hl2;have bun:Bun cl CA H9 row l2 b xs' us ak:=⟨R9,qa.same (Hm.frm (Frm.of sb9)),ok.ok,⟨Hm.ne nl2 el2,(rl.keep (Same.ay s2)).keep (Hm.ay R9),(),λt ht=>(tl.nd _ _ (hm.mp ht)).1,nt2,λt ht=>(tl.nd _ _ (hm.mp ht)).2⟩⟩;refine⟨row,l2,b,T.root,va,xs',us,ak,x,O,bun,(an.r.same s2).hm tl.ak R9,tl.ak,ckk,cc,λHD fD RD=>⟨B,ifF rfl ⟨_,_,_,ar⟩⟩⟩;exact sm.trans (ziP sr hr0 (fb.trans ((Frm.of sb9).trans fD)))
 ·rintro σ H' ⟨k5,k6,k7,k8,rfl,sm⟩;exact q H'
end
end Pv
namespace L2
open PySem PySem.Spec PyProof.Rows Px
def zhI {X:Cx}{K:QA}{f:Str}{pos:Pos}(hK:X.K=K)(he:PE X e ta)(hb:attributeBase e f X.env (aZ e X.env)=aZ e X.env):PE X (.Attribute e f pos) (tXG K ta f):=hK ▸ zpg he hb
end L2
namespace Pv
open PySem L2
abbrev slaw:aB:=top 109
inductive zhm (K:QA)(vs:QR)(H:Hp)(Q:L2.VK)(_E:XK):Prop
 | mk (a:aE)(ns:List Int)(_:vs=[.ref a])(_:SqL K H a (ns.map V.int)) (_:ns.length<=63) (_:∀H',Q (.bl Z) H'):zhm K vs H Q _E
section
def zsP (F:Fun K "law" "law" slaw f fd) (zts:FnX P w K mg ax "_law_held" 32 ["script"] (zkI K CC)) (zdz:Fn P w K mg ax "seal" 13 Sd zb7) (zcd:mg "Clash" =Y (.ref CC)) (xc:XCls K CC) (n1:zm K CC "one") (n2:zm K CC "other")
  (em:PySem.W.exmOne K (.ref CC) (.ref CC)=Y Z):FnOk P w K mg ax CX0 65 f fd ["script"] (zhm K):=by
 refine F.ok (k:=64) (fsN ["script","caught","right","e"]) (λvs H Q E h=>?_) (λcdv A outer s H vs Q E hr h=>?_)
 ·obtain⟨a,ns,rfl,_⟩:=h;rfl
 obtain⟨a,ns,rfl,hS,h63,q⟩:=h;refine⟨_,(zb ∅
 (zb ∅
 (zb (zjl (i:=3) rfl rfl (zeQ rfl) rfl rfl (by rfl) zcd (λxe pn E hx=>∅) (λe=>∅))
 (zb (zag ∅
 (zx (zQ (zfs (zax (zd8 hr) (zhI (K:=K) rfl (pv 1) (by rfl)) (zhI (K:=K) rfl (pv 1) (by rfl)) (zaF _)) (zdx (zax zrK (zhq zdz hr (zl (zhI (K:=K) rfl (pv 1) (by rfl)) zK)) (zhq zdz hr (zl (zhI (K:=K) rfl (pv 1) (by rfl)) zK)) (zaF _))))))
 zE)
 ∅)))),?_⟩
 refine⟨B,a,ns,O,hS,h63,λH1=>?_,λt1 t2 v1 v2 H1 x r1 r2 g1 g2 ne sn ex=>⟨CC,O,em,λe he=>?_⟩⟩
 ·refine⟨B,O,B,ifF rfl ?_⟩;exact⟨B,q H1⟩
 ·have xe:x≠e:=zf ex he;have ex2:upd H1 e (exO e CC (Y x) G) x=Y (xdO x [("one",v1),("other",v2)]):=by rw[zd xe];exact ex
  have ee2:upd H1 e (exO e CC (Y x) G) e=Y (exO e CC (Y x) G):=za;have tk:Tups H1 (upd H1 e (exO e CC (Y x) G)):=Tups.new he;have ra:=r1.keep tk;have rb:=r2.keep tk;generalize upd H1 e (exO e CC (Y x) G)=H2 at ex2 ee2 tk ra rb;have gd:=g1.dp;have gd2:=g2.dp;have gn:=g1.nd;have gn2:=g2.nd;refine⟨ar⟩;refine⟨B,O,B,ifT rfl ?_⟩;refine⟨B,e,CC,G,x,_,v1,O,ee2,ex2,xc,n1,by rfl,B,e,CC,G,x,_,v2,O,ee2,ex2,xc,n2,by rfl,t1,t2,ra,rb,(),B,ifT (by rw[show eqT t1 t2=G from by cases z:eqT t1 t2 with | true=>exact Jf ((zJ _ _).mp z) ne | false=>rfl];rfl) ?_⟩;refine⟨B,e,CC,G,x,_,v1,O,ee2,ex2,xc,n1,by rfl,t1,v1,O,ra,g1.wf,(),(),λH3 s3=>?_⟩;refine⟨B,e,CC,G,x,_,v2,O,s3 _ _ ee2,s3 _ _ ex2,xc,n2,by rfl,t2,v2,O,rb.keep (Same.ay s3),g2.wf,(),(),λH4 s4=>?_⟩;refine⟨O,?_⟩;rw[sn,aw rfl];exact q H4
variable {P:aG}{w:aH}{K:QA}{mg:QB}{ax:aF}{CA CC CN CB:aE}{cl:Kd->aE}{t1 t2 t3 t4 t5 t7:Tok}
def zsa (D1:Dfn K mg "node_beneath" zbB Sc) (zhr:Fn P w K mg ax "is_node" 3 Sd zlw) (xB:XP K mg "BadThing" CB) (Ds:Dfn K mg "size_beneath" zbE Sc) (Dz:Dfn K mg "size" ssize SK) (D4:Dfn K mg "way_to" zh3 Sb) (zkR:Fn P w K mg ax "side_of" 21 SI zc3) (zkS:Fn P w K mg ax "ends_at" 1 Sv (zcV K)) (Df:Dfn K mg "found" zkg Sb) (D6:Dfn K mg "hung" zn6 Sj) (D7:Dfn K mg "parted" zin So) (zkT:Fn P w K mg ax "with_tree" 1 Sl zc6) (zrd:Fn P w K mg ax "place_in" 22 Sv zdK) (D8:Dfn K mg "put" sput Sq) (D9:Dfn K mg "joined" zh9 Sx) (D10:Dfn K mg "cut" scut Sb) (ziw:Fn P w K mg ax "above" 21 SN zd4)
  (zaQ:Fn P w K mg ax "ahead" 20 Sk (zav 9)) (zlY:Fn P w K mg ax "is_empty" 21 SD zcM) (zu1:Fn P w K mg ax "goes_left" 21 SU zdT) (zu2:Fn P w K mg ax "goes_right" 21 SR zdQ) (Du:Dfn K mg "refuse_sum" zcN SV) (Dt:Dfn K mg "stretch" zf8 Sh) (Dc:Dfn K mg "count_ahead" zb4 Sb) (Dd:Dfn K mg "counted" zf6 Sh) (Dn:Dfn K mg "nth" snth SH)
  (dFind:Mdf K (cl .fi) "answer" "Find.answer" zbW Sa) (cFind:Cls K (cl .fi)) (nFind0:zm K (cl .fi) "key") (dStretch:Mdf K (cl .st) "answer" "Stretch.answer" zaU Sa) (cStretch:Cls K (cl .st)) (nStretch0:zm K (cl .st) "low") (nStretch1:zm K (cl .st) "high") (dCount:Mdf K (cl .co) "answer" "Count.answer" zbF Sa) (cCount:Cls K (cl .co)) (nCount0:zm K (cl .co) "low") (nCount1:zm K (cl .co) "high") (dNth:Mdf K (cl .nt) "answer" "Nth.answer" zcK Sa) (cNth:Cls K (cl .nt)) (nNth0:zm K (cl .nt) "number") (dPut:Mdf K (cl .pu) "answer" "Put.answer" zcH Sa) (cPut:Cls K (cl .pu)) (nPut0:zm K (cl .pu) "key") (nPut1:zm K (cl .pu) "worth") (dCut:Mdf K (cl .cu) "answer" "Cut.answer" zcG Sa) (cCut:Cls K (cl .cu)) (nCut0:zm K (cl .cu) "key") (dAlso:Mdf K CA "answer" "Also.answer" zb0 Sa) (cAlso:Cls K CA) (nAlso:zm K CA "asks")
  (g1:mg "KEY" =Y (.int 0 t1)) (g2:mg "WORTH" =Y (.int 1 t2)) (g3:mg "LEFT" =Y (.int 2 t3)) (g4:mg "RIGHT" =Y (.int 3 t4)) (g5:mg "COUNT" =Y (.int 4 t5)) (g7:mg "BENEATH_NONE" =Y (.int 301 t7)) (zy:mg "len" =U) (zpt:mg "reversed" =U) {W:aE} {VR:VRT} (I:VI W VR) (M1:Mt P w K mg ax (CX1 P w) W "thing" 2 Se (zcm VR CN)) (M2:Mt P w K mg ax (CX1 P w) W "lay" 14 Si (zbV VR CC)) (c:Cls K W):
  FnX P w K mg ax "put" 23 Sq (zfI VR CN CB CC)/\FnX P w K mg ax "cut" 23 Sb (zgn VR CN CB CC)/\∀k∈all7,Mt P w K mg ax (CX1 P w) (cl7 cl CA k) "answer" 26 Sa (spAs cl CA VR CN CB CC k):=by
 have f1:FnX P w K mg ax "node_beneath" 4 Sc (zcA VR CN CB CC):=zql I D1 M1 c zhr xB g5;have f2:=zm1 I Ds f1 g5;have f3:=zow I Dz f2 g7;have f4:=zq5 I D4 f1 zkR g1 g5 g7;have f6:FnX P w K mg ax "hung" 22 Sj (zdV VR CN CB CC):=zpl I D6 M2 c zkT zkR g5 zpt;have f7:FnX P w K mg ax "parted" 22 So (zc5 VR CN CB CC):=zkM I D7 M2 c zkT zkR g5 g3 g4 zpt;have f9:=zoS I D9 f1 ziw M2 c zkT g1 g3 g4 g5 zpt;have fp:=zpN I D8 f4 zkS M2 c f6 f7 zrd g5 g3 g4 zy;have fc:=zq1 I D10 f4 zkS f6 f9 g5 g3 g4;have M:∀k∈zfY,Mt P w K mg ax (CX1 P w) (cl k) "answer" 25 Sa (zbz cl VR CN CB CC k):=λk _=>by
  cases k with
  | fi=>exact znp dFind (zmL I Df f4 zkS g2) cFind nFind0
  | st=>exact zi9 dStretch (zq6 I Dt zlY f1 zu1 zu2 (zp9 I Du f2 xB g3 g4 g5) zaQ g1 g2 g3 g4 g5 g7 zy) cStretch nStretch0 nStretch1
  | co=>exact zmQ dCount (zjy I Dd zlY f3 (zpZ I Dc f4 zaQ f2 g1 g3 g5)) cCount nCount0 nCount1
  | nt=>exact zq7 dNth (zqt I Dn f1 f2 g1 g2 g3 g4 g5 g7) cNth nNth0
  | pu=>exact zqR dPut fp cPut nPut0 nPut1
  | cu=>exact zpV dCut fc cCut nCut0
 have Cc:∀k∈zfY,Cls K (cl k):=λk _=>by cases k <;> assumption
 exact⟨fp,fc,mt7 M (zoy I dAlso M Cc cAlso nAlso)⟩
end
def zoP {K:QA}{h:aF}{mg:QB}(x:Str)(st:aB)(ps:QQ){f:aE}{od an:QN}{sl:QJ}{oc kV pm ct:aD}(X:K.In h)(ah:h.Ns aR mg)
  (a:PySem.W.nsIn K aR x=Y (Y (.ref f))) (l:K.lookup f=Y ⟨oc,od,.func (br x x (zT st) (zG st) (zq st) .none kV dc pm an cd ct),sl⟩) (c:PySem.W.codeIn K cd x=Z) (k:bf K (.ref f)=Z)
  (b:∀(kV doc pm:aD)(an:QN)(cdv ct:aD)(us:QO),us.length=ps.length->bindArgs (br x x (zT st) (zG st) (zq st) .none kV doc pm an cdv ct) ⟨us,[]⟩=pure (ps.zip us)):Dfn K mg x st ps:=
 ⟨_,_,zbc l c k,(zbc l c k).binds b,PySem.W.mg_of X ah a⟩
def zpO {K:QA}{h:aF}{mg:QB}{i:Int}{t:Tok}(X:K.In h)(ah:h.Ns aR mg)(a:PySem.W.nsIn K aR x=Y (Y (.int i t))):∃t,mg x=Y (.int i t):=⟨t,PySem.W.mg_of X ah a⟩
def zst {l:PySem.W.OpenLaw}{w:aH}{K:QA}{h:aF}{mg:QB}{fa f:aE}{od an:QN}{sl:QJ}{oc kV dc pm cd ct:aD}(X:K.In h)(ah:h.Ns aR mg)(hfa:mg "law" =Y (.ref fa))
  (a:PySem.W.nsIn K aR "law" =Y (Y (.ref f))) (lk:K.lookup f=Y ⟨oc,od,.func (br "law" "law" (zT slaw) (zG slaw) (zq slaw) .none kV dc pm an cd ct),sl⟩) (c:PySem.W.codeIn K cd "law" =Z) (k:bf K (.ref f)=Z)
  (ok:∀(ax:aF)(fd:FuncData),Fun K "law" "law" slaw f fd->FnOk l.prog w K mg ax CX0 65 f fd ["script"] (zhm K)):
  ∃fd:FuncData,(∀(s:aM)(v:aD),BindsTo s fd ⟨[v],[]⟩ [("script",v)])/\∀ax:aF,K.In ax->ax.Ns aR mg->FnOk l.prog w K mg ax CX0 65 fa fd ["script"] (zhm K):=by
 have e:=hfa.symm.trans (PySem.W.mg_of X ah a);cases e;exact⟨br "law" "law" (zT slaw) (zG slaw) (zq slaw) .none kV dc pm an cd ct,λs v=>.of_eq rfl,λax _ _=>ok ax _ (zbc lk c k)⟩
def walk {l:PySem.W.OpenLaw}{q:aG}{loose:QQ}{XP:(Str->Option aD)->aF->Prop}{YP:aH->aF->Prop}{d:DefRec}{K:Params->QA}(hn:l.most=Y 63)(hdf:d.params.defaults=[])
  (hY:∀(w:aH)(h:aF),YP w h->(K w.params).In h)
  (F:∀(w:aH)(mg:QB)(fa:aE)(h:aF),(K w.params).In h->h.Ns aR mg->mg d.name=Y (.ref fa)->
   ∃fd:FuncData,(∀(s:aM)(u:aD),BindsTo s fd ⟨[u],[]⟩ [("script",u)])/\∀ax:aF,(K w.params).In ax->ax.Ns aR mg->FnOk l.prog w (K w.params) mg ax CX0 65 fa fd ["script"] (zhm (K w.params))):
  PySem.W.WalkO q loose XP YP l.row.toRowW d [] (λf vs=>PySem.call f vs):=
 L2.zp0 (n:=63) (k:=65) (x:= "script") (CX:=λ_=>CX0) (sp:=λw=>zhm (K w.params)) hn () hdf ⟨O,(),()⟩ hY F (λ_ _ a ns hl _ hS=>⟨a,ns,O,hS,hl,λ_=>O⟩) λ_ _ _ _ _ z=>z
def lt (f:Nat->aD)(i:Nat):Nat->List aD
 | 0=>[]
 | n+1=>f i::lt f (i+1) n
def ltx {us:QO}:∀{n i:Nat}{g:Nat->aD},us.length=n->∃f,us=lt f i n/\∀j,j < i->f j=g j:=by
 induction us with
 | nil=>intro n i g h;cases h;exact⟨g,O,λ_ _=>O⟩
 | cons a r ih=>
  intro n i g h;cases n with
  | zero=>cases h
  | succ n=>obtain⟨f,e,q⟩:=ih (i:=i+1) (g:=λj=>if j=i then a else g j) (Nat.succ.inj h);have z:=q i (Jr i);rw[av rfl] at z;exact⟨f,by rw[lt,<-e,z],λj hj=>(q j (Nat.lt_succ_of_lt hj)).trans (au (Jl hj))⟩
def lts {us:QO}{n:Nat}(h:us.length=n):∃f,us=lt f 0 n:=
 let ⟨f,e,_⟩:=ltx (i:=0) (g:=λ_=>.none) h
 ⟨f,e⟩
def Ds (K:QA)(mg:QB):List (Str ×aB ×List Str)->Prop
 | []=>True
 | (x,s,p)::r=>Dfn K mg x s p/\Ds K mg r
def Zs (mg:QB):List Str->Prop
 | []=>True
 | x::r=>mg x=U/\Zs mg r
def Gis (mg:QB):List (Str ×Int)->Prop
 | []=>True
 | (x,i)::r=>(∃t,mg x=Y (.int i t))/\Gis mg r
def NAs (K:QA)(C:aE):List Str->Prop
 | []=>True
 | x::r=>zm K C x/\NAs K C r
def Ms (K:QA)(C:aE):List (Str ×Str ×aB ×List Str)->Prop
 | []=>True
 | (m,q,s,p)::r=>Mdf K C m q s p/\Ms K C r
def Cs (K:QA)(mg:QB):List (Str ×Str ×aB ×List Str ×List Str ×List (Str ×Str ×aB ×List Str))->Prop
 | []=>True
 | (x,q,s,p,ns,ms)::r=>(∃C,Cls K C/\Mkd K mg x C q s p/\NAs K C ns/\Ms K C ms)/\Cs K mg r
def zud {K:QA}{h:aF}{C:aE}(_:K.In h)(_:PySem.W.nsIn K aR x=Y (Y (.ref C)))(a:Cls K C)(b:Mkd K mg x C q s p)(c:NAs K C ns)(d:Ms K C ms)(e:Cs K mg r):Cs K mg ((x,q,s,p,ns,ms)::r):=⟨⟨C,a,b,c,d⟩,e⟩
end Pv
open PySem PySem.W PyProof.Rows
set_option maxRecDepth 100000 in
set_option maxHeartbeats 0 in
theorem PySem.Challenge.cw_papervault_k44_papers_spoilt_holds : PySem.Challenge.rw_papervault_k44_papers_spoilt.Holds := by
 refine holds_law Pv.said λsaid=>?_;refine holds_open (q:=Pv.VQ) (loose:=[]) (XP:=XL Pv.VQ []) (YP:=InK Pv.KK) Pv.left (InK.of Pv.addrs) InK.keeps (λs e=>xl_of s (Ju.mp e).1) XL.keeps (by rfl) (by rfl) (by rfl) (λs e=>recFacts_of (Ju.mp e).2) (by rfl) said (by decide+kernel) ⟨O,O,O,O,O,by decide+kernel⟩ ?hw ?hc
 (case hw=>w_witness2)
 k_fill
 refine Pv.walk (l:=PySem.Challenge.rw_papervault_k44_papers_spoilt) rfl rfl (λw h aa=>aa) ?F
 case F=>
  intro w mg fa h KX ah hmg;obtain⟨ztt,zre,zjP,zgz,zkU,zem,zen,zcl,zm8,zrf,zeI,zpu,zdf,zm9,zgA,zna,znb,ztu,zgB,ztv,zrg,znc,zpv,znd,zrh,zkV,zjQ,ziB,ziC,zne,zgF,_⟩:Pv.Ds (L2.KOf KX) mg [("seal",Pv.zrB,Sd),("codes",Pv.zpb,Sd),("number_of",Pv.zfS,["signs"]),("is_whole",Pv.zeB,SO),("is_thing",Pv.zhh,Sd),("is_thing_within",Pv.zbN,SL),("is_tuple_within",Pv.zaJ,["parts","deep"]),("has_signs_of_things",Pv.zaS,["text"]),("kind_of",Pv.zi4,Sd),("ahead",Pv.zoJ,Sk),("is_tuple_ahead",Pv.zaX,Sk),("rising",Pv.zk6,["laid"]),("answer_with_paper",Pv.zbk,SM),("checked",Pv.zjk,Sf),("node_beneath",Pv.zbB,Sc),("is_node",Pv.zi8,Sd),("is_root",Pv.zjB,Sd),("size",Pv.ssize,SK),("size_beneath",Pv.zbE,Sc),("rank",Pv.zrE,["key"]),("above",Pv.zor,SN),("side_of",Pv.zjq,SI),("way_to",Pv.zh3,Sb),("ends_at",Pv.zjm,Sv),("found",Pv.zkg,Sb),("is_empty",Pv.zhi,SD),("goes_left",Pv.zfE,SU),("goes_right",Pv.zeP,SR),("refuse_sum",Pv.zcN,SV),("stretch",Pv.zf8,Sh),("count_ahead",Pv.zb4,Sb)]:=by
   dsimp only[L2.KOf]
   iterate 31 refine⟨by refine' Pv.zoP _ _ _ KX ah ?a ?l ?c ?k ?b;(case a | l | c | k=>k_is);(case b=>intro _ _ _ _ _ _ us hl;obtain⟨f,rfl⟩:=Pv.lts hl;rfl),?_⟩
   trivial
  obtain⟨znf,zuF,zjR,ztw,zpw,zkW,zuG,zuH,zpx,zkX,zjS,zjT,ziD,ziE,zjU,ziF,zkY,zkZ,zgG,zgH,zgC,zgI,zgD,zk0,zgJ,zjV,ziG,zjW,_⟩:Pv.Ds (L2.KOf KX) mg [("counted",Pv.zf6,Sh),("nth",Pv.snth,SH),("with_tree",Pv.zfB,Sl),("hung",Pv.zn6,Sj),("parted",Pv.zin,So),("place_in",Pv.zgV,Sv),("put",Pv.sput,Sq),("cut",Pv.scut,Sb),("joined",Pv.zh9,Sx),("_law_row",Pv.zhf,["cell"]),("_law_take",Pv.zf2,Ss),("_law_text",Pv.zf9,["row"]),("_law_thing",Pv.zeU,["row","deep"]),("_law_first",Pv.zeW,Sd),("_law_some",Pv.zfz,["row"]),("_law_grown",Pv.zeO,SC),("_law_key",Pv.zgN,SE),("_law_ask",Pv.zgK,SE),("_law_caught",Pv.zee,Sf),("_law_is_bad",Pv.zdL,Sf),("_law_clashes",Pv.zdn,Su),("_law_second",Pv.zd3,Sd),("_law_shifted",Pv.zdm,["row","thing"]),("_law_put",Pv.zhk,SG),("_law_unread",Pv.zdO,Sn),("_law_twin",Pv.zfT,Sn),("_law_right",Pv.zeY,Sy),("_law_held",Pv.zgo,["script"])]:=by
   dsimp only[L2.KOf]
   iterate 28 refine⟨by refine' Pv.zoP _ _ _ KX ah ?a ?l ?c ?k ?b;(case a | l | c | k=>k_is);(case b=>intro _ _ _ _ _ _ us hl;obtain⟨f,rfl⟩:=Pv.lts hl;rfl),?_⟩
   trivial
  obtain⟨za8,zps,ziv,ze5,za0,zg,zy,zix,m_ord,zaz,zb9,zgx,ze3,zI,zjM,_⟩:Pv.Zs mg ["ValueError","abs","bool","enumerate","int","isinstance","len","list","ord","range","reversed","sorted","str","tuple","zip"]:=by
   iterate 15 refine⟨by refine' PySem.W.mg_none_of KX ah ?z;(case z=>k_is),?_⟩
   trivial
  obtain⟨⟨_,zah⟩,⟨_,z7⟩,⟨_,zat⟩,⟨_,zar⟩,⟨_,ze6⟩,⟨_,zeh⟩,⟨_,zaB⟩,⟨_,zca⟩,⟨_,zhu⟩,⟨_,zae⟩,⟨_,zbx⟩,_⟩:Pv.Gis mg [("BENEATH_NONE",301),("COUNT",4),("KEY",0),("LEFT",2),("MOST_DEEP",5),("MOST_NODES",300),("MOST_PARTS",40),("MOST_SIGNS",60),("PERCENT",37),("RIGHT",3),("WORTH",1)]:=by
   iterate 11 refine⟨by refine' Pv.zpO KX ah ?z;(case z=>k_is),?_⟩
   trivial
  obtain⟨⟨CK,cK,dI,⟨nL,_⟩,⟨dR,dL,dT,_⟩⟩,⟨CW,cW,dWI,⟨nLW,_⟩,⟨dWR,dWL,dWT,_⟩⟩,⟨CR,cR,dRI,⟨nLR,nKR,nNR,_⟩,⟨dRR,dRL,dRT,dRP,_⟩⟩,⟨CFind,cFind,dFindI,⟨nFind0,_⟩,⟨dFindA,_⟩⟩,⟨CStretch,cStretch,dStretchI,⟨nStretch0,nStretch1,_⟩,⟨dStretchA,_⟩⟩,⟨CCount,cCount,dCountI,⟨nCount0,nCount1,_⟩,⟨dCountA,_⟩⟩,⟨CNth,cNth,dNthI,⟨nNth0,_⟩,⟨dNthA,_⟩⟩,⟨CPut,cPut,dPutI,⟨nPut0,nPut1,_⟩,⟨dPutA,_⟩⟩,⟨CCut,cCut,dCutI,⟨nCut0,_⟩,⟨dCutA,_⟩⟩,⟨CAlso,cAlso,dAlsoI,⟨nAlso0,_⟩,⟨dAlsoA,_⟩⟩,_⟩:Pv.Cs (L2.KOf KX) mg [("Keeper","Vault.__init__",Pv.z8,SA,["laid"],[("refuse_clash","Vault.refuse_clash",Pv.zY,Sm),("lay","Vault.lay",Pv.zdr,Si),("thing","Vault.thing",Pv.zb5,Se)]),("Witness","Witness.__init__",Pv.zbr,["self","paper"],["laid"],[("refuse_clash","Vault.refuse_clash",Pv.zY,Sm),("lay","Vault.lay",Pv.zdr,Si),("thing","Vault.thing",Pv.zb5,Se)]),("Reader","Reader.__init__",Pv.zbJ,SS,["laid","keeper","noted"],[("refuse_clash","Vault.refuse_clash",Pv.zY,Sm),("lay","Reader.lay",Pv.ze2,Si),("thing","Reader.thing",Pv.zdj,Se),("paper","Reader.paper",Pv.zdl,SA)]),("Find","Find.__init__",Pv.zco,Sz,["key"],[("answer","Find.answer",Pv.zbW,Sa)]),("Stretch","Stretch.__init__",Pv.zbn,Sr,SD,[("answer","Stretch.answer",Pv.zaU,Sa)]),("Count","Count.__init__",Pv.zcf,Sr,SD,[("answer","Count.answer",Pv.zbF,Sa)]),("Nth","Nth.__init__",Pv.zdk,Se,["number"],[("answer","Nth.answer",Pv.zcK,Sa)]),("Put","Put.__init__",Pv.zdh,SJ,["key","worth"],[("answer","Put.answer",Pv.zcH,Sa)]),("Cut","Cut.__init__",Pv.zdp,Sz,["key"],[("answer","Cut.answer",Pv.zcG,Sa)]),("Also","Also.__init__",Pv.zcy,["self","asks"],["asks"],[("answer","Also.answer",Pv.zb0,Sa)])]:=by
   dsimp only[L2.KOf]
   iterate 10
    refine' Pv.zud KX ?n ?c0 ?c1 ?c2 ?c3 ?_
    (case n=>k_is)
    (case c0=>refine' L2.zsV ?a ?b ?c ?d;(case a | b | c | d=>k_is))
    (case c1=>refine' L2.zs5 KX ah ?n ?mk ?a ?fn ?l ?c ?k ?kc ?b;(case n | mk | a | fn | l | c | k | kc=>k_is);(case b=>intro _ _ _ _ _ _ us hl;obtain⟨f,rfl⟩:=Pv.lts hl;rfl))
    (case c2=>(repeat refine⟨by unfold L2.zm;k_is,?_⟩);trivial)
    (case c3=>(repeat refine⟨by refine' L2.zsX ?a ?fn ?l ?c ?k ?b;(case a | fn | l | c | k=>k_is);(case b=>intro _ _ _ _ _ _ us hl;obtain⟨f,rfl⟩:=Pv.lts hl;rfl),?_⟩);trivial)
   trivial
  have gI:L2.Kdf (L2.KOf KX) mg "Vault" "__init__" "Vault.__init__" Pv.z8 SA:=by
   dsimp only[L2.KOf];refine' L2.zsW (mc:=.type "type") (qual:= "Vault.__init__") (st:=Pv.z8) (ps:=SA) KX ah ?n ?g ?rd ?fc ?l ?c ?k ?b
   (case n | g | rd | fc | l | c | k=>k_is)
   (case b=>intro _ _ _ _ _ _ us hl;obtain⟨f,rfl⟩:=Pv.lts hl;rfl)
  obtain⟨Yj,Yd,Yi,Ye,Yc,Yk,Ya,Yl,Yb,Ym,Yh,Yn,Yg,Yf,Yo,Yp,zcb,zce,zcd,zcc,zby,zej,zda,zek,za7,zfm,zdb,zel,zdc,zdd,zfn,zfo,kB,kC,nt,e6,xB,xN,xC,n1,n2⟩:∃Yj Yd Yi Ye Yc Yk Ya Yl Yb Ym Yh Yn Yg Yf Yo Yp,mg "VaultError" =Y (.ref Yj)/\mg "BadThing" =Y (.ref Yd)/\mg "Clash" =Y (.ref Yi)/\mg "NoColumn" =Y (.ref Ye)/\mg "NoCommand" =Y (.ref Yc)/\mg "NoName" =Y (.ref Yk)/\mg "NoPaper" =Y (.ref Ya)/\mg "NoPlan" =Y (.ref Yl)/\mg "NoQuestion" =Y (.ref Yb)/\mg "NoRow" =Y (.ref Ym)/\mg "NoState" =Y (.ref Yh)/\mg "NoStep" =Y (.ref Yn)/\mg "NoTable" =Y (.ref Yg)/\mg "NoThing" =Y (.ref Yf)/\mg "NotOn" =Y (.ref Yo)/\mg "NotSo" =Y (.ref Yp)/\Pv.SpK (L2.KOf KX) Yj Yd [.ref Ye,.ref Yc,.ref Yk,.ref Ya,.ref Yl,.ref Yb,.ref Ym,.ref Yh,.ref Yn,.ref Yg] [.ref Yi,.ref Yf,.ref Yo,.ref Yp]/\Pv.SpK (L2.KOf KX) Yj Yi [.ref Ye,.ref Yc,.ref Yk,.ref Ya,.ref Yl,.ref Yb,.ref Ym,.ref Yh,.ref Yn,.ref Yg] [.ref Yd,.ref Yf,.ref Yo,.ref Yp]/\Pv.NTk (L2.KOf KX) Yh/\PySem.W.exmOne (L2.KOf KX) (.ref Yi) (.ref Yi)=Y Z/\L2.XP (L2.KOf KX) mg "BadThing" Yd/\L2.XP (L2.KOf KX) mg "NoPaper" Ya/\L2.XId (L2.KOf KX) mg "Clash" Yi "Clash.__init__" Pv.zaW SB/\L2.zm (L2.KOf KX) Yi "one" /\L2.zm (L2.KOf KX) Yi "other" :=by
   dsimp only[L2.KOf];refine' L2.zX KX (x:= "VaultError") ?n0 (L2.zX KX (x:= "BadThing") ?n1 (L2.zX KX (x:= "Clash") ?n2 (L2.zX KX (x:= "NoColumn") ?n3 (L2.zX KX (x:= "NoCommand") ?n4 (L2.zX KX (x:= "NoName") ?n5 (L2.zX KX (x:= "NoPaper") ?n6 (L2.zX KX (x:= "NoPlan") ?n7 (L2.zX KX (x:= "NoQuestion") ?n8 (L2.zX KX (x:= "NoRow") ?n9 (L2.zX KX (x:= "NoState") ?n10 (L2.zX KX (x:= "NoStep") ?n11 (L2.zX KX (x:= "NoTable") ?n12 (L2.zX KX (x:= "NoThing") ?n13 (L2.zX KX (x:= "NotOn") ?n14 (L2.zX KX (x:= "NotSo") ?n15 (?r))))))))))))))))
   (case n0 | n1 | n2 | n3 | n4 | n5 | n6 | n7 | n8 | n9 | n10 | n11 | n12 | n13 | n14 | n15=>k_is)
   and_intros
   all_goals first
    | (refine' PySem.W.mg_of KX ah ?z;(case z=>k_is))
    | (unfold L2.zm;k_is)
    | (refine'⟨?cl,?ei,?m⟩;(case cl=>refine' L2.zfa ?xq ?xo ?xs ?xg ?xh ?xk;(case xq=>kernel_rfl);(case xo=>kernel_rfl);(case xs | xg | xh | xk=>k_is));(case ei=>kernel_rfl);(case m=>refine' PySem.W.mg_of KX ah ?z;(case z=>k_is)))
    | (refine' L2.zsK (qual:= "Clash.__init__") (st:=Pv.zaW) (ps:=SB) KX ah ?n ?cl ?a ?fn ?l ?c ?k ?b;(case n=>k_is);(case cl=>refine' L2.zfa ?xq ?xo ?xs ?xg ?xh ?xk;(case xq=>kernel_rfl);(case xo=>kernel_rfl);(case xs | xg | xh | xk=>k_is));(case a | fn | l | c | k=>k_is);(case b=>intro _ _ _ _ _ _ us hl;obtain⟨f,rfl⟩:=Pv.lts hl;rfl))
    | (refine'⟨?kd,?em,?k1,?k2,?k3,?k4⟩;(case kd=>refine'⟨?cl,?ha,?hn,?ht,?hm⟩;(case cl=>refine' L2.zfa ?xq ?xo ?xs ?xg ?xh ?xk;(case xq=>kernel_rfl);(case xo=>kernel_rfl);(case xs | xg | xh | xk=>k_is));(case ha=>k_is);(case hn=>first | k_is | kernel_rfl);(case ht=>first | k_is | kernel_rfl);(case hm=>first | k_is | kernel_rfl));(case em=>kernel_rfl);(case k1=>kernel_rfl);(case k2=>kernel_rfl);(case k3=>kernel_rfl);(case k4=>kernel_rfl))
    | (refine'⟨?kd,?k1,?k2,?k3,?k4,?k5,?he⟩;(case kd=>refine'⟨?cl,?ha,?hn,?ht,?hm⟩;(case cl=>refine' L2.zfa ?xq ?xo ?xs ?xg ?xh ?xk;(case xq=>kernel_rfl);(case xo=>kernel_rfl);(case xs | xg | xh | xk=>k_is));(case ha=>k_is);(case hn=>first | k_is | kernel_rfl);(case ht=>first | k_is | kernel_rfl);(case hm=>first | k_is | kernel_rfl));(case k1=>kernel_rfl);(case k2=>kernel_rfl);(case k3=>kernel_rfl);(case k4=>kernel_rfl);(case k5=>kernel_rfl);(case he=>k_is))
    | (kernel_rfl)
  refine' Pv.zst KX ah hmg ?a ?l ?c ?k ?ok
  (case a | l | c | k=>k_is)
  case ok=>
   intro ax fd F;have zrY:=Pv.zsg (P:=Pv.PQ) (w:=w) (ax:=ax) zkX;have zbH:=Pv.zqc (P:=Pv.PQ) (w:=w) (ax:=ax) zjS;have ztx:=Pv.zqa zjT zbH zaz;have zri:=Pv.zjt ziD zbH ztx zaz zI 4;have zrj:=Pv.ziQ (P:=Pv.PQ) (w:=w) (ax:=ax) ziE zg zI 4;have zpy:=Pv.zgP (P:=Pv.PQ) (w:=w) (ax:=ax) zgI zg zI 6;have zk1:=Pv.zpQ zjU zrj zri;have zuI:=Pv.zsN zkY zbH zk1 zy;have zuJ:=Pv.zie (P:=Pv.PQ) (w:=w) (ax:=ax) zjP m_ord;have zrk:=Pv.zi5 zre zuJ zg za0 ze3 zaz zy 10;have zdB:=Pv.zqL ztt zrk;have zty:=Pv.zq4 (P:=Pv.PQ) (w:=w) (ax:=ax) zm8 zg za0 ze3;have zde:=Pv.zja zrf zeI zty zjM zy zg zI 9;have ziH:=Pv.znZ (P:=Pv.PQ) (w:=w) (ax:=ax) xC n1 n2;have ztz:=Pv.zoI (P:=Pv.PQ) (w:=w) (ax:=ax) dI cK nL;have zjX:=Pv.zeA dR ziH cK nL;have ztA:=Pv.zeA dWR ziH cW nLW;have ztB:=Pv.zeA dRR ziH cR nLR;have zuK:=Pv.zoc dL zjX zdB cK nL;have zpz:=Pv.zoc dWL ztA zdB cW nLW;have zjY:=Pv.zg1 (P:=Pv.PQ) (w:=w) (ax:=ax) dT xN cK nL;have zpA:=Pv.zg1 (P:=Pv.PQ) (w:=w) (ax:=ax) dWT xN cW nLW;have zpB:=Pv.zmM (P:=Pv.PQ) (w:=w) (ax:=ax) zpu zgx;have ztC:=Pv.ziJ (P:=Pv.PQ) (w:=w) (ax:=ax) gI cR nLR;have zrl:=Pv.ziJ (P:=Pv.PQ) (w:=w) (ax:=ax) gI cW nLW;have zpC:=Pv.znw dRI ztC cR nKR nNR;have ztD:=Pv.zqK dRL ztB zjX zdB cR cK nLR nKR;have zpD:=Pv.zmX dRT zjY cR cK nLR nKR nNR;have zrm:=Pv.znI dRP zpB cR nNR;have zpE:=Pv.zmW (P:=Pv.PQ) (w:=w) (ax:=ax) nt zgz zg za0 ziv;have zrn:=Pv.zmk (P:=Pv.PQ) (w:=w) (ax:=ax) zcl m_ord zhu;have zpF:=Pv.zfr nt zem zen zpE zrn zg zI ze3 za0 zy zps zca zaB 6;have zuL:=Pv.zs1 zkU zpF ze6;have zuM:=Pv.ztY dWI zrl zuL (Pv.zny zpz) xB cW;have zlZ:=Pv.zmP (P:=Pv.PQ) (w:=w) (ax:=ax) zgz zg za0 ziv;have ztE:=Pv.zpm znb zlZ;have zpG:=Pv.zmp zna ztE zlZ zg zI zy zat zbx zar zae z7 zeh;have ztF:=Pv.zqT ztv zdB;have zl0:=Pv.zn3 zrg ztF zde;have ztG:=Pv.zo9 znc zde zat zar zae;have ztH:=Pv.zns (P:=Pv.PQ) (w:=w) (ax:=ax) zjR zat zbx zar zae;have ztI:=Pv.zoz (P:=Pv.PQ) (w:=w) (ax:=ax) znd zat zy;have zro:=Pv.zl2 zkW zl0 zat ze5 zy;have zrp:=Pv.zmy zkV zde;have zu3:=Pv.zmv zjQ zde zat;have zu4:=Pv.zmm ziB zde zat;have tr:= @Pv.zsa _ _ _ _ _ CAlso Yi Ya _ (λk=>match k with | .fi=>CFind | .st=>CStretch | .co=>CCount | .nt=>CNth | .pu=>CPut | .cu=>CCut) _ _ _ _ _ _ zgA zpG xB zgB ztu zpv ztG ztI zrh ztw zpw ztH zro zuG zpx zuH zl0 zde zrp zu3 zu4 ziC zne zgF znf zuF dFindA cFind nFind0 dStretchA cStretch nStretch0 nStretch1 dCountA cCount nCount0 nCount1 dNthA cNth nNth0 dPutA cPut nPut0 nPut1 dCutA cCut nCut0 dAlsoA cAlso nAlso0 zat zbx zar zae z7 zah zy zb9;have trK:=tr (Pv.vi_K CK) (Pv.zlt zjY) (Pv.zny zuK) cK;have trW:=tr (Pv.vi_K CW) (Pv.zlt zpA) (Pv.zny zpz) cW;have trR:=λ(kp dk:aE)=>tr (Pv.vi_R CR CK kp dk) (Pv.zqB zpD) (Pv.zt2 ztD) cR;have Cc:∀k∈Pv.all7,L2.Cls (L2.KOf KX) (Pv.cl7 (λk=>match k with | .fi=>CFind | .st=>CStretch | .co=>CCount | .nt=>CNth | .pu=>CPut | .cu=>CCut) CAlso k):=λk _=>by
    cases k with
    | al=>exact cAlso
    | k k=>cases k <;> assumption
   have zuN:=Pv.zss zdf zpC zrm cR (λkp dk=>(trR kp dk).2.2) Cc;have zrZ:=Pv.zqv zm9 zuM trW.2.2 Cc;have zr0:=Pv.zs8 zgG zrZ kB.em kC.em zcb;have zuO:=Pv.ztb zgH zr0 kB zcc zby zej zda zek za7 zfm zdb zel zdc zdd zfn zfo zcd zce zg za8;have zpH:=Pv.zqG zgC zr0 xC.cl n1 n2 kC zcc zby zej zda zek za7 zfm zdb zel zdc zdd zfn zfo zcd zce zg za8;have zk2:=Pv.zqH zk0 zbH zy;have zrq:=Pv.zoN zgD zbH zy zg za0 zaz;have zuP:=Pv.zsn zgJ zbH zdB zk2 zpH zy;have ztJ:=Pv.zp7 zjV zbH zdB zpy zk2 zpH zy;have zrr:=Pv.znq ziG zbH zk2 zrq zuO zuP ztJ zrZ zy;have zrs:=Pv.zo8 ziF zrY zbH zk1 trK.1 trK.2.1 zy;have zuQ:=Pv.zsx (cl:=λk=>match k with | .fi=>CFind | .st=>CStretch | .co=>CCount | .nt=>CNth | .pu=>CPut | .cu=>CCut) (CA:=CAlso) zkZ zbH zk1 zuI zy za0 (Pv.zoL (P:=Pv.PQ) (w:=w) (ax:=ax) dFindI cFind nFind0) (Pv.zjh (P:=Pv.PQ) (w:=w) (ax:=ax) dStretchI cStretch nStretch0 nStretch1) (Pv.zmo (P:=Pv.PQ) (w:=w) (ax:=ax) dCountI cCount nCount0 nCount1) (Pv.zqq (P:=Pv.PQ) (w:=w) (ax:=ax) dNthI cNth nNth0) (Pv.zp8 (P:=Pv.PQ) (w:=w) (ax:=ax) dPutI cPut nPut0 nPut1) (Pv.zqS (P:=Pv.PQ) (w:=w) (ax:=ax) dCutI cCut nCut0) (Pv.znn (P:=Pv.PQ) (w:=w) (ax:=ax) dAlsoI zix cAlso nAlso0);have ztK:=Pv.zqh zjW ztz zrs zrY zuQ zuN zrr zy zix;exact Pv.zsP F ztK zdB zcd xC.cl n1 n2 e6
#print axioms PySem.Challenge.cw_papervault_k44_papers_spoilt_holds
