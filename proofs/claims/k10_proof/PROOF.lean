import PyProof.Rows.All
import KE.KIsAll
import OpenK.KLine
import KE.KItem
import OpenK.KRaise
import OpenK.KOwn
import KE.LcSums
import KE.KSortAsk
import KE.KTryMore
import KE.KItemsList
import KE.KSortTup
import Lean
import PyProof.EqAt
import PyProof.EqKinds
import PyProof.TupleCall
import PySem.Challenge.RW_atonce_k10_whole_settled_stands
set_option Elab.async false
set_option linter.all false
set_option maxRecDepth 100000
set_option maxHeartbeats 4000000
namespace L2
open PySem
def YN (s:Stmt) (j:Nat):Stmt:=match s with
 |.ClassDef _ _ _ body _ _ _ _ _ _ _=>body.getD j (.Pass ⟨0,0,0,0⟩)
 |_=>.Pass ⟨0,0,0,0⟩
def ZA (s:Stmt):Arguments:=match s with
 |.FunctionDef _ a _ _ _ _ _ _ _ _=>a
 |_=>{ posonlyargs:=[],args:=[],vararg:=none,kwonlyargs:=[],kw_defaults:=[],kwarg:=none,defaults:=[] }
def Zu (s:Stmt):List Stmt:=match s with
 |.FunctionDef _ _ b _ _ _ _ _ _ _=>b
 |_=>[]
def Zi (s:Stmt):Scope:=match s with
 |.FunctionDef _ _ _ _ _ _ sc _ _ _=>sc
 |_=>{ kind:=.function,names:=[],isGenerator:=false,isCoroutine:=false }
def tyL:Value->Bool
 |.type s=>s == "list"
 |_=>false
def Ce (K:PySem.W.Frag):Bool:=K.all fun p=>!tyL p.2.cls
def RL:List String:=["NoneType","bool","int","str","list","tuple","dict"]
end L2
namespace MP
noncomputable section
open PySem L2
def top (i:Nat):Stmt:=PySem.Challenge.pw_atonce_k10_whole_settled_stands.main.body.getD i (.Pass ⟨0,0,0,0⟩)
abbrev J6:Stmt:=top 39
abbrev Iz:Stmt:=top 41
abbrev Io:Stmt:=top 42
abbrev J5:Stmt:=top 43
abbrev Jj:Stmt:=top 44
abbrev JZ:Stmt:=top 45
abbrev JC:Stmt:=YN (top 34) 0
abbrev JF:Stmt:=YN (top 34) 1
abbrev J1:Stmt:=YN (top 34) 2
abbrev Iy:Stmt:=top 46
abbrev Pe:Stmt:=YN (top 32) 0
abbrev P1:Stmt:=YN (top 32) 1
abbrev Pk:Stmt:=top 47
abbrev Pp:Stmt:=YN (top 37) 0
abbrev Ps:Stmt:=YN (top 32) 2
abbrev P5:Stmt:=YN (top 32) 3
abbrev OI:Stmt:=YN (top 37) 1
abbrev Op:Stmt:=YN (top 37) 7
abbrev Q8:Stmt:=YN (top 34) 3
abbrev PM:Stmt:=YN (top 37) 8
abbrev OJ:Stmt:=YN (top 37) 2
abbrev PO:Stmt:=YN (top 37) 3
abbrev PY:Stmt:=top 48
abbrev Oj:Stmt:=top 49
abbrev Pc:Stmt:=YN (top 37) 6
abbrev Pu:Stmt:=YN (top 37) 5
abbrev OC:Stmt:=YN (top 32) 5
abbrev OH:Stmt:=YN (top 37) 4
abbrev Q5:Stmt:=top 2
abbrev Ov:Stmt:=top 3
abbrev OG:Stmt:=top 4
abbrev PU:Stmt:=top 5
abbrev Pf:Stmt:=top 6
abbrev Oa:Stmt:=top 7
abbrev Oc:Stmt:=top 15
abbrev Oy:Stmt:=top 16
abbrev Pb:Stmt:=top 8
abbrev PH:Stmt:=top 17
abbrev Py:Stmt:=top 9
abbrev Pi:Stmt:=top 18
abbrev Q9:Stmt:=top 19
abbrev P4:Stmt:=top 20
abbrev Om:Stmt:=top 21
abbrev Q3:Stmt:=top 22
abbrev Oi:Stmt:=top 40
abbrev Of:Stmt:=top 55
abbrev Po:Stmt:=top 50
abbrev P9:Stmt:=top 51
abbrev PZ:Stmt:=top 52
abbrev Q6:Stmt:=top 53
abbrev OE:Stmt:=top 54
abbrev P7:Stmt:=top 56
abbrev PL:Stmt:=top 57
abbrev Pj:Stmt:=top 58
def Uj (as:List Addr) (h:Heap):W.Frag:=as.filterMap fun a=>(h.get? a).map fun o=>(a,o)
theorem Q1 (h:Heap):∀as:List Addr,(Uj as h).In h
 |[],_,_,e=>by simp[Uj]at e
 |a::as,b,o,e=>by
  have ih:=Q1 h as b o
  unfold Uj at e ih
  cases hg:h.get? a with
  |none=>simp only[List.filterMap_cons,hg,Option.map_none]at e; exact ih e
  |some v =>
   simp only[List.filterMap_cons,hg,Option.map_some,List.lookup_cons]at e
   by_cases hb:b=a
   ·subst hb; simp at e; rw[hg,e]
   ·have:(b == a)=false:=by simpa using hb
    rw[this]at e; exact ih e
def nth {α:Type}:List α->Nat->Option α
 |[],_=>none
 |a::_,0=>some a
 |_::l,n+1=>nth l n
theorem V1 {α:Type} {l r:List α} (h:l=r) (i:Nat) {x y:α} (h1:nth l i=some x) (h2:nth r i=some y):x=y:=by
 subst h; rw[h1]at h2; exact Option.some.inj h2
def nrm (f:FuncData):FuncData:={ f with kwdefaults:=.none,doc:=.none,pyModule:=.none,annotations:=none,code:=.none,closureTuple:=.none }
def fnV (K:W.Frag) (f:Addr) (q:Str):Option (FuncData × Bool):=match K.lookup f with
 |some ⟨_,_,.func d,_⟩=>some (nrm d,W.codeIn K d.code q)
 |_=>none
def obK (K:W.Frag) (f:Addr):Obj:=(K.lookup f).getD default
def fdK (K:W.Frag) (f:Addr):FuncData:=match (obK K f).data with|.func d=>d|_=>default
theorem Kz {K:W.Frag} {f:Addr} {q n q':Str} {a:Arguments} {b:List Stmt} {s:Scope} (h:fnV K f q=some (nrm (W.fnOf n q' a b s .none .none .none .none none .none .none),true)) :
    K.lookup f=some ⟨(obK K f).cls,(obK K f).dict,.func (W.fnOf n q' a b s .none (fdK K f).kwdefaults (fdK K f).doc (fdK K f).pyModule (fdK K f).annotations (fdK K f).code (fdK K f).closureTuple),(obK K f).slots⟩∧W.codeIn K (fdK K f).code q=true:=by
 unfold fnV at h
 cases hl:K.lookup f with
 |none=>rw[hl]at h; cases h
 |some v =>
  obtain ⟨c,d,dt,sl⟩:=v
  rw[hl]at h
  cases dt with
  |func fd =>
   obtain ⟨h1,h2⟩:=Prod.mk.inj (Option.some.inj h)
   have e1:obK K f=⟨c,d,.func fd,sl⟩:=by simp[obK,hl]
   have e2:fdK K f=fd:=by simp[fdK,e1]
   rw[e2,e1]
   refine ⟨?_,h2⟩
   obtain ⟨x1,x2,x3,x4,x5,x6,x7,x8,x9,x10,x11,x12,x13,x14,x15⟩:=fd
   unfold nrm at h1
   injection h1 with y1 y2 y3 y4 y5 y6 y7 y8 _ _ _ _ _ _ y15
   dsimp only at y1 y2 y3 y4 y5 y6 y7 y8 y15
   subst y1 y2 y3 y4 y5 y6 y7 y8 y15
   rfl
  |_=>cases h
theorem Yy {K:W.Frag} {f:Addr} {q n q':Str} {a:Arguments} {b:List Stmt} {s:Scope} (h:fnV K f q=some (nrm (W.fnOf n q' a b s .none .none .none .none none .none .none),true)) :
    K.lookup f=some ⟨(obK K f).cls,(obK K f).dict,.func (W.fnOf n q' a b s .none (fdK K f).kwdefaults (fdK K f).doc (fdK K f).pyModule (fdK K f).annotations (fdK K f).code (fdK K f).closureTuple),(obK K f).slots⟩:=(Kz h).1
theorem YA {K:W.Frag} {f:Addr} {q n q':Str} {a:Arguments} {b:List Stmt} {s:Scope} (h:fnV K f q=some (nrm (W.fnOf n q' a b s .none .none .none .none none .none .none),true)):W.codeIn K (fdK K f).code q=true:=(Kz h).2
def Kc (x:Option (Option Value)):Option Int:=match x with|some (some (.int i _))=>some i|_=>none
theorem N2 {x:Option (Option Value)} {i:Int} (h:Kc x=some i):∃t,x=some (some (.int i t)):=by
 unfold Kc at h; split at h
 ·cases h; exact ⟨_,rfl⟩
 ·cases h
def Cs (K:W.Frag) (a:Addr):Option (String × Str):=match K.lookup a with
 |some ⟨.type t,_,.seq vs _,_⟩=>(match vs.toList with|[.str x _]=>some (t,x)|_=>none)
 |_=>none
theorem AR {K:W.Frag} {a:Addr} {t:String} {x:Str} (h:Cs K a=some (t,x)):∃od n tk sl,K.lookup a=some ⟨.type t,od,.seq #[.str x tk] n,sl⟩:=by
 unfold Cs at h; split at h
 ·rename_i od vs n sl hl
  split at h
  ·rename_i y tk hv
   cases h
   have:vs=#[.str x tk]:=Array.toList_inj.mp (by rw[hv])
   subst this
   exact ⟨_,_,_,_,hl⟩
  ·cases h
 ·cases h
def Ci (K:W.Frag):List (Option (Option Value)):=[W.nsIn K mainGlobals "Map",
 W.nsIn K mainGlobals "Board",
 W.nsIn K mainGlobals "Orders",
 W.nsIn K mainGlobals "OrderError",
 W.nsIn K mainGlobals "NoPlace",
 W.nsIn K mainGlobals "NoSide",
 W.nsIn K mainGlobals "Crowded",
 W.nsIn K mainGlobals "NoUnit",
 W.nsIn K mainGlobals "OutOfReach",
 W.nsIn K mainGlobals "STAND",
 W.nsIn K mainGlobals "_law_cell_at",
 W.nsIn K mainGlobals "_law_frame",
 W.nsIn K mainGlobals "_law_links",
 W.nsIn K mainGlobals "_law_sides",
 W.nsIn K mainGlobals "_law_order_by",
 W.nsIn K mainGlobals "_law_orders",
 W.findIn K (.ref 293) "__init__",
 W.findIn K (.ref 293) "need_place",
 W.findIn K (.ref 293) "link",
 W.nsIn K mainGlobals "_law_chart",
 W.findIn K (.ref 246) "__init__",
 W.findIn K (.ref 246) "post",
 W.nsIn K mainGlobals "_law_board",
 W.findIn K (.ref 369) "__init__",
 W.findIn K (.ref 246) "side_at",
 W.findIn K (.ref 246) "need_unit",
 W.findIn K (.ref 369) "stand",
 W.findIn K (.ref 369) "need_all",
 W.findIn K (.ref 293) "beside",
 W.findIn K (.ref 369) "need_beside",
 W.findIn K (.ref 369) "move",
 W.findIn K (.ref 369) "aid",
 W.nsIn K mainGlobals "_law_give",
 W.nsIn K mainGlobals "_law_given",
 W.findIn K (.ref 369) "goal_of",
 W.findIn K (.ref 369) "movers",
 W.findIn K (.ref 246) "roll",
 W.findIn K (.ref 369) "told",
 W.nsIn K mainGlobals "is_cut",
 W.nsIn K mainGlobals "fits",
 W.nsIn K mainGlobals "counts",
 W.nsIn K mainGlobals "backs",
 W.nsIn K mainGlobals "backing",
 W.nsIn K mainGlobals "force",
 W.nsIn K mainGlobals "weigh_movers",
 W.nsIn K mainGlobals "is_outdone",
 W.nsIn K mainGlobals "force_against",
 W.nsIn K mainGlobals "overcomes",
 W.nsIn K mainGlobals "firmness",
 W.nsIn K mainGlobals "hindrance",
 W.nsIn K mainGlobals "hindrances",
 W.nsIn K mainGlobals "fault",
 W.nsIn K mainGlobals "strikes",
 W.nsIn K mainGlobals "settled",
 W.nsIn K mainGlobals "_law_whole",
 W.nsIn K mainGlobals "_law_rising",
 W.nsIn K mainGlobals "_law_cut",
 W.nsIn K mainGlobals "_law_counts",
 W.nsIn K mainGlobals "_law_strong",
 W.nsIn K mainGlobals "_law_firm",
 W.nsIn K mainGlobals "_law_flaw",
 W.nsIn K mainGlobals "_law_walked",
 W.nsIn K mainGlobals "_law_right",
 W.nsIn K mainGlobals "law",
 W.findIn K (.ref 246) "__setattr__",
 W.findIn K (.ref 293) "__setattr__",
 W.findIn K (.ref 369) "__setattr__",
 W.findIn K (.ref 246) "chart",
 W.findIn K (.ref 246) "units",
 W.findIn K (.ref 293) "links",
 W.findIn K (.ref 293) "size",
 W.findIn K (.ref 369) "board",
 W.findIn K (.ref 369) "given",
 W.nsIn K mainGlobals "any",
 W.nsIn K mainGlobals "bool",
 W.nsIn K mainGlobals "int",
 W.nsIn K mainGlobals "isinstance",
 W.nsIn K mainGlobals "len",
 W.nsIn K mainGlobals "list",
 W.nsIn K mainGlobals "range",
 W.nsIn K mainGlobals "sorted"]
def BO:List (Option (Option Value)):=[some (some (.ref 293)),
 some (some (.ref 246)),
 some (some (.ref 369)),
 some (some (.ref 131)),
 some (some (.ref 144)),
 some (some (.ref 156)),
 some (some (.ref 168)),
 some (some (.ref 180)),
 some (some (.ref 192)),
 some (some (.ref 298)),
 some (some (.ref 380)),
 some (some (.ref 394)),
 some (some (.ref 399)),
 some (some (.ref 406)),
 some (some (.ref 411)),
 some (some (.ref 416)),
 some (some (.ref 264)),
 some (some (.ref 271)),
 some (some (.ref 278)),
 some (some (.ref 423)),
 some (some (.ref 208)),
 some (some (.ref 215)),
 some (some (.ref 430)),
 some (some (.ref 312)),
 some (some (.ref 222)),
 some (some (.ref 229)),
 some (some (.ref 319)),
 some (some (.ref 359)),
 some (some (.ref 285)),
 some (some (.ref 366)),
 some (some (.ref 326)),
 some (some (.ref 333)),
 some (some (.ref 437)),
 some (some (.ref 444)),
 some (some (.ref 352)),
 some (some (.ref 345)),
 some (some (.ref 243)),
 some (some (.ref 340)),
 some (some (.ref 26)),
 some (some (.ref 33)),
 some (some (.ref 40)),
 some (some (.ref 47)),
 some (some (.ref 52)),
 some (some (.ref 59)),
 some (some (.ref 78)),
 some (some (.ref 83)),
 some (some (.ref 64)),
 some (some (.ref 90)),
 some (some (.ref 71)),
 some (some (.ref 97)),
 some (some (.ref 104)),
 some (some (.ref 111)),
 some (some (.ref 116)),
 some (some (.ref 121)),
 some (some (.ref 387)),
 some (some (.ref 486)),
 some (some (.ref 451)),
 some (some (.ref 458)),
 some (some (.ref 465)),
 some (some (.ref 472)),
 some (some (.ref 479)),
 some (some (.ref 491)),
 some (some (.ref 496)),
 some (some (.ref 501)),
 some (some (.builtin "object.__setattr__")),
 some (some (.builtin "object.__setattr__")),
 some (some (.builtin "object.__setattr__")),
 some none,
 some none,
 some none,
 some none,
 some none,
 some none,
 some none,
 some none,
 some none,
 some none,
 some none,
 some none,
 some none,
 some none]
def CN (K:W.Frag):List Bool:=[W.keepIn K (.ref 380),
 W.keepIn K (.ref 394),
 W.keepIn K (.ref 399),
 W.keepIn K (.ref 406),
 W.keepIn K (.ref 411),
 W.keepIn K (.ref 416),
 W.isFn K (.ref 264),
 W.keepIn K (.ref 264),
 W.isFn K (.ref 271),
 W.keepIn K (.ref 271),
 W.isFn K (.ref 278),
 W.keepIn K (.ref 278),
 W.keepIn K (.ref 423),
 W.isFn K (.ref 208),
 W.keepIn K (.ref 208),
 W.isFn K (.ref 215),
 W.keepIn K (.ref 215),
 W.keepIn K (.ref 430),
 W.isFn K (.ref 312),
 W.keepIn K (.ref 312),
 W.isFn K (.ref 222),
 W.keepIn K (.ref 222),
 W.isFn K (.ref 229),
 W.keepIn K (.ref 229),
 W.isFn K (.ref 319),
 W.keepIn K (.ref 319),
 W.isFn K (.ref 359),
 W.keepIn K (.ref 359),
 W.isFn K (.ref 285),
 W.keepIn K (.ref 285),
 W.isFn K (.ref 366),
 W.keepIn K (.ref 366),
 W.isFn K (.ref 326),
 W.keepIn K (.ref 326),
 W.isFn K (.ref 333),
 W.keepIn K (.ref 333),
 W.keepIn K (.ref 437),
 W.keepIn K (.ref 444),
 W.isFn K (.ref 352),
 W.keepIn K (.ref 352),
 W.isFn K (.ref 345),
 W.keepIn K (.ref 345),
 W.isFn K (.ref 243),
 W.keepIn K (.ref 243),
 W.isFn K (.ref 340),
 W.keepIn K (.ref 340),
 W.keepIn K (.ref 26),
 W.keepIn K (.ref 33),
 W.keepIn K (.ref 40),
 W.keepIn K (.ref 47),
 W.keepIn K (.ref 52),
 W.keepIn K (.ref 59),
 W.keepIn K (.ref 78),
 W.keepIn K (.ref 83),
 W.keepIn K (.ref 64),
 W.keepIn K (.ref 90),
 W.keepIn K (.ref 71),
 W.keepIn K (.ref 97),
 W.keepIn K (.ref 104),
 W.keepIn K (.ref 111),
 W.keepIn K (.ref 116),
 W.keepIn K (.ref 121),
 W.keepIn K (.ref 387),
 W.keepIn K (.ref 486),
 W.keepIn K (.ref 451),
 W.keepIn K (.ref 458),
 W.keepIn K (.ref 465),
 W.keepIn K (.ref 472),
 W.keepIn K (.ref 479),
 W.keepIn K (.ref 491),
 W.keepIn K (.ref 496),
 W.keepIn K (.ref 501),
 W.plainGet K 246 Str.empty,
 W.hasDictIn K 246,
 W.plainOver K 246,
 W.plainGet K 293 Str.empty,
 W.hasDictIn K 293,
 W.plainOver K 293,
 W.plainGet K 369 Str.empty,
 W.hasDictIn K 369,
 W.plainOver K 369,
 W.makesIn K 246,
 W.keepIn K (.ref 246),
 W.makesIn K 293,
 W.keepIn K (.ref 293),
 W.makesIn K 369,
 W.keepIn K (.ref 369),
 W.excIn K 168 [.type "ValueError",.type "Exception",.type "BaseException",.type "object"] "ValueError.__new__",
 W.excIn K 144 [.type "ValueError",.type "Exception",.type "BaseException",.type "object"] "ValueError.__new__",
 W.excIn K 156 [.type "ValueError",.type "Exception",.type "BaseException",.type "object"] "ValueError.__new__",
 W.excIn K 180 [.type "ValueError",.type "Exception",.type "BaseException",.type "object"] "ValueError.__new__",
 W.excIn K 192 [.type "ValueError",.type "Exception",.type "BaseException",.type "object"] "ValueError.__new__",
 Ce K]
def Ba:List Bool:=[true,true,true,true,true,true,true,true,true,true,true,true,true,true,true,true,true,true,true,true,true,true,true,true,true,true,true,true,true,true,true,true,true,true,true,true,true,true,true,true,true,true,true,true,true,true,true,true,true,true,true,true,true,true,true,true,true,true,true,true,true,true,true,true,true,true,true,true,true,true,true,true,true,true,true,true,true,true,true,true,true,true,true,true,true,true,true,true,true,true,true,true,true]
def Bt (K:W.Frag):List (Option (FuncData × Bool)):=[fnV K 380 "_law_cell_at",
 fnV K 394 "_law_frame",
 fnV K 399 "_law_links",
 fnV K 406 "_law_sides",
 fnV K 411 "_law_order_by",
 fnV K 416 "_law_orders",
 fnV K 264 "Map.__init__",
 fnV K 271 "Map.need_place",
 fnV K 278 "Map.link",
 fnV K 423 "_law_chart",
 fnV K 208 "Board.__init__",
 fnV K 215 "Board.post",
 fnV K 430 "_law_board",
 fnV K 312 "Orders.__init__",
 fnV K 222 "Board.side_at",
 fnV K 229 "Board.need_unit",
 fnV K 319 "Orders.stand",
 fnV K 359 "Orders.need_all",
 fnV K 285 "Map.beside",
 fnV K 366 "Orders.need_beside",
 fnV K 326 "Orders.move",
 fnV K 333 "Orders.aid",
 fnV K 437 "_law_give",
 fnV K 444 "_law_given",
 fnV K 352 "Orders.goal_of",
 fnV K 345 "Orders.movers",
 fnV K 243 "Board.roll",
 fnV K 340 "Orders.told",
 fnV K 26 "is_cut",
 fnV K 33 "fits",
 fnV K 40 "counts",
 fnV K 47 "backs",
 fnV K 52 "backing",
 fnV K 59 "force",
 fnV K 78 "weigh_movers",
 fnV K 83 "is_outdone",
 fnV K 64 "force_against",
 fnV K 90 "overcomes",
 fnV K 71 "firmness",
 fnV K 97 "hindrance",
 fnV K 104 "hindrances",
 fnV K 111 "fault",
 fnV K 116 "strikes",
 fnV K 121 "settled",
 fnV K 387 "_law_whole",
 fnV K 486 "_law_rising",
 fnV K 451 "_law_cut",
 fnV K 458 "_law_counts",
 fnV K 465 "_law_strong",
 fnV K 472 "_law_firm",
 fnV K 479 "_law_flaw",
 fnV K 491 "_law_walked",
 fnV K 496 "_law_right",
 fnV K 501 "law"]
def Cm:List (Option (FuncData × Bool)):=[some (nrm (W.fnOf "_law_cell_at" "_law_cell_at" (ZA J6) (Zu J6) (Zi J6) .none .none .none .none none .none .none),true),
 some (nrm (W.fnOf "_law_frame" "_law_frame" (ZA Iz) (Zu Iz) (Zi Iz) .none .none .none .none none .none .none),true),
 some (nrm (W.fnOf "_law_links" "_law_links" (ZA Io) (Zu Io) (Zi Io) .none .none .none .none none .none .none),true),
 some (nrm (W.fnOf "_law_sides" "_law_sides" (ZA J5) (Zu J5) (Zi J5) .none .none .none .none none .none .none),true),
 some (nrm (W.fnOf "_law_order_by" "_law_order_by" (ZA Jj) (Zu Jj) (Zi Jj) .none .none .none .none none .none .none),true),
 some (nrm (W.fnOf "_law_orders" "_law_orders" (ZA JZ) (Zu JZ) (Zi JZ) .none .none .none .none none .none .none),true),
 some (nrm (W.fnOf "__init__" "Map.__init__" (ZA JC) (Zu JC) (Zi JC) .none .none .none .none none .none .none),true),
 some (nrm (W.fnOf "need_place" "Map.need_place" (ZA JF) (Zu JF) (Zi JF) .none .none .none .none none .none .none),true),
 some (nrm (W.fnOf "link" "Map.link" (ZA J1) (Zu J1) (Zi J1) .none .none .none .none none .none .none),true),
 some (nrm (W.fnOf "_law_chart" "_law_chart" (ZA Iy) (Zu Iy) (Zi Iy) .none .none .none .none none .none .none),true),
 some (nrm (W.fnOf "__init__" "Board.__init__" (ZA Pe) (Zu Pe) (Zi Pe) .none .none .none .none none .none .none),true),
 some (nrm (W.fnOf "post" "Board.post" (ZA P1) (Zu P1) (Zi P1) .none .none .none .none none .none .none),true),
 some (nrm (W.fnOf "_law_board" "_law_board" (ZA Pk) (Zu Pk) (Zi Pk) .none .none .none .none none .none .none),true),
 some (nrm (W.fnOf "__init__" "Orders.__init__" (ZA Pp) (Zu Pp) (Zi Pp) .none .none .none .none none .none .none),true),
 some (nrm (W.fnOf "side_at" "Board.side_at" (ZA Ps) (Zu Ps) (Zi Ps) .none .none .none .none none .none .none),true),
 some (nrm (W.fnOf "need_unit" "Board.need_unit" (ZA P5) (Zu P5) (Zi P5) .none .none .none .none none .none .none),true),
 some (nrm (W.fnOf "stand" "Orders.stand" (ZA OI) (Zu OI) (Zi OI) .none .none .none .none none .none .none),true),
 some (nrm (W.fnOf "need_all" "Orders.need_all" (ZA Op) (Zu Op) (Zi Op) .none .none .none .none none .none .none),true),
 some (nrm (W.fnOf "beside" "Map.beside" (ZA Q8) (Zu Q8) (Zi Q8) .none .none .none .none none .none .none),true),
 some (nrm (W.fnOf "need_beside" "Orders.need_beside" (ZA PM) (Zu PM) (Zi PM) .none .none .none .none none .none .none),true),
 some (nrm (W.fnOf "move" "Orders.move" (ZA OJ) (Zu OJ) (Zi OJ) .none .none .none .none none .none .none),true),
 some (nrm (W.fnOf "aid" "Orders.aid" (ZA PO) (Zu PO) (Zi PO) .none .none .none .none none .none .none),true),
 some (nrm (W.fnOf "_law_give" "_law_give" (ZA PY) (Zu PY) (Zi PY) .none .none .none .none none .none .none),true),
 some (nrm (W.fnOf "_law_given" "_law_given" (ZA Oj) (Zu Oj) (Zi Oj) .none .none .none .none none .none .none),true),
 some (nrm (W.fnOf "goal_of" "Orders.goal_of" (ZA Pc) (Zu Pc) (Zi Pc) .none .none .none .none none .none .none),true),
 some (nrm (W.fnOf "movers" "Orders.movers" (ZA Pu) (Zu Pu) (Zi Pu) .none .none .none .none none .none .none),true),
 some (nrm (W.fnOf "roll" "Board.roll" (ZA OC) (Zu OC) (Zi OC) .none .none .none .none none .none .none),true),
 some (nrm (W.fnOf "told" "Orders.told" (ZA OH) (Zu OH) (Zi OH) .none .none .none .none none .none .none),true),
 some (nrm (W.fnOf "is_cut" "is_cut" (ZA Q5) (Zu Q5) (Zi Q5) .none .none .none .none none .none .none),true),
 some (nrm (W.fnOf "fits" "fits" (ZA Ov) (Zu Ov) (Zi Ov) .none .none .none .none none .none .none),true),
 some (nrm (W.fnOf "counts" "counts" (ZA OG) (Zu OG) (Zi OG) .none .none .none .none none .none .none),true),
 some (nrm (W.fnOf "backs" "backs" (ZA PU) (Zu PU) (Zi PU) .none .none .none .none none .none .none),true),
 some (nrm (W.fnOf "backing" "backing" (ZA Pf) (Zu Pf) (Zi Pf) .none .none .none .none none .none .none),true),
 some (nrm (W.fnOf "force" "force" (ZA Oa) (Zu Oa) (Zi Oa) .none .none .none .none none .none .none),true),
 some (nrm (W.fnOf "weigh_movers" "weigh_movers" (ZA Oc) (Zu Oc) (Zi Oc) .none .none .none .none none .none .none),true),
 some (nrm (W.fnOf "is_outdone" "is_outdone" (ZA Oy) (Zu Oy) (Zi Oy) .none .none .none .none none .none .none),true),
 some (nrm (W.fnOf "force_against" "force_against" (ZA Pb) (Zu Pb) (Zi Pb) .none .none .none .none none .none .none),true),
 some (nrm (W.fnOf "overcomes" "overcomes" (ZA PH) (Zu PH) (Zi PH) .none .none .none .none none .none .none),true),
 some (nrm (W.fnOf "firmness" "firmness" (ZA Py) (Zu Py) (Zi Py) .none .none .none .none none .none .none),true),
 some (nrm (W.fnOf "hindrance" "hindrance" (ZA Pi) (Zu Pi) (Zi Pi) .none .none .none .none none .none .none),true),
 some (nrm (W.fnOf "hindrances" "hindrances" (ZA Q9) (Zu Q9) (Zi Q9) .none .none .none .none none .none .none),true),
 some (nrm (W.fnOf "fault" "fault" (ZA P4) (Zu P4) (Zi P4) .none .none .none .none none .none .none),true),
 some (nrm (W.fnOf "strikes" "strikes" (ZA Om) (Zu Om) (Zi Om) .none .none .none .none none .none .none),true),
 some (nrm (W.fnOf "settled" "settled" (ZA Q3) (Zu Q3) (Zi Q3) .none .none .none .none none .none .none),true),
 some (nrm (W.fnOf "_law_whole" "_law_whole" (ZA Oi) (Zu Oi) (Zi Oi) .none .none .none .none none .none .none),true),
 some (nrm (W.fnOf "_law_rising" "_law_rising" (ZA Of) (Zu Of) (Zi Of) .none .none .none .none none .none .none),true),
 some (nrm (W.fnOf "_law_cut" "_law_cut" (ZA Po) (Zu Po) (Zi Po) .none .none .none .none none .none .none),true),
 some (nrm (W.fnOf "_law_counts" "_law_counts" (ZA P9) (Zu P9) (Zi P9) .none .none .none .none none .none .none),true),
 some (nrm (W.fnOf "_law_strong" "_law_strong" (ZA PZ) (Zu PZ) (Zi PZ) .none .none .none .none none .none .none),true),
 some (nrm (W.fnOf "_law_firm" "_law_firm" (ZA Q6) (Zu Q6) (Zi Q6) .none .none .none .none none .none .none),true),
 some (nrm (W.fnOf "_law_flaw" "_law_flaw" (ZA OE) (Zu OE) (Zi OE) .none .none .none .none none .none .none),true),
 some (nrm (W.fnOf "_law_walked" "_law_walked" (ZA P7) (Zu P7) (Zi P7) .none .none .none .none none .none .none),true),
 some (nrm (W.fnOf "_law_right" "_law_right" (ZA PL) (Zu PL) (Zi PL) .none .none .none .none none .none .none),true),
 some (nrm (W.fnOf "law" "law" (ZA Pj) (Zu Pj) (Zi Pj) .none .none .none .none none .none .none),true)]
def Aw (K:W.Frag):List (Option Int):=[Kc (W.nsIn K mainGlobals "FACED"),
 Kc (W.nsIn K mainGlobals "FREE"),
 Kc (W.nsIn K mainGlobals "HELD"),
 Kc (W.nsIn K mainGlobals "LAST_SIDE"),
 Kc (W.nsIn K mainGlobals "RIVAL")]
def Ay:List (Option Int):=[some 2,
 some 0,
 some 3,
 some 7,
 some 1]
def AS (K:W.Frag):List (Option (String × Str)):=[Cs K 298]
def B5:List (Option (String × Str)):=[some ("tuple","stand")]
def AZ (K:W.Frag):List (List (Option Bool)):=[RL.map (fun s=>W.kitOne K (.type s) (.type "bool")),
 RL.map (fun s=>W.kitOne K (.type s) (.type "int")),
 RL.map (fun s=>W.kitOne K (.type s) (.type "list"))]
def Au:List (List (Option Bool)):=[[some false,some true,some false,some false,some false,some false,some false],
 [some false,some true,some true,some false,some false,some false,some false],
 [some false,some false,some false,some false,some true,some false,some false]]
def B6 (K:W.Frag):List (Option Bool):=[]
def A0:List (Option Bool):=[]
abbrev OT:Type:=List (Option (Option Value)) × List Bool × List (Option (FuncData × Bool)) × List (Option Int) × List (Option (String × Str)) × List (List (Option Bool)) × List (Option Bool)
def MO (K:W.Frag):OT:=(Ci K,CN K,Bt K,Aw K,AS K,AZ K,B6 K)
def Hi:OT:=(BO,Ba,Cm,Ay,B5,Au,A0)
def GK (K:W.Frag):Prop:=Ci K=BO∧CN K=Ba∧Bt K=Cm∧Aw K=Ay∧AS K=B5∧AZ K=Au∧B6 K=A0
theorem BZ {K:W.Frag} (h:MO K=Hi):GK K:=by
 unfold MO Hi at h
 simp only[Prod.mk.injEq]at h
 exact h
def asK:List Addr:=[2,3,15,17,18,20,21,22,25,26,27,29,30,32,33,34,36,37,39,40,41,43,44,46,47,48,51,52,53,55,56,58,59,60,63,64,65,67,68,70,71,72,74,75,77,78,79,82,83,84,86,87,89,90,91,93,94,96,97,98,100,101,103,104,105,107,108,110,111,112,115,116,117,120,121,122,129,130,131,132,135,142,143,144,147,154,155,156,159,166,167,168,171,178,179,180,183,190,191,192,202,204,205,207,208,209,211,212,214,215,216,218,219,221,222,223,225,226,228,229,230,232,233,235,236,237,239,240,242,243,244,245,246,247,248,258,260,261,263,264,265,267,268,270,271,272,274,275,277,278,279,281,282,284,285,286,289,290,291,292,293,294,295,298,306,308,309,311,312,313,315,316,318,319,320,322,323,325,326,327,329,330,332,333,334,336,337,339,340,341,344,345,346,348,349,351,352,353,355,356,358,359,360,362,363,365,366,367,368,369,370,371,374,376,377,379,380,381,383,384,386,387,388,390,391,393,394,395,398,399,400,402,403,405,406,407,410,411,412,415,416,417,419,420,422,423,424,426,427,429,430,431,433,434,436,437,438,440,441,443,444,445,447,448,450,451,452,454,455,457,458,459,461,462,464,465,466,468,469,471,472,473,475,476,478,479,480,482,483,485,486,487,490,491,492,495,496,497,500,501]
def hook:W.Hook:=⟨OT,fun s=>MO (Uj asK s.heap),fun _=>Hi,fun _ h=>∃K:W.Frag,K.In h∧GK K,fun _ s e=>⟨_,Q1 s.heap asK,BZ e⟩,fun _ _ _ ⟨K,x,g⟩ k=>⟨K,W.Frag.In.keeps x k,g⟩⟩
def view:Program:={ PySem.Challenge.pw_atonce_k10_whole_settled_stands with main:={ PySem.Challenge.pw_atonce_k10_whole_settled_stands.main with body:=[top 0,top 2,top 3,top 4,top 5,top 6,top 7,top 8,top 9,top 11,top 12,top 13,top 14,top 15,top 16,top 17,top 18,top 19,top 20,top 21,top 22,top 24,top 25,top 26,top 27,top 28,top 29,top 31,top 32,top 34,top 36,top 37,top 39,top 40,top 41,top 42,top 43,top 44,top 45,top 46,top 47,top 48,top 49,top 50,top 51,top 52,top 53,top 54,top 55,top 56,top 57,top 58] } }
theorem Rt {α β γ:Type} {x:Option α} {f:α->β} {g:α->γ} {a:β} {b:γ} (h1:x.map f=some a) (h2:x.map g=some b):x.map (fun s=>(f s,g s))=some (a,b):=by
 cases x with
 |none=>cases h1
 |some v=>simp only[Option.map_some,Option.some.injEq]at h1 h2 ⊢; rw[h1,h2]
def Xt (s:Shared):Bool:=W.xlAt view [] s&&W.recOk (W.RowW.records PySem.Challenge.rw_atonce_k10_whole_settled_stands.row.toRowW) s
def rT (tb:String->Option Builtin) (q:Program) (v:World) (m:Nat) (an:Option Value):Nat->W.SharedT->Thread->Option W.SharedT
 |0,_,_=>none
 |i+1,x,y=>match W.through y with
  |true=>some x
  |false=>match W.stepOk m an y with
   |false=>none
   |true=>match W.stepT (denote tb) q v x y with
    |some (x',y')=>rT tb q v m an i x' y'
    |none=>none
theorem DG {tb:String->Option Builtin} {q:Program} {v:World} {m:Nat} {an:Option Value}:∀{i:Nat} {x x':W.SharedT} {y:Thread},rT tb q v m an i x y=some x'->W.topRun tb q v m an i x.abs y=some x'.abs
 |0,_,_,_,h=>by cases h
 |i+1,x,x',y,h=>by
  unfold rT at h
  unfold W.topRun
  cases ht:W.through y with
  |true=>rw[ht]at h; cases h; rfl
  |false =>
   rw[ht]at h
   cases hk:W.stepOk m an y with
   |false=>rw[hk]at h; cases h
   |true =>
    rw[hk]at h
    cases hs:W.stepT (denote tb) q v x y with
    |none=>rw[hs]at h; cases h
    |some r=>obtain ⟨x2,y2⟩:=r; rw[hs]at h; rw[W.stepT_spec hs]; exact DG h
def KL:List Obj->Nat->W.BT->Option W.BT
 |[],_,t=>some t
 |o::l,n,t=>match ((t.ins n o).get n).isSome with
  |true=>KL l (n+1) (t.ins n o)
  |false=>none
theorem MH {lf:Life}:∀{l:List Obj} {n:Nat} {t t':W.BT},KL l n t=some t'->(W.absHeap t' (n+l.length) lf).objs.toList=(W.absHeap t n lf).objs.toList++l
 |[],n,t,t',h=>by cases h; simp
 |o::l,n,t,t',h=>by
  unfold KL at h
  split at h
  ·rename_i e
   have ih:=MH (lf:=lf) h
   rw[W.absHeap_ins e]at ih
   have:n+(o::l).length=n+1+l.length:=by simp; omega
   rw[this,ih]
   show ((W.absHeap t n lf).objs.push o).toList++l=_
   simp
  ·cases h
def goT (q:Program) (v:World) (m:Nat) (an:Option Value) (i:Nat) (os:OsState):Option W.SharedT :=
 (KL (W.boot_heap v.params).objs.toList 0 .nil).bind fun t=>rT treeTable q v m an i ⟨t,m,(W.boot_heap v.params).life,Array.mk [],W.boot_drawn,W.boot_toks,os⟩ (W.topStub q)
def okT (q:Program) (v:World) (s:Shared):Bool:=W.staticsOk (PySem.importedModules q.main.body) (W.boot_heap v.params) s.heap&&W.namesBound q s.heap&&W.gensDone s&&W.laidKept (W.boot_heap v.params) s.heap
theorem Ar {p q:Program} {loose:List Str} {Xt:Shared->Bool} {α:Type} {Yf:Shared->α} {Ya:World->α} {N m:Nat} {an:Option Value}
    (e:W.opening p=W.plainProg p.main.scope.names) (hN:Nat.ble 600 N=true) (f:∀s,fenceModules? p s=some s)
    (z:∀w:World,((W.boot_heap w.params).isNs mainGlobals,(W.boot_heap w.params).objs.toList.length,(W.boot_heap w.params).nsMap mainGlobals "__annotations__")=(true,m,an))
    (run:∀(w:World) (os:OsState),(goT p w m an N os).map (fun x=>(okT p w x.abs,W.openSeen q loose (PySem.importedModules p.main.body) Xt true x.abs,Yf x.abs))=some (true,W.openGood q loose,Ya w)) :
    W.LeftO p q loose Xt Yf Ya N:=fun w=>by
 obtain ⟨⟨h,gs,d,k,os⟩,o,o'⟩:=Option.map_eq_some_iff.mp (W.boot_open e hN f w)
 obtain ⟨rfl,rfl,rfl,rfl⟩:h=W.boot_heap w.params∧gs=Array.mk []∧d=W.boot_drawn∧k=W.boot_toks:=by simpa using o'
 obtain ⟨z1,z2,z3⟩:_∧_∧_:=by simpa only [Prod.mk.injEq] using z w
 obtain ⟨x,hx,hv⟩:=Option.map_eq_some_iff.mp (run w os)
 obtain ⟨l1,l2,l3⟩:_∧_∧_:=by simpa only [Prod.mk.injEq] using hv
 obtain ⟨t,ht,hr⟩:=Option.bind_eq_some_iff.mp hx
 have r:=DG hr
 have hp:=MH (lf:=(W.boot_heap w.params).life) ht
 rw[z2,Nat.zero_add]at hp
 have ha:W.absHeap t m (W.boot_heap w.params).life=W.boot_heap w.params:=by
  have:(W.absHeap t m (W.boot_heap w.params).life).objs=(W.boot_heap w.params).objs:=Array.toList_inj.mp (by rw[hp]; simp[W.absHeap,W.BT.list])
  exact congrArg (fun o=>Heap.mk o (W.boot_heap w.params).life) this
 have hs:(W.boot_heap w.params).objs.size=m:=by rw[← z2]; simp
 unfold W.SharedT.abs at r
 dsimp only at r
 rw[ha]at r
 have tt:W.topFrom treeTable p w N ⟨W.boot_heap w.params,Array.mk [],W.boot_drawn,W.boot_toks,os⟩=some x.abs:=by
  unfold W.topFrom
  dsimp only
  rw[z1,z3,hs,r]
  show (match okT p w x.abs with|true=>some x.abs|false=>none)=_
  rw[l1]
 unfold W.openEnds
 rw[o]
 show (W.topFrom treeTable p w N _).map _=_
 rw[tt]
 exact congrArg some (Prod.ext l2 l3)
def C5 (t:W.BT) (n a:Nat):Option Obj:=match Nat.blt a n with
 |true=>W.alive ((t.get a).getD default)
 |false=>none
theorem Fj (t:W.BT) (n:Nat) (lf:Life) (a:Nat):(W.absHeap t n lf).get? a=C5 t n a:=by
 unfold C5
 by_cases h:a < n
 ·have:Nat.blt a n=true:=by simpa [Nat.blt_eq] using h
  rw[this]
  unfold Heap.get?
  rw[W.absHeap_at,if_pos h]
  generalize (t.get a).getD default=o
  show (match some o with|some ⟨_,_,.freed,_⟩=>none|o=>o)=W.alive o
  obtain ⟨c,d,dt,sl⟩:=o
  cases dt <;> rfl
 ·have:Nat.blt a n=false:=by
   cases hb:Nat.blt a n with
   |false=>rfl
   |true=>exact absurd (by simpa [Nat.blt_eq] using hb) h
  rw[this,W.abs_get_none h]
def Ks (as:List Addr) (t:W.BT) (n:Nat):W.Frag:=as.filterMap fun a=>(C5 t n a).map fun o=>(a,o)
theorem JT (as:List Addr) (t:W.BT) (n:Nat) (lf:Life):Uj as (W.absHeap t n lf)=Ks as t n:=by
 unfold Uj Ks
 simp only[Fj]
theorem z_ok (w:World):((W.boot_heap w.params).isNs mainGlobals,(W.boot_heap w.params).objs.toList.length,(W.boot_heap w.params).nsMap mainGlobals "__annotations__")=(true,11,(some (.ref 6))):=by kernel_rfl
set_option maxRecDepth 100000 in
set_option maxHeartbeats 0 in
theorem As (w:World) (os:OsState):Option.map (fun x=>okT PySem.Challenge.pw_atonce_k10_whole_settled_stands w x.abs) (goT PySem.Challenge.pw_atonce_k10_whole_settled_stands w 11 (some (.ref 6)) 7506 os)=some true:=by kernel_rfl
set_option maxRecDepth 100000 in
set_option maxHeartbeats 0 in
theorem AJ (w:World) (os:OsState):Option.map (fun x=>(W.openSeen view [] (PySem.importedModules PySem.Challenge.pw_atonce_k10_whole_settled_stands.main.body) Xt true x.abs).1) (goT PySem.Challenge.pw_atonce_k10_whole_settled_stands w 11 (some (.ref 6)) 7506 os)=some (W.openGood view []).1:=by kernel_rfl
set_option maxRecDepth 100000 in
set_option maxHeartbeats 0 in
theorem Af (w:World) (os:OsState):Option.map (fun x=>(W.openSeen view [] (PySem.importedModules PySem.Challenge.pw_atonce_k10_whole_settled_stands.main.body) Xt true x.abs).2) (goT PySem.Challenge.pw_atonce_k10_whole_settled_stands w 11 (some (.ref 6)) 7506 os)=some (W.openGood view []).2:=by kernel_rfl
set_option maxRecDepth 100000 in
set_option maxHeartbeats 0 in
theorem Ai (w:World) (os:OsState):Option.map (fun x=>MO (Ks asK x.tree x.n)) (goT PySem.Challenge.pw_atonce_k10_whole_settled_stands w 11 (some (.ref 6)) 7506 os)=some Hi:=by kernel_rfl
theorem FR:(fun x:W.SharedT=>MO (Ks asK x.tree x.n))=fun x=>MO (Uj asK x.abs.heap):=funext fun x=>congrArg MO (JT asK x.tree x.n x.life).symm
theorem AT (w:World) (os:OsState):Option.map (fun x=>MO (Uj asK x.abs.heap)) (goT PySem.Challenge.pw_atonce_k10_whole_settled_stands w 11 (some (.ref 6)) 7506 os)=some Hi:=FR ▸ Ai w os
theorem run:W.LeftO PySem.Challenge.pw_atonce_k10_whole_settled_stands view [] Xt (W.Hook.obs hook) (W.Hook.val hook) 7506:=Ar (by kernel_rfl) (by decide) (fun _=>rfl) z_ok fun w os=>Rt (As w os) (Rt (Rt (AJ w os) (Af w os)) (AT w os))
end
end MP
namespace L2
open PySem PySem.Spec PyProof.Rows
abbrev Key:=Sum Int Str
def RT:Key->Value->Bool
 |.inl k,v=>Value.isInt k v
 |.inr x,v=>Value.isStrOf x v
def keyH (w:World):Key->Int
 |.inl k=>hashInt k
 |.inr x=>hashStr w x
theorem YH:∀{k:Key} {v:Value},RT k v=true->(∃i t,k=Sum.inl i∧v=Value.int i t)∨(∃x t,k=Sum.inr x∧v=Value.str x t)
 |.inl i,v,h=>by
  obtain ⟨t,e⟩:=Value.isInt_shape (k:=i) (v:=v) h
  exact .inl ⟨i,t,rfl,e⟩
 |.inr x,v,h=>by
  obtain ⟨t,e⟩:=Value.isStrOf_shape (x:=x) (v:=v) h
  exact .inr ⟨x,t,rfl,e⟩
theorem JI (i:Int) (t:Tok):RT (.inl i) (.int i t)=true:=by simp[RT,Value.isInt]
theorem Ir (x:Str) (t:Tok):RT (.inr x) (.str x t)=true:=by simp[RT,Value.isStrOf]
theorem Cd (a b:Int):decide ((Sum.inl a:Key)=Sum.inl b)=(a == b):=by
 by_cases e:a=b
 ·subst e; simp
 ·have h:¬ (Sum.inl a:Key)=Sum.inl b:=fun q=>e (Sum.inl.inj q)
  rw[decide_eq_false h]
  exact (beq_eq_false_iff_ne.mpr e).symm
theorem C7 (a b:Str):decide ((Sum.inr a:Key)=Sum.inr b)=decide (a=b):=by
 by_cases e:a=b
 ·subst e; simp
 ·have h:¬ (Sum.inr a:Key)=Sum.inr b:=fun q=>e (Sum.inr.inj q)
  rw[decide_eq_false h,decide_eq_false e]
theorem Cq (a:Int) (b:Str):decide ((Sum.inl a:Key)=Sum.inr b)=false:=decide_eq_false (fun q=>nomatch q)
theorem Cl (a:Str) (b:Int):decide ((Sum.inr a:Key)=Sum.inl b)=false:=decide_eq_false (fun q=>nomatch q)
def Yi (prog:Program) (w:World):PySem.KeyKind prog w Key where
 is:=RT
 hash:=keyH w
 inj:=fun v a b ha hb=>by
  rcases YH ha with ⟨i,t,rfl,rfl⟩|⟨x,t,rfl,rfl⟩
  ·rcases YH hb with ⟨j,u,rfl,e⟩|⟨y,u,rfl,e⟩
   ·injection e with e1 _; rw[e1]
   ·exact nomatch e
  ·rcases YH hb with ⟨j,u,rfl,e⟩|⟨y,u,rfl,e⟩
   ·exact nomatch e
   ·injection e with e1 _; rw[e1]
 byValue:=fun k v h=>by
  rcases YH h with ⟨i,t,rfl,rfl⟩|⟨x,t,rfl,rfl⟩ <;> rfl
 pyHash:=fun hv h=>by
  rcases YH hv with ⟨i,t,rfl,rfl⟩|⟨x,t,rfl,rfl⟩
  ·exact wpAny_pyHash_int h
  ·exact wpAny_pyHash_str h
 eqBool:=fun hu hv h=>by
  rcases YH hu with ⟨i,t,rfl,rfl⟩|⟨x,t,rfl,rfl⟩
  ·rcases YH hv with ⟨j,u,rfl,rfl⟩|⟨y,u,rfl,rfl⟩
   ·rw[Cd]at h; exact wpAny_eqBool_int h
   ·rw[Cq]at h; exact SeqAt.EqAt.int_str i t y u _ _ _ _ h
  ·rcases YH hv with ⟨j,u,rfl,rfl⟩|⟨y,u,rfl,rfl⟩
   ·rw[Cl]at h; exact SeqAt.EqAt.str_int x t j u _ _ _ _ h
   ·rw[C7]at h; exact wpAny_eqBool_str h
 «strs»:=fun k x t v h=>by
  rcases YH h with ⟨i,u,rfl,e⟩|⟨y,u,rfl,e⟩
  ·exact nomatch e
  ·injection e with e1 _
   subst e1
   cases v <;> rfl
theorem Me (prog:Program) (w:World) (i:Int) (t:Tok):(Yi prog w).is (.inl i) (.int i t)=true:=JI i t
theorem Mf (prog:Program) (w:World) (x:Str) (t:Tok):(Yi prog w).is (.inr x) (.str x t)=true:=Ir x t
open PySem PySem.Spec PyProof.Rows
inductive V where
 |non|bl (b:Bool)|int (i:Int)|str (x:Str)|byt (b:Array UInt8)|flt (b:UInt64)|ref (a:Addr)|ty (n:String)
 deriving DecidableEq
def RelV:V->Value->Prop
 |.non,u=>u=Value.none
 |.bl b,u=>u=Value.bool b
 |.int i,u=>∃t,u=Value.int i t
 |.str x,u=>∃t,u=Value.str x t
 |.byt b,u=>∃t,u=Value.bytes b t
 |.flt b,u=>∃t,u=Value.float b t
 |.ref a,u=>u=Value.ref a
 |.ty n,u=>u=Value.type n
abbrev Vals:List V->List Value->Prop:=Paired RelV
theorem Vals.length {xs:List V} {us:List Value} (r:Vals xs us):xs.length=us.length:=Paired.length r
theorem Vals.get:∀{xs:List V} {us:List Value} {i:Nat} {x:V},Vals xs us->xs[i]?=some x->∃u,us[i]?=some u∧RelV x u
 |_,_,_,_,.nil,e=>by simp at e
 |_,_,0,_,.cons r _,e=>by simp at e; subst e; exact ⟨_,rfl,r⟩
 |_,_,i+1,x,.cons _ t,e=>by
  obtain ⟨u,h1,h2⟩:=Vals.get (i:=i) (x:=x) t (by simpa using e)
  exact ⟨u,by simpa using h1,h2⟩
theorem Vals.set {x:V} {u:Value} (r:RelV x u):∀{xs:List V} {us:List Value} (i:Nat),Vals xs us->Vals (xs.set i x) (us.set i u)
 |_,_,_,.nil=>.nil
 |_,_,0,.cons _ t=>.cons r t
 |_,_,i+1,.cons q t=>.cons q (Vals.set r i t)
theorem Vals.append:∀{xs ys:List V} {us ws:List Value},Vals xs us->Vals ys ws->Vals (xs++ys) (us++ws)
 |_,_,_,_,.nil,s=>s
 |_,_,_,_,.cons r t,s=>.cons r (Vals.append t s)
theorem Vals.take:∀{xs:List V} {us:List Value} (n:Nat),Vals xs us->Vals (xs.take n) (us.take n)
 |_,_,0,_=>.nil
 |_,_,_+1,.nil=>.nil
 |_,_,n+1,.cons r t=>.cons r (Vals.take n t)
theorem Vals.drop:∀{xs:List V} {us:List Value} (n:Nat),Vals xs us->Vals (xs.drop n) (us.drop n)
 |_,_,0,r=>r
 |_,_,_+1,.nil=>.nil
 |_,_,n+1,.cons _ t=>Vals.drop n t
def RelO:Option V->Option Value->Prop
 |some v,some u=>RelV v u
 |none,none=>True
 |_,_=>False
def KV {κ:Type}:List (κ × V)->List (κ × Value)->Prop:=Paired fun (p:κ × V) (q:κ × Value)=>p.1=q.1∧RelV p.2 q.2
def kV:Key->V
 |.inl i=>.int i
 |.inr x=>.str x
inductive HO where
 |lst (xs:List V)
 |tup (xs:List V)
 |dK (kvs:List (Key × V))|dT (kvs:List (List Key × V))
 |set (S:Int->Bool) (n:Nat)
 |ins (C dx:Addr) (fs:List (Str × V))
 |own (x:Addr)
 |xd (fs:List (Str × V))
 |met (f x:Addr)
 |rng (lo hi:Int)
 |frz (o:Obj) (u:HO)
 |tbl (ps:Array Value)
 |ext (φ:Heap->Prop)
abbrev Hp:=Addr->Option HO
def upd (H:Hp) (a:Addr) (o:HO):Hp:=fun b=>if b=a then some o else H b
theorem ZH {H:Hp} {a:Addr} {o:HO}:upd H a o a=some o:=by unfold upd; rw[if_pos rfl]
theorem Zz {H:Hp} {a b:Addr} {o:HO} (h:b≠a):upd H a o b=H b:=by unfold upd; rw[if_neg h]
theorem Nb {H:Hp} {a:Addr} {o u:HO}:upd (upd H a o) a u=upd H a u:=by
 funext b; unfold upd; split <;> rfl
theorem AG {H:Hp} {a b:Addr} {o u:HO} (h:H a=some o) (h':H b=some u) (d:o≠u):a≠b:=by
 intro e; subst e; rw[h]at h'; exact d (Option.some.inj h')
theorem Z5 {H:Hp} {a b:Addr} {o:HO} (h:H a=some o) (h':H b=none):a≠b:=by
 intro e; subst e; rw[h]at h'; cases h'
section
variable (P:Program) (w:World)
def ObjOk (H:Hp) (h:Heap) (a:Addr):HO->Prop
 |.lst xs=>xs.length<=sizeLine∧∃(its:List Value) (n:Nat),Vals xs its∧h.get? a=some { cls:=.type "list",data:=.seq its.toArray n }
 |.tup xs=>xs.length<=sizeLine∧∃its:List Value,Vals xs its∧IsTup h a its.toArray
 |.dK kvs=>kvs.length<=sizeLine∧(a == sysModules)=false∧∃vs,KV kvs vs∧h.DictOf (Yi P w) a vs
 | .dT kvs => kvs.length <= sizeLine ∧ (a == sysModules) = false ∧ ∃ xs : List (List Key × Addr × Value),
     Paired (fun (p:List Key × V) (q:List Key × Addr × Value)=>p.1=q.1∧H q.2.1=some (.tup (p.1.map kV))∧RelV p.2 q.2.2) kvs xs ∧
     ∃o es ep,h.get? a=some o∧o.ExactDict∧o.data=.dict es ep∧es.toList=xs.map (entryOfKey (tupleKind (Yi P w)))∧(xs.map (·.1)).Nodup
 |.set S n=>h.SetOf (intKind P w) a S n
 | .ins C dx fs => H dx = some (.own a) ∧ fs.length <= 1000 ∧ dx ≠ a ∧ h.get? a = some (PySem.W.instObj C dx) ∧
     ∃mA,h.Ns1 dx mA∧(∀f,RelO (fs.lookup f) (mA f))∧PySem.Within mA (fs.map (·.1))
 |.own _=>∃o,h.get? a=some o
 |.xd fs=>∃mA,h.Ns1 a mA∧∀f,RelO (fs.lookup f) (mA f)
 |.rng lo hi=>∃t u v,h.get? a=some { cls:=.type "range",data:=.fields #[.int lo t,.int hi u,.int 1 v] }
 |.frz o u=>h.get? a=some o∧ObjOk H h a u
 |.tbl ps=>h.get? a=some { cls:=.none,data:=.fields ps }
 |.met f x=>h.get? a=some (PySem.W.methodObj (.ref f) (.ref x))
 |.ext φ=>φ h∧(∃o,h.get? a=some o)∧∀h1 h2:Heap,φ h1->(∀o,h1.get? a=some o->h2.get? a=some o)->φ h2
def HOk (H:Hp) (h:Heap):Prop:=∀a o,H a=some o->ObjOk P w H h a o
end
section
variable {P:Program} {w:World} {H H':Hp} {h h':Heap} {a:Addr} {o:HO}
theorem ObjOk.lt (x:ObjOk P w H h a o):a < h.objs.size:=by
 cases o with
 |lst xs=>obtain ⟨_,_,_,_,e⟩:=x; exact Heap.lt_size e
 |tup xs=>obtain ⟨_,_,_,p⟩:=x; exact p.lt
 |dK kvs=>obtain ⟨_,_,_,_,o,_,_,e,_⟩:=x; exact Heap.lt_size e
 |dT kvs=>obtain ⟨_,_,_,_,o,_,_,e,_⟩:=x; exact Heap.lt_size e
 |set S n=>obtain ⟨o,_,_,_,e,_⟩:=x; exact Heap.lt_size e
 |ins C dx fs=>obtain ⟨_,_,_,e,_⟩:=x; exact Heap.lt_size e
 |own y=>obtain ⟨_,e⟩:=x; exact Heap.lt_size e
 |xd fs=>obtain ⟨_,⟨_,_,_,e,_⟩,_⟩:=x; exact Heap.lt_size e
 |rng lo hi=>obtain ⟨_,_,_,e⟩:=x; exact Heap.lt_size e
 |frz ob u=>obtain ⟨e,_⟩:=x; exact Heap.lt_size e
 |tbl ps=>exact Heap.lt_size (show h.get? a=some _ from x)
 |met f y=>exact Heap.lt_size (show h.get? a=some _ from x)
 |ext φ=>obtain ⟨_,⟨_,e⟩,_⟩:=x; exact Heap.lt_size e
theorem Paired.mapP {α β:Type} {F G:α->β->Prop}:∀{l₁:List α} {l₂:List β},Paired F l₁ l₂->(∀a b,F a b->G a b)->Paired G l₁ l₂
 |_,_,.nil,_=>.nil
 |_,_,.cons r t,f=>.cons (f _ _ r) (Paired.mapP t f)
theorem ObjOk.stay (x:ObjOk P w H h a o) (k:∀b u,(b=a∨H b=some (.own a))->h.get? b=some u->h'.get? b=some u)
    (ho:∀b,H b=some (.own a)->H' b=some (.own a)) (ht:∀b xs,H b=some (.tup xs)->H' b=some (.tup xs)):ObjOk P w H' h' a o:=by
 induction o with
 |lst xs=>obtain ⟨z,its,n,r,e⟩:=x; exact ⟨z,its,n,r,k _ _ (.inl rfl) e⟩
 |tup xs=>obtain ⟨z,its,r,ob,e,c⟩:=x; exact ⟨z,its,r,ob,k _ _ (.inl rfl) e,c⟩
 |dK kvs=>obtain ⟨z,y,vs,r,ob,es,ep,e,c⟩:=x; exact ⟨z,y,vs,r,ob,es,ep,k _ _ (.inl rfl) e,c⟩
 |dT kvs =>
  obtain ⟨z,y,xs,r,ob,es,ep,e,c⟩:=x
  exact ⟨z,y,xs,Paired.mapP r fun p q z=>⟨z.1,ht _ _ z.2.1,z.2.2⟩,ob,es,ep,k _ _ (.inl rfl) e,c⟩
 |set S n=>obtain ⟨ob,es,ep,t,e,c⟩:=x; exact ⟨ob,es,ep,t,k _ _ (.inl rfl) e,c⟩
 |ins C dx fs =>
  obtain ⟨d,z,ne,e,mA,⟨od,es,ep,e2,c⟩,r⟩:=x
  exact ⟨ho _ d,z,ne,k _ _ (.inl rfl) e,mA,⟨od,es,ep,k _ _ (.inr d) e2,c⟩,r⟩
 |own y=>obtain ⟨ob,e⟩:=x; exact ⟨ob,k _ _ (.inl rfl) e⟩
 |xd fs=>obtain ⟨mA,⟨od,es,ep,e,c⟩,r⟩:=x; exact ⟨mA,⟨od,es,ep,k _ _ (.inl rfl) e,c⟩,r⟩
 |rng lo hi=>obtain ⟨t,u,v,e⟩:=x; exact ⟨t,u,v,k _ _ (.inl rfl) e⟩
 |frz ob u ih=>obtain ⟨e,q⟩:=x; exact ⟨k _ _ (.inl rfl) e,ih q⟩
 |tbl ps =>
  have e:h.get? a=some { cls:=.none,data:=.fields ps }:=x
  show h'.get? a=some { cls:=.none,data:=.fields ps }
  exact k a _ (.inl rfl) e
 |met f y =>
  have e:h.get? a=some (PySem.W.methodObj (.ref f) (.ref y)):=x
  show h'.get? a=some (PySem.W.methodObj (.ref f) (.ref y))
  exact k a _ (.inl rfl) e
 |ext φ=>obtain ⟨p,⟨o,e⟩,st⟩:=x; exact ⟨st _ _ p fun o q=>k _ _ (.inl rfl) q,⟨o,k _ _ (.inl rfl) e⟩,st⟩
theorem HOk.lt (x:HOk P w H h) (e:H a=some o):a < h.objs.size:=(x a o e).lt
theorem HOk.fresh (x:HOk P w H h) (e:h.objs.size<=a):H a=none:=by
 cases q:H a with
 |none=>rfl
 |some u=>exact absurd (Nat.lt_of_lt_of_le (x.lt q) e) (Nat.lt_irrefl _)
theorem HOk.kept (x:HOk P w H h) (k:∀b u,h.get? b=some u->h'.get? b=some u):HOk P w H h':=fun a o e =>
 (x a o e).stay (fun b u _ q=>k b u q) (fun _ q=>q) fun _ _ q=>q
theorem HOk.laid (x:HOk P w H h) (k:∀b u,h.get? b=some u->h'.get? b=some u) (hp:h.objs.size<=a) (new:ObjOk P w (upd H a o) h' a o):HOk P w (upd H a o) h':=fun b u e=>by
 have hn:=x.fresh hp
 by_cases hb:b=a
 ·subst hb; rw[ZH]at e; cases e; exact new
 ·rw[Zz hb]at e
  exact (x b u e).stay (fun c v _ q=>k c v q) (fun c q=>by rw[Zz (Z5 q hn)]; exact q) fun c xs q=>by rw[Zz (Z5 q hn)]; exact q
end
def Rd (H:Hp) (a:Addr) (u:HO):Prop:=H a=some u∨∃o,H a=some (.frz o u)
theorem Rd.of {H:Hp} {a:Addr} {u:HO} (h:H a=some u):Rd H a u:=.inl h
theorem Rd.ok {P:Program} {w:World} {H:Hp} {h:Heap} {a:Addr} {u:HO} (r:Rd H a u) (x:HOk P w H h):ObjOk P w H h a u:=by
 rcases r with r|⟨o,r⟩
 ·exact x a u r
 ·obtain ⟨_,q⟩:=x a _ r
  exact q
def Mut:Option HO->Prop
 |some (.lst _)=>True
 |some (.dK _)=>True
 |some (.dT _)=>True
 |some (.set _ _)=>True
 |some (.ins _ _ _)=>True
 |some (.ext _)=>True
 |_=>False
section
variable {P:Program} {w:World} {H:Hp} {h h':Heap} {x e:Addr} {o':HO}
theorem HOk.write (ok:HOk P w H h) (mu:Mut (H x)) (he:e=x∨H e=some (.own x)) (k:∀b u,b≠e->h.get? b=some u->h'.get? b=some u) (heo:∃u,h'.get? e=some u)
    (new:ObjOk P w (upd H x o') h' x o'):HOk P w (upd H x o') h':=fun b u q=>by
 have nown:∀c y,H c=some (.own y)->c≠x:=fun c y r z=>by subst z; rw[r]at mu; exact mu
 have ntup:∀c xs,H c=some (.tup xs)->c≠x:=fun c xs r z=>by subst z; rw[r]at mu; exact mu
 by_cases hb:b=x
 ·subst hb; rw[ZH]at q; cases q; exact new
 ·rw[Zz hb]at q
  by_cases hbe:b=e
  ·have q':H b=some (.own x):=by
    rcases he with z|z
    ·exact absurd (hbe.trans z) hb
    ·rw[hbe]; exact z
   rw[q]at q'; cases q'
   obtain ⟨v,hv⟩:=heo
   exact ⟨v,by rw[hbe]; exact hv⟩
  ·refine (ok b u q).stay (fun c v hc r=>k c v ?_ r) (fun c r=>by rw[Zz (nown c b r)]; exact r) fun c xs r=>by rw[Zz (ntup c xs r)]; exact r
   rcases hc with rfl|hc
   ·exact hbe
   ·rintro rfl
    rcases he with z|z
    ·exact nown c b hc z
    ·rw[hc]at z; cases z; exact hb rfl
end
structure Un (fs ex:List Addr) (H H':Hp) (h h':Heap):Prop where
 keep:∀b o,h.get? b=some o->H b=none->b ∉ fs->b ∉ ex->h'.get? b=some o
 slot:∀b o,h.get? b=some o->H b=none->b∈fs->b ∉ ex->∃sl,h'.get? b=some { o with slots:=sl }
 free:∀b o,h.get? b=some o->H b=none->b ∉ ex->H' b=none
 there:∀b o,h.get? b=some o->b ∉ ex->∃o',h'.get? b=some o'
 tups:∀b xs,H b=some (.tup xs)->H' b=some (.tup xs)
 frzs:∀b o u,H b=some (.frz o u)->H' b=some (.frz o u)
 tbls:∀b ps,H b=some (.tbl ps)->∃more,H' b=some (.tbl (ps++more))
section
variable {fs fs' ex ex':List Addr} {H H1 H2:Hp} {h h1 h2 h':Heap} {a x e:Addr} {o:HO}
theorem Un.any (u:Un fs ex H H1 h h1) {b:Addr} {ob:Obj} (q:h.get? b=some ob) (n:H b=none) (hx:b ∉ ex):∃sl,h1.get? b=some { ob with slots:=sl }:=by
 by_cases hb:b∈fs
 ·exact u.slot b ob q n hb hx
 ·exact ⟨ob.slots,u.keep b ob q n hb hx⟩
theorem Un.trans (a:Un fs ex H H1 h h1) (b:Un fs ex H1 H2 h1 h2):Un fs ex H H2 h h2 where
 keep:=fun c ob q n hc hx=>b.keep c ob (a.keep c ob q n hc hx) (a.free c ob q n hx) hc hx
 slot:=fun c ob q n hc hx=>by
  obtain ⟨sl,e1⟩:=a.slot c ob q n hc hx
  obtain ⟨sl',e2⟩:=b.slot c _ e1 (a.free c ob q n hx) hc hx
  exact ⟨sl',e2⟩
 free:=fun c ob q n hx=>by
  obtain ⟨o',e1⟩:=a.there c ob q hx
  exact b.free c o' e1 (a.free c ob q n hx) hx
 there:=fun c ob q hx=>by
  obtain ⟨o',e1⟩:=a.there c ob q hx
  exact b.there c o' e1 hx
 tups:=fun c xs q=>b.tups c xs (a.tups c xs q)
 frzs:=fun c ob xs q=>b.frzs c ob xs (a.frzs c ob xs q)
 tbls:=fun c ps q=>by
  obtain ⟨m1,e1⟩:=a.tbls c ps q
  obtain ⟨m2,e2⟩:=b.tbls c _ e1
  exact ⟨m1++m2,by rw[e2,Array.append_assoc]⟩
theorem Un.kept (k:∀b u,h.get? b=some u->h'.get? b=some u):Un fs ex H H h h' :=
 ⟨fun b ob q _ _ _=>k b ob q,fun b ob q _ _ _=>⟨ob.slots,k b ob q⟩,fun _ _ _ n _=>n,fun b ob q _=>⟨ob,k b ob q⟩,fun _ _ q=>q,fun _ _ _ q=>q,fun _ ps q=>⟨#[],by rw[q]; simp⟩⟩
theorem Un.refl:Un fs ex H H h h:=Un.kept fun _ _ q=>q
theorem Un.laid (k:∀b u,h.get? b=some u->h'.get? b=some u) (hp:h.objs.size<=a) (hn:H a=none):Un fs ex H (upd H a o) h h' where
 keep:=fun b u q _ _ _=>k b u q
 slot:=fun b u q _ _ _=>⟨u.slots,k b u q⟩
 free:=fun b u q n _=>by rw[Zz (Nat.ne_of_lt (Nat.lt_of_lt_of_le (Heap.lt_size q) hp))]; exact n
 there:=fun b u q _=>⟨u,k b u q⟩
 tups:=fun b xs q=>by rw[Zz (Z5 q hn)]; exact q
 frzs:=fun b u xs q=>by rw[Zz (Z5 q hn)]; exact q
 tbls:=fun b ps q=>⟨#[],by rw[Zz (Z5 q hn),q]; simp⟩
theorem Un.write (mu:Mut (H x)) (he:e=x∨H e=some (.own x)) (k:∀b u,b≠e->h.get? b=some u->h'.get? b=some u) (heo:∃u,h'.get? e=some u):Un fs ex H (upd H x o) h h':=by
 have hx:∀b,H b=none->b≠x:=fun b n z=>by subst z; rw[n]at mu; exact mu
 have hb:∀b,H b=none->b≠e:=fun b n z=>by
  subst z
  rcases he with r|r
  ·exact hx b n r
  ·rw[n]at r; cases r
 have hm:∀b u,H b=some u->¬ Mut (some u)->b≠x:=fun b u q nm z=>by subst z; rw[q]at mu; exact nm mu
 refine ⟨fun b u q n _ _=>k b u (hb b n) q,fun b u q n _ _=>⟨u.slots,k b u (hb b n) q⟩,fun b u q n _=>by rw[Zz (hx b n)]; exact n,fun b u q _=>?_,
  fun b xs q=>by rw[Zz (hm b _ q fun z=>z)]; exact q,fun b u xs q=>by rw[Zz (hm b _ q fun z=>z)]; exact q,fun b ps q=>⟨#[],by rw[Zz (hm b _ q fun z=>z),q]; simp⟩⟩
 by_cases hbe:b=e
 ·subst hbe; exact heo
 ·exact ⟨u,k b u hbe q⟩
end
def trk (h:Heap) (H:Hp):List Addr:=(List.range h.objs.size).filter fun a=>(H a).isSome
def NJ (h:Heap) (H:Hp):Heap:=PySem.W.hideAll h (trk h H)
theorem J7 (h:Heap) (H:Hp):(NJ h H).objs.size=h.objs.size:=PySem.W.hideAll_size _ _
theorem GZ {h:Heap} {H:Hp} {b:Addr} {o:Obj} (e:h.get? b=some o) (n:H b=none):(NJ h H).get? b=some o :=
 PySem.W.hideAll_get _ e fun hm=>by
  have q:(H b).isSome=true:=(List.mem_filter.mp hm).2
  rw[n]at q; simp at q
theorem FH {h:Heap} {H:Hp} {b:Addr} {o:Obj} (e:(NJ h H).get? b=some o):h.get? b=some o∧H b=none:=by
 have e':h.get? b=some o:=PySem.W.of_hideAll (trk h H) e
 refine ⟨e',?_⟩
 cases q:H b with
 |none=>rfl
 |some x =>
  have hm:b∈trk h H:=List.mem_filter.mpr ⟨List.mem_range.mpr (Heap.lt_size e'),by simp[q]⟩
  have z:(NJ h H).get? b=none:=PySem.W.hideAll_none (trk h H) hm
  rw[z]at e; cases e
open PySem PySem.Spec PyProof.Rows
structure Mod (K:PySem.W.Frag) (mg:Str->Option Value) (base:Heap):Prop where
 kin:K.In base
 glob:base.Ns mainGlobals mg
 blt:∃mb,base.Ns builtinsNs mb∧∀x:Str,x≠"__name__"->mb x=bootBuiltins x
 nolimit:base.NoLimit
structure Cx where
 prog:Program
 w:World
 K:PySem.W.Frag
 mg:Str->Option Value
 base:Heap
 A:Around
 N:List Str
 s₀:Shared
 H₀:Hp
 env:Env
 outer:List Env
 stack:List Env
 ex:List Addr
 fn:Str->Bool
 calm:Bool
 pn:List (Addr × Obj)
 xe:Value->Shared->Prop
def frs (l:List Env):List Addr:=l.filterMap (·.frame)
abbrev Cx.fs (X:Cx):List Addr:=frs X.outer
def Vis (sc:Scope) (x:Str):Prop:=sc.names.lookup x=some .local∨sc.names.lookup x=some .cell∨sc.names.lookup x=some .free
def Loc (sc:Scope) (x:Str):Prop:=sc.names.lookup x=some .local∨sc.names.lookup x=some .cell
def Look (env:Env) (h:Heap) (m:Str->Option Value) (x:Str) (u:Value):Prop :=
 (env.kindOf x=some .local∧m x=some u)∨((env.kindOf x=some .cell∨env.kindOf x=some .free)∧∃c,env.cells.lookup x=some c∧h.IsCell c (some u))
structure Cx.Ok (X:Cx):Prop where
 mod:Mod X.K X.mg X.base
 kind:X.env.scope.kind=.function
 glob:X.env.globals=mainGlobals
 blt:X.env.builtins=builtinsNs
 above:X.s₀.heap.objs.size<=X.env.locals
 inj:∀x y c,X.env.cells.lookup x=some c->X.env.cells.lookup y=some c->x=y
 has:∀x,(X.env.kindOf x=some .cell∨X.env.kindOf x=some .free)->∃c,X.env.cells.lookup x=some c
 cab:∀x c,X.fn x=true->X.env.cells.lookup x=some c->X.s₀.heap.objs.size<=c
 hd:X.calm=true->X.A.handled=none
 frames:X.A.frames=some X.stack
 stk:X.stack=X.outer∨(X.stack=X.env::X.outer∧X.env.frame=some X.env.locals)
 exf:∀b∈X.ex,b≠X.env.locals∧∀x c,X.env.cells.lookup x=some c->c≠b
 bs:∀b o,X.base.get? b=some o->X.s₀.heap.get? b=some o∧X.H₀ b=none
 bsz:X.base.objs.size<=X.s₀.heap.objs.size
 noex:∀b o,X.base.get? b=some o->b ∉ X.ex
 exfs:∀b∈X.ex,b ∉ X.fs
 funs:X.s₀.heap.FunFrames X.base X.outer
 frf:∀b∈X.fs,X.H₀ b=none
structure Inv (X:Cx) (pins:List (Addr × Obj)) (σ:List (Option V)) (H:Hp) (s:Shared):Prop where
 ok:X.Ok
 os:s.os=X.s₀.os
 bare:AllBare s.gens
 base:Un X.fs X.ex X.H₀ H X.s₀.heap s.heap
 loc:∃m,s.heap.Ns X.env.locals m∧∀(i:Nat) (x:Str) (v:V),X.N[i]?=some x->σ[i]?=some (some v)->Vis X.env.scope x->∃u,RelV v u∧Look X.env s.heap m x u
 cell:∀x c,X.env.cells.lookup x=some c->∃v,s.heap.IsCell c v
 free:H X.env.locals=none
 freeC:∀x c,X.env.cells.lookup x=some c->H c=none
 pin:∀p∈X.pn++pins,s.heap.get? p.1=some p.2∧H p.1=none∧p.1≠X.env.locals∧p.1 ∉ X.fs∧∀v,p.2.data≠.cell v
 hok:HOk X.prog X.w H s.heap
 len:σ.length=X.N.length
section
variable {X:Cx} {pins:List (Addr × Obj)} {σ:List (Option V)} {H H':Hp} {s:Shared} {h':Heap}
theorem Cx.Ok.nofr (ok:X.Ok) {b:Addr} {o:Obj} (e:X.base.get? b=some o):b ∉ X.fs:=fun hb=>by
 have:=(ok.funs.mem hb).1
 rw[e]at this; cases this
theorem Inv.bs (I:Inv X pins σ H s):∀b o,X.base.get? b=some o->s.heap.get? b=some o∧H b=none:=fun b o e =>
 ⟨I.base.keep b o (I.ok.bs b o e).1 (I.ok.bs b o e).2 (I.ok.nofr e) (I.ok.noex b o e),I.base.free b o (I.ok.bs b o e).1 (I.ok.bs b o e).2 (I.ok.noex b o e)⟩
theorem Inv.bk (I:Inv X pins σ H s):∀b o,X.base.get? b=some o->s.heap.get? b=some o:=fun b o e=>(I.bs b o e).1
theorem Inv.mod (I:Inv X pins σ H s):Mod X.K X.mg X.base:=I.ok.mod
theorem Inv.kIn (I:Inv X pins σ H s):X.K.In s.heap:=I.ok.mod.kin.keeps I.bk
theorem Inv.lt (I:Inv X pins σ H s):X.env.locals < s.heap.objs.size:=let ⟨_,hn,_⟩:=I.loc; hn.lt
theorem Inv.sz (I:Inv X pins σ H s):X.s₀.heap.objs.size<=s.heap.objs.size:=Nat.le_trans I.ok.above (Nat.le_of_lt I.lt)
theorem Inv.nofs (I:Inv X pins σ H s) {a:Addr} (h:s.heap.objs.size<=a):a ∉ X.fs:=fun hb=>by
 obtain ⟨_,o,ho,_⟩:=I.ok.funs.mem hb
 exact absurd (Nat.lt_of_lt_of_le (Heap.lt_size ho) (Nat.le_trans I.sz h)) (Nat.lt_irrefl _)
theorem Inv.cne (I:Inv X pins σ H s):∀x c,X.env.cells.lookup x=some c->c≠X.env.locals:=fun x c e z=>by
 obtain ⟨v,o,ho,hd⟩:=I.cell x c e
 obtain ⟨m,⟨o',es,ep,ho',hd',_⟩,_⟩:=I.loc
 rw[z,ho']at ho; cases ho; rw[hd']at hd; cases hd
theorem Inv.funs (I:Inv X pins σ H s):s.heap.FunFrames X.base X.outer:=by
 have all:∀(l:List Env),(∀b∈frs l,b∈X.fs)->X.s₀.heap.FunFrames X.base l->s.heap.FunFrames X.base l:=by
  intro l
  induction l with
  |nil=>intro _ _; trivial
  |cons env r ih =>
   intro hs hl
   obtain ⟨hk,⟨L,o,hf,hn,ho,hd⟩,hr⟩:=hl
   have hL:L∈X.fs:=hs L (by unfold frs; rw[List.filterMap_cons,hf]; exact List.mem_cons_self)
   obtain ⟨sl,e⟩:=I.base.slot L o ho (I.ok.frf L hL) hL fun z=>I.ok.exfs L z hL
   exact ⟨hk,⟨L,_,hf,hn,e,hd⟩,ih (fun b hb=>hs b (by unfold frs; rw[List.filterMap_cons,hf]; exact List.mem_cons_of_mem _ hb)) hr⟩
 exact all X.outer (fun _ hb=>hb) I.ok.funs
theorem Inv.stack (I:Inv X pins σ H s):s.heap.FunFrames X.base X.stack:=by
 rcases I.ok.stk with e|⟨e,hf⟩
 ·rw[e]; exact I.funs
 ·rw[e]
  obtain ⟨m,hn,_⟩:=I.loc
  refine .cons (by rw[I.ok.kind]; decide) hf hn ?_ I.funs
  exact Heap.get?_none_of_le (Nat.le_trans I.ok.bsz I.ok.above)
theorem Inv.stkSub (I:Inv X pins σ H s):∀b∈frs X.stack,b∈X.env.locals::X.fs:=fun b hb=>by
 rcases I.ok.stk with e|⟨e,hf⟩
 ·rw[e]at hb; exact List.mem_cons_of_mem _ hb
 ·rw[e]at hb
  unfold frs at hb
  rw[List.filterMap_cons,hf]at hb
  exact hb
theorem Inv.stkFree (I:Inv X pins σ H s):∀b∈frs X.stack,H b=none:=fun b hb=>by
 rcases List.mem_cons.mp (I.stkSub b hb) with e|hb
 ·rw[e]; exact I.free
 ·obtain ⟨_,o,ho,_⟩:=I.ok.funs.mem hb
  exact I.base.free b o ho (I.ok.frf b hb) fun z=>I.ok.exfs b z hb
theorem Inv.step {g':Array GenState} {t':Nat} {d':Drawn} {ch:List Addr} (I:Inv X pins σ H s)
    (hch:∀b∈ch,(b∈X.ex∨X.s₀.heap.objs.size<=b)∧b≠X.env.locals∧(∀x c,X.env.cells.lookup x=some c->c≠b)∧∀p∈X.pn++pins,p.1≠b)
    (keep:∀b o,b≠X.env.locals->b ∉ X.fs->b ∉ ch->s.heap.get? b=some o->H b=none->h'.get? b=some o)
    (slot:∀b o,b≠X.env.locals->b∈X.fs->b ∉ ch->s.heap.get? b=some o->H b=none->∃sl,h'.get? b=some { o with slots:=sl }) (free:∀b o,b ∉ ch->s.heap.get? b=some o->H b=none->H' b=none)
    (there:∀b o,b ∉ ch->s.heap.get? b=some o->∃o',h'.get? b=some o')
    (tups:∀b xs,H b=some (.tup xs)->H' b=some (.tup xs)) (frzs:∀b o u,H b=some (.frz o u)->H' b=some (.frz o u)) (tbls:∀b ps,H b=some (.tbl ps)->∃more,H' b=some (.tbl (ps++more)))
    (ns:∀m,s.heap.Ns X.env.locals m->h'.Ns X.env.locals m) (hok:HOk X.prog X.w H' h') (hg:AllBare g') :
    Inv X pins σ H' { s with heap:=h',gens:=g',drawn:=d',toks:=t' }:=by
 have neL:∀b o,X.s₀.heap.get? b=some o->b≠X.env.locals:=fun b o e=>Nat.ne_of_lt (Nat.lt_of_lt_of_le (Heap.lt_size e) I.ok.above)
 have neC:∀b o,X.s₀.heap.get? b=some o->b ∉ X.ex->b ∉ ch:=fun b o e hx hb=>by
  rcases (hch b hb).1 with z|z
  ·exact hx z
  ·exact absurd (Nat.lt_of_lt_of_le (Heap.lt_size e) z) (Nat.lt_irrefl _)
 have cellK:∀x c,X.env.cells.lookup x=some c->∀v,s.heap.IsCell c v->h'.IsCell c v:=fun x c e v ⟨o,ho,hd⟩=>by
  have nch:c ∉ ch:=fun z=>(hch c z).2.2.1 x c e rfl
  by_cases hc:c∈X.fs
  ·obtain ⟨sl,q⟩:=slot c o (I.cne x c e) hc nch ho (I.freeC x c e)
   exact ⟨_,q,hd⟩
  ·exact ⟨o,keep c o (I.cne x c e) hc nch ho (I.freeC x c e),hd⟩
 refine ⟨I.ok,I.os,hg,⟨fun b o e n hb hx=>?_,fun b o e n hb hx=>?_,fun b o e n hx=>?_,fun b o e hx=>?_,fun b xs e=>tups b xs (I.base.tups b xs e),fun b o xs e=>frzs b o xs (I.base.frzs b o xs e),fun b ps e=>?_⟩,?_,fun x c e=>?_,?_,fun x c e=>?_,fun p hp=>?_,hok,I.len⟩
 ·exact keep b o (neL b o e) hb (neC b o e hx) (I.base.keep b o e n hb hx) (I.base.free b o e n hx)
 ·obtain ⟨sl,e1⟩:=I.base.slot b o e n hb hx
  obtain ⟨sl',e2⟩:=slot b _ (neL b o e) hb (neC b o e hx) e1 (I.base.free b o e n hx)
  exact ⟨sl',e2⟩
 ·obtain ⟨o',e1⟩:=I.base.there b o e hx
  exact free b o' (neC b o e hx) e1 (I.base.free b o e n hx)
 ·obtain ⟨o',e1⟩:=I.base.there b o e hx
  exact there b o' (neC b o e hx) e1
 ·obtain ⟨m1,e1⟩:=I.base.tbls b ps e
  obtain ⟨m2,e2⟩:=tbls b _ e1
  exact ⟨m1++m2,by rw[e2,Array.append_assoc]⟩
 ·obtain ⟨m,hn,hl⟩:=I.loc
  refine ⟨m,ns m hn,fun i x v e1 e2 e3=>?_⟩
  obtain ⟨u,r,l⟩:=hl i x v e1 e2 e3
  refine ⟨u,r,?_⟩
  rcases l with l|⟨k,c,e,z⟩
  ·exact .inl l
  ·exact .inr ⟨k,c,e,cellK x c e _ z⟩
 ·obtain ⟨v,z⟩:=I.cell x c e
  exact ⟨v,cellK x c e v z⟩
 ·obtain ⟨m,⟨o,_,_,ho,_⟩,_⟩:=I.loc
  exact free _ o (fun z=>(hch _ z).2.1 rfl) ho I.free
 ·obtain ⟨v,o,ho,hd⟩:=I.cell x c e
  exact free c o (fun z=>(hch c z).2.2.1 x c e rfl) ho (I.freeC x c e)
 ·obtain ⟨e,n,ne,nf,d⟩:=I.pin p hp
  have nch:p.1 ∉ ch:=fun z=>(hch p.1 z).2.2.2 p hp rfl
  exact ⟨keep p.1 p.2 ne nf nch e n,free p.1 p.2 nch e n,ne,nf,d⟩
theorem Inv.un {t':Nat} (I:Inv X pins σ H s) (u:Un X.fs [] H H' s.heap h') (hok:HOk X.prog X.w H' h'):Inv X pins σ H' { s with heap:=h',toks:=t' }:=by
 obtain ⟨m,⟨o,es,ep,ho,r⟩,_⟩:=id I.loc
 obtain ⟨sl,hL⟩:=u.any ho I.free (by simp)
 exact I.step (g':=s.gens) (d':=s.drawn) (ch:=[]) (fun _ z=>nomatch z) (fun b o _ hb _ e n=>u.keep b o e n hb (by simp)) (fun b o _ hb _ e n=>u.slot b o e n hb (by simp)) (fun b o _ e n=>u.free b o e n (by simp)) (fun b o _ e=>u.there b o e (by simp)) u.tups u.frzs u.tbls (fun m' hm=>by
  obtain ⟨o',es',ep',ho',r'⟩:=hm
  rw[ho]at ho'; cases ho'
  exact ⟨_,es',ep',hL,r'⟩) hok I.bare
theorem Inv.call {g':Array GenState} {t':Nat} {d':Drawn} {ch:List Addr} (I:Inv X pins σ H s) (u:Un (frs X.stack) ch H H' s.heap h') (hok:HOk X.prog X.w H' h') (hg:AllBare g')
    (hch:∀b∈ch,(b∈X.ex∨X.s₀.heap.objs.size<=b)∧b≠X.env.locals∧(∀x c,X.env.cells.lookup x=some c->c≠b)∧∀p∈X.pn++pins,p.1≠b) :
    Inv X pins σ H' { s with heap:=h',gens:=g',drawn:=d',toks:=t' }:=by
 obtain ⟨m,⟨o,es,ep,ho,r⟩,_⟩:=id I.loc
 obtain ⟨sl,hL⟩:=u.any ho I.free fun z=>(hch _ z).2.1 rfl
 exact I.step (ch:=ch) hch (fun b o hL hb hc e n=>u.keep b o e n (fun z=>(List.mem_cons.mp (I.stkSub b z)).elim hL hb) hc) (fun b o _ _ hc e n=>u.any e n hc) (fun b o hc e n=>u.free b o e n hc) (fun b o hc e=>u.there b o e hc) u.tups u.frzs u.tbls (fun m' hm=>by
  obtain ⟨o',es',ep',ho',r'⟩:=hm
  rw[ho]at ho'; cases ho'
  exact ⟨_,es',ep',hL,r'⟩) hok hg
theorem Inv.turned {t':Nat} {it:Addr} (I:Inv X pins σ H s) (k:∀b o,b≠it->s.heap.get? b=some o->h'.get? b=some o) (hn:H it=none) (hL:it≠X.env.locals)
    (h1:it∈X.ex∨X.s₀.heap.objs.size<=it) (h2:∀x c,X.env.cells.lookup x=some c->c≠it) (h3:∀p∈X.pn++pins,p.1≠it):Inv X pins σ H { s with heap:=h',toks:=t' }:=by
 have nit:∀b u,H b=some u->b≠it:=fun b u e z=>by rw[z,hn]at e; cases e
 refine I.step (g':=s.gens) (d':=s.drawn) (ch:=[it]) (fun b hb=>?_) (fun b o _ _ hc e _=>k b o (fun z=>hc (by simp[z])) e) (fun b o _ _ hc e _=>⟨o.slots,k b o (fun z=>hc (by simp[z])) e⟩) (fun _ _ _ _ n=>n)
  (fun b o hc e=>⟨o,k b o (fun z=>hc (by simp[z])) e⟩) (fun _ _ e=>e) (fun _ _ _ e=>e) (fun b ps e=>⟨#[],by rw[e]; simp⟩) (fun m hm=>?_) (fun b u e=>?_) I.bare
 ·have e:b=it:=by simpa using hb
  subst e
  exact ⟨h1,hL,h2,h3⟩
 ·obtain ⟨o,es,ep,ho,r⟩:=hm
  exact ⟨o,es,ep,k _ o (Ne.symm hL) ho,r⟩
 ·refine (I.hok b u e).stay (fun c v hc q=>k c v ?_ q) (fun _ q=>q) fun _ _ q=>q
  rcases hc with z|z
  ·rw[z]; exact nit b u e
  ·exact nit c _ z
theorem Inv.tok (I:Inv X pins σ H s) (t:Nat):Inv X pins σ H { s with toks:=t }:=I.un (h':=s.heap) (t':=t) Un.refl I.hok
theorem Inv.kept {t':Nat} (I:Inv X pins σ H s) (k:∀b u,s.heap.get? b=some u->h'.get? b=some u):Inv X pins σ H { s with heap:=h',toks:=t' }:=I.un (Un.kept k) (I.hok.kept k)
theorem Inv.laid {a:Addr} {o:HO} {t':Nat} (I:Inv X pins σ H s) (k:∀b u,s.heap.get? b=some u->h'.get? b=some u) (hp:s.heap.objs.size<=a) (new:ObjOk X.prog X.w (upd H a o) h' a o) :
    Inv X pins σ (upd H a o) { s with heap:=h',toks:=t' }:=I.un (Un.laid k hp (I.hok.fresh hp)) (I.hok.laid k hp new)
theorem Inv.write {x e:Addr} {o:HO} {t':Nat} (I:Inv X pins σ H s) (mu:Mut (H x)) (he:e=x∨H e=some (.own x)) (k:∀b u,b≠e->s.heap.get? b=some u->h'.get? b=some u) (heo:∃u,h'.get? e=some u)
    (new:ObjOk X.prog X.w (upd H x o) h' x o):Inv X pins σ (upd H x o) { s with heap:=h',toks:=t' }:=I.un (Un.write mu he k heo) (I.hok.write mu he k heo new)
theorem Inv.pins_of {pins':List (Addr × Obj)} (I:Inv X pins σ H s) (h:∀p∈pins',s.heap.get? p.1=some p.2∧H p.1=none∧p.1≠X.env.locals∧p.1 ∉ X.fs∧∀v,p.2.data≠.cell v):Inv X pins' σ H s :=
 ⟨I.ok,I.os,I.bare,I.base,I.loc,I.cell,I.free,I.freeC,fun p hp=>(List.mem_append.mp hp).elim (fun z=>I.pin p (List.mem_append_left _ z)) (h p),I.hok,I.len⟩
theorem MY {N:List Str} (hN:N.Nodup) {i j:Nat} {x:Str} (a:N[i]?=some x) (b:N[j]?=some x):i=j:=by
 obtain ⟨h1,e1⟩:=List.getElem?_eq_some_iff.mp a
 obtain ⟨h2,e2⟩:=List.getElem?_eq_some_iff.mp b
 exact (List.getElem_inj hN).mp (e1.trans e2.symm)
theorem Oz {M:Model} {A:Around} {E:Value->Shared->Prop} {i:Nat} {x:Str} {v:V} {u:Value} {Q:Unit->Shared->Prop} (I:Inv X pins σ H s) (hN:X.N.Nodup) (hi:X.N[i]?=some x) (hx:Loc X.env.scope x) (r:RelV v u)
    (h:∀s',Inv X pins (σ.set i (some v)) H s'->(∃a,Heap.SameBut a s.heap s'.heap∧(a=X.env.locals∨X.env.cells.lookup x=some a))->Q () s') (hf:X.fn x=true∨X.env.scope.names.lookup x=some .local:=by first|exact .inl rfl|exact .inr rfl|assumption):wpAny M A (storeName X.env x u) Q E s:=by
 obtain ⟨m,hn,hl⟩:=id I.loc
 have hcls:(X.env.scope.kind == .class || (X.env.scope.kind == .module&&X.env.locals != X.env.globals))=false:=by rw[I.ok.kind]; rfl
 have hiσ:i < σ.length:=by rw[I.len]; exact (List.getElem?_eq_some_iff.mp hi).1
 have cne:=I.cne
 have tracked:∀{a:Addr} {h':Heap},(∃o,s.heap.get? a=some o∧H a=none)->Heap.SameBut a s.heap h'->HOk X.prog X.w H h':=fun {a h'} ha hs b ob e=>by
  obtain ⟨_,_,hfree⟩:=ha
  refine (I.hok b ob e).stay (fun c w' hc q=>(hs.2 c ?_).trans q) (fun _ q=>q) fun _ _ q=>q
  rintro rfl
  rcases hc with rfl|hc
  ·rw[hfree]at e; cases e
  ·rw[hfree]at hc; cases hc
 rcases hx with hk|hk
 ·refine wpAny_storeName_local hk hn (fun h' hn' hs=>?_) hcls
  obtain ⟨oL,_,_,hoL,_⟩:=id hn
  refine h _ ⟨I.ok,I.os,I.bare,⟨fun b o e n hb hx=>?_,fun b o e n hb hx=>?_,I.base.free,fun b o e hx=>?_,I.base.tups,I.base.frzs,I.base.tbls⟩,⟨_,hn',fun j y v' e1 e2 e3=>?_⟩,fun y c e=>?_,I.free,I.freeC,fun p hp=>?_,tracked ⟨oL,hoL,I.free⟩ hs,by simpa using I.len⟩ ⟨_,hs,.inl rfl⟩
  ·exact (hs.2 b (Nat.ne_of_lt (Nat.lt_of_lt_of_le (Heap.lt_size e) I.ok.above))).trans (I.base.keep b o e n hb hx)
  ·obtain ⟨sl,e1⟩:=I.base.slot b o e n hb hx
   exact ⟨sl,(hs.2 b (Nat.ne_of_lt (Nat.lt_of_lt_of_le (Heap.lt_size e) I.ok.above))).trans e1⟩
  ·obtain ⟨o',e1⟩:=I.base.there b o e hx
   exact ⟨o',(hs.2 b (Nat.ne_of_lt (Nat.lt_of_lt_of_le (Heap.lt_size e) I.ok.above))).trans e1⟩
  ·by_cases hj:j=i
   ·subst hj
    rw[hi]at e1; cases e1
    rw[List.getElem?_set_self hiσ]at e2
    cases e2
    exact ⟨u,r,.inl ⟨hk,by simp⟩⟩
   ·rw[List.getElem?_set_ne (Ne.symm hj)]at e2
    obtain ⟨u',r',q⟩:=hl j y v' e1 e2 e3
    refine ⟨u',r',?_⟩
    rcases q with ⟨k,e⟩|⟨k,c,e,z⟩
    ·refine .inl ⟨k,?_⟩
     have:y≠x:=fun e=>hj (MY hN e1 (e ▸ hi))
     simp[this,e]
    ·exact .inr ⟨k,c,e,z.sameBut hs (cne y c e)⟩
  ·obtain ⟨w',z⟩:=I.cell y c e
   exact ⟨w',z.sameBut hs (cne y c e)⟩
  ·obtain ⟨e,n,ne,nf,d⟩:=I.pin p hp
   exact ⟨(hs.2 p.1 ne).trans e,n,ne,nf,d⟩
 ·have hfn:X.fn x=true:=by
   rcases hf with z|z
   ·exact z
   ·rw[z]at hk; cases hk
  obtain ⟨c,hc⟩:=I.ok.has x (.inl hk)
  obtain ⟨w',z⟩:=I.cell x c hc
  refine wpAny_storeName_cell I.ok.kind hk hc z (fun h' hc' hs=>?_)
  obtain ⟨oc,hoc,hocd⟩:=id z
  refine h { s with heap:=h' } ⟨I.ok,I.os,I.bare,⟨fun b o e n hb hx=>?_,fun b o e n hb hx=>?_,I.base.free,fun b o e hx=>?_,I.base.tups,I.base.frzs,I.base.tbls⟩,⟨m,hn.sameBut hs (Ne.symm (cne x c hc)),fun j y v' e1 e2 e3=>?_⟩,fun y c' e=>?_,I.free,I.freeC,fun p hp=>?_,tracked ⟨oc,hoc,I.freeC x c hc⟩ hs,by simpa using I.len⟩ ⟨c,hs,.inr hc⟩
  ·exact (hs.2 b (Nat.ne_of_lt (Nat.lt_of_lt_of_le (Heap.lt_size e) (I.ok.cab x c hfn hc)))).trans (I.base.keep b o e n hb hx)
  ·obtain ⟨sl,e1⟩:=I.base.slot b o e n hb hx
   exact ⟨sl,(hs.2 b (Nat.ne_of_lt (Nat.lt_of_lt_of_le (Heap.lt_size e) (I.ok.cab x c hfn hc)))).trans e1⟩
  ·obtain ⟨o',e1⟩:=I.base.there b o e hx
   exact ⟨o',(hs.2 b (Nat.ne_of_lt (Nat.lt_of_lt_of_le (Heap.lt_size e) (I.ok.cab x c hfn hc)))).trans e1⟩
  ·by_cases hj:j=i
   ·subst hj
    rw[hi]at e1; cases e1
    rw[List.getElem?_set_self hiσ]at e2
    cases e2
    exact ⟨u,r,.inr ⟨.inl hk,c,hc,hc'⟩⟩
   ·rw[List.getElem?_set_ne (Ne.symm hj)]at e2
    obtain ⟨u',r',q⟩:=hl j y v' e1 e2 e3
    refine ⟨u',r',?_⟩
    rcases q with q|⟨k,c',e,z'⟩
    ·exact .inl q
    ·refine .inr ⟨k,c',e,z'.sameBut hs ?_⟩
     rintro rfl
     exact hj (MY hN e1 (I.ok.inj _ _ _ e hc ▸ hi))
  ·by_cases hcc:c'=c
   ·subst hcc; exact ⟨_,hc'⟩
   ·obtain ⟨w2,z2⟩:=I.cell y c' e
    exact ⟨w2,z2.sameBut hs hcc⟩
  ·obtain ⟨e,n,ne,nf,d⟩:=I.pin p hp
   refine ⟨(hs.2 p.1 ?_).trans e,n,ne,nf,d⟩
   intro q
   rw[q,hoc]at e
   have q':oc=p.2:=Option.some.inj e
   exact d w' (by rw[← q']; exact hocd)
theorem RY {M:Model} {A:Around} {E:Value->Shared->Prop} {i:Nat} {x:Str} {v:V} {u:Value} {Q:Unit->Shared->Prop} (I:Inv X pins σ H s) (hN:X.N.Nodup) (hi:X.N[i]?=some x) (hx:Loc X.env.scope x) (r:RelV v u)
    (h:∀s',Inv X pins (σ.set i (some v)) H s'->Q () s') (hf:X.fn x=true∨X.env.scope.names.lookup x=some .local:=by first|exact .inl rfl|exact .inr rfl|assumption):wpAny M A (storeName X.env x u) Q E s :=
 Oz I hN hi hx r (fun s' I' _=>h s' I') hf
theorem Inv.call' {s':Shared} {ch:List Addr} (I:Inv X pins σ H s) (ho:s'.os=s.os) (u:Un (frs X.stack) ch H H' s.heap s'.heap) (hok:HOk X.prog X.w H' s'.heap) (hg:AllBare s'.gens)
    (hch:∀b∈ch,(b∈X.ex∨X.s₀.heap.objs.size<=b)∧b≠X.env.locals∧(∀x c,X.env.cells.lookup x=some c->c≠b)∧∀p∈X.pn++pins,p.1≠b):Inv X pins σ H' s':=by
 obtain ⟨h',g',d',t',o'⟩:=s'
 have e:o'=s.os:=ho
 subst e
 exact I.call (g':=g') (t':=t') (d':=d') u hok hg hch
end
abbrev XK:=Value->Option Addr->Hp->Prop
abbrev St:=List (Option V)
abbrev VK:=V->Hp->Prop
abbrev TE:=St->Hp->VK->Prop
abbrev TT:=St->Hp->(Bool->Hp->Prop)->Prop
abbrev TA:=St->Hp->(List V->Hp->Prop)->Prop
structure Ends where
 nx:St->Hp->Prop
 rt:VK
 bk:St->Hp->Prop:=fun _ _=>False
 ct:St->Hp->Prop:=fun _ _=>False
abbrev TS:=Ends->St->Hp->Prop
def EP (X:Cx) (pins:List (Addr × Obj)) (σ:St) (Q:VK) (u:Value) (s':Shared):Prop:=∃v H',Inv X pins σ H' s'∧RelV v u∧Q v H'
def TP (X:Cx) (pins:List (Addr × Obj)) (σ:St) (Q:Bool->Hp->Prop) (b:Bool) (s':Shared):Prop:=∃H',Inv X pins σ H' s'∧Q b H'
def AP (X:Cx) (pins:List (Addr × Obj)) (σ:St) (Q:List V->Hp->Prop) (us:List Value) (s':Shared):Prop:=∃vs H',Inv X pins σ H' s'∧Vals vs us∧Q vs H'
def SP (X:Cx) (pins:List (Addr × Obj)) (D:Ends) (f:Flow) (s':Shared):Prop :=
 match f with
 |.next=>∃σ' H',Inv X pins σ' H' s'∧D.nx σ' H'
 |.brk=>∃σ' H',Inv X pins σ' H' s'∧D.bk σ' H'
 |.cont=>∃σ' H',Inv X pins σ' H' s'∧D.ct σ' H'
 |.ret u=>∃v σ' H',Inv X pins σ' H' s'∧RelV v u∧D.rt v H'
def PE (X:Cx) (e:Expr) (t:TE):Prop :=
 ∀(pins:List (Addr × Obj)) (s:Shared) (σ:St) (H:Hp) (Q:VK),Inv X pins σ H s->t σ H Q->wpAny (model X.prog X.w) X.A (eval e X.env) (EP X pins σ Q) X.xe s
def PT (X:Cx) (e:Expr) (t:TT):Prop :=
 ∀(pins:List (Addr × Obj)) (s:Shared) (σ:St) (H:Hp) (Q:Bool->Hp->Prop),Inv X pins σ H s->t σ H Q->wpAny (model X.prog X.w) X.A (isTrue e X.env (eval e X.env)) (TP X pins σ Q) X.xe s
def PW (X:Cx) (e:Expr) (t:TT):Prop :=
 ∀(whole:Sem Value) (pins:List (Addr × Obj)) (s:Shared) (σ:St) (H:Hp) (Q:Bool->Hp->Prop),Inv X pins σ H s->t σ H Q->wpAny (model X.prog X.w) X.A (isTrue e X.env whole) (TP X pins σ Q) X.xe s
theorem PW.pt {X:Cx} {e:Expr} {t:TT} (h:PW X e t):PT X e t:=h _
def PA (X:Cx) (es:List Expr) (t:TA):Prop :=
 ∀(pos:Pos) (pins:List (Addr × Obj)) (s:Shared) (σ:St) (H:Hp) (Q:List V->Hp->Prop),Inv X pins σ H s->t σ H Q->wpAny (model X.prog X.w) X.A (spliced (backTo pos (starEach es X.env))) (AP X pins σ Q) X.xe s
def PS (X:Cx) (st:Stmt) (t:TS):Prop :=
 ∀(pins:List (Addr × Obj)) (s:Shared) (σ:St) (H:Hp) (D:Ends),Inv X pins σ H s->t D σ H->wpAny (model X.prog X.w) X.A (exec st X.env) (SP X pins D) X.xe s
def PSs (X:Cx) (st:List Stmt) (t:TS):Prop :=
 ∀(pins:List (Addr × Obj)) (s:Shared) (σ:St) (H:Hp) (D:Ends),Inv X pins σ H s->t D σ H->wpAny (model X.prog X.w) X.A (execs st X.env) (SP X pins D) X.xe s
theorem thn {α:Type} {t:Sem α} {Q Q':α->Shared->Prop} {M:Model} {A:Around} {E:Value->Shared->Prop} {s:Shared} (h:wpAny M A t Q E s) (hQ:∀a s,Q a s->Q' a s):wpAny M A t Q' E s:=wpAny_mono h hQ fun _ _ x=>x
open PySem PySem.Spec PyProof.Rows
section
variable {X:Cx}
def B9 (i:Nat):TE:=fun σ H Q=>∃v,σ[i]?=some (some v)∧Q v H
def tC (v:V):TE:=fun _ H Q=>Q v H
theorem Bg {i:Nat} {x:Str} {pos:Pos} (hN:X.N[i]?=some x) (hv:Vis X.env.scope x) (hd:(x == ("__debug__":Str))=false:=by decide) (hcd:(x == ("__classdict__":Str))=false:=by decide):PE X (.Name x pos) (B9 i):=by
 intro pins s σ H Q I h
 obtain ⟨v,e,h⟩:=h
 obtain ⟨m,hn,hl⟩:=I.loc
 obtain ⟨u,r,l⟩:=hl i x v hN e hv
 have fin:EP X pins σ Q u s:=⟨v,H,I,r,h⟩
 rcases l with ⟨hk,hm⟩|⟨hk,c,hc,hcell⟩
 ·exact wpAny_Name (wpAny_loadName_local I.ok.kind hk hn hm fin) hd
 ·rcases hk with hk|hk
  ·exact wpAny_Name (wpAny_loadName_cell I.ok.kind hk hc hcell fin) hd
  ·exact wpAny_Name (wpAny_loadName_free I.ok.kind hk hc hcell fin hcd) hd
theorem CY {i j pos}:PE X (.Constant (.int i) j pos) (tC (.int i)):=fun _ _ _ H _ I h=>wpAny_Constant_int ⟨.int i,H,I.tok _,⟨_,rfl⟩,h⟩
theorem AM {b j pos}:PE X (.Constant (.bool b) j pos) (tC (.bl b)):=fun _ _ _ H _ I h=>Constant_bool ⟨.bl b,H,I,rfl,h⟩
theorem BC {j pos}:PE X (.Constant .none j pos) (tC .non):=fun _ _ _ H _ I h=>Constant_none ⟨.non,H,I,rfl,h⟩
theorem Hz {x j pos}:PE X (.Constant (.str x) j pos) (tC (.str x)):=fun _ _ _ H _ I h=>Calls.Constant_str ⟨.str x,H,I.tok _,⟨_,rfl⟩,h⟩
def Gl (X:Cx) (x:Str):Prop:=X.env.kindOf x=some .globalImplicit
theorem Re {E:Value->Shared->Prop} {pins:List (Addr × Obj)} {s:Shared} {σ:St} {H:Hp} {x:Str} {u:Value} {pos:Pos} {Q:Value->Shared->Prop} (I:Inv X pins σ H s) (hg:Gl X x) (hm:X.mg x=some u) (h:Q u s)
    (hd:(x == ("__debug__":Str))=false:=by decide):wpAny (model X.prog X.w) X.A (eval (.Name x pos) X.env) Q E s :=
 Calls.Name_function_global I.ok.kind hg (Calls.loadGlobal_global (by rw[I.ok.glob]; exact I.mod.glob.keeps I.bk) hm h) hd
theorem OY {E:Value->Shared->Prop} {pins:List (Addr × Obj)} {s:Shared} {σ:St} {H:Hp} {x:Str} {u:Value} {pos:Pos} {Q:Value->Shared->Prop} (I:Inv X pins σ H s) (hg:Gl X x) (hm:X.mg x=none) (hv:bootBuiltins x=some u) (h:Q u s)
    (hn:x≠"__name__":=by decide) (hd:(x == ("__debug__":Str))=false:=by decide):wpAny (model X.prog X.w) X.A (eval (.Name x pos) X.env) Q E s:=by
 obtain ⟨mb,h1,h2⟩:=I.mod.blt
 exact Calls.Name_function_global I.ok.kind hg (Calls.loadGlobal_builtin (by rw[I.ok.glob]; exact I.mod.glob.keeps I.bk) hm (by rw[I.ok.blt]; exact h1.keeps I.bk) ((h2 x hn).trans hv) h) hd
theorem KN {x:Str} {v:V} {u:Value} {pos:Pos} (hg:Gl X x) (hm:X.mg x=some u) (r:RelV v u) (hd:(x == ("__debug__":Str))=false:=by decide):PE X (.Name x pos) (tC v) :=
 fun _ _ _ H _ I h=>Re I hg hm ⟨v,H,I,r,h⟩ hd
theorem Nt {x:Str} {v:V} {u:Value} {pos:Pos} (hg:Gl X x) (hm:X.mg x=none) (hv:bootBuiltins x=some u) (r:RelV v u) (hn:x≠"__name__":=by decide) (hd:(x == ("__debug__":Str))=false:=by decide):PE X (.Name x pos) (tC v) :=
 fun _ _ _ H _ I h=>OY I hg hm hv ⟨v,H,I,r,h⟩ hn hd
variable {a b:Expr} {ta tb:TE} {pos:Pos}
def PC (X:Cx) (op:CmpOp) (a b:Expr) (t:TE):Prop :=
 ∀(pins:List (Addr × Obj)) (s:Shared) (σ:St) (H:Hp) (Q:VK),Inv X pins σ H s->t σ H Q ->
  wpAny (model X.prog X.w) X.A (eval a X.env) (fun v s₁=>wpAny (model X.prog X.w) X.A (eval b X.env) (fun u s₂=>wpAny (model X.prog X.w) X.A (compareOp op v u) (EP X pins σ Q) X.xe s₂) X.xe s₁) X.xe s
theorem NL (b:Expr) {op:CmpOp} (h:op≠.In) (h2:op≠.NotIn):behindInMarks op b=false:=by
 have e1:(op == CmpOp.In)=false:=by cases op <;> first|rfl|exact absurd rfl h
 have e2:(op == CmpOp.NotIn)=false:=by cases op <;> first|rfl|exact absurd rfl h2
 cases b <;> simp[behindInMarks,e1,e2]
def tIsN (ta:TE):TE:=fun σ H Q=>ta σ H fun x H1=>Q (.bl (decide (x=.non))) H1
def AL (ta:TE):TE:=fun σ H Q=>ta σ H fun x H1=>Q (.bl (!decide (x=.non))) H1
theorem RelV.none_iff {x:V} {v:Value} (r:RelV x v):(v == Value.none)=decide (x=.non):=by
 cases x with
 |non=>cases r; rfl
 |bl _=>cases r; rfl
 |int _=>obtain ⟨t,rfl⟩:=r; rfl
 |str _=>obtain ⟨t,rfl⟩:=r; rfl
 |byt _=>obtain ⟨t,rfl⟩:=r; rfl
 |flt _=>obtain ⟨t,rfl⟩:=r; rfl
 |ref _=>cases r; rfl
 |ty _=>cases r; rfl
theorem GS {j pos'} (ha:PE X a ta):PC X .Is a (.Constant .none j pos') (tIsN ta):=by
 intro pins s σ H Q I h
 refine thn (ha pins s σ H _ I h) fun v s1 ⟨x,H1,I1,r1,q1⟩=>?_
 exact Constant_none (is_none_gen ⟨.bl _,H1,I1,by rw[r1.none_iff]; rfl,q1⟩)
theorem KG {j pos'} (ha:PE X a ta):PC X .IsNot a (.Constant .none j pos') (AL ta):=by
 intro pins s σ H Q I h
 refine thn (ha pins s σ H _ I h) fun v s1 ⟨x,H1,I1,r1,q1⟩=>?_
 exact Constant_none (isnot_none_gen ⟨.bl _,H1,I1,by rw[r1.none_iff]; rfl,q1⟩)
def tB (t:TE):TT:=fun σ H Q=>t σ H fun x H1=>∃c,x=.bl c∧Q c H1
theorem Kn {op:CmpOp} {t:TE} (h:PC X op a b t) (h1:behindInMarks op b=false:=by first|exact NL _ (by decide) (by decide)|rfl):PE X (.Compare a [op] [b] pos) t:=fun pins s σ H Q I hw=>wpAny_Compare1 (h pins s σ H Q I hw) h1
theorem Lz {op:CmpOp} {t:TE} (h:PC X op a b t) (h1:behindInMarks op b=false:=by first|exact NL _ (by decide) (by decide)|rfl):PT X (.Compare a [op] [b] pos) (tB t):=by
 intro pins s σ H Q I hw
 refine wpAny_isTrue_Compare1 (thn (h pins s σ H _ I hw) fun v s1 h1=>thn h1 fun u s2 h2=>thn h2 fun c s3 ⟨x,H1,I1,r1,q1⟩=>?_) h1
 obtain ⟨d,rfl,q⟩:=q1
 cases r1
 exact wpAny_truthy_bool ⟨H1,I1,q⟩
variable {tA tB':TT} {rest:List Expr}
def AC (t u:TT):TT:=fun σ H Q=>t σ H fun c H1=>if c=true then u σ H1 Q else Q false H1
def tOr (t u:TT):TT:=fun σ H Q=>t σ H fun c H1=>if c=true then Q true H1 else u σ H1 Q
def tNot (t:TT):TT:=fun σ H Q=>t σ H fun c H1=>Q (!c) H1
theorem Eb (ha:PT X a tA):PW X (.BoolOp .And [a] pos) tA:=by
 intro wh pins s σ H Q I h
 refine isTrue_and (thn (ha pins s σ H Q I h) fun c s1 e=>?_)
 cases c with
 |true=>exact isTrue_and_nil e
 |false=>exact e
theorem CI (ha:PT X a tA):PW X (.BoolOp .Or [a] pos) tA:=by
 intro wh pins s σ H Q I h
 refine isTrue_or (thn (ha pins s σ H Q I h) fun c s1 e=>?_)
 cases c with
 |false=>exact isTrue_or_nil e
 |true=>exact e
theorem By (ha:PT X a tA) (hb:PW X (.BoolOp .And (b::rest) pos) tB'):PW X (.BoolOp .And (a::b::rest) pos) (AC tA tB'):=by
 intro wh pins s σ H Q I h
 refine isTrue_and (thn (ha pins s σ H _ I h) fun c s1 ⟨H1,I1,q1⟩=>?_)
 cases c with
 |true=>exact hb wh pins s1 σ H1 Q I1 q1
 |false=>exact ⟨H1,I1,q1⟩
theorem A5 (ha:PT X a tA) (hb:PW X (.BoolOp .Or (b::rest) pos) tB'):PW X (.BoolOp .Or (a::b::rest) pos) (tOr tA tB'):=by
 intro wh pins s σ H Q I h
 refine isTrue_or (thn (ha pins s σ H _ I h) fun c s1 ⟨H1,I1,q1⟩=>?_)
 cases c with
 |true=>exact ⟨H1,I1,q1⟩
 |false=>exact hb wh pins s1 σ H1 Q I1 q1
theorem Bv (ha:PT X a tA):PT X (.UnaryOp .Not a pos) (tNot tA):=by
 intro pins s σ H Q I h
 exact isTrue_not (ha pins s σ H (fun c H1=>Q (!c) H1) I h)
def AH (ta tb:TE):TE:=fun σ H Q=>ta σ H fun x H1=>∃c,x=.bl c∧if c=true then tb σ H1 Q else Q (.bl false) H1
def A9 (ta:TE):TE:=fun σ H Q=>ta σ H fun x H1=>∃c,x=.bl c∧Q (.bl (!c)) H1
theorem Bm {op} {t:TE} (h:PE X a t):PE X (.BoolOp op [a] pos) t:=fun pins s σ H Q I hw=>BoolOp_one (h pins s σ H Q I hw)
theorem Bf (ha:PE X a ta) (hb:PE X (.BoolOp .And (b::rest) pos) tb):PE X (.BoolOp .And (a::b::rest) pos) (AH ta tb):=by
 intro pins s σ H Q I h
 refine BoolOp_and (thn (ha pins s σ H _ I h) fun v s1 ⟨x,H1,I1,r1,q1⟩=>?_)
 obtain ⟨c,rfl,q1⟩:=q1
 cases r1
 refine wpAny_truthy_bool ?_
 cases c with
 |true=>exact hb pins s1 σ H1 Q I1 q1
 |false=>exact ⟨.bl false,H1,I1,rfl,q1⟩
theorem BA (ha:PE X a ta):PE X (.UnaryOp .Not a pos) (A9 ta):=by
 intro pins s σ H Q I h
 refine UnaryOp_ (thn (ha pins s σ H _ I h) fun v s1 ⟨x,H1,I1,r1,q1⟩=>?_)
 obtain ⟨c,rfl,q1⟩:=q1
 cases r1
 exact not_of (wpAny_truthy_bool ⟨.bl (!c),H1,I1,rfl,q1⟩)
def tIf (t:TT) (ta tb:TE):TE:=fun σ H Q=>t σ H fun c H1=>if c=true then ta σ H1 Q else tb σ H1 Q
theorem GY {c:Expr} (hc:PT X c tA) (ha:PE X a ta) (hb:PE X b tb):PE X (.IfExp c a b pos) (tIf tA ta tb):=by
 intro pins s σ H Q I h
 refine wpAny_IfExp (thn (hc pins s σ H _ I h) fun d s1 ⟨H1,I1,q1⟩=>?_)
 cases d with
 |true=>exact ha pins s1 σ H1 Q I1 q1
 |false=>exact hb pins s1 σ H1 Q I1 q1
end
open PySem PySem.Spec PyProof.Rows
def SqL (K:PySem.W.Frag) (H:Hp) (a:Addr) (xs:List V):Prop :=
 Rd H a (.lst xs) ∨
  ∃(o:Obj) (its:Array Value) (n:Nat),K.lookup a=some o∧o.cls=.type "list"∧o.dict=none∧o.data=.seq its n∧its.size<=sizeLine∧Vals xs its.toList
def SqT (K:PySem.W.Frag) (H:Hp) (a:Addr) (xs:List V):Prop :=
 Rd H a (.tup xs) ∨
  ∃(o:Obj) (its:Array Value) (n:Nat),K.lookup a=some o∧o.cls=.type "tuple"∧o.data=.seq its n∧its.size<=sizeLine∧Vals xs its.toList
def absV:Value->Option V
 |.none=>some .non
 |.bool b=>some (.bl b)
 |.int i _=>some (.int i)
 |.str x _=>some (.str x)
 |.bytes b _=>some (.byt b)
 |.float b _=>some (.flt b)
 |.ref a=>some (.ref a)
 |.type n=>some (.ty n)
 |_=>none
theorem RelV.abs {x:V} {u:Value} (r:RelV x u):absV u=some x:=by
 cases x with
 |non=>cases r; rfl
 |bl _=>cases r; rfl
 |int _=>obtain ⟨t,rfl⟩:=r; rfl
 |str _=>obtain ⟨t,rfl⟩:=r; rfl
 |byt _=>obtain ⟨t,rfl⟩:=r; rfl
 |flt _=>obtain ⟨t,rfl⟩:=r; rfl
 |ref _=>cases r; rfl
 |ty _=>cases r; rfl
theorem RelV.inj {x y:V} {u:Value} (r:RelV x u) (q:RelV y u):x=y:=Option.some.inj (r.abs.symm.trans q.abs)
theorem Vals.inj:∀{xs ys:List V} {us:List Value},Vals xs us->Vals ys us->xs=ys
 |_,_,_,.nil,.nil=>rfl
 |_,_,_,.cons r t,.cons r' t'=>by rw[r.inj r',Vals.inj t t']
section
variable {X:Cx} {pins:List (Addr × Obj)} {σ:St} {H:Hp} {s:Shared} {a:Addr} {xs ys:List V}
theorem SqL.of {K:PySem.W.Frag} (h:H a=some (.lst xs)):SqL K H a xs:=.inl (.inl h)
theorem SqT.of {K:PySem.W.Frag} (h:H a=some (.tup xs)):SqT K H a xs:=.inl (.inl h)
theorem Inv.list (I:Inv X pins σ H s) (h:SqL X.K H a xs):∃its:List Value,Vals xs its∧PlainL s.heap a its.toArray∧xs.length<=sizeLine:=by
 rcases h with h|⟨o,its,n,hk,hc,hd,hs,hz,r⟩
 ·obtain ⟨z,its,n,r,e⟩:=h.ok I.hok
  exact ⟨its,r,⟨_,n,e,rfl,rfl,rfl⟩,z⟩
 ·refine ⟨its.toList,r,⟨o,n,I.kIn a o hk,hc,hd,by simpa using hs⟩,?_⟩
  have e:=r.length
  simp only[Array.length_toList]at e
  omega
theorem Inv.tuple (I:Inv X pins σ H s) (h:SqT X.K H a xs):∃its:List Value,Vals xs its∧IsTup s.heap a its.toArray∧xs.length<=sizeLine:=by
 rcases h with h|⟨o,its,n,hk,hc,hs,hz,r⟩
 ·obtain ⟨z,its,r,p⟩:=h.ok I.hok
  exact ⟨its,r,p,z⟩
 ·refine ⟨its.toList,r,⟨o,I.kIn a o hk,hc,n,by simpa using hs⟩,?_⟩
  have e:=r.length
  simp only[Array.length_toList]at e
  omega
theorem Inv.list_inj (I:Inv X pins σ H s) (h:SqL X.K H a xs) (h':SqL X.K H a ys):xs=ys:=by
 obtain ⟨its,r,⟨o,n,e,_,_,d⟩,_⟩:=I.list h
 obtain ⟨its',r',⟨o',n',e',_,_,d'⟩,_⟩:=I.list h'
 rw[e]at e'; cases e'
 rw[d]at d'
 injection d' with d1 _
 have:its=its':=by simpa using congrArg Array.toList d1
 subst this
 exact r.inj r'
end
abbrev Cx.wish (X:Cx) (E:Value->Shared->Prop):Cx:={ X with xe:=E }
abbrev Cx.nox (X:Cx):Cx:=X.wish fun _ _=>False
theorem Cx.Ok.wish {X:Cx} (ok:X.Ok) (E:Value->Shared->Prop):(X.wish E).Ok :=
 ⟨ok.mod,ok.kind,ok.glob,ok.blt,ok.above,ok.inj,ok.has,ok.cab,ok.hd,ok.frames,ok.stk,ok.exf,ok.bs,ok.bsz,ok.noex,ok.exfs,ok.funs,ok.frf⟩
theorem Cx.Ok.unwish {X:Cx} {E:Value->Shared->Prop} (ok:(X.wish E).Ok):X.Ok :=
 ⟨ok.mod,ok.kind,ok.glob,ok.blt,ok.above,ok.inj,ok.has,ok.cab,ok.hd,ok.frames,ok.stk,ok.exf,ok.bs,ok.bsz,ok.noex,ok.exfs,ok.funs,ok.frf⟩
section
variable {X:Cx} {pins:List (Addr × Obj)} {σ:St} {H:Hp} {s:Shared} {E:Value->Shared->Prop}
theorem Inv.wish (I:Inv X pins σ H s) (E:Value->Shared->Prop):Inv (X.wish E) pins σ H s:=⟨I.ok.wish E,I.os,I.bare,I.base,I.loc,I.cell,I.free,I.freeC,I.pin,I.hok,I.len⟩
theorem Inv.unwish (I:Inv (X.wish E) pins σ H s):Inv X pins σ H s:=⟨I.ok.unwish,I.os,I.bare,I.base,I.loc,I.cell,I.free,I.freeC,I.pin,I.hok,I.len⟩
theorem SP.unwish {D:Ends} {f:Flow} {s':Shared} (h:SP (X.wish E) pins D f s'):SP X pins D f s':=by
 cases f with
 |next=>obtain ⟨σ',H',I,q⟩:=h; exact ⟨σ',H',I.unwish,q⟩
 |brk=>obtain ⟨σ',H',I,q⟩:=h; exact ⟨σ',H',I.unwish,q⟩
 |cont=>obtain ⟨σ',H',I,q⟩:=h; exact ⟨σ',H',I.unwish,q⟩
 |ret u=>obtain ⟨v,σ',H',I,r,q⟩:=h; exact ⟨v,σ',H',I.unwish,r,q⟩
theorem PE.nox {e:Expr} {t:TE} (h:PE X.nox e t):PE X e t:=fun pins s σ H Q I hw =>
 wpAny_mono (h pins s σ H Q (I.wish _) hw) (fun _ _ ⟨v,H',I',r,q⟩=>⟨v,H',I'.unwish,r,q⟩) fun _ _ z=>False.elim z
theorem PT.nox {e:Expr} {t:TT} (h:PT X.nox e t):PT X e t:=fun pins s σ H Q I hw =>
 wpAny_mono (h pins s σ H Q (I.wish _) hw) (fun _ _ ⟨H',I',q⟩=>⟨H',I'.unwish,q⟩) fun _ _ z=>False.elim z
theorem PSs.nox {st:List Stmt} {t:TS} (h:PSs X.nox st t):PSs X st t:=fun pins s σ H D I hw =>
 wpAny_mono (h pins s σ H D (I.wish _) hw) (fun _ _ q=>q.unwish) fun _ _ z=>False.elim z
end
section
variable {X:Cx} {st:Stmt} {rest:List Stmt} {t u:TS} {e:Expr} {te:TE} {pos:Pos}
def Am:TS:=fun D σ H=>D.nx σ H
def tSeq (t u:TS):TS:=fun D σ H=>t { D with nx:=u D } σ H
theorem Fv:PSs X [] Am:=fun _ _ σ H _ I h=>wpAny_execs_nil ⟨σ,H,I,h⟩
theorem Fe (h1:PS X st t) (h2:PSs X rest u):PSs X (st::rest) (tSeq t u):=by
 intro pins s σ H D I h
 refine wpAny_execs_cons (thn (h1 pins s σ H { D with nx:=u D } I h) fun f s1 q=>?_)
 cases f with
 |next =>
  obtain ⟨σ',H',I',q⟩:=q
  exact h2 pins s1 σ' H' D I' q
 |ret v=>exact q
 |brk=>exact q
 |cont=>exact q
theorem Ej (h1:PS X st t):PSs X [st] t:=by
 intro pins s σ H D I h
 refine wpAny_execs_cons (thn (h1 pins s σ H D I h) fun f s1 q=>?_)
 cases f with
 |next=>exact wpAny_execs_nil q
 |ret v=>exact q
 |brk=>exact q
 |cont=>exact q
theorem Inv.quiet {pins:List (Addr × Obj)} {σ:St} {H:Hp} {s:Shared} (I:Inv X pins σ H s):interactive X.env=false:=by simp[interactive,I.ok.kind]
def tDrop (te:TE):TS:=fun D σ H=>te σ H fun _ H1=>D.nx σ H1
theorem FZ (he:PE X e te) (hs:swapsWith e none pos.line X.env=pure false:=by rfl):PS X (.Expr e pos) (tDrop te):=by
 intro pins s σ H D I h
 exact wpAny_Expr_any (thn (he pins s σ H _ I h) fun v s1 ⟨x,H1,I1,r1,q1⟩=>⟨σ,H1,I1,q1⟩) I.quiet hs
def tRet (te:TE):TS:=fun D σ H=>te σ H D.rt
theorem BE (he:PE X e te):PS X (.Return (some e) pos) (tRet te):=by
 intro pins s σ H D I h
 exact wpAny_Return_some (thn (he pins s σ H _ I h) fun v s1 ⟨x,H1,I1,r1,q1⟩=>⟨x,σ,H1,I1,r1,q1⟩)
def Av:TS:=fun D _ H=>D.rt .non H
theorem FN:PS X (.Return none pos) Av:=fun _ _ σ H _ I h=>wpAny_Return_none ⟨.non,σ,H,I,rfl,h⟩
def AO (c:TT) (t u:TS):TS:=fun D σ H=>c σ H fun b H1=>if b=true then t D σ H1 else u D σ H1
theorem AX {c:Expr} {a b:List Stmt} {tc:TT} (hc:PT X c tc) (ha:PSs X a t) (hb:PSs X b u):PS X (.If c a b pos) (AO tc t u):=by
 intro pins s σ H D I h
 refine wpAny_If (thn (hc pins s σ H _ I h) fun d s1 ⟨H1,I1,q1⟩=>?_)
 cases d with
 |true=>exact ha pins s1 σ H1 D I1 q1
 |false=>exact hb pins s1 σ H1 D I1 q1
end
abbrev TG:=V->St->Hp->(St->Hp->Prop)->Prop
abbrev TGs:=List V->St->Hp->(St->Hp->Prop)->Prop
def PG (X:Cx) (target:Expr) (t:TG):Prop :=
 ∀(pins:List (Addr × Obj)) (s:Shared) (σ:St) (H:Hp) (v:V) (u:Value) (Q:St->Hp->Prop),Inv X pins σ H s->RelV v u->t v σ H Q ->
  wpAny (model X.prog X.w) X.A (assign target X.env u) (fun _ s'=>∃σ' H',Inv X pins σ' H' s'∧Q σ' H') X.xe s
def PGs (X:Cx) (ts:List Expr) (t:TGs):Prop :=
 ∀(pins:List (Addr × Obj)) (s:Shared) (σ:St) (H:Hp) (vs:List V) (us:List Value) (Q:St->Hp->Prop),Inv X pins σ H s->Vals vs us->t vs σ H Q ->
  wpAny (model X.prog X.w) X.A (assignInOrder ((assignEach ts X.env).map (·.2)) us) (fun _ s'=>∃σ' H',Inv X pins σ' H' s'∧Q σ' H') X.xe s
abbrev Bj:=V->V->V->Hp->(Hp->Prop)->Prop
def AW (X:Cx) (t:Bj):Prop :=
 ∀(pins:List (Addr × Obj)) (s:Shared) (σ:St) (H:Hp) (o i v:V) (ov iv u:Value) (Q:Hp->Prop),Inv X pins σ H s->RelV o ov->RelV i iv->RelV v u->t o i v H Q ->
  wpAny (model X.prog X.w) X.A (setItem ov iv u) (fun _ s'=>∃H',Inv X pins σ H' s'∧Q H') X.xe s
section
variable {X:Cx} {pos:Pos}
def Jg (i:Nat):TG:=fun v σ H Q=>Q (σ.set i (some v)) H
theorem Ys {i:Nat} {x:Str} (hN:X.N.Nodup) (hi:X.N[i]?=some x) (hx:Loc X.env.scope x) (hf:X.fn x=true∨X.env.scope.names.lookup x=some .local:=by first|exact .inl rfl|exact .inr rfl|assumption):PG X (.Name x pos) (Jg i):=by
 intro pins s σ H v u Q I r h
 exact wpAny_assign_Name (RY I hN hi hx r (fun s' I'=>⟨_,H,I',h⟩) hf)
def gNil:TGs:=fun vs σ H Q=>vs=[]∧Q σ H
def DI (t:TG) (u:TGs):TGs:=fun vs σ H Q=>∃v r,vs=v::r∧t v σ H fun σ' H'=>u r σ' H' Q
theorem F7:PGs X [] gNil:=by
 intro pins s σ H vs us Q I r h
 obtain ⟨e,h⟩:=h
 subst e
 cases r
 exact assignInOrder_nil ⟨σ,H,I,h⟩
theorem Mv {e:Expr} {es:List Expr} {t:TG} {u:TGs} (h1:PG X e t) (h2:PGs X es u)
    (hs:(assignEach (e::es) X.env).map (·.2)=assign e X.env::(assignEach es X.env).map (·.2):=by rfl):PGs X (e::es) (DI t u):=by
 intro pins s σ H vs us Q I r h
 obtain ⟨v,vr,e1,h⟩:=h
 subst e1
 cases r with
 |cons r rr =>
  rw[hs]
  refine assignInOrder_cons (thn (h1 pins s σ H _ _ _ I r h) fun _ s1 ⟨σ1,H1,I1,q1⟩=>?_)
  exact h2 pins s1 σ1 H1 _ _ Q I1 rr q1
def EL (K:PySem.W.Frag) (n:Nat) (t:TGs):TG:=fun v σ H Q=>∃a xs,v=.ref a∧SqT K H a xs∧xs.length=n∧t xs σ H Q
theorem Cp {es:List Expr} {k:Nat} {t:TGs} {n:Nat} (hc:X.calm=true) (h:PGs X es t)
    (hn:(assignEach es X.env).length=n:=by rfl) (hst:(assignEach es X.env).findIdx? (·.1)=none:=by rfl):PG X (.Tuple es k pos) (EL X.K n t):=by
 intro pins s σ H v u Q I r hw
 obtain ⟨a,xs,e1,hq,hl,hw⟩:=hw
 subst e1
 cases r
 obtain ⟨its,rv,ht,hz⟩:=I.tuple hq
 refine assign_Tuple_tuple (I.ok.hd hc) ht (by simp[hn,← hl,rv.length]) hst fun h' hx=>?_
 have I1:Inv X pins σ H { s with heap:=h' }:=I.kept (t':=s.toks) fun b o e=>hx b o (Nat.ne_of_lt (Heap.lt_size e)) e
 exact h pins _ σ H xs _ Q I1 (by simpa using rv) hw
def AA (to ti:TE) (t:Bj):TG:=fun v σ H Q=>to σ H fun o H1=>ti σ H1 fun i H2=>t o i v H2 fun H3=>Q σ H3
theorem Qv {o i:Expr} {to ti:TE} {t:Bj} (ho:PE X o to) (hi:PE X i ti) (hs:AW X t)
    (ha:∀v,assign (.Subscript o i pos) X.env v=(do
     let ov ← holding [v] (eval o X.env)
     let iv ← holding [v,ov] (eval i X.env)
     standAt pos
     holding [v,ov,iv] (setItem ov iv v)
     release [v,ov,iv] []):=by intro _; rfl):PG X (.Subscript o i pos) (AA to ti t):=by
 intro pins s σ H v u Q I r h
 rw[ha]
 refine wpAny_bind (wpAny_holding (thn (ho pins s σ H _ I h) fun ov s1 ⟨x,H1,I1,r1,q1⟩=>?_))
 refine wpAny_bind (wpAny_holding (thn (hi pins s1 σ H1 _ I1 q1) fun iv s2 ⟨y,H2,I2,r2,q2⟩=>?_))
 refine wpAny_bind (wpAny_standAt (wpAny_bind (wpAny_holding (thn (hs pins s2 σ H2 x y v ov iv u _ I2 r1 r2 r q2) fun _ s3 ⟨H3,I3,q3⟩=>?_))))
 exact wpAny_release ⟨σ,H3,I3,q3⟩
def AE (te:TE) (g:TG):TS:=fun D σ H=>te σ H fun x H1=>g x σ H1 D.nx
theorem Co {tg e:Expr} {te:TE} {g:TG} (he:PE X e te) (hg:PG X tg g) (hs:swapsWithSole [tg] e pos.line X.env=pure false:=by rfl) (hw:swappedStores [tg] e X.env=pure none:=by rfl)
    (h1:(assignEach [tg] X.env).map (·.2)=[assign tg X.env]:=by rfl):PS X (.Assign [tg] e pos) (AE te g):=by
 intro pins s σ H D I h
 refine wpAny_Assign_stores (thn (he pins s σ H _ I h) fun v s1 ⟨x,H1,I1,r1,q1⟩=>?_) hs hw
 rw[h1]
 exact thn (hg pins s1 σ H1 x v _ I1 r1 q1) fun _ s2 q=>q
theorem C3 {i:Nat} {x:Str} {e:Expr} {te:TE} {pos':Pos} (hN:X.N.Nodup) (hi:X.N[i]?=some x) (hx:Loc X.env.scope x) (he:PE X e te) (hs:swapsWith e (some (.Name x pos')) pos.line X.env=pure false:=by rfl) (hf:X.fn x=true∨X.env.scope.names.lookup x=some .local:=by first|exact .inl rfl|exact .inr rfl|assumption) :
    PS X (.Assign [.Name x pos'] e pos) (AE te (Jg i)):=by
 intro pins s σ H D I h
 refine wpAny_Assign_Name (thn (he pins s σ H _ I h) fun v s1 ⟨y,H1,I1,r1,q1⟩=>?_) hs
 exact RY I1 hN hi hx r1 (fun s2 I2=>⟨_,H1,I2,q1⟩) hf
end
section
variable {X:Cx} {pos:Pos}
def Bs (c:TT) (tb:TS):TS:=fun D σ H=>∃W:Nat->St->Hp->Prop,(∃m,W m σ H)∧∀m σ H,W m σ H ->
 c σ H fun b H1=>if b=true then ∃N:St->Hp->Prop,(∀σ' H',N σ' H'->∃m',m' < m∧W m' σ' H')∧tb { D with nx:=N,ct:=N,bk:=D.nx } σ H1 else D.nx σ H1
theorem HV {c:Expr} {body:List Stmt} {tc:TT} {tb:TS} (hp:PassesOwn (model X.prog X.w) X.A X.env X.xe) (hc:PT X c tc) (hb:PSs X body tb):PS X (.While c body [] pos) (Bs tc tb):=by
 intro pins s σ H D I h
 obtain ⟨W,⟨m0,w0⟩,turn⟩:=h
 refine wpAny_While (codeAny_whileLoop (fun n s'=>∃σ' H',Inv X pins σ' H' s'∧W n σ' H') ?_ m0 ⟨σ,H,I,w0⟩)
 rintro n s1 ⟨σ1,H1,I1,w1⟩
 refine wpAny_passesOwn hp (thn (hc pins s1 σ1 H1 _ I1 (turn n σ1 H1 w1)) fun b s2 ⟨H2,I2,q2⟩=>?_)
 cases b with
 |true =>
  obtain ⟨N,hN,q2⟩:=q2
  rw[if_pos rfl]
  refine wpAny_passesOwn hp (thn (hb pins s2 σ1 H2 _ I2 q2) fun f s3 q3=>?_)
  cases f with
  |next =>
   obtain ⟨σ3,H3,I3,n3⟩:=q3
   obtain ⟨m',hm,w3⟩:=hN σ3 H3 n3
   exact ⟨m',hm,σ3,H3,I3,w3⟩
  |cont =>
   obtain ⟨σ3,H3,I3,n3⟩:=q3
   obtain ⟨m',hm,w3⟩:=hN σ3 H3 n3
   exact ⟨m',hm,σ3,H3,I3,w3⟩
  |brk=>exact q3
  |ret v=>exact q3
 |false =>
  rw[if_neg Bool.false_ne_true]
  exact wpAny_execs_nil ⟨σ1,H2,I2,q2⟩
end
structure It where
 go:Nat->Hp->Prop
 yld:Nat->Hp->V->Hp->Prop
 stop:Nat->Hp->Prop
def S0 (X:Cx) (pins:List (Addr × Obj)) (H:Hp) (b:Addr):Prop :=
 H b=none∧b≠X.env.locals∧b ∉ X.fs∧(b∈X.ex∨X.s₀.heap.objs.size<=b)∧(∀x c,X.env.cells.lookup x=some c->c≠b)∧∀p∈X.pn++pins,p.1≠b
theorem Inv.fpOk {X:Cx} {pins:List (Addr × Obj)} {σ:St} {H H':Hp} {s:Shared} {b:Addr} (I:Inv X pins σ H s) (hb:s.heap.objs.size<=b) (hn:H' b=none):S0 X pins H' b:=by
 refine ⟨hn,Nat.ne_of_gt (Nat.lt_of_lt_of_le I.lt hb),I.nofs hb,.inr (Nat.le_trans I.sz hb),fun x c e z=>?_,fun p hp z=>?_⟩
 ·obtain ⟨v,q⟩:=I.cell x c e
  exact absurd (Nat.lt_of_lt_of_le q.lt (by rw[z]; exact hb)) (Nat.lt_irrefl _)
 ·exact absurd (Nat.lt_of_lt_of_le (Heap.lt_size (I.pin p hp).1) (by rw[z]; exact hb)) (Nat.lt_irrefl _)
structure Turn (P:Program) (w:World) (K:PySem.W.Frag) (tg:Expr) (J:It) (fp:List Addr) (it:Addr) (tn:Nat->Heap->Prop):Prop where
 mem:it∈fp
 obj:∀i h,tn i h->∀b∈fp,∃o,h.get? b=some o∧∀v,o.data≠.cell v
 keep:∀i h h',tn i h->(∀b∈fp,∀o,h.get? b=some o->h'.get? b=some o)->tn i h'
 item:∀(X:Cx),X.prog=P->X.w=w->X.K=K->X.calm=true->∀(i:Nat) (pins:List (Addr × Obj)) (s:Shared) (σ:St) (H:Hp) (E:Value->Shared->Prop),Inv X pins σ H s->(∀b∈fp,S0 X pins H b)->tn i s.heap->J.go i H ->
  wpAny (model P w) X.A (pyNext (.ref it)) (fun r s1=>∃u,r=some u ∧
   wpAny (model P w) X.A (letOwnedTupleGo tg (.ref it) u) (fun _ s2=>∃x H',Inv X pins σ H' s2∧RelV x u∧J.yld i H x H'∧tn (i+1) s2.heap∧∀b∈fp,H' b=none) E s1) E s
 done:∀(X:Cx),X.prog=P->X.w=w->X.K=K->X.calm=true->∀(i:Nat) (pins:List (Addr × Obj)) (s:Shared) (σ:St) (H:Hp) (E:Value->Shared->Prop),Inv X pins σ H s->(∀b∈fp,S0 X pins H b)->tn i s.heap->J.stop i H ->
  wpAny (model P w) X.A (pyNext (.ref it)) (fun r s1=>r=none∧Inv X pins σ H s1) E s
 self:∀(A:Around) (i:Nat) (s:Shared) (Q:Value->Shared->Prop) (E:Value->Shared->Prop),tn i s.heap->Q (.ref it) s->wpAny (model P w) A (pyIter (.ref it)) Q E s
abbrev TI:=St->Hp->(It->Hp->Prop)->Prop
def PIE (X:Cx) (pins:List (Addr × Obj)) (σ:St) (tg:Expr) (R:It->Hp->Prop) (itv:Value) (s2:Shared):Prop :=
 ∃(it:Addr) (fp:List Addr) (tn:Nat->Heap->Prop) (J:It) (H':Hp),itv=.ref it∧Inv X pins σ H' s2∧Turn X.prog X.w X.K tg J fp it tn∧tn 0 s2.heap∧(∀b∈fp,S0 X pins H' b)∧R J H'
def PI (X:Cx) (tg iter:Expr) (wi:TI):Prop :=
 ∀(pins:List (Addr × Obj)) (s:Shared) (σ:St) (H:Hp) (R:It->Hp->Prop),Inv X pins σ H s->wi σ H R ->
  wpAny (model X.prog X.w) X.A (eval iter X.env) (fun v s1=>wpAny (model X.prog X.w) X.A (pyIter v) (PIE X pins σ tg R) X.xe s1) X.xe s
theorem GE {M:Model} {A:Around} {E:Value->Shared->Prop} {s:Shared} {tg:Expr} {it:Addr} {u:Value} {o:Obj} {n:String} {vs:Array Value} {Q:Unit->Shared->Prop} (ho:s.heap.get? it=some o) (hc:o.cls=.type n) (hd:o.data=.fields vs)
    (hn:["enumerate","zip","dict_itemiterator","dict_reverseitemiterator","odict_iterator","itertools.zip_longest","itertools.pairwise"].contains n=false) (hQ:Q () s):wpAny M A (letOwnedTupleGo tg (.ref it) u) Q E s:=by
 unfold letOwnedTupleGo
 cases tg <;> first
  |exact wpAny_pure hQ
  | (cases u <;> first
      |exact wpAny_pure hQ
      | (refine wpAny_bind (wpAny_load ho ?_)
         rw[hc,hd]
         show wpAny M A (if (["enumerate","zip","dict_itemiterator","dict_reverseitemiterator","odict_iterator","itertools.zip_longest","itertools.pairwise"].contains n&&vs[0]? == some (rawInt _))=true then _ else _) Q E s
         rw[if_neg (by intro h; rw[hn,Bool.false_and]at h; cases h)]
         exact wpAny_pure hQ))
def Itl (K:PySem.W.Frag) (a:Addr):It :=
 ⟨fun i H=>∃xs x,SqL K H a xs∧xs[i]?=some x,fun i H x H'=>H'=H∧∀xs,SqL K H a xs->xs[i]?=some x,fun i H=>∃xs,SqL K H a xs∧xs.length<=i⟩
def Itr (lo:Int) (n:Nat):It:=⟨fun i _=>i < n,fun i H x H'=>H'=H∧x=.int (lo+i),fun i _=>n<=i⟩
theorem Jt {P:Program} {w:World} {K:PySem.W.Frag} {tg:Expr} (a it:Addr):Turn P w K tg (Itl K a) [it] it (fun i h=>h.IsListIter it a i) where
 mem:=by simp
 obj:=fun i h st b hb=>by
  have e:b=it:=by simpa using hb
  subst e
  obtain ⟨o,e,c,d⟩:=st
  exact ⟨o,e,fun v z=>by rw[d]at z; cases z⟩
 keep:=fun i h h' st k=>st.at fun o e=>k it (by simp) o e
 item:=by
  intro X hP hw hK hc i pins s σ H E I hf st hg
  subst hP hw hK
  obtain ⟨xs,x,hq,hx⟩:=hg
  obtain ⟨its,rv,p,hz⟩:=I.list hq
  obtain ⟨u,hu,ru⟩:=rv.get hx
  obtain ⟨f0,f1,f2,f3,f4,f5⟩:=hf it (by simp)
  refine wpAny_pyNext_list_item st p.isList (x:=u) (by simpa using hu) fun h' st' sb=>?_
  have I1:Inv X pins σ H { s with heap:=h' }:=I.turned (t':=s.toks) (fun b o hb e=>(sb.2 b hb).trans e) f0 f1 f3 f4 f5
  obtain ⟨o,e,c,d⟩:=id st'
  exact ⟨u,rfl,GE (s:={ s with heap:=h' }) e c d (by decide) ⟨x,H,I1,ru,⟨rfl,fun ys hy=>by rw[I.list_inj hy hq]; exact hx⟩,st',fun b hb=>(hf b hb).1⟩⟩
 done:=by
  intro X hP hw hK hc i pins s σ H E I hf st hg
  subst hP hw hK
  obtain ⟨xs,hq,hx⟩:=hg
  obtain ⟨its,rv,p,hz⟩:=I.list hq
  obtain ⟨f0,f1,f2,f3,f4,f5⟩:=hf it (by simp)
  have hl:=rv.length
  exact wpAny_pyNext_list_end (I.ok.hd hc) st p.isList (by simp; omega) fun h' eb=>⟨rfl,I.turned (t':=s.toks) (fun b o hb e=>eb b o hb e) f0 f1 f3 f4 f5⟩
 self:=fun _ _ _ _ _ st h=>wpAny_pyIter_listiter st h
theorem LX {P:Program} {w:World} {K:PySem.W.Frag} {tg:Expr} (it:Addr) (lo:Int) (n:Nat):Turn P w K tg (Itr lo n) [it] it (fun i h=>IsRangeIter h it (lo+(i:Nat) * 1) ((n:Int) - (i:Nat)) 1) where
 mem:=by simp
 obj:=fun i h st b hb=>by
  have e:b=it:=by simpa using hb
  subst e
  exact ⟨_,st,fun v z=>by
   have z':Data.fields _=Data.cell v:=z
   cases z'⟩
 keep:=fun i h h' st k=>k it (by simp) _ st
 item:=by
  intro X hP hw hK hc i pins s σ H E I hf st hg
  subst hP hw hK
  obtain ⟨f0,f1,f2,f3,f4,f5⟩:=hf it (by simp)
  have W:=Walks.range (prog:=X.prog) (w:=X.w) (I.ok.hd hc) it lo 1 n
  refine W.item i s _ _ hg st fun v h' tk hv st' kk=>?_
  obtain ⟨t,rfl⟩:=hv
  have I1:Inv X pins σ H { s with heap:=h',toks:=tk }:=I.turned (fun b o hb e=>kk b o (by simpa using hb) e) f0 f1 f3 f4 f5
  refine ⟨_,rfl,GE (s:={ s with heap:=h',toks:=tk }) (n:="range_iterator") st' rfl rfl (by decide) ⟨.int (lo+i),H,I1,⟨t,?_⟩,⟨rfl,rfl⟩,st',fun b hb=>(hf b hb).1⟩⟩
  rw[Int.mul_one]
 done:=by
  intro X hP hw hK hc i pins s σ H E I hf st hg
  subst hP hw hK
  obtain ⟨f0,f1,f2,f3,f4,f5⟩:=hf it (by simp)
  exact wpAny_pyNext_range_end (I.ok.hd hc) st (by have:n<=i:=hg; omega) fun h' eb=>⟨rfl,I.turned (t':=s.toks) (fun b o hb e=>eb b o hb e) f0 f1 f3 f4 f5⟩
 self:=fun _ _ _ _ _ st h=>wpAny_pyIter_rangeiter st h
open PySem PySem.Spec PyProof.Rows
section
variable {X:Cx} {tg:Expr}
def E6 (K:PySem.W.Frag) (tl:TE):TI:=fun σ H R=>tl σ H fun x H1=>∃a,x=.ref a∧(∃xs,SqL K H1 a xs)∧R (Itl K a) H1
theorem K7 {l:Expr} {tl:TE} (hl:PE X l tl):PI X tg l (E6 X.K tl):=by
 intro pins s σ H R I h
 refine thn (hl pins s σ H _ I h) fun v s1 ⟨x,H1,I1,r1,q1⟩=>?_
 obtain ⟨a,e,⟨xs,hq⟩,q⟩:=q1
 subst e
 cases r1
 obtain ⟨its,rv,p,hz⟩:=I1.list hq
 refine wpAny_pyIter_list p.isList ?_
 refine ⟨s1.heap.objs.size,[s1.heap.objs.size],_,_,H1,rfl,I1.kept (t':=s1.toks) fun b o e=>Heap.get?_push_of_some _ e,Jt a _,⟨_,Heap.get?_push_size _ rfl,rfl,rfl⟩,fun b hb=>?_,q⟩
 have e:b=s1.heap.objs.size:=by simpa using hb
 subst e
 exact I1.fpOk (Nat.le_refl _) (I1.hok.fresh (Nat.le_refl _))
theorem MG {pins:List (Addr × Obj)} {σ:St} {H:Hp} {s:Shared} {R:It->Hp->Prop} {E:Value->Shared->Prop} {lo hi:Int} {t u v:Tok} {tk:Nat} (I:Inv X pins σ H s) (h1:-(2 ^ 62)<=lo) (h2:lo < 2 ^ 62) (h3:-(2 ^ 62)<=hi) (h4:hi < 2 ^ 62)
    (q:R (Itr lo (hi - lo).toNat) H):wpAny (model X.prog X.w) X.A (pyIter (.ref s.heap.objs.size)) (PIE X pins σ tg R) E { s with heap:=s.heap.push { cls:=.type "range",data:=.fields #[.int lo t,.int hi u,.int 1 v] },toks:=tk }:=by
 refine wpAny_pyIter_range (IsRange.new ..) (small_one h1 h2 h3 h4) ?_
 have I1:Inv X pins σ H { s with heap:=s.heap.push { cls:=.type "range",data:=.fields #[.int lo t,.int hi u,.int 1 v] },toks:=tk }:=I.kept fun b o e=>Heap.get?_push_of_some _ e
 refine ⟨(s.heap.push { cls:=.type "range",data:=.fields #[.int lo t,.int hi u,.int 1 v] }).objs.size,[(s.heap.push { cls:=.type "range",data:=.fields #[.int lo t,.int hi u,.int 1 v] }).objs.size],_,_,H,rfl,
  I1.kept (t':=tk) fun b o e=>Heap.get?_push_of_some _ e,LX _ lo (hi - lo).toNat,?_,fun b hb=>?_,q⟩
 ·have e1:lo+((0:Nat):Int) * 1=lo:=by simp
  have e2:(((hi - lo).toNat:Nat):Int) - ((0:Nat):Int)=Builtin.Range.rangeSize lo hi 1:=by rw[rangeSize_one]; split <;> omega
  show IsRangeIter _ _ (lo+((0:Nat):Int) * 1) ((((hi - lo).toNat:Nat):Int) - ((0:Nat):Int)) 1
  rw[e1,e2]
  exact Heap.get?_push_size _ rfl
 ·have e:b=(s.heap.push { cls:=.type "range",data:=.fields #[.int lo t,.int hi u,.int 1 v] }).objs.size:=by simpa using hb
  subst e
  exact I1.fpOk (Nat.le_refl _) (I1.hok.fresh (Nat.le_refl _))
def AK (ta:TA):TI:=fun σ H R=>ta σ H fun vs H1=>∃j:Int,vs=[.int j]∧-(2 ^ 62)<=j∧j < 2 ^ 62∧R (Itr 0 j.toNat) H1
def Ao (ta:TA):TI:=fun σ H R=>ta σ H fun vs H1=>∃i j:Int,vs=[.int i,.int j]∧(-(2 ^ 62)<=i∧i < 2 ^ 62∧-(2 ^ 62)<=j∧j < 2 ^ 62)∧R (Itr i (j - i).toNat) H1
theorem Ix {a:Expr} {ta:TA} {p pos:Pos} (hg:Gl X "range") (hm:X.mg "range"=none) (ha:PA X [a] ta) (hs:starEach [a] X.env=[(false,eval a X.env)]:=by rfl):PI X tg (.Call (.Name "range" p) [a] [] pos) (AK ta):=by
 intro pins s σ H R I h
 refine Call_ (OY I hg hm boot_range (PyProof.Rows.callWith_type1 (thn (ha pos pins s σ H _ I h) fun us s1 ⟨vs,H1,I1,r1,q1⟩=>?_) hs rfl))
 obtain ⟨j,e,q1,q2,q⟩:=q1
 subst e
 cases r1 with
 |cons r rr =>
  cases rr
  obtain ⟨t,rfl⟩:=r
  exact call_range_1 (MG I1 (by omega) (by omega) q1 q2 (by simpa using q))
theorem Jx {a b:Expr} {ta:TA} {p pos:Pos} (hg:Gl X "range") (hm:X.mg "range"=none) (ha:PA X [a,b] ta) (hs:starEach [a,b] X.env=[(false,eval a X.env),(false,eval b X.env)]:=by rfl) (hs2:starEach [b] X.env=[(false,eval b X.env)]:=by rfl) :
    PI X tg (.Call (.Name "range" p) [a,b] [] pos) (Ao ta):=by
 intro pins s σ H R I h
 refine Call_ (OY I hg hm boot_range (PyProof.Rows.callWith_type1 (thn (ha pos pins s σ H _ I h) fun us s1 ⟨vs,H1,I1,r1,q1⟩=>?_) (by rw[hs,hs2]) (by rw[hs2]; rfl)))
 obtain ⟨i,j,e,⟨q1,q2,q3,q4⟩,q⟩:=q1
 subst e
 cases r1 with
 |cons r rr =>
  cases rr with
  |cons r' rr =>
   cases rr
   obtain ⟨t,rfl⟩:=r
   obtain ⟨t',rfl⟩:=r'
   exact call_range_2 (MG I1 q1 q2 q3 q4 q)
def tFor (wi:TI) (g:TG) (tb:TS):TS:=fun D σ H=>wi σ H fun J H1=>∃W:Nat->Nat->St->Hp->Prop,(∃m,W 0 m σ H1)∧∀i m σ H,W i m σ H ->
 (J.stop i H∧D.nx σ H)∨(J.go i H∧∃N:St->Hp->Prop,(∀σ' H',N σ' H'->∃m',m' < m∧W (i+1) m' σ' H')∧∀x H',J.yld i H x H'->g x σ H' fun σ2 H2=>tb { D with nx:=N,ct:=N,bk:=D.nx } σ2 H2)
def VC (fp:List Addr) (h:Heap):List (Addr × Obj):=fp.filterMap fun b=>(h.get? b).map fun o=>(b,o)
theorem Wf {fp:List Addr} {h:Heap} {b:Addr} {o:Obj} (hb:b∈fp) (e:h.get? b=some o):(b,o)∈VC fp h:=List.mem_filterMap.mpr ⟨b,hb,by rw[e]; rfl⟩
theorem JS {fp:List Addr} {h:Heap} {p:Addr × Obj} (hp:p∈VC fp h):p.1∈fp∧h.get? p.1=some p.2:=by
 obtain ⟨b,hb,e⟩:=List.mem_filterMap.mp hp
 cases q:h.get? b with
 |none=>rw[q]at e; cases e
 |some o =>
  rw[q]at e
  have e':(b,o)=p:=Option.some.inj e
  subst e'
  exact ⟨hb,q⟩
theorem Inv.pinned {pins:List (Addr × Obj)} {σ:St} {H:Hp} {s:Shared} {fp:List Addr} (I:Inv X pins σ H s) (hf:∀b∈fp,S0 X pins H b) (ho:∀b∈fp,∃o,s.heap.get? b=some o∧∀v,o.data≠.cell v):Inv X (pins++VC fp s.heap) σ H s :=
 I.pins_of fun p hp=>(List.mem_append.mp hp).elim (fun z=>I.pin p (List.mem_append_right _ z)) fun z=>by
  obtain ⟨hb,e⟩:=JS z
  obtain ⟨f0,f1,f2,_⟩:=hf p.1 hb
  obtain ⟨o,e',d⟩:=ho p.1 hb
  rw[e]at e'; cases e'
  exact ⟨e,f0,f1,f2,d⟩
theorem Inv.unpinned {pins pl:List (Addr × Obj)} {σ:St} {H:Hp} {s:Shared} (I:Inv X (pins++pl) σ H s):Inv X pins σ H s:=I.pins_of fun p hp=>I.pin p (List.mem_append_right _ (List.mem_append_left _ hp))
theorem GJ {iter:Expr} {body:List Stmt} {wi:TI} {g:TG} {tb:TS} {pos:Pos} (hp:PassesOwn (model X.prog X.w) X.A X.env X.xe) (hc:X.calm=true) (hi:PI X tg iter wi) (hg:PG X tg g) (hb:PSs X body tb)
    (hs:∀x,foldedSetIterable iter X.env x=pure x:=by intro _; rfl):PS X (.For tg iter body [] pos) (tFor wi g tb):=by
 intro pins s σ H D I h
 refine wpAny_For (thn (hi pins s σ H _ I h) fun v s1 h1=>thn h1 fun itv s2 h2=>?_) hs
 obtain ⟨it,fp,tn,J,H2,e,I2,T,st2,f2,W,⟨m0,w0⟩,turn⟩:=h2
 subst e
 have stat:∀{H':Hp},(∀b∈fp,H' b=none)->∀b∈fp,S0 X pins H' b:=fun hn b hb=>⟨hn b hb,(f2 b hb).2⟩
 refine codeAny_forLoop_any (fun n s'=>∃i σ' H',Inv X pins σ' H' s'∧tn i s'.heap∧(∀b∈fp,H' b=none)∧W i n σ' H') ?_ m0 ⟨0,σ,H2,I2,st2,fun b hb=>(f2 b hb).1,w0⟩
 rintro n s3 ⟨i,σ3,H3,I3,st3,fr3,w3⟩
 rcases turn i n σ3 H3 w3 with ⟨stop,qn⟩|⟨go,N,hN,step⟩
 ·refine wpAny_passesOwn hp (thn (T.done X rfl rfl rfl hc i pins s3 σ3 H3 X.xe I3 (stat fr3) st3 stop) fun r s4 ⟨hr,I4⟩=>?_)
  subst hr
  exact wpAny_execs_nil ⟨σ3,H3,I4,qn⟩
 ·refine wpAny_passesOwn hp (thn (T.item X rfl rfl rfl hc i pins s3 σ3 H3 X.xe I3 (stat fr3) st3 go) fun r s4 ⟨u,hr,h4⟩=>?_)
  subst hr
  refine wpAny_passesOwn hp (thn h4 fun _ s5 ⟨x,H5,I5,r5,y5,st5,fr5⟩=>?_)
  have I5':=I5.pinned (stat fr5) (T.obj _ _ st5)
  refine wpAny_passesOwn hp (thn (hg _ s5 σ3 H5 x u _ I5' r5 (step x H5 y5)) fun _ s6 ⟨σ6,H6,I6,q6⟩=>?_)
  refine wpAny_passesOwn hp (thn (hb _ s6 σ6 H6 _ I6 q6) fun f s7 q7=>?_)
  have again:∀{σ7:St} {H7:Hp},Inv X (pins++VC fp s5.heap) σ7 H7 s7->N σ7 H7->∃m,m < n∧∃i σ' H',Inv X pins σ' H' s7∧tn i s7.heap∧(∀b∈fp,H' b=none)∧W i m σ' H':=fun {σ7 H7} I7 n7=>by
   obtain ⟨m',hm,w7⟩:=hN σ7 H7 n7
   refine ⟨m',hm,i+1,σ7,H7,I7.unpinned,T.keep _ _ _ st5 fun b hb o e=>(I7.pin (b,o) (List.mem_append_right _ (List.mem_append_right _ (Wf hb e)))).1,fun b hb=>?_,w7⟩
   obtain ⟨o,e,d⟩:=T.obj _ _ st5 b hb
   exact (I7.pin (b,o) (List.mem_append_right _ (List.mem_append_right _ (Wf hb e)))).2.1
  cases f with
  |next=>obtain ⟨σ7,H7,I7,n7⟩:=q7; exact again I7 n7
  |cont=>obtain ⟨σ7,H7,I7,n7⟩:=q7; exact again I7 n7
  |brk=>obtain ⟨σ7,H7,I7,q7⟩:=q7; exact ⟨σ7,H7,I7.unpinned,q7⟩
  |ret v=>obtain ⟨x7,σ7,H7,I7,r7,q7⟩:=q7; exact ⟨x7,σ7,H7,I7.unpinned,r7,q7⟩
end
open PySem PySem.Spec PyProof.Rows
abbrev R2:=V->V->Hp->VK->Prop
def OpR (X:Cx) (f:Value->Value->Sem Value) (r:R2):Prop :=
 ∀(pins:List (Addr × Obj)) (s:Shared) (σ:St) (H:Hp) (x y:V) (v u:Value) (Q:VK),Inv X pins σ H s->RelV x v->RelV y u->r x y H Q ->
  wpAny (model X.prog X.w) X.A (f v u) (EP X pins σ Q) X.xe s
def UnR (X:Cx) (f:Value->Sem Value) (r:V->Hp->VK->Prop):Prop :=
 ∀(pins:List (Addr × Obj)) (s:Shared) (σ:St) (H:Hp) (x:V) (v:Value) (Q:VK),Inv X pins σ H s->RelV x v->r x H Q ->
  wpAny (model X.prog X.w) X.A (f v) (EP X pins σ Q) X.xe s
def CallR (X:Cx) (f:Value) (r:List V->Hp->VK->Prop):Prop :=
 ∀(pins:List (Addr × Obj)) (s:Shared) (σ:St) (H:Hp) (xs:List V) (us:List Value) (Q:VK),Inv X pins σ H s->Vals xs us->r xs H Q ->
  wpAny (model X.prog X.w) X.A (call f us) (EP X pins σ Q) X.xe s
def TruR (X:Cx) (r:V->Hp->(Bool->Hp->Prop)->Prop):Prop :=
 ∀(pins:List (Addr × Obj)) (s:Shared) (σ:St) (H:Hp) (x:V) (v:Value) (Q:Bool->Hp->Prop),Inv X pins σ H s->RelV x v->r x H Q ->
  wpAny (model X.prog X.w) X.A (truthy v) (TP X pins σ Q) X.xe s
def tOp (r:R2) (ta tb:TE):TE:=fun σ H Q=>ta σ H fun x H1=>tb σ H1 fun y H2=>r x y H2 Q
def tUn (r:V->Hp->VK->Prop) (ta:TE):TE:=fun σ H Q=>ta σ H fun x H1=>r x H1 Q
def rI (C:Int->Int->Prop) (g:Int->Int->V):R2:=fun x y H Q=>∃i j,x=.int i∧y=.int j∧C i j∧Q (g i j) H
def rI0 (g:Int->Int->V):R2:=fun x y H Q=>∃i j,x=.int i∧y=.int j∧Q (g i j) H
def rU (g:Int->V):V->Hp->VK->Prop:=fun x H Q=>∃i,x=.int i∧Q (g i) H
section
variable {X:Cx} {a b c:Expr} {ta tb tc:TE} {pos:Pos}
theorem Cv (ha:PE X a ta) (hb:PE X b tb) {pins:List (Addr × Obj)} {s:Shared} {σ:St} {H:Hp} {R:V->V->Hp->Prop} (I:Inv X pins σ H s)
    (h:ta σ H fun x H1=>tb σ H1 fun y H2=>R x y H2) {Q:Value->Shared->Prop} {f:Value->Value->Sem Value}
    (hf:∀v u s2 x y H2,Inv X pins σ H2 s2->RelV x v->RelV y u->R x y H2->wpAny (model X.prog X.w) X.A (f v u) Q X.xe s2) :
    wpAny (model X.prog X.w) X.A (eval a X.env) (fun v s₁=>wpAny (model X.prog X.w) X.A (eval b X.env) (fun u s₂=>wpAny (model X.prog X.w) X.A (f v u) Q X.xe s₂) X.xe s₁) X.xe s:=by
 refine thn (ha pins s σ H _ I h) fun v s1 ⟨x,H1,I1,r1,q1⟩=>?_
 refine thn (hb pins s1 σ H1 _ I1 q1) fun u s2 ⟨y,H2,I2,r2,q2⟩=>?_
 exact hf v u s2 x y H2 I2 r1 r2 q2
theorem Dq {op:Operator} {r:R2} (ho:OpR X (binaryOp op) r) (ha:PE X a ta) (hb:PE X b tb):PE X (.BinOp a op b pos) (tOp r ta tb):=by
 intro pins s σ H Q I h
 exact wpAny_BinOp (Cv ha hb I h fun v u s2 x y H2 I2 rx ry q=>ho pins s2 σ H2 x y v u Q I2 rx ry q)
theorem pe_un {op:UnaryOp} {r:V->Hp->VK->Prop} (ho:UnR X (unaryOp op) r) (ha:PE X a ta):PE X (.UnaryOp op a pos) (tUn r ta):=by
 intro pins s σ H Q I h
 exact UnaryOp_ (thn (ha pins s σ H _ I h) fun v s1 ⟨x,H1,I1,r1,q1⟩=>ho pins s1 σ H1 x v Q I1 r1 q1)
theorem opI {f:Value->Value->Sem Value} {C:Int->Int->Prop} {g:Int->Int->Int}
    (rule:∀(i j:Int) (t u:Tok) (s:Shared) (Q:Value->Shared->Prop) (E:Value->Shared->Prop),C i j->Q (.int (g i j) s.toks) { s with toks:=s.toks+1 }->wpAny (model X.prog X.w) X.A (f (.int i t) (.int j u)) Q E s) :
    OpR X f (rI C fun i j=>.int (g i j)):=by
 intro pins s σ H x y v u Q I rx ry h
 obtain ⟨i,j,rfl,rfl,hc,q⟩:=h
 obtain ⟨t,rfl⟩:=rx
 obtain ⟨t',rfl⟩:=ry
 exact rule i j t t' s _ _ hc ⟨.int (g i j),H,I.tok _,⟨_,rfl⟩,q⟩
theorem An {f:Value->Value->Sem Value} {g:Int->Int->Int}
    (rule:∀(i j:Int) (t u:Tok) (s:Shared) (Q:Value->Shared->Prop) (E:Value->Shared->Prop),Q (.int (g i j) s.toks) { s with toks:=s.toks+1 }->wpAny (model X.prog X.w) X.A (f (.int i t) (.int j u)) Q E s) :
    OpR X f (rI0 fun i j=>.int (g i j)):=by
 intro pins s σ H x y v u Q I rx ry h
 obtain ⟨i,j,rfl,rfl,q⟩:=h
 obtain ⟨t,rfl⟩:=rx
 obtain ⟨t',rfl⟩:=ry
 exact rule i j t t' s _ _ ⟨.int (g i j),H,I.tok _,⟨_,rfl⟩,q⟩
theorem EE {f:Value->Value->Sem Value} {g:Int->Int->Bool}
    (rule:∀(i j:Int) (t u:Tok) (s:Shared) (Q:Value->Shared->Prop) (E:Value->Shared->Prop),Q (.bool (g i j)) s->wpAny (model X.prog X.w) X.A (f (.int i t) (.int j u)) Q E s) :
    OpR X f (rI0 fun i j=>.bl (g i j)):=by
 intro pins s σ H x y v u Q I rx ry h
 obtain ⟨i,j,rfl,rfl,q⟩:=h
 obtain ⟨t,rfl⟩:=rx
 obtain ⟨t',rfl⟩:=ry
 exact rule i j t t' s _ _ ⟨.bl (g i j),H,I,rfl,q⟩
def CDiv (i j:Int):Prop:=0 < j∧j < 1073741824
def CMul (i j:Int):Prop:=(-(2 ^ 64) < i∧i < 2 ^ 64)∨(-(2 ^ 64) < j∧j < 2 ^ 64)
theorem CMul.ok {i j:Int} (h:CMul i j):IntMulOk i j:=by
 rcases h with ⟨h1,h2⟩|⟨h1,h2⟩
 ·exact .of_left (intBits_le_64 h1 h2)
 ·exact .of_right (intBits_le_64 h1 h2)
theorem BP:OpR X (binaryOp .Add) (rI0 fun i j=>.int (i+j)):=An fun _ _ _ _ _ _ _ q=>add_int q
theorem Cf:OpR X (binaryOp .Sub) (rI0 fun i j=>.int (i - j)):=An fun _ _ _ _ _ _ _ q=>sub_int q
theorem FV:OpR X (binaryOp .FloorDiv) (rI CDiv fun i j=>.int (i / j)):=opI fun i j _ _ _ _ _ hc q=>by
 have h1:(0:Int) < j:=hc.1
 have h2:j < 1073741824:=hc.2
 exact floordiv_int (by omega) (by rw[Int.fdiv_eq_ediv_of_nonneg i (by omega)]; exact q) (.inl (PyProof.noPylong_small (by omega)))
theorem Br:OpR X (binaryOp .Mod) (rI (fun _ j=>0 < j) fun i j=>.int (i % j)):=opI fun i j _ _ _ _ _ hc q=>by
 have h1:(0:Int) < j:=hc
 exact mod_int' (by omega) (by rw[Int.fmod_eq_emod_of_nonneg i (by omega)]; exact q)
theorem unI {f:Value->Sem Value} {g:Int->Int}
    (rule:∀(i:Int) (t:Tok) (s:Shared) (Q:Value->Shared->Prop) (E:Value->Shared->Prop),Q (.int (g i) s.toks) { s with toks:=s.toks+1 }->wpAny (model X.prog X.w) X.A (f (.int i t)) Q E s) :
    UnR X f (rU fun i=>.int (g i)):=by
 intro pins s σ H x v Q I rx h
 obtain ⟨i,rfl,q⟩:=h
 obtain ⟨t,rfl⟩:=rx
 exact rule i t s _ _ ⟨.int (g i),H,I.tok _,⟨_,rfl⟩,q⟩
theorem BL:UnR X (unaryOp .USub) (rU fun i=>.int (-i)):=unI fun _ _ _ _ _ q=>neg_int q
end
section
variable {X:Cx} {a b c:Expr} {ta tb tc:TE} {pos:Pos}
theorem Dx:OpR X (compareOp .Lt) (rI0 fun i j=>.bl (decide (i < j))):=EE fun _ _ _ _ _ _ _ q=>lt_int q
theorem D3:OpR X (compareOp .LtE) (rI0 fun i j=>.bl (decide (i<=j))):=EE fun _ _ _ _ _ _ _ q=>le_int q
theorem D4:OpR X (compareOp .Gt) (rI0 fun i j=>.bl (decide (j < i))):=EE fun _ _ _ _ _ _ _ q=>gt_int q
theorem DY:OpR X (compareOp .GtE) (rI0 fun i j=>.bl (decide (j<=i))):=EE fun _ _ _ _ _ _ _ q=>ge_int q
theorem W5 (b:Expr) {op:CmpOp} (h:op≠.In:=by decide) (h2:op≠.NotIn:=by decide):behindInMarks op b=false:=by
 have e1:(op == CmpOp.In)=false:=by cases op <;> first|rfl|exact absurd rfl h
 have e2:(op == CmpOp.NotIn)=false:=by cases op <;> first|rfl|exact absurd rfl h2
 cases b <;> simp[behindInMarks,e1,e2]
theorem FJ {op:CmpOp} {r:R2} (ho:OpR X (compareOp op) r) (ha:PE X a ta) (hb:PE X b tb) (hm:behindInMarks op b=false):PE X (.Compare a [op] [b] pos) (tOp r ta tb):=by
 intro pins s σ H Q I h
 exact wpAny_Compare1 (Cv ha hb I h fun v u s2 x y H2 I2 rx ry q=>ho pins s2 σ H2 x y v u Q I2 rx ry q) hm
def Dn (t:TE):TT:=fun σ H Q=>t σ H fun x H'=>∃k,x=.bl k∧Q k H'
theorem EG {op:CmpOp} {r:R2} (ho:OpR X (compareOp op) r) (ha:PE X a ta) (hb:PE X b tb) (hm:behindInMarks op b=false):PT X (.Compare a [op] [b] pos) (Dn (tOp r ta tb)):=by
 intro pins s σ H Q I h
 refine wpAny_isTrue_Compare1 (thn (ha pins s σ H _ I h) fun v s1 ⟨x,H1,I1,r1,q1⟩=>thn (hb pins s1 σ H1 _ I1 q1) fun u s2 ⟨y,H2,I2,r2,q2⟩ =>
  thn (ho pins s2 σ H2 x y v u _ I2 r1 r2 q2) fun c s3 ⟨z,H3,I3,r3,k,e,q3⟩=>?_) hm
 subst e
 cases r3
 exact wpAny_truthy_bool ⟨H3,I3,q3⟩
def HG (r r':R2) (ta tb tc:TE):TE:=fun σ H Q=>ta σ H fun x H1=>tb σ H1 fun y H2=>r x y H2 fun z H3=>∃k,z=.bl k ∧
 (if k=true then tc σ H3 fun w' H4=>r' y w' H4 Q else Q (.bl false) H3)
theorem HP {op op':CmpOp} {r r':R2} (ho:OpR X (compareOp op) r) (ho':OpR X (compareOp op') r') (ha:PE X a ta) (hb:PE X b tb) (hc:PE X c tc)
    (hm:lastMarks [op,op'] [b,c]=false:=by with_unfolding_all rfl):PT X (.Compare a [op,op'] [b,c] pos) (Dn (HG r r' ta tb tc)):=by
 intro pins s σ H Q I h
 refine isTrue_chain (thn (ha pins s σ H _ I h) fun v s1 ⟨x,H1,I1,r1,q1⟩=>test_link (thn (hb pins s1 σ H1 _ I1 q1) fun u s2 ⟨y,H2,I2,r2,q2⟩ =>
  thn (ho pins s2 σ H2 x y v u _ I2 r1 r2 q2) fun d s3 ⟨z,H3,I3,r3,k,e,q3⟩=>?_)) hm
 subst e
 cases r3
 refine wpAny_truthy_bool ?_
 cases k with
 |false =>
  obtain ⟨k',e',q'⟩:=q3
  cases e'
  exact ite_ff ⟨H3,I3,q'⟩
 |true =>
  refine ite_tt (test_last (thn (hc pins s3 σ H3 _ I3 q3) fun w' s4 ⟨z',H4,I4,r4,q4⟩=>thn (ho' pins s4 σ H4 y z' u w' _ I4 r2 r4 q4) fun d' s5 ⟨z2,H5,I5,r5,k2,e2,q5⟩=>?_))
  subst e2
  cases r5
  exact wpAny_truthy_bool ⟨H5,I5,q5⟩
def Cw (K:PySem.W.Frag) (x:V) (H:Hp) (k:Bool):Prop :=
 match x with
 |.non=>k=false
 |.bl b=>k=b
 |.int i=>k=(i != 0)
 |.str y=>y.length<=sizeLine∧k=((y.length:Int) != 0)
 |.byt y=>y.size<=sizeLine∧k=((y.size:Int) != 0)
 |.ref p=>(∃xs,SqL K H p xs∧k=!xs.isEmpty)∨(∃xs,SqT K H p xs∧k=!xs.isEmpty)∨∃kvs,H p=some (.dK kvs)∧k=!kvs.isEmpty
 |_=>False
theorem LC {κ:Type} {kvs:List (κ × V)} {vs:List (κ × Value)} (r:KV kvs vs):(!vs.isEmpty)=!kvs.isEmpty:=by
 cases r <;> rfl
theorem RG {xs:List V} {its:List Value} (r:Vals xs its):(!its.toArray.isEmpty)=!xs.isEmpty:=by
 cases r <;> simp
theorem Sw:(sizeLine:Nat) < 2 ^ 63:=by rw[sizeLine_eq]; decide
theorem Bk:TruR X (fun x H Q=>∃k,Cw X.K x H k∧Q k H):=by
 intro pins s σ H x v Q I rx h
 obtain ⟨k,e,q⟩:=h
 have hl:=Sw
 have hs:sizeLine=16777216:=sizeLine_eq
 cases x with
 |non =>
  cases rx
  have e':k=false:=e
  subst e'
  exact truthy_none ⟨H,I,q⟩
 |bl b =>
  cases rx
  have e':k=b:=e
  subst e'
  exact wpAny_truthy_bool ⟨H,I,q⟩
 |int i =>
  obtain ⟨t,rfl⟩:=rx
  have e':k=(i != 0):=e
  subst e'
  exact PySem.P.truthy_int ⟨H,I,q⟩
 |str y =>
  obtain ⟨t,rfl⟩:=rx
  obtain ⟨hy,e'⟩:y.length<=sizeLine∧k=((y.length:Int) != 0):=e
  subst e'
  exact PySem.P.truthy_str (by omega) ⟨H,I.tok _,q⟩
 |byt y =>
  obtain ⟨t,rfl⟩:=rx
  obtain ⟨hy,e'⟩:y.size<=sizeLine∧k=((y.size:Int) != 0):=e
  subst e'
  exact PySem.W.truthy_bytes (by omega) ⟨H,I.tok _,q⟩
 |ref p =>
  cases rx
  have e':(∃xs,SqL X.K H p xs∧k=!xs.isEmpty)∨(∃xs,SqT X.K H p xs∧k=!xs.isEmpty)∨∃kvs,H p=some (.dK kvs)∧k=!kvs.isEmpty:=e
  rcases e' with ⟨xs,hx,e'⟩|⟨xs,hx,e'⟩|⟨kvs,hx,e'⟩
  ·subst e'
   obtain ⟨its,r,pl,hz⟩:=I.list hx
   have hlen:=r.length
   exact wpAny_truthy_list pl.isList (by simp only[List.size_toArray]; omega) ⟨H,I.tok _,by rw[RG r]; exact q⟩
  ·subst e'
   obtain ⟨its,r,pl,hz⟩:=I.tuple hx
   have hlen:=r.length
   exact truthy_tuple pl (by simp only[List.size_toArray]; omega) ⟨H,I.tok _,by rw[RG r]; exact q⟩
  ·subst e'
   obtain ⟨hz,hS,vs,r,m⟩:kvs.length<=sizeLine∧(p == sysModules)=false∧∃vs,KV kvs vs∧s.heap.DictOf (Yi X.prog X.w) p vs:=I.hok p _ hx
   have hlen:kvs.length=vs.length:=Paired.length r
   exact wpAny_truthy_dict hS m (by omega) ⟨H,I.tok _,by rw[LC r]; exact q⟩
 |_=>exact (show False from e).elim
theorem HS (ha:PE X a ta) (he:∀whole,isTrue a X.env whole=(do let v ← whole; standAt a.pos; holding [v] (truthy v))) :
    PT X a (fun σ H Q=>ta σ H fun x H'=>∃k,Cw X.K x H' k∧Q k H'):=by
 intro pins s σ H Q I h
 exact isTrue_plain (thn (ha pins s σ H _ I h) fun v s1 ⟨x,H1,I1,r1,q1⟩=>Bk pins s1 σ H1 x v Q I1 r1 q1) (he _)
theorem N0 {x:V} {us:List Value} (r:Vals [x] us):∃u,us=[u]∧RelV x u:=by
 cases r with
 |cons r1 r2=>cases r2; exact ⟨_,rfl,r1⟩
theorem Ak {x y:V} {us:List Value} (r:Vals [x,y] us):∃u w',us=[u,w']∧RelV x u∧RelV y w':=by
 cases r with
 |cons r1 r2 =>
  cases r2 with
  |cons r3 r4=>cases r4; exact ⟨_,_,rfl,r1,r3⟩
end
open PySem PySem.Spec PyProof.Rows
structure ObjM (h:Heap) (x dx C:Addr) (mA:Str->Option Value):Prop where
 obj:h.get? x=some (PySem.W.instObj C dx)
 ns:h.Ns1 dx mA
 ne:dx≠x
theorem JY {h:Heap} {dx:Addr} {mA:Str->Option Value} (n:h.Ns1 dx mA):∃od,h.get? dx=some od∧∀name,PySem.W.lookIn name od=some (mA name):=by
 obtain ⟨o,es,ep,ho,hd,hk,_,hm⟩:=n
 refine ⟨o,ho,fun name=>?_⟩
 have e:=hm name
 unfold nsFind findBy at e
 rw[← Array.find?_toList]at e
 unfold PySem.W.lookIn
 rw[hd]
 dsimp only
 split
 ·rename_i y q
  rw[q]at e
  exact congrArg some e
 ·rename_i q
  rw[q]at e
  have a:es.toList.any (·.refKey)=false:=by
   rw[List.any_eq_false]
   intro y hy
   obtain ⟨z,t,hkey⟩:=hk y (Array.mem_toList_iff.mp hy)
   simp[DictEntry.refKey,hkey]
  have a':¬ es.toList.any (·.refKey)=true:=by rw[a]; exact Bool.false_ne_true
  rw[if_neg a']
  exact congrArg some e
theorem ObjM.look {h:Heap} {x dx C:Addr} {mA:Str->Option Value} (I:ObjM h x dx C mA):∃od,PySem.W.InstAt h x (PySem.W.instObj C dx) C (some od)∧∀name,PySem.W.lookIn name od=some (mA name) :=
 let ⟨od,ho,hl⟩:=JY I.ns
 ⟨od,⟨I.obj,rfl,rfl,ho⟩,hl⟩
section
variable {prog:Program} {w:World} {A:Around} {E:Value->Shared->Prop} {s:Shared} {K:PySem.W.Frag} {x dx C f:Addr} {mA:Str->Option Value} {name:Str} {v:Value}
theorem EB {expr:Bool} {Q:Value->Shared->Prop} (X:K.In s.heap) (I:ObjM s.heap x dx C mA) (hg:PySem.W.plainGet K C name=true) (hh:PySem.W.hasDictIn K C=true)
    (ha:PySem.W.findIn K (.ref C) name=some none) (hv:mA name=some v) (hv':PySem.W.handedIn v=true) (h:Q v { s with toks:=s.toks+1 }) :
    wpAny (model prog w) A (getAttr (.ref x) name expr) Q E s:=by
 obtain ⟨od,J,hl⟩:=I.look
 exact PySem.W.get_value X J (PySem.W.plainGet_of hg).1 (PySem.W.findObj_own hh ha rfl (by rw[hl,hv])) hv' h
theorem GV {pl:Sem Bool} {Q:Value × List Value->Shared->Prop} (X:K.In s.heap) (I:ObjM s.heap x dx C mA) (hg:PySem.W.plainGet K C name=true)
    (hf:PySem.W.findIn K (.ref C) name=some (some (.ref f))) (ht:PySem.W.isFn K (.ref f)=true) (hv:mA name=none) (h:Q (.ref f,[.ref x]) s) :
    wpAny (model prog w) A (getMethod (.ref x) name pl) Q E s:=by
 obtain ⟨od,J,hl⟩:=I.look
 exact PySem.W.method_fn X J (PySem.W.plainGet_of hg).1 (PySem.W.plainGet_of hg).2 hf (beq_iff_eq.mp ht) (by show (PySem.W.lookIn name od).map (·.isSome)=some false; rw[hl,hv]; rfl) h
theorem Eo {ns:List Str} {Q:Unit->Shared->Prop} (X:K.In s.heap) (I:ObjM s.heap x dx C mA)
    (hs:PySem.W.findIn K (.ref C) "__setattr__"=some (some (.builtin "object.__setattr__"))) (hp:PySem.W.plainOver K C=true) (ht:PySem.W.takerIn K C name=some none) (hh:PySem.W.hasDictIn K C=true)
    (hw:PySem.Within mA ns) (hsz:ns.length<=sizeLine)
    (h:∀h',ObjM h' x dx C (fun y=>if y=name then some v else mA y)->Heap.SameBut dx s.heap h'->Q () { s with heap:=h',toks:=s.toks+2 }) :
    wpAny (model prog w) A (setAttr (.ref x) name v) Q E s:=by
 obtain ⟨od,J,hl⟩:=I.look
 refine PySem.W.set_plain X J hs (PySem.W.osa_open (s:={ s with toks:=s.toks+1 }) (r:=none) X J hp ht fun b=>?_)
 obtain ⟨cd,hc,hd'⟩:=PySem.W.any_some hh
 have hx:s.heap.get? x=some ⟨.ref C,some dx,.plain,#[]⟩:=I.obj
 refine wpAny_bind (wpAny_pure (wpAny_bind (wpAny_bind (wpAny_loadPart hx (wpAny_bind (PySem.W.Looks.here (s:={ s with toks:=s.toks+1 }) (PySem.W.looks_clsIn X hc) ?_))))))
 rw[hd']
 refine wpAny_pure (a:=some dx) (wpAny_bind (wpAny_pure (wpAny_bind ?_)))
 refine wpAny_nsSet1 (s:={ s with toks:=s.toks+1 }) I.ns fun h' hn2 hs2=>?_
 obtain ⟨oD,esD,epD,hoD,hdD,hcD⟩:=hn2.count (PySem.Within.cons name v hw)
 refine wpAny_bind (wpAny_lookBehind hoD (by rw[hdD]; exact pastItsLine_dict (Nat.le_trans hcD (by rw[List.length_cons]; omega))) ?_)
 exact wpAny_pure (h _ ⟨(hs2.2 _ (Ne.symm I.ne)).trans I.obj,hn2,I.ne⟩ hs2)
theorem HX {R:Result->Shared->Prop} {vs:List Value} {kw:List (Str × Value)} (X:K.In s.heap) (hm:PySem.W.makesIn K C=true)
    (hi:PySem.W.findIn K (.ref C) "__init__"=some (some (.ref f))) (hf:PySem.W.typeIn K (.ref f)=some (.type "function"))
    (h:codeAny (model prog w) (A.under (.builtin "type.__call__" ⟨.ref C::vs,kw⟩)) (.call (.ref f) ⟨.ref (s.heap.objs.size+1)::vs,kw⟩) (PySem.W.InitBack (s.heap.objs.size+1) R)
     { s with heap:=(s.heap.push PySem.W.emptyDict).push (PySem.W.instObj C s.heap.objs.size) }) :
    codeAny (model prog w) A (.call (.ref C) ⟨vs,kw⟩) R s:=by
 obtain ⟨hh,g,d,t,os⟩:=s
 exact PySem.W.make_core (PySem.W.makes_of X hm) (PySem.W.looks_findIn X hi) (fun self=>PySem.W.bind_fn X self hf) (.inl rfl) h
end
def putF (f:Str) (v:V):List (Str × V)->List (Str × V)
 |[]=>[(f,v)]
 |(g,x)::r=>if g=f then (g,v)::r else (g,x)::putF f v r
theorem SO (f g:Str) (v:V):∀fs:List (Str × V),(putF f v fs).lookup g=if g=f then some v else fs.lookup g
 |[]=>by
  show List.lookup g [(f,v)]=_
  by_cases h:g=f
  ·have hb:(g == f)=true:=beq_iff_eq.mpr h
   simp only[List.lookup,hb,if_pos h]
  ·have hb:(g == f)=false:=beq_eq_false_iff_ne.mpr h
   simp only[List.lookup,hb,if_neg h]
 |(k,x)::r=>by
  have ih:=SO f g v r
  rw[show putF f v ((k,x)::r)=(if k=f then (k,v)::r else (k,x)::putF f v r) from rfl]
  by_cases hk:k=f
  ·rw[if_pos hk]
   by_cases h:g=k
   ·have hb:(g == k)=true:=beq_iff_eq.mpr h
    simp only[List.lookup,hb,if_pos (h.trans hk)]
   ·have hb:(g == k)=false:=beq_eq_false_iff_ne.mpr h
    simp only[List.lookup,hb,if_neg (fun e:g=f=>h (e.trans hk.symm))]
  ·rw[if_neg hk]
   by_cases h:g=k
   ·have hb:(g == k)=true:=beq_iff_eq.mpr h
    simp only[List.lookup,hb,if_neg (fun e:g=f=>hk (h.symm.trans e))]
   ·have hb:(g == k)=false:=beq_eq_false_iff_ne.mpr h
    simp only[List.lookup,hb]
    exact ih
theorem T6 (f:Str) (v:V):∀fs:List (Str × V),f∈(putF f v fs).map (·.1)∧∀g,g∈fs.map (·.1)->g∈(putF f v fs).map (·.1)
 |[]=>⟨by simp[putF],fun g h=>by simp at h⟩
 |(k,x)::r=>by
  obtain ⟨i1,i2⟩:=T6 f v r
  rw[show putF f v ((k,x)::r)=(if k=f then (k,v)::r else (k,x)::putF f v r) from rfl]
  by_cases hk:k=f
  ·rw[if_pos hk]
   subst hk
   exact ⟨by simp,fun g h=>by simpa using h⟩
  ·rw[if_neg hk]
   refine ⟨?_,fun g h=>?_⟩
   ·rw[List.map_cons]
    exact List.mem_cons_of_mem _ i1
   ·rw[List.map_cons]at h ⊢
    rcases List.mem_cons.mp h with e|e
    ·exact List.mem_cons.mpr (.inl e)
    ·exact List.mem_cons_of_mem _ (i2 g e)
theorem SN (f:Str) (v:V):∀fs:List (Str × V),(putF f v fs).length<=fs.length+1
 |[]=>by simp[putF]
 |(k,x)::r=>by
  have ih:=SN f v r
  rw[show putF f v ((k,x)::r)=(if k=f then (k,v)::r else (k,x)::putF f v r) from rfl]
  by_cases hk:k=f
  ·rw[if_pos hk,List.length_cons,List.length_cons]; omega
  ·rw[if_neg hk,List.length_cons,List.length_cons]; omega
theorem RelO.some_of {v:V} {o:Option Value} (r:RelO (some v) o):∃u,o=some u∧RelV v u:=by
 cases o with
 |none=>exact (show False from r).elim
 |some u=>exact ⟨u,rfl,r⟩
theorem RelO.none_of {o:Option Value} (r:RelO none o):o=none:=by
 cases o with
 |none=>rfl
 |some u=>exact (show False from r).elim
theorem JW {v:V} {u:Value} (r:RelV v u):PySem.W.handedIn u=true:=by
 cases v with
 |non=>cases (show u=Value.none from r); rfl
 |bl b=>cases (show u=Value.bool b from r); rfl
 |int i=>obtain ⟨t,e⟩:=(show ∃t,u=Value.int i t from r); cases e; rfl
 |str x=>obtain ⟨t,e⟩:=(show ∃t,u=Value.str x t from r); cases e; rfl
 |byt b=>obtain ⟨t,e⟩:=(show ∃t,u=Value.bytes b t from r); cases e; rfl
 |flt b=>obtain ⟨t,e⟩:=(show ∃t,u=Value.float b t from r); cases e; rfl
 |ref a=>cases (show u=Value.ref a from r); rfl
 |ty n=>cases (show u=Value.type n from r); rfl
section
variable {P:Program} {w:World} {H H':Hp} {h h':Heap} {a C dx:Addr} {fs fs':List (Str × V)}
theorem Rj (hok:HOk P w H h) (e:H a=some (.ins C dx fs)):∃mA,ObjM h a dx C mA∧(∀f,RelO (fs.lookup f) (mA f))∧PySem.Within mA (fs.map (·.1))∧fs.length<=1000∧H dx=some (.own a):=by
 obtain ⟨d,z,ne,ob,mA,n,r,q⟩:=(show ObjOk P w H h a (.ins C dx fs) from hok a _ e)
 exact ⟨mA,⟨ob,n,ne⟩,r,q,z,d⟩
end
structure Cls (K:PySem.W.Frag) (C:Addr):Prop where
 pg:PySem.W.plainGet K C Str.empty=true
 hd:PySem.W.hasDictIn K C=true
 po:PySem.W.plainOver K C=true
 sa:PySem.W.findIn K (.ref C) "__setattr__"=some (some (.builtin "object.__setattr__"))
theorem Cls.get {K:PySem.W.Frag} {C:Addr} (c:Cls K C) (f:Str):PySem.W.plainGet K C f=true:=c.pg
def NoAttr (K:PySem.W.Frag) (C:Addr) (f:Str):Prop:=PySem.W.findIn K (.ref C) f=some none
theorem NoAttr.taker {K:PySem.W.Frag} {C:Addr} {f:Str} (n:NoAttr K C f):PySem.W.takerIn K C f=some none:=by
 unfold PySem.W.takerIn
 rw[show PySem.W.findIn K (.ref C) f=some none from n]
 rfl
structure Con (K:PySem.W.Frag) (C:Addr) (f:Str) (v:V) (u:Value):Prop where
 at_:PySem.W.findIn K (.ref C) f=some (some u)
 rel:RelV v u
 get:PySem.W.specialIn K u "__get__"=some none
 cp:PySem.W.copiedNames.contains f=false
structure Meth (K:PySem.W.Frag) (C:Addr) (m:Str) (f:Addr):Prop where
 at_:PySem.W.findIn K (.ref C) m=some (some (.ref f))
 fn:PySem.W.isFn K (.ref f)=true
 kp:PySem.W.keepIn K (.ref f)=true
section
variable {X:Cx} {pins:List (Addr × Obj)} {σ:St} {H:Hp} {s:Shared} {a C dx:Addr} {fs:List (Str × V)} {f:Str} {v:V} {A:Around} {E:Value->Shared->Prop}
theorem LE {b:Bool} {Q:Value->Shared->Prop} (I:Inv X pins σ H s) (e:H a=some (.ins C dx fs)) (c:Cls X.K C) (n:NoAttr X.K C f) (l:fs.lookup f=some v)
    (h:∀u s',Inv X pins σ H s'->RelV v u->Q u s'):wpAny (model X.prog X.w) A (getAttr (.ref a) f b) Q E s:=by
 obtain ⟨mA,O,r,_,_,_⟩:=Rj I.hok e
 obtain ⟨u,hu,ru⟩:=RelO.some_of (v:=v) (o:=mA f) (by rw[← l]; exact r f)
 exact EB I.kIn O (c.get f) c.hd n hu (JW ru) (h u _ (I.tok _) ru)
theorem Qf {m:Str} {g:Addr} {pl:Sem Bool} {Q:Value × List Value->Shared->Prop} (I:Inv X pins σ H s) (e:H a=some (.ins C dx fs)) (c:Cls X.K C) (k:Meth X.K C m g) (l:fs.lookup m=none)
    (h:Q (.ref g,[.ref a]) s):wpAny (model X.prog X.w) A (getMethod (.ref a) m pl) Q E s:=by
 obtain ⟨mA,O,r,_,_,_⟩:=Rj I.hok e
 have hn:mA m=none:=RelO.none_of (by rw[← l]; exact r m)
 exact GV I.kIn O (c.get m) k.at_ k.fn hn h
theorem L1 {y:V} {u:Value} {Q:Unit->Shared->Prop} (I:Inv X pins σ H s) (e:H a=some (.ins C dx fs)) (c:Cls X.K C) (n:NoAttr X.K C f) (hl:fs.length < 1000) (ry:RelV y u)
    (h:∀s',Inv X pins σ (upd H a (.ins C dx (putF f y fs))) s'->Q () s'):wpAny (model X.prog X.w) A (setAttr (.ref a) f u) Q E s:=by
 obtain ⟨mA,O,r,wi,_,ho⟩:=Rj I.hok e
 have hz:(fs.map (·.1)).length<=sizeLine:=by rw[List.length_map,sizeLine_eq]; omega
 refine Eo I.kIn O c.sa c.po n.taker c.hd wi hz fun h' O' sb=>h _ ?_
 have hd:∃o,h'.get? dx=some o:=let ⟨o,_,_,e',_⟩:=O'.ns; ⟨o,e'⟩
 refine I.write (x:=a) (e:=dx) (by rw[e]; exact True.intro) (.inr ho) (fun b q hb z=>(sb.2 b hb).trans z) hd ?_
 refine ⟨by rw[Zz O.ne]; exact ho,?_,O.ne,O'.obj,_,O'.ns,fun g=>?_,fun g hg=>?_⟩
 ·have:=SN f y fs; omega
 ·show RelO ((putF f y fs).lookup g) (if g=f then some u else mA g)
  rw[SO]
  by_cases q:g=f
  ·rw[if_pos q,if_pos q]; exact ry
  ·rw[if_neg q,if_neg q]; exact r g
 ·by_cases q:g=f
  ·rw[q]; exact (T6 f y fs).1
  ·refine (T6 f y fs).2 g (wi g fun z=>hg ?_)
   show (if g=f then some u else mA g)=none
   rw[if_neg q]; exact z
theorem Inv.made (I:Inv X pins σ H s):Inv X pins σ (upd (upd H s.heap.objs.size (.own (s.heap.objs.size+1))) (s.heap.objs.size+1) (.ins C s.heap.objs.size []))
    { s with heap:=(s.heap.push PySem.W.emptyDict).push (PySem.W.instObj C s.heap.objs.size) }:=by
 have e1:(s.heap.push PySem.W.emptyDict).get? s.heap.objs.size=some PySem.W.emptyDict:=Heap.get?_push_size s.heap rfl
 have e2:((s.heap.push PySem.W.emptyDict).push (PySem.W.instObj C s.heap.objs.size)).get? (s.heap.objs.size+1)=some (PySem.W.instObj C s.heap.objs.size):=by
  have:=Heap.get?_push_size (s.heap.push PySem.W.emptyDict) (o:=PySem.W.instObj C s.heap.objs.size) rfl
  rwa [Heap.size_push]at this
 have e3:(s.heap.push PySem.W.emptyDict).Ns s.heap.objs.size (fun _=>none):=⟨PySem.W.emptyDict,#[],_,e1,rfl,(fun e he=>absurd he (by simp)),fun _=>rfl⟩
 have I1:=I.laid (a:=s.heap.objs.size) (o:=.own (s.heap.objs.size+1)) (h':=s.heap.push PySem.W.emptyDict) (t':=s.toks) (fun b u q=>Heap.get?_push_of_some _ q) (Nat.le_refl _) ⟨_,e1⟩
 refine I1.laid (a:=s.heap.objs.size+1) (o:=.ins C s.heap.objs.size []) (t':=s.toks) (fun b u q=>Heap.get?_push_of_some _ q) (Nat.le_of_eq (Heap.size_push _ _)) ?_
 have ne:s.heap.objs.size≠s.heap.objs.size+1:=Nat.ne_of_lt (Nat.lt_succ_self _)
 refine ⟨by rw[Zz ne,ZH],Nat.zero_le _,ne,e2,fun _=>none,(Heap.Ns1.of_empty e3).at fun o q=>Heap.get?_push_of_some _ q,fun _=>True.intro,fun y hy=>absurd rfl hy⟩
theorem Ed {prog:Program} {w:World} {env:Env} {e:Expr} {f:Str} {pos:Pos} {s:Shared} {Q:Value->Shared->Prop} (hb:attributeBase e f env (eval e env)=eval e env)
    (h:wpAny (model prog w) A (eval e env) (fun o s₁=>wpAny (model prog w) A (getAttr o f true) Q E s₁) E s):wpAny (model prog w) A (eval (.Attribute e f pos) env) Q E s :=
 Attribute_any_ h (by rw[arm_eval_Attribute,hb])
end
def tFld (K:PySem.W.Frag) (ta:TE) (f:Str):TE:=fun σ H Q=>ta σ H fun x H1=>∃a C dx fs v,x=.ref a∧H1 a=some (.ins C dx fs)∧Cls K C∧NoAttr K C f∧fs.lookup f=some v∧Q v H1
def sFld (K:PySem.W.Frag) (ta tv:TE) (f:Str):TS:=fun D σ H=>tv σ H fun y H1=>ta σ H1 fun x H2=>∃a C dx fs,x=.ref a∧H2 a=some (.ins C dx fs)∧Cls K C∧NoAttr K C f∧fs.length < 1000 ∧
 D.nx σ (upd H2 a (.ins C dx (putF f y fs)))
section
variable {X:Cx} {o e value:Expr} {f:Str} {pos pos' tpos:Pos} {ta tv:TE}
theorem CD (he:PE X e ta) (hb:attributeBase e f X.env (eval e X.env)=eval e X.env):PE X (.Attribute e f pos) (tFld X.K ta f):=by
 intro pins s σ H Q I h
 refine Ed hb (thn (he pins s σ H _ I h) fun u s1 ⟨x,H1,I1,rx,a,C,dx,fs,v,ex,ea,c,n,l,q⟩=>?_)
 subst ex
 obtain rfl:u=Value.ref a:=rx
 exact LE I1 ea c n l fun u' s2 I2 ru=>⟨v,H1,I2,ru,q⟩
theorem CP (ha:PE X o ta) (hv:PE X value tv) (hs:swapsWith value (some (.Attribute o f pos')) pos.line X.env=pure false):PS X (.Assign [.Attribute o f pos'] value pos) (sFld X.K ta tv f):=by
 intro pins s σ H D I h
 refine plainObj_wpAny_Assign_Attribute (thn (hv pins s σ H _ I h) fun u s1 ⟨y,H1,I1,ry,q⟩=>thn (ha pins s1 σ H1 _ I1 q) fun ov s2 ⟨x,H2,I2,rx,a,C,dx,fs,ex,ea,c,n,l,q2⟩=>?_) hs
 subst ex
 obtain rfl:ov=Value.ref a:=rx
 exact L1 I2 ea c n l ry fun s3 I3=>⟨σ,_,I3,q2⟩
end
section
variable {X:Cx} {pins:List (Addr × Obj)} {σ:St} {H:Hp} {s:Shared} {A:Around} {E:Value->Shared->Prop} {Q:Value->Shared->Prop} {c:Value} {b:Bool}
inductive TyOf (K:PySem.W.Frag) (H:Hp):V->Value->Prop where
 |non:TyOf K H .non (.type "NoneType")
 |bl (x:Bool):TyOf K H (.bl x) (.type "bool")
 |int (i:Int):TyOf K H (.int i) (.type "int")
 |str (x:Str):TyOf K H (.str x) (.type "str")
 |flt (x:UInt64):TyOf K H (.flt x) (.type "float")
 |lst {a:Addr} {xs:List V} (e:H a=some (.lst xs)):TyOf K H (.ref a) (.type "list")
 |frz {a:Addr} {o:Obj} {xs:List V} (e:H a=some (.frz o (.lst xs))):TyOf K H (.ref a) (.type "list")
 |mtup {a:Addr} {o:Obj} (e:K.lookup a=some o) (hc:o.cls=.type "tuple"):TyOf K H (.ref a) (.type "tuple")
 |tup {a:Addr} {xs:List V} (e:H a=some (.tup xs)):TyOf K H (.ref a) (.type "tuple")
 |dK {a:Addr} {kvs:List (Key × V)} (e:H a=some (.dK kvs)):TyOf K H (.ref a) (.type "dict")
 |dT {a:Addr} {kvs:List (List Key × V)} (e:H a=some (.dT kvs)):TyOf K H (.ref a) (.type "dict")
 | ins {a C dx : Addr} {fs : List (Str × V)} (e : H a = some (.ins C dx fs)) (cl : Cls K C) (ha : PySem.W.findIn K (.ref C) "__class__" = some (some (.builtin "object.__class__")))
     (hn:PySem.W.specialIn K (.builtin "object.__class__") "__get__"=some (some (.builtin "getset_descriptor.__get__"))) (htk:PySem.W.takesIn K (.builtin "object.__class__")=some true)
     (hm:PySem.W.mroIn K C (.type "object")=some true):TyOf K H (.ref a) (.ref C)
theorem Iw {x:V} {u t:Value} (I:Inv X pins σ H s) (rx:RelV x u) (ty:TyOf X.K H x t) (e:PySem.W.kitOne X.K t c=some b) (h:∀tk,Q (.bool b) { s with toks:=tk }) :
    wpAny (model X.prog X.w) A (call (.builtin "isinstance") [u,c]) Q E s:=by
 cases ty with
 |non=>cases (show u=Value.none from rx); exact PySem.W.kia_one PySem.W.kitx_none I.kIn True.intro e (fun z=>nomatch z) h
 |bl y=>cases (show u=Value.bool y from rx); exact PySem.W.kia_one PySem.W.kitx_bool I.kIn True.intro e (fun z=>nomatch z) h
 |int i=>obtain ⟨t,q⟩:=(show ∃t,u=Value.int i t from rx); cases q; exact PySem.W.kia_one PySem.W.kitx_int I.kIn True.intro e (fun z=>nomatch z) h
 |str y=>obtain ⟨t,q⟩:=(show ∃t,u=Value.str y t from rx); cases q; exact PySem.W.kia_one PySem.W.kitx_str I.kIn True.intro e (fun z=>nomatch z) h
 |flt y=>obtain ⟨t,q⟩:=(show ∃t,u=Value.float y t from rx); cases q; exact PySem.W.kia_one PySem.W.kitx_float I.kIn True.intro e (fun z=>nomatch z) h
 |@lst a xs ea =>
  cases (show u=Value.ref a from rx)
  obtain ⟨_,_,n,_,h1⟩:=(show ObjOk X.prog X.w H s.heap a (.lst xs) from I.hok a _ ea)
  exact PySem.W.kia_one PySem.W.kitx_list I.kIn ⟨_,h1,rfl⟩ e (fun z=>nomatch z) h
 |@frz a ob xs ea =>
  cases (show u=Value.ref a from rx)
  obtain ⟨_,_,_,n,_,h1⟩:=(show ObjOk X.prog X.w H s.heap a (.frz ob (.lst xs)) from I.hok a _ ea)
  exact PySem.W.kia_one PySem.W.kitx_list I.kIn ⟨_,h1,rfl⟩ e (fun z=>nomatch z) h
 |@mtup a o ea hc =>
  cases (show u=Value.ref a from rx)
  exact PySem.W.kia_one PySem.W.kitx_tuple I.kIn ⟨o,I.kIn a o ea,hc⟩ e (fun z=>nomatch z) h
 |@tup a xs ea =>
  cases (show u=Value.ref a from rx)
  obtain ⟨_,_,_,p⟩:=(show ObjOk X.prog X.w H s.heap a (.tup xs) from I.hok a _ ea)
  obtain ⟨o,h1,h2,_⟩:=p
  exact PySem.W.kia_one PySem.W.kitx_tuple I.kIn ⟨o,h1,h2⟩ e (fun z=>nomatch z) h
 |@dK a kvs ea =>
  cases (show u=Value.ref a from rx)
  obtain ⟨_,_,vs,_,p⟩:=(show ObjOk X.prog X.w H s.heap a (.dK kvs) from I.hok a _ ea)
  obtain ⟨o,es,ep,h1,h2,_⟩:=p
  exact PySem.W.kia_one PySem.W.kitx_dict I.kIn ⟨o,h1,h2.1⟩ e (fun z=>nomatch z) h
 |@dT a kvs ea =>
  cases (show u=Value.ref a from rx)
  obtain ⟨_,_,xs,_,o,es,ep,h1,h2,_⟩:=(show ObjOk X.prog X.w H s.heap a (.dT kvs) from I.hok a _ ea)
  exact PySem.W.kia_one PySem.W.kitx_dict I.kIn ⟨o,h1,h2.1⟩ e (fun z=>nomatch z) h
 |@ins a C dx fs ea cl ha hn htk hm =>
  cases (show u=Value.ref a from rx)
  obtain ⟨mA,O,_⟩:=Rj I.hok ea
  obtain ⟨od,J,_⟩:=O.look
  exact PySem.W.kia_one (PySem.W.kitx_own (cl.get _) cl.hd ha hn htk hm) I.kIn J e (fun z=>nomatch z) h
end
open PySem PySem.Spec PyProof.Rows
structure Room (k:Nat) (A:Around):Prop where
 hd:A.handled=none
 dp:A.depth+3 * k+5 < recursionLimit
 un:A.units+16 * k+200 < cLine
theorem Room.mono {j k:Nat} {A:Around} (r:Room k A) (h:j<=k):Room j A:=⟨r.hd,by have:=r.dp; omega,by have:=r.un; omega⟩
theorem Room.deeper {k:Nat} {A:Around} (r:Room (k+1) A) (env:Env):Room k (A.deeper env) :=
 ⟨r.hd,by have:=r.dp; show A.depth+1+3 * k+5 < _; omega,by have:=r.un; show A.units+3+16 * k+200 < _; omega⟩
theorem Lw {A:Around} {C:Addr} {us:List Value} {kw:List (Str × Value)}:(A.under (.builtin "type.__call__" ⟨.ref C::us,kw⟩)).depth=A.depth+1:=by
 first|rfl|simp[Around.under,Code.weight,Code.isCreation,Code.isGuard,Code.isCaller,Code.frames,Code.isFrame,guardIds]
theorem L9 {A:Around} {C:Addr} {us:List Value} {kw:List (Str × Value)}:(A.under (.builtin "type.__call__" ⟨.ref C::us,kw⟩)).units=A.units+1:=by
 first|rfl|simp[Around.under,Code.cUnits,Code.frames,Code.isFrame]
theorem Room.make {k:Nat} {A:Around} (r:Room (k+1) A) (C:Addr) (us:List Value) (kw:List (Str × Value)):Room k (A.under (.builtin "type.__call__" ⟨.ref C::us,kw⟩)) :=
 ⟨r.hd,by have:=r.dp; rw[Lw]; omega,by have:=r.un; rw[L9]; omega⟩
theorem Room.depth {k:Nat} {A:Around} (r:Room k A):A.depth < recursionLimit:=by have:=r.dp; omega
theorem Room.units {k:Nat} {A:Around} (r:Room k A):A.units+64 < cLine:=by have:=r.un; omega
def Bp:TA:=fun _ H Q=>Q [] H
def BX (ta:TE) (tr:TA):TA:=fun σ H Q=>ta σ H fun x H1=>tr σ H1 fun xs H2=>Q (x::xs) H2
section
variable {X:Cx} {e:Expr} {es:List Expr} {te:TE} {t:TA} {pos:Pos}
theorem VQ:PA X [] Bp:=fun _ _ _ _ H Q I h=>Calls.spliced_nil ⟨[],H,I,.nil,h⟩
theorem XY (ha:PE X e te) (hr:PA X es t) (hs:starEach (e::es) X.env=(false,eval e X.env)::starEach es X.env:=by rfl):PA X (e::es) (BX te t):=by
 intro pos pins s σ H Q I h
 rw[hs]
 show wpAny _ _ (spliced ((false,eval e X.env)::backTo pos (starEach es X.env))) _ _ s
 refine Calls.spliced_cons (thn (ha pins s σ H _ I h) fun u s1 ⟨x,H1,I1,r1,q1⟩=>?_)
 exact thn (hr pos pins s1 σ H1 _ I1 q1) fun us s2 ⟨xs,H2,I2,r2,q2⟩=>⟨x::xs,H2,I2,.cons r1 r2,q2⟩
def tTup (t:TA):TE:=fun σ H Q=>t σ H fun xs H1=>xs.length<=sizeLine∧∀p,H1 p=none->Q (.ref p) (upd H1 p (.tup xs))
def tLst (t:TA):TE:=fun σ H Q=>t σ H fun xs H1=>xs.length<=sizeLine∧∀p,H1 p=none->Q (.ref p) (upd H1 p (.lst xs))
theorem BF {x1} (h:PA X es t):PE X (.Tuple es x1 pos) (tTup t):=by
 intro pins s σ H Q I hq
 refine wpAny_Tuple_spliced (thn (h pos pins s σ H _ I hq) fun us s1 ⟨xs,H1,I1,r,z,q⟩=>⟨by rw[← r.length]; exact z,?_⟩)
 have hf:H1 s1.heap.objs.size=none:=I1.hok.fresh (Nat.le_refl _)
 refine ⟨.ref s1.heap.objs.size,upd H1 s1.heap.objs.size (.tup xs),I1.laid (t':=s1.toks) (fun b u e=>Heap.get?_push_of_some _ e) (Nat.le_refl _) ?_,rfl,q _ hf⟩
 exact ⟨z,us,r,⟨_,Heap.get?_push_size _ rfl,rfl,_,rfl⟩⟩
theorem LP (h:PA X es t):PE X (.List es pos) (tLst t):=by
 intro pins s σ H Q I hq
 refine wpAny_List_spliced (thn (h pos pins s σ H _ I hq) fun us s1 ⟨xs,H1,I1,r,z,q⟩=>⟨by rw[← r.length]; exact z,?_⟩)
 have hf:H1 s1.heap.objs.size=none:=I1.hok.fresh (Nat.le_refl _)
 refine ⟨.ref s1.heap.objs.size,upd H1 s1.heap.objs.size (.lst xs),I1.laid (t':=s1.toks) (fun b u e=>Heap.get?_push_of_some _ e) (Nat.le_refl _) ?_,rfl,q _ hf⟩
 exact ⟨z,us,0,r,Heap.get?_push_size _ rfl⟩
end
abbrev Sp:=List V->Hp->VK->XK->Prop
abbrev CXT:=List Env->Hp->Shared->XK->Value->Shared->Prop
structure Env0 (P:Program) (w:World) (K:PySem.W.Frag) (mg:Str->Option Value) (base:Heap) (A:Around) (outer:List Env) (s:Shared) (H:Hp):Prop where
 frames:A.frames=some outer
 mod:Mod K mg base
 bs:∀b o,base.get? b=some o->s.heap.get? b=some o∧H b=none
 bsz:base.objs.size<=s.heap.objs.size
 funs:s.heap.FunFrames base outer
 frf:∀b∈frs outer,H b=none
 hok:HOk P w H s.heap
 bare:AllBare s.gens
def CE (outer:List Env) (P:Program) (w:World) (H:Hp) (s:Shared) (Q:VK) (u:Value) (s':Shared):Prop :=
 ∃v H',s'.os=s.os∧AllBare s'.gens∧Un (frs outer) [] H H' s.heap s'.heap∧HOk P w H' s'.heap∧RelV v u∧Q v H'
def CR (CX:CXT) (outer:List Env) (P:Program) (w:World) (H:Hp) (s:Shared) (Q:VK) (E:XK) (r:Result) (s':Shared):Prop :=
 match r with
 |.ok (.ret u)=>CE outer P w H s Q u s'
 |.ok _=>False
 |.error e=>CX outer H s E e s'
structure FnOk (P:Program) (w:World) (K:PySem.W.Frag) (mg:Str->Option Value) (base:Heap) (CX:CXT) (k:Nat) (f:Addr) (fd:FuncData) (ps:List Str) (sp:Sp):Prop where
 len:∀vs H Q E,sp vs H Q E->vs.length=ps.length
 run:∀(A:Around) (outer:List Env) (s:Shared) (H:Hp) (args:Args) (us:List Value) (vs:List V) (Q:VK) (E:XK),Room k A->Env0 P w K mg base A outer s H->BindsTo s fd args (ps.zip us)->Vals vs us->sp vs H Q E ->
  codeAny (model P w) A (.call (.ref f) args) (CR CX outer P w H s Q E) s
theorem FnOk.imp {P:Program} {w:World} {K:PySem.W.Frag} {mg:Str->Option Value} {base:Heap} {CX:CXT} {k:Nat} {f:Addr} {fd:FuncData} {ps:List Str} {sp sp':Sp} (F:FnOk P w K mg base CX k f fd ps sp)
    (h:∀vs H Q E,sp' vs H Q E->sp vs H Q E):FnOk P w K mg base CX k f fd ps sp' :=
 ⟨fun vs H Q E q=>F.len vs H Q E (h _ _ _ _ q),fun A outer s H args us vs Q E hr he hb hv hs=>F.run A outer s H args us vs Q E hr he hb hv (h _ _ _ _ hs)⟩
theorem Env0.make {P:Program} {w:World} {K:PySem.W.Frag} {mg:Str->Option Value} {base:Heap} {A:Around} {outer:List Env} {s:Shared} {H:Hp} (e:Env0 P w K mg base A outer s H) (C:Addr) (us:List Value) (kw:List (Str × Value)) :
    Env0 P w K mg base (A.under (.builtin "type.__call__" ⟨.ref C::us,kw⟩)) outer s H:=⟨by first|exact e.frames|(simpa [Around.under,Code.envs,Code.isFrame,pushEnvs] using e.frames),e.mod,e.bs,e.bsz,e.funs,e.frf,e.hok,e.bare⟩
section
variable {X:Cx} {pins:List (Addr × Obj)} {σ:St} {H:Hp} {s s':Shared}
theorem Inv.env0 (I:Inv X pins σ H s):Env0 X.prog X.w X.K X.mg X.base X.A X.stack s H :=
 ⟨I.ok.frames,I.ok.mod,I.bs,Nat.le_trans I.ok.bsz I.sz,I.stack,I.stkFree,I.hok,I.bare⟩
theorem Inv.after {Q:VK} {u:Value} (I:Inv X pins σ H s) (h:CE X.stack X.prog X.w H s Q u s'):EP X pins σ Q u s':=by
 obtain ⟨v,H',os,bare,un,hok,r,q⟩:=h
 obtain ⟨hh,g,d,t,os'⟩:=s'
 obtain rfl:os'=s.os:=os
 exact ⟨v,H',I.call (h':=hh) (g':=g) (d':=d) (t':=t) (ch:=[]) un hok bare (fun b z=>absurd z (by simp)),r,q⟩
end
def AY (sp:Sp) (dvs:List V) (E:XK) (t:TA):TE:=fun σ H Q=>t σ H fun vs H1=>sp (vs++dvs) H1 Q E
def Hb (C:Addr) (m:Str) (sp:Sp) (dvs:List V) (E:XK) (ta:TE) (t:TA):TE:=fun σ H Q=>ta σ H fun x H1=>∃a dx fs,x=.ref a∧H1 a=some (.ins C dx fs)∧fs.lookup m=none ∧
 t σ H1 fun vs H2=>sp (x::(vs++dvs)) H2 Q E
def Ax (C:Addr) (sp:Sp) (dvs:List V) (E:XK) (t:TA):TE:=fun σ H Q=>t σ H fun vs H1=>∀x dx,H1 x=none->H1 dx=none->dx≠x ->
 sp (.ref x::(vs++dvs)) (upd (upd H1 dx (.own x)) x (.ins C dx [])) (fun v H2=>v=.non∧Q (.ref x) H2) E
def Binds (K:PySem.W.Frag) (fd:FuncData) (ps:List Str) (ds:List Value):Prop :=
 ∀(s:Shared) (us:List Value),K.In s.heap->(us++ds).length=ps.length->BindsTo s fd ⟨us,[]⟩ (ps.zip (us++ds))
theorem Binds.all {K:PySem.W.Frag} {fd:FuncData} {ps:List Str} (h:∀us:List Value,us.length=ps.length->bindArgs fd ⟨us,[]⟩=pure (ps.zip us)):Binds K fd ps []:=fun s us _ hl=>by
 rw[List.append_nil]at hl ⊢
 exact .of_eq (h us hl)
def Wt (CX:CXT) (X:Cx) (E:XK):Prop:=∀(pins:List (Addr × Obj)) (σ:St) (H:Hp) (s:Shared) (e:Value) (s':Shared),Inv X pins σ H s->CX X.stack H s E e s'->X.xe e s'
section
variable {X:Cx} {CX:CXT} {k:Nat} {f C:Addr} {fd:FuncData} {ps:List Str} {sp:Sp} {dvs:List V} {ds:List Value} {E:XK} {x m:Str} {p pos apos:Pos} {e o:Expr} {es:List Expr} {ta:TE} {t:TA}
theorem LJ {pins:List (Addr × Obj)} {σ:St} {H:Hp} {s:Shared} {Q:VK} {us:List Value} {vs:List V} (F:FnOk X.prog X.w X.K X.mg X.base CX k f fd ps sp) (hr:Room k X.A) (hb:Binds X.K fd ps ds) (hd:Vals dvs ds) (hx:Wt CX X E)
    (I:Inv X pins σ H s) (r:Vals vs us) (h:sp (vs++dvs) H Q E):wpAny (model X.prog X.w) X.A (call (.ref f) us) (EP X pins σ Q) X.xe s:=by
 have r2:Vals (vs++dvs) (us++ds):=r.append hd
 have hl:(us++ds).length=ps.length:=by rw[← r2.length]; exact F.len _ _ _ _ h
 refine wpAny_call (codeAny_mono (F.run X.A X.stack s H ⟨us,[]⟩ (us++ds) (vs++dvs) Q E hr I.env0 (hb s us I.kIn hl) r2 h) fun r s' hq=>?_)
 cases r with
 |error e=>exact hx pins σ H s e s' I hq
 |ok fl =>
  cases fl with
  |ret u=>exact I.after hq
  |next=>exact False.elim hq
  |brk=>exact False.elim hq
  |cont=>exact False.elim hq
theorem Ei (F:FnOk X.prog X.w X.K X.mg X.base CX k f fd ps sp) (hr:Room k X.A) (hg:Gl X x) (hm:X.mg x=some (.ref f)) (hk:PySem.W.keepIn X.K (.ref f)=true) (hb:Binds X.K fd ps ds) (hd:Vals dvs ds) (hx:Wt CX X E)
    (ha:PA X (e::es) t) (hdb:(x == ("__debug__":Str))=false:=by decide) (he:starEach (e::es) X.env=(false,eval e X.env)::starEach es X.env:=by rfl) (hpl:(backTo pos (starEach es X.env)).any (·.1)=false:=by rfl) :
    PE X (.Call (.Name x p) (e::es) [] pos) (AY sp dvs E t):=by
 intro pins s σ H Q I h
 refine wpAny_Call_Name_kw (Re I hg hm ?_ hdb)
 refine PySem.W.callWith_K (h₀:=X.base) I.ok.mod.kin hk (thn (ha pos pins s σ H _ I h) fun us s1 ⟨vs,H1,I1,r,q⟩=>⟨I1.kIn,?_⟩) he hpl
 exact LJ F hr hb hd hx I1 r q
theorem F6 {pl:Sem Bool} (he:PE X o ta) (c:Cls X.K C) (hm:Meth X.K C m f) (F:FnOk X.prog X.w X.K X.mg X.base CX k f fd ps sp) (hr:Room k X.A) (hb:Binds X.K fd ps ds) (hd:Vals dvs ds) (hx:Wt CX X E) (ha:PA X (e::es) t)
    (hst:starEach (e::es) X.env=(false,eval e X.env)::starEach es X.env:=by rfl) (hpl:(backTo pos (starEach es X.env)).any (·.1)=false:=by rfl)
    (ht:eval (.Call (.Attribute o m apos) (e::es) [] pos) X.env=(do
     let ov ← eval o X.env
     standAt apos.atName
     let (f,first) ← holding [ov] (getMethod ov m pl)
     callWith pos f first (backTo pos (starEach (e::es) X.env)) (backToKw pos (keywordEach [] X.env))):=by rfl) :
    PE X (.Call (.Attribute o m apos) (e::es) [] pos) (Hb C m sp dvs E ta t):=by
 intro pins s σ H Q I h
 refine PySem.W.methodCall_KW (pl:=pl) (thn (he pins s σ H _ I h) fun u s1 ⟨x,H1,I1,rx,a,dx,fs,ex,ea,l,q⟩=>?_) ht
 subst ex
 obtain rfl:u=Value.ref a:=rx
 refine Qf I1 ea c hm l ?_
 refine PySem.W.callWith_K (first:=[.ref a]) (h₀:=X.base) I.ok.mod.kin hm.kp (thn (ha pos pins s1 σ H1 _ I1 q) fun us s2 ⟨vs,H2,I2,r,q2⟩=>⟨I2.kIn,?_⟩) hst hpl
 exact LJ (us:=.ref a::us) (vs:=.ref a::vs) F hr hb hd hx I2 (.cons rfl r) q2
theorem Gw {pl:Sem Bool} (he:PE X o ta) (c:Cls X.K C) (hm:Meth X.K C m f) (F:FnOk X.prog X.w X.K X.mg X.base CX k f fd ps sp) (hr:Room k X.A) (hb:Binds X.K fd ps ds) (hd:Vals dvs ds) (hx:Wt CX X E)
    (ht:eval (.Call (.Attribute o m apos) [] [] pos) X.env=(do
     let ov ← eval o X.env
     standAt apos.atName
     let (f,first) ← holding [ov] (getMethod ov m pl)
     callWith pos f first (backTo pos (starEach [] X.env)) (backToKw pos (keywordEach [] X.env))):=by rfl) :
    PE X (.Call (.Attribute o m apos) [] [] pos) (Hb C m sp dvs E ta Bp):=by
 intro pins s σ H Q I h
 refine PySem.W.methodCall_KW (pl:=pl) (thn (he pins s σ H _ I h) fun u s1 ⟨x,H1,I1,rx,a,dx,fs,ex,ea,l,q⟩=>?_) ht
 subst ex
 obtain rfl:u=Value.ref a:=rx
 refine Qf I1 ea c hm l ?_
 exact PySem.W.callWith_K0 (first:=[.ref a]) I1.kIn hm.kp (LJ (us:=[.ref a]) (vs:=[.ref a]) F hr hb hd hx I1 (.cons rfl .nil) q)
structure Mk (K:PySem.W.Frag) (C f:Addr):Prop where
 makes:PySem.W.makesIn K C=true
 init:PySem.W.findIn K (.ref C) "__init__"=some (some (.ref f))
 fn:PySem.W.isFn K (.ref f)=true
 kp:PySem.W.keepIn K (.ref C)=true
theorem Gu {pins:List (Addr × Obj)} {σ:St} {H:Hp} {s:Shared} {Q:VK} {us:List Value} {vs:List V} (M:Mk X.K C f) (F:FnOk X.prog X.w X.K X.mg X.base CX k f fd ps sp) (hr:Room (k+1) X.A) (hb:Binds X.K fd ps ds) (hd:Vals dvs ds)
    (hx:Wt CX X E) (I:Inv X pins σ H s) (r:Vals vs us)
    (h:∀x dx,H x=none->H dx=none->dx≠x->sp (.ref x::(vs++dvs)) (upd (upd H dx (.own x)) x (.ins C dx [])) (fun v H2=>v=.non∧Q (.ref x) H2) E) :
    wpAny (model X.prog X.w) X.A (call (.ref C) us) (EP X pins σ Q) X.xe s:=by
 have hq:=h (s.heap.objs.size+1) s.heap.objs.size (I.hok.fresh (Nat.le_succ _)) (I.hok.fresh (Nat.le_refl _)) (Nat.ne_of_lt (Nat.lt_succ_self _))
 have I2:=Inv.made (C:=C) I
 have r2:Vals (V.ref (s.heap.objs.size+1)::(vs++dvs)) (Value.ref (s.heap.objs.size+1)::(us++ds)):=.cons rfl (r.append hd)
 have hl:(Value.ref (s.heap.objs.size+1)::us++ds).length=ps.length:=by
  have e:=r2.length
  rw[F.len _ _ _ _ hq]at e
  exact e.symm
 refine wpAny_call (HX (f:=f) I.kIn M.makes M.init (beq_iff_eq.mp M.fn) (codeAny_mono (F.run _ X.stack _ _ ⟨Value.ref (s.heap.objs.size+1)::us,[]⟩ (Value.ref (s.heap.objs.size+1)::(us++ds)) _ _ E (hr.make C us [])
  (I2.env0.make C us []) (hb _ (Value.ref (s.heap.objs.size+1)::us) I2.kIn hl) r2 hq) fun r s' hq'=>?_))
 cases r with
 |error e=>exact hx pins σ _ _ e s' I2 hq'
 |ok fl =>
  cases fl with
  |ret u =>
   obtain ⟨v,H',I3,rv,ev,q3⟩:=I2.after hq'
   subst ev
   exact ⟨rv,⟨V.ref (s.heap.objs.size+1),H',I3,rfl,q3⟩⟩
  |next=>exact False.elim hq'
  |brk=>exact False.elim hq'
  |cont=>exact False.elim hq'
theorem FF (M:Mk X.K C f) (F:FnOk X.prog X.w X.K X.mg X.base CX k f fd ps sp) (hr:Room (k+1) X.A) (hg:Gl X x) (hm:X.mg x=some (.ref C)) (hb:Binds X.K fd ps ds) (hd:Vals dvs ds) (hx:Wt CX X E)
    (ha:PA X (e::es) t) (hdb:(x == ("__debug__":Str))=false:=by decide) (he:starEach (e::es) X.env=(false,eval e X.env)::starEach es X.env:=by rfl) (hpl:(backTo pos (starEach es X.env)).any (·.1)=false:=by rfl) :
    PE X (.Call (.Name x p) (e::es) [] pos) (Ax C sp dvs E t):=by
 intro pins s σ H Q I h
 refine wpAny_Call_Name_kw (Re I hg hm ?_ hdb)
 refine PySem.W.callWith_K (h₀:=X.base) I.ok.mod.kin M.kp (thn (ha pos pins s σ H _ I h) fun us s1 ⟨vs,H1,I1,r,q⟩=>⟨I1.kIn,?_⟩) he hpl
 exact Gu M F hr hb hd hx I1 r q
end
section
variable {X:Cx} {CX:CXT} {k:Nat} {f C:Addr} {fd:FuncData} {ps ks:List Str} {sp:Sp} {E:XK} {x m:Str} {p pos apos kpos:Pos} {e o:Expr} {es:List Expr} {kws:List Keyword} {te ta:TE} {t tk:TA} {nm:Option Str}
structure KBinds (K:PySem.W.Frag) (fd:FuncData) (ps ks:List Str) (g:List Value->List Value->List Value) (gV:List V->List V->List V):Prop where
 to:∀(s:Shared) (us ws:List Value),K.In s.heap->(g us ws).length=ps.length->BindsTo s fd ⟨us,ks.zip ws⟩ (ps.zip (g us ws))
 rel:∀{vs:List V} {us:List Value} {zs:List V} {ws:List Value},Vals vs us->Vals zs ws->Vals (gV vs zs) (g us ws)
variable {g:List Value->List Value->List Value} {gV:List V->List V->List V}
end
structure FnScope (N P:List Str) (sc:Scope):Prop where
 kind:sc.kind=.function
 co:sc.isCoroutine=false
 gen:sc.isGenerator=false
 nd:N.Nodup
 pre:N.take P.length=P
 par:∀x∈P,sc.names.lookup x=some .local∨sc.names.lookup x=some .cell
 nofree:∀y∈sc.names,y.2≠.free
theorem Og {kindOf:Str->Option NameKind} {x:Str}:∀{binds:List (Str × Value)} {m:Str->Option Value},(∀v,(x,v) ∉ binds)->bindL kindOf binds m x=m x
 |[],_,_=>rfl
 |(n,v)::r,m,h=>by
  unfold bindL
  rw[Og fun w hw=>h w (List.mem_cons_of_mem _ hw)]
  split
  ·have:x≠n:=by rintro rfl; exact h v List.mem_cons_self
   simp[this]
  ·rfl
theorem Oo {kindOf:Str->Option NameKind} {x:Str}:∀{binds:List (Str × Value)} {m:Str->Option Value},(∀v,(x,v) ∉ binds)->bindC kindOf binds m x=m x
 |[],_,_=>rfl
 |(n,v)::r,m,h=>by
  unfold bindC
  rw[Oo fun w hw=>h w (List.mem_cons_of_mem _ hw)]
  split
  ·rfl
  ·have:x≠n:=by rintro rfl; exact h v List.mem_cons_self
   simp[this]
theorem OK {kindOf:Str->Option NameKind} {x:Str} {v:Value}:∀{P:List Str} {vs:List Value} {i:Nat} {m:Str->Option Value},P.Nodup->P[i]?=some x->vs[i]?=some v->kindOf x=some .local ->
    bindL kindOf (P.zip vs) m x=some v
 |[],_,_,_,_,h,_,_=>by simp at h
 |_::_,[],_,_,_,_,h,_=>by simp at h
 |p::P,w::vs,0,m,nd,h1,h2,hk=>by
  simp at h1 h2; subst h1; subst h2
  show bindL kindOf ((p,w)::P.zip vs) m p=_
  unfold bindL
  rw[Og fun v hv=>(List.nodup_cons.mp nd).1 (List.of_mem_zip hv).1,if_pos hk]
  simp
 |p::P,w::vs,i+1,m,nd,h1,h2,hk=>by
  show bindL kindOf ((p,w)::P.zip vs) m x=_
  unfold bindL
  exact OK (i:=i) (List.nodup_cons.mp nd).2 (by simpa using h1) (by simpa using h2) hk
theorem Ow {kindOf:Str->Option NameKind} {x:Str} {v:Value}:∀{P:List Str} {vs:List Value} {i:Nat} {m:Str->Option Value},P.Nodup->P[i]?=some x->vs[i]?=some v->kindOf x≠some .local ->
    bindC kindOf (P.zip vs) m x=some v
 |[],_,_,_,_,h,_,_=>by simp at h
 |_::_,[],_,_,_,_,h,_=>by simp at h
 |p::P,w::vs,0,m,nd,h1,h2,hk=>by
  simp at h1 h2; subst h1; subst h2
  show bindC kindOf ((p,w)::P.zip vs) m p=_
  unfold bindC
  rw[Oo fun v hv=>(List.nodup_cons.mp nd).1 (List.of_mem_zip hv).1,if_neg hk]
  simp
 |p::P,w::vs,i+1,m,nd,h1,h2,hk=>by
  show bindC kindOf ((p,w)::P.zip vs) m x=_
  unfold bindC
  exact Ow (i:=i) (List.nodup_cons.mp nd).2 (by simpa using h1) (by simpa using h2) hk
def start (N:List Str) (vs:List V):St:=vs.map some++List.replicate (N.length - vs.length) none
def QG (CX:CXT) (P:Program) (w:World) (K:PySem.W.Frag) (mg:Str->Option Value) (base:Heap) (N:List Str) (qual:Str) (scope:Scope) (f:Addr) (cd:Value) (A:Around) (outer:List Env) (s:Shared) (H:Hp) (E:XK):Cx where
 prog:=P
 w:=w
 K:=K
 mg:=mg
 base:=base
 A:=A.deeper (envOfC qual scope s.heap.objs.size f cd)
 N:=N
 s₀:=s
 H₀:=H
 env:=envOfC qual scope s.heap.objs.size f cd
 outer:=outer
 stack:=envOfC qual scope s.heap.objs.size f cd::outer
 ex:=[]
 calm:=true
 fn:=fun _=>true
 pn:=[]
 xe:=fun e s'=>wpAny (model P w) (A.deeper (envOfC qual scope s.heap.objs.size f cd)) (leaving (envOfC qual scope s.heap.objs.size f cd) e) (fun _ s''=>CX outer H s E e s'') (fun e' s''=>CX outer H s E e' s'') s'
theorem N1 {sc:Scope} {n:Nat} {x:Str} (h:sc.names.lookup x=some .cell):∃c,(cellsFrom n sc.names []).lookup x=some c:=by
 have q:=PySem.W.cellsFrom_some sc.names n [] (.inl h)
 exact Option.isSome_iff_exists.mp q
theorem JG {CX:CXT} {P:Program} {w:World} {K:PySem.W.Frag} {mg:Str->Option Value} {base:Heap} {N ps:List Str} {qual:Str} {scope:Scope} {f:Addr} {cd:Value} {A:Around} {outer:List Env} {s s1:Shared} {H:Hp} {E:XK} {us:List Value} {vs:List V}
    (S:FnScope N ps scope) (hd:A.handled=none) (e0:Env0 P w K mg base A outer s H) (hl:vs.length=ps.length) (r:Vals vs us)
    (x:InCallC s s.heap.objs.size (bindL (envOfC qual scope s.heap.objs.size f cd).kindOf (ps.zip us) fun _=>none) (cellsFrom (s.heap.objs.size+1) scope.names []) (bindC (envOfC qual scope s.heap.objs.size f cd).kindOf (ps.zip us) fun _=>none) s1) :
    Inv (QG CX P w K mg base N qual scope f cd A outer s H E) [] (start N vs) H s1:=by
 have hpl:ps.length<=N.length:=by have:=congrArg List.length S.pre; rw[List.length_take]at this; omega
 obtain ⟨h1,tk,rfl,hk⟩:=x.done
 have noA:∀b:Addr,b ∉ (QG CX P w K mg base N qual scope f cd A outer s H E).ex:=fun b z=>absurd (show b∈([]:List Addr) from z) (by simp)
 refine ⟨⟨e0.mod,S.kind,rfl,rfl,Nat.le_refl _,fun y z c h1 h2=>?_,fun y hy=>?_,fun y c _ h=>?_,fun _=>hd,Around.frames_deeper e0.frames,.inr ⟨rfl,rfl⟩,fun b z=>absurd z (noA b),e0.bs,e0.bsz,fun b _ _=>noA b,fun b z=>absurd z (noA b),e0.funs,e0.frf⟩,
  rfl,e0.bare,Un.kept hk,⟨_,x.toInCall.ns,fun i y v h1 h2 h3=>?_⟩,fun y c h=>⟨_,x.cell y c h⟩,e0.hok.fresh (Nat.le_refl _),fun y c h=>?_,fun p hp=>absurd (show p∈([]:List (Addr × Obj)) from hp) (by simp),e0.hok.kept hk,?_⟩
 ·exact name_of_addr x.apart (PySem.mem_of_lookup h1) (PySem.mem_of_lookup h2)
 ·have hy:scope.names.lookup y=some .cell∨scope.names.lookup y=some .free:=hy
  rcases hy with hy|hy
  ·exact N1 hy
  ·exact absurd rfl (S.nofree _ (PySem.mem_of_lookup hy))
 ·exact Nat.le_of_lt (x.above y c (PySem.mem_of_lookup h))
 ·have hi:i < vs.length:=by
   unfold start at h2
   by_cases hi:i < vs.length
   ·exact hi
   ·rw[List.getElem?_append_right (by simpa using hi)]at h2
    rw[List.getElem?_replicate]at h2
    split at h2 <;> cases h2
  have ha:vs[i]?=some v:=by
   unfold start at h2
   rw[List.getElem?_append_left (by simpa using hi),List.getElem?_map]at h2
   cases e:vs[i]? with
   |none=>rw[e]at h2; cases h2
   |some a=>rw[e]at h2; cases h2; rfl
  obtain ⟨u,hu,rv⟩:=r.get ha
  have hp:ps[i]?=some y:=by
   rw[← S.pre,List.getElem?_take_of_lt (by omega)]; exact h1
  have ndP:ps.Nodup:=by rw[← S.pre]; exact S.nd.sublist (List.take_sublist _ _)
  refine ⟨u,rv,?_⟩
  rcases S.par y (List.mem_of_getElem? hp) with k|k
  ·exact .inl ⟨k,OK ndP hp hu k⟩
  ·obtain ⟨c,e⟩:=N1 (n:=s.heap.objs.size+1) k
   refine .inr ⟨.inl k,c,e,?_⟩
   have q:=x.cell y c e
   rw[Ow ndP hp hu (by show scope.names.lookup y≠_; rw[k]; decide)]at q
   exact q
 ·exact e0.hok.fresh (Nat.le_of_lt (x.above y c (PySem.mem_of_lookup h)))
 ·unfold start
  show _=N.length
  rw[List.length_append,List.length_map,List.length_replicate]
  omega
theorem Dr {CX:CXT} {P:Program} {w:World} {K:PySem.W.Frag} {mg:Str->Option Value} {base:Heap} {k:Nat} {f:Addr} {name qual:Str} {params:Arguments} {body:List Stmt} {scope:Scope} {dV kV doc pm cdv ct oc:Value} {an od:Option Addr}
    {osl:Array (Option Value)} {N ps:List Str} {sp:Sp} (lk:K.lookup f=some ⟨oc,od,.func (PySem.W.fnOf name qual params body scope dV kV doc pm an cdv ct),osl⟩) (hcd:PySem.W.codeIn K cdv qual=true) (S:FnScope N ps scope)
    (len:∀vs H Q E,sp vs H Q E->vs.length=ps.length)
    (hbody:∀(A:Around) (outer:List Env) (s:Shared) (H:Hp) (vs:List V) (Q:VK) (E:XK),Room k (A.deeper (envOfC qual scope s.heap.objs.size f cdv))->sp vs H Q E ->
     ∃t,PSs (QG CX P w K mg base N qual scope f cdv A outer s H E) body t∧t { nx:=fun _ H'=>Q .non H',rt:=Q } (start N vs) H) :
    FnOk P w K mg base CX (k+1) f (PySem.W.fnOf name qual params body scope dV kV doc pm an cdv ct) ps sp:=by
 refine ⟨len,fun A outer s H args us vs Q E hr e0 hb r hsp=>?_⟩
 have hl:=len _ _ _ _ hsp
 have KX:K.In s.heap:=e0.mod.kin.keeps fun b o e=>(e0.bs b o e).1
 have lim:s.heap.NoLimit:=e0.mod.nolimit.keeps fun b o e=>(e0.bs b o e).1
 have hkind:∀y∈ps.zip us,scope.names.lookup y.1=some .local∨(scope.names.lookup y.1=some .cell∧((cellsFrom (s.heap.objs.size+1) scope.names []).lookup y.1).isSome=true):=fun ⟨n,v⟩ hy=>by
  rcases S.par n (List.of_mem_zip hy).1 with q|q
  ·exact .inl q
  ·exact .inr ⟨q,PySem.W.cellsFrom_some _ _ _ (.inl q)⟩
 refine codeAny_call_function hr.depth (KX _ _ lk) rfl S.co S.gen rfl (PySem.W.codeRec_of KX hcd) (hb _ _ _ _ ?_)
 refine wpAny_newFunctionEnv_cells S.kind hkind fun env he s1 x=>?_
 subst he
 refine ⟨lim.keeps x.toInCall.keep,codeAny_func ?_⟩
 obtain ⟨t,ht,hq⟩:=hbody A outer s H vs Q E (hr.deeper _) hsp
 have I:Inv (QG CX P w K mg base N qual scope f cdv A outer s H E) [] (start N vs) H s1:=JG S hr.hd e0 hl r x
 refine wpAny_mono (ht [] s1 (start N vs) H _ I hq) (fun fl s' hs=>?_) fun e s' hs=>hs
 have fin:∀{σ':St} {H':Hp} {v:V} {u:Value},Inv (QG CX P w K mg base N qual scope f cdv A outer s H E) [] σ' H' s'->RelV v u->Q v H'->CE outer P w H s Q u s' :=
  fun {σ' H' v u} J rv q=>⟨v,H',J.os,J.bare,J.base,J.hok,rv,q⟩
 cases fl with
 |ret u =>
  obtain ⟨v,σ',H',J,rv,q⟩:=hs
  exact fin J rv q
 |next =>
  obtain ⟨σ',H',J,q⟩:=hs
  exact fin (v:=V.non) (u:=Value.none) J rfl q
 |brk =>
  obtain ⟨_,_,_,q⟩:=hs
  exact False.elim q
 |cont =>
  obtain ⟨_,_,_,q⟩:=hs
  exact False.elim q
open PySem PySem.Spec PyProof.Rows
section
variable {X:Cx} {x:Str} {p pos:Pos} {e:Expr} {es:List Expr} {t:TA} {id T:String} {r:List V->Hp->VK->Prop}
def tCB (r:List V->Hp->VK->Prop) (t:TA):TE:=fun σ H Q=>t σ H fun vs H1=>r vs H1 Q
theorem R0 (hc:CallR X (.builtin id) r) (hg:Gl X x) (hm:X.mg x=none) (hv:bootBuiltins x=some (.builtin id)) (ha:PA X (e::es) t) (hn:x≠"__name__":=by decide) (hdb:(x == ("__debug__":Str))=false:=by decide)
    (he:starEach (e::es) X.env=(false,eval e X.env)::starEach es X.env:=by rfl) (hpl:(backTo pos (starEach es X.env)).any (·.1)=false:=by rfl):PE X (.Call (.Name x p) (e::es) [] pos) (tCB r t):=by
 intro pins s σ H Q I h
 refine wpAny_Call_Name_kw (OY I hg hm hv ?_ hn hdb)
 exact PyProof.Rows.callWith_builtin1 (thn (ha pos pins s σ H _ I h) fun us s1 ⟨vs,H1,I1,r1,q1⟩=>hc pins s1 σ H1 vs us Q I1 r1 q1) he hpl
end
end L2
namespace HT
open PySem PyProof.Rows
section
open PySem.SeqAt
open PySem.AutoSeq1 (wpAny_loadPart')
open PySem.MeetsSeq PySem.MeetsSeq2 PySem.MeetsSeq3
end
section
variable {prog:Program} {w:World} {A:Around} {E:Value->Shared->Prop} {s:Shared}
def sIx (n d:Nat):Option Int->Nat
 |none=>d
 |some v=>if v < 0 then (v+(n:Int)).toNat else min v.toNat n
end
end HT
namespace L2
open PySem PySem.Spec PyProof.Rows
section
variable {X:Cx} {e:Expr} {te:TE} {lo hi:Option Expr} {tl th:TO} {pos p2:Pos}
end
open PySem PySem.Spec PyProof.Rows
def ixN (n:Nat) (i:Int):Option Nat:=if 0<=i then (if i < n then some i.toNat else none) else if -(n:Int)<=i then some (i+n).toNat else none
def atI {α:Type} (xs:List α) (i:Int):Option α:=(ixN xs.length i).bind fun j=>xs[j]?
theorem KY {n:Nat} {i:Int} {j:Nat} (h:ixN n i=some j):seqIndex? i n=some j∧j < n∧-(n:Int)<=i∧i < n:=by
 unfold ixN at h
 by_cases h0:0<=i
 ·rw[if_pos h0]at h
  by_cases h1:i < n
  ·rw[if_pos h1]at h
   have e:i.toNat=j:=Option.some.inj h
   exact ⟨by rw[seqIndex_of h0 h1,e],by omega,by omega,h1⟩
  ·rw[if_neg h1]at h; cases h
 ·rw[if_neg h0]at h
  by_cases h1:-(n:Int)<=i
  ·rw[if_pos h1]at h
   have e:(i+n).toNat=j:=Option.some.inj h
   exact ⟨by rw[seqIndex_neg (by omega) h1,e],by omega,h1,by omega⟩
  ·rw[if_neg h1]at h; cases h
theorem Nf {α:Type} {xs:List α} {i:Int} {v:α} (h:atI xs i=some v):∃j,seqIndex? i xs.length=some j∧xs[j]?=some v∧j < xs.length∧-(xs.length:Int)<=i∧i < xs.length:=by
 unfold atI at h
 cases e:ixN xs.length i with
 |none=>rw[e]at h; cases h
 |some j =>
  rw[e]at h
  obtain ⟨h1,h2,h3,h4⟩:=KY e
  exact ⟨j,h1,h,h2,h3,h4⟩
theorem FD {α:Type} {xs:List α} {j:Nat} {v:α} (h:xs[j]?=some v):atI xs (j:Int)=some v:=by
 have hj:j < xs.length:=(List.getElem?_eq_some_iff.mp h).1
 have e:ixN xs.length (j:Int)=some j:=by
  unfold ixN
  rw[if_pos (by omega),if_pos (by omega)]; simp
 unfold atI; rw[e]; exact h
def NI (b:Expr):Prop:=∀o i,subscripted b false o i=operate [o,i] (getItem o i)
def IxR (X:Cx) (r:R2):Prop :=
 ∀(value slice:Expr) (pins:List (Addr × Obj)) (s:Shared) (σ:St) (H:Hp) (x y:V) (v u:Value) (Q:VK),Inv X pins σ H s->RelV x v->RelV y u->r x y H Q ->
  subscripted slice false v u=operate [v,u] (getItem v u)->wpAny (model X.prog X.w) X.A (subscriptTail value slice v u) (EP X pins σ Q) X.xe s
def MtR (X:Cx) (id:String) (r:V->List V->Hp->VK->Prop):Prop :=
 ∀(pins:List (Addr × Obj)) (s:Shared) (σ:St) (H:Hp) (x:V) (xs:List V) (v:Value) (us:List Value) (Q:VK),Inv X pins σ H s->RelV x v->Vals xs us->r x xs H Q ->
  wpAny (model X.prog X.w) X.A (call (.builtin id) (v::us)) (EP X pins σ Q) X.xe s
section
variable {X:Cx} {a b:Expr} {ta tb:TE} {pos:Pos}
theorem IxR.or {r r':R2} (h:IxR X r) (h':IxR X r'):IxR X (fun x y H Q=>r x y H Q∨r' x y H Q):=by
 intro value slice pins s σ H x y v u Q I rx ry q hs
 rcases q with q|q
 ·exact h value slice pins s σ H x y v u Q I rx ry q hs
 ·exact h' value slice pins s σ H x y v u Q I rx ry q hs
theorem Dd {r:R2} (hr:IxR X r) (ha:PE X a ta) (hb:PE X b tb) (hs:NI b):PE X (.Subscript a b pos) (tOp r ta tb):=by
 intro pins s σ H Q I h
 exact Subscript_ (Cv ha hb I h fun v u s2 x y H2 I2 rx ry q=>hr a b pins s2 σ H2 x y v u Q I2 rx ry q (hs _ _))
def Aq (K:PySem.W.Frag):R2:=fun x y H Q=>∃p xs i v,x=.ref p∧y=.int i∧SqL K H p xs∧atI xs i=some v∧Q v H
def BY (K:PySem.W.Frag):R2:=fun x y H Q=>∃p xs i v,x=.ref p∧y=.int i∧SqT K H p xs∧atI xs i=some v∧Q v H
def At:R2:=fun x y H Q=>∃z i c,x=.str z∧y=.int i∧z.length<=sizeLine∧atI z.cps.toList i=some c∧Q (.str ⟨#[c]⟩) H
theorem Ev:IxR X (Aq X.K):=by
 intro value slice pins s σ H x y v u Q I rx ry h hs
 obtain ⟨p,xs,i,z,rfl,rfl,hq,he,q⟩:=h
 cases rx
 obtain ⟨t,rfl⟩:=ry
 obtain ⟨its,r,pl,hz⟩:=I.list hq
 obtain ⟨j,h1,h2,h3,h4,h5⟩:=Nf he
 obtain ⟨w,ew,rw'⟩:=r.get h2
 have hl:=r.length
 have hn:=Sw
 have fin:EP X pins σ Q w s:=⟨z,H,I,rw',q⟩
 by_cases h0:0<=i
 ·have hj:i.toNat=j:=by
   rw[seqIndex_of h0 h5]at h1
   exact Option.some.inj h1
  exact item_listR pl.isList h0 (by omega) (by rw[hj]; simpa using ew) fin hs
 ·have hj:(i+(its.toArray.size:Int)).toNat=j:=by
   rw[seqIndex_neg (by omega) h4]at h1
   rw[List.size_toArray,← hl]
   exact Option.some.inj h1
  exact subscriptTail_builtinR (x:=w) pl.isList.typeIs slot_list_getitem.lookup
   (wpAny_getItem_list_neg (Q:=fun r s'=>r=w∧EP X pins σ Q r s') pl.isList (by omega) (by rw[List.size_toArray] <;> omega) (by omega) (by rw[hj]; simpa using ew) ⟨rfl,fin⟩) hs
theorem Cg:IxR X (BY X.K):=by
 intro value slice pins s σ H x y v u Q I rx ry h hs
 obtain ⟨p,xs,i,z,rfl,rfl,hq,he,q⟩:=h
 cases rx
 obtain ⟨t,rfl⟩:=ry
 obtain ⟨its,r,pl,hz⟩:=I.tuple hq
 obtain ⟨j,h1,h2,h3,h4,h5⟩:=Nf he
 obtain ⟨w,ew,rw'⟩:=r.get h2
 have hl:=r.length
 have hn:=Sw
 have fin:EP X pins σ Q w s:=⟨z,H,I,rw',q⟩
 exact subscriptTail_builtinR (x:=w) pl.typeIs slot_tuple_getitem.lookup
  (getItem_tuple (j:=j) (Q:=fun r s'=>r=w∧EP X pins σ Q r s') pl (by omega) (by omega) (by rw[List.size_toArray,← hl]; exact h1) (by simpa using ew) ⟨rfl,fin⟩) hs
theorem Ck:IxR X At:=by
 intro value slice pins s σ H x y v u Q I rx ry h hs
 obtain ⟨z,i,c,rfl,rfl,hz,he,q⟩:=h
 obtain ⟨t,rfl⟩:=rx
 obtain ⟨t',rfl⟩:=ry
 obtain ⟨j,h1,h2,h3,h4,h5⟩:=Nf he
 have hl:z.cps.toList.length=z.length:=by simp[Str.length]
 rw[hl]at h1 h4 h5
 have hn:=Sw
 exact tail_any (typeIs_str s z t) slot_str_getitem.lookup (getItem_str (c:=c) (by
  have e1:decide (i < -(2 ^ 63:Int))=false:=decide_eq_false (by omega)
  have e2:decide (i ≥ 2 ^ 63)=false:=decide_eq_false (by omega)
  rw[e1,e2,Bool.or_false]) (by rw[h1]; simpa using h2) ⟨.str ⟨#[c]⟩,H,I.tok _,⟨_,rfl⟩,q⟩) hs
def rIx (K:PySem.W.Frag):R2:=fun x y H Q=>Aq K x y H Q∨BY K x y H Q∨At x y H Q
theorem HU:IxR X (rIx X.K):=Ev.or (Cg.or Ck)
theorem Km (its:List Value) (n j:Nat) (u:Value):Obj.mapSeq (·.setIfInBounds j u) { cls:=.type "list",data:=.seq its.toArray n }={ cls:=.type "list",data:=.seq (its.set j u).toArray n }:=by
 simp[Obj.mapSeq]
theorem Inv.lst {pins:List (Addr × Obj)} {σ:St} {H:Hp} {s:Shared} {p:Addr} {xs:List V} (I:Inv X pins σ H s) (h:H p=some (.lst xs)) :
    ∃(its:List Value) (n:Nat),Vals xs its∧s.heap.get? p=some { cls:=.type "list",data:=.seq its.toArray n }∧xs.length<=sizeLine:=by
 obtain ⟨z,its,n,r,e⟩:=I.hok p _ h
 exact ⟨its,n,r,e,z⟩
theorem Inv.lstUpd {pins:List (Addr × Obj)} {σ:St} {H:Hp} {s:Shared} {p:Addr} {xs ys:List V} {its its':List Value} {n n':Nat} {f:Obj->Obj} (I:Inv X pins σ H s) (h:H p=some (.lst xs))
    (ho:s.heap.get? p=some { cls:=.type "list",data:=.seq its.toArray n }) (hf:f { cls:=.type "list",data:=.seq its.toArray n }={ cls:=.type "list",data:=.seq its'.toArray n' }) (r:Vals ys its') (hz:ys.length<=sizeLine) (t:Nat) :
    Inv X pins σ (upd H p (.lst ys)) { s with heap:=s.heap.update p f,toks:=t }:=by
 have e:(s.heap.update p f).get? p=some { cls:=.type "list",data:=.seq its'.toArray n' }:=by
  rw[Heap.get?_update_self f ho (by rw[hf] <;> rfl),hf]
 refine I.write (x:=p) (e:=p) (by rw[h]; trivial) (.inl rfl) (fun b u hb q=>(Heap.get?_update_other _ _ (Ne.symm hb)).trans q) ⟨_,e⟩ ?_
 exact ⟨hz,its',n',r,e⟩
def DA:V->V->V->Hp->(Hp->Prop)->Prop:=fun o i v H Q=>∃p xs k j,o=.ref p∧i=.int k∧H p=some (.lst xs)∧ixN xs.length k=some j∧Q (upd H p (.lst (xs.set j v)))
theorem V8:AW X DA:=by
 intro pins s σ H o i v ov iv u Q I ro ri rv h
 obtain ⟨p,xs,k,j,rfl,rfl,hp,hj,q⟩:=h
 cases ro
 obtain ⟨t,rfl⟩:=ri
 obtain ⟨its,n,r,ho,hz⟩:=I.lst hp
 obtain ⟨h1,h2,h3,h4⟩:=KY hj
 have hl:=r.length
 have hn:=Sw
 have I':Inv X pins σ (upd H p (.lst (xs.set j v))) { s with heap:=s.heap.update p (Obj.mapSeq (·.setIfInBounds j u)) } :=
  I.lstUpd hp ho (Km its n j u) (r.set rv j) (by rw[List.length_set]; exact hz) s.toks
 by_cases h0:0<=k
 ·have hk:k.toNat=j:=by
   rw[seqIndex_of h0 h4]at h1
   exact Option.some.inj h1
  exact PySem.W.ki_setAt ho h0 (by omega) (by rw[List.size_toArray,← hl]; exact h4) (by rw[hk]; exact ⟨_,I',q⟩)
 ·have hk:(k+(its.toArray.size:Int)).toNat=j:=by
   rw[seqIndex_neg (by omega) h3]at h1
   rw[List.size_toArray,← hl]
   exact Option.some.inj h1
  exact PySem.W.ki_setBack ho (by omega) (by rw[List.size_toArray,← hl]; exact h3) (by omega) (by rw[hk]; exact ⟨_,I',q⟩)
def UO:V->Bool
 |.non=>true
 |.bl _=>true
 |.int _=>true
 |.str _=>true
 |_=>false
def eqV:V->V->Bool
 |.non,.non=>true
 |.bl a,.bl b=>a == b
 |.bl a,.int b=>(if a then 1 else 0) == b
 |.int a,.bl b=>a == (if b then 1 else 0)
 |.int a,.int b=>a == b
 |.str a,.str b=>a == b
 |_,_=>false
theorem CG {A:Around} {s:Shared} {y x:V} {u v:Value} (ry:RelV y u) (rx:RelV x v) (fy:UO y=true) (fx:UO x=true):SeqAt.EqAt A s u v (eqV y x):=by
 cases y with
 |non =>
  cases ry
  cases x with
  |non=>cases rx; exact SeqAt.EqAt.same _
  |bl b=>cases rx; exact SeqAt.EqAt.none_bool b
  |int b=>obtain ⟨t,rfl⟩:=rx; exact SeqAt.EqAt.none_int b t
  |str b=>obtain ⟨t,rfl⟩:=rx; exact SeqAt.EqAt.none_str b t
  |_=>exact absurd (show false=true from fx) Bool.false_ne_true
 |bl a =>
  cases ry
  cases x with
  |non=>cases rx; exact SeqAt.EqAt.bool_none a
  |bl b=>cases rx; exact SeqAt.EqAt.bool_bool a b
  |int b=>obtain ⟨t,rfl⟩:=rx; exact SeqAt.EqAt.bool_int a b t
  |str b=>obtain ⟨t,rfl⟩:=rx; exact SeqAt.EqAt.bool_str a b t
  |_=>exact absurd (show false=true from fx) Bool.false_ne_true
 |int a =>
  obtain ⟨t',rfl⟩:=ry
  cases x with
  |non=>cases rx; exact SeqAt.EqAt.int_none a t'
  |bl b=>cases rx; exact SeqAt.EqAt.int_bool a t' b
  |int b=>obtain ⟨t,rfl⟩:=rx; exact SeqAt.EqAt.int_int a t' b t
  |str b=>obtain ⟨t,rfl⟩:=rx; exact SeqAt.EqAt.int_str a t' b t
  |_=>exact absurd (show false=true from fx) Bool.false_ne_true
 |str a =>
  obtain ⟨t',rfl⟩:=ry
  cases x with
  |non=>cases rx; exact SeqAt.EqAt.str_none a t'
  |bl b=>cases rx; exact SeqAt.EqAt.str_bool a t' b
  |int b=>obtain ⟨t,rfl⟩:=rx; exact SeqAt.EqAt.str_int a t' b t
  |str b=>obtain ⟨t,rfl⟩:=rx; exact SeqAt.EqAt.str_str a t' b t
  |_=>exact absurd (show false=true from fx) Bool.false_ne_true
 |_=>exact absurd (show false=true from fy) Bool.false_ne_true
def eqU (x:V) (u:Value):Bool:=match u with
 |.none=>eqV .non x
 |.bool b=>eqV (.bl b) x
 |.int i _=>eqV (.int i) x
 |.str z _=>eqV (.str z) x
 |_=>false
theorem IM {x y:V} {u:Value} (r:RelV y u) (f:UO y=true):eqU x u=eqV y x:=by
 cases y with
 |non=>cases r; rfl
 |bl b=>cases r; rfl
 |int i=>obtain ⟨t,rfl⟩:=r; rfl
 |str z=>obtain ⟨t,rfl⟩:=r; rfl
 |_=>exact absurd (show false=true from f) Bool.false_ne_true
theorem TK {x:V}:∀{xs:List V} {us:List Value},Vals xs us->xs.all UO=true->us.any (eqU x)=xs.any fun y=>eqV y x
 |_,_,.nil,_=>rfl
 |y::xs,u::us,.cons r t,f=>by
  rw[List.all_cons,Bool.and_eq_true]at f
  rw[List.any_cons,List.any_cons,IM r f.1,TK t f.2]
theorem Uq {A:Around} {s:Shared} {x:V} {v:Value} (rx:RelV x v) (fx:UO x=true):∀{xs:List V} {us:List Value},Vals xs us->xs.all UO=true->∀u∈us,SeqAt.EqAt A s u v (eqU x u)
 |_,_,.nil,_=>fun u hu=>by cases hu
 |y::xs,u::us,.cons r t,f=>fun u' hu=>by
  rw[List.all_cons,Bool.and_eq_true]at f
  rcases List.mem_cons.mp hu with rfl|hu
  ·rw[IM r f.1]; exact CG r rx f.1 fx
  ·exact Uq rx fx t f.2 u' hu
def inV (x:V) (xs:List V):Bool:=xs.any fun y=>eqV y x
def rIn (K:PySem.W.Frag) (neg:Bool):R2:=fun x y H Q=>∃p xs,y=.ref p∧(SqL K H p xs∨SqT K H p xs)∧UO x=true∧xs.all UO=true∧Q (.bl (if neg then !inV x xs else inV x xs)) H
theorem Ik:OpR X (compareOp .In) (rIn X.K false):=by
 intro pins s σ H x y v u Q I rx ry h
 obtain ⟨p,xs,rfl,hq,fx,fs,q⟩:=h
 cases ry
 rcases hq with hq|hq
 ·obtain ⟨its,r,pl,hz⟩:=I.list hq
  refine SeqAt.in_listAt (eqU x) pl.isList (fun w hw=>Uq rx fx r fs w (by simpa using hw)) ⟨.bl _,H,I,rfl,?_⟩
  rw[show its.toArray.any (eqU x)=its.any (eqU x) by simp,TK r fs]
  exact q
 ·obtain ⟨its,r,pl,hz⟩:=I.tuple hq
  refine SeqAt.in_tupleAt (eqU x) pl (fun w hw=>Uq rx fx r fs w (by simpa using hw)) ⟨.bl _,H,I,rfl,?_⟩
  rw[show its.toArray.any (eqU x)=its.any (eqU x) by simp,TK r fs]
  exact q
theorem OX:OpR X (compareOp .NotIn) (rIn X.K true):=by
 intro pins s σ H x y v u Q I rx ry h
 obtain ⟨p,xs,rfl,hq,fx,fs,q⟩:=h
 cases ry
 rcases hq with hq|hq
 ·obtain ⟨its,r,pl,hz⟩:=I.list hq
  refine SeqAt.notIn_listAt (eqU x) pl.isList (fun w hw=>Uq rx fx r fs w (by simpa using hw)) ⟨.bl _,H,I,rfl,?_⟩
  rw[show its.toArray.any (eqU x)=its.any (eqU x) by simp,TK r fs]
  exact q
 ·obtain ⟨its,r,pl,hz⟩:=I.tuple hq
  refine SeqAt.notIn_tupleAt (eqU x) pl (fun w hw=>Uq rx fx r fs w (by simpa using hw)) ⟨.bl _,H,I,rfl,?_⟩
  rw[show its.toArray.any (eqU x)=its.any (eqU x) by simp,TK r fs]
  exact q
theorem O3:CallR X (.builtin "len") (fun xs H Q=>∃p ys,xs=[.ref p]∧(SqL X.K H p ys∨SqT X.K H p ys)∧Q (.int ys.length) H):=by
 intro pins s σ H xs us Q I r h
 obtain ⟨p,ys,rfl,hq,q⟩:=h
 obtain ⟨u,rfl,rx⟩:=N0 r
 cases rx
 have hn:=Sw
 rcases hq with hq|hq
 ·obtain ⟨its,r',pl,hz⟩:=I.list hq
  have hlen:=r'.length
  exact Calls.call_len_list pl.isList (by simp only[List.size_toArray] <;> omega) ⟨.int ys.length,H,I.tok _,⟨s.toks+1,by rw[List.size_toArray,hlen]⟩,q⟩
 ·obtain ⟨its,r',pl,hz⟩:=I.tuple hq
  have hlen:=r'.length
  exact len_tuple pl (by simp only[List.size_toArray] <;> omega) ⟨.int ys.length,H,I.tok _,⟨s.toks+1,by rw[List.size_toArray,hlen]⟩,q⟩
theorem CallR.or {f:Value} {r r':List V->Hp->VK->Prop} (h:CallR X f r) (h':CallR X f r'):CallR X f (fun xs H Q=>r xs H Q∨r' xs H Q):=by
 intro pins s σ H xs us Q I rs q
 rcases q with q|q
 ·exact h pins s σ H xs us Q I rs q
 ·exact h' pins s σ H xs us Q I rs q
def tyV (K:PySem.W.Frag) (T:String) (x:V) (H:Hp):Prop:=match x with
 |.str _=>T="str"
 |.int _=>T="int"
 | .ref p => (T = "list" ∧ ∃ xs,SqL K H p xs) ∨ (T = "tuple" ∧ ∃ o,K.lookup p = some o ∧ o.cls = .type "tuple" ∧ o.dict = none) ∨
     (T="dict"∧((∃kvs,H p=some (.dK kvs))∨∃kvs,H p=some (.dT kvs)))∨(T="set"∧∃S n,H p=some (.set S n))
 |_=>False
theorem Hr {pins:List (Addr × Obj)} {σ:St} {H:Hp} {s:Shared} {T:String} {x:V} {v:Value} (I:Inv X pins σ H s) (r:RelV x v) (ty:tyV X.K T x H) :
    s.TypeIs v T∧∀a,v=.ref a->∃ob,s.heap.get? a=some ob∧ob.dict=none:=by
 cases x with
 |str z =>
  obtain ⟨t,rfl⟩:=r
  cases (show T="str" from ty)
  exact ⟨typeIs_str s z t,fun _ e=>nomatch e⟩
 |int i =>
  obtain ⟨t,rfl⟩:=r
  cases (show T="int" from ty)
  exact ⟨typeIs_int s i t,fun _ e=>nomatch e⟩
 |ref p =>
  cases r
  rcases ty with ⟨rfl,xs,hq⟩|⟨rfl,o,hk,hc,hd⟩|⟨rfl,hk⟩|⟨rfl,S,n,hk⟩
  ·obtain ⟨its,_,pl,_⟩:=I.list hq
   refine ⟨pl.isList.typeIs,fun a e=>?_⟩
   cases e
   obtain ⟨o,n,e,c,hd,_⟩:=pl
   exact ⟨o,e,hd⟩
  ·refine ⟨⟨o,I.kIn p o hk,hc⟩,fun a e=>?_⟩
   cases e
   exact ⟨o,I.kIn _ o hk,hd⟩
  ·have z:∃o,s.heap.get? p=some o∧o.ExactDict:=by
    rcases hk with ⟨kvs,hk⟩|⟨kvs,hk⟩
    ·obtain ⟨_,_,_,_,o,_,_,e,ex,_⟩:=I.hok p _ hk
     exact ⟨o,e,ex⟩
    ·obtain ⟨_,_,_,_,o,_,_,e,ex,_⟩:=I.hok p _ hk
     exact ⟨o,e,ex⟩
   obtain ⟨o,e,ex⟩:=z
   refine ⟨⟨o,e,ex.1⟩,fun a e2=>?_⟩
   cases e2
   exact ⟨o,e,ex.2.1⟩
  ·obtain ⟨o,_,_,_,e,ex,_⟩:=I.hok p _ hk
   refine ⟨⟨o,e,ex.1⟩,fun a e2=>?_⟩
   cases e2
   exact ⟨o,e,ex.2.1⟩
 |_=>exact False.elim ty
def tBM0 (K:PySem.W.Frag) (T:String) (r:V->List V->Hp->VK->Prop) (to:TE):TE:=fun σ H Q=>to σ H fun x H1=>tyV K T x H1∧r x [] H1 Q
def tBM (K:PySem.W.Frag) (T:String) (r:V->List V->Hp->VK->Prop) (to:TE) (t:TA):TE:=fun σ H Q=>to σ H fun x H1=>tyV K T x H1∧t σ H1 fun xs H2=>r x xs H2 Q
variable {o e:Expr} {es:List Expr} {to:TE} {t:TA} {name:Str} {apos cpos:Pos} {T id:String} {r:V->List V->Hp->VK->Prop}
theorem Gi (pa:PlainAttrs T) (slot:Slot T name id) (hty:typeOf (.builtin id)=pure (.type "method_descriptor")) (hm:MtR X id r) (ho:PE X o to)
    (hbase:attributeBase o name X.env (eval o X.env)=eval o X.env:=by rfl) (hline:(apos.endLine == cpos.line)=true:=by rfl):PE X (.Call (.Attribute o name apos) [] [] cpos) (tBM0 X.K T r to):=by
 intro pins s σ H Q I h
 refine wpAny_Call_method0_late hbase hline (thn (ho pins s σ H _ I h) fun v s1 ⟨x,H1,I1,r1,ty,q1⟩=>?_)
 obtain ⟨h1,h2⟩:=Hr I1 r1 ty
 exact ⟨T,id,pa,slot,hty,h1,h2,Calls.callWith_builtin rfl (PySem.evalArgs_none (hm pins s1 σ H1 x [] v [] Q I1 r1 .nil q1))⟩
theorem IE (pa:PlainAttrs T) (slot:Slot T name id) (hty:typeOf (.builtin id)=pure (.type "method_descriptor")) (hm:MtR X id r) (ho:PE X o to) (ha:PA X (e::es) t)
    (hbase:attributeBase o name X.env (eval o X.env)=eval o X.env:=by rfl)
    (hfew:((backTo cpos (starEach (e::es) X.env)).all (fun x=>!x.1)&&(backToKw cpos (keywordEach [] X.env)).all (fun x=>x.1.isSome)
     && decide ((e::es).length+([]:List Keyword).length+(if ([]:List Keyword).isEmpty then 0 else 1) < 30))=true:=by rfl)
    (hline:(apos.endLine == cpos.line)=true:=by rfl) (hs:starEach (e::es) X.env=(false,eval e X.env)::starEach es X.env:=by rfl) (hplain:(backTo cpos (starEach es X.env)).any (·.1)=false:=by rfl) :
    PE X (.Call (.Attribute o name apos) (e::es) [] cpos) (tBM X.K T r to t):=by
 intro pins s σ H Q I h
 refine wpAny_Call_method_late hbase hfew hline rfl (thn (ho pins s σ H _ I h) fun v s1 ⟨x,H1,I1,r1,ty,q1⟩=>?_)
 obtain ⟨h1,h2⟩:=Hr I1 r1 ty
 refine ⟨T,id,pa,slot,hty,h1,h2,?_⟩
 have hA:=ha cpos pins s1 σ H1 _ I1 q1
 rw[hs]at hA ⊢
 refine Calls.callWith_builtin (by show (false || (backTo cpos (starEach es X.env)).any (·.1))=false; rw[hplain] <;> rfl) (Calls.evalArgs_plain ?_)
 exact thn hA fun us s2 ⟨vs,H2,I2,r2,q2⟩=>hm pins s2 σ H2 x vs v us Q I2 r1 r2 q2
end
open PySem PySem.Spec PyProof.Rows
def MtM (X:Cx) (id:String) (r:V->List V->Hp->VK->Prop):Prop :=
 ∀(pins:List (Addr × Obj)) (s:Shared) (σ:St) (H:Hp) (x:V) (xs:List V) (v:Value) (us:List Value) (Q:VK),Inv X pins σ H s->RelV x v->Vals xs us->r x xs H Q ->
  wpAny (model X.prog X.w) X.A (call (.builtin id) (v::us)) (EP X pins σ Q) X.xe s
theorem Vals.one:∀{x:V} {us:List Value},Vals [x] us->∃u,us=[u]∧RelV x u
 |_,_,.cons r .nil=>⟨_,rfl,r⟩
theorem Vals.zero:∀{us:List Value},Vals [] us->us=[]
 |_,.nil=>rfl
theorem Vals.rep {xs:List V} {us:List Value} (h:Vals xs us):∀k:Nat,Vals (List.replicate k xs).flatten (List.replicate k us).flatten
 |0=>.nil
 |k+1=>by
  rw[List.replicate_succ,List.replicate_succ,List.flatten_cons,List.flatten_cons]
  exact Vals.append h (Vals.rep h k)
theorem Pt (its:List Value):∀(k:Nat) (acc:List Value),
    List.foldl (fun x1 x2=>x1++x2) acc.toArray (List.replicate k its.toArray)=(acc++(List.replicate k its).flatten).toArray
 |0,acc=>by simp
 |k+1,acc=>by
  have e:acc.toArray++its.toArray=(acc++its).toArray:=by simp
  have e2:(acc++its)++(List.replicate k its).flatten=acc++(List.replicate (k+1) its).flatten:=by
   rw[List.replicate_succ,List.flatten_cons,List.append_assoc]
  rw[← e2,← Pt its k (acc++its),← e,List.replicate_succ,List.foldl_cons]
section
variable {X:Cx} {pins:List (Addr × Obj)} {σ:St} {H:Hp} {s:Shared} {l b:Addr} {xs ys zs:List V}
theorem Inv.lset {its its':List Value} {n:Nat} {f:Array Value->Array Value} {t':Nat} (I:Inv X pins σ H s) (hH:H l=some (.lst xs))
    (e:s.heap.get? l=some { cls:=.type "list",data:=.seq its.toArray n }) (hf:f its.toArray=its'.toArray) (hv:Vals ys its') (hz:ys.length<=sizeLine) :
    Inv X pins σ (upd H l (.lst ys)) { s with heap:=s.heap.update l (Obj.mapSeq f),toks:=t' }:=by
 have q:=PySem.IsL.update e f
 rw[hf]at q
 refine I.write (x:=l) (e:=l) (by rw[hH]; exact trivial) (.inl rfl) (fun b' u hb hu=>(Heap.get?_update_other s.heap (Obj.mapSeq f) (Ne.symm hb)).trans hu) ⟨_,q⟩ ?_
 exact ⟨hz,its',_,hv,q⟩
theorem Inv.lnew {its:List Value} {t':Nat} (I:Inv X pins σ H s) (hv:Vals ys its) (hz:ys.length<=sizeLine) :
    Inv X pins σ (upd H s.heap.objs.size (.lst ys)) { s with heap:=s.heap.push { cls:=.type "list",data:=.seq its.toArray },toks:=t' } :=
 I.laid (fun _ _ q=>Heap.get?_push_of_some _ q) (Nat.le_refl _) ⟨hz,its,0,hv,Heap.get?_push_size _ rfl⟩
theorem Inv.fresh (I:Inv X pins σ H s):H s.heap.objs.size=none:=I.hok.fresh (Nat.le_refl _)
theorem Inv.lstM (I:Inv X pins σ H s) (hH:H l=some (.lst xs)):xs.length<=sizeLine∧∃(its:List Value) (n:Nat),Vals xs its∧xs.length=its.length∧s.heap.get? l=some { cls:=.type "list",data:=.seq its.toArray n }:=by
 obtain ⟨z,its,n,r,e⟩:=I.hok l _ hH
 exact ⟨z,its,n,r,r.length,e⟩
theorem M9 {n:Nat} (h:n<=sizeLine):Builtin.List.listTooLong n=false:=by
 unfold Builtin.List.listTooLong
 exact decide_eq_false (by omega)
end
section
variable {X:Cx}
def Jc:V->List V->Hp->VK->Prop:=fun x vs H Q=>∃l xs y,x=.ref l∧vs=[y]∧H l=some (.lst xs)∧xs.length < sizeLine∧Q .non (upd H l (.lst (xs++[y])))
theorem Ij:MtM X "list.append" Jc:=by
 intro pins s σ H x vs v us Q I rx rv h
 obtain ⟨l,xs,y,rfl,rfl,hH,hz,q⟩:=h
 cases rx
 obtain ⟨u,rfl,ru⟩:=rv.one
 obtain ⟨z,its,n,r,hl,e⟩:=I.lstM hH
 refine call_meets F.slot_list_append ⟨_,e,rfl⟩ F.entry_list_append (F.args_list_append_2 _ _) (PySem.list_append l its.toArray n u (by rw[List.size_toArray]; omega)) ⟨e,?_⟩
 refine ⟨.non,_,I.lset (its':=its++[u]) hH e (by simp) (r.append (.cons ru .nil)) ?_,rfl,q⟩
 rw[List.length_append,List.length_singleton]
 omega
def IP:V->List V->Hp->VK->Prop:=fun x vs H Q=>∃l xs,x=.ref l∧vs=[]∧H l=some (.lst xs)∧Q .non (upd H l (.lst []))
theorem Gy:MtM X "list.clear" IP:=by
 intro pins s σ H x vs v us Q I rx rv h
 obtain ⟨l,xs,rfl,rfl,hH,q⟩:=h
 cases rx
 have hus:=rv.zero
 subst hus
 obtain ⟨z,its,n,r,hl,e⟩:=I.lstM hH
 refine call_meets F.slot_list_clear ⟨_,e,rfl⟩ F.entry_list_clear (F.args_list_clear_1 _) (AutoSeq1.list_clear_list_0 l its.toArray n (by rw[List.size_toArray]; omega)) ⟨e,?_⟩
 exact ⟨.non,_,I.lset (its':=[]) (ys:=[]) hH e rfl .nil (Nat.zero_le _),rfl,q⟩
def rRep:R2:=fun x y H Q=>∃l k xs,x=.ref l∧y=.int k∧H l=some (.lst xs)∧-(2 ^ 63)<=k∧k < 2 ^ 63∧xs.length * k.toNat<=sizeLine ∧
 ∀p,H p=none->Q (.ref p) (upd H p (.lst (List.replicate k.toNat xs).flatten))
theorem Ep {α:Type} (xs:List α) (k:Nat):(List.replicate k xs).flatten.length=k * xs.length:=by
 induction k with
 |zero=>simp
 |succ k ih=>rw[List.replicate_succ,List.flatten_cons,List.length_append,ih,Nat.succ_mul,Nat.add_comm]
theorem Cy:OpR X (binaryOp .Mult) rRep:=by
 intro pins s σ H x y v u Q I rx ry h
 obtain ⟨l,k,xs,rfl,rfl,hH,h1,h2,hz,q⟩:=h
 cases rx
 obtain ⟨t,rfl⟩:=ry
 obtain ⟨z,its,n,r,hl,e⟩:=I.lstM hH
 have hlen:its.toArray.size * k.toNat<=sizeLine:=by rw[List.size_toArray,← hl]; exact hz
 have hcap:¬ its.toArray.size * k.toNat > (2 ^ 63 - 1) / 8:=by
  have:(sizeLine:Nat)<=(2 ^ 63 - 1) / 8:=by decide
  omega
 have hfit:¬ (!Builtin.List.listFitsIndex k)=true:=by
  rw[fitsIndex_both h1 h2]
  exact Bool.false_ne_true
 have hlong:¬ Builtin.List.listTooLong (its.toArray.size * k.toNat)=true:=by
  rw[M9 hlen]
  exact Bool.false_ne_true
 have hnew:List.foldl (fun x1 x2=>x1++x2) #[] (List.replicate (if its.toArray.isEmpty=true then 0 else k.toNat) its.toArray)=(List.replicate k.toNat its).flatten.toArray:=by
  have f0:∀m:Nat,List.foldl (fun x1 x2=>x1++x2) #[] (List.replicate m its.toArray)=(List.replicate m its).flatten.toArray:=fun m=>by
   have:=Pt its m []
   rw[List.nil_append]at this
   exact this
  rw[f0]
  cases its with
  |nil=>simp
  |cons a r'=>rw[if_neg (by simp)]
 refine wpAny_binaryOp_repeat_ref (T:="list") (U:="int") (by decide) ⟨_,e,rfl⟩ (fun s'=>typeIs_int s' k t) noFill_list_mul F.fills_int_mul F.slot_int_rmul repeat_list F.slot_int_index.lookup
  (call_meets F.slot_int_rmul (typeIs_int s k t) F.entry_int_rmul (F.args_int_rmul_2 _ _) (int___rmul___int_list k t l its.toArray n)
   ⟨e,rfl,⟨_,e,rfl⟩,call_meets F.slot_list_mul ⟨_,e,rfl⟩ F.entry_list_mul (F.args_list_mul_2 _ _) (AutoListH.list___mul___list_int_3 l its.toArray n k t hfit hcap hlong) ⟨e,?_⟩⟩)
 rw[hnew]
 exact ⟨.ref _,_,I.lnew (t':=s.toks) (r.rep k.toNat) (by rw[Ep,Nat.mul_comm]; exact hz),rfl,q _ I.fresh⟩
end
section
variable {prog:Program} {w:World} {A:Around} {E:Value->Shared->Prop} {s:Shared}
end
section
variable {X:Cx}
end
open PySem PySem.Spec PyProof.Rows
section
variable {κ:Type} [DecidableEq κ]
def TF (kvs:List (κ × V)) (k:κ):Option V:=(kvs.find? fun kv=>decide (kv.1=k)).map (·.2)
def Tn (kvs:List (κ × V)) (k:κ) (v:V):List (κ × V) :=
 if (kvs.any fun kv=>decide (kv.1=k))=true then kvs.map (fun kv=>if kv.1=k then (kv.1,v) else kv) else kvs++[(k,v)]
def Je (kvs:List (κ × V)) (k:κ):List (κ × V):=kvs.filter fun kv=>decide (kv.1≠k)
theorem QA {p:κ × V} {r:List (κ × V)} {k:κ} (e:p.1=k):TF (p::r) k=some p.2:=by simp[TF,List.find?_cons,e]
theorem RI {p:κ × V} {r:List (κ × V)} {k:κ} (e:¬ p.1=k):TF (p::r) k=TF r k:=by simp[TF,List.find?_cons,e]
theorem MV (k:κ):∀kvs:List (κ × V),(kvs.any fun kv=>decide (kv.1=k))=(TF kvs k).isSome
 |[]=>rfl
 |p::r=>by
  rw[List.any_cons]
  by_cases e:p.1=k
  ·simp only[QA e,decide_eq_true e,Bool.true_or,Option.isSome_some]
  ·rw[RI e,decide_eq_false e,Bool.false_or]; exact MV k r
theorem SG (kvs:List (κ × V)) (k:κ) (v:V):(Tn kvs k v).length<=kvs.length+1:=by
 unfold Tn
 split
 ·rw[List.length_map]; omega
 ·rw[List.length_append,List.length_cons,List.length_nil]; omega
theorem RelO.isSome_eq {o:Option V} {u:Option Value} (r:RelO o u):o.isSome=u.isSome:=by
 cases o with
 |none=>cases u with
  |none=>rfl
  |some _=>exact (show False from r).elim
 |some _=>cases u with
  |none=>exact (show False from r).elim
  |some _=>rfl
theorem RelO.getD {o:Option V} {u:Option Value} {d:V} {d':Value} (r:RelO o u) (rd:RelV d d'):RelV (o.getD d) (u.getD d'):=by
 cases o with
 |none=>cases u with
  |none=>exact rd
  |some _=>exact (show False from r).elim
 |some _=>cases u with
  |none=>exact (show False from r).elim
  |some _=>exact r
theorem KV.val {kvs:List (κ × V)} {vs:List (κ × Value)} (r:KV kvs vs) (k:κ):RelO (TF kvs k) (valueAt vs k):=by
 unfold KV at r
 induction r with
 |nil=>exact True.intro
 |@cons p q ps qs h t ih =>
  obtain ⟨h1,h2⟩:=h
  by_cases e:p.1=k
  ·have e':q.1=k:=h1.symm.trans e
   have b:valueAt (q::qs) k=some q.2:=by simp[valueAt,List.find?_cons,e']
   rw[QA e,b]; exact h2
  ·have e':¬ q.1=k:=fun z=>e (h1.trans z)
   have b:valueAt (q::qs) k=valueAt qs k:=by simp[valueAt,List.find?_cons,e']
   rw[RI e,b]; exact ih
theorem KV.any {kvs:List (κ × V)} {vs:List (κ × Value)} (r:KV kvs vs) (k:κ):(kvs.any fun kv=>decide (kv.1=k))=vs.any fun kv=>decide (kv.1=k):=by
 unfold KV at r
 induction r with
 |nil=>rfl
 |cons h t ih=>rw[List.any_cons,List.any_cons,ih,h.1]
theorem KV.repl {kvs:List (κ × V)} {vs:List (κ × Value)} (r:KV kvs vs) (k:κ) {y:V} {u:Value} (ry:RelV y u) :
    KV (kvs.map fun kv=>if kv.1=k then (kv.1,y) else kv) (vs.map fun kv=>if kv.1=k then (kv.1,u) else kv):=by
 unfold KV at r ⊢
 induction r with
 |nil=>exact .nil
 |@cons p q ps qs h t ih =>
  rw[List.map_cons,List.map_cons]
  refine .cons ?_ ih
  obtain ⟨h1,h2⟩:=h
  by_cases e:p.1=k
  ·rw[if_pos e,if_pos (h1.symm.trans e)]; exact ⟨h1,ry⟩
  ·rw[if_neg e,if_neg (fun z=>e (h1.trans z))]; exact ⟨h1,h2⟩
theorem KV.put {kvs:List (κ × V)} {vs:List (κ × Value)} (r:KV kvs vs) (k:κ) {y:V} {u:Value} (ry:RelV y u):KV (Tn kvs k y) (stored vs k u):=by
 unfold Tn stored
 rw[r.any k]
 by_cases e:(vs.any fun kv=>decide (kv.1=k))=true
 ·rw[if_pos e,if_pos e]; exact r.repl k ry
 ·rw[if_neg e,if_neg e]; exact Paired.snoc r ⟨rfl,ry⟩
theorem KV.drop {kvs:List (κ × V)} {vs:List (κ × Value)} (r:KV kvs vs) (k:κ):KV (Je kvs k) (without vs k):=by
 unfold KV at r ⊢
 unfold Je without
 induction r with
 |nil=>exact .nil
 |@cons p q ps qs h t ih =>
  obtain ⟨h1,h2⟩:=h
  rw[List.filter_cons,List.filter_cons]
  by_cases e:p.1=k
  ·have a:¬ decide (p.1≠k)=true:=by simp[e]
   have b:¬ decide (q.1≠k)=true:=by simp[h1.symm.trans e]
   rw[if_neg a,if_neg b]; exact ih
  ·have e':¬ q.1=k:=fun z=>e (h1.trans z)
   have a:decide (p.1≠k)=true:=by simp[e]
   have b:decide (q.1≠k)=true:=by simp[e']
   rw[if_pos a,if_pos b]; exact .cons ⟨h1,h2⟩ ih
theorem KV.length {kvs:List (κ × V)} {vs:List (κ × Value)} (r:KV kvs vs):kvs.length=vs.length:=Paired.length r
end
theorem OA {P:Program} {w:World} {k:Key} {u:Value} (r:RelV (kV k) u):(Yi P w).is k u=true:=by
 cases k with
 |inl i=>obtain ⟨t,e⟩:=(show ∃t,u=Value.int i t from r); subst e; exact Me P w i t
 |inr x=>obtain ⟨t,e⟩:=(show ∃t,u=Value.str x t from r); subst e; exact Mf P w x t
theorem Pa {P:Program} {w:World}:∀{ks:List Key} {us:List Value},Vals (ks.map kV) us->ItemsAre (Yi P w) ks us
 |[],_,r=>by rw[List.map_nil]at r; cases r; exact .nil
 |k::ks,_,r=>by
  rw[List.map_cons]at r
  cases r with
  |cons h t=>exact .cons (OA h) (Pa t)
abbrev KT (H:Hp):List (List Key × V)->List (List Key × Addr × Value)->Prop:=Paired fun p q=>p.1=q.1∧H q.2.1=some (.tup (p.1.map kV))∧RelV p.2 q.2.2
theorem KT.val {H:Hp} {kvs:List (List Key × V)} {xs:List (List Key × Addr × Value)} (r:KT H kvs xs) (k:List Key):RelO (TF kvs k) ((atKey xs k).map (·.2)):=by
 induction r with
 |nil=>exact True.intro
 |@cons p q ps qs h t ih =>
  obtain ⟨h1,_,h2⟩:=h
  by_cases e:p.1=k
  ·have e':q.1=k:=h1.symm.trans e
   have b:atKey (q::qs) k=some q.2:=by simp[atKey,List.find?_cons,e']
   rw[QA e,b]; exact h2
  ·have e':¬ q.1=k:=fun z=>e (h1.trans z)
   have b:atKey (q::qs) k=atKey qs k:=by simp[atKey,List.find?_cons,e']
   rw[RI e,b]; exact ih
theorem KT.repl {H:Hp} {kvs:List (List Key × V)} {xs:List (List Key × Addr × Value)} (r:KT H kvs xs) (k:List Key) {y:V} {u:Value} (ry:RelV y u) :
    KT H (kvs.map fun kv=>if kv.1=k then (kv.1,y) else kv) (xs.map (putAt k u)):=by
 induction r with
 |nil=>exact .nil
 |@cons p q ps qs h t ih =>
  rw[List.map_cons,List.map_cons]
  refine .cons ?_ ih
  obtain ⟨h1,h2,h3⟩:=h
  unfold putAt
  by_cases e:p.1=k
  ·rw[if_pos e,if_pos (h1.symm.trans e)]; exact ⟨h1,h2,ry⟩
  ·rw[if_neg e,if_neg (fun z=>e (h1.trans z))]; exact ⟨h1,h2,h3⟩
theorem KT.put {H:Hp} {kvs:List (List Key × V)} {xs:List (List Key × Addr × Value)} (r:KT H kvs xs) (k:List Key) {b:Addr} {y:V} {u:Value} (hb:H b=some (.tup (k.map kV))) (ry:RelV y u) :
    KT H (Tn kvs k y) (storedH xs k b u):=by
 have e:(kvs.any fun kv=>decide (kv.1=k))=(atKey xs k).isSome:=by
  rw[MV,(r.val k).isSome_eq,Option.isSome_map]
 unfold Tn storedH
 rw[e]
 by_cases q:(atKey xs k).isSome=true
 ·rw[if_pos q,if_pos q]; exact r.repl k ry
 ·rw[if_neg q,if_neg q]; exact Paired.snoc r ⟨rfl,hb,ry⟩
theorem KT.keeps {H H':Hp} {kvs:List (List Key × V)} {xs:List (List Key × Addr × Value)} (r:KT H kvs xs) (ht:∀b ys,H b=some (.tup ys)->H' b=some (.tup ys)):KT H' kvs xs :=
 Paired.mapP r fun _ _ z=>⟨z.1,ht _ _ z.2.1,z.2.2⟩
section
variable {P:Program} {w:World} {H:Hp} {h:Heap} {a:Addr}
theorem Dt {u:HO} (ok:HOk P w H h) (e:Rd H a u):ObjOk P w H h a u:=e.ok ok
theorem SS {kvs:List (Key × V)} (ok:HOk P w H h) (e:Rd H a (.dK kvs)):kvs.length<=sizeLine∧(a == sysModules)=false∧∃vs,KV kvs vs∧h.DictOf (Yi P w) a vs :=
 show ObjOk P w H h a (.dK kvs) from Dt ok e
theorem Aj {kvs:List (Key × V)} (ok:HOk P w H h) (e:H a=some (.dK kvs)):kvs.length<=sizeLine∧(a == sysModules)=false∧∃vs,KV kvs vs∧h.DictOf (Yi P w) a vs:=SS ok (.inl e)
theorem SA {ks:List Key} (ok:HOk P w H h) (e:H a=some (.tup (ks.map kV))):(tupleKind (Yi P w)).is h ks a:=by
 obtain ⟨_,its,r,o,h1,h2,n,h3⟩:=(show ObjOk P w H h a (.tup (ks.map kV)) from ok a _ e)
 exact ⟨o,its.toArray,n,h1,h2,h3,by simpa using Pa r⟩
theorem RF {kvs:List (List Key × V)} (ok:HOk P w H h) (e:Rd H a (.dT kvs)):kvs.length<=sizeLine∧(a == sysModules)=false ∧
    ∃xs,KT H kvs xs∧h.DictOfH (tupleKind (Yi P w)) a xs:=by
 obtain ⟨z,y,xs,r,o,es,ep,h1,h2,h3,h4,h5⟩:=(show ObjOk P w H h a (.dT kvs) from Dt ok e)
 refine ⟨z,y,xs,r,o,es,ep,h1,h2,h3,h4,fun x hx=>?_,h5⟩
 have all:∀{l:List (List Key × V)} {m:List (List Key × Addr × Value)},KT H l m->∀x∈m,(tupleKind (Yi P w)).is h x.1 x.2.1:=by
  intro l m q
  induction q with
  |nil=>intro x hx; exact nomatch hx
  |@cons p q ps qs hq t ih =>
   intro x hx
   rcases List.mem_cons.mp hx with e|hx
   ·subst e
    exact SA ok (by rw[← hq.1]; exact hq.2.1)
   ·exact ih x hx
 exact all r x hx
theorem AV {kvs:List (List Key × V)} (ok:HOk P w H h) (e:H a=some (.dT kvs)):kvs.length<=sizeLine∧(a == sysModules)=false ∧
    ∃xs,KT H kvs xs∧h.DictOfH (tupleKind (Yi P w)) a xs:=RF ok (.inl e)
end
def DGet (H:Hp) (a:Addr) (y:V) (r:Option V):Prop :=
 (∃kvs k,Rd H a (.dK kvs)∧y=kV k∧r=TF kvs k)∨∃kvs k b,Rd H a (.dT kvs)∧y=.ref b∧H b=some (.tup (k.map kV))∧r=TF kvs k
def DPut (H:Hp) (a:Addr) (y v:V) (H':Hp):Prop :=
 (∃kvs k,H a=some (.dK kvs)∧y=kV k∧kvs.length < sizeLine∧H'=upd H a (.dK (Tn kvs k v))) ∨
 ∃kvs k b,H a=some (.dT kvs)∧y=.ref b∧H b=some (.tup (k.map kV))∧kvs.length < sizeLine∧H'=upd H a (.dT (Tn kvs k v))
theorem DGet.k {H:Hp} {a:Addr} {kvs:List (Key × V)} {k:Key} (e:H a=some (.dK kvs)):DGet H a (kV k) (TF kvs k):=.inl ⟨kvs,k,.inl e,rfl,rfl⟩
theorem DGet.t {H:Hp} {a b:Addr} {kvs:List (List Key × V)} {k:List Key} (e:H a=some (.dT kvs)) (eb:H b=some (.tup (k.map kV))):DGet H a (.ref b) (TF kvs k):=.inr ⟨kvs,k,b,.inl e,rfl,eb,rfl⟩
theorem DPut.k {H:Hp} {a:Addr} {kvs:List (Key × V)} {k:Key} {v:V} (e:H a=some (.dK kvs)) (hl:kvs.length < sizeLine):DPut H a (kV k) v (upd H a (.dK (Tn kvs k v))):=.inl ⟨kvs,k,e,rfl,hl,rfl⟩
theorem DPut.t {H:Hp} {a b:Addr} {kvs:List (List Key × V)} {k:List Key} {v:V} (e:H a=some (.dT kvs)) (eb:H b=some (.tup (k.map kV))) (hl:kvs.length < sizeLine) :
    DPut H a (.ref b) v (upd H a (.dT (Tn kvs k v))):=.inr ⟨kvs,k,b,e,rfl,eb,hl,rfl⟩
section
variable {X:Cx} {pins:List (Addr × Obj)} {σ:St} {H:Hp} {s:Shared} {a:Addr} {y v:V} {u r:Value} {o:Option V} {A:Around} {E:Value->Shared->Prop}
theorem Inv.big (I:Inv X pins σ H s):sysModules < s.heap.objs.size:=by
 have h:mainGlobals < s.heap.objs.size:=(I.mod.glob.keeps I.bk).lt
 exact Nat.lt_trans (by decide) h
theorem Ia {Q:Value->Shared->Prop} (hu:A.units+1 < cLine) (I:Inv X pins σ H s) (g:DGet H a y (some v)) (ry:RelV y u) (h:∀w' s',Inv X pins σ H s'->RelV v w'->Q w' s') :
    wpAny (model X.prog X.w) A (getItem (.ref a) u) Q E s:=by
 rcases g with ⟨kvs,k,e,ey,l⟩|⟨kvs,k,b,e,ey,eb,l⟩
 ·subst ey
  obtain ⟨z,hd,vs,rel,dd⟩:=SS I.hok e
  obtain ⟨w',hw,rw'⟩:=RelO.some_of (v:=v) (o:=valueAt vs k) (by rw[l]; exact rel.val k)
  exact wpAny_getItem_of (OA ry) dd.mapOf hw (h w' _ (I.tok _) rw')
 ·subst ey
  cases (show u=Value.ref b from ry)
  obtain ⟨z,hd,xs,rel,dd⟩:=RF I.hok e
  obtain ⟨w',hw,rw'⟩:=RelO.some_of (v:=v) (o:=(atKey xs k).map (·.2)) (by rw[l]; exact rel.val k)
  obtain ⟨p,hp,hp2⟩:=Option.map_eq_some_iff.mp hw
  refine wpAny_getItem_heap (tupleKind_room_in1 hu) (SA I.hok eb) dd hp ?_
  rw[hp2]
  exact h w' _ (I.tok _) rw'
theorem d_in {Q:Value->Shared->Prop} (hu:A.units+1 < cLine) (I:Inv X pins σ H s) (g:DGet H a y o) (ry:RelV y u) (h:∀s',Inv X pins σ H s'->Q (.bool o.isSome) s') :
    wpAny (model X.prog X.w) A (compareOp .In u (.ref a)) Q E s:=by
 rcases g with ⟨kvs,k,e,ey,l⟩|⟨kvs,k,b,e,ey,eb,l⟩
 ·subst ey
  obtain ⟨z,hd,vs,rel,dd⟩:=SS I.hok e
  refine wpAny_in_of (OA ry) hd dd.mapOf ?_
  rw[← (rel.val k).isSome_eq,← l]
  exact h _ (I.tok _)
 ·subst ey
  cases (show u=Value.ref b from ry)
  obtain ⟨z,hd,xs,rel,dd⟩:=RF I.hok e
  refine wpAny_in_heap (tupleKind_room_in1 hu) (SA I.hok eb) hd dd ?_
  have q:=(rel.val k).isSome_eq
  rw[Option.isSome_map]at q
  rw[← q,← l]
  exact h _ (I.tok _)
theorem KM {h':Heap} {t':Nat} {ob:HO} (I:Inv X pins σ H s) (mu:Mut (H a)) (hs:Heap.SameBut a s.heap h') (he:∃q,h'.get? a=some q) (new:ObjOk X.prog X.w (upd H a ob) h' a ob) :
    Inv X pins σ (upd H a ob) { s with heap:=h',toks:=t' } :=
 I.write (x:=a) (e:=a) mu (.inl rfl) (fun b q hb z=>(hs.2 b hb).trans z) he new
theorem Cr {P:Program} {w:World} {H':Hp} {h':Heap} {kvs:List (Key × V)} {vs:List (Key × Value)} (z:kvs.length<=sizeLine) (hd:(a == sysModules)=false) (rel:KV kvs vs) (dd:h'.DictOf (Yi P w) a vs) :
    ObjOk P w H' h' a (.dK kvs):=⟨z,hd,vs,rel,dd⟩
theorem Jw {H':Hp} {Q:Unit->Shared->Prop} (hu:A.units+1 < cLine) (I:Inv X pins σ H s) (g:DPut H a y v H') (ry:RelV y u) (rv:RelV v r) (h:∀s',Inv X pins σ H' s'->Q () s') :
    wpAny (model X.prog X.w) A (setItem (.ref a) u r) Q E s:=by
 rcases g with ⟨kvs,k,e,ey,l,eH⟩|⟨kvs,k,b,e,ey,eb,l,eH⟩
 ·subst ey eH
  obtain ⟨z,hd,vs,rel,dd⟩:=Aj I.hok e
  have hz:vs.length<=sizeLine:=by rw[← rel.length]; exact z
  have hl:(Tn kvs k v).length<=sizeLine:=by have:=SG kvs k v; omega
  refine wpAny_setItem_pairs (hsz:=hz) (OA ry) dd fun h' dd' hs=>h _ ?_
  have he:∃q,h'.get? a=some q:=let ⟨q,_,_,hq,_⟩:=dd'; ⟨q,hq⟩
  exact KM I (by rw[e]; exact True.intro) hs he (Cr hl hd (rel.put k rv) dd')
 ·subst ey eH
  cases (show u=Value.ref b from ry)
  obtain ⟨z,hd,xs,rel,dd⟩:=AV I.hok e
  have hz:xs.length<=sizeLine:=by rw[← Paired.length rel]; exact z
  have hl:(Tn kvs k v).length<=sizeLine:=by have:=SG kvs k v; omega
  refine wpAny_setItem_heap (hsz:=hz) (tupleKind_room_in1 hu) (SA I.hok eb) dd fun h' dd' hs=>h _ ?_
  obtain ⟨q,es,ep,hq,h2,h3,h4,_,h5⟩:=dd'
  refine KM I (by rw[e]; exact True.intro) hs ⟨q,hq⟩ ⟨hl,hd,_,(rel.put k eb rv).keeps fun c ys ec=>?_,q,es,ep,hq,h2,h3,h4,h5⟩
  rw[Zz (AG ec e (fun z=>nomatch z))]
  exact ec
end
section
variable {X:Cx} {pins:List (Addr × Obj)} {σ:St} {H:Hp} {s:Shared} {a:Addr} {kvs:List (Key × V)} {k:Key} {u:Value} {A:Around} {E:Value->Shared->Prop}
theorem Ac {Q:Value->Shared->Prop} (I:Inv X pins σ H s) (e:Rd H a (.dK kvs)) (h:∀t s',Inv X pins σ H s'->Q (.int kvs.length t) s'):wpAny (model X.prog X.w) A (call (.builtin "len") [.ref a]) Q E s:=by
 obtain ⟨z,hd,vs,rel,dd⟩:=SS I.hok e
 refine call_len_dict hd dd (by rw[← rel.length]; rw[sizeLine_eq]at z; omega) ?_
 rw[← rel.length]
 exact h _ _ (I.tok _)
end
def CZ (i:Expr):Prop:=∀ov iv,subscripted i false ov iv=operate [ov,iv] (getItem ov iv)
theorem Eg {prog:Program} {w:World} {A:Around} {E:Value->Shared->Prop} {s:Shared} {env:Env} {value slice:Expr} {pos:Pos} {T id:String} {Q:Value->Shared->Prop}
    (hl:typeLookup (.type T) "__getitem__"=pure (some (.builtin id))) (hs:CZ slice)
    (h:wpAny (model prog w) A (eval value env) (fun o s₁=>wpAny (model prog w) A (eval slice env) (fun i s₂=>s₂.TypeIs o T∧wpAny (model prog w) A (getItem o i) Q E s₂) E s₁) E s) :
    wpAny (model prog w) A (eval (.Subscript value slice pos) env) Q E s:=by
 refine Subscript_ (wpAny_mono h (fun o s₁ h₁=>wpAny_mono h₁ (fun i s₂ h₂=>?_) fun _ _ x=>x) fun _ _ x=>x)
 obtain ⟨hT,h₂⟩:=h₂
 unfold subscriptTail
 refine wpAny_bind ?_
 rw[getitemInPython_of_ne hT.not_modules]
 refine wpAny_bind (wpAny_specialOf hT hl ?_)
 have fin:wpAny (model prog w) A (subscripted slice false o i) (fun r s₃=>wpAny (model prog w) A (letTemporaryGo value o r >>= fun _=>pure r) Q E s₃) E s₂:=by
  rw[hs o i]
  exact wpAny_operating (wpAny_mono h₂ (fun r s₃ h₃=>wpAny_bind (wpAny_letTemporaryGo (wpAny_pure h₃))) fun _ _ x=>x)
 first
  |exact wpAny_pure (wpAny_bind fin)
  |exact wpAny_bind (wpAny_pure (wpAny_bind fin))
  |exact wpAny_bind fin
theorem NM {X:Cx} {pins:List (Addr × Obj)} {σ:St} {H:Hp} {s:Shared} {a:Addr} {y:V} {o:Option V} (I:Inv X pins σ H s) (g:DGet H a y o):s.TypeIs (.ref a) "dict":=by
 rcases g with ⟨kvs,k,e,_,_⟩|⟨kvs,k,b,e,_,_,_⟩
 ·obtain ⟨_,_,vs,_,dd⟩:=SS I.hok e
  exact dd.typeIs
 ·obtain ⟨_,_,xs,_,dd⟩:=RF I.hok e
  exact dd.typeIs
def Ae (td ty:TE):TE:=fun σ H Q=>td σ H fun x H1=>ty σ H1 fun y H2=>∃a v,x=.ref a∧DGet H2 a y (some v)∧Q v H2
def tDIn (ty td:TE):TE:=fun σ H Q=>ty σ H fun y H1=>td σ H1 fun x H2=>∃a o,x=.ref a∧DGet H2 a y o∧Q (.bl o.isSome) H2
def A6 (td ty tv:TE):TS:=fun D σ H=>tv σ H fun v H1=>td σ H1 fun x H2=>ty σ H2 fun y H3=>∃a H4,x=.ref a∧DPut H3 a y v H4∧D.nx σ H4
section
variable {X:Cx} {o i e value:Expr} {pos pos' tpos:Pos} {td ty tv:TE}
theorem EU (hu:X.A.units+1 < cLine) (ho:PE X o td) (hi:PE X i ty) (hs:CZ i):PE X (.Subscript o i pos) (Ae td ty):=by
 intro pins s σ H Q I h
 refine Eg PySem.F.slot_dict_getitem.lookup hs (thn (ho pins s σ H _ I h) fun u s1 ⟨x,H1,I1,rx,q1⟩=>thn (hi pins s1 σ H1 _ I1 q1) fun iv s2 ⟨y,H2,I2,ry,a,v,ex,g,q2⟩=>?_)
 subst ex
 obtain rfl:u=Value.ref a:=rx
 exact ⟨NM I2 g,Ia hu I2 g ry fun w' s3 I3 rw'=>⟨v,H2,I3,rw',q2⟩⟩
theorem H9 (hu:X.A.units+1 < cLine) (hi:PE X i ty) (ho:PE X o td):PC X .In i o (tDIn ty td):=by
 intro pins s σ H Q I h
 refine thn (hi pins s σ H _ I h) fun iv s1 ⟨y,H1,I1,ry,q1⟩=>thn (ho pins s1 σ H1 _ I1 q1) fun u s2 ⟨x,H2,I2,rx,a,ov,ex,g,q2⟩=>?_
 subst ex
 obtain rfl:u=Value.ref a:=rx
 exact d_in hu I2 g ry fun s3 I3=>⟨.bl ov.isSome,H2,I3,rfl,q2⟩
theorem Ex (hu:X.A.units+1 < cLine) (ho:PE X o td) (hi:PE X i ty) (hv:PE X value tv) (hs:swapsWith value (some (.Subscript o i pos')) pos.line X.env=pure false) :
    PS X (.Assign [.Subscript o i pos'] value pos) (A6 td ty tv):=by
 intro pins s σ H D I h
 refine wpAny_Assign_Subscript (thn (hv pins s σ H _ I h) fun r s1 ⟨v,H1,I1,rv,q1⟩=>thn (ho pins s1 σ H1 _ I1 q1) fun u s2 ⟨x,H2,I2,rx,q2⟩=>thn (hi pins s2 σ H2 _ I2 q2) fun iv s3 ⟨y,H3,I3,ry,a,H4,ex,g,q3⟩=>?_) hs
 subst ex
 obtain rfl:u=Value.ref a:=rx
 exact Jw hu I3 g ry rv fun s4 I4=>⟨σ,H4,I4,q3⟩
end
theorem Ff {P:Program} {w:World} {H:Hp} (h:Heap) (hb:sysModules < h.objs.size):ObjOk P w H (h.push { cls:=.type "dict",data:=.dict #[] }) h.objs.size (.dK []) :=
 ⟨Nat.zero_le _,beq_eq_false_iff_ne.mpr (Ne.symm (Nat.ne_of_lt hb)),[],.nil,Heap.DictOf.new h⟩
theorem Fh {P:Program} {w:World} {H:Hp} (h:Heap) (hb:sysModules < h.objs.size):ObjOk P w H (h.push { cls:=.type "dict",data:=.dict #[] }) h.objs.size (.dT []) :=
 ⟨Nat.zero_le _,beq_eq_false_iff_ne.mpr (Ne.symm (Nat.ne_of_lt hb)),[],.nil,_,#[],0,Heap.get?_push_size _ rfl,⟨rfl,rfl,rfl⟩,rfl,rfl,List.nodup_nil⟩
def Cn:TE:=fun _ H Q=>∀p,H p=none->Q (.ref p) (upd H p (.dK []))
def C8:TE:=fun _ H Q=>∀p,H p=none->Q (.ref p) (upd H p (.dT []))
section
variable {X:Cx} {pos:Pos}
theorem Gb:PE X (.Dict [] [] pos) Cn:=fun pins s σ H Q I h =>
 wpAny_Dict_empty ⟨.ref s.heap.objs.size,_,I.laid (a:=s.heap.objs.size) (o:=.dK []) (t':=s.toks) (fun _ _ q=>Heap.get?_push_of_some _ q) (Nat.le_refl _) (Ff s.heap I.big),rfl,h _ (I.hok.fresh (Nat.le_refl _))⟩
theorem I0:PE X (.Dict [] [] pos) C8:=fun pins s σ H Q I h =>
 wpAny_Dict_empty ⟨.ref s.heap.objs.size,_,I.laid (a:=s.heap.objs.size) (o:=.dT []) (t':=s.toks) (fun _ _ q=>Heap.get?_push_of_some _ q) (Nat.le_refl _) (Fh s.heap I.big),rfl,h _ (I.hok.fresh (Nat.le_refl _))⟩
end
structure M1 (X:Cx) (o:Expr) (m:Str) (apos:Pos) (e:Expr) (cpos:Pos):Prop where
 base:attributeBase o m X.env (eval o X.env)=eval o X.env
 few:((backTo cpos (starEach [e] X.env)).all (fun x=>!x.1)&&(backToKw cpos (keywordEach [] X.env)).all (fun x=>x.1.isSome)
  && decide (([e]:List Expr).length+([]:List Keyword).length+(if ([]:List Keyword).isEmpty then 0 else 1) < 30))=true
 line:(apos.endLine == cpos.line)=true
 trees:backTo cpos (starEach [e] X.env)=[(false,eval e X.env)]
structure M2 (X:Cx) (o:Expr) (m:Str) (apos:Pos) (e f:Expr) (cpos:Pos):Prop where
 base:attributeBase o m X.env (eval o X.env)=eval o X.env
 few:((backTo cpos (starEach [e,f] X.env)).all (fun x=>!x.1)&&(backToKw cpos (keywordEach [] X.env)).all (fun x=>x.1.isSome)
  && decide (([e,f]:List Expr).length+([]:List Keyword).length+(if ([]:List Keyword).isEmpty then 0 else 1) < 30))=true
 line:(apos.endLine == cpos.line)=true
 trees:backTo cpos (starEach [e,f] X.env)=[(false,eval e X.env),(false,eval f X.env)]
def IsD (H:Hp) (a:Addr):Prop:=(∃kvs,Rd H a (.dK kvs))∨∃kvs,Rd H a (.dT kvs)
theorem Ge {X:Cx} {pins:List (Addr × Obj)} {σ:St} {H:Hp} {s:Shared} {a:Addr} (I:Inv X pins σ H s) (d:IsD H a) :
    s.TypeIs (.ref a) "dict"∧(∀b,Value.ref a=.ref b->∃ob,s.heap.get? b=some ob∧ob.dict=none)∧(a == sysModules)=false:=by
 rcases d with ⟨kvs,e⟩|⟨kvs,e⟩
 ·obtain ⟨_,hd,vs,_,dd⟩:=SS I.hok e
  refine ⟨dd.typeIs,fun b q=>?_,hd⟩
  cases q
  obtain ⟨ob,_,_,h1,h2,_⟩:=dd
  exact ⟨ob,h1,h2.2.1⟩
 ·obtain ⟨_,hd,xs,_,dd⟩:=RF I.hok e
  refine ⟨dd.typeIs,fun b q=>?_,hd⟩
  cases q
  obtain ⟨ob,_,_,h1,h2,_⟩:=dd
  exact ⟨ob,h1,h2.2.1⟩
section
variable {X:Cx} {pins:List (Addr × Obj)} {σ:St} {H:Hp} {s:Shared} {a:Addr} {y d:V} {u r:Value} {o:Option V} {A:Around} {E:Value->Shared->Prop}
theorem Bh {Q:Value->Shared->Prop} (hu:A.units+1 < cLine) (I:Inv X pins σ H s) (g:DGet H a y o) (ry:RelV y u) (h:∀w' s',Inv X pins σ H s'->RelV (o.getD .non) w'->Q w' s') :
    wpAny (model X.prog X.w) A (call (.builtin "dict.get") [.ref a,u]) Q E s:=by
 rcases g with ⟨kvs,k,e,ey,l⟩|⟨kvs,k,b,e,ey,eb,l⟩
 ·subst ey
  obtain ⟨z,hd,vs,rel,dd⟩:=SS I.hok e
  refine call_meetsIn PySem.F.slot_dict_get dd.typeIs PySem.F.entry_dict_get (PySem.F.args_dict_get_2 _ _) (meets_dict_get (Yi X.prog X.w) a (OA ry) hd) ⟨_,dd.mapOf,h _ _ (I.tok _) ?_⟩
  rw[l]
  exact (rel.val k).getD rfl
 ·subst ey
  cases (show u=Value.ref b from ry)
  obtain ⟨z,hd,xs,rel,dd⟩:=RF I.hok e
  refine call_meetsIn PySem.F.slot_dict_get dd.typeIs PySem.F.entry_dict_get (PySem.F.args_dict_get_2 _ _) (meetsH_dict_get (tupleKind (Yi X.prog X.w)) a b hd) ⟨tupleKind_room_in1 hu,k,xs,SA I.hok eb,dd,h _ _ (I.tok _) ?_⟩
  rw[l]
  exact (rel.val k).getD rfl
theorem C9 {Q:Value->Shared->Prop} (hu:A.units+1 < cLine) (I:Inv X pins σ H s) (g:DGet H a y o) (ry:RelV y u) (rd:RelV d r) (h:∀w' s',Inv X pins σ H s'->RelV (o.getD d) w'->Q w' s') :
    wpAny (model X.prog X.w) A (call (.builtin "dict.get") [.ref a,u,r]) Q E s:=by
 rcases g with ⟨kvs,k,e,ey,l⟩|⟨kvs,k,b,e,ey,eb,l⟩
 ·subst ey
  obtain ⟨z,hd,vs,rel,dd⟩:=SS I.hok e
  refine call_meetsIn PySem.F.slot_dict_get dd.typeIs PySem.F.entry_dict_get (PySem.F.args_dict_get_3 _ _ _) (meets_dict_get_default (Yi X.prog X.w) a (OA ry) hd r) ⟨_,dd.mapOf,h _ _ (I.tok _) ?_⟩
  rw[l]
  exact (rel.val k).getD rd
 ·subst ey
  cases (show u=Value.ref b from ry)
  obtain ⟨z,hd,xs,rel,dd⟩:=RF I.hok e
  refine call_meetsIn PySem.F.slot_dict_get dd.typeIs PySem.F.entry_dict_get (PySem.F.args_dict_get_3 _ _ _) (meetsH_dict_get_default (tupleKind (Yi X.prog X.w)) a b hd r) ⟨tupleKind_room_in1 hu,k,xs,SA I.hok eb,dd,h _ _ (I.tok _) ?_⟩
  rw[l]
  exact (rel.val k).getD rd
end
def CL (td ty:TE):TE:=fun σ H Q=>td σ H fun x H1=>∃a,x=.ref a∧IsD H1 a∧ty σ H1 fun y H2=>∃o,DGet H2 a y o∧Q (o.getD .non) H2
def CB (td ty tx:TE):TE:=fun σ H Q=>td σ H fun x H1=>∃a,x=.ref a∧IsD H1 a∧ty σ H1 fun y H2=>tx σ H2 fun z H3=>∃o,DGet H3 a y o∧Q (o.getD z) H3
section
variable {X:Cx} {o e f:Expr} {apos cpos:Pos} {td ty tx:TE}
theorem Gc (hu:X.A.units+1 < cLine) (ho:PE X o td) (he:PE X e ty) (m:M1 X o "get" apos e cpos):PE X (.Call (.Attribute o "get" apos) [e] [] cpos) (CL td ty):=by
 intro pins s σ H Q I h
 refine wpAny_Call_method m.base m.few m.line PySem.F.plainAttrs_dict PySem.F.slot_dict_get PySem.F.type_dict_get (thn (ho pins s σ H _ I h) fun u s1 ⟨x,H1,I1,rx,a,ex,d,q1⟩=>?_)
 subst ex
 obtain rfl:u=Value.ref a:=rx
 obtain ⟨t1,t2,_⟩:=Ge I1 d
 refine ⟨t1,t2,?_⟩
 rw[m.trees]
 refine Calls.callWith_builtin rfl (Calls.evalArgs_plain (Calls.spliced_cons (thn (he pins s1 σ H1 _ I1 q1) fun iv s2 ⟨y,H2,I2,ry,ov,g,q2⟩=>Calls.spliced_nil ?_)))
 exact Bh hu I2 g ry fun w' s3 I3 rw'=>⟨_,H2,I3,rw',q2⟩
theorem G8 (hu:X.A.units+1 < cLine) (ho:PE X o td) (he:PE X e ty) (hf:PE X f tx) (m:M2 X o "get" apos e f cpos):PE X (.Call (.Attribute o "get" apos) [e,f] [] cpos) (CB td ty tx):=by
 intro pins s σ H Q I h
 refine wpAny_Call_method m.base m.few m.line PySem.F.plainAttrs_dict PySem.F.slot_dict_get PySem.F.type_dict_get (thn (ho pins s σ H _ I h) fun u s1 ⟨x,H1,I1,rx,a,ex,d,q1⟩=>?_)
 subst ex
 obtain rfl:u=Value.ref a:=rx
 obtain ⟨t1,t2,_⟩:=Ge I1 d
 refine ⟨t1,t2,?_⟩
 rw[m.trees]
 refine Calls.callWith_builtin rfl (Calls.evalArgs_plain (Calls.spliced_cons (thn (he pins s1 σ H1 _ I1 q1) fun iv s2 ⟨y,H2,I2,ry,q2⟩ =>
  Calls.spliced_cons (thn (hf pins s2 σ H2 _ I2 q2) fun fv s3 ⟨z,H3,I3,rz,ov,g,q3⟩=>Calls.spliced_nil ?_))))
 exact C9 hu I3 g ry rz fun w' s4 I4 rw'=>⟨_,H3,I4,rw',q3⟩
end
section
variable {X:Cx} {pins:List (Addr × Obj)} {σ:St} {H:Hp} {s:Shared} {a:Addr} {kvs:List (Key × V)} {A:Around} {E:Value->Shared->Prop}
end
section
variable {X:Cx} {pins:List (Addr × Obj)} {σ:St} {H:Hp} {s:Shared} {a:Addr} {y:V} {u:Value} {A:Around} {E:Value->Shared->Prop}
end
end L2
namespace Att
open PySem PySem.W PySem.Calls PyProof.Rows
theorem S8 {P:Params} {h:Heap}:∀(ns:List Int) (vs:List Value),WellAll P h vs (ns.map WData.int)->IntsAre vs ns:=by
 intro ns
 induction ns with
 |nil =>
  intro vs w
  rw[List.map_nil]at w
  cases w
  exact .nil
 |cons n ns ih =>
  intro vs w
  rw[List.map_cons]at w
  cases w with
  |cons a b =>
   cases a
   exact .cons _ _ (ih _ b)
theorem IA {l:OpenLaw} {n:Nat} (hn:l.most=some n) {P:Params} {h:Heap} {args:List WData} {vals:List Value}
    (hpre:l.row.toRowW.claim.pre args=true) (hwl:WellAll P h vals args) :
    ∃a vs ns,vals=[Value.ref a]∧args=[WData.list (ns.map WData.int)]∧h.get? a=some { cls:=.type "list",data:=.seq vs.toArray }∧IntsAre vs ns∧ns.length<=n:=by
 have hsh:WShape.hasAll [] args [.list .int]=true:=(pre_splitW hpre).1
 have hc:l.pre.holds [] { args:=args }=true:=(pre_splitW hpre).2
 obtain ⟨d,r,rfl,h1,h2⟩:=hasAllW_cons hsh
 obtain rfl:=hasAllW_nil h2
 obtain ⟨xs,rfl,h3⟩:=hasW_list h1
 obtain ⟨ns,rfl⟩:=items_int h3
 have hlen:ns.length<=n:=by
  unfold OpenLaw.pre at hc
  have h4:(WTm.not (.lt (.lit (.int (n:Int))) (.len (.arg 0)))).holds [] { args:=[.list (ns.map .int)] }=true:=by
   have h4:=(holds_andW hc).1
   rw[hn]at h4
   exact h4
  have h5:=condW_of h4 (w_not (w_lt w_lit (w_len_list (w_arg rfl))))
  rw[List.length_map]at h5
  refine Nat.le_of_not_lt fun q=>?_
  have q':(n:Int) < ((ns.length:Nat):Int):=by omega
  first
   |(rw[decide_eq_true q']at h5; exact absurd h5 (by decide))
   |(simp at h5; omega)
 cases hwl with
 |cons w1 w2 =>
  cases w2
  cases w1 with
  |list ho hall=>exact ⟨_,_,ns,rfl,rfl,ho,S8 ns _ hall,hlen⟩
theorem JX (l:OpenLaw) (args:List WData):l.row.toRowW.claim.post args (.bool true) args=true :=
 postW_of (r:=l.row.toRowW) (X:=(true == true))
  (show WShape.has [] (.bool true) .bool=true by first|rfl|decide|simp[WShape.has,WShape.arms,WShape.armsAll])
  (show (WTm.eq .res (.lit (.bool true))).value [] { args:=args,res:=some (.bool true),after:=args }=some (.bool (true == true)) from w_eq_bool (w_res rfl) w_lit) rfl
theorem attach_call {l:OpenLaw} {n:Nat} {q:Program} {loose:List Str} {XP:(Str->Option Value)->Heap->Prop} {YP:World->Heap->Prop} {d:DefRec}
    (hn:l.most=some n) (hdf:d.params.defaults=[])
    (call:∀(w:World) (s₀ s₁:Shared) (mg mb:Str->Option Value) (fa:Addr) (o:Obj) (pm cd doc:Value) (a:Addr) (vs:List Value) (ns:List Int),
     Ground q loose [] XP w s₀ mg mb s₁.heap->YP w s₁.heap ->
     s₁.heap.get? fa=some o->o.data=.func (docDef d.name d.params d.body d.scope pm cd doc)->s₁.heap.CodeRec cd d.name->mg d.name=some (.ref fa) ->
     s₁.heap.get? a=some { cls:=.type "list",data:=.seq vs.toArray }->IntsAre vs ns->ns.length<=n->s₁.gens=#[] ->
     codeAny (model l.prog w) callerA (.call (.ref fa) ⟨[.ref a],[]⟩) (fun r s'=>r=.ok (.ret (.bool true))∧OldK s₁.heap s'.heap∧s'.os=s₁.os∧AllBare s'.gens) s₁) :
    WalkO q loose XP YP l.row.toRowW d [] (fun f vs=>PySem.call f vs):=by
 intro w s₀ s₁ mg mb G Y fa o pm cd doc dV kV ho hd hcd hD hmg hg args vals as hpre hlay hrd hwl hlo
 obtain rfl:dV=.none:=Dflts.none hD hdf
 obtain rfl:kV=.none:=Dflts.noKw hD
 obtain ⟨a,vs,ns,rfl,rfl,hobj,hints,hlen⟩:=IA hn hpre hwl
 refine enter_call (codeAny_mono (call w s₀ s₁ mg mb fa o pm cd doc a vs ns G Y ho (fd_plain hd) hcd hmg hobj hints hlen hg) fun r s' hq=>?_)
 obtain ⟨rfl,h2,h3,h4⟩:=hq
 exact ⟨.inl ⟨.bool true,.bool true,[],rfl,fun _=>rfl,.bool true,JX l _,fun _=>⟨List.Pairwise.nil,fun _ hm=>(nomatch hm)⟩⟩,h2,h3,h4⟩
section
variable {prog:Program} {w:World} {A:Around} {E:Value->Shared->Prop} {s:Shared} {K:Frag}
end
end Att
namespace L2
open PySem PySem.Spec PyProof.Rows
theorem Ot:∀{vs:List Value} {ns:List Int},IntsAre vs ns->Vals (ns.map V.int) vs
 |_,_,.nil=>.nil
 |_,_,.cons n t h=>.cons ⟨t,rfl⟩ (Ot h)
def B2 (H:Hp):Prop:=∀b,H b=none∨∃o xs,H b=some (.frz o (.lst xs))
theorem GL {P:Program} {w:World} {K:PySem.W.Frag} {mg mb:Str->Option Value} {CX:CXT} {k:Nat} {fa a:Addr} {fd:FuncData} {x:Str} {sp:Sp} {s₁:Shared} {vs:List Value} {ns:List Int}
    (KX:K.In s₁.heap) (hns:s₁.heap.Ns mainGlobals mg) (hb:s₁.heap.Ns builtinsNs mb) (hbb:∀x:Str,x≠"__name__"->mb x=bootBuiltins x) (hlim:s₁.heap.NoLimit) (hg:s₁.gens=#[])
    (ha:s₁.heap.get? a=some { cls:=.type "list",data:=.seq vs.toArray }) (hi:IntsAre vs ns) (hl:ns.length<=sizeLine) (hr:Room k callerA)
    (F:∀base:Heap,K.In base->base.Ns mainGlobals mg->FnOk P w K mg base CX k fa fd [x] sp) (hbind:∀(s:Shared) (u:Value),BindsTo s fd ⟨[u],[]⟩ [(x,u)])
    (hsp:∀H:Hp,B2 H->SqL K H a (ns.map V.int)->sp [.ref a] H (fun v _=>v=.bl true) fun _ _ _=>False)
    (hCX:∀H e s',CX [] H s₁ (fun _ _ _=>False) e s'->False) :
    codeAny (model P w) callerA (.call (.ref fa) ⟨[.ref a],[]⟩) (fun r s'=>r=.ok (.ret (.bool true))∧OldK s₁.heap s'.heap∧s'.os=s₁.os∧AllBare s'.gens) s₁:=by
 have rv:=Ot hi
 have lenV:=hi.length
 have core : ∀ H : Hp,B2 H -> SqL K H a (ns.map V.int) -> HOk P w H s₁.heap -> (∀ b,H b ≠ none -> b = a) -> (H a ≠ none -> K.lookup a = none) ->
     codeAny (model P w) callerA (.call (.ref fa) ⟨[.ref a],[]⟩) (fun r s'=>r=.ok (.ret (.bool true))∧OldK s₁.heap s'.heap∧s'.os=s₁.os∧AllBare s'.gens) s₁:=by
  intro H hO hS hok hA hK
  have base_of:∀{b:Addr} {o:Obj},s₁.heap.get? b=some o->H b=none->(NJ s₁.heap H).get? b=some o:=fun e n=>GZ e n
  have noA:∀{b:Addr} {o:Obj} {es:Array DictEntry} {ep:Nat},s₁.heap.get? b=some o->o.data=.dict es ep->H b=none:=fun {b o es ep} e d=>by
   cases q:H b with
   |none=>rfl
   |some u =>
    have e':b=a:=hA b (by rw[q]; simp)
    subst e'
    rw[ha]at e; cases e
    have d':Data.seq vs.toArray _=Data.dict es ep:=d
    cases d'
  have nsK:∀{b:Addr} {m:Str->Option Value},s₁.heap.Ns b m->(NJ s₁.heap H).Ns b m:=fun {b m} ⟨o,es,ep,e,d,r⟩=>⟨o,es,ep,base_of e (noA e d),d,r⟩
  have hKb:K.In (NJ s₁.heap H):=fun b o e=>base_of (KX b o e) (by
   cases q:H b with
   |none=>rfl
   |some u =>
    have e':b=a:=hA b (by rw[q]; simp)
    subst e'
    rw[hK (by rw[q]; simp)]at e; cases e)
  have hM:Mod K mg (NJ s₁.heap H):=⟨hKb,nsK hns,⟨mb,nsK hb,hbb⟩,let ⟨mc,h1,h2⟩:=hlim; ⟨mc,nsK h1,h2⟩⟩
  have e0:Env0 P w K mg (NJ s₁.heap H) callerA [] s₁ H:=⟨rfl,hM,fun b o e=>FH e,Nat.le_of_eq (J7 _ _),trivial,fun b hb=>absurd (show b∈([]:List Addr) from hb) (by simp),hok,.of_eq hg⟩
  refine codeAny_mono ((F _ hKb (nsK hns)).run callerA [] s₁ H ⟨[.ref a],[]⟩ [.ref a] [.ref a] _ _ hr e0 (hbind s₁ (.ref a)) (.cons rfl .nil) (hsp H hO hS)) fun r s' h=>?_
  cases r with
  |error e=>exact (hCX H e s' h).elim
  |ok fl =>
   cases fl with
   |next=>exact False.elim h
   |brk=>exact False.elim h
   |cont=>exact False.elim h
   |ret u =>
    obtain ⟨v,H',os,bare,un,hok',r',q⟩:=h
    have q':v=.bl true:=q
    subst q'
    obtain rfl:u=Value.bool true:=r'
    refine ⟨rfl,OldK.of_keep fun b o e=>?_,os,bare⟩
    cases q:H b with
    |none=>exact un.keep b o e q (by intro z; exact absurd (show b∈([]:List Addr) from z) (by simp)) (by simp)
    |some u =>
     rcases hO b with z|⟨ob,xs,z⟩
     ·rw[q]at z; cases z
     ·have z2:=un.frzs b ob _ z
      obtain ⟨e1,_⟩:=hok b _ z
      obtain ⟨e2,_⟩:=hok' b _ z2
      rw[e]at e1; cases e1
      exact e2
 cases hk:K.lookup a with
 |some o =>
  have e:=KX a o hk
  rw[ha]at e
  cases e
  refine core (fun _=>none) (fun _=>.inl rfl) (.inr ⟨_,vs.toArray,_,hk,rfl,rfl,rfl,by rw[List.size_toArray,lenV]; exact hl,by simpa using rv⟩) (fun b u z=>by have z':(none:Option HO)=some u:=z; cases z') (fun b z=>absurd rfl z) fun z=>absurd rfl z
 |none =>
  refine core (fun b=>if b=a then some (.frz { cls:=.type "list",data:=.seq vs.toArray } (.lst (ns.map V.int))) else none) (fun b=>?_) (.inl (.inr ⟨{ cls:=.type "list",data:=.seq vs.toArray },if_pos rfl⟩)) (fun b u z=>?_) (fun b z=>?_) fun _=>hk
  ·by_cases hb:b=a
   ·exact .inr ⟨_,_,if_pos hb⟩
   ·exact .inl (if_neg hb)
  ·by_cases hb:b=a
   ·have z':=(if_pos hb).symm.trans z
    cases z'
    subst hb
    exact ⟨ha,by rw[List.length_map]; exact hl,vs,_,rv,ha⟩
   ·have z':=(if_neg hb).symm.trans z
    cases z'
  ·by_cases hb:b=a
   ·exact hb
   ·exact absurd (if_neg hb) z
open PySem PySem.Spec PyProof.Rows
open PySem PySem.Spec PyProof.Rows
abbrev CX0:CXT:=fun _ _ _ _ _ _=>False
abbrev E0:XK:=fun _ _ _=>False
structure Fun (K:PySem.W.Frag) (x qual:Str) (st:Stmt) (f:Addr) (fd:FuncData):Prop where
 ex:∃(oc:Value) (od:Option Addr) (kV doc pm:Value) (an:Option Addr) (cdv ct:Value) (osl:Array (Option Value)),
  fd=PySem.W.fnOf x qual (ZA st) (Zu st) (Zi st) .none kV doc pm an cdv ct∧K.lookup f=some ⟨oc,od,.func fd,osl⟩∧PySem.W.codeIn K cdv qual=true
 kp:PySem.W.keepIn K (.ref f)=true
section
variable {P:Program} {w:World} {K:PySem.W.Frag} {mg:Str->Option Value} {base:Heap}
theorem Fun.ok {x qual:Str} {st:Stmt} {f:Addr} {fd:FuncData} {N ps:List Str} {k:Nat} {sp:Sp} (F:Fun K x qual st f fd) (S:FnScope N ps (Zi st)) (len:∀vs H Q E,sp vs H Q E->vs.length=ps.length)
    (hbody:∀(cdv:Value) (A:Around) (outer:List Env) (s:Shared) (H:Hp) (vs:List V) (Q:VK) (E:XK),Room k (A.deeper (envOfC qual (Zi st) s.heap.objs.size f cdv))->sp vs H Q E ->
     ∃t,PSs (QG CX0 P w K mg base N qual (Zi st) f cdv A outer s H E).nox (Zu st) t∧t { nx:=fun _ H'=>Q .non H',rt:=Q } (start N vs) H):FnOk P w K mg base CX0 (k+1) f fd ps sp:=by
 obtain ⟨oc,od,kV,doc,pm,an,cdv,ct,osl,rfl,lk,hcd⟩:=F.ex
 refine Dr lk hcd S len fun A outer s H vs Q E hr hsp=>?_
 obtain ⟨t,h,q⟩:=hbody cdv A outer s H vs Q E hr hsp
 exact ⟨t,h.nox,q⟩
theorem Fun.binds {x qual:Str} {st:Stmt} {f:Addr} {fd:FuncData} {ps:List Str} (F:Fun K x qual st f fd)
    (h:∀(kV doc pm:Value) (an:Option Addr) (cdv ct:Value) (us:List Value),us.length=ps.length->bindArgs (PySem.W.fnOf x qual (ZA st) (Zu st) (Zi st) .none kV doc pm an cdv ct) ⟨us,[]⟩=pure (ps.zip us)):Binds K fd ps []:=by
 obtain ⟨oc,od,kV,doc,pm,an,cdv,ct,osl,rfl,lk,hcd⟩:=F.ex
 exact .all (h kV doc pm an cdv ct)
theorem ZO {x qual:Str} {st:Stmt} {f:Addr} {oc:Value} {od an:Option Addr} {osl:Array (Option Value)} {kV doc pm cdv ct:Value} (l:K.lookup f=some ⟨oc,od,.func (PySem.W.fnOf x qual (ZA st) (Zu st) (Zi st) .none kV doc pm an cdv ct),osl⟩)
    (c:PySem.W.codeIn K cdv qual=true) (k:PySem.W.keepIn K (.ref f)=true):Fun K x qual st f (PySem.W.fnOf x qual (ZA st) (Zu st) (Zi st) .none kV doc pm an cdv ct):=⟨⟨oc,od,kV,doc,pm,an,cdv,ct,osl,rfl,l,c⟩,k⟩
end
section
variable {X:Cx}
end
def Same (H H':Hp):Prop:=∀b o,H b=some o->H' b=some o
theorem Same.refl (H:Hp):Same H H:=fun _ _ h=>h
theorem Same.trans {H H1 H2:Hp} (a:Same H H1) (b:Same H1 H2):Same H H2:=fun c o h=>b c o (a c o h)
theorem Same.free {H H':Hp} (e:Same H H') {l:Addr} (h:H' l=Option.none):H l=Option.none:=by
 cases q:H l with
 |none=>rfl
 |some o =>
  rw[e l o q]at h
  cases h
open PySem PySem.Spec PyProof.Rows
section
variable {X:Cx}
theorem Iq:CallR X (.builtin "len") (fun xs H Q=>∃a kvs,xs=[V.ref a]∧H a=some (.dK kvs)∧Q (.int kvs.length) H):=by
 intro pins s σ H xs us Q I r h
 obtain ⟨a,kvs,rfl,ha,q⟩:=h
 obtain ⟨u,rfl,ru⟩:=N0 r
 cases ru
 exact Ac I (.inl ha) fun t s' I'=>⟨.int kvs.length,H,I',⟨t,rfl⟩,q⟩
end
open PySem PySem.Spec PyProof.Rows
section
variable {κ:Type} [DecidableEq κ]
end
open PySem PySem.Spec PyProof.Rows
mutual
inductive DV (H:Hp):V->PyData->Prop
 |non:DV H .non .none
 |bl (b:Bool):DV H (.bl b) (.bool b)
 |int (i:Int):DV H (.int i) (.int i)
 |str (x:Str):DV H (.str x) (.str x)
 |lst {a:Addr} {xs:List V} {ds:List PyData} (e:H a=some (.lst xs)) (r:DVs H xs ds):DV H (.ref a) (.list ds)
 |tup {a:Addr} {xs:List V} {ds:List PyData} (e:H a=some (.tup xs)) (r:DVs H xs ds):DV H (.ref a) (.tuple ds)
inductive DVs (H:Hp):List V->List PyData->Prop
 |nil:DVs H [] []
 |cons {x:V} {xs:List V} {d:PyData} {ds:List PyData} (h:DV H x d) (r:DVs H xs ds):DVs H (x::xs) (d::ds)
end
section
variable {X:Cx} {pins:List (Addr × Obj)} {σ:St} {H:Hp} {s:Shared}
end
section
variable {X:Cx}
end
section
variable {X:Cx} {st:Stmt} {rest:List Stmt} {t u:TS}
end
section
variable {X:Cx} {e:Expr} {es:List Expr} {te:TE} {pos:Pos}
def tFmt (te:TE):TE:=fun σ H Q=>te σ H fun x H1=>∃i,x=.int i∧i.natAbs.log2 < 1920∧Q (.str (toString i)) H1
theorem BD (he:PE X e te):PE X (.FormattedValue e (-1) none pos) (tFmt te):=by
 intro pins s σ H Q I h
 refine PyProof.Rows.FormattedValue_plain (thn (he pins s σ H _ I h) fun v s1 ⟨x,H1,I1,r1,i,ex,hb,q⟩=>?_)
 subst ex
 obtain ⟨t,rfl⟩:=r1
 exact PySem.wpAny_formatField_int hb ⟨.str (toString i),H1,I1.tok _,⟨_,rfl⟩,q⟩
def PJ (X:Cx) (n:Nat) (es:List Expr) (t:TA):Prop :=
 ∀(pins:List (Addr × Obj)) (s:Shared) (σ:St) (H:Hp) (acc:Str) (Q:VK),Inv X pins σ H s->acc.length+n * es.length<=sizeLine ->
  t σ H (fun _ H1=>∀z:Str,Q (.str z) H1)->wpAny (model X.prog X.w) X.A (joinParts acc (evalEach es X.env)) (EP X pins σ Q) X.xe s
def Bw (n:Nat) (te:TE) (t:TA):TA:=fun σ H Q=>te σ H fun x H1=>(∃y:Str,x=.str y∧y.length<=n)∧t σ H1 Q
theorem CM {n:Nat}:PJ X n [] Bp:=by
 intro pins s σ H acc Q I hl h
 exact PyProof.Rows.joinParts_nil ⟨.str acc,H,I.tok _,⟨_,rfl⟩,h acc⟩ (by simpa using hl)
theorem K5 {n:Nat} {t:TA} (he:PE X e te) (hr:PJ X n es t) (hs:evalEach (e::es) X.env=eval e X.env::evalEach es X.env:=by rfl):PJ X n (e::es) (Bw n te t):=by
 intro pins s σ H acc Q I hl h
 rw[hs]
 refine PyProof.Rows.joinParts_cons (thn (he pins s σ H _ I h) fun v s1 ⟨x,H1,I1,r1,⟨y,ex,hy⟩,q⟩=>?_)
 subst ex
 obtain ⟨t',rfl⟩:=r1
 have hz:acc.length+n * es.length+n<=sizeLine:=by
  rw[List.length_cons,Nat.mul_succ]at hl; omega
 have hap:(acc++y).length=acc.length+y.length:=strLen_append ..
 have hm:(acc++y).length<=sizeLine:=by rw[hap]; omega
 exact ⟨hm,hr pins s1 σ H1 (acc++y) Q I1 (by rw[hap]; omega) q⟩
def AF (t:TA):TE:=fun σ H Q=>t σ H fun _ H1=>∀z:Str,Q (.str z) H1
theorem Fy {v₁ v₂:Expr} {rest:List Expr} {n:Nat} {t:TA} (h:PJ X n (v₁::v₂::rest) t) (hn:n * (v₁::v₂::rest).length<=16000000)
    (hs:evalEach (v₁::v₂::rest) X.env=eval v₁ X.env::eval v₂ X.env::evalEach rest X.env:=by rfl):PE X (.JoinedStr (v₁::v₂::rest) pos) (AF t):=by
 intro pins s σ H Q I q
 refine PyProof.Rows.JoinedStr_many ?_
 rw[← hs]
 refine h pins s σ H Str.empty Q I ?_ q
 rw[sizeLine_eq]
 have:Str.empty.length=0:=rfl
 omega
theorem Jl {i:Int} {n:Nat} (h:i.natAbs.log2 < 1920) (hn:1921<=n):(toString i:Str).length<=n:=Nat.le_trans (PyProof.Rows.int_text_len_1921 h) hn
end
open PySem PySem.Spec PyProof.Rows
theorem ObjOk.ex {P:Program} {w:World} {H:Hp} {h:Heap} {a:Addr} {o:HO} (x:ObjOk P w H h a o):∃ob,h.get? a=some ob:=by
 cases o with
 |lst xs=>obtain ⟨_,_,_,_,e⟩:=x; exact ⟨_,e⟩
 |tup xs=>obtain ⟨_,_,_,ob,e,_⟩:=x; exact ⟨_,e⟩
 |dK kvs=>obtain ⟨_,_,_,_,o,_,_,e,_⟩:=x; exact ⟨_,e⟩
 |dT kvs=>obtain ⟨_,_,_,_,o,_,_,e,_⟩:=x; exact ⟨_,e⟩
 |set S n=>obtain ⟨o,_,_,_,e,_⟩:=x; exact ⟨_,e⟩
 |ins C dx fs=>obtain ⟨_,_,_,e,_⟩:=x; exact ⟨_,e⟩
 |own y=>exact x
 |xd fs=>obtain ⟨_,⟨_,_,_,e,_⟩,_⟩:=x; exact ⟨_,e⟩
 |rng lo hi=>obtain ⟨_,_,_,e⟩:=x; exact ⟨_,e⟩
 |frz ob u=>obtain ⟨e,_⟩:=x; exact ⟨_,e⟩
 |tbl ps=>exact ⟨_,x⟩
 |met f y=>exact ⟨_,x⟩
 |ext φ=>obtain ⟨_,e,_⟩:=x; exact e
theorem Un.on {fs:List Addr} {H H1:Hp} {h0 h1 h2:Heap} (u:Un fs [] H H1 h0 h1) (kB:∀b o o1,h0.get? b=some o->b ∉ fs->h1.get? b=some o1->h2.get? b=some o1)
    (ks:∀b o o1,h0.get? b=some o->b∈fs->h1.get? b=some o1->∃sl,h2.get? b=some { o1 with slots:=sl }):Un fs [] H H1 h0 h2 where
 keep:=fun b o e n hb hx=>kB b o o e hb (u.keep b o e n hb hx)
 slot:=fun b o e n hb hx=>by
  obtain ⟨sl,e1⟩:=u.slot b o e n hb hx
  obtain ⟨sl2,e2⟩:=ks b o _ e hb e1
  exact ⟨sl2,e2⟩
 free:=u.free
 there:=fun b o e hx=>by
  obtain ⟨o1,e1⟩:=u.there b o e hx
  by_cases hb:b∈fs
  ·obtain ⟨sl,e2⟩:=ks b o o1 e hb e1
   exact ⟨_,e2⟩
  ·exact ⟨o1,kB b o o1 e hb e1⟩
 tups:=u.tups
 frzs:=u.frzs
 tbls:=u.tbls
structure Fly (P:Program) (w:World) (outer:List Env) (H:Hp) (s:Shared) (H':Hp) (a:Addr) (cls:Value) (s':Shared):Prop where
 os:s'.os=s.os
 bare:AllBare s'.gens
 un:Un (frs outer) [] H H' s.heap s'.heap
 hok:HOk P w H' s'.heap
 fl:∃B a0,Heap.FlyingW B outer a cls a0 s'.heap∧(∀b o ob,H' b=some o->s'.heap.get? b=some ob->B.get? b=some ob) ∧
  ∀b o ob,s.heap.get? b=some o->b ∉ frs outer->s'.heap.get? b=some ob->B.get? b=some ob
def CXw (P:Program) (w:World):CXT:=fun outer H s E e s'=>∃a cls H',e=.ref a∧Fly P w outer H s H' a cls s'∧E cls none H'
theorem HOk.flown {P:Program} {w:World} {H:Hp} {h h' B:Heap} (x:HOk P w H h) (c1:∀b o ob,H b=some o->h.get? b=some ob->B.get? b=some ob) (st:B.StaysIn h'):HOk P w H h':=fun b o e =>
 (x b o e).stay (fun c u hc q=>by
  rcases hc with rfl|hc
  ·exact st _ _ (c1 _ _ _ e q)
  ·exact st _ _ (c1 _ _ _ hc q)) (fun _ q=>q) fun _ _ q=>q
section
variable {P:Program} {w:World} {K:PySem.W.Frag} {mg:Str->Option Value} {base:Heap} {N:List Str} {qual:Str} {scope:Scope} {f:Addr} {cd:Value} {A:Around} {outer:List Env} {s:Shared} {H:Hp} {E:XK}
theorem Zx:Wt (CXw P w) (QG (CXw P w) P w K mg base N qual scope f cd A outer s H E) E:=by
 intro pins σ H1 s1 e s' I hcx
 obtain ⟨a,cls,H',rfl,fly,hE⟩:=hcx
 have I':=I.call' (ch:=[]) fly.os fly.un fly.hok fly.bare (fun _ z=>nomatch z)
 obtain ⟨B,a0,fl,c1,c2⟩:=fly.fl
 have hfr:(A.deeper (envOfC qual scope s.heap.objs.size f cd)).frames=some (envOfC qual scope s.heap.objs.size f cd::outer):=I.ok.frames
 refine wpAny_leaves_onW (L:=s.heap.objs.size) hfr rfl fl fun h' fl' up=>⟨a,cls,H',rfl,?_,hE⟩
 have hub:Un (frs outer) [] H H' s.heap s'.heap:=I'.base
 have nL:∀b o,s.heap.get? b=some o->b ∉ frs outer->b ∉ frs (envOfC qual scope s.heap.objs.size f cd::outer):=fun b o e hb hm=>by
  unfold frs at hm hb
  rw[List.filterMap_cons]at hm
  rcases List.mem_cons.mp hm with z|z
  ·exact absurd (Heap.lt_size e) (by rw[z]; exact Nat.lt_irrefl _)
  ·exact hb z
 have kB:∀b o o1,s.heap.get? b=some o->b ∉ frs outer->s'.heap.get? b=some o1->B.get? b=some o1:=fun b o o1 e hb e1=>by
  obtain ⟨o2,e2⟩:=(show Un (frs outer) [] H H1 s.heap s1.heap from I.base).there b o e (by simp)
  exact c2 b o2 o1 e2 (nL b o e hb) e1
 refine ⟨I'.os,I'.bare,hub.on (fun b o o1 e hb e1=>fl'.1 _ _ (kB b o o1 e hb e1)) (fun b o o1 e hb e1=>?_),fly.hok.flown c1 fl'.1,B,a0,fl',fun b o ob e eb=>?_,fun b o ob e hb eb=>?_⟩
 ·obtain ⟨_,o',ho',hnf⟩:=I'.funs.mem hb
  have ho':s'.heap.get? b=some o':=ho'
  rw[e1]at ho'
  cases ho'
  exact up b o1 e1 hnf
 ·obtain ⟨ob2,e2⟩:=(fly.hok b o e).ex
  have e3:=c1 b o ob2 e e2
  have e4:=fl'.1 _ _ e3
  have eb:h'.get? b=some ob:=eb
  rw[e4]at eb
  cases eb
  exact e3
 ·obtain ⟨ob2,e2⟩:=hub.there b o e (by simp)
  have e3:=kB b o ob2 e hb e2
  have e4:=fl'.1 _ _ e3
  have eb:h'.get? b=some ob:=eb
  rw[e4]at eb
  cases eb
  exact e3
end
def Ke (X:Cx) (E:XK):Prop:=∀(pins:List (Addr × Obj)) (σ:St) (H:Hp) (s:Shared) (h':Heap) (e:Addr) (cls:Value) (args:List Value),Inv X pins σ H s->Heap.MadeExcOf s.heap h' e cls args->E cls none H->X.xe (.ref e) { s with heap:=h' }
section
variable {P:Program} {w:World} {K:PySem.W.Frag} {mg:Str->Option Value} {base:Heap} {N:List Str} {qual:Str} {scope:Scope} {f:Addr} {cd:Value} {A:Around} {outer:List Env} {s:Shared} {H:Hp} {E:XK}
theorem U8:Ke (QG (CXw P w) P w K mg base N qual scope f cd A outer s H E) E:=by
 intro pins σ H1 s1 h1 e cls args I hx hE
 have hfr:(A.deeper (envOfC qual scope s.heap.objs.size f cd)).frames=some (envOfC qual scope s.heap.objs.size f cd::outer):=I.ok.frames
 have hst:s1.heap.FunFrames base (envOfC qual scope s.heap.objs.size f cd::outer):=I.stack
 have hl:s1.heap.FunFrames (PySem.W.hideAll s1.heap (frs (envOfC qual scope s.heap.objs.size f cd::outer))) (envOfC qual scope s.heap.objs.size f cd::outer) :=
  PySem.W.funFrames_hide hst fun env he a ha=>List.mem_filterMap.mpr ⟨env,he,ha⟩
 refine wpAny_leaves_madeW (base:=PySem.W.hideAll s1.heap (frs (envOfC qual scope s.heap.objs.size f cd::outer))) (h:=s1.heap) (L:=s.heap.objs.size) hfr rfl (fun b o q=>PySem.W.of_hideAll _ q) hl hx fun h' t fl' _ _ up=>⟨e,cls,H1,rfl,?_,hE⟩
 have hub:Un (frs outer) [] H H1 s.heap s1.heap:=I.base
 have nL:∀b o,s.heap.get? b=some o->b ∉ frs outer->b ∉ frs (envOfC qual scope s.heap.objs.size f cd::outer):=fun b o e hb hm=>by
  unfold frs at hm hb
  rw[List.filterMap_cons]at hm
  rcases List.mem_cons.mp hm with z|z
  ·exact absurd (Heap.lt_size e) (by rw[z]; exact Nat.lt_irrefl _)
  ·exact hb z
 have tB:∀b o ob,H1 b=some o->s1.heap.get? b=some ob->(PySem.W.hideAll s1.heap (frs (envOfC qual scope s.heap.objs.size f cd::outer))).get? b=some ob:=fun b o ob e eb =>
  PySem.W.hideAll_get _ eb fun hm=>by
   have:=I.stkFree b hm
   rw[e]at this
   cases this
 have kB:∀b o o1,s.heap.get? b=some o->b ∉ frs outer->s1.heap.get? b=some o1->(PySem.W.hideAll s1.heap (frs (envOfC qual scope s.heap.objs.size f cd::outer))).get? b=some o1:=fun b o o1 e hb e1 =>
  PySem.W.hideAll_get _ e1 (nL b o e hb)
 refine ⟨I.os,I.bare,hub.on (fun b o o1 e hb e1=>fl'.1 _ _ (kB b o o1 e hb e1)) (fun b o o1 e hb e1=>?_),I.hok.flown tB fl'.1,_,_,fl',fun b o ob e eb=>?_,fun b o ob e hb eb=>?_⟩
 ·obtain ⟨_,o',ho',hnf⟩:=I.funs.mem hb
  have ho':s1.heap.get? b=some o':=ho'
  rw[e1]at ho'
  cases ho'
  exact up b o1 (hx.keeps b o1 e1) hnf
 ·obtain ⟨ob2,e2⟩:=(I.hok b o e).ex
  have e3:=tB b o ob2 e e2
  have e4:=fl'.1 _ _ e3
  have eb:h'.get? b=some ob:=eb
  rw[e4]at eb
  cases eb
  exact e3
 ·obtain ⟨ob2,e2⟩:=hub.there b o e (by simp)
  have e3:=kB b o ob2 e hb e2
  have e4:=fl'.1 _ _ e3
  have eb:h'.get? b=some ob:=eb
  rw[e4]at eb
  cases eb
  exact e3
end
theorem Jy {K:PySem.W.Frag} {h:Heap} {C:Addr} {bmB:List Value} {newId:String} (X:K.In h) (q:PySem.W.excIn K C bmB newId=true) :
    ∃bm Nn nm qn bs hdct sn sub ab col dd k0 k1 k2 k3 k5 mN,h.get? C=some (excClassObj nm qn C Nn bs bm hdct sn sub ab col dd k0 k1 k2 k3 k5 newId)∧h.Ns Nn mN∧mN "__init__"=none∧OwnTail h bmB bm:=by
 unfold PySem.W.excIn at q
 split at q
 ·rename_i dd cd sl ho
  split at q
  ·rename_i C' bm k0 k1 k2 k3 n k5 hm hs
   simp only[Bool.and_eq_true,beq_iff_eq,Bool.not_eq_true']at q
   obtain ⟨⟨⟨⟨⟨e1,e2⟩,hdel⟩,ht⟩,hok⟩,hni⟩:=q
   subst e1 e2
   obtain ⟨nm,bs,mro,ns,qn,hd,sn,sub,ab,col,del⟩:=cd
   dsimp only at hm hdel hok hni
   subst hm hdel
   obtain ⟨l⟩:=sl
   have hs:l=_:=hs
   subst hs
   exact ⟨bm,ns,nm,qn,bs,hd,sn,sub,ab,col,dd,k0,k1,k2,k3,k5,_,X _ _ ho,.of_isNs (PySem.W.isNs_of_in X hok),PySem.W.nsMap_none_of_in X hok hni,PySem.W.tail_of_in X ht⟩
  ·cases q
 ·cases q
section
variable {X:Cx} {x:Str} {C:Addr} {bmB:List Value} {B newId initId:String} {E:XK} {e₀:Expr} {rest:List Expr} {np cpos pos:Pos} {t:TA}
def BH (C:Addr) (E:XK) (t:TA):TS:=fun _ σ H=>t σ H fun vs H1=>vs.length<=sizeLine∧E (.ref C) none H1
theorem G0 (FB:ExcBaseFacts B newId initId bmB) (q:PySem.W.excIn X.K C bmB newId=true) (hg:Gl X x) (hm:X.mg x=some (.ref C)) (hc:X.calm=true) (hE:Ke X E) (ha:PA X (e₀::rest) t)
    (he:starEach (e₀::rest) X.env=(false,eval e₀ X.env)::starEach rest X.env:=by rfl) (hpl:(backTo cpos (starEach rest X.env)).any (·.1)=false:=by rfl) (hdb:(x == ("__debug__":Str))=false:=by decide) :
    PS X (.Raise (some (.Call (.Name x np) (e₀::rest) [] cpos)) none pos) (BH C E t):=by
 intro pins s σ H D I h
 obtain ⟨bm,Nn,nm,qn,bs,hdct,sn,sub,ab,col,dd,k0,k1,k2,k3,k5,mN,hC,hN,hni,T⟩:=Jy I.mod.kin q
 refine wpAny_Raise_call_subT (C:=C) (nm:=nm) (q:=qn) (N:=Nn) (bs:=bs) (bm:=bm) (hdct:=hdct) (sn:=sn) (sub:=sub) (ab:=ab) (col:=col) (dd:=dd) (k0:=k0) (k1:=k1) (k2:=k2) (k3:=k3) (k5:=k5)
  FB (mN:=mN) (T.hasType FB.hasBase) (I.ok.hd hc) (by rw[he]; show (false || (backTo cpos (starEach rest X.env)).any (·.1))=false; rw[hpl]; rfl) hni (Re I hg hm ⟨rfl,?_⟩ hdb)
 have hw:=ha cpos pins s σ H _ I h
 rw[he]at hw ⊢
 refine Calls.evalArgs_plain (thn hw fun us s1 ⟨vs,H1,I1,r,hl,hq⟩=>?_)
 exact ⟨rfl,by rw[← r.length]; exact hl,I1.bk _ _ hC,hN.keeps I1.bk,T.keeps I1.bk,fun h' e hmx=>hE pins σ H1 s1 h' e _ _ I1 hmx hq⟩
end
theorem Fun.okX {P:Program} {w:World} {K:PySem.W.Frag} {mg:Str->Option Value} {base:Heap} {x qual:Str} {st:Stmt} {f:Addr} {fd:FuncData} {N ps:List Str} {k:Nat} {sp:Sp} (F:Fun K x qual st f fd) (S:FnScope N ps (Zi st)) (len:∀vs H Q E,sp vs H Q E->vs.length=ps.length)
    (hbody:∀(cdv:Value) (A:Around) (outer:List Env) (s:Shared) (H:Hp) (vs:List V) (Q:VK) (E:XK),Room k (A.deeper (envOfC qual (Zi st) s.heap.objs.size f cdv))->sp vs H Q E ->
     ∃t,PSs (QG (CXw P w) P w K mg base N qual (Zi st) f cdv A outer s H E) (Zu st) t∧t { nx:=fun _ H'=>Q .non H',rt:=Q } (start N vs) H):FnOk P w K mg base (CXw P w) (k+1) f fd ps sp:=by
 obtain ⟨oc,od,kV,doc,pm,an,cdv,ct,osl,rfl,lk,hcd⟩:=F.ex
 exact Dr lk hcd S len fun A outer s H vs Q E hr hsp=>hbody cdv A outer s H vs Q E hr hsp
theorem VX {P:Program} {w:World} {X:Cx}:Wt (CXw P w) X E0:=fun _ _ _ _ _ _ _ ⟨_,_,_,_,_,h⟩=>h.elim
open PySem PySem.Spec PyProof.Rows
section
variable {X:Cx} {pins:List (Addr × Obj)} {σ:St}
end
section
variable {X:Cx} {pins:List (Addr × Obj)} {σ:St} {CX:CXT} {k:Nat} {f C:Addr} {fd:FuncData} {ps:List Str} {sp:Sp} {dvs:List V} {ds:List Value} {E:XK} {m:Str} {pos apos:Pos} {e o:Expr} {es:List Expr} {ta:TE} {t:TA}
end
section
variable {X:Cx} {pins:List (Addr × Obj)} {σ:St} {H:Hp} {s:Shared} {a:Addr}
end
def excO (a C:Addr):HO:=.ext fun h=>∃ob,h.get? a=some ob∧ob.cls=.ref C
section
variable {X:Cx} {pins:List (Addr × Obj)} {σ:St} {H H':Hp} {s s':Shared} {h' B:Heap}
end
section
variable {X:Cx} {P:Program} {w:World}
end
structure ExcK (K:PySem.W.Frag) (C:Addr):Prop where
 ga:PySem.W.findIn K (.ref C) "__getattribute__"=some (some (.builtin "BaseException.__getattribute__"))
 gt:PySem.W.findIn K (.ref C) "__getattr__"=some none
 cl:PySem.W.findIn K (.ref C) "__class__"=some (some (.builtin "object.__class__"))
 ob:PySem.W.mroIn K C (.type "object")=some true
 be:PySem.W.mroIn K C (.type "BaseException")=some true
 sp:PySem.W.specialIn K (.builtin "object.__class__") "__get__"=some (some (.builtin "getset_descriptor.__get__"))
 tk:PySem.W.takesIn K (.builtin "object.__class__")=some true
 is:(PySem.W.clsIn K C).isSome=true
open PySem PySem.Spec PyProof.Rows
section
open PySem.W Builtin Builtin.ObjectAttr Builtin.Getset_descriptor
variable {prog:Program} {w:World} {A:Around} {E:Value->Shared->Prop} {h:Heap} {g:Array GenState} {d:Drawn} {t:Nat} {os:OsState} {K:Frag} {a C:Addr} {o:Obj}
end
section
variable {X:Cx}
def Cz:V->Option Value
 |.ref D=>some (.ref D)
 |.ty n=>some (.type n)
 |_=>none
theorem HE {v:V} {c u:Value} (h:Cz v=some c) (r:RelV v u):u=c:=by
 cases v with
 |ref D=>cases h; exact r
 |ty n=>cases h; exact r
 |_=>cases h
theorem GX:CallR X (.builtin "isinstance") (fun xs H Q=>∃x t cv c b,xs=[x,cv]∧TyOf X.K H x t∧Cz cv=some c∧PySem.W.kitOne X.K t c=some b∧Q (.bl b) H):=by
 intro pins s σ H xs us Q I r h
 obtain ⟨x,t,cv,c,b,rfl,ty,hc,hk,q⟩:=h
 obtain ⟨u,v,rfl,ru,rv⟩:=Ak r
 cases HE hc rv
 exact Iw I ru ty hk fun tk=>⟨.bl b,H,I.tok _,rfl,q⟩
end
open PySem PySem.Spec PyProof.Rows
abbrev YB (X:Cx) (scope:Scope) (cl:List (Str × Addr)) (x:Str) (cn:List Str) (C:Addr) (s₂:Shared) (H₂:Hp) (fp:List Addr):Cx where
 prog:=X.prog
 w:=X.w
 K:=X.K
 mg:=X.mg
 base:=X.base
 A:=X.A
 N:=x::cn
 s₀:=s₂
 H₀:=H₂
 env:=compEnvC scope cl C X.env
 outer:=X.stack
 stack:=X.stack
 ex:=fp
 fn:=fun _=>false
 calm:=X.calm
 pn:=[]
 xe:=fun _ _=>False
def Xh (js:List Nat) (v:Option V) (σ:St):St:=v::js.map fun j=>(σ[j]?).join
def U7 (X:Cx) (ifs:List Expr) (t:TT):Prop :=
 ∀(pins:List (Addr × Obj)) (s:Shared) (σ:St) (H:Hp) (Q:Bool->Hp->Prop),Inv X pins σ H s->t σ H Q ->
  wpAny (model X.prog X.w) X.A (forIn ifs true fun c r=>if r=true then do let ok ← isTrue c X.env (eval c X.env); pure (ForInStep.yield ok) else pure (ForInStep.yield r)) (TP X pins σ Q) X.xe s
def AD:TT:=fun _ H Q=>Q true H
theorem ID {X:Cx}:U7 X [] AD:=fun _ _ _ H _ I h=>wpAny_tests_nil ⟨H,I,h⟩
theorem Fk {X:Cx} {c:Expr} {t:TT} (h:PT X c t):U7 X [c] t:=fun pins s σ H Q I q=>wpAny_tests_one (h pins s σ H Q I q)
structure CompOk (X:Cx) (scope:Scope) (cl:List (Str × Addr)) (x:Str) (cn:List Str) (js:List Nat):Prop where
 clos:closureFor scope X.env=pure cl
 nocell:∀y∈scope.names,y.2≠.cell
 kind:scope.kind=.function
 names:∀y∈scope.names,y.2=.local->scope.names.lookup y.1=some .local
 hx:scope.names.lookup x=some .local
 sub:∀y c,cl.lookup y=some c->X.env.cells.lookup y=some c
 has:∀p∈(relabel scope X.env).names,p.2=.cell∨p.2=.free->∃c,cl.lookup p.1=some c
 cap:∀(k:Nat) y,cn[k]?=some y->∃j,js[k]?=some j∧X.N[j]?=some y∧Vis X.env.scope y∧(X.env.kindOf y=some .cell∨X.env.kindOf y=some .free)∧((compEnvC scope cl 0 X.env).kindOf y=some .cell∨(compEnvC scope cl 0 X.env).kindOf y=some .free)
 len:js.length=cn.length
 nd:(x::cn).Nodup
def PN (names:List (Str × NameKind)) (env:Env):List (Str × Addr):=names.foldl (fun cs p=>if p.2 == .free then (match env.cells.lookup p.1 with|some c=>(p.1,c)::cs|none=>cs) else cs) []
theorem Sx (env:Env):∀(names:List (Str × NameKind)) (cs:List (Str × Addr)),(∀p∈cs,env.cells.lookup p.1=some p.2) ->
    ∀p∈names.foldl (fun cs p=>if p.2 == .free then (match env.cells.lookup p.1 with|some c=>(p.1,c)::cs|none=>cs) else cs) cs,env.cells.lookup p.1=some p.2
 |[],cs,h=>h
 |q::r,cs,h=>by
  refine Sx env r _ ?_
  dsimp only
  split
  ·split
   ·rename_i c e
    intro p hp
    rcases List.mem_cons.mp hp with rfl|hp
    ·exact e
    ·exact h p hp
   ·exact h
  ·exact h
def QW (k:Option NameKind):Bool:=k == some .cell || k == some .free
theorem Rl {k:Option NameKind} (h:QW k=true):k=some .cell∨k=some .free:=by
 unfold QW at h
 rcases Bool.or_eq_true_iff.mp h with q|q
 ·exact .inl (by simpa using q)
 ·exact .inr (by simpa using q)
theorem Z3 {X:Cx} {scope:Scope} {x:Str} {cn:List Str} {js:List Nat} (clos:closureFor scope X.env=pure (PN scope.names X.env)) (nocell:∀y∈scope.names,y.2≠.cell) (kind:scope.kind=.function)
    (names:∀y∈scope.names,y.2=.local->scope.names.lookup y.1=some .local) (hx:scope.names.lookup x=some .local)
    (has:((relabel scope X.env).names.all fun p=>!(QW (some p.2)) || ((PN scope.names X.env).lookup p.1).isSome)=true) (len:js.length=cn.length)
    (cap:((cn.zip js).all fun p=>(X.N[p.2]? == some p.1)&&QW (X.env.scope.names.lookup p.1)&&QW ((relabel scope X.env).names.lookup p.1))=true)
    (nd:(x::cn).Nodup):CompOk X scope (PN scope.names X.env) x cn js where
 clos:=clos
 nocell:=nocell
 kind:=kind
 names:=names
 hx:=hx
 sub:=fun y c h=>Sx X.env scope.names [] (fun _ z=>(nomatch z)) (y,c) (PySem.mem_of_lookup h)
 has:=fun p hp hk=>by
  have q:=List.all_eq_true.mp has p hp
  have hk':QW (some p.2)=true:=by rcases hk with z|z <;> rw[z] <;> rfl
  rw[hk']at q
  exact Option.isSome_iff_exists.mp (by simpa using q)
 cap:=fun k y e=>by
  have hk:k < cn.length:=(List.getElem?_eq_some_iff.mp e).1
  have hj:js[k]?=some (js[k]'(by omega)):=List.getElem?_eq_getElem _
  have hz:(y,js[k]'(by omega))∈cn.zip js:=by
   refine List.mem_of_getElem? (i:=k) ?_
   rw[List.getElem?_zip_eq_some]
   exact ⟨e,hj⟩
  have q:=List.all_eq_true.mp cap _ hz
  simp only[Bool.and_eq_true,beq_iff_eq]at q
  obtain ⟨⟨q1,q2⟩,q3⟩:=q
  have c2:=Rl q2
  refine ⟨_,hj,q1,?_,c2,Rl q3⟩
  rcases c2 with z|z
  ·exact .inr (.inl z)
  ·exact .inr (.inr z)
 len:=len
 nd:=nd
section
variable {X:Cx} {scope:Scope} {cl:List (Str × Addr)} {x:Str} {cn:List Str} {js:List Nat} {pins:List (Addr × Obj)} {σ:St} {H₂:Hp} {s₂:Shared} {fp:List Addr}
theorem CompOk.ok (O:CompOk X scope cl x cn js) (I:Inv X pins σ H₂ s₂) (hf:∀b∈fp,S0 X pins H₂ b) {C:Addr} (hC:s₂.heap.objs.size<=C) (ho:∀b∈fp,∃o,s₂.heap.get? b=some o):(YB X scope cl x cn C s₂ H₂ fp).Ok where
 mod:=I.mod
 kind:=by show (relabel scope X.env).kind=.function; exact O.kind
 glob:=I.ok.glob
 blt:=I.ok.blt
 above:=hC
 inj:=fun y z c h1 h2=>I.ok.inj y z c (O.sub y c h1) (O.sub z c h2)
 has:=fun y hy=>by
  have hy:(relabel scope X.env).names.lookup y=some .cell∨(relabel scope X.env).names.lookup y=some .free:=hy
  rcases hy with hy|hy
  ·exact O.has _ (PySem.mem_of_lookup hy) (.inl rfl)
  ·exact O.has _ (PySem.mem_of_lookup hy) (.inr rfl)
 cab:=fun _ _ h=>(by cases h)
 hd:=I.ok.hd
 frames:=I.ok.frames
 stk:=.inl rfl
 exf:=fun b hb=>by
  obtain ⟨o,e⟩:=ho b hb
  exact ⟨Nat.ne_of_lt (Nat.lt_of_lt_of_le (Heap.lt_size e) hC),fun y c h=>(hf b hb).2.2.2.2.1 y c (O.sub y c h)⟩
 bs:=I.bs
 bsz:=Nat.le_trans I.ok.bsz I.sz
 noex:=fun b o e hb=>by
  rcases (hf b hb).2.2.2.1 with z|z
  ·exact I.ok.noex b o e z
  ·exact absurd (Nat.lt_of_lt_of_le (Heap.lt_size e) (Nat.le_trans I.ok.bsz z)) (Nat.lt_irrefl _)
 exfs:=fun b hb hm=>(List.mem_cons.mp (I.stkSub b hm)).elim (hf b hb).2.1 (hf b hb).2.2.1
 funs:=I.stack
 frf:=I.stkFree
theorem CompOk.start (O:CompOk X scope cl x cn js) (I:Inv X pins σ H₂ s₂) (hf:∀b∈fp,S0 X pins H₂ b) (ho:∀b∈fp,∃o,s₂.heap.get? b=some o) {h₁:Heap} {m:Str->Option Value} {tk:Nat}
    (hns:h₁.Ns (s₂.heap.objs.size+1) m) (hk:∀b o,s₂.heap.get? b=some o->h₁.get? b=some o) (hD:h₁.get? s₂.heap.objs.size=some { cls:=.type "list",data:=.seq ([]:List Value).toArray }) :
    Inv (YB X scope cl x cn (s₂.heap.objs.size+1) s₂ H₂ fp) [] (Xh js none σ) (upd H₂ s₂.heap.objs.size (.lst [])) { s₂ with heap:=h₁,toks:=tk }:=by
 have fD:H₂ s₂.heap.objs.size=none:=I.hok.fresh (Nat.le_refl _)
 have fC:H₂ (s₂.heap.objs.size+1)=none:=I.hok.fresh (Nat.le_succ _)
 have neD:s₂.heap.objs.size+1≠s₂.heap.objs.size:=Nat.succ_ne_self _
 obtain ⟨m0,hn0,hl0⟩:=I.loc
 refine ⟨O.ok I hf (Nat.le_succ _) ho,rfl,I.bare,?_,⟨m,hns,fun i y v e1 e2 e3=>?_⟩,fun y c e=>?_,?_,fun y c e=>?_,(fun p hp=>nomatch hp),?_,?_⟩
 ·exact Un.laid hk (Nat.le_refl _) fD
 ·cases i with
  |zero=>exact nomatch (show (none:Option V)=some v from Option.some.inj e2)
  |succ k =>
   obtain ⟨j,hj,hjN,hvis,hcell,hk2⟩:=O.cap k y (by simpa using e1)
   have e4:(σ[j]?).join=some v:=by
    have z:(js.map fun j=>(σ[j]?).join)[k]?=some (some v):=by simpa [Xh] using e2
    rw[List.getElem?_map,hj]at z
    simpa using z
   have e5:σ[j]?=some (some v):=by
    cases q:σ[j]? with
    |none=>rw[q]at e4; cases e4
    |some o=>rw[q]at e4; simp at e4; rw[e4]
   obtain ⟨u,r,l⟩:=hl0 j y v hjN e5 hvis
   refine ⟨u,r,.inr ⟨hk2,?_⟩⟩
   rcases l with ⟨kl,_⟩|⟨_,c,ec,z⟩
   ·rcases hcell with q|q
    ·rw[kl]at q; cases q
    ·rw[kl]at q; cases q
   ·have hy:∃c',cl.lookup y=some c':=by
     rcases hk2 with q|q
     ·exact O.has _ (PySem.mem_of_lookup (show (relabel scope X.env).names.lookup y=some .cell from q)) (.inl rfl)
     ·exact O.has _ (PySem.mem_of_lookup (show (relabel scope X.env).names.lookup y=some .free from q)) (.inr rfl)
    obtain ⟨c',hc'⟩:=hy
    have ecc:=O.sub y c' hc'
    rw[ec]at ecc
    cases ecc
    exact ⟨c,hc',z.keeps hk⟩
 ·obtain ⟨v,z⟩:=I.cell y c (O.sub y c e)
  exact ⟨v,z.keeps hk⟩
 ·show upd H₂ s₂.heap.objs.size (.lst []) (s₂.heap.objs.size+1)=none
  rw[Zz neD]; exact fC
 ·obtain ⟨v,o,ho',_⟩:=I.cell y c (O.sub y c e)
  rw[Zz (Nat.ne_of_lt (Heap.lt_size ho'))]
  exact I.freeC y c (O.sub y c e)
 ·exact I.hok.laid hk (Nat.le_refl _) ⟨Nat.zero_le _,[],0,.nil,hD⟩
 ·show (Xh js none σ).length=(x::cn).length
  simp[Xh,O.len]
end
theorem SK {prog:Program} {w:World} {A:Around} {R:Result->Shared->Prop} {s:Shared} {elt target iter:Expr} {ifs:List Expr} {scope:Scope} {pos:Pos} {it acc:Value} {env:Env} (I:Nat->Shared->Prop)
    (turn:∀n s,I n s->wpAny (model prog w) A (pyNext it) (fun r s₁=>match r with
     |none=>R (.ok .next) s₁
     | some v => wpAny (model prog w) A (letOwnedTupleGo target it v) (fun _ s₁' => wpAny (model prog w) A (assign target env v) (fun _ s₂ =>
         wpAny (model prog w) A (forIn ifs true fun c r=>if r=true then do let ok ← isTrue c env (eval c env); pure (ForInStep.yield ok) else pure (ForInStep.yield r)) (fun ok s₃ =>
          if ok=true then wpAny (model prog w) A (eval elt env) (fun x s₄=>wpAny (model prog w) A (call (.builtin "list.append") [acc,x]) (fun _ s₅=>∃m,m < n∧I m s₅) (fun _ _=>False) s₄) (fun _ _=>False) s₃
          else ∃m,m < n∧I m s₃) (fun _ _=>False) s₂) (fun _ _=>False) s₁') (fun _ _=>False) s₁) (fun _ _=>False) s)
    (n:Nat) (h:I n s):codeAny (model prog w) A (.compLoop (.ListComp elt [⟨target,iter,ifs,0⟩] scope pos) 0 it acc env) R s:=by
 refine codeAny_loop rfl I (fun n s hI=>?_) n h
 show wpAny _ A ((compTurn (.ListComp elt [⟨target,iter,ifs,0⟩] scope pos) 0 it acc env).onRaise (fun x=>do noteFrame x env; theTreesLotGoes x)) _ _ s
 refine wpAny_noted ?_
 rw[compTurn_list]
 refine wpAny_bind (wpAny_standAt (wpAny_bind (wpAny_mono (turn n s hI) (fun r s₁ h₁=>?_) fun _ _ h'=>h'.elim)))
 cases r with
 |none=>exact wpAny_pure h₁
 |some v =>
  refine wpAny_bind (wpAny_mono h₁ (fun _ s₁' h₁'=>?_) fun _ _ h'=>h'.elim)
  refine wpAny_bind (wpAny_mono h₁' (fun _ s₂ h₂=>wpAny_bind (wpAny_mono h₂ (fun ok s₃ h₃=>?_) fun _ _ h'=>h'.elim)) fun _ _ h'=>h'.elim)
  cases ok with
  |false =>
   rw[if_neg Bool.false_ne_true]at h₃
   exact wpAny_pure ⟨rfl,h₃⟩
  |true =>
   rw[if_pos rfl]at h₃
   exact wpAny_bind (wpAny_bind (wpAny_mono h₃ (fun x s₄ h₄=>wpAny_bind (wpAny_mono h₄ (fun _ s₅ h₅=>wpAny_pure (wpAny_pure ⟨rfl,h₅⟩)) fun _ _ h'=>h'.elim)) fun _ _ h'=>h'.elim))
def Lf (wi:TI) (js:List Nat) (tc:Addr->Shared->Hp->List Addr->TT) (te:Addr->Shared->Hp->List Addr->TE):TE:=fun σ H Q=>wi σ H fun J H1=>∀D,H1 D=none->∀C s₂ H₂ fp,∃W:Nat->Nat->List V->Hp->Prop,(∃m,W 0 m [] (upd H1 D (.lst [])))∧∀i m ys H2,W i m ys H2->H2 D=some (.lst ys) ∧
 ((J.stop i H2∧Q (.ref D) H2)∨(J.go i H2∧∀x H',J.yld i H2 x H'->tc C s₂ H₂ fp (Xh js (some x) σ) H' fun b H3=>if b=true then te C s₂ H₂ fp (Xh js (some x) σ) H3 fun v H4=>H4 D=some (.lst ys)∧ys.length < sizeLine∧∃m',m' < m∧W (i+1) m' (ys++[v]) (upd H4 D (.lst (ys++[v])))
  else ∃m',m' < m∧W (i+1) m' ys H3))
section
variable {X:Cx} {scope:Scope} {cl:List (Str × Addr)} {x:Str} {cn:List Str} {js:List Nat} {elt iter:Expr} {ifs:List Expr} {px pos:Pos} {wi:TI} {tc:Addr->Shared->Hp->List Addr->TT} {te:Addr->Shared->Hp->List Addr->TE}
theorem Qu (O:CompOk X scope cl x cn js) (hc:X.calm=true) (ht:∀C s₂ H₂ fp,U7 (YB X scope cl x cn C s₂ H₂ fp) ifs (tc C s₂ H₂ fp)) (he:∀C s₂ H₂ fp,PE (YB X scope cl x cn C s₂ H₂ fp) elt (te C s₂ H₂ fp))
    {pins:List (Addr × Obj)} {σ:St} {s₂:Shared} {itv:Value} {R:V->Hp->Prop} {RR:Value->Addr->Result->Shared->Prop} {E:Value->Shared->Prop}
    (h:PIE X pins σ (.Name x px) (fun J H1=>∀D,H1 D=none->∀C s₂ H₂ fp,∃W:Nat->Nat->List V->Hp->Prop,(∃m,W 0 m [] (upd H1 D (.lst [])))∧∀i m ys H2,W i m ys H2->H2 D=some (.lst ys) ∧
     ((J.stop i H2∧R (.ref D) H2)∨(J.go i H2∧∀x H',J.yld i H2 x H'->tc C s₂ H₂ fp (Xh js (some x) σ) H' fun b H3=>if b=true then te C s₂ H₂ fp (Xh js (some x) σ) H3 fun v H4=>H4 D=some (.lst ys)∧ys.length < sizeLine∧∃m',m' < m∧W (i+1) m' (ys++[v]) (upd H4 D (.lst (ys++[v])))
      else ∃m',m' < m∧W (i+1) m' ys H3))) itv s₂)
    (hRR:∀D C H' s',Inv X pins σ H' s'->R (.ref D) H'->H' C=none->C≠X.env.locals->X.s₀.heap.objs.size<=C->(∀y c,X.env.cells.lookup y=some c->c≠C)->(∀p∈X.pn++pins,p.1≠C)->(∃m,s'.heap.Ns C m)->RR (.ref D) C (.ok .next) s') :
    wpAny (model X.prog X.w) X.A (newList []) (fun acc s₃=>wpAny (model X.prog X.w) X.A (newFunctionEnv scope X.env.globals cl [] X.env.qual none .none (some X.env)) (fun cenv s₄ =>
     codeAny (model X.prog X.w) X.A (.compStart (.ListComp elt [⟨.Name x px,iter,ifs,0⟩] scope pos) 0 itv acc { cenv with scope:=relabel scope X.env }) (RR acc cenv.locals) s₄) E s₃) E s₂:=by
 obtain ⟨it,fp,tn,J,H₂,rfl,I2,T,st2,f2,hR⟩:=h
 have ho:∀b∈fp,∃o,s₂.heap.get? b=some o:=fun b hb=>let ⟨o,e,_⟩:=T.obj _ _ st2 b hb; ⟨o,e⟩
 obtain ⟨W,⟨m0,w0⟩,turn⟩:=hR s₂.heap.objs.size (I2.hok.fresh (Nat.le_refl _)) (s₂.heap.objs.size+1) s₂ H₂ fp
 refine wpAny_newObj_type (wpAny_newFunctionEnv O.nocell (by intro y hy; simp at hy) (fun h₁ hns₁ hsb₁=>?_) O.kind)
 dsimp only at hns₁ hsb₁ ⊢
 generalize hH2:s₂.heap.push { cls:=.type "list",dict:=none,data:=.seq ([]:List Value).toArray }=HH at hns₁ hsb₁ ⊢
 have hsz:HH.objs.size=s₂.heap.objs.size+1:=by rw[← hH2,Heap.size_push]
 have old:∀b o,s₂.heap.get? b=some o->h₁.get? b=some o:=fun b o e=>by
  refine hsb₁.extBut b o ?_ (Heap.get?_push_of_some _ (hH2 ▸ Heap.get?_push_of_some _ e))
  rw[hsz]
  exact Nat.ne_of_lt (Nat.lt_succ_of_lt (Heap.lt_size e))
 have hD:h₁.get? s₂.heap.objs.size=some { cls:=.type "list",data:=.seq ([]:List Value).toArray }:=by
  refine hsb₁.extBut _ _ ?_ (Heap.get?_push_of_some _ (hH2 ▸ Heap.get?_push_size _ rfl))
  rw[hsz]
  exact Nat.ne_of_lt (Nat.lt_succ_self _)
 rw[hsz]at hns₁
 show codeAny _ _ (.compStart _ 0 (.ref it) (.ref s₂.heap.objs.size) (compEnvC scope cl HH.objs.size X.env)) (RR (.ref s₂.heap.objs.size) HH.objs.size) _
 rw[hsz]
 have I3:=O.start I2 f2 ho (tk:=s₂.toks+([]:List (Str × Value)).length) hns₁ old hD
 have st3:tn 0 h₁:=T.keep 0 _ _ st2 fun b hb o e=>old b o e
 have fpD:∀b∈fp,b≠s₂.heap.objs.size:=fun b hb=>by obtain ⟨o,e⟩:=ho b hb; exact Nat.ne_of_lt (Heap.lt_size e)
 have stat:∀{pl:List (Addr × Obj)} {H':Hp},(∀b∈fp,H' b=none)->(∀p∈pl,∀b∈fp,p.1≠b)->∀b∈fp,S0 (YB X scope cl x cn (s₂.heap.objs.size+1) s₂ H₂ fp) pl H' b:=fun {pl H'} hn hp b hb =>
  ⟨hn b hb,(I3.ok.exf b hb).1,fun hm=>I3.ok.exfs b hb hm,.inl hb,(I3.ok.exf b hb).2,fun p hpm=>hp p (by simpa using hpm) b hb⟩
 have loop : ∀ s₃ : Shared,s₃ = { s₂ with heap:=h₁,toks:=s₂.toks + ([] : List (Str × Value)).length } ->
     codeAny (model X.prog X.w) X.A (.compLoop (.ListComp elt [⟨.Name x px,iter,ifs,0⟩] scope pos) 0 (.ref it) (.ref s₂.heap.objs.size) (compEnvC scope cl (s₂.heap.objs.size+1) X.env)) (RR (.ref s₂.heap.objs.size) (s₂.heap.objs.size+1)) s₃:=by
  rintro s₃ rfl
  refine SK (fun n s'=>∃i ys v H',Inv (YB X scope cl x cn (s₂.heap.objs.size+1) s₂ H₂ fp) [] (Xh js v σ) H' s'∧tn i s'.heap∧(∀b∈fp,H' b=none)∧W i n ys H') ?_ m0
   ⟨0,[],none,_,I3,st3,fun b hb=>by rw[Zz (fpD b hb)]; exact (f2 b hb).1,w0⟩
  rintro n s4 ⟨i,ys,v4,H4,I4,st4,fr4,w4⟩
  obtain ⟨hD4,tr⟩:=turn i n ys H4 w4
  rcases tr with ⟨stop,qn⟩|⟨go,step⟩
  ·refine wpAny_mono (T.done (YB X scope cl x cn (s₂.heap.objs.size+1) s₂ H₂ fp) rfl rfl rfl hc i [] s4 _ H4 (fun _ _=>False) I4 (stat fr4 (fun _ z=>nomatch z)) st4 stop) (fun r s5 ⟨hr,I5⟩=>?_) fun _ _ q=>q
   subst hr
   have I6:Inv X pins σ H4 s5:=I2.call' (ch:=fp) I5.os I5.base I5.hok I5.bare fun b hb=>⟨(f2 b hb).2.2.2.1,(f2 b hb).2.1,(f2 b hb).2.2.2.2.1,(f2 b hb).2.2.2.2.2⟩
   obtain ⟨m,hn,_⟩:=I5.loc
   refine hRR _ _ H4 s5 I6 qn I5.free (Nat.ne_of_gt (Nat.lt_succ_of_lt I2.lt)) (Nat.le_succ_of_le I2.sz) (fun y c e z=>?_) (fun p hp z=>?_) ⟨m,hn⟩
   ·obtain ⟨v,o,ho',_⟩:=I2.cell y c e
    exact absurd (Heap.lt_size ho') (by rw[z]; exact Nat.not_lt.mpr (Nat.le_succ _))
   ·exact absurd (Heap.lt_size (I2.pin p hp).1) (by rw[z]; exact Nat.not_lt.mpr (Nat.le_succ _))
  ·refine wpAny_mono (T.item (YB X scope cl x cn (s₂.heap.objs.size+1) s₂ H₂ fp) rfl rfl rfl hc i [] s4 _ H4 (fun _ _=>False) I4 (stat fr4 (fun _ z=>nomatch z)) st4 go) (fun r s4' ⟨u,hr,h5⟩=>?_) fun _ _ q=>q
   subst hr
   refine wpAny_mono h5 (fun _ s5 ⟨x5,H5,I5,r5,y5,st5,fr5⟩=>?_) fun _ _ q=>q
   have I5p:=I5.pinned (stat fr5 (fun _ z=>nomatch z)) (T.obj _ _ st5)
   refine wpAny_assign_Name (RY (X:=YB X scope cl x cn (s₂.heap.objs.size+1) s₂ H₂ fp) (i:=0) (E:=fun _ _=>False) I5p O.nd rfl (.inl (lookup_relabel_local O.hx)) r5 (fun s6 I6=>?_) (.inr (lookup_relabel_local O.hx)))
   have I6:Inv (YB X scope cl x cn (s₂.heap.objs.size+1) s₂ H₂ fp) ([]++VC fp s5.heap) (Xh js (some x5) σ) H5 s6:=I6
   have again:∀{s7:Shared} {H7:Hp},Inv (YB X scope cl x cn (s₂.heap.objs.size+1) s₂ H₂ fp) ([]++VC fp s5.heap) (Xh js (some x5) σ) H7 s7->tn (i+1) s7.heap∧∀b∈fp,H7 b=none:=fun {s7 H7} I7=>by
    refine ⟨T.keep _ _ _ st5 fun b hb o e=>(I7.pin (b,o) (List.mem_append_right _ (List.mem_append_right _ (Wf hb e)))).1,fun b hb=>?_⟩
    obtain ⟨o,e,d⟩:=T.obj _ _ st5 b hb
    exact (I7.pin (b,o) (List.mem_append_right _ (List.mem_append_right _ (Wf hb e)))).2.1
   refine wpAny_mono (ht _ _ _ _ _ s6 _ H5 _ I6 (step x5 H5 y5)) (fun ok s7 ⟨H7,I7,q7⟩=>?_) fun _ _ q=>q
   cases ok with
   |false =>
    rw[if_neg Bool.false_ne_true]
    rw[if_neg Bool.false_ne_true]at q7
    obtain ⟨m',hm,w7⟩:=q7
    obtain ⟨st7,fr7⟩:=again I7
    exact ⟨m',hm,i+1,ys,some x5,H7,I7.unpinned,st7,fr7,w7⟩
   |true =>
    rw[if_pos rfl]
    rw[if_pos rfl]at q7
    refine wpAny_mono (he _ _ _ _ _ s7 _ H7 _ I7 q7) (fun u8 s8 ⟨v8,H8,I8,r8,hD8,hz8,m',hm,w8⟩=>?_) fun _ _ q=>q
    obtain ⟨st8,fr8⟩:=again I8
    obtain ⟨z8,its,k8,rv8,e8⟩:=I8.hok _ _ hD8
    have hl8:=rv8.length
    refine append_at (E:=fun _ _=>False) (hsz:=by rw[List.size_toArray]; omega) e8 fun h9 hs9 e9=>?_
    have I9:Inv (YB X scope cl x cn (s₂.heap.objs.size+1) s₂ H₂ fp) ([]++VC fp s5.heap) (Xh js (some x5) σ) (upd H8 s₂.heap.objs.size (.lst (ys++[v8]))) { s8 with heap:=h9 }:=by
     refine I8.write (x:=s₂.heap.objs.size) (e:=s₂.heap.objs.size) (t':=s8.toks) (by rw[hD8]; exact True.intro) (.inl rfl) (fun b u hb q=>(hs9.2 b hb).trans q) ⟨_,e9⟩ ?_
     refine ⟨by rw[List.length_append,List.length_singleton]; omega,its++[u8],k8+1,rv8.append (.cons r8 .nil),?_⟩
     rw[e9,List.push_toArray]
    obtain ⟨st9,fr9⟩:=again I9
    exact ⟨m',hm,i+1,ys++[v8],some x5,_,I9.unpinned,st9,fr9,w8⟩
 exact codeAny_compStart_list (loop _ rfl) (T.self _ 0 _ _ _ st3 (loop _ rfl))
theorem KH (O:CompOk X scope cl x cn js) (hc:X.calm=true) (hi:PI X (.Name x px) iter wi) (ht:∀C s₂ H₂ fp,U7 (YB X scope cl x cn C s₂ H₂ fp) ifs (tc C s₂ H₂ fp)) (he:∀C s₂ H₂ fp,PE (YB X scope cl x cn C s₂ H₂ fp) elt (te C s₂ H₂ fp))
    (hs:∀v,foldedSetIterable iter X.env v=pure v:=by intro _; rfl):PE X (.ListComp elt [⟨.Name x px,iter,ifs,0⟩] scope pos) (Lf wi js tc te):=by
 intro pins s σ H Q I h
 rw[eval_ListComp]
 refine wpAny_comprehension_free (use:=none) rfl hs O.clos O.kind O.names (thn (hi pins s σ H _ I h) fun v s1 h1=>thn h1 fun itv s2 h2=>?_)
 refine Qu O hc ht he (R:=Q) (RR:=fun acc C=>compPost (model X.prog X.w) X.A X.xe none (EP X pins σ Q) acc C) h2 ?_
 intro D C H' s' I' q hC hL h0 hcl hp ⟨m,hn⟩
 refine ⟨m,hn,fun h'' hs''=>⟨.ref D,H',?_,rfl,q⟩⟩
 exact I'.turned (t':=s'.toks) (fun b o hb e=>(hs''.2 b hb).trans e) hC hL (.inr h0) hcl hp
def HF (j:Nat) (wi:TI) (js:List Nat) (tc:Addr->Shared->Hp->List Addr->TT) (te:Addr->Shared->Hp->List Addr->TE):TS:=fun D σ H=>Lf wi js tc te σ H fun v H1=>D.nx (σ.set j (some v)) H1
theorem Tk {j:Nat} {y:Str} {py spos:Pos} (O:CompOk X scope cl x cn js) (hc:X.calm=true) (hi:PI X (.Name x px) iter wi) (ht:∀C s₂ H₂ fp,U7 (YB X scope cl x cn C s₂ H₂ fp) ifs (tc C s₂ H₂ fp)) (he:∀C s₂ H₂ fp,PE (YB X scope cl x cn C s₂ H₂ fp) elt (te C s₂ H₂ fp))
    (hN:X.N.Nodup) (hj:X.N[j]?=some y) (hy:Loc X.env.scope y) (hsw:swapsWith (.ListComp elt [⟨.Name x px,iter,ifs,0⟩] scope pos) (some (.Name y py)) spos.line X.env=pure true)
    (hs:∀v,foldedSetIterable iter X.env v=pure v:=by intro _; rfl) (hf:X.fn y=true∨X.env.scope.names.lookup y=some .local:=by first|exact .inl rfl|exact .inr rfl) :
    PS X (.Assign [.Name y py] (.ListComp elt [⟨.Name x px,iter,ifs,0⟩] scope pos) spos) (HF j wi js tc te):=by
 intro pins s σ H D I h
 rw[exec_Assign_Name_used _ _ _ _ hsw]
 refine wpAny_bind (wpAny_standAt (wpAny_bind ?_))
 show wpAny _ X.A (do let _ ← comprehension (.ListComp elt [⟨.Name x px,iter,ifs,0⟩] scope pos) scope X.env _ (newList []) false (eval iter X.env) (some (assign (.Name y py) X.env))) _ _ s
 refine wpAny_bind (wpAny_mono (wpAny_comprehension_free (use:=some (assign (.Name y py) X.env)) (Q:=fun _ s'=>SP X pins D .next s') rfl hs O.clos O.kind O.names
  (thn (hi pins s σ H _ I h) fun v s1 h1=>thn h1 fun itv s2 h2=>?_)) (fun _ s' hq=>wpAny_pure (wpAny_pure hq)) fun _ _ e=>e)
 refine Qu O hc ht he (R:=fun v H1=>D.nx (σ.set j (some v)) H1) (RR:=fun acc C=>compPost (model X.prog X.w) X.A X.xe (some (assign (.Name y py) X.env)) (fun _ s'=>SP X pins D .next s') acc C) h2 ?_
 intro DD C H' s' I' q hC hL h0 hcl hp ⟨m,hn⟩
 show wpAny _ X.A (assign (.Name y py) X.env (.ref DD)) _ _ s'
 refine wpAny_assign_Name (Oz I' hN hj hy (v:=.ref DD) rfl (fun s3 I3 ⟨a,hsb,ha⟩=>?_) hf)
 have nCa:C≠a:=fun z=>by
  rcases ha with e|e
  ·exact hL (z.trans e)
  ·exact hcl _ _ e z.symm
 refine ⟨m,hn.sameBut hsb nCa,fun h'' hs''=>⟨_,H',?_,q⟩⟩
 exact I3.turned (t':=s3.toks) (fun b o hb e=>(hs''.2 b hb).trans e) hC hL (.inr h0) hcl hp
end
open PySem PySem.Spec PyProof.Rows
section
variable {X:Cx} {pins:List (Addr × Obj)} {σ:St} {H:Hp} {s:Shared}
theorem Inv.freeze {d:Addr} {ob:Obj} {ks:List (Key × V)} (I:Inv X pins σ H s) (hd:H d=some (.dK ks)) (ho:s.heap.get? d=some ob):Inv X pins σ (upd H d (.frz ob (.dK ks))) s:=by
 have old:∀b x,H b=some x->(∀ys,x≠.dK ys)->upd H d (.frz ob (.dK ks)) b=some x:=fun b x e n=>by
  have hb:b≠d:=fun z=>by rw[z,hd]at e; exact n ks (Option.some.inj e).symm
  rw[Zz hb]; exact e
 have ow:∀b a,H b=some (.own a)->upd H d (.frz ob (.dK ks)) b=some (.own a):=fun b a e=>old b _ e fun _ z=>by cases z
 have tu:∀b xs,H b=some (.tup xs)->upd H d (.frz ob (.dK ks)) b=some (.tup xs):=fun b a e=>old b _ e fun _ z=>by cases z
 refine I.un (h':=s.heap) (t':=s.toks) (H':=upd H d (.frz ob (.dK ks))) ⟨fun b o e n _ _=>e,fun b o e n _ _=>⟨o.slots,e⟩,fun b o e n _=>?_,fun b o e _=>⟨o,e⟩,tu,fun b o u e=>old b _ e (fun _ z=>by cases z),fun b ps e=>⟨#[],?_⟩⟩ (fun b x e=>?_)
 ·rw[Zz (Ne.symm (Z5 hd n))]; exact n
 ·rw[Array.append_empty]; exact old b _ e (fun _ z=>by cases z)
 ·by_cases hb:b=d
  ·rw[hb,ZH]at e
   cases e
   rw[hb]
   exact ⟨ho,(I.hok d _ hd).stay (fun _ _ _ q=>q) (fun c q=>ow c _ q) fun c xs q=>tu c xs q⟩
  ·rw[Zz hb]at e
   exact (I.hok b x e).stay (fun _ _ _ q=>q) (fun c q=>ow c _ q) fun c xs q=>tu c xs q
theorem Inv.nofrz {d:Addr} {ks:List (Key × V)} (I:Inv X pins σ H s) (hd:H d=some (.dK ks)):∀o u,X.H₀ d≠some (.frz o u):=fun o u z=>by
 have:=I.base.frzs d o u z
 rw[hd]at this; cases this
theorem Inv.thaw {d:Addr} {ob:Obj} {ks:List (Key × V)} (I:Inv X pins σ H s) (hd:H d=some (.frz ob (.dK ks))) (nf:∀o u,X.H₀ d≠some (.frz o u)):Inv X pins σ (upd H d (.dK ks)) s:=by
 have old:∀b x,H b=some x->b≠d->upd H d (.dK ks) b=some x:=fun b x e n=>by rw[Zz n]; exact e
 have nn:∀b,H b=none->upd H d (.dK ks) b=none:=fun b n=>by rw[Zz (Ne.symm (Z5 hd n))]; exact n
 have tu:∀b xs,H b=some (.tup xs)->upd H d (.dK ks) b=some (.tup xs):=fun b xs e=>old b _ e fun z=>by rw[z,hd]at e; cases e
 have ow:∀b a,H b=some (.own a)->upd H d (.dK ks) b=some (.own a):=fun b xs e=>old b _ e fun z=>by rw[z,hd]at e; cases e
 refine ⟨I.ok,I.os,I.bare,⟨I.base.keep,I.base.slot,fun b o e n hx=>nn b (I.base.free b o e n hx),I.base.there,fun b xs e=>tu b xs (I.base.tups b xs e),fun b o u e=>old b _ (I.base.frzs b o u e) (fun z=>nf o u (z ▸ e)),fun b ps e=>?_⟩,
  I.loc,I.cell,nn _ I.free,fun x c e=>nn c (I.freeC x c e),fun p hp=>?_,fun b x e=>?_,I.len⟩
 ·obtain ⟨more,e1⟩:=I.base.tbls b ps e
  exact ⟨more,old b _ e1 fun z=>by rw[z,hd]at e1; cases e1⟩
 ·obtain ⟨h1,h2,h3⟩:=I.pin p hp
  exact ⟨h1,nn _ h2,h3⟩
 ·by_cases hb:b=d
  ·rw[hb,ZH]at e
   cases e
   rw[hb]
   obtain ⟨_,q⟩:=(show s.heap.get? d=some ob∧ObjOk X.prog X.w H s.heap d (.dK ks) from I.hok d _ hd)
   exact q.stay (fun _ _ _ q=>q) (fun c q=>ow c _ q) fun c xs q=>tu c xs q
  ·rw[Zz hb]at e
   exact (I.hok b x e).stay (fun _ _ _ q=>q) (fun c q=>ow c _ q) fun c xs q=>tu c xs q
end
theorem Fn {k:Key} {v:Value} (h:RT k v=true):RelV (kV k) v:=by
 rcases YH h with ⟨i,t,rfl,rfl⟩|⟨x,t,rfl,rfl⟩
 ·exact ⟨t,rfl⟩
 ·exact ⟨t,rfl⟩
theorem Kv {α γ:Type} {R:α->γ->Prop}:∀{xs:List α} {ys:List γ} {i:Nat} {x:α} {y:γ},Paired R xs ys->xs[i]?=some x->ys[i]?=some y->R x y
 |_,_,_,_,_,.nil,e,_=>by simp at e
 |_,_,0,_,_,.cons h _,e1,e2=>by simp at e1 e2; subst e1 e2; exact h
 |_,_,i+1,_,_,.cons _ r,e1,e2=>Kv (i:=i) r (by simpa using e1) (by simpa using e2)
def Itd (d:Addr) (ob:Obj) (ks:List (Key × V)):It :=
 ⟨fun i H=>H d=some (.frz ob (.dK ks))∧i < ks.length,fun i H x H'=>H'=H∧∃p,ks[i]?=some p∧x=kV p.1,fun i H=>H d=some (.frz ob (.dK ks))∧ks.length<=i⟩
def TnD (d:Addr) (ob:Obj) (it:Addr) (i:Nat) (h:Heap):Prop:=∃es ep,h.IsKeyIter it d i es.size ep∧ob.data=.dict es ep
theorem DL {P:Program} {w:World} {H:Hp} {h:Heap} {d:Addr} {ob:Obj} {ks:List (Key × V)} {es:Array DictEntry} {ep:Nat} (ok:HOk P w H h) (hd:H d=some (.frz ob (.dK ks))) (hdat:ob.data=.dict es ep) :
    ∃ws,KV ks ws∧h.DictAt (Yi P w) d ws ep∧es.size=ws.length:=by
 obtain ⟨ho,z,hS,ws,r,m⟩:=(show h.get? d=some ob∧ks.length<=sizeLine∧(d == sysModules)=false∧∃vs,KV ks vs∧h.DictOf (Yi P w) d vs from ok d _ hd)
 obtain ⟨o',es',ep',ho',hex,hdat',hk,hp,hn⟩:=m
 rw[ho]at ho'
 cases ho'
 rw[hdat]at hdat'
 injection hdat' with e1 e2
 subst e1 e2
 refine ⟨ws,r,⟨ob,es,ho,hex,hdat,hk,hp,hn⟩,?_⟩
 have:=hp.length
 simpa using this
theorem Ol {P:Program} {w:World} {K:PySem.W.Frag} {tg:Expr} (d it:Addr) (ob:Obj) (ks:List (Key × V)):Turn P w K tg (Itd d ob ks) [it] it (TnD d ob it) where
 mem:=by simp
 obj:=fun i h ⟨es,ep,st,_⟩ b hb=>by
  have e:b=it:=by simpa using hb
  subst e
  obtain ⟨o,e,c,d⟩:=st
  exact ⟨o,e,fun v z=>by rw[d]at z; cases z⟩
 keep:=fun i h h' ⟨es,ep,⟨o,e,c,q⟩,hd⟩ k=>⟨es,ep,⟨o,k it (by simp) o e,c,q⟩,hd⟩
 item:=by
  intro X hP hw hK hc i pins s σ H E I hf st hg
  subst hP hw hK
  obtain ⟨hd,hi⟩:=hg
  obtain ⟨es,ep,hit,hdat⟩:=st
  obtain ⟨ws,r,hm,hsz⟩:=DL I.hok hd hdat
  have hl:ks.length=ws.length:=r.length
  have hiw:i < ws.length:=by omega
  obtain ⟨f0,f1,f2,f3,f4,f5⟩:=hf it (by simp)
  rw[hsz]at hit
  refine wpAny_pyNext_dict_item (knd:=Yi X.prog X.w) (kvs:=ws) (k:=ws[i].1) (v:=ws[i].2) hit hm (List.getElem?_eq_getElem hiw) fun key h' hkey hit' sb=>?_
  have I1:Inv X pins σ H { s with heap:=h' }:=I.turned (t':=s.toks) (fun b o hb e=>(sb.2 b hb).trans e) f0 f1 f3 f4 f5
  obtain ⟨oi,e1,c1,d1⟩:=id hit'
  obtain ⟨g1,_⟩:=Kv r (List.getElem?_eq_getElem hi) (List.getElem?_eq_getElem hiw)
  refine ⟨key,rfl,GE (s:={ s with heap:=h' }) e1 c1 d1 (by decide) ⟨kV ks[i].1,H,I1,?_,⟨rfl,ks[i],List.getElem?_eq_getElem hi,rfl⟩,⟨es,ep,by rw[hsz]; exact hit',hdat⟩,fun b hb=>(hf b hb).1⟩⟩
  rw[g1]
  exact Fn hkey
 done:=by
  intro X hP hw hK hc i pins s σ H E I hf st hg
  subst hP hw hK
  obtain ⟨hd,hi⟩:=hg
  obtain ⟨es,ep,hit,hdat⟩:=st
  obtain ⟨ws,r,hm,hsz⟩:=DL I.hok hd hdat
  have hl:ks.length=ws.length:=r.length
  obtain ⟨f0,f1,f2,f3,f4,f5⟩:=hf it (by simp)
  rw[hsz]at hit
  exact wpAny_pyNext_dict_end (knd:=Yi X.prog X.w) (kvs:=ws) (I.ok.hd hc) hit hm (List.getElem?_eq_none (by omega)) fun h' eb=>⟨rfl,I.turned (t':=s.toks) (fun b o hb e=>eb b o hb e) f0 f1 f3 f4 f5⟩
 self:=fun _ _ _ _ _ ⟨_,_,st,_⟩ h=>wpAny_pyIter_keyiter st h
section
variable {X:Cx} {tg:Expr}
def DP (X:Cx) (tl:TE):TI:=fun σ H R=>tl σ H fun x H1=>∃d ks,x=.ref d∧((H1 d=some (.dK ks)∧∀ob,(∀o u,X.H₀ d≠some (.frz o u))->R (Itd d ob ks) (upd H1 d (.frz ob (.dK ks))))∨∃ob,H1 d=some (.frz ob (.dK ks))∧R (Itd d ob ks) H1)
theorem OO {l:Expr} {tl:TE} (hl:PE X l tl):PI X tg l (DP X tl):=by
 intro pins s σ H R I h
 refine thn (hl pins s σ H _ I h) fun v s1 ⟨x,H1,I1,r1,q1⟩=>?_
 obtain ⟨d,ks,e,q⟩:=q1
 subst e
 cases r1
 rcases q with ⟨hd,q⟩|⟨ob,hd,q⟩
 ·obtain ⟨z,hS,ws,r,m⟩:=(show ks.length<=sizeLine∧(d == sysModules)=false∧∃vs,KV ks vs∧s1.heap.DictOf (Yi X.prog X.w) d vs from I1.hok d _ hd)
  obtain ⟨ob,es,ep,ho,hex,hdat,hk,hp,hn⟩:=m
  have hsz:es.size=ws.length:=by have:=hp.length; simpa using this
  have I2:=I1.freeze hd ho
  refine wpAny_pyIter_dict (knd:=Yi X.prog X.w) (kvs:=ws) (ep:=ep) hS ⟨ob,es,ho,hex,hdat,hk,hp,hn⟩ ?_
  refine ⟨s1.heap.objs.size,[s1.heap.objs.size],_,_,_,rfl,I2.kept (t':=s1.toks) fun b o e=>Heap.get?_push_of_some _ e,Ol d _ ob ks,⟨es,ep,⟨_,Heap.get?_push_size _ rfl,rfl,by rw[hsz]; rfl⟩,hdat⟩,fun b hb=>?_,q ob (I1.nofrz hd)⟩
  have e:b=s1.heap.objs.size:=by simpa using hb
  subst e
  exact I2.fpOk (Nat.le_refl _) (I2.hok.fresh (Nat.le_refl _))
 ·obtain ⟨ho,z,hS,ws,r,m⟩:=(show s1.heap.get? d=some ob∧ks.length<=sizeLine∧(d == sysModules)=false∧∃vs,KV ks vs∧s1.heap.DictOf (Yi X.prog X.w) d vs from I1.hok d _ hd)
  obtain ⟨ob',es,ep,ho',hex,hdat,hk,hp,hn⟩:=m
  rw[ho]at ho'
  cases ho'
  have hsz:es.size=ws.length:=by have:=hp.length; simpa using this
  refine wpAny_pyIter_dict (knd:=Yi X.prog X.w) (kvs:=ws) (ep:=ep) hS ⟨ob,es,ho,hex,hdat,hk,hp,hn⟩ ?_
  refine ⟨s1.heap.objs.size,[s1.heap.objs.size],_,_,_,rfl,I1.kept (t':=s1.toks) fun b o e=>Heap.get?_push_of_some _ e,Ol d _ ob ks,⟨es,ep,⟨_,Heap.get?_push_size _ rfl,rfl,by rw[hsz]; rfl⟩,hdat⟩,fun b hb=>?_,q⟩
  have e:b=s1.heap.objs.size:=by simpa using hb
  subst e
  exact I1.fpOk (Nat.le_refl _) (I1.hok.fresh (Nat.le_refl _))
def Thawed (X:Cx) (Q:Hp->Prop) (H2:Hp):Prop:=(∃d ob ks,(∀o u,X.H₀ d≠some (.frz o u))∧H2 d=some (.frz ob (.dK ks))∧Q (upd H2 d (.dK ks)))∨Q H2
theorem Thawed.inv {Q:Hp->Prop} {pins:List (Addr × Obj)} {σ:St} {H:Hp} {s:Shared} (h:Thawed X Q H) (I:Inv X pins σ H s):∃H',Inv X pins σ H' s∧Q H':=by
 rcases h with ⟨d,ob,ks,nf,hd,q⟩|q
 ·exact ⟨_,I.thaw hd nf,q⟩
 ·exact ⟨H,I,q⟩
theorem FX {e:Expr} {t:TE} (h:PE X e t):PE X e (fun σ H Q=>t σ H fun v=>Thawed X (Q v)):=fun pins s σ H Q I q =>
 thn (h pins s σ H _ I q) fun v s1 ⟨x,H1,I1,r1,q1⟩=>let ⟨H2,I2,q2⟩:=q1.inv I1; ⟨x,H2,I2,r1,q2⟩
def KI (X:Cx) (D:Ends):Ends:=⟨fun σ=>Thawed X (D.nx σ),fun v=>Thawed X (D.rt v),fun σ=>Thawed X (D.bk σ),fun σ=>Thawed X (D.ct σ)⟩
theorem Fu {pins:List (Addr × Obj)} {D:Ends} {f:Flow} {s:Shared} (h:SP X pins (KI X D) f s):SP X pins D f s:=by
 cases f with
 |next=>obtain ⟨σ,H,I,q⟩:=h; obtain ⟨H2,I2,q2⟩:=Thawed.inv q I; exact ⟨σ,_,I2,q2⟩
 |brk=>obtain ⟨σ,H,I,q⟩:=h; obtain ⟨H2,I2,q2⟩:=Thawed.inv q I; exact ⟨σ,_,I2,q2⟩
 |cont=>obtain ⟨σ,H,I,q⟩:=h; obtain ⟨H2,I2,q2⟩:=Thawed.inv q I; exact ⟨σ,_,I2,q2⟩
 |ret u=>obtain ⟨v,σ,H,I,r,q⟩:=h; obtain ⟨H2,I2,q2⟩:=Thawed.inv q I; exact ⟨v,σ,_,I2,r,q2⟩
theorem K2 {e:Stmt} {t:TS} (h:PS X e t):PS X e (fun D σ H=>t (KI X D) σ H):=fun pins s σ H D I q=>thn (h pins s σ H _ I q) fun f s1 z=>Fu z
theorem Ru:∀{xs:List V} {us:List Value} {ns:List Int},xs=ns.map V.int->Vals xs us->IntsAre us ns
 |_,_,[],e,r=>by subst e; cases r; exact .nil
 |_,_,n::ns,e,r=>by
  subst e
  cases r with
  |cons h r =>
   obtain ⟨t,rfl⟩:=(show ∃t,_=Value.int n t from h)
   exact .cons n t (Ru rfl r)
theorem KW:∀{us:List Value} {ns:List Int},IntsAre us ns->Vals (ns.map V.int) us
 |_,_,.nil=>.nil
 |_,_,.cons n t r=>.cons ⟨t,rfl⟩ (KW r)
def Hn (K:PySem.W.Frag):List V->Hp->VK->Prop:=fun xs H Q=>∃(l:Addr) (ns:List Int),xs=[.ref l]∧SqL K H l (ns.map V.int)∧ns.length < 64∧∀(p:Addr) (ms:List Int),ms.Perm ns->ms.Pairwise (·<=·)->H p=none->Q (.ref p) (upd H p (.lst (ms.map V.int)))
theorem Lr:CallR X (.builtin "sorted") (Hn X.K):=by
 intro pins s σ H xs us Q I r h
 obtain ⟨l,ns,rfl,hl,h64,q⟩:=h
 obtain ⟨u,rfl,ru⟩:=N0 r
 cases (show u=Value.ref l from ru)
 obtain ⟨its,rv,p,hz⟩:=I.list hl
 have hI:=Ru rfl rv
 have hlen:its.length=ns.length:=by have:=rv.length; rw[List.length_map]at this; exact this.symm
 refine sorted_ints (vs:=its) (ns:=ns) p.isList hI (by omega) fun out ms a1 a2 a3=>?_
 obtain ⟨e,he⟩:=sortedAll_at s.heap its out
 refine ⟨.ref (s.heap.objs.size+1),_,I.laid (o:=.lst (ms.map V.int)) (t':=s.toks) (fun _ _=>sortedAll_old) (Nat.le_succ _) ?_,rfl,q _ ms a2 a3 (I.hok.fresh (Nat.le_succ _))⟩
 have hl2:ms.length=ns.length:=a2.length_eq
 refine ⟨by rw[List.length_map,sizeLine_eq]; omega,out.toList,e,KW a1,?_⟩
 rw[he]
theorem PB:∀{xs:List V} {us:List Value} {bs:List Bool},xs=bs.map V.bl->Vals xs us->LSm.BoolsAre us bs
 |_,_,[],e,r=>by subst e; cases r; exact .nil
 |_,_,b::bs,e,r=>by
  subst e
  cases r with
  |cons h r =>
   cases (show _=Value.bool b from h)
   exact .cons b (PB rfl r)
def D1 (K:PySem.W.Frag) (g:List Bool->Bool):List V->Hp->VK->Prop:=fun xs H Q=>∃(l:Addr) (bs:List Bool),xs=[.ref l]∧SqL K H l (bs.map V.bl)∧Q (.bl (g bs)) H
theorem Jn (hc:X.calm=true):CallR X (.builtin "any") (D1 X.K fun bs=>bs.any id):=by
 intro pins s σ H xs us Q I r h
 obtain ⟨l,bs,rfl,hl,q⟩:=h
 obtain ⟨u,rfl,ru⟩:=N0 r
 cases (show u=Value.ref l from ru)
 obtain ⟨its,rv,p,hz⟩:=I.list hl
 have hb:=PB rfl rv
 have hp:=p.isList
 have hlt:l < s.heap.objs.size:=by obtain ⟨_,e,_⟩:=hp; exact Heap.lt_size e
 refine call_any_walk (wpAny_pyIter_list hp ⟨s.heap.objs.size,[s.heap.objs.size,l],[s.heap.objs.size],its.toArray.size,_,_,fun j=>(bs[j]?).getD false,rfl,Walks.list (A:=X.A.in1) (I.ok.hd hc) _ l (Nat.ne_of_lt hlt) its.toArray,
  ⟨⟨_,Heap.get?_push_size _ rfl,rfl,rfl⟩,hp.push _⟩,fun j v s' Q' E' hP hQ=>?_,fun h' tk hk=>?_⟩)
 ·obtain ⟨b,e,rfl⟩:=hb.get j v (by simpa using hP)
  simp only[e,Option.getD_some]at hQ
  exact wpAny_truthy_bool hQ
 ·have e:((List.range its.toArray.size).any fun j=>(bs[j]?).getD false)=bs.any id:=by
   rw[List.size_toArray,hb.length]; exact LSm.range_any bs
  rw[e]
  exact ⟨.bl _,H,I.kept (t':=tk) (LSm.kept_iter hk),rfl,q⟩
end
open PySem PySem.Spec PyProof.Rows
abbrev YY (X:Cx) (scope:Scope) (cl:List (Str × Addr)) (xs cn:List Str) (C:Addr) (s₂:Shared) (H₂:Hp) (fp:List Addr):Cx where
 prog:=X.prog
 w:=X.w
 K:=X.K
 mg:=X.mg
 base:=X.base
 A:=X.A
 N:=xs++cn
 s₀:=s₂
 H₀:=H₂
 env:=compEnvC scope cl C X.env
 outer:=X.stack
 stack:=X.stack
 ex:=fp
 fn:=fun _=>false
 calm:=X.calm
 pn:=[]
 xe:=fun _ _=>False
def Tc (js:List Nat) (σ:St):St:=js.map fun j=>(σ[j]?).join
structure CompOkT (X:Cx) (scope:Scope) (cl:List (Str × Addr)) (xs cn:List Str) (js:List Nat):Prop where
 clos:closureFor scope X.env=pure cl
 nocell:∀y∈scope.names,y.2≠.cell
 kind:scope.kind=.function
 names:∀y∈scope.names,y.2=.local->scope.names.lookup y.1=some .local
 sub:∀y c,cl.lookup y=some c->X.env.cells.lookup y=some c
 has:∀p∈(relabel scope X.env).names,p.2=.cell∨p.2=.free->∃c,cl.lookup p.1=some c
 cap:∀(k:Nat) y,cn[k]?=some y->∃j,js[k]?=some j∧X.N[j]?=some y∧Vis X.env.scope y∧(X.env.kindOf y=some .cell∨X.env.kindOf y=some .free)∧((compEnvC scope cl 0 X.env).kindOf y=some .cell∨(compEnvC scope cl 0 X.env).kindOf y=some .free)
 len:js.length=cn.length
 nd:(xs++cn).Nodup
theorem LV {X:Cx} {scope:Scope} {xs cn:List Str} {js:List Nat} (clos:closureFor scope X.env=pure (PN scope.names X.env)) (nocell:∀y∈scope.names,y.2≠.cell) (kind:scope.kind=.function)
    (names:∀y∈scope.names,y.2=.local->scope.names.lookup y.1=some .local)
    (has:((relabel scope X.env).names.all fun p=>!(QW (some p.2)) || ((PN scope.names X.env).lookup p.1).isSome)=true) (len:js.length=cn.length)
    (cap:((cn.zip js).all fun p=>(X.N[p.2]? == some p.1)&&QW (X.env.scope.names.lookup p.1)&&QW ((relabel scope X.env).names.lookup p.1))=true)
    (nd:(xs++cn).Nodup):CompOkT X scope (PN scope.names X.env) xs cn js where
 clos:=clos
 nocell:=nocell
 kind:=kind
 names:=names
 sub:=fun y c h=>Sx X.env scope.names [] (fun _ z=>(nomatch z)) (y,c) (PySem.mem_of_lookup h)
 has:=fun p hp hk=>by
  have q:=List.all_eq_true.mp has p hp
  have hk':QW (some p.2)=true:=by rcases hk with z|z <;> rw[z] <;> rfl
  rw[hk']at q
  exact Option.isSome_iff_exists.mp (by simpa using q)
 cap:=fun k y e=>by
  have hk:k < cn.length:=(List.getElem?_eq_some_iff.mp e).1
  have hj:js[k]?=some (js[k]'(by omega)):=List.getElem?_eq_getElem _
  have hz:(y,js[k]'(by omega))∈cn.zip js:=by
   refine List.mem_of_getElem? (i:=k) ?_
   rw[List.getElem?_zip_eq_some]
   exact ⟨e,hj⟩
  have q:=List.all_eq_true.mp cap _ hz
  simp only[Bool.and_eq_true,beq_iff_eq]at q
  obtain ⟨⟨q1,q2⟩,q3⟩:=q
  have c2:=Rl q2
  refine ⟨_,hj,q1,?_,c2,Rl q3⟩
  rcases c2 with z|z
  ·exact .inr (.inl z)
  ·exact .inr (.inr z)
 len:=len
 nd:=nd
section
variable {X:Cx} {scope:Scope} {cl:List (Str × Addr)} {xs cn:List Str} {js:List Nat} {pins:List (Addr × Obj)} {σ:St} {H₂:Hp} {s₂:Shared} {fp:List Addr}
theorem CompOkT.ok (O:CompOkT X scope cl xs cn js) (I:Inv X pins σ H₂ s₂) (hf:∀b∈fp,S0 X pins H₂ b) {C:Addr} (hC:s₂.heap.objs.size<=C) (ho:∀b∈fp,∃o,s₂.heap.get? b=some o):(YY X scope cl xs cn C s₂ H₂ fp).Ok where
 mod:=I.mod
 kind:=by show (relabel scope X.env).kind=.function; exact O.kind
 glob:=I.ok.glob
 blt:=I.ok.blt
 above:=hC
 inj:=fun y z c h1 h2=>I.ok.inj y z c (O.sub y c h1) (O.sub z c h2)
 has:=fun y hy=>by
  have hy:(relabel scope X.env).names.lookup y=some .cell∨(relabel scope X.env).names.lookup y=some .free:=hy
  rcases hy with hy|hy
  ·exact O.has _ (PySem.mem_of_lookup hy) (.inl rfl)
  ·exact O.has _ (PySem.mem_of_lookup hy) (.inr rfl)
 cab:=fun _ _ h=>(by cases h)
 hd:=I.ok.hd
 frames:=I.ok.frames
 stk:=.inl rfl
 exf:=fun b hb=>by
  obtain ⟨o,e⟩:=ho b hb
  exact ⟨Nat.ne_of_lt (Nat.lt_of_lt_of_le (Heap.lt_size e) hC),fun y c h=>(hf b hb).2.2.2.2.1 y c (O.sub y c h)⟩
 bs:=I.bs
 bsz:=Nat.le_trans I.ok.bsz I.sz
 noex:=fun b o e hb=>by
  rcases (hf b hb).2.2.2.1 with z|z
  ·exact I.ok.noex b o e z
  ·exact absurd (Nat.lt_of_lt_of_le (Heap.lt_size e) (Nat.le_trans I.ok.bsz z)) (Nat.lt_irrefl _)
 exfs:=fun b hb hm=>(List.mem_cons.mp (I.stkSub b hm)).elim (hf b hb).2.1 (hf b hb).2.2.1
 funs:=I.stack
 frf:=I.stkFree
theorem CompOkT.start (O:CompOkT X scope cl xs cn js) (I:Inv X pins σ H₂ s₂) (hf:∀b∈fp,S0 X pins H₂ b) (ho:∀b∈fp,∃o,s₂.heap.get? b=some o) {h₁:Heap} {m:Str->Option Value} {tk:Nat}
    (hns:h₁.Ns (s₂.heap.objs.size+1) m) (hk:∀b o,s₂.heap.get? b=some o->h₁.get? b=some o) (hD:h₁.get? s₂.heap.objs.size=some { cls:=.type "list",data:=.seq ([]:List Value).toArray }) :
    Inv (YY X scope cl xs cn (s₂.heap.objs.size+1) s₂ H₂ fp) [] (List.replicate xs.length none++Tc js σ) (upd H₂ s₂.heap.objs.size (.lst [])) { s₂ with heap:=h₁,toks:=tk }:=by
 have fD:H₂ s₂.heap.objs.size=none:=I.hok.fresh (Nat.le_refl _)
 have fC:H₂ (s₂.heap.objs.size+1)=none:=I.hok.fresh (Nat.le_succ _)
 have neD:s₂.heap.objs.size+1≠s₂.heap.objs.size:=Nat.succ_ne_self _
 obtain ⟨m0,hn0,hl0⟩:=I.loc
 refine ⟨O.ok I hf (Nat.le_succ _) ho,rfl,I.bare,?_,⟨m,hns,fun i y v e1 e2 e3=>?_⟩,fun y c e=>?_,?_,fun y c e=>?_,(fun p hp=>nomatch hp),?_,?_⟩
 ·exact Un.laid hk (Nat.le_refl _) fD
 ·have hi:xs.length<=i:=by
   by_cases h:i < xs.length
   ·rw[List.getElem?_append_left (by simpa using h),List.getElem?_replicate,if_pos h]at e2
    cases e2
   ·omega
  rw[List.getElem?_append_right (by simpa using hi),List.length_replicate]at e2
  have e1:cn[i - xs.length]?=some y:=by
   have e1:(xs++cn)[i]?=some y:=e1
   rw[List.getElem?_append_right hi]at e1
   exact e1
  ·obtain ⟨j,hj,hjN,hvis,hcell,hk2⟩:=O.cap _ y e1
   have e4:(σ[j]?).join=some v:=by
    have z:(js.map fun j=>(σ[j]?).join)[i - xs.length]?=some (some v):=e2
    rw[List.getElem?_map,hj]at z
    simpa using z
   have e5:σ[j]?=some (some v):=by
    cases q:σ[j]? with
    |none=>rw[q]at e4; cases e4
    |some o=>rw[q]at e4; simp at e4; rw[e4]
   obtain ⟨u,r,l⟩:=hl0 j y v hjN e5 hvis
   refine ⟨u,r,.inr ⟨hk2,?_⟩⟩
   rcases l with ⟨kl,_⟩|⟨_,c,ec,z⟩
   ·rcases hcell with q|q
    ·rw[kl]at q; cases q
    ·rw[kl]at q; cases q
   ·have hy:∃c',cl.lookup y=some c':=by
     rcases hk2 with q|q
     ·exact O.has _ (PySem.mem_of_lookup (show (relabel scope X.env).names.lookup y=some .cell from q)) (.inl rfl)
     ·exact O.has _ (PySem.mem_of_lookup (show (relabel scope X.env).names.lookup y=some .free from q)) (.inr rfl)
    obtain ⟨c',hc'⟩:=hy
    have ecc:=O.sub y c' hc'
    rw[ec]at ecc
    cases ecc
    exact ⟨c,hc',z.keeps hk⟩
 ·obtain ⟨v,z⟩:=I.cell y c (O.sub y c e)
  exact ⟨v,z.keeps hk⟩
 ·show upd H₂ s₂.heap.objs.size (.lst []) (s₂.heap.objs.size+1)=none
  rw[Zz neD]; exact fC
 ·obtain ⟨v,o,ho',_⟩:=I.cell y c (O.sub y c e)
  rw[Zz (Nat.ne_of_lt (Heap.lt_size ho'))]
  exact I.freeC y c (O.sub y c e)
 ·exact I.hok.laid hk (Nat.le_refl _) ⟨Nat.zero_le _,[],0,.nil,hD⟩
 ·show (List.replicate xs.length none++Tc js σ).length=(xs++cn).length
  simp[Tc,O.len]
end
def G4 (wi:TI) (n:Nat) (g:TG) (js:List Nat) (tc:Addr->Shared->Hp->List Addr->TT) (te:Addr->Shared->Hp->List Addr->TE):TE:=fun σ H Q=>wi σ H fun J H1=>∀D,H1 D=none->∀C s₂ H₂ fp,∃W:Nat->Nat->List V->Hp->Prop,(∃m,W 0 m [] (upd H1 D (.lst [])))∧∀i m ys H2,W i m ys H2->H2 D=some (.lst ys) ∧
 ((J.stop i H2∧Q (.ref D) H2)∨(J.go i H2∧∀x H',J.yld i H2 x H'->∀vs:St,vs.length=n->g x (vs++Tc js σ) H' fun σ2 H6=>(∃vs2:St,vs2.length=n∧σ2=vs2++Tc js σ)∧tc C s₂ H₂ fp σ2 H6 fun b H3=>if b=true then te C s₂ H₂ fp σ2 H3 fun v H4=>H4 D=some (.lst ys)∧ys.length < sizeLine∧∃m',m' < m∧W (i+1) m' (ys++[v]) (upd H4 D (.lst (ys++[v])))
  else ∃m',m' < m∧W (i+1) m' ys H3))
section
variable {X:Cx} {scope:Scope} {cl:List (Str × Addr)} {xs cn:List Str} {js:List Nat} {elt iter:Expr} {ifs:List Expr} {tg:Expr} {g:TG} {pos:Pos} {wi:TI} {tc:Addr->Shared->Hp->List Addr->TT} {te:Addr->Shared->Hp->List Addr->TE}
theorem Lj (O:CompOkT X scope cl xs cn js) (hc:X.calm=true) (hg:∀C s₂ H₂ fp,PG (YY X scope cl xs cn C s₂ H₂ fp) tg g) (ht:∀C s₂ H₂ fp,U7 (YY X scope cl xs cn C s₂ H₂ fp) ifs (tc C s₂ H₂ fp)) (he:∀C s₂ H₂ fp,PE (YY X scope cl xs cn C s₂ H₂ fp) elt (te C s₂ H₂ fp))
    {pins:List (Addr × Obj)} {σ:St} {s₂:Shared} {itv:Value} {R:V->Hp->Prop} {RR:Value->Addr->Result->Shared->Prop} {E:Value->Shared->Prop}
    (h:PIE X pins σ (tg) (fun J H1=>∀D,H1 D=none->∀C s₂ H₂ fp,∃W:Nat->Nat->List V->Hp->Prop,(∃m,W 0 m [] (upd H1 D (.lst [])))∧∀i m ys H2,W i m ys H2->H2 D=some (.lst ys) ∧
     ((J.stop i H2∧R (.ref D) H2)∨(J.go i H2∧∀x H',J.yld i H2 x H'->∀vs:St,vs.length=xs.length->g x (vs++Tc js σ) H' fun σ2 H6=>(∃vs2:St,vs2.length=xs.length∧σ2=vs2++Tc js σ)∧tc C s₂ H₂ fp σ2 H6 fun b H3=>if b=true then te C s₂ H₂ fp σ2 H3 fun v H4=>H4 D=some (.lst ys)∧ys.length < sizeLine∧∃m',m' < m∧W (i+1) m' (ys++[v]) (upd H4 D (.lst (ys++[v])))
      else ∃m',m' < m∧W (i+1) m' ys H3))) itv s₂)
    (hRR:∀D C H' s',Inv X pins σ H' s'->R (.ref D) H'->H' C=none->C≠X.env.locals->X.s₀.heap.objs.size<=C->(∀y c,X.env.cells.lookup y=some c->c≠C)->(∀p∈X.pn++pins,p.1≠C)->(∃m,s'.heap.Ns C m)->RR (.ref D) C (.ok .next) s') :
    wpAny (model X.prog X.w) X.A (newList []) (fun acc s₃=>wpAny (model X.prog X.w) X.A (newFunctionEnv scope X.env.globals cl [] X.env.qual none .none (some X.env)) (fun cenv s₄ =>
     codeAny (model X.prog X.w) X.A (.compStart (.ListComp elt [⟨tg,iter,ifs,0⟩] scope pos) 0 itv acc { cenv with scope:=relabel scope X.env }) (RR acc cenv.locals) s₄) E s₃) E s₂:=by
 obtain ⟨it,fp,tn,J,H₂,rfl,I2,T,st2,f2,hR⟩:=h
 have ho:∀b∈fp,∃o,s₂.heap.get? b=some o:=fun b hb=>let ⟨o,e,_⟩:=T.obj _ _ st2 b hb; ⟨o,e⟩
 obtain ⟨W,⟨m0,w0⟩,turn⟩:=hR s₂.heap.objs.size (I2.hok.fresh (Nat.le_refl _)) (s₂.heap.objs.size+1) s₂ H₂ fp
 refine wpAny_newObj_type (wpAny_newFunctionEnv O.nocell (by intro y hy; simp at hy) (fun h₁ hns₁ hsb₁=>?_) O.kind)
 dsimp only at hns₁ hsb₁ ⊢
 generalize hH2:s₂.heap.push { cls:=.type "list",dict:=none,data:=.seq ([]:List Value).toArray }=HH at hns₁ hsb₁ ⊢
 have hsz:HH.objs.size=s₂.heap.objs.size+1:=by rw[← hH2,Heap.size_push]
 have old:∀b o,s₂.heap.get? b=some o->h₁.get? b=some o:=fun b o e=>by
  refine hsb₁.extBut b o ?_ (Heap.get?_push_of_some _ (hH2 ▸ Heap.get?_push_of_some _ e))
  rw[hsz]
  exact Nat.ne_of_lt (Nat.lt_succ_of_lt (Heap.lt_size e))
 have hD:h₁.get? s₂.heap.objs.size=some { cls:=.type "list",data:=.seq ([]:List Value).toArray }:=by
  refine hsb₁.extBut _ _ ?_ (Heap.get?_push_of_some _ (hH2 ▸ Heap.get?_push_size _ rfl))
  rw[hsz]
  exact Nat.ne_of_lt (Nat.lt_succ_self _)
 rw[hsz]at hns₁
 show codeAny _ _ (.compStart _ 0 (.ref it) (.ref s₂.heap.objs.size) (compEnvC scope cl HH.objs.size X.env)) (RR (.ref s₂.heap.objs.size) HH.objs.size) _
 rw[hsz]
 have I3:=O.start I2 f2 ho (tk:=s₂.toks+([]:List (Str × Value)).length) hns₁ old hD
 have st3:tn 0 h₁:=T.keep 0 _ _ st2 fun b hb o e=>old b o e
 have fpD:∀b∈fp,b≠s₂.heap.objs.size:=fun b hb=>by obtain ⟨o,e⟩:=ho b hb; exact Nat.ne_of_lt (Heap.lt_size e)
 have stat:∀{pl:List (Addr × Obj)} {H':Hp},(∀b∈fp,H' b=none)->(∀p∈pl,∀b∈fp,p.1≠b)->∀b∈fp,S0 (YY X scope cl xs cn (s₂.heap.objs.size+1) s₂ H₂ fp) pl H' b:=fun {pl H'} hn hp b hb =>
  ⟨hn b hb,(I3.ok.exf b hb).1,fun hm=>I3.ok.exfs b hb hm,.inl hb,(I3.ok.exf b hb).2,fun p hpm=>hp p (by simpa using hpm) b hb⟩
 have loop : ∀ s₃ : Shared,s₃ = { s₂ with heap:=h₁,toks:=s₂.toks + ([] : List (Str × Value)).length } ->
     codeAny (model X.prog X.w) X.A (.compLoop (.ListComp elt [⟨tg,iter,ifs,0⟩] scope pos) 0 (.ref it) (.ref s₂.heap.objs.size) (compEnvC scope cl (s₂.heap.objs.size+1) X.env)) (RR (.ref s₂.heap.objs.size) (s₂.heap.objs.size+1)) s₃:=by
  rintro s₃ rfl
  refine SK (fun n s'=>∃i ys vs H',vs.length=xs.length∧Inv (YY X scope cl xs cn (s₂.heap.objs.size+1) s₂ H₂ fp) [] (vs++Tc js σ) H' s'∧tn i s'.heap∧(∀b∈fp,H' b=none)∧W i n ys H') ?_ m0
   ⟨0,[],_,_,List.length_replicate,I3,st3,fun b hb=>by rw[Zz (fpD b hb)]; exact (f2 b hb).1,w0⟩
  rintro n s4 ⟨i,ys,v4,H4,hv4,I4,st4,fr4,w4⟩
  obtain ⟨hD4,tr⟩:=turn i n ys H4 w4
  rcases tr with ⟨stop,qn⟩|⟨go,step⟩
  ·refine wpAny_mono (T.done (YY X scope cl xs cn (s₂.heap.objs.size+1) s₂ H₂ fp) rfl rfl rfl hc i [] s4 _ H4 (fun _ _=>False) I4 (stat fr4 (fun _ z=>nomatch z)) st4 stop) (fun r s5 ⟨hr,I5⟩=>?_) fun _ _ q=>q
   subst hr
   have I6:Inv X pins σ H4 s5:=I2.call' (ch:=fp) I5.os I5.base I5.hok I5.bare fun b hb=>⟨(f2 b hb).2.2.2.1,(f2 b hb).2.1,(f2 b hb).2.2.2.2.1,(f2 b hb).2.2.2.2.2⟩
   obtain ⟨m,hn,_⟩:=I5.loc
   refine hRR _ _ H4 s5 I6 qn I5.free (Nat.ne_of_gt (Nat.lt_succ_of_lt I2.lt)) (Nat.le_succ_of_le I2.sz) (fun y c e z=>?_) (fun p hp z=>?_) ⟨m,hn⟩
   ·obtain ⟨v,o,ho',_⟩:=I2.cell y c e
    exact absurd (Heap.lt_size ho') (by rw[z]; exact Nat.not_lt.mpr (Nat.le_succ _))
   ·exact absurd (Heap.lt_size (I2.pin p hp).1) (by rw[z]; exact Nat.not_lt.mpr (Nat.le_succ _))
  ·refine wpAny_mono (T.item (YY X scope cl xs cn (s₂.heap.objs.size+1) s₂ H₂ fp) rfl rfl rfl hc i [] s4 _ H4 (fun _ _=>False) I4 (stat fr4 (fun _ z=>nomatch z)) st4 go) (fun r s4' ⟨u,hr,h5⟩=>?_) fun _ _ q=>q
   subst hr
   refine wpAny_mono h5 (fun _ s5 ⟨x5,H5,I5,r5,y5,st5,fr5⟩=>?_) fun _ _ q=>q
   have I5p:=I5.pinned (stat fr5 (fun _ z=>nomatch z)) (T.obj _ _ st5)
   refine wpAny_mono (hg _ _ _ _ _ s5 _ H5 x5 u _ I5p r5 (step x5 H5 y5 v4 hv4)) (fun _ s6 ⟨σ6,H6,I6,⟨vs6,hv6,e6⟩,q6⟩=>?_) fun _ _ q=>q
   subst e6
   have again:∀{s7:Shared} {H7:Hp},Inv (YY X scope cl xs cn (s₂.heap.objs.size+1) s₂ H₂ fp) ([]++VC fp s5.heap) (vs6++Tc js σ) H7 s7->tn (i+1) s7.heap∧∀b∈fp,H7 b=none:=fun {s7 H7} I7=>by
    refine ⟨T.keep _ _ _ st5 fun b hb o e=>(I7.pin (b,o) (List.mem_append_right _ (List.mem_append_right _ (Wf hb e)))).1,fun b hb=>?_⟩
    obtain ⟨o,e,d⟩:=T.obj _ _ st5 b hb
    exact (I7.pin (b,o) (List.mem_append_right _ (List.mem_append_right _ (Wf hb e)))).2.1
   refine wpAny_mono (ht _ _ _ _ _ s6 _ H6 _ I6 q6) (fun ok s7 ⟨H7,I7,q7⟩=>?_) fun _ _ q=>q
   cases ok with
   |false =>
    rw[if_neg Bool.false_ne_true]
    rw[if_neg Bool.false_ne_true]at q7
    obtain ⟨m',hm,w7⟩:=q7
    obtain ⟨st7,fr7⟩:=again I7
    exact ⟨m',hm,i+1,ys,vs6,H7,hv6,I7.unpinned,st7,fr7,w7⟩
   |true =>
    rw[if_pos rfl]
    rw[if_pos rfl]at q7
    refine wpAny_mono (he _ _ _ _ _ s7 _ H7 _ I7 q7) (fun u8 s8 ⟨v8,H8,I8,r8,hD8,hz8,m',hm,w8⟩=>?_) fun _ _ q=>q
    obtain ⟨st8,fr8⟩:=again I8
    obtain ⟨z8,its,k8,rv8,e8⟩:=I8.hok _ _ hD8
    have hl8:=rv8.length
    refine append_at (E:=fun _ _=>False) (hsz:=by rw[List.size_toArray]; omega) e8 fun h9 hs9 e9=>?_
    have I9:Inv (YY X scope cl xs cn (s₂.heap.objs.size+1) s₂ H₂ fp) ([]++VC fp s5.heap) (vs6++Tc js σ) (upd H8 s₂.heap.objs.size (.lst (ys++[v8]))) { s8 with heap:=h9 }:=by
     refine I8.write (x:=s₂.heap.objs.size) (e:=s₂.heap.objs.size) (t':=s8.toks) (by rw[hD8]; exact True.intro) (.inl rfl) (fun b u hb q=>(hs9.2 b hb).trans q) ⟨_,e9⟩ ?_
     refine ⟨by rw[List.length_append,List.length_singleton]; omega,its++[u8],k8+1,rv8.append (.cons r8 .nil),?_⟩
     rw[e9,List.push_toArray]
    obtain ⟨st9,fr9⟩:=again I9
    exact ⟨m',hm,i+1,ys++[v8],vs6,_,hv6,I9.unpinned,st9,fr9,w8⟩
 exact codeAny_compStart_list (loop _ rfl) (T.self _ 0 _ _ _ st3 (loop _ rfl))
theorem GN (O:CompOkT X scope cl xs cn js) (hc:X.calm=true) (hg:∀C s₂ H₂ fp,PG (YY X scope cl xs cn C s₂ H₂ fp) tg g) (hi:PI X (tg) iter wi) (ht:∀C s₂ H₂ fp,U7 (YY X scope cl xs cn C s₂ H₂ fp) ifs (tc C s₂ H₂ fp)) (he:∀C s₂ H₂ fp,PE (YY X scope cl xs cn C s₂ H₂ fp) elt (te C s₂ H₂ fp))
    (hs:∀v,foldedSetIterable iter X.env v=pure v:=by intro _; rfl):PE X (.ListComp elt [⟨tg,iter,ifs,0⟩] scope pos) (G4 wi xs.length g js tc te):=by
 intro pins s σ H Q I h
 rw[eval_ListComp]
 refine wpAny_comprehension_free (use:=none) rfl hs O.clos O.kind O.names (thn (hi pins s σ H _ I h) fun v s1 h1=>thn h1 fun itv s2 h2=>?_)
 refine Lj O hc hg ht he (R:=Q) (RR:=fun acc C=>compPost (model X.prog X.w) X.A X.xe none (EP X pins σ Q) acc C) h2 ?_
 intro D C H' s' I' q hC hL h0 hcl hp ⟨m,hn⟩
 refine ⟨m,hn,fun h'' hs''=>⟨.ref D,H',?_,rfl,q⟩⟩
 exact I'.turned (t':=s'.toks) (fun b o hb e=>(hs''.2 b hb).trans e) hC hL (.inr h0) hcl hp
end
open PySem PySem.Spec PyProof.Rows
inductive Wv where
 |non|bl (b:Bool)|int (i:Int)|str (x:Str)|lst (ws:List Wv)|tup (ws:List Wv)|o (h:Nat)|g (a:Addr)
inductive Ob where
 |ins (C:Addr) (fs:List (Str × Wv))|lst (ws:List Wv)|dk (kvs:List (Key × Wv))|dt (kvs:List (List Key × Wv))|exc (C:Addr)|dz (kvs:List (Key × Wv))
section
variable (F:Hp) (β:List Addr)
mutual
inductive RW:Wv->V->Prop
 |non:RW .non .non
 |bl (b:Bool):RW (.bl b) (.bl b)
 |int (i:Int):RW (.int i) (.int i)
 |str (x:Str):RW (.str x) (.str x)
 |lst {a:Addr} {xs:List V} {ws:List Wv} (e:Rd F a (.lst xs)) (r:RWs ws xs):RW (.lst ws) (.ref a)
 |tup {a:Addr} {xs:List V} {ws:List Wv} (e:F a=some (.tup xs)) (r:RWs ws xs):RW (.tup ws) (.ref a)
 |o {h:Nat} {a:Addr} (e:β[h]?=some a):RW (.o h) (.ref a)
 |g (a:Addr):RW (.g a) (.ref a)
inductive RWs:List Wv->List V->Prop
 |nil:RWs [] []
 |cons {w:Wv} {ws:List Wv} {v:V} {vs:List V} (h:RW w v) (r:RWs ws vs):RWs (w::ws) (v::vs)
end
end
structure Gr (F F':Hp) (β β':List Addr):Prop where
 same:Same F F'
 pre:∀(h:Nat) (a:Addr),β[h]?=some a->β'[h]?=some a
theorem Gr.refl (F:Hp) (β:List Addr):Gr F F β β:=⟨Same.refl _,fun _ _ e=>e⟩
theorem Gr.trans {F F1 F2:Hp} {β β1 β2:List Addr} (a:Gr F F1 β β1) (b:Gr F1 F2 β1 β2):Gr F F2 β β2:=⟨a.same.trans b.same,fun h x e=>b.pre h x (a.pre h x e)⟩
theorem Rd.same {H H':Hp} {a:Addr} {u:HO} (s:Same H H') (r:Rd H a u):Rd H' a u:=r.elim (fun e=>.inl (s _ _ e)) fun ⟨o,e⟩=>.inr ⟨o,s _ _ e⟩
mutual
theorem RW.mono {F F':Hp} {β β':List Addr} (g:Gr F F' β β'):∀{w:Wv} {v:V},RW F β w v->RW F' β' w v
 |_,_,.non=>.non
 |_,_,.bl b=>.bl b
 |_,_,.int i=>.int i
 |_,_,.str x=>.str x
 |_,_,.lst e r=>.lst (Rd.same g.same e) (RWs.mono g r)
 |_,_,.tup e r=>.tup (g.same _ _ e) (RWs.mono g r)
 |_,_,.o e=>.o (g.pre _ _ e)
 |_,_,.g a=>.g a
theorem RWs.mono {F F':Hp} {β β':List Addr} (g:Gr F F' β β'):∀{ws:List Wv} {vs:List V},RWs F β ws vs->RWs F' β' ws vs
 |_,_,.nil=>.nil
 |_,_,.cons h r=>.cons (RW.mono g h) (RWs.mono g r)
end
section
variable {F:Hp} {β:List Addr}
theorem RWs.length:∀{ws:List Wv} {vs:List V},RWs F β ws vs->ws.length=vs.length
 |_,_,.nil=>rfl
 |_,_,.cons _ r=>by rw[List.length_cons,List.length_cons,RWs.length r]
theorem RWs.get:∀{ws:List Wv} {vs:List V} {i:Nat} {w:Wv},RWs F β ws vs->ws[i]?=some w->∃v,vs[i]?=some v∧RW F β w v
 |_,_,_,_,.nil,e=>by simp at e
 |_,_,0,_,.cons h _,e=>by simp at e; subst e; exact ⟨_,rfl,h⟩
 |_,_,i+1,w,.cons _ r,e=>by
  obtain ⟨v,h1,h2⟩:=RWs.get (i:=i) (w:=w) r (by simpa using e)
  exact ⟨v,by simpa using h1,h2⟩
theorem RWs.append:∀{ws us:List Wv} {vs xs:List V},RWs F β ws vs->RWs F β us xs->RWs F β (ws++us) (vs++xs)
 |_,_,_,_,.nil,s=>s
 |_,_,_,_,.cons h r,s=>.cons h (RWs.append r s)
theorem RWs.set {w:Wv} {v:V} (h:RW F β w v):∀{ws:List Wv} {vs:List V} (i:Nat),RWs F β ws vs->RWs F β (ws.set i w) (vs.set i v)
 |_,_,_,.nil=>.nil
 |_,_,0,.cons _ r=>.cons h r
 |_,_,i+1,.cons q r=>.cons q (RWs.set h i r)
theorem RWs.take:∀{ws:List Wv} {vs:List V} (n:Nat),RWs F β ws vs->RWs F β (ws.take n) (vs.take n)
 |_,_,0,_=>.nil
 |_,_,_+1,.nil=>.nil
 |_,_,n+1,.cons h r=>.cons h (RWs.take n r)
theorem RWs.drop:∀{ws:List Wv} {vs:List V} (n:Nat),RWs F β ws vs->RWs F β (ws.drop n) (vs.drop n)
 |_,_,0,r=>r
 |_,_,_+1,.nil=>.nil
 |_,_,n+1,.cons _ r=>RWs.drop n r
theorem RWs.rep {ws:List Wv} {vs:List V} (h:RWs F β ws vs):∀k:Nat,RWs F β (List.replicate k ws).flatten (List.replicate k vs).flatten
 |0=>.nil
 |k+1=>by rw[List.replicate_succ,List.replicate_succ,List.flatten_cons,List.flatten_cons]; exact h.append (RWs.rep h k)
end
inductive RK (F:Hp) (β:List Addr) {κ:Type}:List (κ × Wv)->List (κ × V)->Prop
 |nil:RK F β [] []
 |cons {k:κ} {w:Wv} {v:V} {ps:List (κ × Wv)} {qs:List (κ × V)} (h:RW F β w v) (r:RK F β ps qs):RK F β ((k,w)::ps) ((k,v)::qs)
theorem RK.mono {F F':Hp} {β β':List Addr} {κ:Type} (g:Gr F F' β β'):∀{ps:List (κ × Wv)} {qs:List (κ × V)},RK F β ps qs->RK F' β' ps qs
 |_,_,.nil=>.nil
 |_,_,.cons h r=>.cons (h.mono g) (RK.mono g r)
def ObR (F H:Hp) (β:List Addr) (a:Addr):Ob->Prop
 |.ins C fs=>∃dx fs',H a=some (.ins C dx fs')∧RK F β fs fs'
 |.lst ws=>∃xs,H a=some (.lst xs)∧RWs F β ws xs
 |.dk kvs=>∃ks,H a=some (.dK ks)∧RK F β kvs ks
 |.dt kvs=>∃ks,H a=some (.dT ks)∧RK F β kvs ks
 |.exc C=>H a=some (excO a C)
 |.dz kvs=>∃o ks,H a=some (.frz o (.dK ks))∧RK F β kvs ks
theorem ObR.mono {F F' H H':Hp} {β β':List Addr} {a:Addr} (g:Gr F F' β β') (e:H' a=H a):∀{ob:Ob},ObR F H β a ob->ObR F' H' β' a ob
 |.ins C fs,⟨dx,fs',h,r⟩=>⟨dx,fs',e.trans h,r.mono g⟩
 |.lst ws,⟨xs,h,r⟩=>⟨xs,e.trans h,r.mono g⟩
 |.dk kvs,⟨ks,h,r⟩=>⟨ks,e.trans h,r.mono g⟩
 |.dt kvs,⟨ks,h,r⟩=>⟨ks,e.trans h,r.mono g⟩
 |.exc C,h=>e.trans h
 |.dz kvs,⟨o,ks,h,r⟩=>⟨o,ks,e.trans h,r.mono g⟩
theorem ObR.ex {F H:Hp} {β:List Addr} {a:Addr}:∀{ob:Ob},ObR F H β a ob->∃x,H a=some x
 |.ins C fs,⟨dx,fs',h,r⟩=>⟨_,h⟩
 |.lst ws,⟨xs,h,r⟩=>⟨_,h⟩
 |.dk kvs,⟨ks,h,r⟩=>⟨_,h⟩
 |.dt kvs,⟨ks,h,r⟩=>⟨_,h⟩
 |.exc C,h=>⟨_,h⟩
 |.dz kvs,⟨o,ks,h,r⟩=>⟨_,h⟩
theorem ndx {α:Type} {l:List α} (hN:l.Nodup) {i j:Nat} {x:α} (a:l[i]?=some x) (b:l[j]?=some x):i=j:=by
 obtain ⟨ha,ea⟩:=List.getElem?_eq_some_iff.mp a
 obtain ⟨hb,eb⟩:=List.getElem?_eq_some_iff.mp b
 have hp:=List.pairwise_iff_getElem.mp hN
 rcases Nat.lt_trichotomy i j with h|h|h
 ·exact absurd (ea.trans eb.symm) (hp i j ha hb h)
 ·exact h
 ·exact absurd (eb.trans ea.symm) (hp j i hb ha h)
structure MOk (F H:Hp) (β:List Addr) (om:List Ob):Prop where
 sub:Same F H
 nd:β.Nodup
 len:β.length=om.length
 free:∀(h:Nat) (a:Addr),β[h]?=some a->F a=none
 ob:∀(h:Nat) (a:Addr) (x:Ob),β[h]?=some a->om[h]?=some x->ObR F H β a x
section
variable {F H:Hp} {β:List Addr} {om:List Ob}
theorem MOk.at (M:MOk F H β om) {h:Nat} {x:Ob} (e:om[h]?=some x):∃a,β[h]?=some a∧F a=none∧ObR F H β a x:=by
 have hl:h < β.length:=by rw[M.len]; exact (List.getElem?_eq_some_iff.mp e).1
 have e1:β[h]?=some β[h]:=List.getElem?_eq_getElem hl
 exact ⟨_,e1,M.free h _ e1,M.ob h _ x e1 e⟩
theorem MOk.there (M:MOk F H β om) {h:Nat} {a:Addr} (e:β[h]?=some a):∃x,H a=some x:=by
 have hl:h < om.length:=by rw[← M.len]; exact (List.getElem?_eq_some_iff.mp e).1
 exact (M.ob h a _ e (List.getElem?_eq_getElem hl)).ex
theorem MOk.newF {p:Addr} {o:HO} (M:MOk F H β om) (hp:H p=none):Gr F (upd F p o) β β∧MOk (upd F p o) (upd H p o) β om:=by
 have fp:F p=none:=M.sub.free hp
 have g:Gr F (upd F p o) β β:=⟨fun b u e=>by rw[Zz (Z5 e fp)]; exact e,fun _ _ e=>e⟩
 have ne:∀(h:Nat) (a:Addr),β[h]?=some a->a≠p:=fun h a e z=>by
  obtain ⟨x,hx⟩:=M.there e
  rw[z,hp]at hx; cases hx
 refine ⟨g,fun b u e=>?_,M.nd,M.len,fun h a e=>by rw[Zz (ne h a e)]; exact M.free h a e,fun h a x e1 e2=>(M.ob h a x e1 e2).mono g (Zz (ne h a e1))⟩
 by_cases hb:b=p
 ·subst hb; rw[ZH]at e ⊢; exact e
 ·rw[Zz hb]at e ⊢; exact M.sub b u e
theorem MOk.newO {p:Addr} {o:HO} {x:Ob} (M:MOk F H β om) (hp:H p=none) (hx:∀β',Gr F F β β'->ObR F (upd H p o) β' p x):Gr F F β (β++[p])∧MOk F (upd H p o) (β++[p]) (om++[x])∧(β++[p])[om.length]?=some p:=by
 have fp:F p=none:=M.sub.free hp
 have ne:∀(h:Nat) (a:Addr),β[h]?=some a->a≠p:=fun h a e z=>by
  obtain ⟨y,hy⟩:=M.there e
  rw[z,hp]at hy; cases hy
 have g:Gr F F β (β++[p]):=⟨Same.refl _,fun h a e=>by rw[List.getElem?_append_left (List.getElem?_eq_some_iff.mp e).1]; exact e⟩
 have last:(β++[p])[om.length]?=some p:=by rw[← M.len,List.getElem?_append_right (Nat.le_refl _),Nat.sub_self]; rfl
 have cs:∀(h:Nat) (a:Addr),(β++[p])[h]?=some a->β[h]?=some a∨(h=om.length∧a=p):=fun h a e=>by
  by_cases hl:h < β.length
  ·rw[List.getElem?_append_left hl]at e; exact .inl e
  ·rw[List.getElem?_append_right (by omega)]at e
   have:h - β.length=0:=by
    have:=(List.getElem?_eq_some_iff.mp e).1
    simp at this; omega
   rw[this]at e
   refine .inr ⟨by rw[← M.len]; omega,by simpa using e.symm⟩
 refine ⟨g,⟨fun b u e=>by rw[Zz (Z5 e fp)]; exact M.sub b u e,?_,by simp[M.len],fun h a e=>?_,fun h a y e1 e2=>?_⟩,last⟩
 ·rw[List.nodup_append]
  refine ⟨M.nd,by simp,fun a ha b hb z=>?_⟩
  obtain ⟨i,hi⟩:=List.getElem?_of_mem ha
  exact ne i a hi (z.trans (List.mem_singleton.mp hb))
 ·rcases cs h a e with e|⟨_,rfl⟩
  ·exact M.free h a e
  ·exact fp
 ·rcases cs h a e1 with e|⟨rfl,rfl⟩
  ·have hl:h < om.length:=by rw[← M.len]; exact (List.getElem?_eq_some_iff.mp e).1
   rw[List.getElem?_append_left hl]at e2
   exact (M.ob h a y e e2).mono g (Zz (ne h a e))
  ·rw[List.getElem?_append_right (Nat.le_refl _),Nat.sub_self]at e2
   cases e2
   exact hx _ g
theorem MOk.put {h:Nat} {a:Addr} {o:HO} {x:Ob} (M:MOk F H β om) (e:β[h]?=some a) (hx:ObR F (upd H a o) β a x):MOk F (upd H a o) β (om.set h x):=by
 have fa:=M.free h a e
 refine ⟨fun b u eb=>by rw[Zz (Z5 eb fa)]; exact M.sub b u eb,M.nd,by simp[M.len],M.free,fun j b y e1 e2=>?_⟩
 by_cases hj:j=h
 ·subst hj
  rw[e]at e1; cases e1
  have hl:j < om.length:=by rw[← M.len]; exact (List.getElem?_eq_some_iff.mp e).1
  rw[List.getElem?_set_self hl]at e2
  cases e2
  exact hx
 ·rw[List.getElem?_set_ne (Ne.symm hj)]at e2
  have nb:b≠a:=fun z=>by
   subst z
   exact hj (ndx M.nd e1 e)
  exact (M.ob j b y e1 e2).mono (Gr.refl _ _) (Zz nb)
end
structure Gx (F F' H H':Hp) (β β':List Addr):Prop extends Gr F F' β β' where
 keep:∀b o,H b=some o->b ∉ β->H' b=some o
 there:∀b,H' b=none->H b=none
 new:∀b,b∈β'->b∈β∨H b=none
 fnew:∀b o,F' b=some o->F b=some o∨H b=none
 frz:∀b o u,H b=some (.frz o u)->H' b=some (.frz o u)
theorem Gx.refl (F H:Hp) (β:List Addr):Gx F F H H β β:=⟨Gr.refl _ _,fun _ _ e _=>e,fun _ e=>e,fun _ e=>.inl e,fun _ _ e=>.inl e,fun _ _ _ e=>e⟩
theorem Gx.trans {F F1 F2 H H1 H2:Hp} {β β1 β2:List Addr} (a:Gx F F1 H H1 β β1) (b:Gx F1 F2 H1 H2 β1 β2):Gx F F2 H H2 β β2:=by
 have n1:∀c o,H c=some o->c ∉ β->c ∉ β1:=fun c o e h h1=>(a.new c h1).elim h fun z=>by rw[e]at z; cases z
 refine ⟨a.toGr.trans b.toGr,fun c o e h=>b.keep c o (a.keep c o e h) (n1 c o e h),fun c e=>a.there c (b.there c e),fun c h=>?_,fun c o e=>?_,fun c o u e=>b.frz c o u (a.frz c o u e)⟩
 ·rcases b.new c h with h|h
  ·exact a.new c h
  ·exact .inr (a.there c h)
 ·rcases b.fnew c o e with h|h
  ·exact a.fnew c o h
  ·exact .inr (a.there c h)
section
variable {F H:Hp} {β:List Addr} {om:List Ob} {p:Addr} {o:HO}
theorem MOk.gxF (M:MOk F H β om) (hp:H p=none):Gx F (upd F p o) H (upd H p o) β β :=
 ⟨(M.newF (o:=o) hp).1,fun b u e _=>by rw[Zz (Z5 e hp)]; exact e,fun b e=>by
  by_cases hb:b=p
  ·rw[hb]; exact hp
  ·rw[Zz hb]at e; exact e,fun _ e=>.inl e,fun b u e=>by
  by_cases hb:b=p
  ·rw[hb]; exact .inr hp
  ·rw[Zz hb]at e; exact .inl e,fun b u w e=>by rw[Zz (Z5 e hp)]; exact e⟩
theorem MOk.gxU (M:MOk F H β om) (hp:H p=none):Gx F F H (upd H p o) β β :=
 ⟨Gr.refl _ _,fun b u e _=>by rw[Zz (Z5 e hp)]; exact e,fun b e=>by
  by_cases hb:b=p
  ·rw[hb]; exact hp
  ·rw[Zz hb]at e; exact e,fun _ e=>.inl e,fun b u e=>.inl e,fun b u w e=>by rw[Zz (Z5 e hp)]; exact e⟩
theorem MOk.gxO (M:MOk F H β om) (hp:H p=none) (g:Gr F F β (β++[p])):Gx F F H (upd H p o) β (β++[p]) :=
 ⟨g,(M.gxU (o:=o) hp).keep,(M.gxU (o:=o) hp).there,fun b e=>by
  rcases List.mem_append.mp e with e|e
  ·exact .inl e
  ·rw[List.mem_singleton.mp e]; exact .inr hp,fun b u e=>.inl e,(M.gxU (o:=o) hp).frz⟩
theorem nz {H:Hp} {a:Addr} {x:HO} (h:H a=some x) (hx:∀o u,x≠.frz o u:=by intro _ _ z; cases z):∀o u,H a≠some (.frz o u):=fun o u z=>hx o u (Option.some.inj (h.symm.trans z))
theorem MOk.gxP (M:MOk F H β om) {h:Nat} {a:Addr} (e:β[h]?=some a) (hz:∀u w,H a≠some (.frz u w)):Gx F F H (upd H a o) β β :=
 ⟨Gr.refl _ _,fun b u eb hb=>by
  have hba:b≠a:=fun z=>hb (by rw[z]; exact List.mem_of_getElem? e)
  rw[Zz hba]; exact eb,fun b eb=>by
  by_cases hb:b=a
  ·rw[hb,ZH]at eb; cases eb
  ·rw[Zz hb]at eb; exact eb,fun _ e=>.inl e,fun b u e=>.inl e,fun b u w eb=>by
  have hba:b≠a:=fun z=>hz u w (z ▸ eb)
  rw[Zz hba]; exact eb⟩
theorem MOk.newFx (M:MOk F H β om) (hp:H p=none):Gx F (upd F p o) H (upd H p o) β β∧MOk (upd F p o) (upd H p o) β om:=⟨M.gxF hp,(M.newF hp).2⟩
theorem MOk.newOx {x:Ob} (M:MOk F H β om) (hp:H p=none) (hx:∀β',Gr F F β β'->ObR F (upd H p o) β' p x):Gx F F H (upd H p o) β (β++[p])∧MOk F (upd H p o) (β++[p]) (om++[x])∧(β++[p])[om.length]?=some p :=
 let ⟨g,m,e⟩:=M.newO hp hx; ⟨M.gxO hp g,m,e⟩
end
abbrev Mw (α:Type):=List Ob->Option (Except Addr α × List Ob)
def ret {α:Type} (a:α):Mw α:=fun om=>some (.ok a,om)
def bnd {α γ:Type} (m:Mw α) (k:α->Mw γ):Mw γ:=fun om=>match m om with
 |none=>none
 |some (.ok a,om')=>k a om'
 |some (.error c,om')=>some (.error c,om')
def Xn {α:Type}:Mw α:=fun _=>none
def On {α:Type} (c:Addr):Mw α:=fun om=>some (.error c,om)
def ZL {α:Type} (m:Mw α):Mw α:=fun om=>match m om with
 |some (.ok a,om')=>some (.ok a,om')
 |_=>none
def Res (E:XK) {α:Type} (r:Option (Except Addr α × List Ob)) (F H:Hp) (β:List Addr) (P:α->Hp->Hp->List Addr->Prop):Prop:=match r with
 |none=>False
 |some (.ok x,om')=>∀F' H' β',Gx F F' H H' β β'->MOk F' H' β' om'->P x F' H' β'
 |some (.error c,om')=>∀F' H' β',Gx F F' H H' β β'->MOk F' H' β' om'->E (.ref c) none H'
section
variable {E:XK} {α γ:Type} {F F1 H H1:Hp} {β β1:List Addr} {om:List Ob} {P:γ->Hp->Hp->List Addr->Prop} {P':α->Hp->Hp->List Addr->Prop}
theorem Res.mono {r:Option (Except Addr γ × List Ob)} (g:Gx F F1 H H1 β β1) (R:Res E r F H β P):Res E r F1 H1 β1 P:=by
 match r,R with
 |some (.ok x,om'),R=>exact fun F' H' β' g' M=>R F' H' β' (g.trans g') M
 |some (.error c,om'),R=>exact fun F' H' β' g' M=>R F' H' β' (g.trans g') M
theorem Res.bind {m:Mw α} {k:α->Mw γ} (R:Res E (bnd m k om) F H β P) (h:∀x om1 F1 H1 β1,Gx F F1 H H1 β β1->MOk F1 H1 β1 om1->Res E (k x om1) F1 H1 β1 P->P' x F1 H1 β1):Res E (m om) F H β P':=by
 unfold bnd at R
 match hm:m om,R with
 |some (.ok x,om'),R=>exact fun F' H' β' g M=>h x om' F' H' β' g M (Res.mono g R)
 |some (.error c,om'),R=>exact R
theorem Res.imp {r:Option (Except Addr γ × List Ob)} {P2:γ->Hp->Hp->List Addr->Prop} (R:Res E r F H β P) (h:∀x F' H' β',Gx F F' H H' β β'->P x F' H' β'->P2 x F' H' β'):Res E r F H β P2:=by
 match r,R with
 |some (.ok x,om'),R=>exact fun F' H' β' g' M=>h x F' H' β' g' (R F' H' β' g' M)
 |some (.error c,om'),R=>exact R
end
structure EnvOk (F:Hp) (β:List Addr) (σ:St) (sl:List (Option Wv)):Prop where
 len:sl.length=σ.length
 get:∀(i:Nat) (w:Wv),sl[i]?=some (some w)->∃v,σ[i]?=some (some v)∧RW F β w v
theorem EnvOk.mono {F F':Hp} {β β':List Addr} {σ:St} {sl:List (Option Wv)} (V:EnvOk F β σ sl) (g:Gr F F' β β'):EnvOk F' β' σ sl :=
 ⟨V.len,fun i w e=>let ⟨v,h,r⟩:=V.get i w e; ⟨v,h,r.mono g⟩⟩
theorem EnvOk.set {F:Hp} {β:List Addr} {σ:St} {sl:List (Option Wv)} {w:Wv} {v:V} (V:EnvOk F β σ sl) (i:Nat) (r:RW F β w v):EnvOk F β (σ.set i (some v)) (sl.set i (some w)):=by
 refine ⟨by simp[V.len],fun j u e=>?_⟩
 by_cases hj:j=i
 ·subst hj
  by_cases hl:j < sl.length
  ·rw[List.getElem?_set_self hl]at e
   cases e
   exact ⟨v,by rw[List.getElem?_set_self (by rw[← V.len]; exact hl)],r⟩
  ·rw[List.getElem?_eq_none (by simp; omega)]at e; cases e
 ·rw[List.getElem?_set_ne (Ne.symm hj)]at e ⊢
  exact V.get j u e
abbrev Sl:=List (Option Wv)
abbrev FE:=Sl->Mw Wv
abbrev FT:=Sl->Mw Bool
abbrev FA:=Sl->Mw (List Wv)
inductive Fl where
 |nx|bk|ct|rt (w:Wv)
abbrev FS:=Sl->Mw (Fl × Sl)
def tE (E:XK) (f:FE):TE:=fun σ H Q=>∃F β om sl,MOk F H β om∧EnvOk F β σ sl∧Res E (f sl om) F H β fun w F' H' β'=>∀v,RW F' β' w v->Q v H'
def tT (E:XK) (f:FT):TT:=fun σ H Q=>∃F β om sl,MOk F H β om∧EnvOk F β σ sl∧Res E (f sl om) F H β fun b F' H' β'=>Q b H'
def tA (E:XK) (f:FA):TA:=fun σ H Q=>∃F β om sl,MOk F H β om∧EnvOk F β σ sl∧Res E (f sl om) F H β fun ws F' H' β'=>∀vs,RWs F' β' ws vs->Q vs H'
def FlP (D:Ends) (x:Fl × Sl) (F' H':Hp) (β':List Addr):Prop:=match x.1 with
 |.nx=>∀σ',EnvOk F' β' σ' x.2->D.nx σ' H'
 |.bk=>∀σ',EnvOk F' β' σ' x.2->D.bk σ' H'
 |.ct=>∀σ',EnvOk F' β' σ' x.2->D.ct σ' H'
 |.rt w=>∀v,RW F' β' w v->D.rt v H'
def tS (E:XK) (f:FS):TS:=fun D σ H=>∃F β om sl,MOk F H β om∧EnvOk F β σ sl∧Res E (f sl om) F H β (FlP D)
open PySem PySem.Spec PyProof.Rows
def PV (Q:VK):Wv->Hp->Hp->List Addr->Prop:=fun w F' H' β'=>∀v,RW F' β' w v->Q v H'
theorem Res.now {E:XK} {α:Type} {x:α} {F H:Hp} {β:List Addr} {om:List Ob} {P:α->Hp->Hp->List Addr->Prop} (R:Res E (ret x om) F H β P) (M:MOk F H β om):P x F H β:=R F H β (Gx.refl _ _ _) M
theorem PE.weak {X:Cx} {e:Expr} {t t':TE} (h:PE X e t) (w:∀σ H Q,t' σ H Q->t σ H Q):PE X e t':=fun pins s σ H Q I q=>h pins s σ H Q I (w σ H Q q)
theorem PT.weak {X:Cx} {e:Expr} {t t':TT} (h:PT X e t) (w:∀σ H Q,t' σ H Q->t σ H Q):PT X e t':=fun pins s σ H Q I q=>h pins s σ H Q I (w σ H Q q)
theorem PW.weak {X:Cx} {e:Expr} {t t':TT} (h:PW X e t) (w:∀σ H Q,t' σ H Q->t σ H Q):PW X e t':=fun wh pins s σ H Q I q=>h wh pins s σ H Q I (w σ H Q q)
theorem PA.weak {X:Cx} {es:List Expr} {t t':TA} (h:PA X es t) (w:∀σ H Q,t' σ H Q->t σ H Q):PA X es t':=fun pos pins s σ H Q I q=>h pos pins s σ H Q I (w σ H Q q)
theorem PS.weak {X:Cx} {e:Stmt} {t t':TS} (h:PS X e t) (w:∀D σ H,t' D σ H->t D σ H):PS X e t':=fun pins s σ H Q I q=>h pins s σ H Q I (w Q σ H q)
theorem PSs.weak {X:Cx} {e:List Stmt} {t t':TS} (h:PSs X e t) (w:∀D σ H,t' D σ H->t D σ H):PSs X e t':=fun pins s σ H Q I q=>h pins s σ H Q I (w Q σ H q)
def Za (i:Nat):FE:=fun sl=>match sl[i]? with
 |some (some w)=>ret w
 |_=>Xn
def fC (w:Wv):FE:=fun _=>ret w
section
variable {X:Cx} {E:XK} {e a b:Expr} {es:List Expr} {fa fb:FE} {pos:Pos}
theorem JQ {i:Nat} (h:PE X e (B9 i)):PE X e (tE E (Za i)):=h.weak fun σ H Q ⟨F,β,om,sl,M,V,R⟩=>by
 unfold Za at R
 match hw:sl[i]?,R with
 |some (some w),R =>
  obtain ⟨v,e1,r⟩:=V.get i w hw
  exact ⟨v,e1,R.now M v r⟩
 |some none,R=>exact R.elim
 |none,R=>exact R.elim
theorem JN {v:V} {w:Wv} (h:PE X e (tC v)) (r:∀F β,RW F β w v):PE X e (tE E (fC w)):=h.weak fun σ H Q ⟨F,β,om,sl,M,V,R⟩=>R.now M v (r F β)
theorem Zn {i j pos}:PE X (.Constant (.int i) j pos) (tE E (fC (.int i))):=JN CY fun _ _=>.int i
theorem XU {i j pos}:PE X (.Constant (.bool i) j pos) (tE E (fC (.bl i))):=JN AM fun _ _=>.bl i
theorem ND {j pos}:PE X (.Constant .none j pos) (tE E (fC .non)):=JN BC fun _ _=>.non
theorem YM {i j pos}:PE X (.Constant (.str i) j pos) (tE E (fC (.str i))):=JN Hz fun _ _=>.str i
theorem Zf (i:Nat) {x:Str} {pos:Pos} (hN:X.N[i]?=some x:=by rfl) (hv:Vis X.env.scope x:=by first|exact Or.inl rfl|exact Or.inr (Or.inl rfl)|exact Or.inr (Or.inr rfl)) (hd:(x == ("__debug__":Str))=false:=by decide) (hcd:(x == ("__classdict__":Str))=false:=by decide) :
    PE X (.Name x pos) (tE E (Za i)):=JQ (Bg hN hv hd hcd)
def f1 (k:Wv->Mw Wv) (fa:FE):FE:=fun sl=>bnd (fa sl) k
def f2 (k:Wv->Wv->Mw Wv) (fa fb:FE):FE:=fun sl=>bnd (fa sl) fun x=>bnd (fb sl) fun y=>k x y
def Op2 (E:XK) (r:R2) (k:Wv->Wv->Mw Wv):Prop:=∀{F H:Hp} {β:List Addr} {om:List Ob} {x y:Wv} {v u:V} {Q:VK},MOk F H β om->RW F β x v->RW F β y u->Res E (k x y om) F H β (PV Q)->r v u H Q
def Op1 (E:XK) (r:V->Hp->VK->Prop) (k:Wv->Mw Wv):Prop:=∀{F H:Hp} {β:List Addr} {om:List Ob} {x:Wv} {v:V} {Q:VK},MOk F H β om->RW F β x v->Res E (k x om) F H β (PV Q)->r v H Q
theorem La {r:R2} {k:Wv->Wv->Mw Wv} (hk:Op2 E r k) {σ:St} {H:Hp} {Q:VK} (h:tE E (f2 k fa fb) σ H Q):tOp r (tE E fa) (tE E fb) σ H Q:=by
 obtain ⟨F,β,om,sl,M,V,R⟩:=h
 refine ⟨F,β,om,sl,M,V,R.bind fun x om1 F1 H1 β1 g1 M1 R1 v rv=>?_⟩
 refine ⟨F1,β1,om1,sl,M1,V.mono g1.toGr,R1.bind fun y om2 F2 H2 β2 g2 M2 R2 u ru=>?_⟩
 exact hk M2 (rv.mono g2.toGr) ru R2
theorem MQ {r:V->Hp->VK->Prop} {k:Wv->Mw Wv} (hk:Op1 E r k) {σ:St} {H:Hp} {Q:VK} (h:tE E (f1 k fa) σ H Q):tE E fa σ H fun x H1=>r x H1 Q:=by
 obtain ⟨F,β,om,sl,M,V,R⟩:=h
 exact ⟨F,β,om,sl,M,V,R.bind fun x om1 F1 H1 β1 g1 M1 R1 v rv=>hk M1 rv R1⟩
theorem KB {op:Operator} {r:R2} {k:Wv->Wv->Mw Wv} (ho:OpR X (binaryOp op) r) (hk:Op2 E r k) (ha:PE X a (tE E fa)) (hb:PE X b (tE E fb)):PE X (.BinOp a op b pos) (tE E (f2 k fa fb)):=(Dq ho ha hb).weak fun _ _ _ h=>La hk h
theorem Ah {op:UnaryOp} {r:V->Hp->VK->Prop} {k:Wv->Mw Wv} (ho:UnR X (unaryOp op) r) (hk:Op1 E r k) (ha:PE X a (tE E fa)):PE X (.UnaryOp op a pos) (tE E (f1 k fa)):=(pe_un ho ha).weak fun _ _ _ h=>MQ hk h
theorem OR {op:CmpOp} {r:R2} {k:Wv->Wv->Mw Wv} (ho:OpR X (compareOp op) r) (hk:Op2 E r k) (ha:PE X a (tE E fa)) (hb:PE X b (tE E fb)) (hm:behindInMarks op b=false):PE X (.Compare a [op] [b] pos) (tE E (f2 k fa fb)):=(FJ ho ha hb hm).weak fun _ _ _ h=>La hk h
def kI (g:Int->Int->Wv):Wv->Wv->Mw Wv
 |.int i,.int j=>ret (g i j)
 |_,_=>Xn
def kIc (c:Int->Int->Bool) (g:Int->Int->Wv):Wv->Wv->Mw Wv
 |.int i,.int j=>if c i j=true then ret (g i j) else Xn
 |_,_=>Xn
theorem Vc {g:Int->Int->V} {g':Int->Int->Wv} (hg:∀F β i j,RW F β (g' i j) (g i j)):Op2 E (rI0 g) (kI g'):=by
 intro F H β om x y v u Q M rx ry R
 cases rx <;> first|exact R.elim|skip
 cases ry <;> first|exact R.elim|skip
 exact ⟨_,_,rfl,rfl,R.now M _ (hg ..)⟩
theorem HW {C:Int->Int->Prop} {c:Int->Int->Bool} {g:Int->Int->V} {g':Int->Int->Wv} (hc:∀i j,c i j=true->C i j) (hg:∀F β i j,RW F β (g' i j) (g i j)):Op2 E (rI C g) (kIc c g'):=by
 intro F H β om x y v u Q M rx ry R
 cases rx <;> first|exact R.elim|skip
 cases ry <;> first|exact R.elim|skip
 rename_i i j
 have R:Res E ((if c i j=true then ret (g' i j) else Xn) om) F H β (PV Q):=R
 by_cases h:c i j=true
 ·rw[if_pos h]at R
  exact ⟨_,_,rfl,rfl,hc _ _ h,R.now M _ (hg ..)⟩
 ·rw[if_neg h]at R
  exact R.elim
abbrev Xy:=kI fun i j=>.int (i+j)
abbrev IB:=kI fun i j=>.int (i - j)
abbrev T7:=kIc (fun _ j=>decide (0 < j∧j < 1073741824)) fun i j=>.int (i / j)
abbrev XR:=kIc (fun _ j=>decide (0 < j)) fun i j=>.int (i % j)
abbrev kLt:=kI fun i j=>.bl (decide (i < j))
abbrev kLe:=kI fun i j=>.bl (decide (i<=j))
abbrev kGt:=kI fun i j=>.bl (decide (j < i))
abbrev kGe:=kI fun i j=>.bl (decide (j<=i))
theorem YS (ha:PE X a (tE E fa)) (hb:PE X b (tE E fb)):PE X (.BinOp a .Add b pos) (tE E (f2 Xy fa fb)):=KB BP (Vc fun _ _ _ _=>.int _) ha hb
theorem LA (ha:PE X a (tE E fa)) (hb:PE X b (tE E fb)):PE X (.BinOp a .Sub b pos) (tE E (f2 IB fa fb)):=KB Cf (Vc fun _ _ _ _=>.int _) ha hb
theorem V6 (ha:PE X a (tE E fa)) (hb:PE X b (tE E fb)):PE X (.BinOp a .FloorDiv b pos) (tE E (f2 T7 fa fb)):=KB FV (HW (fun i j h=>of_decide_eq_true h) fun _ _ _ _=>.int _) ha hb
theorem XI (ha:PE X a (tE E fa)) (hb:PE X b (tE E fb)):PE X (.BinOp a .Mod b pos) (tE E (f2 XR fa fb)):=KB Br (HW (fun i j h=>of_decide_eq_true h) fun _ _ _ _=>.int _) ha hb
theorem A8 (ha:PE X a (tE E fa)) (hb:PE X b (tE E fb)):PE X (.Compare a [.Gt] [b] pos) (tE E (f2 kGt fa fb)):=OR D4 (Vc fun _ _ _ _=>.bl _) ha hb (W5 _)
theorem B8 (ha:PE X a (tE E fa)) (hb:PE X b (tE E fb)):PE X (.Compare a [.GtE] [b] pos) (tE E (f2 kGe fa fb)):=OR DY (Vc fun _ _ _ _=>.bl _) ha hb (W5 _)
def Kh:Wv->Mw Wv
 |.int i=>ret (.int (-i))
 |_=>Xn
theorem NG (ha:PE X a (tE E fa)):PE X (.UnaryOp .USub a pos) (tE E (f1 Kh fa)):=Ah BL (by
 intro F H β om x v Q M rx R
 cases rx <;> first|exact R.elim|skip
 exact ⟨_,rfl,R.now M _ (.int _)⟩) ha
end
mutual
def XS (om:List Ob):Wv->Option PyData
 |.non=>some .none
 |.bl b=>some (.bool b)
 |.int i=>some (.int i)
 |.str x=>some (.str x)
 |.lst ws=>(pysOf om ws).map .list
 |.tup ws=>(pysOf om ws).map .tuple
 |.o _=>none
 |.g _=>none
def pysOf (om:List Ob):List Wv->Option (List PyData)
 |[]=>some []
 |w::r=>match XS om w,pysOf om r with
  |some d,some ds=>some (d::ds)
  |_,_=>none
end
def YQ (om:List Ob):Wv->Option PyData
 |.o h=>match om[h]? with
  |some (.lst ws)=>(pysOf om ws).map .list
  |_=>none
 |w=>XS om w
section
variable {X:Cx} {pins:List (Addr × Obj)} {σ:St} {F H:Hp} {s:Shared} {β:List Addr} {om:List Ob}
mutual
theorem RW.reads (I:Inv X pins σ H s) (sub:Same F H):∀{w:Wv} {v:V} {d:PyData} {u:Value},RW F β w v->XS om w=some d->RelV v u->∃as,Reads s.heap u d as
 |_,_,_,_,.non,e,r=>by unfold XS at e; cases e; cases r; exact ⟨_,.none⟩
 |_,_,_,_,.bl b,e,r=>by unfold XS at e; cases e; cases r; exact ⟨_,.bool b⟩
 |_,_,_,_,.int i,e,r=>by unfold XS at e; cases e; obtain ⟨t,rfl⟩:=r; exact ⟨_,.int i t⟩
 |_,_,_,_,.str x,e,r=>by unfold XS at e; cases e; obtain ⟨t,rfl⟩:=r; exact ⟨_,.str x t⟩
 |_,_,_,_,.lst (a:=a) (ws:=ws) q rs,e,r=>by
  unfold XS at e
  cases r
  match hp:pysOf om ws,e with
  |some ds,e =>
   cases e
   obtain ⟨_,its,n,rv,eo⟩:=(Rd.same sub q).ok I.hok
   obtain ⟨as,ra⟩:=RWs.reads I sub rs hp rv
   exact ⟨_,.list eo rfl rfl (by simpa using ra)⟩
 |_,_,_,_,.tup (a:=a) (ws:=ws) q rs,e,r=>by
  unfold XS at e
  cases r
  match hp:pysOf om ws,e with
  |some ds,e =>
   cases e
   obtain ⟨_,its,rv,o,eo,ec,n,ed⟩:=I.hok a _ (sub _ _ q)
   obtain ⟨as,ra⟩:=RWs.reads I sub rs hp rv
   exact ⟨_,.tuple eo ec ed (by simpa using ra)⟩
 |_,_,_,_,.o _,e,r=>by unfold XS at e; cases e
 |_,_,_,_,.g _,e,r=>by unfold XS at e; cases e
theorem RWs.reads (I:Inv X pins σ H s) (sub:Same F H):∀{ws:List Wv} {vs:List V} {ds:List PyData} {us:List Value},RWs F β ws vs->pysOf om ws=some ds->Vals vs us->∃as,ReadsAll s.heap us ds as
 |_,_,_,_,.nil,e,r=>by unfold pysOf at e; cases e; cases r; exact ⟨_,.nil⟩
 |_,_,_,_,.cons (w:=w) (ws:=ws) h q,e,r=>by
  unfold pysOf at e
  cases r with
  |cons r1 r2 =>
   match h1:XS om w,h2:pysOf om ws,e with
   |some d,some ds,e =>
    cases e
    obtain ⟨as,ra⟩:=RW.reads I sub h h1 r1
    obtain ⟨bs,rb⟩:=RWs.reads I sub q h2 r2
    exact ⟨_,.cons ra rb⟩
end
theorem RW.readsTop (I:Inv X pins σ H s) (M:MOk F H β om) {w:Wv} {v:V} {d:PyData} {u:Value} (rw':RW F β w v) (e:YQ om w=some d) (r:RelV v u):∃as,Reads s.heap u d as:=by
 match w,e with
 |.non,e=>exact rw'.reads (om:=om) I M.sub e r
 |.bl _,e=>exact rw'.reads (om:=om) I M.sub e r
 |.int _,e=>exact rw'.reads (om:=om) I M.sub e r
 |.str _,e=>exact rw'.reads (om:=om) I M.sub e r
 |.lst _,e=>exact rw'.reads (om:=om) I M.sub e r
 |.tup _,e=>exact rw'.reads (om:=om) I M.sub e r
 |.g _,e=>exact rw'.reads (om:=om) I M.sub e r
 |.o h,e =>
  unfold YQ at e
  dsimp only at e
  split at e
  ·rename_i ws hw
   cases rw' with
   |o eb =>
    obtain ⟨a,ea,_,xs,hx,rs⟩:=M.at hw
    rw[eb]at ea; cases ea
    cases r
    match hp:pysOf om ws,e with
    |some ds,e =>
     cases e
     obtain ⟨_,its,n,rv,eo⟩:=I.hok _ _ hx
     obtain ⟨as,ra⟩:=RWs.reads I M.sub rs hp rv
     exact ⟨_,.list eo rfl rfl (by simpa using ra)⟩
  ·cases e
end
def X0 (d:PyData):Bool:=d.canLay0&&decide (d.depth<=60)
def Xe (neg:Bool) (x y:Wv):Mw Wv:=fun om=>match YQ om x,YQ om y with
 |some d,some e=>if (X0 d&&X0 e)=true then some (.ok (.bl (if neg then !PyData.eqv d e else PyData.eqv d e)),om) else none
 |_,_=>none
abbrev kEq:=Xe false
abbrev kNe:=Xe true
def AN (E:XK) (neg:Bool):R2:=fun v u H Q=>∃F β om x y,MOk F H β om∧RW F β x v∧RW F β y u∧Res E (Xe neg x y om) F H β (PV Q)
section
variable {X:Cx} {E:XK} {a b:Expr} {fa fb:FE} {pos:Pos}
theorem Ht (hu:X.A.units+64 < cLine):OpR X (compareOp .Eq) (AN E false):=by
 intro pins s σ H v u v' u' Q I rv ru h
 obtain ⟨F,β,om,x,y,M,rx,ry,R⟩:=h
 unfold Xe at R
 match h1:YQ om x,h2:YQ om y,R with
 |some d,some e,R =>
  dsimp only at R
  by_cases hl:(X0 d&&X0 e)=true
  ·rw[if_pos hl]at R
   obtain ⟨l1,l2⟩:=Bool.and_eq_true_iff.mp hl
   obtain ⟨c1,d1⟩:=Bool.and_eq_true_iff.mp l1
   obtain ⟨c2,d2⟩:=Bool.and_eq_true_iff.mp l2
   obtain ⟨as,ra⟩:=rx.readsTop I M h1 rv
   obtain ⟨bs,rb⟩:=ry.readsTop I M h2 ru
   have:=of_decide_eq_true d1
   have:=of_decide_eq_true d2
   exact SeqAt.rcAt_reads ra rb c1 c2 (by omega) _ _ _ _ ⟨.bl _,H,I,rfl,R F H β (Gx.refl _ _ _) M _ (.bl _)⟩
  ·rw[if_neg hl]at R; exact R.elim
theorem GO (hu:X.A.units+64 < cLine):OpR X (compareOp .NotEq) (AN E true):=by
 intro pins s σ H v u v' u' Q I rv ru h
 obtain ⟨F,β,om,x,y,M,rx,ry,R⟩:=h
 unfold Xe at R
 match h1:YQ om x,h2:YQ om y,R with
 |some d,some e,R =>
  dsimp only at R
  by_cases hl:(X0 d&&X0 e)=true
  ·rw[if_pos hl]at R
   obtain ⟨l1,l2⟩:=Bool.and_eq_true_iff.mp hl
   obtain ⟨c1,d1⟩:=Bool.and_eq_true_iff.mp l1
   obtain ⟨c2,d2⟩:=Bool.and_eq_true_iff.mp l2
   obtain ⟨as,ra⟩:=rx.readsTop I M h1 rv
   obtain ⟨bs,rb⟩:=ry.readsTop I M h2 ru
   have:=of_decide_eq_true d1
   have:=of_decide_eq_true d2
   exact SeqAt.compareNe_reads ra rb c1 c2 (by omega) ⟨.bl _,H,I,rfl,R F H β (Gx.refl _ _ _) M _ (.bl _)⟩
  ·rw[if_neg hl]at R; exact R.elim
theorem TH (hu:X.A.units+64 < cLine) (ha:PE X a (tE E fa)) (hb:PE X b (tE E fb)):PE X (.Compare a [.Eq] [b] pos) (tE E (f2 kEq fa fb)):=OR (Ht (E:=E) hu) (fun M rx ry R=>⟨_,_,_,_,_,M,rx,ry,R⟩) ha hb (W5 _)
theorem Go (hu:X.A.units+64 < cLine) (ha:PE X a (tE E fa)) (hb:PE X b (tE E fb)):PE X (.Compare a [.NotEq] [b] pos) (tE E (f2 kNe fa fb)):=OR (GO (E:=E) hu) (fun M rx ry R=>⟨_,_,_,_,_,M,rx,ry,R⟩) ha hb (W5 _)
end
end L2
namespace L2
noncomputable section
open PySem PySem.Spec PyProof.Rows
def kB:Wv->Mw Bool
 |.bl b=>ret b
 |_=>Xn
def fB (f:FE):FT:=fun sl=>bnd (f sl) kB
def X1 (f g:FT):FT:=fun sl=>bnd (f sl) fun b=>if b=true then g sl else ret false
def fOr (f g:FT):FT:=fun sl=>bnd (f sl) fun b=>if b=true then ret true else g sl
def Ws (f:FT):FT:=fun sl=>bnd (f sl) fun b=>ret (!b)
def Wq (f g:FE):FE:=fun sl=>bnd (f sl) fun x=>bnd (kB x) fun b=>if b=true then g sl else ret (.bl false)
def EK (f g:FE):FE:=fun sl=>bnd (f sl) fun x=>bnd (kB x) fun b=>if b=true then ret (.bl true) else g sl
def GQ (c:FT) (f g:FE):FE:=fun sl=>bnd (c sl) fun b=>if b=true then f sl else g sl
def isNon:Wv->Bool
 |.non=>true
 |_=>false
def XT (x:Wv):Mw Wv:=ret (.bl (isNon x))
def Xv (x:Wv):Mw Wv:=ret (.bl (!isNon x))
def Qo (x:Wv):Mw Wv:=bnd (kB x) fun b=>ret (.bl (!b))
def VV (k k':Wv->Wv->Mw Wv) (fa fb fc:FE):FE:=fun sl=>bnd (fa sl) fun x=>bnd (fb sl) fun y=>bnd (k x y) fun z=>bnd (kB z) fun b=>if b=true then bnd (fc sl) fun w=>k' y w else ret (.bl false)
theorem RW.isNon {F:Hp} {β:List Addr} {w:Wv} {v:V} (r:RW F β w v):decide (v=.non)=L2.isNon w:=by
 cases r <;> first|rfl|(refine decide_eq_false ?_; intro z; cases z)
section
variable {X:Cx} {E:XK} {e a b c:Expr} {rest:List Expr} {f fa fb fc:FE} {g ga gb:FT} {pos:Pos}
theorem Res.kB {P:Bool->Hp->Hp->List Addr->Prop} {x:Wv} {v:V} {F H:Hp} {β:List Addr} {om:List Ob} (rv:RW F β x v) (M:MOk F H β om) (R:Res E (L2.kB x om) F H β P):∃b,x=.bl b∧v=.bl b∧P b F H β:=by
 cases rv <;> first|exact R.elim|skip
 exact ⟨_,rfl,rfl,R.now M⟩
theorem Hq {σ:St} {H:Hp} {Q:Bool->Hp->Prop} (h:tT E (fB f) σ H Q):tE E f σ H fun x H'=>∃c,x=.bl c∧Q c H':=by
 obtain ⟨F,β,om,sl,M,V,R⟩:=h
 refine ⟨F,β,om,sl,M,V,R.bind fun x om1 F1 H1 β1 g1 M1 R1 v rv=>?_⟩
 obtain ⟨b,rfl,rfl,q⟩:=R1.kB rv M1
 exact ⟨b,rfl,q⟩
theorem Ua {op:CmpOp} {r:R2} {k:Wv->Wv->Mw Wv} (ho:OpR X (compareOp op) r) (hk:Op2 E r k) (ha:PE X a (tE E fa)) (hb:PE X b (tE E fb)) (hm:behindInMarks op b=false):PT X (.Compare a [op] [b] pos) (tT E (fB (f2 k fa fb))) :=
 (EG ho ha hb hm).weak fun _ _ _ h=>La hk (Hq h)
theorem KF (ha:PE X a (tE E fa)) (hb:PE X b (tE E fb)):PT X (.Compare a [.Lt] [b] pos) (tT E (fB (f2 kLt fa fb))):=Ua Dx (Vc fun _ _ _ _=>.bl _) ha hb (W5 _)
theorem D6 (ha:PE X a (tE E fa)) (hb:PE X b (tE E fb)):PT X (.Compare a [.LtE] [b] pos) (tT E (fB (f2 kLe fa fb))):=Ua D3 (Vc fun _ _ _ _=>.bl _) ha hb (W5 _)
theorem Hu (ha:PE X a (tE E fa)) (hb:PE X b (tE E fb)):PT X (.Compare a [.Gt] [b] pos) (tT E (fB (f2 kGt fa fb))):=Ua D4 (Vc fun _ _ _ _=>.bl _) ha hb (W5 _)
theorem HL (ha:PE X a (tE E fa)) (hb:PE X b (tE E fb)):PT X (.Compare a [.GtE] [b] pos) (tT E (fB (f2 kGe fa fb))):=Ua DY (Vc fun _ _ _ _=>.bl _) ha hb (W5 _)
theorem YX (hu:X.A.units+64 < cLine) (ha:PE X a (tE E fa)) (hb:PE X b (tE E fb)):PT X (.Compare a [.Eq] [b] pos) (tT E (fB (f2 kEq fa fb))):=Ua (Ht (E:=E) hu) (fun M rx ry R=>⟨_,_,_,_,_,M,rx,ry,R⟩) ha hb (W5 _)
theorem WX (hu:X.A.units+64 < cLine) (ha:PE X a (tE E fa)) (hb:PE X b (tE E fb)):PT X (.Compare a [.NotEq] [b] pos) (tT E (fB (f2 kNe fa fb))):=Ua (GO (E:=E) hu) (fun M rx ry R=>⟨_,_,_,_,_,M,rx,ry,R⟩) ha hb (W5 _)
theorem Kw:Op1 E (fun x H1 Q=>Q (.bl (decide (x=.non))) H1) XT:=fun M rx R=>by show (_:VK) (.bl (decide _)) _; rw[rx.isNon]; exact R.now M _ (.bl _)
theorem Lp:Op1 E (fun x H1 Q=>Q (.bl (!decide (x=.non))) H1) Xv:=fun M rx R=>by show (_:VK) (.bl (!decide _)) _; rw[rx.isNon]; exact R.now M _ (.bl _)
theorem C0 {j pos'} (ha:PE X a (tE E fa)):PE X (.Compare a [.Is] [.Constant .none j pos'] pos) (tE E (f1 XT fa)):=(Kn (GS ha)).weak fun _ _ _ h=>MQ Kw h
theorem EJ {j pos'} (ha:PE X a (tE E fa)):PE X (.Compare a [.IsNot] [.Constant .none j pos'] pos) (tE E (f1 Xv fa)):=(Kn (KG ha)).weak fun _ _ _ h=>MQ Lp h
theorem VA {j pos'} (ha:PE X a (tE E fa)):PT X (.Compare a [.Is] [.Constant .none j pos'] pos) (tT E (fB (f1 XT fa))):=(Lz (GS ha)).weak fun _ _ _ h=>MQ Kw (Hq h)
theorem Tz {j pos'} (ha:PE X a (tE E fa)):PT X (.Compare a [.IsNot] [.Constant .none j pos'] pos) (tT E (fB (f1 Xv fa))):=(Lz (KG ha)).weak fun _ _ _ h=>MQ Lp (Hq h)
theorem CW {σ:St} {H:Hp} {Q:Bool->Hp->Prop} (h:tT E (X1 ga gb) σ H Q):AC (tT E ga) (tT E gb) σ H Q:=by
 obtain ⟨F,β,om,sl,M,V,R⟩:=h
 refine ⟨F,β,om,sl,M,V,R.bind fun x om1 F1 H1 β1 g1 M1 R1=>?_⟩
 cases x with
 |true=>rw[if_pos rfl]at R1 ⊢; exact ⟨F1,β1,om1,sl,M1,V.mono g1.toGr,R1⟩
 |false=>rw[if_neg Bool.false_ne_true]at R1 ⊢; exact R1.now M1
theorem tT_or {σ:St} {H:Hp} {Q:Bool->Hp->Prop} (h:tT E (fOr ga gb) σ H Q):tOr (tT E ga) (tT E gb) σ H Q:=by
 obtain ⟨F,β,om,sl,M,V,R⟩:=h
 refine ⟨F,β,om,sl,M,V,R.bind fun x om1 F1 H1 β1 g1 M1 R1=>?_⟩
 cases x with
 |true=>rw[if_pos rfl]at R1 ⊢; exact R1.now M1
 |false=>rw[if_neg Bool.false_ne_true]at R1 ⊢; exact ⟨F1,β1,om1,sl,M1,V.mono g1.toGr,R1⟩
theorem Wp (ha:PT X a (tT E ga)):PW X (.BoolOp .And [a] pos) (tT E ga):=Eb ha
theorem VL (ha:PT X a (tT E ga)):PW X (.BoolOp .Or [a] pos) (tT E ga):=CI ha
theorem XX (ha:PT X a (tT E ga)) (hb:PW X (.BoolOp .And (b::rest) pos) (tT E gb)):PW X (.BoolOp .And (a::b::rest) pos) (tT E (X1 ga gb)):=(By ha hb).weak fun _ _ _ h=>CW h
theorem V3 (ha:PT X a (tT E ga)) (hb:PW X (.BoolOp .Or (b::rest) pos) (tT E gb)):PW X (.BoolOp .Or (a::b::rest) pos) (tT E (fOr ga gb)):=(A5 ha hb).weak fun _ _ _ h=>tT_or h
theorem Vb (ha:PT X a (tT E ga)):PT X (.UnaryOp .Not a pos) (tT E (Ws ga)):=(Bv ha).weak fun σ H Q ⟨F,β,om,sl,M,V,R⟩=>⟨F,β,om,sl,M,V,R.bind fun x om1 F1 H1 β1 g1 M1 R1=>R1.now M1⟩
theorem R7 {op} (h:PE X a (tE E f)):PE X (.BoolOp op [a] pos) (tE E f):=Bm h
theorem Th (ha:PE X a (tE E fa)) (hb:PE X (.BoolOp .And (b::rest) pos) (tE E fb)):PE X (.BoolOp .And (a::b::rest) pos) (tE E (Wq fa fb)):=(Bf ha hb).weak fun σ H Q ⟨F,β,om,sl,M,V,R⟩=>by
 refine ⟨F,β,om,sl,M,V,R.bind fun x om1 F1 H1 β1 g1 M1 R1 v rv=>?_⟩
 have R2:Res E (L2.kB x om1) F1 H1 β1 fun y F' H' β'=>(if y=true then tE E fb σ H' Q else Q (.bl false) H'):=R1.bind fun y om2 F2 H2 β2 g2 M2 R2=>by
  cases y with
  |true=>rw[if_pos rfl]at R2 ⊢; exact ⟨F2,β2,om2,sl,M2,V.mono (g1.trans g2).toGr,R2⟩
  |false=>rw[if_neg Bool.false_ne_true]at R2 ⊢; exact R2.now M2 _ (.bl _)
 obtain ⟨c,rfl,rfl,q⟩:=R2.kB rv M1
 exact ⟨c,rfl,q⟩
theorem Fg (ha:PE X a (tE E fa)):PE X (.UnaryOp .Not a pos) (tE E (f1 Qo fa)):=(BA ha).weak fun σ H Q ⟨F,β,om,sl,M,V,R⟩=>by
 refine ⟨F,β,om,sl,M,V,R.bind fun x om1 F1 H1 β1 g1 M1 R1 v rv=>?_⟩
 have R2:Res E (L2.kB x om1) F1 H1 β1 fun y F' H' β'=>Q (.bl (!y)) H':=R1.bind fun y om2 F2 H2 β2 g2 M2 R2=>R2.now M2 _ (.bl _)
 obtain ⟨c,rfl,rfl,q⟩:=R2.kB rv M1
 exact ⟨c,rfl,q⟩
theorem Hx (hc:PT X c (tT E ga)) (ha:PE X a (tE E fa)) (hb:PE X b (tE E fb)):PE X (.IfExp c a b pos) (tE E (GQ ga fa fb)):=(GY hc ha hb).weak fun σ H Q ⟨F,β,om,sl,M,V,R⟩=>by
 refine ⟨F,β,om,sl,M,V,R.bind fun y om2 F2 H2 β2 g2 M2 R2=>?_⟩
 cases y with
 |false=>rw[if_neg Bool.false_ne_true]at R2 ⊢; exact ⟨F2,β2,om2,sl,M2,V.mono g2.toGr,R2⟩
 |true=>rw[if_pos rfl]at R2 ⊢; exact ⟨F2,β2,om2,sl,M2,V.mono g2.toGr,R2⟩
theorem GM {r r':R2} {k k':Wv->Wv->Mw Wv} (hk:Op2 E r k) (hk':Op2 E r' k') {σ:St} {H:Hp} {Q:VK} (h:tE E (VV k k' fa fb fc) σ H Q):HG r r' (tE E fa) (tE E fb) (tE E fc) σ H Q:=by
 obtain ⟨F,β,om,sl,M,V,R⟩:=h
 refine ⟨F,β,om,sl,M,V,R.bind fun x om1 F1 H1 β1 g1 M1 R1 v rv=>?_⟩
 refine ⟨F1,β1,om1,sl,M1,V.mono g1.toGr,R1.bind fun y om2 F2 H2 β2 g2 M2 R2 u ru=>?_⟩
 refine hk M2 (rv.mono g2.toGr) ru (R2.bind fun z om3 F3 H3 β3 g3 M3 R3 zv rz=>?_)
 have R4:Res E (L2.kB z om3) F3 H3 β3 fun y' F' H' β'=>(if y'=true then tE E fc σ H' (fun w' H4=>r' u w' H4 Q) else Q (.bl false) H'):=R3.bind fun y' om4 F4 H4 β4 g4 M4 R4=>by
  cases y' with
  |false=>rw[if_neg Bool.false_ne_true]at R4 ⊢; exact R4.now M4 _ (.bl _)
  |true =>
   rw[if_pos rfl]at R4 ⊢
   exact ⟨F4,β4,om4,sl,M4,V.mono (g1.trans (g2.trans (g3.trans g4))).toGr,R4.bind fun w5 om5 F5 H5 β5 g5 M5 R5 u5 r5=>hk' M5 (ru.mono (g3.trans (g4.trans g5)).toGr) r5 R5⟩
 obtain ⟨b,rfl,rfl,q⟩:=R4.kB rz M3
 exact ⟨b,rfl,q⟩
theorem Fm {op op':CmpOp} {r r':R2} {k k':Wv->Wv->Mw Wv} (ho:OpR X (compareOp op) r) (ho':OpR X (compareOp op') r') (hk:Op2 E r k) (hk':Op2 E r' k') (ha:PE X a (tE E fa)) (hb:PE X b (tE E fb)) (hc:PE X c (tE E fc))
    (hm:lastMarks [op,op'] [b,c]=false:=by with_unfolding_all rfl):PT X (.Compare a [op,op'] [b,c] pos) (tT E (fB (VV k k' fa fb fc))):=(HP ho ho' ha hb hc hm).weak fun _ _ _ h=>GM hk hk' (Hq h)
theorem Ag:Op2 E (rI0 fun i j=>.bl (decide (i < j))) kLt:=Vc fun _ _ _ _=>.bl _
theorem AQ:Op2 E (rI0 fun i j=>.bl (decide (i<=j))) kLe:=Vc fun _ _ _ _=>.bl _
end
def Yq (om:List Ob):Wv->Option (List Wv)
 |.lst ws=>some ws
 |.tup ws=>some ws
 |.o h=>match om[h]? with
  |some (.lst ws)=>some ws
  |_=>none
 |_=>none
noncomputable def AB:{ n:Nat // n=100000 }:=Classical.choice ⟨⟨100000,rfl⟩⟩
noncomputable def lim:Nat:=AB.1
theorem Z1:lim=100000:=AB.2
theorem VS:lim < sizeLine:=by rw[Z1]; decide
theorem T9 {X:Cx} {F H:Hp} {β:List Addr} {om:List Ob} {w:Wv} {v:V} {ws:List Wv} (M:MOk F H β om) (r:RW F β w v) (e:Yq om w=some ws) :
    ∃a xs,v=.ref a∧(SqL X.K H a xs∨SqT X.K H a xs)∧RWs F β ws xs:=by
 cases r with
 |lst q rs=>unfold Yq at e; cases e; exact ⟨_,_,rfl,.inl (.inl (Rd.same M.sub q)),rs⟩
 |tup q rs=>unfold Yq at e; cases e; exact ⟨_,_,rfl,.inr (SqT.of (M.sub _ _ q)),rs⟩
 |o eb =>
  rename_i h a
  have e:(match om[h]? with|some (.lst ws)=>some ws|_=>none)=some ws:=e
  match hx:om[h]?,e with
  |none,e=>exact nomatch e
  |some (.ins _ _),e=>exact nomatch e
  |some (.exc _),e=>exact nomatch e
  |some (.dz _),e=>exact nomatch e
  |some (.dk _),e=>exact nomatch e
  |some (.dt _),e=>exact nomatch e
  |some (.lst us),e =>
   have e:some us=some ws:=e
   cases e
   obtain ⟨a',ea,_,xs,hxs,rs⟩:=M.at hx
   rw[eb]at ea; cases ea
   exact ⟨_,_,rfl,.inl (SqL.of hxs),rs⟩
 |_=>unfold Yq at e; cases e
theorem RWs.atI {F:Hp} {β:List Addr} {ws:List Wv} {vs:List V} {i:Int} {w:Wv} (r:RWs F β ws vs) (e:L2.atI ws i=some w):∃v,L2.atI vs i=some v∧RW F β w v:=by
 unfold L2.atI at e ⊢
 rw[← r.length]
 match hx:ixN ws.length i,e with
 |some j,e=>exact r.get e
def kIx (x i:Wv):Mw Wv:=fun om=>match Yq om x,i with
 |some ws,.int k=>match atI ws k with
  |some w=>some (.ok w,om)
  |none=>none
 |_,_=>none
section
variable {X:Cx} {E:XK} {e a b c:Expr} {es:List Expr} {f fa fb fc:FE} {fs:FA} {pos:Pos}
theorem IR:Op2 E (rIx X.K) kIx:=by
 intro F H β om x y v u Q M rx ry R
 unfold kIx at R
 match hx:Yq om x,y,ry,R with
 |none,_,_,R=>exact R.elim
 |some ws,.int i,.int _,R =>
  have R:Res E (match L2.atI ws i with|some w=>some (Except.ok w,om)|none=>none) F H β (PV Q):=R
  match ha:L2.atI ws i,R with
  |none,R=>exact R.elim
  |some w,R =>
   have R:Res E (ret w om) F H β (PV Q):=R
   obtain ⟨p,xs,rfl,hs,rs⟩:=T9 (X:=X) M rx hx
   obtain ⟨z,ez,rz⟩:=rs.atI ha
   have q:=R.now M z rz
   rcases hs with hs|hs
   ·exact .inl ⟨p,xs,i,z,rfl,rfl,hs,ez,q⟩
   ·exact .inr (.inl ⟨p,xs,i,z,rfl,rfl,hs,ez,q⟩)
theorem ZC (ha:PE X a (tE E fa)) (hb:PE X b (tE E fb)) (hs:NI b:=by intro _ _; rfl):PE X (.Subscript a b pos) (tE E (f2 kIx fa fb)):=(Dd HU ha hb hs).weak fun _ _ _ h=>La IR h
def Zm:FA:=fun _=>ret []
def Ze (f:FE) (r:FA):FA:=fun sl=>bnd (f sl) fun x=>bnd (r sl) fun xs=>ret (x::xs)
theorem Zl:PA X [] (tA E Zm):=VQ.weak fun σ H Q ⟨F,β,om,sl,M,V,R⟩=>R.now M _ .nil
theorem Zc (ha:PE X e (tE E f)) (hr:PA X es (tA E fs)) (hs:starEach (e::es) X.env=(false,eval e X.env)::starEach es X.env:=by rfl):PA X (e::es) (tA E (Ze f fs)):=(XY ha hr hs).weak fun σ H Q ⟨F,β,om,sl,M,V,R⟩=>by
 refine ⟨F,β,om,sl,M,V,R.bind fun x om1 F1 H1 β1 g1 M1 R1 v rv=>?_⟩
 exact ⟨F1,β1,om1,sl,M1,V.mono g1.toGr,R1.bind fun xs om2 F2 H2 β2 g2 M2 R2 vs rvs=>R2.now M2 _ (.cons (rv.mono g2.toGr) rvs)⟩
def XA (ws:List Wv):Mw Wv:=if ws.length<=lim then ret (.tup ws) else Xn
def Yk (ws:List Wv):Mw Wv:=if ws.length<=lim then ret (.lst ws) else Xn
def newO (x:Ob):Mw Wv:=fun om=>some (.ok (.o om.length),om++[x])
def YI (ws:List Wv):Mw Wv:=if ws.length<=lim then newO (.lst ws) else Xn
def fA (k:List Wv->Mw Wv) (fs:FA):FE:=fun sl=>bnd (fs sl) k
theorem Res.lay {c:Prop} [Decidable c] {m:Mw Wv} {om:List Ob} {F:Hp} {β:List Addr} {P:Wv->Hp->Hp->List Addr->Prop} (R:Res E ((if c then m else Xn) om) F H β P):c∧Res E (m om) F H β P:=by
 by_cases h:c
 ·rw[if_pos h]at R; exact ⟨h,R⟩
 ·rw[if_neg h]at R; exact R.elim
theorem Res.newO {x:Ob} {om:List Ob} {F H:Hp} {β:List Addr} {Q:VK} {p:Addr} {o:HO} (R:Res E (L2.newO x om) F H β (PV Q)) (M:MOk F H β om) (hp:H p=none) (hx:∀β',Gr F F β β'->ObR F (upd H p o) β' p x):Q (.ref p) (upd H p o):=by
 obtain ⟨g,M',e⟩:=M.newOx hp hx
 exact R _ _ _ g M' _ (.o e)
theorem Xf {x1} (h:PA X es (tA E fs)):PE X (.Tuple es x1 pos) (tE E (fA XA fs)):=(BF h).weak fun σ H Q ⟨F,β,om,sl,M,V,R⟩=>by
 refine ⟨F,β,om,sl,M,V,R.bind fun ws om1 F1 H1 β1 g1 M1 R1 vs rs=>?_⟩
 obtain ⟨hl,R2⟩:=Res.lay R1
 have hl2:=VS
 refine ⟨by rw[← rs.length]; omega,fun p hp=>?_⟩
 obtain ⟨g,M'⟩:=M1.newFx (o:=.tup vs) hp
 exact R2 _ _ _ g M' _ (.tup ZH (rs.mono g.toGr))
theorem Qa (h:PA X es (tA E fs)):PE X (.List es pos) (tE E (fA Yk fs)):=(LP h).weak fun σ H Q ⟨F,β,om,sl,M,V,R⟩=>by
 refine ⟨F,β,om,sl,M,V,R.bind fun ws om1 F1 H1 β1 g1 M1 R1 vs rs=>?_⟩
 obtain ⟨hl,R2⟩:=Res.lay R1
 have hl2:=VS
 refine ⟨by rw[← rs.length]; omega,fun p hp=>?_⟩
 obtain ⟨g,M'⟩:=M1.newFx (o:=.lst vs) hp
 exact R2 _ _ _ g M' _ (.lst (.inl ZH) (rs.mono g.toGr))
theorem K9 (h:PA X es (tA E fs)):PE X (.List es pos) (tE E (fA YI fs)):=(LP h).weak fun σ H Q ⟨F,β,om,sl,M,V,R⟩=>by
 refine ⟨F,β,om,sl,M,V,R.bind fun ws om1 F1 H1 β1 g1 M1 R1 vs rs=>?_⟩
 obtain ⟨hl,R2⟩:=Res.lay R1
 have hl2:=VS
 exact ⟨by rw[← rs.length]; omega,fun p hp=>R2.newO M1 hp fun β' g=>⟨vs,ZH,rs.mono g⟩⟩
def chk (c:Bool):Mw Unit:=if c=true then ret () else Xn
theorem Res.chk {γ:Type} {c:Bool} {k:Unit->Mw γ} {om:List Ob} {F:Hp} {β:List Addr} {P:γ->Hp->Hp->List Addr->Prop} (R:Res E (bnd (L2.chk c) k om) F H β P):c=true∧Res E (k () om) F H β P:=by
 cases c with
 |true=>exact ⟨rfl,R⟩
 |false=>exact R.elim
theorem Res.chk2 {γ α:Type} {c:Bool} {z:α} {k:α->Mw γ} {om:List Ob} {F:Hp} {β:List Addr} {P:γ->Hp->Hp->List Addr->Prop} (R:Res E (bnd (bnd (L2.chk c) fun _=>ret z) k om) F H β P):c=true∧Res E (k z om) F H β P:=by
 cases c with
 |true=>exact ⟨rfl,R⟩
 |false=>exact R.elim
def RH (ws:List Wv) (y:Wv):Mw (List Wv):=match y with
 |.int k=>bnd (chk (decide (-(2 ^ 63)<=k∧k < 2 ^ 63∧ws.length * k.toNat<=lim))) fun _=>ret (List.replicate k.toNat ws).flatten
 |_=>Xn
def MJ (k:List Wv->Mw Wv) (fs:FA) (fb:FE):FE:=fun sl=>bnd (fs sl) fun ws=>bnd (chk (decide (ws.length<=lim))) fun _=>bnd (fb sl) fun y=>bnd (RH ws y) k
def UK (E:XK) (k:List Wv->Mw Wv):Prop:=∀{ws:List Wv} {vs:List V} {om:List Ob} {F H:Hp} {β:List Addr} {Q:VK} {p:Addr},MOk F H β om->RWs F β ws vs->Res E (k ws om) F H β (PV Q)->vs.length<=lim∧(H p=none->Q (.ref p) (upd H p (.lst vs)))
theorem Yp:UK E Yk:=fun M rs R=>by
 obtain ⟨hl,R2⟩:=Res.lay R
 refine ⟨by rw[← rs.length]; exact hl,fun hp=>?_⟩
 obtain ⟨g,M'⟩:=M.newFx (o:=.lst _) hp
 exact R2 _ _ _ g M' _ (.lst (.inl ZH) (rs.mono g.toGr))
theorem WC:UK E YI:=fun M rs R=>by
 obtain ⟨hl,R2⟩:=Res.lay R
 exact ⟨by rw[← rs.length]; exact hl,fun hp=>R2.newO M hp fun β' g=>⟨_,ZH,rs.mono g⟩⟩
theorem Bn {k:List Wv->Mw Wv} (hk:UK E k) (h:PA X es (tA E fs)) (hb:PE X b (tE E fb)) {p2:Pos}:PE X (.BinOp (.List es p2) .Mult b pos) (tE E (MJ k fs fb)):=(Dq Cy (LP h) hb).weak fun σ H Q ⟨F,β,om,sl,M,V,R⟩=>by
 refine ⟨F,β,om,sl,M,V,R.bind fun ws om1 F1 H1 β1 g1 M1 R1 vs rs=>?_⟩
 obtain ⟨hl,R1⟩:=R1.chk
 have hl:=of_decide_eq_true hl
 have hlim:=VS
 have hlen:=rs.length
 refine ⟨by omega,fun l hl=>?_⟩
 obtain ⟨g2,M2⟩:=M1.newFx (o:=.lst vs) hl
 refine ⟨_,β1,om1,sl,M2,V.mono (g1.trans g2).toGr,(Res.mono g2 R1).bind fun y om3 F3 H3 β3 g3 M3 R3 u ru=>?_⟩
 have hH3:H3 l=some (.lst vs):=M3.sub _ _ (g3.same _ _ ZH)
 cases ru with
 |int i =>
  obtain ⟨hc,R4⟩:=Res.chk2 R3
  obtain ⟨h1,h2,h3⟩:=of_decide_eq_true hc
  refine ⟨l,i,vs,rfl,rfl,hH3,h1,h2,by rw[← hlen]; omega,fun p hp=>?_⟩
  exact (hk M3 ((rs.mono (g2.trans g3).toGr).rep i.toNat) R4).2 hp
 |_=>exact R3.elim
end
end
end L2
namespace L2
noncomputable section
open PySem PySem.Spec PyProof.Rows
def SQ (om:List Ob):Wv->Option Bool
 |.non=>some false
 |.bl b=>some b
 |.int i=>some (i != 0)
 |.lst ws=>some (!ws.isEmpty)
 |.tup ws=>some (!ws.isEmpty)
 |.o h=>match om[h]? with
  |some (.lst ws)=>some (!ws.isEmpty)
  |some (.dk kvs)=>some (!kvs.isEmpty)
  |_=>none
 |_=>none
def L6 (x:Wv):Mw Bool:=fun om=>match SQ om x with
 |some b=>some (.ok b,om)
 |none=>none
def YG (f:FE):FT:=fun sl=>bnd (f sl) L6
theorem RWs.isEmpty {F:Hp} {β:List Addr} {ws:List Wv} {vs:List V} (r:RWs F β ws vs):(!ws.isEmpty)=!vs.isEmpty:=by cases r <;> rfl
theorem RK.isEmpty {F:Hp} {β:List Addr} {κ:Type} {ws:List (κ × Wv)} {vs:List (κ × V)} (r:RK F β ws vs):(!ws.isEmpty)=!vs.isEmpty:=by cases r <;> rfl
theorem Ju {K:PySem.W.Frag} {F H:Hp} {β:List Addr} {om:List Ob} {w:Wv} {v:V} {b:Bool} (M:MOk F H β om) (r:RW F β w v) (e:SQ om w=some b):Cw K v H b:=by
 cases r with
 |non=>cases e; rfl
 |bl c=>cases e; rfl
 |int i=>cases e; rfl
 |str x=>cases e
 |g _=>cases e
 |lst q rs=>cases e; exact .inl ⟨_,.inl (Rd.same M.sub q),rs.isEmpty⟩
 |tup q rs=>cases e; exact .inr (.inl ⟨_,SqT.of (M.sub _ _ q),rs.isEmpty⟩)
 |o eb =>
  rename_i h a
  have e:(match om[h]? with|some (.lst ws)=>some (!ws.isEmpty)|some (.dk kvs)=>some (!kvs.isEmpty)|_=>none)=some b:=e
  match hx:om[h]?,e with
  |none,e=>exact nomatch e
  |some (.ins _ _),e=>exact nomatch e
  |some (.exc _),e=>exact nomatch e
  |some (.dz _),e=>exact nomatch e
  |some (.dt _),e=>exact nomatch e
  |some (.dk kvs),e =>
   have e:some (!kvs.isEmpty)=some b:=e
   obtain ⟨a',ea,_,ks,hk,rs⟩:=M.at hx
   rw[eb]at ea; cases ea
   cases e
   exact .inr (.inr ⟨ks,hk,rs.isEmpty⟩)
  |some (.lst ws),e =>
   have e:some (!ws.isEmpty)=some b:=e
   obtain ⟨a',ea,_,xs,hxs,rs⟩:=M.at hx
   rw[eb]at ea; cases ea
   cases e
   exact .inl ⟨xs,SqL.of hxs,rs.isEmpty⟩
section
variable {X:Cx} {E:XK} {e a b c o:Expr} {es:List Expr} {f fa fb fc:FE} {fs:FA} {pos p2:Pos}
theorem YU (ha:PE X a (tE E fa)) (he:∀whole,isTrue a X.env whole=(do let v ← whole; standAt a.pos; holding [v] (truthy v)):=by intro _; rfl):PT X a (tT E (YG fa)):=(HS ha he).weak fun σ H Q ⟨F,β,om,sl,M,V,R⟩=>by
 refine ⟨F,β,om,sl,M,V,R.bind fun x om1 F1 H1 β1 g1 M1 R1 v rv=>?_⟩
 unfold L6 at R1
 match hx:SQ om1 x,R1 with
 |none,R1=>exact R1.elim
 |some b,R1=>exact ⟨b,Ju M1 rv hx,(show Res E (ret b om1) F1 H1 β1 _ from R1).now M1⟩
def Tt:Wv->Bool
 |.non|.bl _|.int _|.str _=>true
 |_=>false
def toV:Wv->V
 |.non=>.non
 |.bl b=>.bl b
 |.int i=>.int i
 |.str x=>.str x
 |_=>.non
theorem RW.flat {F:Hp} {β:List Addr} {w:Wv} {v:V} (r:RW F β w v) (h:Tt w=true):v=toV w∧UO v=true:=by
 cases r <;> first|exact ⟨rfl,rfl⟩|cases h
theorem RWs.flat {F:Hp} {β:List Addr}:∀{ws:List Wv} {vs:List V},RWs F β ws vs->ws.all Tt=true->vs=ws.map toV∧vs.all UO=true
 |_,_,.nil,_=>⟨rfl,rfl⟩
 |_,_,.cons h r,e=>by
  rw[List.all_cons,Bool.and_eq_true]at e
  obtain ⟨h1,h2⟩:=h.flat e.1
  obtain ⟨h3,h4⟩:=RWs.flat r e.2
  exact ⟨by rw[List.map_cons,← h1,← h3],by rw[List.all_cons,h2,h4]; rfl⟩
def QU (neg:Bool) (x y:Wv):Mw Wv:=fun om=>match Yq om y with
 |some ws=>if (Tt x&&ws.all Tt)=true then some (.ok (.bl (if neg then !inV (toV x) (ws.map toV) else inV (toV x) (ws.map toV))),om) else none
 |none=>none
theorem IN {neg:Bool}:Op2 E (rIn X.K neg) (QU neg):=by
 intro F H β om x y v u Q M rx ry R
 unfold QU at R
 match hy:Yq om y,R with
 |none,R=>exact R.elim
 |some ws,R =>
  dsimp only at R
  by_cases hc:(Tt x&&ws.all Tt)=true
  ·rw[if_pos hc]at R
   obtain ⟨h1,h2⟩:=Bool.and_eq_true_iff.mp hc
   obtain ⟨p,xs,rfl,hs,rs⟩:=T9 (X:=X) M ry hy
   obtain ⟨e1,e2⟩:=rx.flat h1
   obtain ⟨e3,e4⟩:=rs.flat h2
   refine ⟨p,xs,rfl,hs,e2,e4,?_⟩
   rw[e1,e3]
   exact (show Res E (ret (Wv.bl _) om) F H β (PV Q) from R).now M _ (.bl _)
  ·rw[if_neg hc]at R; exact R.elim
theorem B1 (ha:PE X a (tE E fa)) (hb:PE X b (tE E fb)) (hm:behindInMarks .In b=false:=by with_unfolding_all rfl):PT X (.Compare a [.In] [b] pos) (tT E (fB (f2 (QU false) fa fb))):=Ua Ik (IN (X:=X)) ha hb hm
theorem Gv (ha:PE X a (tE E fa)) (hb:PE X b (tE E fb)) (hm:behindInMarks .NotIn b=false:=by with_unfolding_all rfl):PT X (.Compare a [.NotIn] [b] pos) (tT E (fB (f2 (QU true) fa fb))):=Ua OX (IN (X:=X)) ha hb hm
abbrev FO:=Sl->Mw (Option Int)
def FC:FO:=fun _=>ret none
def MW:Wv->Mw (Option Int)
 |.int i=>ret (some i)
 |_=>Xn
def Jb (f:FE):FO:=fun sl=>bnd (f sl) MW
def Bb (xs:List Wv) (lo hi:Option Int):List Wv:=(xs.drop (HT.sIx xs.length 0 lo)).take (HT.sIx xs.length xs.length hi - HT.sIx xs.length 0 lo)
def kSl (x:Wv) (lo hi:Option Int):Mw Wv:=fun om=>match x with
 |.tup ws=>if HT.sIx ws.length 0 lo=0∧HT.sIx ws.length ws.length hi=ws.length then none else some (.ok (.tup (Bb ws lo hi)),om)
 |.lst ws=>some (.ok (.lst (Bb ws lo hi)),om)
 |.o h=>match om[h]? with
  |some (.lst ws)=>some (.ok (.lst (Bb ws lo hi)),om)
  |_=>none
 |_=>none
def fSl (f:FE) (fl fh:FO):FE:=fun sl=>bnd (f sl) fun x=>bnd (fl sl) fun l=>bnd (fh sl) fun h=>kSl x l h
theorem RK.lookup {F:Hp} {β:List Addr} {k:Str}:∀{ps:List (Str × Wv)} {qs:List (Str × V)},RK F β ps qs->match ps.lookup k with|some w=>∃v,qs.lookup k=some v∧RW F β w v|none=>qs.lookup k=none
 |_,_,.nil=>rfl
 |_,_,.cons (k:=k') h r=>by
  rw[List.lookup_cons,List.lookup_cons]
  cases (k == k') with
  |true=>exact ⟨_,rfl,h⟩
  |false=>exact RK.lookup r
theorem RK.length {F:Hp} {β:List Addr} {κ:Type}:∀{ps:List (κ × Wv)} {qs:List (κ × V)},RK F β ps qs->ps.length=qs.length
 |_,_,.nil=>rfl
 |_,_,.cons _ r=>by rw[List.length_cons,List.length_cons,RK.length r]
def W4 (om:List Ob):Wv->Option (Addr × List (Str × Wv))
 |.o h=>match om[h]? with
  |some (.ins C fs)=>some (C,fs)
  |_=>none
 |_=>none
theorem Pv {F H:Hp} {β:List Addr} {om:List Ob} {w:Wv} {v:V} {C:Addr} {fs:List (Str × Wv)} (M:MOk F H β om) (r:RW F β w v) (e:W4 om w=some (C,fs)) :
    ∃h a dx fs',w=.o h∧om[h]?=some (.ins C fs)∧β[h]?=some a∧v=.ref a∧H a=some (.ins C dx fs')∧RK F β fs fs':=by
 cases r with
 |o eb =>
  rename_i h a
  have e:(match om[h]? with|some (.ins C fs)=>some (C,fs)|_=>none)=some (C,fs):=e
  match hx:om[h]?,e with
  |none,e=>exact nomatch e
  |some (.lst _),e=>exact nomatch e
  |some (.exc _),e=>exact nomatch e
  |some (.dz _),e=>exact nomatch e
  |some (.dt _),e=>exact nomatch e
  |some (.dk kvs),e=>exact nomatch e
  |some (.ins C' fs'),e =>
   have e:some (C',fs')=some (C,fs):=e
   cases e
   obtain ⟨a',ea,_,dx,fs2,hxs,rs⟩:=M.at hx
   have ea2:=ea
   rw[eb]at ea; cases ea
   exact ⟨h,_,dx,fs2,rfl,hx,ea2,rfl,hxs,rs⟩
 |_=>exact nomatch e
def Yw (C:Addr) (n:Str) (x:Wv):Mw Wv:=fun om=>match W4 om x with
 |some (C',fs)=>if C'=C then (match fs.lookup n with|some w=>some (.ok w,om)|none=>none) else none
 |none=>none
theorem Yv {C:Addr} {n:Str} (cl:Cls X.K C) (na:NoAttr X.K C n) (he:PE X e (tE E f)) (hb:attributeBase e n X.env (eval e X.env)=eval e X.env:=by rfl):PE X (.Attribute e n pos) (tE E (f1 (Yw C n) f)):=(CD he hb).weak fun σ H Q h=>by
 refine MQ (r:=fun x H1 Q=>∃a C dx fs v,x=.ref a∧H1 a=some (.ins C dx fs)∧Cls X.K C∧NoAttr X.K C n∧fs.lookup n=some v∧Q v H1) ?_ h
 intro F H β om x v Q M rx R
 unfold Yw at R
 match hx:W4 om x,R with
 |none,R=>exact R.elim
 |some (C',fs),R =>
  dsimp only at R
  by_cases hc:C'=C
  ·have R1:Res E (match fs.lookup n with|some w=>some (Except.ok w,om)|none=>none) F H β (PV Q):=by
    have:=R
    rw[if_pos hc]at this
    exact this
   clear R
   subst hc
   obtain ⟨h,a,dx,fs',_,_,_,rfl,ha,rs⟩:=Pv M rx hx
   have lk:=rs.lookup (k:=n)
   match hl:fs.lookup n,R1,lk with
   |none,R,_=>exact R.elim
   |some w,R,⟨v,ev,rv⟩=>exact ⟨a,C',dx,fs',v,rfl,ha,cl,na,ev,(show Res E (ret w om) F H β (PV Q) from R).now M v rv⟩
  ·rw[if_neg hc]at R; exact R.elim
def Mj (E:XK) (r:List V->Hp->VK->Prop) (k:List Wv->Mw Wv):Prop:=∀{F H:Hp} {β:List Addr} {om:List Ob} {ws:List Wv} {vs:List V} {Q:VK},MOk F H β om->RWs F β ws vs->Res E (k ws om) F H β (PV Q)->r vs H Q
theorem tA_K {r:List V->Hp->VK->Prop} {k:List Wv->Mw Wv} (hk:Mj E r k) {σ:St} {H:Hp} {Q:VK} (h:tE E (fA k fs) σ H Q):tCB r (tA E fs) σ H Q:=by
 obtain ⟨F,β,om,sl,M,V,R⟩:=h
 exact ⟨F,β,om,sl,M,V,R.bind fun ws om1 F1 H1 β1 g1 M1 R1 vs rs=>hk M1 rs R1⟩
theorem Rp {id:String} {x:Str} {p:Pos} {r:List V->Hp->VK->Prop} {k:List Wv->Mw Wv} (hc:CallR X (.builtin id) r) (hk:Mj E r k) (hg:Gl X x) (hm:X.mg x=none) (hv:bootBuiltins x=some (.builtin id)) (ha:PA X (e::es) (tA E fs)) (hn:x≠"__name__":=by decide) (hdb:(x == ("__debug__":Str))=false:=by decide)
    (he:starEach (e::es) X.env=(false,eval e X.env)::starEach es X.env:=by rfl) (hpl:(backTo pos (starEach es X.env)).any (·.1)=false:=by rfl):PE X (.Call (.Name x p) (e::es) [] pos) (tE E (fA k fs)):=(R0 hc hg hm hv ha hn hdb he hpl).weak fun _ _ _ h=>tA_K hk h
def YT (ws:List Wv):Mw Wv:=fun om=>match ws with
 |[x]=>match Yq om x with
  |some us=>some (.ok (.int us.length),om)
  |none=>match x with
   |.o h=>match om[h]? with
    |some (.dk kvs)=>some (.ok (.int kvs.length),om)
    |_=>none
   |_=>none
 |_=>none
theorem JR:Mj E (fun xs H Q=>(∃p ys,xs=[.ref p]∧(SqL X.K H p ys∨SqT X.K H p ys)∧Q (.int ys.length) H)∨∃a kvs,xs=[V.ref a]∧H a=some (.dK kvs)∧Q (.int kvs.length) H) YT:=by
 intro F H β om ws vs Q M rs R
 match ws,rs,R with
 |[],_,R=>exact R.elim
 |_::_::_,_,R=>exact R.elim
 |[x],.cons rx .nil,R =>
  unfold YT at R
  dsimp only at R
  match hx:Yq om x,R with
  |some us,R =>
   obtain ⟨p,xs,rfl,hs,r2⟩:=T9 (X:=X) M rx hx
   refine .inl ⟨p,xs,rfl,hs,?_⟩
   rw[← r2.length]
   exact (show Res E (ret (Wv.int _) om) F H β (PV Q) from R).now M _ (.int _)
  |none,R =>
   cases rx with
   |@o h a eb =>
    have R:Res E (match om[h]? with|some (.dk kvs)=>some (Except.ok (Wv.int kvs.length),om)|_=>none) F H β (PV Q):=R
    match hy:om[h]?,R with
    |none,R=>exact R.elim
    |some (.ins _ _),R=>exact R.elim
    |some (.exc _),R=>exact R.elim
    |some (.dz _),R=>exact R.elim
    |some (.dt _),R=>exact R.elim
    |some (.lst _),R=>exact R.elim
    |some (.dk kvs),R =>
     obtain ⟨a',ea,_,ks,hk,r2⟩:=M.at hy
     rw[eb]at ea; cases ea
     refine .inr ⟨_,ks,rfl,hk,?_⟩
     rw[← r2.length]
     exact (show Res E (ret (Wv.int _) om) F H β (PV Q) from R).now M _ (.int _)
   |_=>exact R.elim
theorem Xg {p:Pos} (hg:Gl X "len") (hm:X.mg "len"=none) (ha:PA X [e] (tA E fs)) (he:starEach [e] X.env=(false,eval e X.env)::starEach [] X.env:=by rfl) (hpl:(backTo pos (starEach [] X.env)).any (·.1)=false:=by rfl) :
    PE X (.Call (.Name "len" p) [e] [] pos) (tE E (fA YT fs)):=Rp (O3.or Iq) (JR (X:=X)) hg hm PySem.boot_len ha (by decide) (by decide) he hpl
end
end
end L2
namespace L2
noncomputable section
open PySem PySem.Spec PyProof.Rows
inductive Kd where
 |non|bl|int|str|lst|tup|dct
 deriving DecidableEq
def Kd.nm:Kd->String
 |.non=>"NoneType"|.bl=>"bool"|.int=>"int"|.str=>"str"|.lst=>"list"|.tup=>"tuple"|.dct=>"dict"
def Kd.isi:Kd->Kd->Bool
 |.non,.non=>true
 |.bl,.bl=>true
 |.bl,.int=>true
 |.int,.int=>true
 |.str,.str=>true
 |.lst,.lst=>true
 |.tup,.tup=>true
 |.dct,.dct=>true
 |_,_=>false
structure KIsi (K:PySem.W.Frag) (T:Kd):Prop where
 non:PySem.W.kitOne K (.type "NoneType") (.type T.nm)=some (Kd.isi .non T)
 bl:PySem.W.kitOne K (.type "bool") (.type T.nm)=some (Kd.isi .bl T)
 int:PySem.W.kitOne K (.type "int") (.type T.nm)=some (Kd.isi .int T)
 str:PySem.W.kitOne K (.type "str") (.type T.nm)=some (Kd.isi .str T)
 lst:PySem.W.kitOne K (.type "list") (.type T.nm)=some (Kd.isi .lst T)
 tup:PySem.W.kitOne K (.type "tuple") (.type T.nm)=some (Kd.isi .tup T)
 dct:PySem.W.kitOne K (.type "dict") (.type T.nm)=some (Kd.isi .dct T)
theorem KIsi.all {K:PySem.W.Frag} {T:Kd} (h:KIsi K T) (t:Kd):PySem.W.kitOne K (.type t.nm) (.type T.nm)=some (Kd.isi t T):=by
 cases t with
 |non=>exact h.non
 |bl=>exact h.bl
 |int=>exact h.int
 |str=>exact h.str
 |lst=>exact h.lst
 |tup=>exact h.tup
 |dct=>exact h.dct
def NV (om:List Ob):Wv->Option Kd
 |.non=>some .non
 |.bl _=>some .bl
 |.int _=>some .int
 |.str _=>some .str
 |.lst _=>some .lst
 |.tup _=>some .tup
 |.o h=>match om[h]? with
  |some (.lst _)=>some .lst
  |some (.dk _)=>some .dct
  |some (.dt _)=>some .dct
  |_=>none
 |.g _=>none
theorem IF {K:PySem.W.Frag} {F H:Hp} {β:List Addr} {om:List Ob} {w:Wv} {v:V} {t:Kd} (M:MOk F H β om) (r:RW F β w v) (e:NV om w=some t):TyOf K H v (.type t.nm):=by
 cases r with
 |non=>cases e; exact .non
 |bl c=>cases e; exact .bl c
 |int i=>cases e; exact .int i
 |str x=>cases e; exact .str x
 |lst q rs =>
  cases e
  rcases Rd.same M.sub q with q|⟨ob,q⟩
  ·exact .lst q
  ·exact .frz q
 |tup q rs=>cases e; exact .tup (M.sub _ _ q)
 |g _=>cases e
 |@o h a eb =>
  have e:(match om[h]? with|some (.lst _)=>some Kd.lst|some (.dk _)=>some Kd.dct|some (.dt _)=>some Kd.dct|_=>none)=some t:=e
  match hx:om[h]?,e with
  |none,e=>exact nomatch e
  |some (.ins _ _),e=>exact nomatch e
  |some (.exc _),e=>exact nomatch e
  |some (.dz _),e=>exact nomatch e
  |some (.dt kvs),e =>
   have e:some Kd.dct=some t:=e
   obtain ⟨a',ea,_,ks,hk,rs⟩:=M.at hx
   rw[eb]at ea; cases ea
   cases e
   exact .dT hk
  |some (.dk kvs),e =>
   have e:some Kd.dct=some t:=e
   obtain ⟨a',ea,_,ks,hk,rs⟩:=M.at hx
   rw[eb]at ea; cases ea
   cases e
   exact .dK hk
  |some (.lst ws),e =>
   have e:some Kd.lst=some t:=e
   obtain ⟨a',ea,_,xs,hxs,rs⟩:=M.at hx
   rw[eb]at ea; cases ea
   cases e
   exact .lst hxs
def RD (T:Kd) (x:Wv):Mw Wv:=fun om=>match NV om x with
 |some t=>some (.ok (.bl (Kd.isi t T)),om)
 |none=>none
section
variable {X:Cx} {E:XK} {e a b c o:Expr} {es:List Expr} {f fa fb fc fo:FE} {fs:FA} {pos p2 p p':Pos}
theorem LT {T:Kd} {x:Str} (k:KIsi X.K T) (hg:Gl X "isinstance") (hm:X.mg "isinstance"=none) (he:PE X e (tE E f)) (hT:PE X (.Name x p2) (tC (.ty T.nm)))
    (h1:starEach [e,.Name x p2] X.env=(false,eval e X.env)::starEach [.Name x p2] X.env:=by rfl) (h2:starEach [.Name x p2] X.env=(false,eval (.Name x p2) X.env)::starEach [] X.env:=by rfl) (hpl:(backTo pos (starEach [.Name x p2] X.env)).any (·.1)=false:=by rfl) :
    PE X (.Call (.Name "isinstance" p) [e,.Name x p2] [] pos) (tE E (f1 (RD T) f)):=(R0 GX hg hm PyProof.Rows.boot_isinstance (XY he (XY hT VQ h2) h1) (by decide) (by decide) h1 hpl).weak fun σ H Q h=>by
 refine MQ (r:=fun v H1 Q=>∃x' t cv c b,[v,V.ty T.nm]=[x',cv]∧TyOf X.K H1 x' t∧Cz cv=some c∧PySem.W.kitOne X.K t c=some b∧Q (.bl b) H1) ?_ h
 intro F H β om x v Q M rx R
 unfold RD at R
 match hx:NV om x,R with
 |none,R=>exact R.elim
 |some t,R=>exact ⟨v,_,_,_,_,rfl,IF M rx hx,rfl,k.all t,(show Res E (ret (Wv.bl _) om) F H β (PV Q) from R).now M _ (.bl _)⟩
def spM (n:Nat) (g:List Wv->Mw Wv):Sp:=fun vs H Q E=>∃F β om ws,MOk F H β om∧RWs F β ws vs∧ws.length=n∧Res E (g ws om) F H β (PV Q)
def kN (n:Nat) (g:List Wv->Mw Wv) (ws:List Wv):Mw Wv:=bnd (chk (decide (ws.length=n))) fun _=>g ws
theorem ON {n:Nat} {g:List Wv->Mw Wv} {F H:Hp} {β:List Addr} {om:List Ob} {ws:List Wv} {vs:List V} {Q:VK} (M:MOk F H β om) (rs:RWs F β ws vs) (R:Res E (kN n g ws om) F H β (PV Q)):spM n g vs H Q E:=by
 obtain ⟨hc,R⟩:=Res.chk R
 exact ⟨F,β,om,ws,M,rs,of_decide_eq_true hc,R⟩
variable {CX:CXT} {k n:Nat} {fn C:Addr} {fd:FuncData} {ps:List Str} {g:List Wv->Mw Wv} {x m:Str}
theorem Zw (G:FnOk X.prog X.w X.K X.mg X.base CX k fn fd ps (spM n g)) (hr:Room k X.A) (hg:Gl X x) (hm:X.mg x=some (.ref fn)) (hk:PySem.W.keepIn X.K (.ref fn)=true) (hb:Binds X.K fd ps []) (hx:Wt CX X E)
    (ha:PA X (e::es) (tA E fs)) (hdb:(x == ("__debug__":Str))=false:=by decide) (he:starEach (e::es) X.env=(false,eval e X.env)::starEach es X.env:=by rfl) (hpl:(backTo pos (starEach es X.env)).any (·.1)=false:=by rfl) :
    PE X (.Call (.Name x p) (e::es) [] pos) (tE E (fA (kN n g) fs)):=(Ei G hr hg hm hk hb .nil hx ha hdb he hpl).weak fun σ H Q ⟨F,β,om,sl,M,V,R⟩=>by
 refine ⟨F,β,om,sl,M,V,R.bind fun ws om1 F1 H1 β1 g1 M1 R1 vs rs=>?_⟩
 show spM n g (vs++[]) H1 Q E
 rw[List.append_nil]
 exact ON M1 rs R1
def MT (C:Addr) (m:Str) (x:Wv):Mw Unit:=fun om=>match W4 om x with
 |some (C',fs)=>if C'=C∧fs.lookup m=none then some (.ok (),om) else none
 |none=>none
theorem MR {γ:Type} {k:Unit->Mw γ} {F H:Hp} {β:List Addr} {om:List Ob} {w:Wv} {v:V} {P:γ->Hp->Hp->List Addr->Prop} (M:MOk F H β om) (r:RW F β w v) (R:Res E (bnd (MT C m w) k om) F H β P) :
    ∃a dx fs',v=.ref a∧H a=some (.ins C dx fs')∧fs'.lookup m=none∧Res E (k () om) F H β P:=by
 unfold bnd MT at R
 match hx:W4 om w,R with
 |none,R=>exact R.elim
 |some (C',fs),R =>
  dsimp only at R
  by_cases hc:C'=C∧fs.lookup m=none
  ·have R1:Res E (k () om) F H β P:=by
    have:=R
    rw[if_pos hc]at this
    exact this
   clear R
   obtain ⟨h,a,dx,fs',_,_,_,rfl,ha,rs⟩:=Pv M r hx
   obtain ⟨rfl,hl⟩:=hc
   have lk:=rs.lookup (k:=m)
   rw[hl]at lk
   exact ⟨a,dx,fs',rfl,ha,lk,R1⟩
  ·rw[if_neg hc]at R; exact R.elim
def ZB (C:Addr) (m:Str) (n:Nat) (g:List Wv->Mw Wv) (fo:FE) (fs:FA):FE:=fun sl=>bnd (fo sl) fun x=>bnd (MT C m x) fun _=>bnd (fs sl) fun ws=>kN n g (x::ws)
theorem F9 {dvs:List V} {σ:St} {H:Hp} {Q:VK} (h:tE E (ZB C m n g fo fs) σ H Q):Hb C m (spM n g) [] E (tE E fo) (tA E fs) σ H Q:=by
 obtain ⟨F,β,om,sl,M,V,R⟩:=h
 refine ⟨F,β,om,sl,M,V,R.bind fun x om1 F1 H1 β1 g1 M1 R1 v rv=>?_⟩
 obtain ⟨a,dx,fs',rfl,ha,hl,R2⟩:=MR M1 rv R1
 refine ⟨a,dx,fs',rfl,ha,hl,F1,β1,om1,sl,M1,V.mono g1.toGr,R2.bind fun ws om3 F3 H3 β3 g3 M3 R3 vs rs=>?_⟩
 show spM n g (L2.V.ref a::(vs++[])) H3 Q E
 rw[List.append_nil]
 exact ON M3 (.cons (rv.mono g3.toGr) rs) R3
theorem ZN {pl:Sem Bool} {apos:Pos} (ho:PE X o (tE E fo)) (c:Cls X.K C) (hm:Meth X.K C m fn) (G:FnOk X.prog X.w X.K X.mg X.base CX k fn fd ps (spM n g)) (hr:Room k X.A) (hb:Binds X.K fd ps []) (hx:Wt CX X E) (ha:PA X (e::es) (tA E fs))
    (hst:starEach (e::es) X.env=(false,eval e X.env)::starEach es X.env:=by rfl) (hpl:(backTo pos (starEach es X.env)).any (·.1)=false:=by rfl)
    (ht:eval (.Call (.Attribute o m apos) (e::es) [] pos) X.env=(do
     let ov ← eval o X.env
     standAt apos.atName
     let (f,first) ← holding [ov] (getMethod ov m pl)
     callWith pos f first (backTo pos (starEach (e::es) X.env)) (backToKw pos (keywordEach [] X.env))):=by rfl) :
    PE X (.Call (.Attribute o m apos) (e::es) [] pos) (tE E (ZB C m n g fo fs)):=(F6 ho c hm G hr hb .nil hx ha hst hpl ht).weak fun σ H Q h=>F9 (dvs:=[]) h
theorem Vv {pl:Sem Bool} {apos:Pos} (ho:PE X o (tE E fo)) (c:Cls X.K C) (hm:Meth X.K C m fn) (G:FnOk X.prog X.w X.K X.mg X.base CX k fn fd ps (spM n g)) (hr:Room k X.A) (hb:Binds X.K fd ps []) (hx:Wt CX X E)
    (ht:eval (.Call (.Attribute o m apos) [] [] pos) X.env=(do
     let ov ← eval o X.env
     standAt apos.atName
     let (f,first) ← holding [ov] (getMethod ov m pl)
     callWith pos f first (backTo pos (starEach [] X.env)) (backToKw pos (keywordEach [] X.env))):=by rfl) :
    PE X (.Call (.Attribute o m apos) [] [] pos) (tE E (ZB C m n g fo Zm)):=(Gw ho c hm G hr hb .nil hx (ht:=ht)).weak fun σ H Q ⟨F,β,om,sl,M,V,R⟩=>by
 refine ⟨F,β,om,sl,M,V,R.bind fun x om1 F1 H1 β1 g1 M1 R1 v rv=>?_⟩
 obtain ⟨a,dx,fs',rfl,ha,hl,R2⟩:=MR M1 rv R1
 exact ⟨a,dx,fs',rfl,ha,hl,ON M1 (.cons rv .nil) R2⟩
def WT (C:Addr) (n:Nat) (g:List Wv->Mw Wv) (ws:List Wv):Mw Wv:=fun om=>bnd (kN n g (.o om.length::ws)) (fun r=>match r with|.non=>ret (.o om.length)|_=>Xn) (om++[.ins C []])
theorem MOk.newU {F H:Hp} {β:List Addr} {om:List Ob} {p:Addr} {o:HO} (M:MOk F H β om) (hp:H p=none):MOk F (upd H p o) β om:=by
 have ne:∀(h:Nat) (a:Addr),β[h]?=some a->a≠p:=fun h a e z=>by
  obtain ⟨y,hy⟩:=M.there e
  rw[z,hp]at hy; cases hy
 exact ⟨fun b u e=>by rw[Zz (Z5 (M.sub _ _ e) hp)]; exact M.sub b u e,M.nd,M.len,M.free,fun h a x e1 e2=>(M.ob h a x e1 e2).mono (Gr.refl _ _) (Zz (ne h a e1))⟩
theorem BI {F H:Hp} {β:List Addr} {om:List Ob} {ws:List Wv} {vs:List V} {Q:VK} {y dx:Addr} (M:MOk F H β om) (rs:RWs F β ws vs) (R:Res E (WT C n g ws om) F H β (PV Q)) (hx:H y=none) (hdx:H dx=none) (hne:dx≠y) :
    spM n g (.ref y::(vs++[])) (upd (upd H dx (.own y)) y (.ins C dx [])) (fun v H2=>v=.non∧Q (.ref y) H2) E:=by
 have M1:=M.newU (o:=.own y) hdx
 have g0:=M.gxU (o:=.own y) hdx
 obtain ⟨g2,M2,e2⟩:=M1.newOx (p:=y) (o:=.ins C dx []) (x:=.ins C []) (by rw[Zz hne.symm]; exact hx) fun β' _=>⟨dx,[],ZH,.nil⟩
 rw[List.append_nil]
 refine ON M2 (.cons (.o e2) (rs.mono g2.toGr)) ((Res.mono (g0.trans g2) R).bind fun r om3 F3 H3 β3 g3 M3 R3 v rv=>?_)
 cases rv with
 |non=>exact ⟨rfl,(show Res E (ret (Wv.o om.length) om3) F3 H3 β3 (PV Q) from R3).now M3 _ (.o (g3.pre _ _ e2))⟩
 |_=>exact R3.elim
theorem OV (Mk':Mk X.K C fn) (G:FnOk X.prog X.w X.K X.mg X.base CX k fn fd ps (spM n g)) (hr:Room (k+1) X.A) (hg:Gl X x) (hm:X.mg x=some (.ref C)) (hb:Binds X.K fd ps []) (hx:Wt CX X E)
    (ha:PA X (e::es) (tA E fs)) (hdb:(x == ("__debug__":Str))=false:=by decide) (he:starEach (e::es) X.env=(false,eval e X.env)::starEach es X.env:=by rfl) (hpl:(backTo pos (starEach es X.env)).any (·.1)=false:=by rfl) :
    PE X (.Call (.Name x p) (e::es) [] pos) (tE E (fA (WT C n g) fs)):=(FF Mk' G hr hg hm hb .nil hx ha hdb he hpl).weak fun σ H Q ⟨F,β,om,sl,M,V,R⟩ =>
 ⟨F,β,om,sl,M,V,R.bind fun ws om1 F1 H1 β1 g1 M1 R1 vs rs y dx h1 h2 h3=>BI M1 rs R1 h1 h2 h3⟩
def Xj (om:List Ob):Wv->Option (Nat × List Wv)
 |.o h=>match om[h]? with
  |some (.lst ws)=>some (h,ws)
  |_=>none
 |_=>none
theorem Vp {F H:Hp} {β:List Addr} {om:List Ob} {w:Wv} {v:V} {h:Nat} {ws:List Wv} (M:MOk F H β om) (r:RW F β w v) (e:Xj om w=some (h,ws)) :
    ∃a xs,w=.o h∧om[h]?=some (.lst ws)∧β[h]?=some a∧v=.ref a∧H a=some (.lst xs)∧RWs F β ws xs:=by
 cases r with
 |@o h' a eb =>
  have e:(match om[h']? with|some (.lst ws)=>some (h',ws)|_=>none)=some (h,ws):=e
  match hx:om[h']?,e with
  |none,e=>exact nomatch e
  |some (.ins _ _),e=>exact nomatch e
  |some (.exc _),e=>exact nomatch e
  |some (.dz _),e=>exact nomatch e
  |some (.dt _),e=>exact nomatch e
  |some (.dk kvs),e=>exact nomatch e
  |some (.lst us),e =>
   have e:some (h',us)=some (h,ws):=e
   cases e
   obtain ⟨a',ea,_,xs,hxs,rs⟩:=M.at hx
   have ea2:=ea
   rw[eb]at ea; cases ea
   exact ⟨_,xs,rfl,hx,ea2,rfl,hxs,rs⟩
 |_=>exact nomatch e
def Ig (x:Wv):Mw Unit:=fun om=>match Xj om x with
 |some _=>some (.ok (),om)
 |none=>none
theorem Lo {γ:Type} {k:Unit->Mw γ} {F H:Hp} {β:List Addr} {om:List Ob} {w:Wv} {v:V} {P:γ->Hp->Hp->List Addr->Prop} (M:MOk F H β om) (r:RW F β w v) (R:Res E (bnd (Ig w) k om) F H β P) :
    tyV X.K "list" v H∧Res E (k () om) F H β P:=by
 unfold bnd Ig at R
 match hx:Xj om w,R with
 |none,R=>exact R.elim
 |some (h,ws),R =>
  obtain ⟨a,xs,_,_,_,rfl,ha,_⟩:=Vp M r hx
  exact ⟨.inl ⟨rfl,xs,SqL.of ha⟩,R⟩
def C6 (x y:Wv):Mw Wv:=fun om=>match Xj om x with
 |some (h,ws)=>if ws.length < lim then some (.ok .non,om.set h (.lst (ws++[y]))) else none
 |none=>none
def JV (fo f:FE):FE:=fun sl=>bnd (fo sl) fun x=>bnd (Ig x) fun _=>bnd (f sl) fun y=>C6 x y
theorem T8 {apos cpos:Pos} (ho:PE X o (tE E fo)) (he:PE X e (tE E f)) (hbase:attributeBase o "append" X.env (eval o X.env)=eval o X.env:=by rfl)
    (hfew:((backTo cpos (starEach [e] X.env)).all (fun x=>!x.1)&&(backToKw cpos (keywordEach [] X.env)).all (fun x=>x.1.isSome)
     && decide (([e]:List Expr).length+([]:List Keyword).length+(if ([]:List Keyword).isEmpty then 0 else 1) < 30))=true:=by rfl)
    (hline:(apos.endLine == cpos.line)=true:=by rfl) (hs:starEach [e] X.env=(false,eval e X.env)::starEach [] X.env:=by rfl) (hplain:(backTo cpos (starEach [] X.env)).any (·.1)=false:=by rfl) :
    PE X (.Call (.Attribute o "append" apos) [e] [] cpos) (tE E (JV fo f)):=(IE PySem.F.plainAttrs_list PySem.F.slot_list_append PySem.F.type_list_append Ij ho (XY he VQ hs) hbase hfew hline hs hplain).weak fun σ H Q ⟨F,β,om,sl,M,V,R⟩=>by
 refine ⟨F,β,om,sl,M,V,R.bind fun x om1 F1 H1 β1 g1 M1 R1 v rv=>?_⟩
 obtain ⟨ty,R2⟩:=Lo (X:=X) M1 rv R1
 refine ⟨ty,F1,β1,om1,sl,M1,V.mono g1.toGr,R2.bind fun y om3 F3 H3 β3 g3 M3 R3 u ru=>?_⟩
 show Jc v [u] H3 Q
 unfold C6 at R3
 match hx:Xj om3 x,R3 with
 |none,R3=>exact R3.elim
 |some (h,ws),R3 =>
  dsimp only at R3
  obtain ⟨a,xs,_,_,eb,rfl,ha,rs⟩:=Vp M3 (rv.mono g3.toGr) hx
  by_cases hc:ws.length < lim
  ·rw[if_pos hc]at R3
   have:=VS
   have:=rs.length
   refine ⟨a,xs,u,rfl,rfl,ha,by omega,?_⟩
   exact R3 F3 _ β3 (M3.gxP eb (nz ha)) (M3.put eb ⟨xs++[u],ZH,rs.append (.cons ru .nil)⟩) _ .non
  ·rw[if_neg hc]at R3; exact R3.elim
def NC (x:Wv):Mw Wv:=fun om=>match Xj om x with
 |some (h,_)=>some (.ok .non,om.set h (.lst []))
 |none=>none
theorem HB {apos cpos:Pos} (ho:PE X o (tE E fo)) (hbase:attributeBase o "clear" X.env (eval o X.env)=eval o X.env:=by rfl) (hline:(apos.endLine == cpos.line)=true:=by rfl) :
    PE X (.Call (.Attribute o "clear" apos) [] [] cpos) (tE E (f1 NC fo)):=(Gi PySem.F.plainAttrs_list PySem.F.slot_list_clear PySem.F.type_list_clear Gy ho hbase hline).weak fun σ H Q h=>by
 refine MQ (r:=fun x H1 Q=>tyV X.K "list" x H1∧IP x [] H1 Q) ?_ h
 intro F H β om x v Q M rx R
 unfold NC at R
 match hx:Xj om x,R with
 |none,R=>exact R.elim
 |some (h,ws),R =>
  obtain ⟨a,xs,_,_,eb,rfl,ha,rs⟩:=Vp M rx hx
  exact ⟨.inl ⟨rfl,xs,SqL.of ha⟩,a,xs,rfl,rfl,ha,R F _ β (M.gxP eb (nz ha)) (M.put eb ⟨[],ZH,.nil⟩) _ .non⟩
end
end
end L2
namespace L2
noncomputable section
open PySem PySem.Spec PyProof.Rows
def YR:Wv->Option Key
 |.int i=>some (.inl i)
 |.str x=>some (.inr x)
 |_=>none
def WK:List Wv->Option (List Key)
 |[]=>some []
 |w::r=>match YR w,WK r with
  |some k,some ks=>some (k::ks)
  |_,_=>none
theorem UG {F:Hp} {β:List Addr} {w:Wv} {v:V} {k:Key} (r:RW F β w v) (e:YR w=some k):v=kV k:=by
 cases r <;> first|(cases e; rfl)|exact nomatch e
theorem U4 {F:Hp} {β:List Addr}:∀{ws:List Wv} {vs:List V} {ks:List Key},RWs F β ws vs->WK ws=some ks->vs=ks.map kV
 |_,_,_,.nil,e=>by unfold WK at e; cases e; rfl
 |_,_,_,.cons (w:=w) (ws:=ws) h r,e=>by
  unfold WK at e
  match h1:YR w,h2:WK ws,e with
  |some k,some ks,e =>
   have e:some (k::ks)=some _:=e
   cases e
   rw[List.map_cons,← UG h h1,← U4 r h2]
  |some k,none,e=>exact nomatch e
  |none,_,e=>exact nomatch e
section
variable {κ:Type} [DecidableEq κ]
def Vg (kvs:List (κ × Wv)) (k:κ):Option Wv:=(kvs.find? fun kv=>decide (kv.1=k)).map (·.2)
def WB (kvs:List (κ × Wv)) (k:κ) (v:Wv):List (κ × Wv) :=
 if (kvs.any fun kv=>decide (kv.1=k))=true then kvs.map (fun kv=>if kv.1=k then (kv.1,v) else kv) else kvs++[(k,v)]
def HJ (kvs:List (κ × Wv)) (k:κ):List (κ × Wv):=kvs.filter fun kv=>decide (kv.1≠k)
variable {F:Hp} {β:List Addr}
def ROp (F:Hp) (β:List Addr) (o:Option Wv) (u:Option V):Prop:=match o with
 |some w=>∃v,u=some v∧RW F β w v
 |none=>u=none
theorem RK.val:∀{ps:List (κ × Wv)} {qs:List (κ × V)},RK F β ps qs->∀k,ROp F β (Vg ps k) (TF qs k)
 |_,_,.nil,_=>rfl
 |_,_,.cons (k:=k') h r,k=>by
  unfold Vg TF
  rw[List.find?_cons,List.find?_cons]
  by_cases hk:k'=k
  ·simp only[hk,decide_true]; exact ⟨_,rfl,h⟩
  ·simp only[hk,decide_false]; exact RK.val r k
theorem RK.any:∀{ps:List (κ × Wv)} {qs:List (κ × V)},RK F β ps qs->∀k,(ps.any fun kv=>decide (kv.1=k))=(qs.any fun kv=>decide (kv.1=k))
 |_,_,.nil,_=>rfl
 |_,_,.cons (k:=k') h r,k=>by rw[List.any_cons,List.any_cons,RK.any r k]
theorem RK.repl {k:κ} {w:Wv} {v:V} (h:RW F β w v):∀{ps:List (κ × Wv)} {qs:List (κ × V)},RK F β ps qs->RK F β (ps.map fun kv=>if kv.1=k then (kv.1,w) else kv) (qs.map fun kv=>if kv.1=k then (kv.1,v) else kv)
 |_,_,.nil=>.nil
 |_,_,.cons (k:=k') h' r=>by
  rw[List.map_cons,List.map_cons]
  by_cases hk:k'=k
  ·simp only[hk,if_true]; exact .cons h (RK.repl h r)
  ·simp only[hk,if_false]; exact .cons h' (RK.repl h r)
theorem RK.append:∀{ps:List (κ × Wv)} {qs:List (κ × V)} {ps':List (κ × Wv)} {qs':List (κ × V)},RK F β ps qs->RK F β ps' qs'->RK F β (ps++ps') (qs++qs')
 |_,_,_,_,.nil,s=>s
 |_,_,_,_,.cons h r,s=>.cons h (RK.append r s)
theorem RK.put {ps:List (κ × Wv)} {qs:List (κ × V)} {k:κ} {w:Wv} {v:V} (r:RK F β ps qs) (h:RW F β w v):RK F β (WB ps k w) (Tn qs k v):=by
 unfold WB Tn
 rw[r.any k]
 by_cases hc:(qs.any fun kv=>decide (kv.1=k))=true
 ·rw[if_pos hc,if_pos hc]; exact r.repl h
 ·rw[if_neg hc,if_neg hc]; exact r.append (.cons h .nil)
theorem RK.drop {k:κ}:∀{ps:List (κ × Wv)} {qs:List (κ × V)},RK F β ps qs->RK F β (HJ ps k) (Je qs k)
 |_,_,.nil=>.nil
 |_,_,.cons (k:=k') h r=>by
  unfold HJ Je
  rw[List.filter_cons,List.filter_cons]
  by_cases hk:k'=k
  ·simp only[hk,ne_eq,not_true_eq_false,decide_false]; exact RK.drop r
  ·simp only[hk,ne_eq,not_false_eq_true,decide_true]; exact .cons h (RK.drop r)
end
def X4 (om:List Ob) (d key:Wv):Option (Option Wv):=match d with
 |.o h=>match om[h]? with
  |some (.dk kvs)=>match YR key with
   |some k=>some (Vg kvs k)
   |none=>none
  |some (.dz kvs)=>match YR key with
   |some k=>some (Vg kvs k)
   |none=>none
  |some (.dt kvs)=>match key with
   |.tup ws=>match WK ws with
    |some ks=>some (Vg kvs ks)
    |none=>none
   |_=>none
  |_=>none
 |_=>none
theorem Ut {F H:Hp} {β:List Addr} {om:List Ob} {d key:Wv} {vd vk:V} {r:Option Wv} (M:MOk F H β om) (rd:RW F β d vd) (rk:RW F β key vk) (e:X4 om d key=some r):∃a o,vd=.ref a∧DGet H a vk o∧ROp F β r o:=by
 cases rd with
 |@o h a eb =>
  unfold X4 at e
  dsimp only at e
  match hx:om[h]?,e with
  |none,e=>exact nomatch e
  |some (.ins _ _),e=>exact nomatch e
  |some (.exc _),e=>exact nomatch e
  |some (.lst _),e=>exact nomatch e
  |some (.dk kvs),e =>
   obtain ⟨a',ea,_,ks,hk,rs⟩:=M.at hx
   rw[eb]at ea; cases ea
   dsimp only at e
   match h1:YR key,e with
   |none,e=>exact nomatch e
   |some k,e =>
    have e:some (Vg kvs k)=some r:=e
    cases e
    rw[UG rk h1]
    exact ⟨_,_,rfl,DGet.k hk,rs.val k⟩
  |some (.dz kvs),e =>
   obtain ⟨a',ea,_,ob,ks,hk,rs⟩:=M.at hx
   rw[eb]at ea; cases ea
   dsimp only at e
   match h1:YR key,e with
   |none,e=>exact nomatch e
   |some k,e =>
    have e:some (Vg kvs k)=some r:=e
    cases e
    rw[UG rk h1]
    exact ⟨_,_,rfl,.inl ⟨ks,k,.inr ⟨ob,hk⟩,rfl,rfl⟩,rs.val k⟩
  |some (.dt kvs),e =>
   obtain ⟨a',ea,_,ks,hk,rs⟩:=M.at hx
   rw[eb]at ea; cases ea
   dsimp only at e
   cases rk with
   |@tup b xs ws q rw' =>
    dsimp only at e
    match h1:WK ws,e with
    |none,e=>exact nomatch e
    |some k,e =>
     have e:some (Vg kvs k)=some r:=e
     cases e
     have hb:=M.sub _ _ q
     rw[U4 rw' h1]at hb
     exact ⟨_,_,rfl,DGet.t hk hb,rs.val k⟩
   |_=>exact nomatch e
 |_=>unfold X4 at e; cases e
def Sv (om:List Ob) (d key w:Wv):Option (List Ob):=match d with
 |.o h=>match om[h]? with
  |some (.dk kvs)=>match YR key with
   |some k=>if kvs.length < lim then some (om.set h (.dk (WB kvs k w))) else none
   |none=>none
  |some (.dt kvs)=>match key with
   |.tup ws=>match WK ws with
    |some ks=>if kvs.length < lim then some (om.set h (.dt (WB kvs ks w))) else none
    |none=>none
   |_=>none
  |_=>none
 |_=>none
theorem Gg {F H:Hp} {β:List Addr} {om om':List Ob} {d key w:Wv} {vd vk v:V} (M:MOk F H β om) (rd:RW F β d vd) (rk:RW F β key vk) (rw':RW F β w v) (e:Sv om d key w=some om'):∃a H',vd=.ref a∧DPut H a vk v H'∧Gx F F H H' β β∧MOk F H' β om':=by
 have hlim:=VS
 cases rd with
 |@o h a eb =>
  unfold Sv at e
  dsimp only at e
  match hx:om[h]?,e with
  |none,e=>exact nomatch e
  |some (.ins _ _),e=>exact nomatch e
  |some (.exc _),e=>exact nomatch e
  |some (.dz _),e=>exact nomatch e
  |some (.lst _),e=>exact nomatch e
  |some (.dk kvs),e =>
   obtain ⟨a',ea,_,ks,hk,rs⟩:=M.at hx
   have eb2:=ea
   rw[eb]at ea; cases ea
   dsimp only at e
   match h1:YR key,e with
   |none,e=>exact nomatch e
   |some k,e =>
    have e:(if kvs.length < lim then some (om.set h (.dk (WB kvs k w))) else none)=some om':=e
    by_cases hc:kvs.length < lim
    ·rw[if_pos hc]at e
     cases e
     rw[UG rk h1]
     have:=rs.length
     exact ⟨_,_,rfl,DPut.k hk (by omega),M.gxP eb2 (nz hk),M.put eb2 ⟨_,ZH,rs.put rw'⟩⟩
    ·rw[if_neg hc]at e; exact nomatch e
  |some (.dt kvs),e =>
   obtain ⟨a',ea,_,ks,hk,rs⟩:=M.at hx
   have eb2:=ea
   rw[eb]at ea; cases ea
   dsimp only at e
   cases rk with
   |@tup b xs ws q rw2 =>
    dsimp only at e
    match h1:WK ws,e with
    |none,e=>exact nomatch e
    |some k,e =>
     have e:(if kvs.length < lim then some (om.set h (.dt (WB kvs k w))) else none)=some om':=e
     by_cases hc:kvs.length < lim
     ·rw[if_pos hc]at e
      cases e
      have hb:=M.sub _ _ q
      rw[U4 rw2 h1]at hb
      have:=rs.length
      exact ⟨_,_,rfl,DPut.t hk hb (by omega),M.gxP eb2 (nz hk),M.put eb2 ⟨_,ZH,rs.put rw'⟩⟩
     ·rw[if_neg hc]at e; exact nomatch e
   |_=>exact nomatch e
 |_=>unfold Sv at e; cases e
def Vu (d key:Wv):Mw Wv:=fun om=>match X4 om d key with
 |some (some w)=>some (.ok w,om)
 |_=>none
def TX (neg:Bool) (key d:Wv):Mw Wv:=fun om=>match X4 om d key with
 |some r=>some (.ok (.bl (if neg then !r.isSome else r.isSome)),om)
 |none=>none
def isD (om:List Ob):Wv->Bool
 |.o h=>match om[h]? with
  |some (.dk _)=>true
  |some (.dz _)=>true
  |some (.dt _)=>true
  |_=>false
 |_=>false
def U9 (x:Wv):Mw Unit:=fun om=>if isD om x=true then some (.ok (),om) else none
def SU (d key:Wv):Mw Wv:=fun om=>match X4 om d key with
 |some r=>some (.ok (r.getD .non),om)
 |none=>none
def SF (d key z:Wv):Mw Wv:=fun om=>match X4 om d key with
 |some r=>some (.ok (r.getD z),om)
 |none=>none
def TM (fd fk:FE):FE:=fun sl=>bnd (fd sl) fun d=>bnd (U9 d) fun _=>bnd (fk sl) fun k=>SU d k
def RJ (fd fk fz:FE):FE:=fun sl=>bnd (fd sl) fun d=>bnd (U9 d) fun _=>bnd (fk sl) fun k=>bnd (fz sl) fun z=>SF d k z
def G9 (d key:Wv):Mw Wv:=fun om=>match d with
 |.o h=>match om[h]? with
  |some (.dk kvs)=>match YR key with
   |some k=>match Vg kvs k with
    |some w=>some (.ok w,om.set h (.dk (HJ kvs k)))
    |none=>none
   |none=>none
  |_=>none
 |_=>none
def EI (fd fk:FE):FE:=fun sl=>bnd (fd sl) fun d=>bnd (U9 d) fun _=>bnd (fk sl) fun k=>G9 d k
section
variable {X:Cx} {E:XK} {e a b c o i:Expr} {fd fk fz:FE} {pos p2 p apos cpos:Pos}
theorem ROp.isSome {F:Hp} {β:List Addr} {r:Option Wv} {o:Option V} (h:ROp F β r o):r.isSome=o.isSome:=by
 match r,h with
 |some w,⟨v,e,_⟩=>rw[e]; rfl
 |none,h=>rw[show o=none from h]; rfl
theorem ROp.getD {F:Hp} {β:List Addr} {r:Option Wv} {o:Option V} {w:Wv} {v:V} (h:ROp F β r o) (q:RW F β w v):RW F β (r.getD w) (o.getD v):=by
 match r,h with
 |some w,⟨v,e,h⟩=>rw[e]; exact h
 |none,h=>rw[show o=none from h]; exact q
theorem Tv (hu:X.A.units+64 < cLine) (ho:PE X o (tE E fd)) (hi:PE X i (tE E fk)) (hs:CZ i:=by intro _ _; rfl):PE X (.Subscript o i pos) (tE E (f2 Vu fd fk)):=(EU (by omega) ho hi hs).weak fun σ H Q h=>by
 refine La (r:=fun x y H2 Q=>∃a v,x=.ref a∧DGet H2 a y (some v)∧Q v H2) ?_ h
 intro F H β om x y v u Q M rx ry R
 unfold Vu at R
 match hx:X4 om x y,R with
 |none,R=>exact R.elim
 |some none,R=>exact R.elim
 |some (some w),R =>
  obtain ⟨a,o',rfl,hg,z,rfl,rz⟩:=Ut M rx ry hx
  exact ⟨a,z,rfl,hg,(show Res E (ret w om) F H β (PV Q) from R).now M _ rz⟩
theorem BN (hu:X.A.units+64 < cLine) (hi:PE X i (tE E fk)) (ho:PE X o (tE E fd)) (h1:behindInMarks .In o=false:=by with_unfolding_all rfl):PE X (.Compare i [.In] [o] pos) (tE E (f2 (TX false) fk fd)):=(Kn (H9 (by omega) hi ho) h1).weak fun σ H Q h=>by
 refine La (r:=fun y x H2 Q=>∃a o,x=.ref a∧DGet H2 a y o∧Q (.bl o.isSome) H2) ?_ h
 intro F H β om y x u v Q M ry rx R
 unfold TX at R
 match hx:X4 om x y,R with
 |none,R=>exact R.elim
 |some r,R =>
  obtain ⟨a,o',rfl,hg,ro⟩:=Ut M rx ry hx
  refine ⟨a,o',rfl,hg,?_⟩
  rw[← ro.isSome]
  exact (show Res E (ret (Wv.bl r.isSome) om) F H β (PV Q) from R).now M _ (.bl _)
theorem C1 (hu:X.A.units+64 < cLine) (hi:PE X i (tE E fk)) (ho:PE X o (tE E fd)) (h1:behindInMarks .In o=false:=by with_unfolding_all rfl):PT X (.Compare i [.In] [o] pos) (tT E (fB (f2 (TX false) fk fd))):=(Lz (H9 (by omega) hi ho) h1).weak fun σ H Q h=>by
 refine La (r:=fun y x H2 Q=>∃a o,x=.ref a∧DGet H2 a y o∧Q (.bl o.isSome) H2) ?_ (Hq h)
 intro F H β om y x u v Q M ry rx R
 unfold TX at R
 match hx:X4 om x y,R with
 |none,R=>exact R.elim
 |some r,R =>
  obtain ⟨a,o',rfl,hg,ro⟩:=Ut M rx ry hx
  refine ⟨a,o',rfl,hg,?_⟩
  rw[← ro.isSome]
  exact (show Res E (ret (Wv.bl r.isSome) om) F H β (PV Q) from R).now M _ (.bl _)
theorem Mu {γ:Type} {k:Unit->Mw γ} {F H:Hp} {β:List Addr} {om:List Ob} {w:Wv} {v:V} {P:γ->Hp->Hp->List Addr->Prop} (M:MOk F H β om) (r:RW F β w v) (R:Res E (bnd (U9 w) k om) F H β P):∃a,v=.ref a∧IsD H a∧Res E (k () om) F H β P:=by
 by_cases hc:isD om w=true
 ·have e1:U9 w om=some (.ok (),om):=if_pos hc
  unfold bnd at R
  rw[e1]at R
  have R1:Res E (k () om) F H β P:=R
  clear R
  cases r with
  |@o h a eb =>
   refine ⟨a,rfl,?_,R1⟩
   have hc:(match om[h]? with|some (.dk _)=>true|some (.dz _)=>true|some (.dt _)=>true|_=>false)=true:=hc
   match hx:om[h]?,hc with
   |none,e=>exact nomatch e
   |some (.ins _ _),e=>exact nomatch e
   |some (.exc _),e=>exact nomatch e
   |some (.lst _),e=>exact nomatch e
   |some (.dk kvs),e =>
    obtain ⟨a',ea,_,ks,hk,rs⟩:=M.at hx
    rw[eb]at ea; cases ea
    exact .inl ⟨ks,.inl hk⟩
   |some (.dz kvs),e =>
    obtain ⟨a',ea,_,ob,ks,hk,rs⟩:=M.at hx
    rw[eb]at ea; cases ea
    exact .inl ⟨ks,.inr ⟨ob,hk⟩⟩
   |some (.dt kvs),e =>
    obtain ⟨a',ea,_,ks,hk,rs⟩:=M.at hx
    rw[eb]at ea; cases ea
    exact .inr ⟨ks,.inl hk⟩
  |_=>exact nomatch hc
 ·have e1:U9 w om=none:=if_neg hc
  unfold bnd at R
  rw[e1]at R
  exact R.elim
theorem EO (hu:X.A.units+64 < cLine) (ho:PE X o (tE E fd)) (he:PE X e (tE E fk)) (m:M1 X o "get" apos e cpos:=by exact ⟨rfl,rfl,rfl,rfl⟩):PE X (.Call (.Attribute o "get" apos) [e] [] cpos) (tE E (TM fd fk)):=(Gc (by omega) ho he m).weak fun σ H Q ⟨F,β,om,sl,M,V,R⟩=>by
 refine ⟨F,β,om,sl,M,V,R.bind fun x om1 F1 H1 β1 g1 M1 R1 v rv=>?_⟩
 obtain ⟨a,rfl,hd,R2⟩:=Mu M1 rv R1
 refine ⟨a,rfl,hd,F1,β1,om1,sl,M1,V.mono g1.toGr,R2.bind fun y om3 F3 H3 β3 g3 M3 R3 u ru=>?_⟩
 unfold SU at R3
 match hx:X4 om3 x y,R3 with
 |none,R=>exact R.elim
 |some r,R =>
  obtain ⟨a',o',e,hg,ro⟩:=Ut M3 (rv.mono g3.toGr) ru hx
  cases e
  exact ⟨o',hg,(show Res E (ret (r.getD Wv.non) om3) F3 H3 β3 _ from R).now M3 _ (ro.getD .non)⟩
theorem Kx {f':Expr} (hu:X.A.units+64 < cLine) (ho:PE X o (tE E fd)) (he:PE X e (tE E fk)) (hf:PE X f' (tE E fz)) (m:M2 X o "get" apos e f' cpos:=by exact ⟨rfl,rfl,rfl,rfl⟩):PE X (.Call (.Attribute o "get" apos) [e,f'] [] cpos) (tE E (RJ fd fk fz)):=(G8 (by omega) ho he hf m).weak fun σ H Q ⟨F,β,om,sl,M,V,R⟩=>by
 refine ⟨F,β,om,sl,M,V,R.bind fun x om1 F1 H1 β1 g1 M1 R1 v rv=>?_⟩
 obtain ⟨a,rfl,hd,R2⟩:=Mu M1 rv R1
 refine ⟨a,rfl,hd,F1,β1,om1,sl,M1,V.mono g1.toGr,R2.bind fun y om3 F3 H3 β3 g3 M3 R3 u ru=>?_⟩
 refine ⟨F3,β3,om3,sl,M3,V.mono (g1.trans g3).toGr,R3.bind fun z om4 F4 H4 β4 g4 M4 R4 zv rz=>?_⟩
 unfold SF at R4
 match hx:X4 om4 x y,R4 with
 |none,R=>exact R.elim
 |some r,R =>
  obtain ⟨a',o',e,hg,ro⟩:=Ut M4 (rv.mono (g3.trans g4).toGr) (ru.mono g4.toGr) hx
  cases e
  exact ⟨o',hg,(show Res E (ret (r.getD z) om4) F4 H4 β4 _ from R).now M4 _ (ro.getD rz)⟩
theorem TJ:PE X (.Dict [] [] pos) (tE E fun _=>newO (.dk [])):=Gb.weak fun σ H Q ⟨F,β,om,sl,M,V,R⟩ p hp=>Res.newO R M hp fun β' _=>⟨[],ZH,.nil⟩
theorem II:PE X (.Dict [] [] pos) (tE E fun _=>newO (.dt [])):=I0.weak fun σ H Q ⟨F,β,om,sl,M,V,R⟩ p hp=>Res.newO R M hp fun β' _=>⟨[],ZH,.nil⟩
end
end
end L2
namespace L2
noncomputable section
open PySem PySem.Spec PyProof.Rows
def Yr:FS:=fun sl=>ret (.nx,sl)
def Kp (S:FS):Fl × Sl->Mw (Fl × Sl)
 |(.nx,sl)=>S sl
 |x=>ret x
def ZE (S1 S2:FS):FS:=fun sl=>bnd (S1 sl) (Kp S2)
def ZM (i:Nat) (f:FE):FS:=fun sl=>bnd (f sl) fun w=>ret (.nx,sl.set i (some w))
def Z8 (f:FE):FS:=fun sl=>bnd (f sl) fun _=>ret (.nx,sl)
def ZS (f:FE):FS:=fun sl=>bnd (f sl) fun w=>ret (.rt w,sl)
def Px:FS:=fun sl=>ret (.rt .non,sl)
def sIf (c:FT) (S1 S2:FS):FS:=fun sl=>bnd (c sl) fun b=>if b=true then S1 sl else S2 sl
section
variable {X:Cx} {E:XK} {st:Stmt} {rest:List Stmt} {e:Expr} {f fo fi fv:FE} {S S1 S2:FS} {c:FT} {pos:Pos}
theorem ZF:PSs X [] (tS E Yr):=Fv.weak fun D σ H ⟨F,β,om,sl,M,V,R⟩=>(show Res E (ret (Fl.nx,sl) om) F H β (FlP D) from R).now M σ V
theorem Zh (h1:PS X st (tS E S1)) (h2:PSs X rest (tS E S2)):PSs X (st::rest) (tS E (ZE S1 S2)):=(Fe h1 h2).weak fun D σ H ⟨F,β,om,sl,M,V,R⟩=>by
 refine ⟨F,β,om,sl,M,V,R.bind fun x om1 F1 H1 β1 g1 M1 R1=>?_⟩
 obtain ⟨fl,sl1⟩:=x
 cases fl with
 |nx=>exact fun σ' V'=>⟨F1,β1,om1,sl1,M1,V',R1⟩
 |bk=>exact (show Res E (ret (Fl.bk,sl1) om1) F1 H1 β1 (FlP D) from R1).now M1
 |ct=>exact (show Res E (ret (Fl.ct,sl1) om1) F1 H1 β1 (FlP D) from R1).now M1
 |rt w=>exact (show Res E (ret (Fl.rt w,sl1) om1) F1 H1 β1 (FlP D) from R1).now M1
theorem Zj (h1:PS X st (tS E S1)):PSs X [st] (tS E S1):=Ej h1
theorem ZW {i:Nat} {x:Str} {pos':Pos} (hN:X.N.Nodup) (hi:X.N[i]?=some x) (hx:Loc X.env.scope x) (he:PE X e (tE E f)) (hs:swapsWith e (some (.Name x pos')) pos.line X.env=pure false:=by rfl) (hf:X.fn x=true∨X.env.scope.names.lookup x=some .local:=by first|exact .inl rfl|exact .inr rfl|assumption) :
    PS X (.Assign [.Name x pos'] e pos) (tS E (ZM i f)):=(C3 hN hi hx he hs hf).weak fun D σ H ⟨F,β,om,sl,M,V,R⟩ =>
 ⟨F,β,om,sl,M,V,R.bind fun x om1 F1 H1 β1 g1 M1 R1 v rv=>(show Res E (ret (Fl.nx,sl.set i (some x)) om1) F1 H1 β1 (FlP D) from R1).now M1 _ ((V.mono g1.toGr).set i rv)⟩
theorem Yh (he:PE X e (tE E f)) (hs:swapsWith e none pos.line X.env=pure false:=by rfl):PS X (.Expr e pos) (tS E (Z8 f)):=(FZ he hs).weak fun D σ H ⟨F,β,om,sl,M,V,R⟩ =>
 ⟨F,β,om,sl,M,V,R.bind fun x om1 F1 H1 β1 g1 M1 R1 v rv=>(show Res E (ret (Fl.nx,sl) om1) F1 H1 β1 (FlP D) from R1).now M1 _ (V.mono g1.toGr)⟩
theorem Zt (he:PE X e (tE E f)):PS X (.Return (some e) pos) (tS E (ZS f)):=(BE he).weak fun D σ H ⟨F,β,om,sl,M,V,R⟩ =>
 ⟨F,β,om,sl,M,V,R.bind fun x om1 F1 H1 β1 g1 M1 R1 v rv=>(show Res E (ret (Fl.rt x,sl) om1) F1 H1 β1 (FlP D) from R1).now M1 _ rv⟩
theorem EZ:PS X (.Return none pos) (tS E Px):=FN.weak fun D σ H ⟨F,β,om,sl,M,V,R⟩=>(show Res E (ret (Fl.rt .non,sl) om) F H β (FlP D) from R).now M _ .non
theorem Az {D:Ends} {σ:St} {H:Hp} (h:tS E (sIf c S1 S2) D σ H):AO (tT E c) (tS E S1) (tS E S2) D σ H:=by
 obtain ⟨F,β,om,sl,M,V,R⟩:=h
 refine ⟨F,β,om,sl,M,V,R.bind fun b om1 F1 H1 β1 g1 M1 R1=>?_⟩
 cases b with
 |true=>rw[if_pos rfl]at R1 ⊢; exact ⟨F1,β1,om1,sl,M1,V.mono g1.toGr,R1⟩
 |false=>rw[if_neg Bool.false_ne_true]at R1 ⊢; exact ⟨F1,β1,om1,sl,M1,V.mono g1.toGr,R1⟩
theorem Z0 {t:Expr} {a b:List Stmt} (hc:PT X t (tT E c)) (ha:PSs X a (tS E S1)) (hb:PSs X b (tS E S2)):PS X (.If t a b pos) (tS E (sIf c S1 S2)):=(AX hc ha hb).weak fun D σ H h=>Az h
def Tx (o i v:Wv):Mw Unit:=fun om=>match Xj om o,i with
 |some (h,ws),.int k=>match ixN ws.length k with
  |some j=>some (.ok (),om.set h (.lst (ws.set j v)))
  |none=>none
 |_,_=>none
def WM (fv fo fi:FE):FS:=fun sl=>bnd (fv sl) fun v=>bnd (fo sl) fun o=>bnd (fi sl) fun i=>bnd (Tx o i v) fun _=>ret (.nx,sl)
theorem Rc {o i v:Expr} {p1:Pos} (hv:PE X v (tE E fv)) (ho:PE X o (tE E fo)) (hi:PE X i (tE E fi)) {w} (hg:PG X (.Subscript o i p1) (AA (tE E fo) (tE E fi) DA):=by exact Qv ‹_› ‹_› V8)
    (hs:swapsWithSole [.Subscript o i p1] v pos.line X.env=pure false:=by rfl) (hw:swappedStores [.Subscript o i p1] v X.env=pure w:=by rfl)
    (h1:(assignEach [.Subscript o i p1] X.env).map (·.2)=[assign (.Subscript o i p1) X.env]:=by rfl) (hwn:w=none:=by rfl):PS X (.Assign [.Subscript o i p1] v pos) (tS E (WM fv fo fi)):=by
 subst hwn
 refine (Co hv hg hs hw h1).weak fun D σ H ⟨F,β,om,sl,M,V,R⟩=>?_
 refine ⟨F,β,om,sl,M,V,R.bind fun x om1 F1 H1 β1 g1 M1 R1 xv rx=>?_⟩
 refine ⟨F1,β1,om1,sl,M1,V.mono g1.toGr,R1.bind fun y om2 F2 H2 β2 g2 M2 R2 yv ry=>?_⟩
 refine ⟨F2,β2,om2,sl,M2,V.mono (g1.trans g2).toGr,R2.bind fun z om3 F3 H3 β3 g3 M3 R3 zv rz=>?_⟩
 unfold bnd Tx at R3
 match hx:Xj om3 y,z,rz,R3 with
 |none,_,_,R3=>exact R3.elim
 |some (h,ws),.int k,.int _,R3 =>
  dsimp only at R3
  obtain ⟨a,xs,_,_,eb,rfl,ha,rs⟩:=Vp M3 (ry.mono g3.toGr) hx
  match hj:ixN ws.length k,R3 with
  |none,R3=>exact R3.elim
  |some j,R3 =>
   refine ⟨a,xs,k,j,rfl,rfl,ha,by rw[← rs.length]; exact hj,?_⟩
   exact (show Res E (some (Except.ok (Fl.nx,sl),om3.set h (.lst (ws.set j x)))) F3 H3 β3 (FlP D) from R3) F3 _ β3 (M3.gxP eb (nz ha)) (M3.put eb ⟨_,ZH,RWs.set (rx.mono (g2.trans g3).toGr) j rs⟩) σ (V.mono (g1.trans (g2.trans g3)).toGr)
def UM (v d k:Wv):Mw Unit:=fun om=>match Sv om d k v with
 |some om'=>some (.ok (),om')
 |none=>none
def Y2 (fv fd fk:FE):FS:=fun sl=>bnd (fv sl) fun v=>bnd (fd sl) fun d=>bnd (fk sl) fun k=>bnd (UM v d k) fun _=>ret (.nx,sl)
theorem W0 {o i v:Expr} {p1:Pos} (hu:X.A.units+64 < cLine) (hv:PE X v (tE E fv)) (ho:PE X o (tE E fo)) (hi:PE X i (tE E fi)) (hs:swapsWith v (some (.Subscript o i p1)) pos.line X.env=pure false:=by rfl) :
    PS X (.Assign [.Subscript o i p1] v pos) (tS E (Y2 fv fo fi)):=by
 refine (Ex (by omega) ho hi hv hs).weak fun D σ H ⟨F,β,om,sl,M,V,R⟩=>?_
 refine ⟨F,β,om,sl,M,V,R.bind fun x om1 F1 H1 β1 g1 M1 R1 xv rx=>?_⟩
 refine ⟨F1,β1,om1,sl,M1,V.mono g1.toGr,R1.bind fun y om2 F2 H2 β2 g2 M2 R2 yv ry=>?_⟩
 refine ⟨F2,β2,om2,sl,M2,V.mono (g1.trans g2).toGr,R2.bind fun z om3 F3 H3 β3 g3 M3 R3 zv rz=>?_⟩
 unfold bnd UM at R3
 match hx:Sv om3 y z x,R3 with
 |none,R3=>exact R3.elim
 |some om',R3 =>
  obtain ⟨a,H',rfl,hp,gg,MM⟩:=Gg M3 (ry.mono g3.toGr) rz (rx.mono (g2.trans g3).toGr) hx
  exact ⟨a,H',rfl,hp,(show Res E (some (Except.ok (Fl.nx,sl),om')) F3 H3 β3 (FlP D) from R3) F3 H' β3 gg MM σ (V.mono (g1.trans (g2.trans g3)).toGr)⟩
def Ts (f:Str) (v:Wv):List (Str × Wv)->List (Str × Wv)
 |[]=>[(f,v)]
 |(g,u)::r=>if g=f then (g,v)::r else (g,u)::Ts f v r
theorem RK.putF {F:Hp} {β:List Addr} {n:Str} {w:Wv} {v:V} (h:RW F β w v):∀{ps:List (Str × Wv)} {qs:List (Str × V)},RK F β ps qs->RK F β (Ts n w ps) (L2.putF n v qs)
 |_,_,.nil=>.cons h .nil
 |_,_,.cons (k:=k') h' r=>by
  unfold Ts L2.putF
  by_cases hk:k'=n
  ·rw[if_pos hk,if_pos hk]; exact .cons h r
  ·rw[if_neg hk,if_neg hk]; exact .cons h' (RK.putF h r)
def Q4 (C:Addr) (n:Str) (v x:Wv):Mw Unit:=fun om=>match x with
 |.o h=>match om[h]? with
  |some (.ins C' fs)=>if C'=C∧fs.length < 900 then some (.ok (),om.set h (.ins C' (Ts n v fs))) else none
  |_=>none
 |_=>none
def Ui (C:Addr) (n:Str) (fv fo:FE):FS:=fun sl=>bnd (fv sl) fun v=>bnd (fo sl) fun x=>bnd (Q4 C n v x) fun _=>ret (.nx,sl)
theorem Sk {o v:Expr} {n:Str} {C:Addr} {p1:Pos} (cl:Cls X.K C) (na:NoAttr X.K C n) (hv:PE X v (tE E fv)) (ho:PE X o (tE E fo)) (hs:swapsWith v (some (.Attribute o n p1)) pos.line X.env=pure false:=by rfl) :
    PS X (.Assign [.Attribute o n p1] v pos) (tS E (Ui C n fv fo)):=by
 refine (CP ho hv hs).weak fun D σ H ⟨F,β,om,sl,M,V,R⟩=>?_
 refine ⟨F,β,om,sl,M,V,R.bind fun x om1 F1 H1 β1 g1 M1 R1 xv rx=>?_⟩
 refine ⟨F1,β1,om1,sl,M1,V.mono g1.toGr,R1.bind fun y om2 F2 H2 β2 g2 M2 R2 yv ry=>?_⟩
 unfold bnd Q4 at R2
 cases ry with
 |@o h a eb =>
  dsimp only at R2
  match hx:om2[h]?,R2 with
  |none,R=>exact R.elim
  |some (.exc _),R=>exact R.elim
  |some (.dz _),R=>exact R.elim
  |some (.lst _),R=>exact R.elim
  |some (.dt _),R=>exact R.elim
  |some (.dk _),R=>exact R.elim
  |some (.ins C' fs),R =>
   obtain ⟨a',ea,_,dx,fs',hf,rs⟩:=M2.at hx
   have eb2:=ea
   rw[eb]at ea; cases ea
   dsimp only at R
   by_cases hc:C'=C∧fs.length < 900
   ·have R5:Res E (some (Except.ok (Fl.nx,sl),om2.set h (.ins C' (Ts n x fs)))) F2 H2 β2 (FlP D):=by
     have:=R
     rw[if_pos hc]at this
     exact this
    obtain ⟨rfl,hl⟩:=hc
    have:=rs.length
    refine ⟨a,C',dx,fs',rfl,hf,cl,na,by omega,?_⟩
    exact R5 F2 _ β2 (M2.gxP eb2 (nz hf)) (M2.put eb2 ⟨dx,_,ZH,rs.putF (rx.mono g2.toGr)⟩) σ (V.mono (g1.trans g2).toGr)
   ·rw[if_neg hc]at R; exact R.elim
 |_=>exact R2.elim
end
def ItC (C:Hp->Prop) (J:It) (ws:List Wv) (F:Hp) (β:List Addr):Prop:=∀F' β' H,Gr F F' β β'->Same F' H->C H->(∀(i:Nat) w,ws[i]?=some w->J.go i H∧∀x H',J.yld i H x H'->H'=H∧RW F' β' w x)∧∀i,ws.length<=i->J.stop i H
abbrev Mi:=ItC fun _=>True
theorem ItC.mono {C:Hp->Prop} {J:It} {ws:List Wv} {F F':Hp} {β β':List Addr} (h:ItC C J ws F β) (g:Gr F F' β β'):ItC C J ws F' β':=fun F2 β2 H g2 s=>h F2 β2 H (g.trans g2) s
abbrev FI:=Sl->Mw (List Wv)
def tI (E:XK) (f:FI):TI:=fun σ H R=>∃F β om sl,MOk F H β om∧EnvOk F β σ sl∧Res E (f sl om) F H β fun ws F' H' β'=>∀J,Mi J ws F' β'->R J H'
theorem PI.weak {X:Cx} {tg e:Expr} {t t':TI} (h:PI X tg e t) (w:∀σ H Q,t' σ H Q->t σ H Q):PI X tg e t':=fun pins s σ H Q I q=>h pins s σ H Q I (w σ H Q q)
def Yb:Wv->Mw (List Wv)
 |.lst ws=>ret ws
 |_=>Xn
def Xm (n:Nat):List Wv:=(List.range n).map fun (i:Nat)=>.int i
def JM (lo:Int) (n:Nat):List Wv:=(List.range n).map fun (i:Nat)=>.int (lo+i)
def Yl:Wv->Mw (List Wv)
 |.int j=>bnd (chk (decide (-(2 ^ 62)<=j∧j < 2 ^ 62))) fun _=>ret (Xm j.toNat)
 |_=>Xn
def Oq:Wv->Wv->Mw (List Wv)
 |.int i,.int j=>bnd (chk (decide (-(2 ^ 62)<=i∧i < 2 ^ 62∧-(2 ^ 62)<=j∧j < 2 ^ 62))) fun _=>ret (JM i (j - i).toNat)
 |_,_=>Xn
section
variable {X:Cx} {E:XK} {e a b tg:Expr} {es:List Expr} {f:FE} {fs:FA} {p pos:Pos}
theorem Ct {K:PySem.W.Frag} {F:Hp} {β:List Addr} {a:Addr} {xs:List V} {ws:List Wv} (q:Rd F a (.lst xs)) (rs:RWs F β ws xs):Mi (Itl K a) ws F β:=fun F' β' H g s _=>by
 have hS:SqL K H a xs:=.inl (Rd.same s (Rd.same g.same q))
 refine ⟨fun i w e=>?_,fun i hi=>⟨xs,hS,by rw[← rs.length]; exact hi⟩⟩
 obtain ⟨v,ev,rv⟩:=rs.get e
 refine ⟨⟨xs,v,hS,ev⟩,fun x H' ⟨e1,e2⟩=>⟨e1,?_⟩⟩
 have:=e2 xs hS
 rw[ev]at this
 cases this
 exact rv.mono g
theorem HD {F:Hp} {β:List Addr} (lo:Int) (n:Nat):Mi (Itr lo n) (JM lo n) F β:=fun F' β' H g s _=>by
 unfold JM
 refine ⟨fun i w e=>?_,fun i hi=>(show n<=i by simpa using hi)⟩
 have hi:i < n:=by have:=(List.getElem?_eq_some_iff.mp e).1; simpa using this
 rw[List.getElem?_map,List.getElem?_range hi]at e
 cases e
 exact ⟨hi,fun x H' ⟨e1,e2⟩=>⟨e1,by rw[e2]; exact .int _⟩⟩
theorem FW (n:Nat):Xm n=JM 0 n:=by
 unfold Xm JM
 exact List.map_congr_left fun i _=>by rw[Int.zero_add]
theorem YO (hl:PE X e (tE E f)):PI X tg e (tI E fun sl=>bnd (f sl) Yb):=(K7 hl).weak fun σ H Q ⟨F,β,om,sl,M,V,R⟩=>by
 refine ⟨F,β,om,sl,M,V,R.bind fun x om1 F1 H1 β1 g1 M1 R1 v rv=>?_⟩
 cases rv with
 |@lst a xs ws q rs=>exact ⟨a,rfl,⟨xs,.inl (Rd.same M1.sub q)⟩,(show Res E (ret ws om1) F1 H1 β1 _ from R1).now M1 _ (Ct q rs)⟩
 |_=>exact R1.elim
theorem Z6 (hg:Gl X "range") (hm:X.mg "range"=none) (ha:PE X a (tE E f)) (h0:starEach [a] X.env=(false,eval a X.env)::starEach [] X.env:=by rfl) (hs:starEach [a] X.env=[(false,eval a X.env)]:=by rfl):PI X tg (.Call (.Name "range" p) [a] [] pos) (tI E fun sl=>bnd (f sl) Yl):=(Ix hg hm (XY ha VQ h0) hs).weak fun σ H Q ⟨F,β,om,sl,M,V,R⟩=>by
 refine ⟨F,β,om,sl,M,V,R.bind fun w om1 F1 H1 β1 g1 M1 R1 v rv=>?_⟩
 cases rv with
 |int j =>
  obtain ⟨hc,R2⟩:=Res.chk R1
  obtain ⟨h1,h2⟩:=of_decide_eq_true hc
  refine ⟨j,rfl,h1,h2,?_⟩
  have R3:Res E (ret (Xm j.toNat) om1) F1 H1 β1 fun ws F' H' β'=>∀J,Mi J ws F' β'->Q J H':=R2
  exact R3.now M1 _ (by rw[FW]; exact HD 0 _)
 |_=>exact R1.elim
theorem Ib {f':FE} (hg:Gl X "range") (hm:X.mg "range"=none) (ha:PE X a (tE E f)) (hb:PE X b (tE E f')) (h0:starEach [a,b] X.env=(false,eval a X.env)::starEach [b] X.env:=by rfl) (h1:starEach [b] X.env=(false,eval b X.env)::starEach [] X.env:=by rfl)
    (hs:starEach [a,b] X.env=[(false,eval a X.env),(false,eval b X.env)]:=by rfl) (hs2:starEach [b] X.env=[(false,eval b X.env)]:=by rfl):PI X tg (.Call (.Name "range" p) [a,b] [] pos) (tI E fun sl=>bnd (f sl) fun x=>bnd (f' sl) fun y=>Oq x y):=(Jx hg hm (XY ha (XY hb VQ h1) h0) hs hs2).weak fun σ H Q ⟨F,β,om,sl,M,V,R⟩=>by
 refine ⟨F,β,om,sl,M,V,R.bind fun w om1 F1 H1 β1 g1 M1 R1 v rv=>?_⟩
 refine ⟨F1,β1,om1,sl,M1,V.mono g1.toGr,R1.bind fun y om2 F2 H2 β2 g2 M2 R2 yv ry=>?_⟩
 cases rv with
 |int i =>
  cases ry with
  |int j =>
   obtain ⟨hc,R3⟩:=Res.chk R2
   have hc:=of_decide_eq_true hc
   refine ⟨i,j,rfl,hc,?_⟩
   have R3:Res E (ret (JM i (j - i).toNat) om2) F2 H2 β2 fun ws F' H' β'=>∀J,Mi J ws F' β'->Q J H':=R3
   exact R3.now M2 _ (HD i _)
  |_=>exact R2.elim
 |_=>exact R2.elim
end
abbrev TgW:=Wv->Sl->Option Sl
def G6 (g:TG) (T:TgW):Prop:=∀{F H:Hp} {β:List Addr} {om:List Ob} {σ:St} {sl sl':Sl} {w:Wv} {v:V} {Q:St->Hp->Prop},MOk F H β om->EnvOk F β σ sl->RW F β w v->T w sl=some sl'->(∀σ',EnvOk F β σ' sl'->Q σ' H)->g v σ H Q
def tgN (i:Nat):TgW:=fun w sl=>some (sl.set i (some w))
theorem Z7 (i:Nat):G6 (Jg i) (tgN i):=fun M V r e q=>by
 cases e
 exact q _ (V.set i r)
def Vd (again:Sl->Mw (Fl × Sl)):Fl × Sl->Mw (Fl × Sl)
 |(.nx,sl)=>again sl
 |(.ct,sl)=>again sl
 |(.bk,sl)=>ret (.nx,sl)
 |(.rt w,sl)=>ret (.rt w,sl)
def Xz (T:TgW) (S:FS):List Wv->FS
 |[],sl=>ret (.nx,sl)
 |w::r,sl=>match T w sl with
  |none=>Xn
  |some sl1=>bnd (S sl1) (Vd fun sl2=>Xz T S r sl2)
def XH (fi:FI) (T:TgW) (S:FS):FS:=fun sl=>bnd (fi sl) fun ws=>Xz T S ws sl
section
variable {X:Cx} {E:XK} {tg iter:Expr} {body:List Stmt} {fi:FI} {T:TgW} {g:TG} {S:FS} {pos:Pos}
theorem CH {D:Ends} {J:It} {ws:List Wv} {σ:St} {H F:Hp} {β:List Addr} {om:List Ob} {sl:Sl} (ht:G6 g T) (hJ:Mi J ws F β) (M:MOk F H β om) (V:EnvOk F β σ sl) (R:Res E (Xz T S ws sl om) F H β (FlP D)) :
    ∃W:Nat->Nat->St->Hp->Prop,(∃m,W 0 m σ H)∧∀i m σ H,W i m σ H ->
     (J.stop i H∧D.nx σ H)∨(J.go i H∧∃N:St->Hp->Prop,(∀σ' H',N σ' H'->∃m',m' < m∧W (i+1) m' σ' H')∧∀x H',J.yld i H x H'->g x σ H' fun σ2 H2=>tS E S { D with nx:=N,ct:=N,bk:=D.nx } σ2 H2):=by
 refine ⟨fun i m σ H=>m=ws.length - i∧i<=ws.length∧∃F β om sl,Mi J ws F β∧MOk F H β om∧EnvOk F β σ sl∧Res E (Xz T S (ws.drop i) sl om) F H β (FlP D),⟨ws.length,by simp,Nat.zero_le _,F,β,om,sl,hJ,M,V,R⟩,?_⟩
 rintro i m σ H ⟨rfl,hi,F,β,om,sl,hJ,M,V,R⟩
 obtain ⟨j1,j2⟩:=hJ F β H (Gr.refl _ _) M.sub True.intro
 by_cases hlt:i < ws.length
 ·obtain ⟨go,yl⟩:=j1 i ws[i] (List.getElem?_eq_getElem hlt)
  refine .inr ⟨go,fun σ' H'=>i+1<=ws.length∧∃F β om sl,Mi J ws F β∧MOk F H' β om∧EnvOk F β σ' sl∧Res E (Xz T S (ws.drop (i+1)) sl om) F H' β (FlP D),fun σ' H' ⟨h1,h2⟩=>⟨ws.length - (i+1),by omega,rfl,h1,h2⟩,fun x H' hy=>?_⟩
  obtain ⟨rfl,rx⟩:=yl x H' hy
  rw[List.drop_eq_getElem_cons hlt]at R
  have R:Res E ((match T ws[i] sl with|none=>Xn|some sl1=>bnd (S sl1) (Vd fun sl2=>Xz T S (ws.drop (i+1)) sl2)) om) F H' β (FlP D):=R
  match hT:T ws[i] sl,R with
  |none,R=>exact R.elim
  |some sl1,R =>
   refine ht M V rx hT fun σ2 V2=>?_
   refine ⟨F,β,om,sl1,M,V2,Res.bind R fun y om1 F1 H1 β1 g1 M1 R1=>?_⟩
   obtain ⟨fl,sl2⟩:=y
   cases fl with
   |nx=>exact fun σ' V'=>⟨hlt,F1,β1,om1,sl2,hJ.mono g1.toGr,M1,V',R1⟩
   |ct=>exact fun σ' V'=>⟨hlt,F1,β1,om1,sl2,hJ.mono g1.toGr,M1,V',R1⟩
   |bk=>exact (show Res E (ret (Fl.nx,sl2) om1) F1 H1 β1 (FlP D) from R1).now M1
   |rt w=>exact (show Res E (ret (Fl.rt w,sl2) om1) F1 H1 β1 (FlP D) from R1).now M1
 ·have e:i=ws.length:=by omega
  subst e
  rw[List.drop_length]at R
  exact .inl ⟨j2 _ (Nat.le_refl _),(show Res E (ret (Fl.nx,sl) om) F H β (FlP D) from R).now M σ V⟩
theorem Y7 (hp:PassesOwn (model X.prog X.w) X.A X.env X.xe) (hc:X.calm=true) (hi:PI X tg iter (tI E fi)) (hg:PG X tg g) (ht:G6 g T) (hb:PSs X body (tS E S)) (hs:∀x,foldedSetIterable iter X.env x=pure x:=by intro _; rfl):PS X (.For tg iter body [] pos) (tS E (XH fi T S)):=(GJ hp hc hi hg hb hs).weak fun D σ H ⟨F,β,om,sl,M,V,R⟩=>by
 refine ⟨F,β,om,sl,M,V,R.bind fun ws om1 F1 H1 β1 g1 M1 R1 J hJ=>?_⟩
 exact CH ht hJ M1 (V.mono g1.toGr) R1
end
end
end L2
namespace L2
noncomputable section
open PySem PySem.Spec PyProof.Rows
def Y9 (js:List Nat) (w:Wv) (sl:Sl):Sl:=some w::js.map fun j=>(sl[j]?).join
theorem EnvOk.comp {F:Hp} {β:List Addr} {σ:St} {sl:Sl} {w:Wv} {v:V} (V:EnvOk F β σ sl) (js:List Nat) (r:RW F β w v):EnvOk F β (Xh js (some v) σ) (Y9 js w sl):=by
 refine ⟨by simp[Y9,Xh],fun i u e=>?_⟩
 cases i with
 |zero =>
  have e:some (some w)=some (some u):=e
  cases e
  exact ⟨v,rfl,r⟩
 |succ k =>
  have e:(js.map fun j=>(sl[j]?).join)[k]?=some (some u):=e
  rw[List.getElem?_map]at e
  match hj:js[k]?,e with
  |none,e=>exact nomatch e
  |some j,e =>
   have e:some (sl[j]?).join=some (some u):=e
   have e2:sl[j]?=some (some u):=by
    cases q:sl[j]? with
    |none=>rw[q]at e; cases e
    |some o =>
     rw[q]at e
     have e:some o=some (some u):=e
     cases e
     rfl
   obtain ⟨v',h1,h2⟩:=V.get j u e2
   refine ⟨v',?_,h2⟩
   show (js.map fun j=>(σ[j]?).join)[k]?=some (some v')
   rw[List.getElem?_map,hj,Option.map_some,h1]
   rfl
def VJ (again:Mw (List Wv)) (f:Mw Wv) (b:Bool):Mw (List Wv):=if b=true then bnd (ZL f) fun x=>bnd again fun xs=>ret (x::xs) else again
def Xi (c:FT) (f:FE) (mk:Wv->Sl):List Wv->Mw (List Wv)
 |[]=>ret []
 |w::r=>bnd (ZL (c (mk w))) (VJ (Xi c f mk r) (f (mk w)))
def Yn (k:List Wv->Mw Wv) (js:List Nat) (fi:FI) (c:FT) (f:FE):FE:=fun sl=>bnd (fi sl) fun ws=>bnd (chk (decide (ws.length<=lim))) fun _=>bnd (Xi c f (fun w=>Y9 js w sl) ws) k
def XE:FT:=fun _=>ret true
theorem XF {X:Cx} {E:XK}:U7 X [] (tT E XE):=fun pins s σ H Q I ⟨F,β,om,sl,M,V,R⟩=>ID pins s σ H Q I ((show Res E (ret true om) F H β _ from R).now M)
theorem Y4 {X:Cx} {E:XK} {e:Expr} {c:FT} (h:PT X e (tT E c)):U7 X [e] (tT E c):=Fk h
theorem Wc {α γ δ:Type} (m:Mw α) (k:α->Mw γ) (l:γ->Mw δ):bnd (bnd m k) l=bnd m fun x=>bnd (k x) l:=by
 funext om
 unfold bnd
 match m om with
 |none=>rfl
 |some (.ok a,om')=>rfl
 |some (.error c,om')=>rfl
def wo (H:Hp) (D:Addr):Hp:=fun b=>if b=D then none else H b
theorem V7 {H:Hp} {D:Addr} {o:HO} (e:H D=some o):upd (wo H D) D o=H:=by
 funext b
 unfold upd wo
 by_cases h:b=D
 ·rw[if_pos h,h,e]
 ·rw[if_neg h,if_neg h]
theorem NN {H:Hp} {D b:Addr} (h:b≠D):wo H D b=H b:=if_neg h
theorem UH {H:Hp} {D:Addr}:wo H D D=none:=if_pos rfl
section
variable {X:Cx} {E:XK} {js:List Nat} {c:FT} {f:FE} {k:List Wv->Mw Wv}
theorem beside {F F' Hm H':Hp} {β β':List Addr} {om om':List Ob} {D:Addr} {ys:List V} (hD:Hm D=none) (M:MOk F Hm β om) (g:Gx F F' (upd Hm D (.lst ys)) H' β β') (M':MOk F' H' β' om') :
    H' D=some (.lst ys)∧Gx F F' Hm (wo H' D) β β'∧MOk F' (wo H' D) β' om':=by
 have nD:D ∉ β:=fun hm=>by
  obtain ⟨i,hi⟩:=List.getElem?_of_mem hm
  obtain ⟨x,hx⟩:=M.there hi
  rw[hD]at hx; cases hx
 have fD:F D=none:=M.sub.free hD
 have e1:H' D=some (.lst ys):=g.keep D _ ZH nD
 have nD':D ∉ β':=fun hm=>(g.new D hm).elim nD fun z=>by rw[ZH]at z; cases z
 have fD':F' D=none:=by
  cases q:F' D with
  |none=>rfl
  |some o =>
   rcases g.fnew D o q with z|z
   ·rw[fD]at z; cases z
   ·rw[ZH]at z; cases z
 refine ⟨e1,⟨g.toGr,fun b o e hb=>?_,fun b e=>?_,fun b hb=>?_,fun b o e=>?_,fun b o u e=>?_⟩,⟨fun b o e=>?_,M'.nd,M'.len,M'.free,fun h a x h1 h2=>(M'.ob h a x h1 h2).mono (Gr.refl _ _) ?_⟩⟩
 ·have hbD:b≠D:=Z5 e hD
  rw[NN hbD]
  exact g.keep b o (by rw[Zz hbD]; exact e) hb
 ·by_cases hbD:b=D
  ·rw[hbD]; exact hD
  ·rw[NN hbD]at e
   have:=g.there b e
   rw[Zz hbD]at this
   exact this
 ·rcases g.new b hb with h|h
  ·exact .inl h
  ·have hbD:b≠D:=fun z=>nD' (z ▸ hb)
   rw[Zz hbD]at h
   exact .inr h
 ·rcases g.fnew b o e with h|h
  ·exact .inl h
  ·have hbD:b≠D:=fun z=>by rw[z,fD']at e; cases e
   rw[Zz hbD]at h
   exact .inr h
 ·have hbD:b≠D:=Z5 e hD
  rw[NN hbD]
  exact g.frz b o u (by rw[Zz hbD]; exact e)
 ·have hbD:b≠D:=fun z=>by rw[z,fD']at e; cases e
  rw[NN hbD]
  exact M'.sub b o e
 ·exact NN fun z=>nD' (z ▸ List.mem_of_getElem? h1)
theorem Uz {C:Hp->Prop} {J:It} {ws:List Wv} {σ:St} {sl:Sl} {F1 H1 F0 H0:Hp} {β1 β0:List Addr} {om1:List Ob} {P:Wv->Hp->Hp->List Addr->Prop} {Q:VK} {D:Addr} {mk:Wv->Sl} {K:V->Hp->(St->Hp->Prop)->Prop} (okW:Wv->Prop) (GG:Hp->Hp->List Addr->Prop)
    (hK:∀{F H:Hp} {β:List Addr} {om:List Ob} {w:Wv} {x:V} {P:St->Hp->Prop},MOk F H β om->EnvOk F β σ sl->RW F β w x->okW w->(∀σ2,EnvOk F β σ2 (mk w)->P σ2 H)->K x H P) (hwok:∀w∈ws,okW w)
    (hG:∀{F F' H H':Hp} {β β':List Addr} {om:List Ob},MOk F H β om->GG F H β->Gx F F' H H' β β'->GG F' H' β') (hC:∀{F H:Hp} {β:List Addr},GG F H β->C H) (hJ:ItC C J ws F1 β1)
    (hk:∀{us:List Wv} {vs:List V} {om:List Ob} {F H:Hp} {β:List Addr},MOk F H β om->GG F H β->RWs F β us vs->Res E (k us om) F0 H0 β0 P->H D=none->Q (.ref D) (upd H D (.lst vs)))
    (M1:MOk F1 H1 β1 om1) (V0:EnvOk F1 β1 σ sl) (G1:GG F1 H1 β1) (hD:H1 D=none) (hws:ws.length<=lim) (R1:Res E (bnd (Xi c f mk ws) k om1) F0 H0 β0 P) :
    ∃W:Nat->Nat->List V->Hp->Prop,(∃m,W 0 m [] (upd H1 D (.lst [])))∧∀i m ys H2,W i m ys H2->H2 D=some (.lst ys) ∧
     ((J.stop i H2∧Q (.ref D) H2)∨(J.go i H2∧∀x H',J.yld i H2 x H'->K x H' fun σ2 H6=>tT E0 c σ2 H6 fun b H3=>if b=true then tE E0 f σ2 H3 fun v H4=>H4 D=some (.lst ys)∧ys.length < sizeLine∧∃m',m' < m∧W (i+1) m' (ys++[v]) (upd H4 D (.lst (ys++[v])))
      else ∃m',m' < m∧W (i+1) m' ys H3)):=by
 have hlim:=VS
 refine ⟨fun i m ys H2=>m=ws.length - i∧i<=ws.length∧ys.length<=i∧∃F β om Hm acc,H2=upd Hm D (.lst ys)∧Hm D=none∧ItC C J ws F β∧GG F Hm β∧MOk F Hm β om∧EnvOk F β σ sl∧RWs F β acc ys∧Res E (bnd (Xi c f mk (ws.drop i)) (fun xs=>k (acc++xs)) om) F0 H0 β0 P,
  ⟨ws.length,by simp,Nat.zero_le _,Nat.zero_le _,F1,β1,om1,H1,[],rfl,hD,hJ,G1,M1,V0,.nil,R1⟩,?_⟩
 rintro i m ys H2 ⟨rfl,hi,hys,F,β,om,Hm,acc,rfl,hDm,hJ,G,M,V,ra,R⟩
 refine ⟨ZH,?_⟩
 have MU:MOk F (upd Hm D (.lst ys)) β om:=M.newU hDm
 obtain ⟨j1,j2⟩:=hJ F β _ (Gr.refl _ _) MU.sub (hC (hG M G (M.gxU (o:=.lst ys) hDm)))
 by_cases hlt:i < ws.length
 ·obtain ⟨go,yl⟩:=j1 i ws[i] (List.getElem?_eq_getElem hlt)
  refine .inr ⟨go,fun x H' hy=>?_⟩
  obtain ⟨rfl,rx⟩:=yl x H' hy
  rw[List.drop_eq_getElem_cons hlt]at R
  have R:Res E (bnd (bnd (ZL (c (mk ws[i]))) (VJ (Xi c f mk (ws.drop (i+1))) (f (mk ws[i])))) (fun xs=>k (acc++xs)) om) F0 H0 β0 P:=R
  rw[Wc]at R
  refine hK MU V rx (hwok _ (List.getElem_mem hlt)) fun σ2 V2=>?_
  refine ⟨F,β,om,_,MU,V2,?_⟩
  have R':=R
  unfold bnd ZL at R'
  match hm:c (mk ws[i]) om,R' with
  |none,R'=>exact R'.elim
  |some (.error _,_),R'=>exact R'.elim
  |some (.ok b,om1),R' =>
   clear R
   intro F1 H1 β1 g1 M1
   obtain ⟨e1,g1',M1'⟩:=beside hDm M g1 M1
   have R1:Res E (bnd (VJ (Xi c f mk (ws.drop (i+1))) (f (mk ws[i])) b) (fun xs=>k (acc++xs)) om1) F0 H0 β0 P:=R'
   have G1:=hG M G g1'
   cases b with
   |false =>
    rw[if_neg Bool.false_ne_true]
    refine ⟨ws.length - (i+1),by omega,rfl,hlt,by omega,F1,β1,om1,wo H1 D,acc,(V7 e1).symm,UH,hJ.mono g1.toGr,G1,M1',V.mono g1.toGr,ra.mono g1.toGr,R1⟩
   |true =>
    rw[if_pos rfl]
    have R2:Res E (bnd (bnd (ZL (f (mk ws[i]))) fun x=>bnd (Xi c f mk (ws.drop (i+1))) fun xs=>ret (x::xs)) (fun xs=>k (acc++xs)) om1) F0 H0 β0 P:=R1
    rw[Wc]at R2
    refine ⟨F1,β1,om1,_,M1,V2.mono g1.toGr,?_⟩
    unfold bnd ZL at R2
    match hm2:f (mk ws[i]) om1,R2 with
    |none,R2=>exact R2.elim
    |some (.error _,_),R2=>exact R2.elim
    |some (.ok y,om2),R2 =>
     intro F2 H2 β2 g2 M2 v rv
     obtain ⟨e2,g2',M2'⟩:=beside (Hm:=wo H1 D) (ys:=ys) UH M1' (by rw[V7 e1]; exact g2) M2
     have R3:Res E (bnd (bnd (Xi c f mk (ws.drop (i+1))) fun xs=>ret (y::xs)) (fun xs=>k (acc++xs)) om2) F0 H0 β0 P:=R2
     rw[Wc]at R3
     have R3:Res E (bnd (Xi c f mk (ws.drop (i+1))) (fun xs=>k ((acc++[y])++xs)) om2) F0 H0 β0 P:=by
      have e:(fun xs=>k ((acc++[y])++xs))=fun xs=>k (acc++y::xs):=by funext xs; rw[List.append_assoc]; rfl
      rw[e]
      exact R3
     have ra2:RWs F2 β2 (acc++[y]) (ys++[v]):=(ra.mono (g1.trans g2).toGr).append (.cons rv .nil)
     refine ⟨e2,by omega,ws.length - (i+1),by omega,rfl,hlt,by rw[List.length_append,List.length_singleton]; omega,F2,β2,om2,wo H2 D,acc++[y],?_,UH,hJ.mono (g1.trans g2).toGr,hG M1' G1 g2',M2',V.mono (g1.trans g2).toGr,ra2,R3⟩
     rw[← V7 e2,Nb,V7 e2]
 ·have e:i=ws.length:=by omega
  subst e
  rw[List.drop_length]at R
  have R:Res E (k (acc++[]) om) F0 H0 β0 P:=R
  rw[List.append_nil]at R
  exact .inl ⟨j2 _ (Nat.le_refl _),hk M G ra R hDm⟩
theorem K4 {fi:FI} (hk:UK E k) {σ:St} {H:Hp} {Q:VK} (h:tE E (Yn k js fi c f) σ H Q):Lf (tI E fi) js (fun _ _ _ _=>tT E0 c) (fun _ _ _ _=>tE E0 f) σ H Q:=by
 obtain ⟨F,β,om,sl,M,V,R⟩:=h
 refine ⟨F,β,om,sl,M,V,R.bind fun ws om1 F1 H1 β1 g1 M1 R1 J hJ D hD _ _ _ _=>?_⟩
 obtain ⟨hws,R1⟩:=Res.chk R1
 exact Uz (C:=fun _=>True) (mk:=fun w=>Y9 js w sl) (K:=fun x H' P=>P (Xh js (some x) σ) H') (fun _=>True) (fun F H β=>Gx F1 F H1 H β1 β) (fun _ V r _ h=>h _ (V.comp js r)) (fun _ _=>True.intro) (fun _ a b=>a.trans b) (fun _=>True.intro) hJ (fun M' G' rs R' hD'=>(hk M' rs (Res.mono G' R')).2 hD') M1 (V.mono g1.toGr) (Gx.refl _ _ _) hD (of_decide_eq_true hws) R1
def AU:Wv->List Wv
 |.tup ws=>ws
 |_=>[]
def CC (n:Nat):Wv->Bool
 |.tup ws=>decide (ws.length=n)
 |_=>false
def KQ (js:List Nat) (w:Wv) (sl:Sl):Sl:=(AU w).map some++js.map fun j=>(sl[j]?).join
def No (k:List Wv->Mw Wv) (n:Nat) (js:List Nat) (fi:FI) (c:FT) (f:FE):FE:=fun sl=>bnd (fi sl) fun ws=>bnd (chk (decide (ws.length<=lim)&&ws.all (CC n))) fun _=>bnd (Xi c f (fun w=>KQ js w sl) ws) k
abbrev gNs:List Nat->TGs
 |[]=>gNil
 |i::is=>DI (Jg i) (gNs is)
theorem Q7 {H:Hp} {Q:St->Hp->Prop}:∀(k s:Nat) (pre vs0 cap:St) (vs:List V),pre.length=s->vs0.length=k->vs.length=k->Q (pre++vs.map some++cap) H->gNs (List.range' s k) vs (pre++vs0++cap) H Q
 |0,s,pre,[],cap,[],_,_,_,q=>⟨rfl,q⟩
 |k+1,s,pre,a::vs0,cap,v::vs,hp,h0,hv,q=>by
  refine ⟨v,vs,rfl,?_⟩
  have e:(pre++a::vs0++cap).set s (some v)=(pre++[some v])++vs0++cap:=by
   rw[List.append_assoc,List.set_append_right _ _ (by omega),show s - pre.length=0 by omega]
   simp
  show gNs (List.range' (s+1) k) vs ((pre++a::vs0++cap).set s (some v)) H Q
  rw[e]
  refine Q7 k (s+1) _ vs0 cap vs (by simp[hp]) (by simpa using h0) (by simpa using hv) ?_
  have e2:pre++[some v]++vs.map some++cap=pre++(v::vs).map some++cap:=by simp
  rw[e2]
  exact q
 |0,_,_,_::_,_,_,_,h0,_,_=>by cases h0
 |0,_,_,[],_,_::_,_,_,hv,_=>by cases hv
 |k+1,_,_,[],_,_,_,h0,_,_=>by cases h0
 |k+1,_,_,_::_,_,[],_,_,hv,_=>by cases hv
theorem EnvOk.compT {F:Hp} {β:List Addr} {σ:St} {sl:Sl} {ws:List Wv} {vs:List V} (V:EnvOk F β σ sl) (js:List Nat) (r:RWs F β ws vs):EnvOk F β (vs.map some++Tc js σ) (ws.map some++js.map fun j=>(sl[j]?).join):=by
 refine ⟨by simp[Tc,r.length],fun i u e=>?_⟩
 by_cases hi:i < ws.length
 ·rw[List.getElem?_append_left (by simpa using hi),List.getElem?_map]at e
  match hw:ws[i]?,e with
  |none,e=>exact nomatch e
  |some w,e =>
   have e:some (some w)=some (some u):=e
   cases e
   obtain ⟨v,ev,rv⟩:=r.get hw
   refine ⟨v,?_,rv⟩
   rw[List.getElem?_append_left (by rw[List.length_map,← r.length]; exact hi),List.getElem?_map,ev]
   rfl
 ·have hl:=r.length
  rw[List.getElem?_append_right (by simpa using hi),List.length_map,List.getElem?_map]at e
  match hj:js[i - ws.length]?,e with
  |none,e=>exact nomatch e
  |some j,e =>
   have e:some (sl[j]?).join=some (some u):=e
   have e2:sl[j]?=some (some u):=by
    cases q:sl[j]? with
    |none=>rw[q]at e; cases e
    |some o =>
     rw[q]at e
     have e:some o=some (some u):=e
     cases e
     rfl
   obtain ⟨v',h1,h2⟩:=V.get j u e2
   refine ⟨v',?_,h2⟩
   rw[List.getElem?_append_right (by rw[List.length_map]; omega),List.length_map,← hl]
   show (js.map fun j=>(σ[j]?).join)[i - ws.length]?=some (some v')
   rw[List.getElem?_map,hj,Option.map_some,h1]
   rfl
theorem HC {Kf:PySem.W.Frag} {fi:FI} {n:Nat} (hk:UK E k) {σ:St} {H:Hp} {Q:VK} (h:tE E (No k n js fi c f) σ H Q):G4 (tI E fi) n (EL Kf n (gNs (List.range' 0 n))) js (fun _ _ _ _=>tT E0 c) (fun _ _ _ _=>tE E0 f) σ H Q:=by
 obtain ⟨F,β,om,sl,M,V,R⟩:=h
 refine ⟨F,β,om,sl,M,V,R.bind fun ws om1 F1 H1 β1 g1 M1 R1 J hJ D hD _ _ _ _=>?_⟩
 obtain ⟨hws,R1⟩:=Res.chk R1
 obtain ⟨hw1,hw2⟩:=Bool.and_eq_true_iff.mp hws
 refine Uz (C:=fun _=>True) (mk:=fun w=>KQ js w sl) (K:=fun x H' P=>∀vs:St,vs.length=n->EL Kf n (gNs (List.range' 0 n)) x (vs++Tc js σ) H' fun σ2 H6=>(∃vs2:St,vs2.length=n∧σ2=vs2++Tc js σ)∧P σ2 H6) (fun w=>CC n w=true) (fun F H β=>Gx F1 F H1 H β1 β) ?_ (fun w hw=>List.all_eq_true.mp hw2 w hw) (fun _ a b=>a.trans b) (fun _=>True.intro) hJ (fun M' G' rs R' hD'=>(hk M' rs (Res.mono G' R')).2 hD') M1 (V.mono g1.toGr) (Gx.refl _ _ _) hD (of_decide_eq_true hw1) R1
 intro F2 H2 β2 om2 w x P M2 V2 rw2 hn hP vs hvs
 cases rw2 with
 |@tup a xs us q rs =>
  have hn:us.length=n:=of_decide_eq_true hn
  have hl:=rs.length
  refine ⟨a,xs,rfl,SqT.of (M2.sub _ _ q),by omega,?_⟩
  refine Q7 n 0 [] vs (Tc js σ) xs rfl hvs (by omega) ⟨⟨xs.map some,by rw[List.length_map]; omega,by simp⟩,hP _ ?_⟩
  exact V2.compT js rs
 |_=>cases hn
def Tj:Key->Wv
 |.inl i=>.int i
 |.inr x=>.str x
def L3 (d:Wv):Mw (Bool × Nat × List Wv):=fun om=>match d with
 |.o h=>match om[h]? with
  |some (.dk kvs)=>if kvs.length<=lim then some (.ok (true,h,kvs.map fun p=>Tj p.1),om.set h (.dz kvs)) else none
  |some (.dz kvs)=>if kvs.length<=lim then some (.ok (false,h,kvs.map fun p=>Tj p.1),om) else none
  |_=>none
 |_=>none
def Ls (b:Bool) (h:Nat):Mw Unit:=fun om=>if b=true then (match om[h]? with
 |some (.dz kvs)=>some (.ok (),om.set h (.dk kvs))
 |_=>none) else some (.ok (),om)
def WQ (k:List Wv->Mw Wv) (js:List Nat) (fd:FE) (c:FT) (f:FE):FE:=fun sl=>bnd (fd sl) fun d=>bnd (L3 d) fun p=>bnd (Xi c f (fun w=>Y9 js w sl) p.2.2) fun xs=>bnd (Ls p.1 p.2.1) fun _=>k xs
theorem NA {F:Hp} {β:List Addr} {d:Addr} {ob:Obj} {kvs:List (Key × Wv)} {ks:List (Key × V)} (rs:RK F β kvs ks):ItC (fun H=>H d=some (.frz ob (.dK ks))) (Itd d ob ks) (kvs.map fun p=>Tj p.1) F β:=fun F' β' H g s hc=>by
 have hl:=rs.length
 have key:∀{ps:List (Key × Wv)} {qs:List (Key × V)},RK F β ps qs->∀(i:Nat) p,qs[i]?=some p->(ps.map fun p=>Tj p.1)[i]?=some (Tj p.1):=by
  intro ps qs r
  induction r with
  |nil=>intro i p e; simp at e
  |cons h r ih =>
   intro i p e
   cases i with
   |zero=>simp at e; subst e; rfl
   |succ i=>simpa using ih i p (by simpa using e)
 refine ⟨fun i w e=>?_,fun i hi=>⟨hc,by rw[List.length_map]at hi; omega⟩⟩
 have hi:i < ks.length:=by have:=(List.getElem?_eq_some_iff.mp e).1; rw[List.length_map]at this; omega
 refine ⟨⟨hc,hi⟩,fun x H' ⟨e1,p,e2,e3⟩=>⟨e1,?_⟩⟩
 have:=key rs i p e2
 rw[e]at this
 cases this
 subst e3
 obtain ⟨k',v⟩:=p
 cases k' with
 |inl n=>exact .int n
 |inr y=>exact .str y
theorem Gx.unfrz {F F' H H':Hp} {β β':List Addr} {d:Addr} {u:HO} {ob:Obj} {om:List Ob} {h:Nat} (hb:β[h]?=some d) (M:MOk F H β om) (hz:H d=some (.frz ob u)) (hu:∀o w,u≠.frz o w) (g:Gx F F' H H' β β'):Gx F F' (upd H d u) (upd H' d u) β β':=by
 have nd:∀b,b ∉ β->b≠d:=fun b n z=>n (z ▸ List.mem_of_getElem? hb)
 refine ⟨g.toGr,fun b o e n=>?_,fun b e=>?_,fun b m=>?_,fun b o e=>?_,fun b o w e=>?_⟩
 ·rw[Zz (nd b n)]at e ⊢; exact g.keep b o e n
 ·by_cases z:b=d
  ·rw[z,ZH]at e; cases e
  ·rw[Zz z]at e ⊢; exact g.there b e
 ·by_cases z:b=d
  ·rw[z]; exact .inl (List.mem_of_getElem? hb)
  ·rw[Zz z]; exact g.new b m
 ·by_cases z:b=d
  ·rcases g.fnew b o e with q|q
   ·exact .inl q
   ·rw[z,hz]at q; cases q
  ·rw[Zz z]; exact g.fnew b o e
 ·by_cases z:b=d
  ·rw[z,ZH]at e; cases e; exact absurd rfl (hu o w)
  ·rw[Zz z]at e ⊢; exact g.frz b o w e
def Held (h:Nat) (d:Addr) (ob:Obj) (ks:List (Key × V)) (F1 H1:Hp) (β1:List Addr):Hp->Hp->List Addr->Prop:=fun F H β=>β[h]?=some d∧H d=some (.frz ob (.dK ks))∧Gx F1 F H1 (upd H d (.dK ks)) β1 β
theorem Held.go {h:Nat} {d:Addr} {ob:Obj} {ks:List (Key × V)} {F1 H1 F F' H H':Hp} {β1 β β':List Addr} {om:List Ob} (M:MOk F H β om) (G:Held h d ob ks F1 H1 β1 F H β) (g:Gx F F' H H' β β'):Held h d ob ks F1 H1 β1 F' H' β' :=
 ⟨g.pre h d G.1,g.frz d _ _ G.2.1,G.2.2.trans (g.unfrz G.1 M G.2.1 (fun _ _ z=>by cases z))⟩
theorem Held.start {h:Nat} {d:Addr} {ob:Obj} {ks:List (Key × V)} {F1 H1:Hp} {β1:List Addr} (eb:β1[h]?=some d) (hks:H1 d=some (.dK ks)):Held h d ob ks F1 H1 β1 F1 (upd H1 d (.frz ob (.dK ks))) β1:=by
 have back:upd (upd H1 d (.frz ob (.dK ks))) d (.dK ks)=H1:=by
  rw[Nb]
  funext b
  by_cases z:b=d
  ·rw[z,ZH,hks]
  ·rw[Zz z]
 exact ⟨eb,ZH,by rw[back]; exact Gx.refl _ _ _⟩
theorem Held.thw {γ:Type} {k:Unit->Mw γ} {h:Nat} {d:Addr} {ob:Obj} {ks:List (Key × V)} {F1 H1 F H:Hp} {β1 β:List Addr} {om:List Ob} {P:γ->Hp->Hp->List Addr->Prop} (M:MOk F H β om) (G:Held h d ob ks F1 H1 β1 F H β) (R:Res E (bnd (Ls true h) k om) F1 H1 β1 P) :
    ∃kvs,MOk F (upd H d (.dK ks)) β (om.set h (.dk kvs))∧Res E (k () (om.set h (.dk kvs))) F1 H1 β1 P:=by
 obtain ⟨hb',hz',gg⟩:=G
 unfold bnd Ls at R
 rw[if_pos rfl]at R
 match hy:om[h]?,R with
 |none,R=>exact R.elim
 |some (.ins _ _),R=>exact R.elim
 |some (.exc _),R=>exact R.elim
 |some (.lst _),R=>exact R.elim
 |some (.dt _),R=>exact R.elim
 |some (.dk _),R=>exact R.elim
 |some (.dz kvs'),R =>
  obtain ⟨a',ea,_,ob',ks',hks',rs'⟩:=M.at hy
  rw[hb']at ea; cases ea
  rw[hz']at hks'
  cases hks'
  exact ⟨kvs',M.put hb' ⟨ks,ZH,rs'⟩,R⟩
theorem Res.frz {γ:Type} {k:Bool × Nat × List Wv->Mw γ} {F H:Hp} {β:List Addr} {om:List Ob} {w:Wv} {v:V} {P:γ->Hp->Hp->List Addr->Prop} (M:MOk F H β om) (r:RW F β w v) (R:Res E (bnd (L3 w) k om) F H β P) :
    ∃h d ks kvs,v=.ref d∧β[h]?=some d∧RK F β kvs ks∧kvs.length<=lim∧((H d=some (.dK ks)∧(∀ob,MOk F (upd H d (.frz ob (.dK ks))) β (om.set h (.dz kvs)))∧Res E (k (true,h,kvs.map fun p=>Tj p.1) (om.set h (.dz kvs))) F H β P)∨∃ob,H d=some (.frz ob (.dK ks))∧Res E (k (false,h,kvs.map fun p=>Tj p.1) om) F H β P):=by
 cases r with
 |@o h d eb =>
  unfold bnd L3 at R
  dsimp only at R
  match hx:om[h]?,R with
  |none,R=>exact R.elim
  |some (.ins _ _),R=>exact R.elim
  |some (.exc _),R=>exact R.elim
  |some (.lst _),R=>exact R.elim
  |some (.dt _),R=>exact R.elim
  |some (.dk kvs),R =>
   obtain ⟨a',ea,hF,ks,hks,rs⟩:=M.at hx
   have eb2:=ea
   rw[eb]at ea; cases ea
   dsimp only at R
   by_cases hlen:kvs.length<=lim
   ·rw[if_pos hlen]at R
    exact ⟨h,d,ks,kvs,rfl,eb2,rs,hlen,.inl ⟨hks,fun ob=>M.put eb2 ⟨ob,ks,ZH,rs⟩,R⟩⟩
   ·rw[if_neg hlen]at R; exact R.elim
  |some (.dz kvs),R =>
   obtain ⟨a',ea,hF,ob,ks,hks,rs⟩:=M.at hx
   have eb2:=ea
   rw[eb]at ea; cases ea
   dsimp only at R
   by_cases hlen:kvs.length<=lim
   ·rw[if_pos hlen]at R
    exact ⟨h,d,ks,kvs,rfl,eb2,rs,hlen,.inr ⟨ob,hks,R⟩⟩
   ·rw[if_neg hlen]at R; exact R.elim
 |_=>exact R.elim
theorem MN {X:Cx} {fd:FE} (hk:UK E k) {σ:St} {H:Hp} {Q:VK} (h:tE E (WQ k js fd c f) σ H Q):Lf (DP X (tE E fd)) js (fun _ _ _ _=>tT E0 c) (fun _ _ _ _=>tE E0 f) σ H (fun v=>Thawed X (Q v)):=by
 obtain ⟨F,β,om,sl,M,V,R⟩:=h
 refine ⟨F,β,om,sl,M,V,R.bind fun w om1 F1 H1 β1 g1 M1 R1 v rv=>?_⟩
 obtain ⟨h,d,ks,kvs,rfl,eb,rs,hlen,R1⟩:=R1.frz M1 rv
 rcases R1 with ⟨hks,Mz,R2⟩|⟨ob,hks,R2⟩
 ·refine ⟨d,ks,rfl,.inl ⟨hks,fun ob nf D hD _ _ _ _=>?_⟩⟩
  refine Uz (C:=fun H=>H d=some (.frz ob (.dK ks))) (Q:=fun v=>Thawed X (Q v)) (mk:=fun w=>Y9 js w sl) (K:=fun x H' P=>P (Xh js (some x) σ) H') (fun _=>True) (Held h d ob ks F1 H1 β1) (fun _ V r _ h=>h _ (V.comp js r)) (fun _ _=>True.intro)
   (fun M' G' g'=>Held.go M' G' g') (fun G'=>G'.2.1) (NA rs) ?_ (Mz ob) (V.mono g1.toGr) (Held.start eb hks) hD (by rw[List.length_map]; exact hlen) R2
  intro us vs om' F' H' β' M' G' ra R' hD'
  have hz':=G'.2.1
  obtain ⟨kvs',Mt,R'⟩:=Held.thw M' G' R'
  have nDd:D≠d:=fun z=>by rw[z,hz']at hD'; cases hD'
  have q:=(hk (p:=D) Mt ra (Res.mono G'.2.2 R')).2 (by rw[Zz nDd]; exact hD')
  refine .inl ⟨d,ob,ks,nf,by rw[Zz (Ne.symm nDd)]; exact hz',?_⟩
  have e:upd (upd H' D (.lst vs)) d (.dK ks)=upd (upd H' d (.dK ks)) D (.lst vs):=by
   funext b
   by_cases z1:b=d
   ·rw[z1,ZH,Zz (Ne.symm nDd),ZH]
   ·by_cases z2:b=D
    ·rw[z2,Zz nDd,ZH,ZH]
    ·rw[Zz z1,Zz z2,Zz z2,Zz z1]
  show Q (.ref D) _
  rw[e]
  exact q
 ·refine ⟨d,ks,rfl,.inr ⟨ob,hks,fun D hD _ _ _ _=>?_⟩⟩
  refine Uz (C:=fun H=>H d=some (.frz ob (.dK ks))) (Q:=fun v=>Thawed X (Q v)) (mk:=fun w=>Y9 js w sl) (K:=fun x H' P=>P (Xh js (some x) σ) H') (fun _=>True) (fun F H β=>Gx F1 F H1 H β1 β) (fun _ V r _ h=>h _ (V.comp js r)) (fun _ _=>True.intro)
   (fun _ a b=>a.trans b) (fun G'=>G'.frz d _ _ hks) (NA rs) ?_ M1 (V.mono g1.toGr) (Gx.refl _ _ _) hD (by rw[List.length_map]; exact hlen) R2
  intro us vs om' F' H' β' M' G' ra R' hD'
  have R':Res E (k us om') F1 H1 β1 (PV Q):=R'
  exact .inr ((hk (p:=D) M' ra (Res.mono G' R')).2 hD')
section
variable {scope:Scope} {cl:List (Str × Addr)} {x:Str} {cn:List Str} {elt iter:Expr} {ifs:List Expr} {px pos:Pos} {fi:FI}
theorem Wo (hk:UK E k) (O:CompOk X scope cl x cn js) (hc:X.calm=true) (hi:PI X (.Name x px) iter (tI E fi)) (ht:∀C s₂ H₂ fp,U7 (YB X scope cl x cn C s₂ H₂ fp) ifs (tT E0 c)) (he:∀C s₂ H₂ fp,PE (YB X scope cl x cn C s₂ H₂ fp) elt (tE E0 f))
    (hs:∀v,foldedSetIterable iter X.env v=pure v:=by intro _; rfl):PE X (.ListComp elt [⟨.Name x px,iter,ifs,0⟩] scope pos) (tE E (Yn k js fi c f)):=(KH O hc hi ht he hs).weak fun σ H Q h=>K4 hk h
theorem HI {xs:List Str} {tg:Expr} (hk:UK E k) (O:CompOkT X scope cl xs cn js) (hc:X.calm=true) (hg:∀C s₂ H₂ fp,PG (YY X scope cl xs cn C s₂ H₂ fp) tg (EL X.K xs.length (gNs (List.range' 0 xs.length)))) (hi:PI X tg iter (tI E fi)) (ht:∀C s₂ H₂ fp,U7 (YY X scope cl xs cn C s₂ H₂ fp) ifs (tT E0 c)) (he:∀C s₂ H₂ fp,PE (YY X scope cl xs cn C s₂ H₂ fp) elt (tE E0 f))
    (hs:∀v,foldedSetIterable iter X.env v=pure v:=by intro _; rfl):PE X (.ListComp elt [⟨tg,iter,ifs,0⟩] scope pos) (tE E (No k xs.length js fi c f)):=(GN O hc hg hi ht he hs).weak fun σ H Q h=>HC hk h
theorem GI {fd:FE} (hk:UK E k) (O:CompOk X scope cl x cn js) (hc:X.calm=true) (hd:PE X iter (tE E fd)) (ht:∀C s₂ H₂ fp,U7 (YB X scope cl x cn C s₂ H₂ fp) ifs (tT E0 c)) (he:∀C s₂ H₂ fp,PE (YB X scope cl x cn C s₂ H₂ fp) elt (tE E0 f))
    (hs:∀v,foldedSetIterable iter X.env v=pure v:=by intro _; rfl):PE X (.ListComp elt [⟨.Name x px,iter,ifs,0⟩] scope pos) (tE E (WQ k js fd c f)):=(FX (KH O hc (OO hd) ht he hs)).weak fun σ H Q h=>MN hk h
theorem Y8 {j:Nat} {y:Str} {py spos:Pos} (hk:UK E k) (O:CompOk X scope cl x cn js) (hc:X.calm=true) (hi:PI X (.Name x px) iter (tI E fi)) (ht:∀C s₂ H₂ fp,U7 (YB X scope cl x cn C s₂ H₂ fp) ifs (tT E0 c)) (he:∀C s₂ H₂ fp,PE (YB X scope cl x cn C s₂ H₂ fp) elt (tE E0 f))
    (hN:X.N.Nodup) (hj:X.N[j]?=some y) (hy:Loc X.env.scope y) (hsw:swapsWith (.ListComp elt [⟨.Name x px,iter,ifs,0⟩] scope pos) (some (.Name y py)) spos.line X.env=pure true)
    (hs:∀v,foldedSetIterable iter X.env v=pure v:=by intro _; rfl) (hf:X.fn y=true∨X.env.scope.names.lookup y=some .local:=by first|exact .inl rfl|exact .inr rfl) :
    PS X (.Assign [.Name y py] (.ListComp elt [⟨.Name x px,iter,ifs,0⟩] scope pos) spos) (tS E (ZM j (Yn k js fi c f))):=(Tk O hc hi ht he hN hj hy hsw hs hf).weak fun D σ H ⟨F,β,om,sl,M,V,R⟩=>by
 refine K4 hk ⟨F,β,om,sl,M,V,R.bind fun w om1 F1 H1 β1 g1 M1 R1 v rv=>?_⟩
 exact (show Res E (ret (Fl.nx,sl.set j (some w)) om1) F1 H1 β1 (FlP D) from R1).now M1 _ ((V.mono g1.toGr).set j rv)
theorem Ms {j:Nat} {y:Str} {py spos:Pos} {fd:FE} (hk:UK E k) (O:CompOk X scope cl x cn js) (hc:X.calm=true) (hd:PE X iter (tE E fd)) (ht:∀C s₂ H₂ fp,U7 (YB X scope cl x cn C s₂ H₂ fp) ifs (tT E0 c)) (he:∀C s₂ H₂ fp,PE (YB X scope cl x cn C s₂ H₂ fp) elt (tE E0 f))
    (hN:X.N.Nodup) (hj:X.N[j]?=some y) (hy:Loc X.env.scope y) (hsw:swapsWith (.ListComp elt [⟨.Name x px,iter,ifs,0⟩] scope pos) (some (.Name y py)) spos.line X.env=pure true)
    (hs:∀v,foldedSetIterable iter X.env v=pure v:=by intro _; rfl) (hf:X.fn y=true∨X.env.scope.names.lookup y=some .local:=by first|exact .inl rfl|exact .inr rfl) :
    PS X (.Assign [.Name y py] (.ListComp elt [⟨.Name x px,iter,ifs,0⟩] scope pos) spos) (tS E (ZM j (WQ k js fd c f))):=(K2 (Tk O hc (OO hd) ht he hN hj hy hsw hs hf)).weak fun D σ H ⟨F,β,om,sl,M,V,R⟩=>by
 refine MN (Q:=fun v H1=>D.nx (σ.set j (some v)) H1) hk ⟨F,β,om,sl,M,V,R.bind fun w om1 F1 H1 β1 g1 M1 R1 v rv=>?_⟩
 exact (show Res E (ret (Fl.nx,sl.set j (some w)) om1) F1 H1 β1 (FlP D) from R1).now M1 _ ((V.mono g1.toGr).set j rv)
end
end
theorem LB {α γ:Type} (m:Mw α) (k:α->Mw γ):ZL (bnd m k)=bnd (ZL m) fun x=>ZL (k x):=by
 funext om
 match h:m om with
 |none=>simp[bnd,ZL,h]
 |some (.ok a,om')=>simp[bnd,ZL,h]
 |some (.error c,om')=>simp[bnd,ZL,h]
def KS (fd:FE) (T:TgW) (S:FS):FS:=fun sl=>bnd (fd sl) fun d=>bnd (L3 d) fun p=>bnd (ZL (Xz T S p.2.2 sl)) fun r=>bnd (Ls p.1 p.2.1) fun _=>ret r
section
variable {X:Cx} {E:XK} {tg iter:Expr} {body:List Stmt} {fd:FE} {T:TgW} {g:TG} {S:FS} {pos:Pos}
theorem NR {D:Ends} {C:Hp->Prop} {J:It} {ws:List Wv} {σ:St} {H F F0 H0:Hp} {β β0:List Addr} {om:List Ob} {sl:Sl} {P:Fl × Sl->Hp->Hp->List Addr->Prop} {kf:Fl × Sl->Mw (Fl × Sl)} (GG:Hp->Hp->List Addr->Prop)
    (hG:∀{F F' H H':Hp} {β β':List Addr} {om:List Ob},MOk F H β om->GG F H β->Gx F F' H H' β β'->GG F' H' β') (hC:∀{F H:Hp} {β:List Addr},GG F H β->C H) (ht:G6 g T) (hJ:ItC C J ws F β)
    (hk:∀{y:Fl × Sl} {om:List Ob} {F H:Hp} {β:List Addr},MOk F H β om->GG F H β->Res E (kf y om) F0 H0 β0 P->FlP D y F H β)
    (M:MOk F H β om) (V:EnvOk F β σ sl) (G:GG F H β) (R:Res E (bnd (ZL (Xz T S ws sl)) kf om) F0 H0 β0 P) :
    ∃W:Nat->Nat->St->Hp->Prop,(∃m,W 0 m σ H)∧∀i m σ H,W i m σ H ->
     (J.stop i H∧D.nx σ H)∨(J.go i H∧∃N:St->Hp->Prop,(∀σ' H',N σ' H'->∃m',m' < m∧W (i+1) m' σ' H')∧∀x H',J.yld i H x H'->g x σ H' fun σ2 H2=>tS E S { D with nx:=N,ct:=N,bk:=D.nx } σ2 H2):=by
 refine ⟨fun i m σ H=>m=ws.length - i∧i<=ws.length∧∃F β om sl,ItC C J ws F β∧GG F H β∧MOk F H β om∧EnvOk F β σ sl∧Res E (bnd (ZL (Xz T S (ws.drop i) sl)) kf om) F0 H0 β0 P,⟨ws.length,by simp,Nat.zero_le _,F,β,om,sl,hJ,G,M,V,R⟩,?_⟩
 rintro i m σ H ⟨rfl,hi,F,β,om,sl,hJ,G,M,V,R⟩
 obtain ⟨j1,j2⟩:=hJ F β H (Gr.refl _ _) M.sub (hC G)
 by_cases hlt:i < ws.length
 ·obtain ⟨go,yl⟩:=j1 i ws[i] (List.getElem?_eq_getElem hlt)
  refine .inr ⟨go,fun σ' H'=>i+1<=ws.length∧∃F β om sl,ItC C J ws F β∧GG F H' β∧MOk F H' β om∧EnvOk F β σ' sl∧Res E (bnd (ZL (Xz T S (ws.drop (i+1)) sl)) kf om) F0 H0 β0 P,fun σ' H' ⟨h1,h2⟩=>⟨ws.length - (i+1),by omega,rfl,h1,h2⟩,fun x H' hy=>?_⟩
  obtain ⟨rfl,rx⟩:=yl x H' hy
  rw[List.drop_eq_getElem_cons hlt]at R
  have R:Res E (bnd (ZL (match T ws[i] sl with|none=>Xn|some sl1=>bnd (S sl1) (Vd fun sl2=>Xz T S (ws.drop (i+1)) sl2))) kf om) F0 H0 β0 P:=R
  match hT:T ws[i] sl,R with
  |none,R=>exact R.elim
  |some sl1,R =>
   refine ht M V rx hT fun σ2 V2=>?_
   refine ⟨F,β,om,sl1,M,V2,?_⟩
   dsimp only at R
   rw[LB,Wc]at R
   have R':=R
   unfold bnd ZL at R'
   match hm:S sl1 om,R' with
   |none,R'=>exact R'.elim
   |some (.error _,_),R'=>exact R'.elim
   |some (.ok y,om1),R' =>
    have R1:Res E (bnd (ZL (Vd (fun sl2=>Xz T S (ws.drop (i+1)) sl2) y)) kf om1) F0 H0 β0 P:=R'
    intro F1 H1 β1 g1 M1
    have G1:=hG M G g1
    obtain ⟨fl,sl2⟩:=y
    cases fl with
    |nx=>exact fun σ' V'=>⟨hlt,F1,β1,om1,sl2,hJ.mono g1.toGr,G1,M1,V',R1⟩
    |ct=>exact fun σ' V'=>⟨hlt,F1,β1,om1,sl2,hJ.mono g1.toGr,G1,M1,V',R1⟩
    |bk=>exact hk (y:=(.nx,sl2)) M1 G1 R1
    |rt w=>exact hk (y:=(.rt w,sl2)) M1 G1 R1
 ·have e:i=ws.length:=by omega
  subst e
  rw[List.drop_length]at R
  exact .inl ⟨j2 _ (Nat.le_refl _),hk (y:=(.nx,sl)) M G (show Res E (kf (.nx,sl) om) F0 H0 β0 P from R) σ V⟩
theorem FP (hp:PassesOwn (model X.prog X.w) X.A X.env X.xe) (hc:X.calm=true) (hi:PE X iter (tE E fd)) (hg:PG X tg g) (ht:G6 g T) (hb:PSs X body (tS E S)) (hs:∀x,foldedSetIterable iter X.env x=pure x:=by intro _; rfl):PS X (.For tg iter body [] pos) (tS E (KS fd T S)):=(K2 (GJ hp hc (OO hi) hg hb hs)).weak fun D σ H ⟨F,β,om,sl,M,V,R⟩=>by
 refine ⟨F,β,om,sl,M,V,R.bind fun w om1 F1 H1 β1 g1 M1 R1 v rv=>?_⟩
 obtain ⟨h,d,ks,kvs,rfl,eb,rs,hlen,R1⟩:=R1.frz M1 rv
 rcases R1 with ⟨hks,Mz,R2⟩|⟨ob,hks,R2⟩
 ·refine ⟨d,ks,rfl,.inl ⟨hks,fun ob nf=>?_⟩⟩
  refine NR (D:=KI X D) (C:=fun H=>H d=some (.frz ob (.dK ks))) (Held h d ob ks F1 H1 β1) (fun M' G' g'=>Held.go M' G' g') (fun G'=>G'.2.1) ht (NA rs) ?_ (Mz ob) (V.mono g1.toGr) (Held.start eb hks) R2
  intro y om' F' H' β' M' G' R'
  have hz':=G'.2.1
  obtain ⟨kvs',Mt,R'⟩:=Held.thw M' G' R'
  have q:FlP D y F' (upd H' d (.dK ks)) β':=(show Res E (some (Except.ok y,om'.set h (.dk kvs'))) F1 H1 β1 (FlP D) from R') F' _ β' G'.2.2 Mt
  obtain ⟨fl,sl2⟩:=y
  cases fl with
  |nx=>exact fun σ' V'=>.inl ⟨d,ob,ks,nf,hz',q σ' V'⟩
  |bk=>exact fun σ' V'=>.inl ⟨d,ob,ks,nf,hz',q σ' V'⟩
  |ct=>exact fun σ' V'=>.inl ⟨d,ob,ks,nf,hz',q σ' V'⟩
  |rt w=>exact fun v r=>.inl ⟨d,ob,ks,nf,hz',q v r⟩
 ·refine ⟨d,ks,rfl,.inr ⟨ob,hks,?_⟩⟩
  refine NR (D:=KI X D) (C:=fun H=>H d=some (.frz ob (.dK ks))) (fun F H β=>Gx F1 F H1 H β1 β) (fun _ a b=>a.trans b) (fun G'=>G'.frz d _ _ hks) ht (NA rs) ?_ M1 (V.mono g1.toGr) (Gx.refl _ _ _) R2
  intro y om' F' H' β' M' G' R'
  have q:FlP D y F' H' β':=(show Res E (some (Except.ok y,om')) F1 H1 β1 (FlP D) from R') F' H' β' G' M'
  obtain ⟨fl,sl2⟩:=y
  cases fl with
  |nx=>exact fun σ' V'=>.inr (q σ' V')
  |bk=>exact fun σ' V'=>.inr (q σ' V')
  |ct=>exact fun σ' V'=>.inr (q σ' V')
  |rt w=>exact fun v r=>.inr (q v r)
end
def kWh (again:Sl->Mw (Fl × Sl)) (S:FS) (sl:Sl) (b:Bool):Mw (Fl × Sl):=if b=true then bnd (S sl) (Vd again) else ret (.nx,sl)
def W7 (c:FT) (S:FS):Nat->FS
 |0,_=>Xn
 |n+1,sl=>bnd (c sl) (kWh (fun sl2=>W7 c S n sl2) S sl)
section
variable {X:Cx} {E:XK} {t:Expr} {body:List Stmt} {c:FT} {S:FS} {pos:Pos}
theorem Gm (n:Nat) (hp:PassesOwn (model X.prog X.w) X.A X.env X.xe) (hc:PT X t (tT E c)) (hb:PSs X body (tS E S)):PS X (.While t body [] pos) (tS E (W7 c S n)):=(HV hp hc hb).weak fun D σ H ⟨F,β,om,sl,M,V,R⟩=>by
 refine ⟨fun m σ H=>∃F β om sl,MOk F H β om∧EnvOk F β σ sl∧Res E (W7 c S m sl om) F H β (FlP D),⟨n,F,β,om,sl,M,V,R⟩,?_⟩
 rintro m σ H ⟨F,β,om,sl,M,V,R⟩
 cases m with
 |zero=>exact R.elim
 |succ m =>
  refine ⟨F,β,om,sl,M,V,Res.bind (m:=c sl) (k:=kWh (fun sl2=>W7 c S m sl2) S sl) R fun b om1 F1 H1 β1 g1 M1 R1=>?_⟩
  cases b with
  |false =>
   rw[if_neg Bool.false_ne_true]
   exact (show Res E (ret (Fl.nx,sl) om1) F1 H1 β1 (FlP D) from R1).now M1 σ (V.mono g1.toGr)
  |true =>
   rw[if_pos rfl]
   refine ⟨fun σ' H'=>∃F β om sl,MOk F H' β om∧EnvOk F β σ' sl∧Res E (W7 c S m sl om) F H' β (FlP D),fun σ' H' h=>⟨m,Nat.lt_succ_self m,h⟩,?_⟩
   refine ⟨F1,β1,om1,sl,M1,V.mono g1.toGr,Res.bind (m:=S sl) (k:=Vd fun sl2=>W7 c S m sl2) R1 fun y om2 F2 H2 β2 g2 M2 R2=>?_⟩
   obtain ⟨fl,sl2⟩:=y
   cases fl with
   |nx=>exact fun σ' V'=>⟨F2,β2,om2,sl2,M2,V',R2⟩
   |ct=>exact fun σ' V'=>⟨F2,β2,om2,sl2,M2,V',R2⟩
   |bk=>exact (show Res E (ret (Fl.nx,sl2) om2) F2 H2 β2 (FlP D) from R2).now M2
   |rt w=>exact (show Res E (ret (Fl.rt w,sl2) om2) F2 H2 β2 (FlP D) from R2).now M2
end
def tM (E:XK) (f:Sl->Mw Unit):TA:=fun σ H Q=>∃F β om sl,MOk F H β om∧EnvOk F β σ sl∧Res E (f sl om) F H β fun _ F' H' β'=>∀vs,Q vs H'
def Gz:Wv->Mw Unit
 |.int i=>chk (decide (i.natAbs < 1000000000000))
 |_=>Xn
def SZ:Sl->Mw Unit:=fun _=>ret ()
def Sy (f:FE) (r:Sl->Mw Unit):Sl->Mw Unit:=fun sl=>bnd (f sl) fun x=>bnd (Gz x) fun _=>r sl
def Wu (C:Addr) (m:Sl->Mw Unit):FS:=fun sl=>bnd (m sl) fun _=>On C
theorem Jp {i:Int} (h:i.natAbs < 1000000000000):i.natAbs.log2 < 1920:=by
 by_cases h0:i.natAbs=0
 ·rw[h0]; decide
 ·exact (Nat.log2_lt h0).mpr (Nat.lt_of_lt_of_le (show i.natAbs < 2 ^ 40 by omega) (Nat.pow_le_pow_right (by decide) (by decide)))
section
variable {X:Cx} {E:XK} {e:Expr} {es:List Expr} {f:FE} {m:Sl->Mw Unit} {pos:Pos}
theorem PJ.weak {n:Nat} {t t':TA} (h:PJ X n es t) (w:∀σ H Q,t' σ H Q->t σ H Q):PJ X n es t':=fun pins s σ H acc Q I hl q=>h pins s σ H acc Q I hl (w σ H _ q)
theorem Ta:PJ X 2000 [] (tM E SZ):=CM.weak fun σ H Q ⟨F,β,om,sl,M,V,R⟩=>(show Res E (ret () om) F H β _ from R).now M []
theorem Vh {x:Str} {j p} (hr:PJ X 2000 es (tM E m)) (hx:x.length<=2000:=by decide) (hs:evalEach (.Constant (.str x) j p::es) X.env=eval (.Constant (.str x) j p) X.env::evalEach es X.env:=by rfl):PJ X 2000 (.Constant (.str x) j p::es) (tM E m):=(K5 Hz hr hs).weak fun σ H Q h=>⟨⟨x,rfl,hx⟩,h⟩
theorem Us {p:Pos} (he:PE X e (tE E f)) (hr:PJ X 2000 es (tM E m)) (hs:evalEach (.FormattedValue e (-1) none p::es) X.env=eval (.FormattedValue e (-1) none p) X.env::evalEach es X.env:=by rfl):PJ X 2000 (.FormattedValue e (-1) none p::es) (tM E (Sy f m)):=(K5 (BD he) hr hs).weak fun σ H Q ⟨F,β,om,sl,M,V,R⟩=>by
 refine ⟨F,β,om,sl,M,V,R.bind fun w om1 F1 H1 β1 g1 M1 R1 v rv=>?_⟩
 cases rv with
 |int i =>
  obtain ⟨hc,R2⟩:=Res.chk R1
  have hl:=Jp (of_decide_eq_true hc)
  exact ⟨i,rfl,hl,⟨_,rfl,Jl hl (by decide)⟩,F1,β1,om1,sl,M1,V.mono g1.toGr,R2⟩
 |_=>exact R1.elim
theorem WP {x:Str} {C:Addr} {bmB:List Value} {B newId initId:String} {v₁ v₂:Expr} {rest:List Expr} {np cpos p2:Pos} (FB:ExcBaseFacts B newId initId bmB) (q:PySem.W.excIn X.K C bmB newId=true) (hg:Gl X x) (hm:X.mg x=some (.ref C)) (hc:X.calm=true) (hE:Ke X E)
    (h:PJ X 2000 (v₁::v₂::rest) (tM E m)) (hn:2000 * (v₁::v₂::rest).length<=16000000:=by decide)
    (hs:evalEach (v₁::v₂::rest) X.env=eval v₁ X.env::eval v₂ X.env::evalEach rest X.env:=by rfl)
    (he:starEach [.JoinedStr (v₁::v₂::rest) p2] X.env=(false,eval (.JoinedStr (v₁::v₂::rest) p2) X.env)::starEach [] X.env:=by rfl) (hpl:(backTo cpos (starEach [] X.env)).any (·.1)=false:=by rfl) (hdb:(x == ("__debug__":Str))=false:=by decide) :
    PS X (.Raise (some (.Call (.Name x np) [.JoinedStr (v₁::v₂::rest) p2] [] cpos)) none pos) (tS E (Wu C m)):=(G0 (E:=E) FB q hg hm hc hE (XY (Fy h hn hs) VQ he) he hpl hdb).weak fun D σ H ⟨F,β,om,sl,M,V,R⟩=>by
 refine ⟨F,β,om,sl,M,V,R.bind fun w om1 F1 H1 β1 g1 M1 R1 vs z=>⟨by show 1<=sizeLine; decide,?_⟩⟩
 exact (show Res E (On C om1) F1 H1 β1 (FlP D) from R1) F1 H1 β1 (Gx.refl _ _ _) M1
end
def Ma:Fl × Sl->Mw Wv
 |(.rt w,_)=>ret w
 |(.nx,_)=>ret .non
 |_=>Xn
def Ww (n:Nat) (ws:List Wv):Sl:=ws.map some++List.replicate (n - ws.length) none
def Ym (n:Nat) (S:FS) (ws:List Wv):Mw Wv:=bnd (S (Ww n ws)) Ma
theorem EnvOk.start {F:Hp} {β:List Addr} {ws:List Wv} {vs:List V} (N:List Str) (r:RWs F β ws vs):EnvOk F β (L2.start N vs) (Ww N.length ws):=by
 have hl:=r.length
 refine ⟨by simp[L2.start,Ww,hl],fun i w e=>?_⟩
 unfold Ww at e
 unfold L2.start
 by_cases hi:i < ws.length
 ·rw[List.getElem?_append_left (by simpa using hi),List.getElem?_map]at e
  match hw:ws[i]?,e with
  |none,e=>exact nomatch e
  |some u,e =>
   have e:some (some u)=some (some w):=e
   cases e
   obtain ⟨v,ev,rv⟩:=r.get hw
   refine ⟨v,?_,rv⟩
   rw[List.getElem?_append_left (by rw[List.length_map]; omega),List.getElem?_map,ev]
   rfl
 ·rw[List.getElem?_append_right (by simpa using hi)]at e
  have:=List.mem_of_getElem? e
  rw[List.mem_replicate]at this
  exact nomatch this.2
section
variable {P:Program} {w:World} {K:PySem.W.Frag} {mg:Str->Option Value} {base:Heap}
theorem ZY {x qual:Str} {st:Stmt} {f:Addr} {fd:FuncData} {N ps:List Str} {k:Nat} {S:FS} (F:Fun K x qual st f fd) (Sc:FnScope N ps (Zi st))
    (h:∀(cdv:Value) (A:Around) (outer:List Env) (s:Shared) (H:Hp) (E:XK),Room k (A.deeper (envOfC qual (Zi st) s.heap.objs.size f cdv))->PSs (QG (CXw P w) P w K mg base N qual (Zi st) f cdv A outer s H E) (Zu st) (tS E S)) :
    FnOk P w K mg base (CXw P w) (k+1) f fd ps (spM ps.length (Ym N.length S)):=by
 refine F.okX Sc (fun vs H Q E h=>?_) (fun cdv A outer s H vs Q E hr hsp=>⟨_,h cdv A outer s H E hr,?_⟩)
 ·obtain ⟨F,β,om,ws,M,rs,hl,R⟩:=h
  rw[← rs.length,hl]
 ·obtain ⟨F,β,om,ws,M,rs,hl,R⟩:=hsp
  refine ⟨F,β,om,_,M,EnvOk.start N rs,Res.bind (m:=S (Ww N.length ws)) (k:=Ma) R fun y om1 F1 H1 β1 g1 M1 R1=>?_⟩
  obtain ⟨fl,sl⟩:=y
  cases fl with
  |nx=>exact fun σ' V'=>(show Res E (ret Wv.non om1) F1 H1 β1 (PV Q) from R1).now M1 _ .non
  |bk=>exact R1.elim
  |ct=>exact R1.elim
  |rt u=>exact (show Res E (ret u om1) F1 H1 β1 (PV Q) from R1).now M1
theorem FnOk.as {k n:Nat} {f:Addr} {fd:FuncData} {ps:List Str} {CX:CXT} {g g':List Wv->Mw Wv} (F:FnOk P w K mg base CX k f fd ps (spM n g)) (h:∀ws om,ws.length=n->g' ws om≠none->g ws om=g' ws om):FnOk P w K mg base CX k f fd ps (spM n g') :=
 F.imp fun vs H Q E ⟨F,β,om,ws,M,rs,hl,R⟩=>⟨F,β,om,ws,M,rs,hl,by
  rw[h ws om hl (fun z=>by rw[z]at R; exact R)]
  exact R⟩
end
end
open PySem PySem.W PyProof.Rows
structure Swo (lt:Nat->Nat->Bool):Prop where
 irr:∀a,lt a a=false
 tr:∀a b c,lt a b=true->lt b c=true->lt a c=true
 neg:∀a b c,lt a c=true->lt a b=true∨lt b c=true
def Hs {α:Type} (lt:Nat->Nat->Bool) (n:Nat) (Q:α->Prop):KasT α->Prop
 |.ret a=>Q a
 |.ask i j k=>i < n∧j < n∧Hs lt n Q (k (lt i j))
theorem Hs.bind {α γ:Type} {lt:Nat->Nat->Bool} {n:Nat} {Q:γ->Prop} {f:α->KasT γ}:∀{t:KasT α},Hs lt n (fun a=>Hs lt n Q (f a)) t->Hs lt n Q (t.bind f)
 |.ret a,h=>h
 |.ask i j k,⟨h1,h2,h3⟩=>⟨h1,h2,Hs.bind h3⟩
theorem Hs.wp {α:Type} {lt:Nat->Nat->Bool} {n:Nat} {Q':α->Prop} {Q:α->Shared->Prop} {cmp:Nat->Nat->(Bool->Shared->Prop)->Shared->Prop} {s:Shared} (hc:∀i j C,i < n->j < n->C (lt i j) s->cmp i j C s) (hq:∀a,Q' a->Q a s):∀{t:KasT α},Hs lt n Q' t->t.kasWp cmp Q s
 |.ret a,h=>hq a h
 |.ask i j k,⟨h1,h2,h3⟩=>hc i j _ h1 h2 (Hs.wp hc hq h3)
def gN (p:Array Nat) (i:Nat):Nat:=p.getD i 0
theorem M6 {p q:Array Nat} {i j:Nat} (h:p[i]?=q[j]?):gN p i=gN q j:=by
 unfold gN
 rw[Array.getD_eq_getD_getElem?,Array.getD_eq_getD_getElem?,h]
theorem RB {p:Array Nat} {i j:Nat} (hj:j<=p.size) (k:Nat):gN (kas_rev p i j) k=if i<=k∧k < j then gN p (i+j - 1 - k) else gN p k:=by
 have e:=getElem?_mirror_all (xs:=p) (i:=i) hj k
 unfold kas_rev
 split at e <;> rename_i h
 ·rw[if_pos h]; exact M6 e
 ·rw[if_neg h]; exact M6 e
theorem Gd {p:Array Nat} {k d:Nat} (hs:k < p.size) (hd:d<=k) (i:Nat):gN (bubble p k d) i=if i=k - d then gN p k else if k - d < i∧i<=k then gN p (i - 1) else gN p i:=by
 have e:=getElem?_bubble hs d hd i
 by_cases h1:i=k - d
 ·rw[if_pos h1]at e ⊢; exact M6 e
 ·rw[if_neg h1]at e ⊢
  by_cases h2:k - d < i∧i<=k
  ·rw[if_pos h2]at e ⊢; exact M6 e
  ·rw[if_neg h2]at e ⊢; exact M6 e
structure Pm (n:Nat) (p:Array Nat):Prop where
 size:p.size=n
 perm:p.toList.Perm (List.range n)
theorem Pm.lt {n:Nat} {p:Array Nat} (P:Pm n p) (hn:0 < n) (i:Nat):gN p i < n:=by
 unfold gN
 by_cases h:i < p.size
 ·rw[Array.getD_eq_getD_getElem?,Array.getElem?_eq_getElem h]
  have:p[i]∈p.toList:=by simp
  have:=P.perm.mem_iff.mp this
  simpa using this
 ·rw[Array.getD_eq_getD_getElem?,Array.getElem?_eq_none (by omega)]
  exact hn
theorem Pm.rev {n:Nat} {p:Array Nat} (P:Pm n p) (i j:Nat):Pm n (kas_rev p i j) :=
 ⟨(mirror_size _ _ _ _).trans P.size,(Array.perm_iff_toList_perm.mp (mirror_perm _ _ _ _)).trans P.perm⟩
theorem Pm.bub {n:Nat} {p:Array Nat} (P:Pm n p) (k d:Nat):Pm n (bubble p k d) :=
 ⟨(bubble_size _ _ _).trans P.size,(Array.perm_iff_toList_perm.mp (bubble_perm _ _ _)).trans P.perm⟩
section
variable {lt:Nat->Nat->Bool} (O:Swo lt) {n:Nat}
def le' (lt:Nat->Nat->Bool) (a b:Nat):Prop:=lt b a=false
include O
theorem Wa {a b c:Nat} (h1:le' lt a b) (h2:le' lt b c):le' lt a c:=by
 unfold le' at *
 cases h:lt c a with
 |false=>rfl
 | true => rcases O.neg c b a h with z | z
           ·rw[h2]at z; cases z
           ·rw[h1]at z; cases z
theorem O0 {a b:Nat} (h:lt a b=true):le' lt a b:=by
 unfold le'
 cases z:lt b a with
 |false=>rfl
 |true=>have:=O.tr a b a h z; rw[O.irr]at this; cases this
theorem CJ {a b c:Nat} (h1:lt a b=true) (h2:le' lt b c):lt a c=true:=by
 rcases O.neg a c b h1 with z|z
 ·exact z
 ·rw[h2]at z; cases z
omit O in
def Srt (lt:Nat->Nat->Bool) (p:Array Nat) (m:Nat):Prop:=∀i j,i<=j->j < m->le' lt (gN p i) (gN p j)
omit O in
def Fal (lt:Nat->Nat->Bool) (p:Array Nat) (m:Nat):Prop:=∀i j,i<=j->j < m->le' lt (gN p j) (gN p i)
theorem Srt.more {p:Array Nat} {m:Nat} (h1:1<=m) (S:Srt lt p m) (h:le' lt (gN p (m - 1)) (gN p m)):Srt lt p (m+1):=fun i j hij hj=>by
 by_cases hjm:j < m
 ·exact S i j hij hjm
 ·have:j=m:=by omega
  subst this
  by_cases hi:i=j
  ·subst hi; exact O.irr _
  ·exact Wa O (S i (j - 1) (by omega) (by omega)) h
theorem Fal.more {p:Array Nat} {m:Nat} (h1:1<=m) (S:Fal lt p m) (h:le' lt (gN p m) (gN p (m - 1))):Fal lt p (m+1):=fun i j hij hj=>by
 by_cases hjm:j < m
 ·exact S i j hij hjm
 ·have:j=m:=by omega
  subst this
  by_cases hi:i=j
  ·subst hi; exact O.irr _
  ·exact Wa O h (S i (j - 1) (by omega) (by omega))
theorem Lv {p:Array Nat} (P:Pm n p) (hn:0 < n) {Q:Nat->Prop}:∀(f m:Nat),1<=m->Srt lt p m->(∀k,m<=k->k<=m+f->Srt lt p k->(k < m+f->lt (gN p k) (gN p (k - 1))=true)->Q k)->Hs lt n Q (kas_asc p f m)
 |0,m,h1,S,q=>q m (Nat.le_refl _) (Nat.le_refl _) S fun z=>absurd z (Nat.lt_irrefl _)
 |f+1,m,h1,S,q=>by
  refine ⟨P.lt hn m,P.lt hn (m - 1),?_⟩
  cases h:lt (p.getD m 0) (p.getD (m - 1) 0) with
  |true=>dsimp only; rw[if_pos rfl]; exact q m (Nat.le_refl _) (by omega) S fun _=>h
  |false =>
   dsimp only; rw[if_neg Bool.false_ne_true]
   exact Lv P hn f (m+1) (by omega) (S.more O h1 h) fun k h2 h3 S' h4=>q k (by omega) (by omega) S' fun z=>h4 (by omega)
omit O in
def Eq' (lt:Nat->Nat->Bool) (a b:Nat):Prop:=le' lt a b∧le' lt b a
omit O in
def Tl (lt:Nat->Nat->Bool) (p:Array Nat) (m c:Nat):Prop:=∀i,m - c<=i->i < m->Eq' lt (gN p i) (gN p (m - 1))
theorem Ni {p:Array Nat} {m c:Nat} (hm:m<=p.size) (hc:c<=m) (S:Fal lt p m) (T:Tl lt p m c):Fal lt (kas_rev p (m - c) m) m∧(∀i,i < m->Eq' lt (gN (kas_rev p (m - c) m) i) (gN p i)):=by
 have e:∀i,i < m->Eq' lt (gN (kas_rev p (m - c) m) i) (gN p i):=fun i hi=>by
  rw[RB hm]
  by_cases h:m - c<=i∧i < m
  ·rw[if_pos h]
   have t1:=T (m - c+m - 1 - i) (by omega) (by omega)
   have t2:=T i h.1 h.2
   exact ⟨Wa O t1.1 t2.2,Wa O t2.1 t1.2⟩
  ·rw[if_neg h]; exact ⟨O.irr _,O.irr _⟩
 exact ⟨fun i j hij hj=>Wa O (e j hj).1 (Wa O (S i j hij hj) (e i (by omega)).2),e⟩
theorem Rf (hn:0 < n) {Q:Array Nat × Nat × Nat->Prop}:∀(f:Nat) (p:Array Nat) (m q:Nat),Pm n p->1<=m->q+1<=m->m+f<=n->Fal lt p m->Tl lt p m (q+1) ->
    (∀p' k q',Pm n p'->m<=k->k<=m+f->q'+1<=k->Fal lt p' k->Tl lt p' k (q'+1)->Q (p',k,q'))->Hs lt n Q (kas_desc f p m q)
 |0,p,m,q,P,h1,hq,hm,S,T,k=>k p m q P (Nat.le_refl _) (Nat.le_refl _) hq S T
 |f+1,p,m,q,P,h1,hq,hm,S,T,k=>by
  refine ⟨P.lt hn m,P.lt hn (m - 1),?_⟩
  cases h:lt (p.getD m 0) (p.getD (m - 1) 0) with
  |true =>
   dsimp only; rw[if_pos rfl]
   have hl:le' lt (gN p m) (gN p (m - 1)):=O0 O h
   by_cases hq0:q > 0
   ·rw[if_pos hq0]
    obtain ⟨S1,E1⟩:=Ni O (by rw[P.size]; omega) hq S T
    refine Rf hn f _ (m+1) 0 (P.rev _ _) (by omega) (by omega) (by omega) (Fal.more O h1 S1 ?_) (fun i hi hi2=>?_) fun p' k' q' P' a1 a2 a3 a4 a5=>k p' k' q' P' (by omega) (by omega) a3 a4 a5
    ·have e2:gN (kas_rev p (m - (q+1)) m) m=gN p m:=by rw[RB (by rw[P.size]; omega),if_neg (by omega)]
     rw[e2]
     exact Wa O hl (E1 (m - 1) (by omega)).2
    ·have:i=m+1 - 1:=by omega
     rw[this]; exact ⟨O.irr _,O.irr _⟩
   ·rw[if_neg hq0]
    refine Rf hn f _ (m+1) 0 P (by omega) (by omega) (by omega) (Fal.more O h1 S hl) (fun i hi hi2=>?_) fun p' k' q' P' a1 a2 a3 a4 a5=>k p' k' q' P' (by omega) (by omega) a3 a4 a5
    have:i=m+1 - 1:=by omega
    rw[this]; exact ⟨O.irr _,O.irr _⟩
  |false =>
   dsimp only; rw[if_neg Bool.false_ne_true]
   refine ⟨P.lt hn (m - 1),P.lt hn m,?_⟩
   cases h2:lt (p.getD (m - 1) 0) (p.getD m 0) with
   |true=>dsimp only; rw[if_pos rfl]; exact k p m q P (Nat.le_refl _) (by omega) hq S T
   |false =>
    dsimp only; rw[if_neg Bool.false_ne_true]
    have e:Eq' lt (gN p m) (gN p (m - 1)):=⟨h2,h⟩
    refine Rf hn f p (m+1) (q+1) P (by omega) (by omega) (by omega) (Fal.more O h1 S e.1) (fun i hi hi2=>?_) fun p' k' q' P' a1 a2 a3 a4 a5=>k p' k' q' P' (by omega) (by omega) a3 a4 a5
    show Eq' lt (gN p i) (gN p m)
    by_cases him:i=m
    ·rw[him]; exact ⟨O.irr _,O.irr _⟩
    ·have t:=T i (by omega) (by omega)
     exact ⟨Wa O t.1 e.2,Wa O e.1 t.2⟩
theorem El {p:Array Nat} {m:Nat} (hm:m<=p.size) (S:Fal lt p m):Srt lt (kas_rev p 0 m) m:=fun i j hij hj=>by
 rw[RB hm,RB hm,if_pos (by omega),if_pos (by omega)]
 exact S _ _ (by omega) (by omega)
theorem KO {p:Array Nat} {m:Nat} (P:Pm n p) (hn:0 < n) (h1:1<=m) (hm:m<=n) (S:Fal lt p m) {Q:Nat × Array Nat->Prop} (k:∀c p',Pm n p'->1<=c->c<=n->Srt lt p' c->Q (c,p')):Hs lt n Q (kas_tail3 m n p):=by
 unfold kas_tail3
 refine Hs.bind (Lv O (P.rev 0 m) hn (n - m) m h1 (El O (by rw[P.size]; exact hm) S) fun c h2 h3 S' _=>?_)
 exact k c _ (P.rev 0 m) (by omega) (by omega) S'
theorem SH {p:Array Nat} {m:Nat} (P:Pm n p) (hn:0 < n) (h1:1<=m) (hm:m+1<=n) (S:Fal lt p (m+1)) {Q:Nat × Array Nat->Prop} (k:∀c p',Pm n p'->1<=c->c<=n->Srt lt p' c->Q (c,p')):Hs lt n Q (kas_descPart m n p):=by
 unfold kas_descPart
 refine Hs.bind (Rf O hn _ p (m+1) 0 P (by omega) (by omega) (by omega) S (fun i hi hi2=>?_) fun p' c q P' a1 a2 a3 a4 a5=>?_)
 ·have:i=m+1 - 1:=by omega
  rw[this]; exact ⟨O.irr _,O.irr _⟩
 ·dsimp only
  by_cases hq:q > 0
  ·rw[if_pos hq]
   exact KO O (P'.rev _ _) hn (by omega) (by omega) (Ni O (by rw[P'.size]; omega) a3 a4 a5).1 k
  ·rw[if_neg hq]
   exact KO O P' hn (by omega) (by omega) a4 k
theorem Ho {p:Array Nat} (P:Pm n p) (hn:0 < n) {Q:Nat × Array Nat->Prop} (k:∀c p',Pm n p'->1<=c->c<=n->Srt lt p' c->Q (c,p')):Hs lt n Q (kas_count n p):=by
 unfold kas_count
 refine Hs.bind (Lv O P hn (n - 1) 1 (Nat.le_refl _) (fun i j hij hj=>?_) fun m h1 h2 S h3=>?_)
 ·have:i=j:=by omega
  rw[this]; exact O.irr _
 ·by_cases he:(m == n)=true
  ·rw[if_pos he]
   exact k m p P h1 (by have:=eq_of_beq he; omega) S
  ·rw[if_neg he]
   have hne:m≠n:=fun z=>he (beq_iff_eq.mpr z)
   have hlt:=h3 (by omega)
   by_cases hm:m > 1
   ·rw[if_pos hm]
    refine ⟨P.lt hn 0,P.lt hn (m - 1),?_⟩
    cases hc:lt (p.getD 0 0) (p.getD (m - 1) 0) with
    |true=>dsimp only; rw[if_pos rfl]; exact k m p P h1 (by omega) S
    |false =>
     dsimp only; rw[if_neg Bool.false_ne_true]
     have alike:∀i,i < m->Eq' lt (gN p i) (gN p (m - 1)):=fun i hi=>⟨S i (m - 1) (by omega) (by omega),Wa O (show le' lt (gN p (m - 1)) (gN p 0) from hc) (S 0 i (by omega) hi)⟩
     have F:Fal lt p m:=fun i j hij hj=>Wa O (alike j hj).1 (alike i (by omega)).2
     obtain ⟨F1,E1⟩:=Ni O (c:=m) (by rw[P.size]; omega) (Nat.le_refl _) F fun i _ hi=>alike i hi
     rw[Nat.sub_self]at F1 E1
     refine SH O (P.rev 0 m) hn (by omega) (by omega) (Fal.more O (by omega) F1 ?_) k
     have e2:gN (kas_rev p 0 m) m=gN p m:=by rw[RB (by rw[P.size]; omega),if_neg (by omega)]
     rw[e2]
     exact Wa O (O0 O hlt) (E1 (m - 1) (by omega)).2
   ·rw[if_neg hm]
    have hm1:m=1:=by omega
    subst hm1
    refine SH O P hn (by omega) (by omega) (Fal.more O (by omega) (fun i j hij hj=>?_) (O0 O hlt)) k
    have:i=j:=by omega
    rw[this]; exact O.irr _
theorem Qm {p:Array Nat} {k:Nat} (P:Pm n p) (hn:0 < n) (S:Srt lt p k) {Q:Nat->Prop}:∀(f l r:Nat),l<=r->r<=k->r - l<=f->(∀i,i < l->le' lt (gN p i) (gN p k))->(∀i,r<=i->i < k->lt (gN p k) (gN p i)=true) ->
    (∀m,m<=k->(∀i,i < m->le' lt (gN p i) (gN p k))->(∀i,m<=i->i < k->lt (gN p k) (gN p i)=true)->Q m)->Hs lt n Q (kas_place p k f l r)
 |0,l,r,h1,h2,h3,a,b,q=>q l (by omega) a fun i hi hk=>b i (by omega) hk
 |f+1,l,r,h1,h2,h3,a,b,q=>by
  unfold kas_place
  by_cases hlr:l ≥ r
  ·rw[if_pos hlr]
   exact q l (by omega) a fun i hi hk=>b i (by omega) hk
  ·rw[if_neg hlr]
   refine ⟨P.lt hn k,P.lt hn _,?_⟩
   cases hc:lt (p.getD k 0) (p.getD ((l+r) / 2) 0) with
   |true =>
    dsimp only; rw[if_pos rfl]
    refine Qm P hn S f l ((l+r) / 2) (by omega) (by omega) (by omega) a (fun i hi hk=>CJ O hc (S _ _ hi hk)) q
   |false =>
    dsimp only; rw[if_neg Bool.false_ne_true]
    refine Qm P hn S f ((l+r) / 2+1) r (by omega) (by omega) (by omega) (fun i hi=>Wa O (S i ((l+r) / 2) (by omega) (by omega)) hc) b q
theorem EW {p:Array Nat} {k m:Nat} (hk:k < p.size) (hm:m<=k) (S:Srt lt p k) (a:∀i,i < m->le' lt (gN p i) (gN p k)) (b:∀i,m<=i->i < k->lt (gN p k) (gN p i)=true):Srt lt (bubble p k (k - m)) (k+1):=fun i j hij hj=>by
 have e:k - (k - m)=m:=by omega
 rw[Gd hk (by omega),Gd hk (by omega),e]
 by_cases hi:i=m
 ·rw[if_pos hi]
  by_cases hj2:j=m
  ·rw[if_pos hj2]; exact O.irr _
  ·rw[if_neg hj2,if_pos (by omega)]; exact O0 O (b _ (by omega) (by omega))
 ·rw[if_neg hi]
  by_cases hi2:m < i∧i<=k
  ·rw[if_pos hi2,if_neg (by omega),if_pos (by omega)]; exact S _ _ (by omega) (by omega)
  ·rw[if_neg hi2]
   by_cases hj2:j=m
   ·rw[if_pos hj2]; exact a i (by omega)
   ·rw[if_neg hj2]
    by_cases hj3:m < j∧j<=k
    ·rw[if_pos hj3]; exact S _ _ (by omega) (by omega)
    ·rw[if_neg hj3]; exact S _ _ hij (by omega)
theorem Fc (hn:0 < n) {Q:Array Nat->Prop}:∀(f:Nat) (p:Array Nat) (k:Nat),Pm n p->k+f<=n->Srt lt p k->(∀p',Pm n p'->Srt lt p' (k+f)->Q p')->Hs lt n Q (kas_bin f p k)
 |0,p,k,P,h,S,q=>q p P S
 |f+1,p,k,P,h,S,q=>by
  unfold kas_bin
  refine Hs.bind (Qm O P hn S k 0 k (Nat.zero_le _) (Nat.le_refl _) (by omega) (fun i hi=>absurd hi (Nat.not_lt_zero _)) (fun i h1 h2=>absurd h2 (by omega)) fun m hm a b=>?_)
  exact Fc hn f _ (k+1) (P.bub _ _) (by omega) (EW O (by rw[P.size]; omega) hm S a b) fun p' P' S'=>q p' P' (by rw[show k+(f+1)=k+1+f by omega]; exact S')
theorem Fr (hn:0 < n):Hs lt n (fun p=>Pm n p∧Srt lt p n) (kas_sort n):=by
 unfold kas_sort
 have P0:Pm n (List.toArray (List.range n)):=⟨by simp,by simp⟩
 refine Hs.bind (Ho O P0 hn fun c p' P h1 h2 S=>?_)
 dsimp only
 by_cases hc:c < n
 ·rw[if_pos hc]
  have hm:max c 1=c:=by omega
  rw[hm]
  refine Fc O hn (n - c) p' c P (by omega) S fun p2 P2 S2=>⟨P2,?_⟩
  rw[show c+(n - c)=n by omega]at S2
  exact S2
 ·rw[if_neg hc]
  have:c=n:=by omega
  subst this
  exact ⟨P,S⟩
end
end L2
namespace L2
noncomputable section
open PySem PySem.Spec PyProof.Rows
section
variable {X:Cx} {E:XK} {e a b c o:Expr} {es:List Expr} {f fa fb fc fo:FE} {fs:FA} {pos p2 p p':Pos}
theorem Uk {x:Str} {i:Int} (hg:Gl X x) (h:∃t,X.mg x=some (.int i t)) (hd:(x == ("__debug__":Str))=false:=by decide):PE X (.Name x pos) (tE E (fC (.int i))) :=
 let ⟨_,h⟩:=h; JN (KN (v:=.int i) hg h ⟨_,rfl⟩ hd) fun _ _=>.int i
def EV (x y:Wv):Mw Wv:=fun om=>match x,y with
 |.lst ws,.lst us=>if ws.length+us.length<=lim then some (.ok (.lst (ws++us)),om) else none
 |_,_=>none
end
def kUn (i:Nat):Fl × Sl->Mw (Fl × Sl):=fun x=>ret (x.1,x.2.set i none)
def Ea (caught:Addr->Bool) (i:Nat) (S suite:FS):FS:=fun sl om=>match S sl om with
 |some (.error C,om')=>if caught C=true then bnd (ZL (suite (sl.set i (some (.o om'.length))))) (kUn i) (om'++[.exc C]) else none
 |r=>r
section
variable {X:Cx} {E:XK} {pins:List (Addr × Obj)} {σ:St} {e o:Expr} {es:List Expr} {st:Stmt} {f fo:FE} {fs:FA} {S S1 S2:FS} {c:FT} {pos:Pos}
variable {CX:CXT} {k n:Nat} {fn C:Addr} {fd:FuncData} {ps:List Str} {g:List Wv->Mw Wv} {x m:Str}
end
structure ExcAll (K:PySem.W.Frag) (isE:Addr->Bool) (kit:Addr->Value->Bool) (Ds:List Value):Prop where
 k:∀C,isE C=true->ExcK K C
 a:∀C D,isE C=true->D∈Ds->PySem.W.kitOne K (.ref C) D=some (kit C D)
def EM (isE:Addr->Bool) (kit:Addr->Value->Bool) (D:Value) (x:Wv):Mw Wv:=fun om=>match x with
 |.o h=>match om[h]? with
  |some (.exc C)=>if isE C=true then some (.ok (.bl (kit C D)),om) else none
  |_=>none
 |_=>none
section
variable {X:Cx} {E:XK} {e:Expr} {f:FE} {pos p p2:Pos} {isE:Addr->Bool} {kit:Addr->Value->Bool} {Ds:List Value}
end
end
end L2
namespace L2
noncomputable section
open PySem PySem.Spec PyProof.Rows
mutual
def small (n:Nat):Wv->Prop
 |.o h=>h < n
 |.lst ws=>smalls n ws
 |.tup ws=>smalls n ws
 |_=>True
def smalls (n:Nat):List Wv->Prop
 |[]=>True
 |w::r=>small n w∧smalls n r
end
def UA (n:Nat):Ob->Prop
 |.ins _ fs=>∀p∈fs,small n p.2
 |.lst ws=>smalls n ws
 |.dk kvs=>∀p∈kvs,small n p.2
 |.dt kvs=>∀p∈kvs,small n p.2
 |.exc _=>True
 |.dz kvs=>∀p∈kvs,small n p.2
mutual
theorem RW.small {F:Hp} {β:List Addr}:∀{w:Wv} {v:V},RW F β w v->small β.length w
 |_,_,.non=>trivial
 |_,_,.bl _=>trivial
 |_,_,.int _=>trivial
 |_,_,.str _=>trivial
 |_,_,.lst _ r=>RWs.small r
 |_,_,.tup _ r=>RWs.small r
 |_,_,.o e=>(List.getElem?_eq_some_iff.mp e).1
 |_,_,.g _=>trivial
theorem RWs.small {F:Hp} {β:List Addr}:∀{ws:List Wv} {vs:List V},RWs F β ws vs->smalls β.length ws
 |_,_,.nil=>trivial
 |_,_,.cons h r=>⟨RW.small h,RWs.small r⟩
end
theorem RK.small {F:Hp} {β:List Addr} {κ:Type}:∀{ps:List (κ × Wv)} {qs:List (κ × V)},RK F β ps qs->∀p∈ps,L2.small β.length p.2
 |_,_,.nil,_,hp=>nomatch hp
 |_,_,.cons h r,p,hp=>by
  rcases List.mem_cons.mp hp with rfl|hp
  ·exact h.small
  ·exact RK.small r p hp
theorem MOk.small {F H:Hp} {β:List Addr} {om:List Ob} (M:MOk F H β om):∀x∈om,UA om.length x:=fun x hx=>by
 obtain ⟨i,hi⟩:=List.getElem?_of_mem hx
 obtain ⟨a,_,_,r⟩:=M.at hi
 rw[← M.len]
 cases x with
 |ins C fs=>obtain ⟨_,_,_,r⟩:=r; exact r.small
 |lst ws=>obtain ⟨_,_,r⟩:=r; exact r.small
 |dk kvs=>obtain ⟨_,_,r⟩:=r; exact r.small
 |dt kvs=>obtain ⟨_,_,r⟩:=r; exact r.small
 |exc C=>trivial
 |dz kvs=>obtain ⟨_,_,_,r⟩:=r; exact r.small
mutual
inductive FzW (om:List Ob) (n:Nat):Wv->Wv->Prop
 |same {w:Wv} (h:small n w):FzW om n w w
 |own {h:Nat} {xs ys:List Wv} (hn:n<=h) (e:om[h]?=some (.lst xs)) (r:FzWs om n xs ys):FzW om n (.o h) (.lst ys)
 |lst {xs ys:List Wv} (r:FzWs om n xs ys):FzW om n (.lst xs) (.lst ys)
 |tup {xs ys:List Wv} (r:FzWs om n xs ys):FzW om n (.tup xs) (.tup ys)
inductive FzWs (om:List Ob) (n:Nat):List Wv->List Wv->Prop
 |nil:FzWs om n [] []
 |cons {x y:Wv} {xs ys:List Wv} (h:FzW om n x y) (r:FzWs om n xs ys):FzWs om n (x::xs) (y::ys)
end
theorem FzWs.of_smalls {om:List Ob} {n:Nat}:∀{ws:List Wv},smalls n ws->FzWs om n ws ws
 |[],_=>.nil
 |_::_,⟨h,r⟩=>.cons (.same h) (FzWs.of_smalls r)
section
variable {F' F'':Hp} {β β':List Addr} {n:Nat} (same':Same F' F'') (ext:∀(h:Nat),h < n->β'[h]?=β[h]?)
mutual
theorem RW.down (same':Same F' F'') (ext:∀(h:Nat),h < n->β'[h]?=β[h]?):∀{w:Wv} {v:V},RW F' β' w v->L2.small n w->RW F'' β w v
 |_,_,.non,_=>.non
 |_,_,.bl b,_=>.bl b
 |_,_,.int i,_=>.int i
 |_,_,.str x,_=>.str x
 |_,_,.lst e r,hs=>.lst (Rd.same same' e) (RWs.down same' ext r hs)
 |_,_,.tup e r,hs=>.tup (same' _ _ e) (RWs.down same' ext r hs)
 |_,_,.o (h:=h) e,hs=>.o ((ext h hs).symm.trans e)
 |_,_,.g a,_=>.g a
theorem RWs.down (same':Same F' F'') (ext:∀(h:Nat),h < n->β'[h]?=β[h]?):∀{ws:List Wv} {vs:List V},RWs F' β' ws vs->smalls n ws->RWs F'' β ws vs
 |_,_,.nil,_=>.nil
 |_,_,.cons h r,hs=>.cons (RW.down same' ext h hs.1) (RWs.down same' ext r hs.2)
end
theorem RK.down (same':Same F' F'') (ext:∀(h:Nat),h < n->β'[h]?=β[h]?) {κ:Type}:∀{ps:List (κ × Wv)} {qs:List (κ × V)},RK F' β' ps qs->(∀p∈ps,L2.small n p.2)->RK F'' β ps qs
 |_,_,.nil,_=>.nil
 |_,_,.cons h r,hs=>.cons (RW.down same' ext h (hs _ (.head _))) (RK.down same' ext r fun q hq=>hs q (.tail _ hq))
variable {om:List Ob}
mutual
theorem FzW.rel (same':Same F' F'') (ext:∀(h:Nat),h < n->β'[h]?=β[h]?) (own:∀h a xs,n<=h->β'[h]?=some a->om[h]?=some (.lst xs)->∃zs,F'' a=some (.lst zs)∧RWs F' β' xs zs):∀{w w':Wv} {v:V},FzW om n w w'->RW F' β' w v->RW F'' β w' v
 |_,_,_,.same h,r=>r.down same' ext h
 |_,_,_,.own hn e r,.o eb=>let ⟨_,h1,h2⟩:=own _ _ _ hn eb e; .lst (.inl h1) (FzWs.rel same' ext own r h2)
 |_,_,_,.lst r,.lst e rs=>.lst (Rd.same same' e) (FzWs.rel same' ext own r rs)
 |_,_,_,.tup r,.tup e rs=>.tup (same' _ _ e) (FzWs.rel same' ext own r rs)
theorem FzWs.rel (same':Same F' F'') (ext:∀(h:Nat),h < n->β'[h]?=β[h]?) (own:∀h a xs,n<=h->β'[h]?=some a->om[h]?=some (.lst xs)->∃zs,F'' a=some (.lst zs)∧RWs F' β' xs zs):∀{ws ws':List Wv} {vs:List V},FzWs om n ws ws'->RWs F' β' ws vs->RWs F'' β ws' vs
 |_,_,_,.nil,.nil=>.nil
 |_,_,_,.cons h r,.cons h' r'=>.cons (FzW.rel same' ext own h h') (FzWs.rel same' ext own r r')
end
end
section
variable {F F' H H':Hp} {β β':List Addr} {om om1 l:List Ob}
def HQ:Option HO->Option HO
 |some (.lst xs)=>some (.lst xs)
 |_=>none
theorem JO {x:Option HO} {o:HO} (h:HQ x=some o):x=some o:=by
 unfold HQ at h
 split at h
 ·exact h
 ·cases h
def Ml (F' H':Hp) (new:List Addr):Hp:=fun b=>if b∈new then HQ (H' b) else F' b
theorem Oh (M:MOk F H β om) (g:Gx F F' H H' β β') (M':MOk F' H' β' (om1++l)) (hl:om1.length=om.length) (hs:∀x∈om1,UA om.length x) :
    ∃F'',Gx F F'' H H' β β∧MOk F'' H' β om1∧∀w w' v,FzW (om1++l) om.length w w'->RW F' β' w v->RW F'' β w' v:=by
 have hβ:β.length=om.length:=M.len
 have hβ':β'.length=om.length+l.length:=by rw[M'.len,List.length_append,hl]
 have ext:∀(h:Nat),h < om.length->β'[h]?=β[h]?:=fun h hh=>by
  have e:β[h]?=some β[h]:=List.getElem?_eq_getElem (by omega)
  rw[e]; exact g.pre h _ e
 have inNew:∀(h:Nat) (a:Addr),om.length<=h->β'[h]?=some a->a∈β'.drop om.length:=fun h a hh e=>by
  refine List.mem_of_getElem? (i:=h - om.length) ?_
  rw[List.getElem?_drop]
  rw[show om.length+(h - om.length)=h by omega]
  exact e
 have ofNew:∀a,a∈β'.drop om.length->∃h,om.length<=h∧β'[h]?=some a:=fun a ha=>by
  obtain ⟨i,hi⟩:=List.getElem?_of_mem ha
  rw[List.getElem?_drop]at hi
  exact ⟨_,Nat.le_add_right _ _,hi⟩
 have oldNew:∀(h:Nat) (a:Addr),β[h]?=some a->a ∉ β'.drop om.length:=fun h a e ha=>by
  obtain ⟨j,hj,ej⟩:=ofNew a ha
  have hh:h < om.length:=by rw[← hβ]; exact (List.getElem?_eq_some_iff.mp e).1
  have:=ndx M'.nd ej (g.pre h a e)
  omega
 have newNone:∀a,a∈β'.drop om.length->H a=none:=fun a ha=>by
  rcases g.new a (List.mem_of_mem_drop ha) with h|h
  ·obtain ⟨i,hi⟩:=List.getElem?_of_mem h
   exact absurd ha (oldNew i a hi)
  ·exact h
 have same':Same F' (Ml F' H' (β'.drop om.length)):=fun b o e=>by
  unfold Ml
  by_cases hb:b∈β'.drop om.length
  ·obtain ⟨j,_,ej⟩:=ofNew b hb
   rw[M'.free j b ej]at e; cases e
  ·rw[if_neg hb]; exact e
 have sub':Same (Ml F' H' (β'.drop om.length)) H':=fun b o e=>by
  unfold Ml at e
  by_cases hb:b∈β'.drop om.length
  ·rw[if_pos hb]at e; exact JO e
  ·rw[if_neg hb]at e; exact M'.sub b o e
 refine ⟨Ml F' H' (β'.drop om.length),⟨⟨g.same.trans same',fun _ _ e=>e⟩,g.keep,g.there,fun b hb=>.inl hb,fun b o e=>?_,g.frz⟩,⟨sub',M.nd,by rw[hβ,hl],fun h a e=>?_,fun h a x e1 e2=>?_⟩,?_⟩
 ·unfold Ml at e
  by_cases hb:b∈β'.drop om.length
  ·exact .inr (newNone b hb)
  ·rw[if_neg hb]at e; exact g.fnew b o e
 ·unfold Ml
  rw[if_neg (oldNew h a e)]
  exact M'.free h a (g.pre h a e)
 ·have hh:h < om1.length:=(List.getElem?_eq_some_iff.mp e2).1
  have hx:=M'.ob h a x (g.pre h a e1) (by rw[List.getElem?_append_left hh]; exact e2)
  have sx:=hs x (List.mem_of_getElem? e2)
  cases x with
  |ins C fs=>obtain ⟨dx,fs',h1,r⟩:=hx; exact ⟨dx,fs',h1,r.down same' ext sx⟩
  |lst ws=>obtain ⟨xs,h1,r⟩:=hx; exact ⟨xs,h1,r.down same' ext sx⟩
  |dk kvs=>obtain ⟨ks,h1,r⟩:=hx; exact ⟨ks,h1,r.down same' ext sx⟩
  |dt kvs=>obtain ⟨ks,h1,r⟩:=hx; exact ⟨ks,h1,r.down same' ext sx⟩
  |exc C=>exact hx
  |dz kvs=>obtain ⟨o,ks,h1,r⟩:=hx; exact ⟨o,ks,h1,r.down same' ext sx⟩
 ·intro w w' v fz r
  refine FzW.rel same' ext (fun h a xs hn eb e=>?_) fz r
  obtain ⟨a',ea,_,zs,hz,rs⟩:=M'.at e
  rw[eb]at ea; cases ea
  refine ⟨zs,?_,rs⟩
  unfold Ml
  rw[if_pos (inNew h _ hn eb),hz]
  rfl
end
inductive Tidy (om:List Ob):Option (Except Addr Wv × List Ob)->Option (Except Addr Wv × List Ob)->Prop
 |same (r:Option (Except Addr Wv × List Ob)):Tidy om r r
 |ok {w w':Wv} {om1 l:List Ob} (hl:om1.length=om.length) (hs:∀x∈om1,UA om.length x) (fz:FzW (om1++l) om.length w w'):Tidy om (some (.ok w,om1++l)) (some (.ok w',om1))
 |err {C:Addr} {om1 l:List Ob} (hl:om1.length=om.length) (hs:∀x∈om1,UA om.length x):Tidy om (some (.error C,om1++l)) (some (.error C,om1))
theorem FnOk.tidy {P:Program} {w:World} {K:PySem.W.Frag} {mg:Str->Option Value} {base:Heap} {k n:Nat} {f:Addr} {fd:FuncData} {ps:List Str} {CX:CXT} {g g':List Wv->Mw Wv} (F:FnOk P w K mg base CX k f fd ps (spM n g))
    (h:∀ws om,ws.length=n->(∀x∈om,UA om.length x)->g' ws om≠none->Tidy om (g ws om) (g' ws om)):FnOk P w K mg base CX k f fd ps (spM n g') :=
 F.imp fun vs H Q E ⟨F,β,om,ws,M,rs,hl,R⟩=>⟨F,β,om,ws,M,rs,hl,by
  have t:=h ws om hl M.small (fun z=>by rw[z]at R; exact R)
  generalize g ws om=r at t
  generalize g' ws om=r' at t R
  cases t with
  |same=>exact R
  |ok hl' hs fz =>
   intro F' H' β' g1 M' v rv
   obtain ⟨F'',g2,M2,rel⟩:=Oh M g1 M' hl' hs
   exact R F'' H' β g2 M2 v (rel _ _ v fz rv)
  |err hl' hs =>
   intro F' H' β' g1 M'
   obtain ⟨F'',g2,M2,_⟩:=Oh M g1 M' hl' hs
   exact R F'' H' β g2 M2⟩
end
end L2
namespace L2
noncomputable section
open PySem PySem.Spec PyProof.Rows PySem.W
def ltP (a b:Int × Int):Bool:=if a.1=b.1 then decide (a.2 < b.2) else decide (a.1 < b.1)
theorem Y3 {a b:Int × Int}:ltP a b=true ↔ a.1 < b.1∨(a.1=b.1∧a.2 < b.2):=by
 unfold ltP
 split
 ·rw[decide_eq_true_iff]; omega
 ·rw[decide_eq_true_iff]; omega
def Mo (ps:List (Int × Int)) (i j:Nat):Bool:=ltP (ps.getD i (0,0)) (ps.getD j (0,0))
theorem Ch (ps:List (Int × Int)):Swo (Mo ps) where
 irr:=fun a=>by
  cases h:Mo ps a a with
  |false=>rfl
  |true=>have:=Y3.mp h; omega
 tr:=fun a b c h1 h2=>by
  have h1:=Y3.mp h1
  have h2:=Y3.mp h2
  exact Y3.mpr (by omega)
 neg:=fun a b c h=>by
  have h:=Y3.mp h
  by_cases hb:Mo ps a b=true
  ·exact .inl hb
  ·refine .inr (Y3.mpr ?_)
   have hb:¬ (_∨_):=fun z=>hb (Y3.mpr z)
   omega
section
variable {prog:Program} {w:World} {A:Around} {E:Value->Shared->Prop} {s:Shared}
structure PrsAt (h:Heap) (as:List Addr) (ps:List (Int × Int)):Prop where
 len:as.length=ps.length
 at':∀(i:Nat) (a:Addr) (p:Int × Int),as[i]?=some a->ps[i]?=some p->∃t u,h.get? a=some { cls:=.type "tuple",data:=.seq #[.int p.1 t,.int p.2 u] }
theorem PrsAt.keep {h h':Heap} {as:List Addr} {ps:List (Int × Int)} (x:PrsAt h as ps) (k:∀a∈as,∀o,h.get? a=some o->h'.get? a=some o):PrsAt h' as ps :=
 ⟨x.len,fun i a p e1 e2=>let ⟨t,u,e⟩:=x.at' i a p e1 e2; ⟨t,u,k a (List.mem_of_getElem? e1) _ e⟩⟩
theorem IW {a b:Addr} {x y:Int × Int} {t u t' u':Tok} {C:Bool->Shared->Prop} (h1:s.heap.get? a=some { cls:=.type "tuple",data:=.seq #[.int x.1 t,.int x.2 u] }) (h2:s.heap.get? b=some { cls:=.type "tuple",data:=.seq #[.int y.1 t',.int y.2 u'] })
    (h:C (ltP x y) s):wpAny (model prog w) A (keyLt' (tuples' true) (.ref a) (.ref b)) C E s:=by
 refine kat_lt h1 rfl h2 rfl (kat_cons (wpAny_eqBool_int ?_))
 unfold ltP at h
 by_cases he:x.1=y.1
 ·rw[if_pos he]at h
  rw[show (x.1 == y.1)=true from beq_iff_eq.mpr he]
  refine kat_yes (kat_cons (wpAny_eqBool_int ?_))
  by_cases he2:x.2=y.2
  ·rw[show (x.2 == y.2)=true from beq_iff_eq.mpr he2]
   rw[decide_eq_false (by omega)]at h
   exact kat_yes (kat_nil h)
  ·rw[show (x.2 == y.2)=false from beq_eq_false_iff_ne.mpr he2]
   exact kat_no (kat_one _ _ (lt_int h))
 ·rw[if_neg he]at h
  rw[show (x.1 == y.1)=false from beq_eq_false_iff_ne.mpr he]
  exact kat_no (oneLt_int h)
theorem Jm {as:List Addr} {ps:List (Int × Int)} {Q:SortKind->Shared->Prop} (pa:PrsAt s.heap as ps) (hn:0 < ps.length) (h:Q (tuples' true) s):wpAny (model prog w) A (keyKind' (as.map Value.ref).toArray) Q E s:=by
 have key:∀(as:List Addr) (ps:List (Int × Int)),PrsAt s.heap as ps->∃fs,KatTups s.heap (as.map Value.ref) fs∧fs.length=ps.length∧∀v∈fs,∃i t,v=Value.int i t:=by
  intro as
  induction as with
  |nil =>
   intro ps pa
   have:ps=[]:=List.length_eq_zero_iff.mp pa.len.symm
   subst this
   exact ⟨[],KatTups.nil,rfl,fun v hv=>nomatch hv⟩
  |cons a as ih =>
   intro ps pa
   match ps,pa with
   |[],pa=>exact absurd pa.len (by simp)
   |p::ps,pa =>
    obtain ⟨fs,h1,h2,h3⟩:=ih ps ⟨by have:=pa.len; simpa using this,fun i a' p' e1 e2=>pa.at' (i+1) a' p' (by simpa using e1) (by simpa using e2)⟩
    obtain ⟨t,u,e⟩:=pa.at' 0 a p rfl rfl
    refine ⟨.int p.1 t::fs,KatTups.cons e rfl rfl rfl h1,by simp[h2],fun v hv=>?_⟩
    rcases List.mem_cons.mp hv with rfl|hv
    ·exact ⟨_,_,rfl⟩
    ·exact h3 v hv
 obtain ⟨fs,h1,h2,h3⟩:=key as ps pa
 refine kat_kind (T:=.type "int") h1 (by omega) (fun v hv=>?_) rfl h
 obtain ⟨i,t,rfl⟩:=h3 v hv
 exact Looks.now
theorem Ko {a:Addr} {as:List Addr} {ps:List (Int × Int)} {n:Nat} {P:PySem.Fin->Shared->Prop} (ho:s.heap.get? a=some (seqObj "list" (as.map Value.ref).toArray n)) (pa:PrsAt s.heap as ps) (hna:a ∉ as) (h64:as.length < 64)
    (fin:∀h' bs qs c,(∀b o,b≠a->s.heap.get? b=some o->h'.get? b=some o)->h'.get? a=some (seqObj "list" (bs.map Value.ref).toArray c)->(∃p:List Nat,p.Perm (List.range as.length)∧bs=p.map (fun i=>as.getD i 0)∧qs=p.map (fun i=>ps.getD i (0,0)))->qs.Pairwise (fun x y=>ltP y x=false)->P (.done (.ret .none)) { s with heap:=h' }) :
    wpAny (model prog w) A (Builtin.«list.sort» ⟨[.ref a],[]⟩) P E s:=by
 have ha:a < s.heap.objs.size:=Heap.lt_size ho
 have upd1:=Heap.SameBut.update s.heap a (Obj.mapSeq fun _=>(#[]:Array Value))
 obtain ⟨e1,g1⟩:∃e1,(s.heap.update a (Obj.mapSeq fun _=>(#[]:Array Value))).get? a=some (seqObj "list" #[] e1):=⟨_,get?_update_seq ho fun _=>#[]⟩
 have hvl:(as.map Value.ref).toArray.size=as.length:=by simp
 rw[list_sort_plain]
 refine wpAny_bind (listItems_at ho rfl (wpAny_bind (listUpdate_at ho rfl (wpAny_bind (seqEpoch_at g1 rfl (wpAny_bind (wpAny_newTuple (wpAny_bind (wpAny_newList (wpAny_holding ?_) (Nat.zero_le _))) (by show (as.map Value.ref).length<=_; rw[List.length_map,sizeLine_eq]; omega))))) (by rw[hvl,sizeLine_eq]; omega) (Nat.zero_le _))))
 generalize hH:((s.heap.update a (Obj.mapSeq fun _=>(#[]:Array Value))).push (seqObj "tuple" (as.map Value.ref).toArray 0)).push (seqObj "list" #[] 0)=h3
 have keep3:∀b o,b≠a->s.heap.get? b=some o->h3.get? b=some o:=fun b o hb e=>by
  rw[← hH]
  exact Heap.get?_push_of_some _ (Heap.get?_push_of_some _ ((upd1.2 b hb).trans e))
 have g3:h3.get? a=some (seqObj "list" #[] e1):=by rw[← hH]; exact Heap.get?_push_of_some _ (Heap.get?_push_of_some _ g1)
 have pa3:PrsAt h3 as ps:=pa.keep fun b hb o e=>keep3 b o (fun z=>hna (z ▸ hb)) e
 show wpAny (model prog w) A _ P E { s with heap:=h3 }
 have hend : ∀ (bs : List Addr) (qs : List (Int × Int)) (st : SortSt),(arrOf st).map (·.2) = (bs.map Value.ref).toArray -> bs.length <= as.length -> failedOf st = none -> (∃ p : List Nat,p.Perm (List.range as.length) ∧ bs = p.map (fun i => as.getD i 0) ∧ qs = p.map (fun i => ps.getD i (0,0))) -> qs.Pairwise (fun x y => ltP y x = false) ->
     wpAny (model prog w) A (do
      let touched:=(← seqEpoch a) != e1
      Builtin.List.listUpdate (.ref a) fun _=>(arrOf st).map (·.2)
      if let some e:=failedOf st then rule "list.sort.comparison-raised"; throw e
      if touched then rule "list.sort.modified"; raiseError "ValueError" "list modified during sort"
      PySem.ret .none) P E { s with heap:=h3 }:=fun bs qs st hout hbl hf hp hs=>by
  refine wpAny_bind (seqEpoch_at g3 rfl (wpAny_bind (listUpdate_at g3 rfl ?_ (Nat.zero_le _) (by rw[hout]; simp only[List.size_toArray,List.length_map]; rw[sizeLine_eq]; omega))))
  rw[hout,hf]
  obtain ⟨c2,g4⟩:∃c2,(h3.update a (Obj.mapSeq fun _=>(bs.map Value.ref).toArray)).get? a=some (seqObj "list" (bs.map Value.ref).toArray c2):=⟨_,get?_update_seq g3 fun _=>(bs.map Value.ref).toArray⟩
  have upd2:=Heap.SameBut.update h3 a (Obj.mapSeq fun _=>(bs.map Value.ref).toArray)
  simp only[bne_self_eq_false,Bool.false_eq_true,if_false]
  exact wpAny_pure (fin _ bs qs c2 (fun b o hb e=>(upd2.2 b hb).trans (keep3 b o hb e)) g4 hp hs)
 by_cases h2:as.length < 2
 ·have h2':(as.map Value.ref).toArray.size < 2:=by omega
  dsimp only
  rw[if_pos h2',if_pos h2']
  refine wpAny_bind (wpAny_pure ?_)
  rw[StateT.run_pure]
  refine wpAny_bind (wpAny_pure (hend as ps (SortSt.mk' general' ((as.map Value.ref).toArray.zip (as.map Value.ref).toArray) #[] 7 none) ?_ (Nat.le_refl _) rfl ⟨List.range as.length,List.Perm.refl _,?_,?_⟩ ?_))
  ·show ((as.map Value.ref).toArray.zip (as.map Value.ref).toArray).map (·.2)=_
   apply Array.toList_inj.mp
   simp only[Array.toList_map,Array.toList_zip]
   exact List.map_snd_zip (Nat.le_refl _)
  ·refine List.ext_getElem? fun i=>?_
   by_cases hi:i < as.length
   ·simp[hi]
   ·simp[hi]
  ·refine List.ext_getElem? fun i=>?_
   have:=pa.len
   by_cases hi:i < as.length
   ·simp[hi,show i < ps.length by omega]
   ·simp[hi,show ps.length<=i by omega]
  ·have:=pa.len
   match ps,this with
   |[],_=>exact List.Pairwise.nil
   |[_],_=>exact List.pairwise_singleton _ _
   |_::_::_,h=>simp at h; omega
 ·have h2':¬ (as.map Value.ref).toArray.size < 2:=by omega
  dsimp only
  rw[if_neg h2',if_neg h2']
  have hvs:(as.map Value.ref).length=as.length:=by simp
  refine wpAny_bind (Jm (s:={ s with heap:=h3 }) pa3 (by have:=pa.len; omega) ?_)
  have O:=Ch ps
  have tree:=Hs.wp (Q:=fun (p:Array Nat) s''=>s''={ s with heap:=h3 }∧Pm as.length p∧L2.Srt (Mo ps) p as.length) (cmp:=kas_ask prog w A (tuples' true) (as.map Value.ref)) (s:={ s with heap:=h3 })
   (fun i j C hi hj hC=>by
    unfold kas_ask
    have gi:(as.map Value.ref).getD i Value.none=.ref as[i]:=by simp[hi]
    have gj:(as.map Value.ref).getD j Value.none=.ref as[j]:=by simp[hj]
    rw[gi,gj]
    have hl:=pa.len
    obtain ⟨t,u,ei⟩:=pa3.at' i as[i] (ps[i]'(by omega)) (List.getElem?_eq_getElem hi) (List.getElem?_eq_getElem (by omega))
    obtain ⟨t',u',ej⟩:=pa3.at' j as[j] (ps[j]'(by omega)) (List.getElem?_eq_getElem hj) (List.getElem?_eq_getElem (by omega))
    refine IW ei ej ?_
    have d1:ps.getD i (0,0)=ps[i]'(by omega):=by simp[show i < ps.length by omega]
    have d2:ps.getD j (0,0)=ps[j]'(by omega):=by simp[show j < ps.length by omega]
    unfold Mo at hC
    rw[d1,d2]at hC
    exact hC) (fun p hp=>⟨rfl,hp⟩) (Fr O (n:=as.length) (by omega))
  have tree2:(kas_sort (as.map Value.ref).length).kasWp (kas_ask prog w A (tuples' true) (as.map Value.ref)) (fun (p:Array Nat) s''=>s''={ s with heap:=h3 }∧Pm as.length p∧L2.Srt (Mo ps) p as.length) { s with heap:=h3 }:=by rw[hvs]; exact tree
  refine wpAny_bind (wpAny_mono (kat_run (Q:=fun st' s'=>s'={ s with heap:=h3 }∧∃p:Array Nat,arrOf st'=p.map (kas_item ((as.map Value.ref).toArray.zip (as.map Value.ref).toArray))∧failedOf st'=none∧Pm as.length p∧L2.Srt (Mo ps) p as.length) rfl (by omega) (by omega)
   (fun p st' s' _ a2 a3 a4=>⟨a4.1,p,a2,a3,a4.2.1,a4.2.2⟩) tree2) (fun r s' hr=>?_) fun _ _ e=>e)
  obtain ⟨⟨⟩,st'⟩:=r
  obtain ⟨rfl,p,har,hf,hPm,hSr⟩:=hr
  have hout:=kat_snds rfl har
  have hall:∀i∈p.toList,i < as.length:=fun i hi=>by have:=hPm.perm.mem_iff.mp hi; simpa using this
  refine hend (p.toList.map fun i=>as.getD i 0) (p.toList.map fun i=>ps.getD i (0,0)) st' ?_ (by rw[List.length_map,hPm.perm.length_eq,List.length_range]; exact Nat.le_refl _) hf ⟨p.toList,hPm.perm,rfl,rfl⟩ ?_
  ·rw[hout,List.map_map]
   congr 1
   refine List.map_congr_left fun i hi=>?_
   have:=hall i hi
   simp[this]
  ·rw[List.pairwise_map]
   refine List.pairwise_iff_getElem.mpr fun i j hi hj hij=>?_
   have hpl:p.toList.length=as.length:=by rw[hPm.perm.length_eq,List.length_range]
   have:=hSr i j (by omega) (by omega)
   unfold le' gN Mo at this
   have q1:p.getD i 0=p.toList[i]:=by simp[Array.getD,show i < p.size by simpa using hi]
   have q2:p.getD j 0=p.toList[j]:=by simp[Array.getD,show j < p.size by simpa using hj]
   rw[q1,q2]at this
   exact this
end
end
end L2
namespace L2
noncomputable section
open PySem PySem.Spec PyProof.Rows PySem.W
theorem RQ {α:Type}:∀{as:List Addr} {ps:List α} {i:Nat} {a:Addr} {p:α},as.Nodup->as[i]?=some a->ps[i]?=some p->(as.zip ps).lookup a=some p
 |[],_,_,_,_,_,e,_=>by simp at e
 |_::_,[],_,_,_,_,_,e=>by simp at e
 |b::as,q::ps,0,a,p,nd,e1,e2=>by
  simp at e1 e2
  subst e1 e2
  simp[List.lookup_cons]
 |b::as,q::ps,i+1,a,p,nd,e1,e2=>by
  have e1:as[i]?=some a:=by simpa using e1
  have e2:ps[i]?=some p:=by simpa using e2
  have hb:(a == b)=false:=beq_eq_false_iff_ne.mpr fun z=>(List.nodup_cons.mp nd).1 (z ▸ List.mem_of_getElem? e1)
  rw[List.zip_cons_cons,List.lookup_cons,hb]
  exact RQ (List.nodup_cons.mp nd).2 e1 e2
theorem Xp {α:Type}:∀{as:List Addr} {ps:List α} {a:Addr} {p:α},(as.zip ps).lookup a=some p->∃i:Nat,as[i]?=some a∧ps[i]?=some p
 |[],_,_,_,e=>by simp at e
 |_::_,[],_,_,e=>by simp at e
 |b::as,q::ps,a,p,e=>by
  rw[List.zip_cons_cons,List.lookup_cons]at e
  cases hb:(a == b) with
  |true=>rw[hb]at e; cases e; exact ⟨0,by simp[eq_of_beq hb],rfl⟩
  |false =>
   rw[hb]at e
   obtain ⟨i,h1,h2⟩:=Xp e
   exact ⟨i+1,by simpa using h1,by simpa using h2⟩
theorem RN {α γ:Type} {R:α->γ->Prop}:∀{xs:List α} {ys:List γ} {i:Nat} {x:α} {y:γ},Paired R xs ys->xs[i]?=some x->ys[i]?=some y->R x y
 |_,_,_,_,_,.nil,e,_=>by simp at e
 |_,_,0,_,_,.cons h _,e1,e2=>by simp at e1 e2; subst e1 e2; exact h
 |_,_,i+1,_,_,.cons _ r,e1,e2=>RN (i:=i) r (by simpa using e1) (by simpa using e2)
theorem Ph:∀bs:List Addr,Vals (bs.map V.ref) (bs.map Value.ref)
 |[]=>.nil
 |_::r=>.cons rfl (Ph r)
def prT (p:Int × Int):HO:=.tup [.int p.1,.int p.2]
def Xk (H:Hp) (as:List Addr) (ps:List (Int × Int)):Hp:=fun b=>match (as.zip ps).lookup b with
 |some p=>some (prT p)
 |none=>H b
def N6 (v d:Addr):HO:=.ext fun h=>h.IsItemsView v d
section
variable {X:Cx} {E:XK}
def Bz:V->List V->Hp->VK->Prop:=fun x vs H Q=>∃d kvs,x=.ref d∧vs=[]∧H d=some (.dK kvs)∧∀p,H p=none->Q (.ref p) (upd H p (N6 p d))
theorem Gq:MtM X "dict.items" Bz:=by
 intro pins s σ H x vs v us Q I rx rv h
 obtain ⟨d,kvs,rfl,rfl,hd,q⟩:=h
 cases rx
 cases rv
 obtain ⟨z,hS,ws,r,m⟩:=I.hok d _ hd
 refine call_meetsIn PySem.F.slot_dict_items m.typeIs PySem.F.entry_dict_items (PySem.F.args_dict_items_1 _) (meets_dict_items (Yi X.prog X.w) d hS) ⟨⟨ws,m⟩,?_⟩
 refine ⟨.ref s.heap.objs.size,_,I.laid (o:=N6 s.heap.objs.size d) (t':=s.toks) (fun b u e=>Heap.get?_push_of_some _ e) (Nat.le_refl _) ?_,rfl,q _ I.fresh⟩
 exact ⟨⟨_,Heap.get?_push_size _ rfl,rfl,rfl⟩,⟨_,Heap.get?_push_size _ rfl⟩,fun h1 h2 ⟨o,e1,e2,e3⟩ k=>⟨o,k o e1,e2,e3⟩⟩
def Cu:List V->Hp->VK->Prop:=fun xs H Q=>∃v d ps,xs=[.ref v]∧H v=some (N6 v d)∧H d=some (.dK (ps.map fun (p:Int × Int)=>((Sum.inl p.1:Key),V.int p.2)))∧ps.length < 64 ∧
 ∀(B:Addr) (as bs:List Addr) (qs:List (Int × Int)),as.Nodup->as.length=ps.length->(∀a∈as,H a=none)->H B=none->B ∉ as->(∃p:List Nat,p.Perm (List.range as.length)∧bs=p.map (fun i=>as.getD i 0)∧qs=p.map (fun i=>ps.getD i (0,0)))->qs.Pairwise (fun x y=>ltP y x=false) ->
  Q (.ref B) (upd (Xk H as ps) B (.lst (bs.map V.ref)))
theorem Kr (hc:X.calm=true):CallR X (.builtin "sorted") Cu:=by
 intro pins s σ H xs us Q I r h
 obtain ⟨v,d,ps,rfl,hv,hd,h64,q⟩:=h
 obtain ⟨u,rfl,ru⟩:=N0 r
 cases (show u=Value.ref v from ru)
 obtain ⟨hview,_,_⟩:=I.hok v _ hv
 obtain ⟨z,hS,ws,rk,m⟩:=I.hok d _ hd
 obtain ⟨o,es,ep,hm⟩:=m
 have hwl:ws.length=ps.length:=by have:=rk.length; rw[List.length_map]at this; exact this.symm
 refine Calls.call_function_entry kind_sorted plain_sorted entry_sorted (args_sorted1 _) (show wpAny _ _ (Builtin.«sorted» _) _ _ _ from ?_)
 unfold Builtin.«sorted»
 refine wpAny_bind (m:=checkCount "sorted" 1 1 _) (wpAny_pure (wpAny_bind (kdx_collect (A:=X.A.in1) (knd:=Yi X.prog X.w) (kvs:=ws) (ep:=ep) (I.ok.hd hc) hview ⟨o,es,hm⟩ (by rw[sizeLine_eq]; omega) fun h' tk as hk hl hG=>?_)))
 have nd:as.Nodup:=hG.rise.imp fun h=>Nat.ne_of_lt h
 have hal:as.length=ps.length:=by omega
 have pa:PrsAt h' as ps:=⟨hal,fun i a p e1 e2=>by
  obtain ⟨key,k,x,f1,f2,f3⟩:=hG.pairs i a e1
  have e3:(ps.map fun (p:Int × Int)=>((Sum.inl p.1:Key),V.int p.2))[i]?=some ((Sum.inl p.1:Key),V.int p.2):=by rw[List.getElem?_map,e2]; rfl
  obtain ⟨g1,g2⟩:=RN rk e3 f1
  have g1:(Sum.inl p.1:Key)=k:=g1
  subst g1
  obtain ⟨u,g2⟩:=(show ∃u,x=Value.int p.2 u from g2)
  subst g2
  obtain ⟨t,g3⟩:=Value.isInt_shape (k:=p.1) (v:=key) f2
  subst g3
  exact ⟨t,u,f3⟩⟩
 have hB:∀a∈as,a < h'.objs.size:=fun a ha=>hG.there ha
 refine wpAny_bind (wpAny_newList ?_ (by rw[List.length_map,sizeLine_eq]; omega))
 generalize hH1:h'.push { cls:=.type "list",data:=.seq (as.map Value.ref).toArray }=h1
 have k1:∀b o,h'.get? b=some o->h1.get? b=some o:=fun b o e=>by rw[← hH1]; exact Heap.get?_push_of_some _ e
 have hoL:h1.get? h'.objs.size=some (seqObj "list" (as.map Value.ref).toArray 0):=by rw[← hH1]; exact Heap.get?_push_size _ rfl
 have hBn:h'.objs.size ∉ as:=fun hm=>Nat.lt_irrefl _ (hB _ hm)
 refine wpAny_bind (wpAny_holding (wpAny_call_entry slot_list_sort ⟨_,hoL,rfl⟩ entry_list_sort (Ko (s:={ s with heap:=h1,toks:=tk }) hoL (pa.keep fun a _ o e=>k1 a o e) hBn (by omega) fun h2 bs qs c k2 g2 hp hs=>⟨_,rfl,wpAny_pure ⟨_,rfl,?_⟩⟩) (args_list_sort _)))
 have kp:∀b o,s.heap.get? b=some o->h2.get? b=some o:=fun b o e=>k2 b o (Nat.ne_of_lt (Heap.lt_size (hk b o e))) (k1 b o (hk b o e))
 have fa:∀a∈as,s.heap.get? a=none:=fun a ha=>Heap.get?_none_of_le (Nat.le_of_lt (hG.above a ha))
 have fH:∀a∈as,H a=none:=fun a ha=>I.hok.fresh (Nat.le_of_lt (hG.above a ha))
 have fB:H h'.objs.size=none:=by
  cases hh:H h'.objs.size with
  |none=>rfl
  |some ob =>
   obtain ⟨x,ex⟩:=(I.hok _ _ hh).ex
   exact absurd (Heap.lt_size (hk _ _ ex)) (Nat.lt_irrefl _)
 have inA:∀{b:Addr} {p:Int × Int},(as.zip ps).lookup b=some p->b∈as:=fun {b p} e=>let ⟨i,h1,_⟩:=Xp e; List.mem_of_getElem? h1
 have old:∀b o,H b=some o->upd (Xk H as ps) h'.objs.size (.lst (bs.map V.ref)) b=some o:=fun b o e=>by
  rw[Zz (Z5 e fB)]
  unfold Xk
  match hx:(as.zip ps).lookup b with
  |some p=>rw[fH b (inA hx)]at e; cases e
  |none=>exact e
 have notOld:∀b o,s.heap.get? b=some o->H b=none->upd (Xk H as ps) h'.objs.size (.lst (bs.map V.ref)) b=none:=fun b o e n=>by
  rw[Zz (Nat.ne_of_lt (Heap.lt_size (hk b o e)))]
  unfold Xk
  match hx:(as.zip ps).lookup b with
  |some p=>rw[fa b (inA hx)]at e; cases e
  |none=>exact n
 refine ⟨.ref h'.objs.size,_,I.un (t':=tk) (H':=upd (Xk H as ps) h'.objs.size (.lst (bs.map V.ref))) ⟨fun b o e n _ _=>kp b o e,fun b o e n _ _=>⟨o.slots,kp b o e⟩,fun b o e n _=>notOld b o e n,fun b o e _=>⟨o,kp b o e⟩,fun b xs e=>old b _ e,fun b o u e=>old b _ e,fun b xs e=>⟨#[],by rw[Array.append_empty]; exact old b _ e⟩⟩ (fun b o e=>?_),rfl,q _ as bs qs nd hal fH fB hBn hp hs⟩
 by_cases hb:b=h'.objs.size
 ·subst hb
  rw[ZH]at e
  cases e
  obtain ⟨p,hp1,hp2,hp3⟩:=hp
  refine ⟨?_,bs.map Value.ref,c,?_,g2⟩
  ·rw[List.length_map,hp2,List.length_map,hp1.length_eq,List.length_range,sizeLine_eq]; omega
  ·exact Ph bs
 ·rw[Zz hb]at e
  unfold Xk at e
  match hx:(as.zip ps).lookup b,e with
  |some p,e =>
   have e:some (prT p)=some o:=e
   cases e
   obtain ⟨i,h1',h2'⟩:=Xp hx
   obtain ⟨t,u,ho⟩:=pa.at' i b p h1' h2'
   exact ⟨by show 2<=sizeLine; decide,[.int p.1 t,.int p.2 u],.cons ⟨t,rfl⟩ (.cons ⟨u,rfl⟩ .nil),⟨_,k2 b _ hb (k1 b _ ho),rfl,_,rfl⟩⟩
  |none,e =>
   exact (I.hok b o e).stay (fun c w' _ q'=>kp c w' q') (fun c q'=>old c _ q') fun c xs q'=>old c _ q'
def Jh (p:Int × Int):List (Int × Int)->List (Int × Int)
 |[]=>[p]
 |q::r=>if ltP q p=true then q::Jh p r else p::q::r
def Wr:List (Int × Int)->List (Int × Int)
 |[]=>[]
 |p::r=>Jh p (Wr r)
theorem Sq (p:Int × Int):∀l,(Jh p l).Perm (p::l)
 |[]=>List.Perm.refl _
 |q::r=>by
  unfold Jh
  split
  ·exact ((Sq p r).cons q).trans (List.Perm.swap p q r)
  ·exact List.Perm.refl _
theorem XM:∀l,(Wr l).Perm l
 |[]=>List.Perm.refl _
 |p::r=>(Sq p (Wr r)).trans ((XM r).cons p)
abbrev GW (l:List (Int × Int)):Prop:=l.Pairwise fun x y=>ltP y x=false
theorem Lh (p:Int × Int):∀l,GW l->GW (Jh p l)
 |[],_=>List.pairwise_singleton _ _
 |q::r,h=>by
  have h':=List.pairwise_cons.mp h
  unfold Jh
  by_cases hc:ltP q p=true
  ·rw[if_pos hc]
   refine List.pairwise_cons.mpr ⟨fun y hy=>?_,Lh p r h'.2⟩
   rcases List.mem_cons.mp ((Sq p r).mem_iff.mp hy) with rfl|hy
   ·cases z:ltP y q with
    |false=>rfl
    |true=>have a:=Y3.mp hc; have b:=Y3.mp z; omega
   ·exact h'.1 y hy
  ·rw[if_neg hc]
   refine List.pairwise_cons.mpr ⟨fun y hy=>?_,h⟩
   have hc':ltP q p=false:=by simpa using hc
   rcases List.mem_cons.mp hy with rfl|hy
   ·exact hc'
   ·cases z:ltP y p with
    |false=>rfl
    |true =>
     have e:=h'.1 y hy
     have a:=Y3.mp z
     have b:¬ _:=fun w'=>hc (Y3.mpr w')
     have c:¬ _:=fun w'=>absurd (Y3.mpr w') (by rw[e]; exact Bool.false_ne_true)
     omega
theorem UC:∀l,GW (Wr l)
 |[]=>List.Pairwise.nil
 |p::r=>Lh p _ (UC r)
theorem OF:∀{l m:List (Int × Int)},l.Perm m->GW l->GW m->l=m
 |[],m,h,_,_=>(List.nil_perm.mp h).symm
 |x::l,[],h,_,_=>absurd h (by simp)
 |x::l,y::m,h,h1,h2=>by
  have h1':=List.pairwise_cons.mp h1
  have h2':=List.pairwise_cons.mp h2
  have e:x=y:=by
   have hx:=h.mem_iff.mp (List.mem_cons_self (a:=x) (l:=l))
   have hy:=h.mem_iff.mpr (List.mem_cons_self (a:=y) (l:=m))
   rcases List.mem_cons.mp hx with hx|hx
   ·exact hx
   ·rcases List.mem_cons.mp hy with hy|hy
    ·exact hy.symm
    ·have a:=h1'.1 y hy
     have b:=h2'.1 x hx
     have a':¬ _:=fun w'=>absurd (Y3.mpr w') (by rw[a]; exact Bool.false_ne_true)
     have b':¬ _:=fun w'=>absurd (Y3.mpr w') (by rw[b]; exact Bool.false_ne_true)
     exact Prod.ext (by omega) (by omega)
  subst e
  rw[OF h.cons_inv h1'.2 h2'.2]
def SV:List (Key × Wv)->Option (List (Int × Int))
 |[]=>some []
 |(.inl k,.int v)::r=>match SV r with
  |some ps=>some ((k,v)::ps)
  |none=>none
 |_=>none
def prW (p:Int × Int):Wv:=.tup [.int p.1,.int p.2]
def VB (d:Wv):Mw (List Wv):=fun om=>match d with
 |.o h=>match om[h]? with
  |some (.dk kvs)=>match SV kvs with
   |some ps=>if ps.length < 64 then some (.ok ((Wr ps).map prW),om) else none
   |none=>none
  |_=>none
 |_=>none
theorem Pq {F:Hp} {β:List Addr}:∀{kvs:List (Key × Wv)} {qs:List (Key × V)} {ps:List (Int × Int)},RK F β kvs qs->SV kvs=some ps->qs=ps.map fun (p:Int × Int)=>((Sum.inl p.1:Key),V.int p.2)
 |_,_,_,.nil,e=>by cases e; rfl
 |(.inr _,_)::_,_,_,.cons _ _,e=>by cases e
 |(.inl k,w)::r,_,_,.cons h rr,e=>by
  cases h with
  |int v =>
   have e:(match SV r with|some ps=>some ((k,v)::ps)|none=>none)=some _:=e
   match hr:SV r,e with
   |some ps,e =>
    have e:some ((k,v)::ps)=some _:=e
    cases e
    rw[List.map_cons,← Pq rr hr]
   |none,e=>exact nomatch e
  |_=>exact nomatch e
theorem MOk.newP {F H:Hp} {β:List Addr} {om:List Ob} {as:List Addr} {ps:List (Int × Int)} (M:MOk F H β om) (hf:∀a∈as,H a=none):Gx F (Xk F as ps) H (Xk H as ps) β β∧MOk (Xk F as ps) (Xk H as ps) β om:=by
 have inA:∀{b:Addr} {p:Int × Int},(as.zip ps).lookup b=some p->b∈as:=fun {b p} e=>let ⟨i,h1,_⟩:=Xp e; List.mem_of_getElem? h1
 have oldH:∀b o,H b=some o->Xk H as ps b=some o:=fun b o e=>by
  unfold Xk
  match hx:(as.zip ps).lookup b with
  |some p=>rw[hf b (inA hx)]at e; cases e
  |none=>exact e
 have oldF:∀b o,F b=some o->Xk F as ps b=some o:=fun b o e=>by
  unfold Xk
  match hx:(as.zip ps).lookup b with
  |some p=>have:=M.sub b o e; rw[hf b (inA hx)]at this; cases this
  |none=>exact e
 have out:∀b,b ∉ as->Xk F as ps b=F b∧Xk H as ps b=H b:=fun b hb=>by
  unfold Xk
  match hx:(as.zip ps).lookup b with
  |some p=>exact absurd (inA hx) hb
  |none=>exact ⟨rfl,rfl⟩
 have nb:∀(h:Nat) (a:Addr),β[h]?=some a->a ∉ as:=fun h a e ha=>by
  obtain ⟨x,hx⟩:=M.there e
  rw[hf a ha]at hx; cases hx
 have g:Gr F (Xk F as ps) β β:=⟨oldF,fun _ _ e=>e⟩
 refine ⟨⟨g,fun b o e _=>oldH b o e,fun b e=>?_,fun b hb=>.inl hb,fun b o e=>?_,fun b o u e=>oldH b _ e⟩,⟨fun b o e=>?_,M.nd,M.len,fun h a e=>by rw[(out a (nb h a e)).1]; exact M.free h a e,fun h a x e1 e2=>(M.ob h a x e1 e2).mono g (out a (nb h a e1)).2⟩⟩
 ·cases hh:H b with
  |none=>rfl
  |some o=>rw[oldH b o hh]at e; cases e
 ·by_cases hb:b∈as
  ·exact .inr (hf b hb)
  ·rw[(out b hb).1]at e; exact .inl e
 ·unfold Xk at e ⊢
  match hx:(as.zip ps).lookup b,e with
  |some p,e=>exact e
  |none,e=>exact M.sub b o e
def VR (k:List Wv->Mw Wv) (f:FE):FE:=fun sl=>bnd (f sl) fun d=>bnd (VB d) k
variable {o:Expr} {f:FE} {k:List Wv->Mw Wv} {p pos apos cpos:Pos}
theorem JL (hk:UK E k) (hc:X.calm=true) (hg:Gl X "sorted") (hm:X.mg "sorted"=none) (ho:PE X o (tE E f)) (hbase:attributeBase o "items" X.env (eval o X.env)=eval o X.env:=by rfl) (hline:(apos.endLine == cpos.line)=true:=by rfl)
    (h0:starEach [.Call (.Attribute o "items" apos) [] [] cpos] X.env=(false,eval (.Call (.Attribute o "items" apos) [] [] cpos) X.env)::starEach [] X.env:=by rfl) (hpl:(backTo pos (starEach [] X.env)).any (·.1)=false:=by rfl) :
    PE X (.Call (.Name "sorted" p) [.Call (.Attribute o "items" apos) [] [] cpos] [] pos) (tE E (VR k f)) :=
 (R0 (Kr hc) hg hm PyProof.Rows.boot_sorted (XY (Gi PySem.F.plainAttrs_dict PySem.F.slot_dict_items PySem.F.type_dict_items Gq ho hbase hline) VQ h0) (by decide) (by decide) h0 hpl).weak fun σ H Q ⟨F,β,om,sl,M,V,R⟩=>by
 refine ⟨F,β,om,sl,M,V,R.bind fun x om1 F1 H1 β1 g1 M1 R1 v rv=>?_⟩
 cases rv with
 |@o h a eb =>
  unfold bnd VB at R1
  dsimp only at R1
  match hx:om1[h]?,R1 with
  |none,R1=>exact R1.elim
  |some (.ins _ _),R1=>exact R1.elim
  |some (.exc _),R1=>exact R1.elim
  |some (.dz _),R1=>exact R1.elim
  |some (.lst _),R1=>exact R1.elim
  |some (.dt _),R1=>exact R1.elim
  |some (.dk kvs),R1 =>
   obtain ⟨a',ea,_,ks,hks,rs⟩:=M1.at hx
   rw[eb]at ea; cases ea
   dsimp only at R1
   match hp:SV kvs,R1 with
   |none,R1=>exact R1.elim
   |some ps,R1 =>
    dsimp only at R1
    by_cases hl:ps.length < 64
    ·have R2:Res E (k ((Wr ps).map prW) om1) F1 H1 β1 (PV Q):=by
      have:=R1
      rw[if_pos hl]at this
      exact this
     have eks:=Pq rs hp
     refine ⟨.inr (.inr (.inl ⟨rfl,.inl ⟨ks,hks⟩⟩)),a,ks,rfl,rfl,hks,fun v hv=>?_⟩
     have MU:=M1.newU (o:=N6 v a) hv
     have gU:=M1.gxU (o:=N6 v a) hv
     refine ⟨v,a,ps,rfl,ZH,by rw[Zz (Z5 hks hv),hks,eks],hl,fun B as bs qs nd hal hf hB hBa ⟨p,hp1,hp2,hp3⟩ hs=>?_⟩
     obtain ⟨g3,M3⟩:=MU.newP (ps:=ps) hf
     have eqs:qs=Wr ps:=by
      refine OF ?_ hs (UC ps)
      refine List.Perm.trans ?_ (XM ps).symm
      rw[hp3]
      refine (hp1.map _).trans ?_
      rw[hal]
      have:(List.range ps.length).map (fun i=>ps.getD i (0,0))=ps:=List.ext_getElem? fun i=>by
       by_cases hi:i < ps.length
       ·simp[hi]
       ·simp[hi]
      rw[this]
     have rws:RWs (Xk F1 as ps) β1 ((Wr ps).map prW) (bs.map L2.V.ref):=by
      rw[← eqs,hp3,hp2]
      have hall:∀i∈p,i < as.length:=fun i hi=>by have:=hp1.mem_iff.mp hi; simpa using this
      clear hp1 hp2 hp3 eqs hs
      induction p with
      |nil=>exact .nil
      |cons i p ih =>
       have hi:=hall i (.head _)
       refine .cons ?_ (ih fun j hj=>hall j (.tail _ hj))
       have e1:as.getD i 0=as[i]:=by simp[hi]
       have e2:ps.getD i (0,0)=ps[i]'(by omega):=by simp[show i < ps.length by omega]
       show RW (Xk F1 as ps) β1 (prW (ps.getD i (0,0))) (L2.V.ref (as.getD i 0))
       rw[e1,e2]
       refine .tup ?_ (.cons (.int _) (.cons (.int _) .nil))
       unfold Xk
       rw[RQ nd (List.getElem?_eq_getElem hi) (List.getElem?_eq_getElem (by omega))]
       rfl
     exact (hk M3 rws (Res.mono (gU.trans g3) R2)).2 (by
      unfold Xk
      match hx2:(as.zip ps).lookup B with
      |some p=>exact absurd (let ⟨i,h1,_⟩:=Xp hx2; List.mem_of_getElem? h1) hBa
      |none=>exact hB)
    ·rw[if_neg hl]at R1; exact R1.elim
 |_=>exact R1.elim
end
end
end L2
namespace L2
noncomputable section
open PySem
theorem Tb {c:FT} {f:FE} {mk:Wv->Sl} {om:List Ob} (p:Wv->Bool) (g:Wv->Wv):∀{l:List Wv},(∀w∈l,c (mk w) om=some (.ok (p w),om))->(∀w∈l,p w=true->f (mk w) om=some (.ok (g w),om))->Xi c f mk l om=some (.ok ((l.filter p).map g),om)
 |[],_,_=>rfl
 |w::r,hc,hf=>by
  have ih:=Tb p g (l:=r) (fun x hx=>hc x (.tail _ hx)) (fun x hx=>hf x (.tail _ hx))
  have h1:=hc w (.head _)
  show bnd (ZL (c (mk w))) (VJ (Xi c f mk r) (f (mk w))) om=_
  cases hp:p w with
  |false=>simp[bnd,ZL,h1,hp,VJ,ih,List.filter_cons]
  |true =>
   have h2:=hf w (.head _) hp
   simp[bnd,ZL,h1,hp,VJ,ih,h2,List.filter_cons,ret]
theorem N9 (p:Wv->Bool) (n:Nat):(Xm n).filter p=((List.range n).filter fun k=>p (.int (k:Nat))).map fun (k:Nat)=>Wv.int k:=by
 unfold Xm
 rw[List.filter_map]
 rfl
theorem Ty {n:Nat} {w:Wv} (h:w∈Xm n):∃k,k < n∧w=.int (k:Nat):=by
 obtain ⟨k,hk,e⟩:=List.mem_map.mp h
 exact ⟨k,List.mem_range.mp hk,e.symm⟩
theorem WR (n:Nat):(Xm n).length=n:=by simp[Xm]
def Xu (us:List (Int × Int)):List (Key × Wv):=us.map fun p=>(.inl p.1,.int p.2)
theorem Rb (us:List (Int × Int)) (k:Int):Vg (Xu us) (.inl k)=(us.lookup k).map Wv.int:=by
 induction us with
 |nil=>rfl
 |cons p us ih =>
  unfold Vg Xu at ih ⊢
  rw[List.map_cons,List.find?_cons,List.lookup_cons]
  by_cases h:p.1=k
  ·simp[h]
  ·have h':(k == p.1)=false:=beq_eq_false_iff_ne.mpr (Ne.symm h)
   have h2:¬ (Sum.inl p.1:Key)=Sum.inl k:=fun z=>h (Sum.inl.inj z)
   simp only[h2,decide_false,h']
   exact ih
theorem Ec {us:List (Int × Int)} {k:Int} (s:Int) (h:us.lookup k=none):WB (Xu us) (.inl k) (.int s)=Xu (us++[(k,s)]):=by
 have:((Xu us).any fun kv=>decide (kv.1=(Sum.inl k:Key)))=false:=by
  have hv:=Rb us k
  rw[h]at hv
  unfold Vg at hv
  cases hf:(Xu us).find? fun kv=>decide (kv.1=(Sum.inl k:Key)) with
  |some x=>rw[hf]at hv; cases hv
  |none =>
   rw[List.any_eq_false]
   intro x hx
   exact List.find?_eq_none.mp hf x hx
 unfold WB
 rw[this,if_neg Bool.false_ne_true]
 simp[Xu]
theorem NU:∀us:List (Int × Int),SV (Xu us)=some us
 |[]=>rfl
 |p::us=>by
  show (match SV (Xu us) with|some ps=>some ((p.1,p.2)::ps)|none=>none)=_
  rw[NU us]
theorem Ie (us:List (Int × Int)):(Xu us).length=us.length:=by simp[Xu]
def Zv:Option Int->Wv
 |none=>.non
 |some s=>.int s
structure UR (us:List (Int × Int)) (f:List (Option Int)):Prop where
 nd:(us.map (·.1)).Nodup
 mem:∀k s,(k,s)∈us ↔ 0<=k∧f[k.toNat]?=some (some s)
def JE (f:List (Option Int)):List (Int × Int):=(List.range f.length).filterMap fun k=>(f.getD k none).map fun s=>((k:Int),s)
theorem Hh {f:List (Option Int)} {k s:Int}:(k,s)∈JE f ↔ 0<=k∧f[k.toNat]?=some (some s):=by
 unfold JE
 rw[List.mem_filterMap]
 constructor
 ·rintro ⟨j,hj,e⟩
  obtain ⟨t,ht,e2⟩:=Option.map_eq_some_iff.mp e
  cases e2
  have hj:=List.mem_range.mp hj
  refine ⟨by omega,?_⟩
  rw[Int.toNat_natCast]
  rw[List.getD_eq_getElem?_getD,List.getElem?_eq_getElem hj]at ht
  rw[List.getElem?_eq_getElem hj]
  simpa using ht
 ·rintro ⟨h0,e⟩
  have hl:=(List.getElem?_eq_some_iff.mp e).1
  refine ⟨k.toNat,List.mem_range.mpr hl,?_⟩
  rw[List.getD_eq_getElem?_getD,e]
  simp; omega
theorem Ul:∀{l m:List (Int × Int)},l.Pairwise (fun x y=>x.1 < y.1)->m.Pairwise (fun x y=>x.1 < y.1)->(∀p,p∈l ↔ p∈m)->l=m
 |[],[],_,_,_=>rfl
 |[],y::m,_,_,h=>absurd ((h y).mpr (.head _)) (by simp)
 |x::l,[],_,_,h=>absurd ((h x).mp (.head _)) (by simp)
 |x::l,y::m,h1,h2,h=>by
  have h1':=List.pairwise_cons.mp h1
  have h2':=List.pairwise_cons.mp h2
  have e:x=y:=by
   rcases List.mem_cons.mp ((h x).mp (.head _)) with hx|hx
   ·exact hx
   ·rcases List.mem_cons.mp ((h y).mpr (.head _)) with hy|hy
    ·exact hy.symm
    ·have a:=h1'.1 y hy
     have b:=h2'.1 x hx
     omega
  subst e
  congr 1
  refine Ul h1'.2 h2'.2 fun p=>⟨fun hp=>?_,fun hp=>?_⟩
  ·rcases List.mem_cons.mp ((h p).mp (.tail _ hp)) with rfl|hq
   ·have:=h1'.1 p hp; omega
   ·exact hq
  ·rcases List.mem_cons.mp ((h p).mpr (.tail _ hp)) with rfl|hq
   ·have:=h2'.1 p hp; omega
   ·exact hq
theorem Lc (f:List (Option Int)):(JE f).Pairwise (fun x y=>x.1 < y.1):=by
 unfold JE
 refine List.Pairwise.filterMap (R:=(· < ·)) _ (fun a b hab x hx y hy=>?_) List.pairwise_lt_range
 obtain ⟨s,_,rfl⟩:=Option.map_eq_some_iff.mp hx
 obtain ⟨t,_,rfl⟩:=Option.map_eq_some_iff.mp hy
 show (a:Int) < b
 omega
theorem UR.sort {us:List (Int × Int)} {f:List (Option Int)} (u:UR us f):Wr us=JE f:=by
 have hp:=XM us
 have hn:((Wr us).map (·.1)).Nodup:=(hp.map _).nodup_iff.mpr u.nd
 refine Ul ?_ (Lc f) fun p=>?_
 ·have hs:=UC us
  have hn':=List.pairwise_map.mp hn
  refine (hs.and hn').imp fun {x y} h=>?_
  have a:¬ _:=fun w'=>absurd (Y3.mpr w') (by rw[h.1]; exact Bool.false_ne_true)
  have b:=h.2
  omega
 ·obtain ⟨k,s⟩:=p
  rw[hp.mem_iff,u.mem,Hh]
theorem UR.len {us:List (Int × Int)} {f:List (Option Int)} (u:UR us f):us.length<=f.length:=by
 rw[← (XM us).length_eq,u.sort]
 unfold JE
 exact Nat.le_trans (List.length_filterMap_le _ _) (by simp)
theorem VI {a b:String}:(Str.ofString a=Str.ofString b)=(a=b):=by
 refine propext ⟨fun h=>?_,fun h=>by rw[h]⟩
 rw[Str.ofString_eq_toList,Str.ofString_eq_toList]at h
 injection h with h
 have h:=congrArg Array.toList h
 simp only at h
 have inj:∀{l m:List Char},l.map Char.toNat=m.map Char.toNat->l=m:=by
  intro l
  induction l with
  |nil=>intro m e; cases m with|nil=>rfl|cons _ _=>simp at e
  |cons x l ih =>
   intro m e
   cases m with
   |nil=>simp at e
   |cons y m =>
    simp only[List.map_cons,List.cons.injEq]at e
    rw[ih e.2,Char.ext (UInt32.toNat_inj.mp e.1)]
 exact String.toList_inj.mp (inj h)
theorem Xa {a b:String}:(Str.ofString a == Str.ofString b)=decide (a=b):=by
 rw[Bool.eq_iff_iff,beq_iff_eq,decide_eq_true_iff,VI]
theorem UE:isNon .non=true:=rfl
theorem UJ (i:Int):isNon (.int i)=false:=rfl
theorem To (b:Bool):isNon (.bl b)=false:=rfl
theorem UI (ws:List Wv):isNon (.tup ws)=false:=rfl
theorem UD (ws:List Wv):isNon (.lst ws)=false:=rfl
theorem Ra (h:Nat):isNon (.o h)=false:=rfl
theorem Xc (n:Nat) (om:List Ob) (h:n<=lim):Yl (.int n) om=some (.ok (Xm n),om):=by
 have hl:n<=100000:=Z1 ▸ h
 have hd:decide (-(2 ^ 62)<=(n:Int)∧(n:Int) < 2 ^ 62)=true:=by
  rw[decide_eq_true_iff]
  exact ⟨by omega,by omega⟩
 simp only[Yl,hd]
 rw[Int.toNat_natCast]
 rfl
theorem WO (a b:Int) (om:List Ob):Xe true (.int a) (.int b) om=some (.ok (.bl (!decide (a=b))),om):=by
 simp[Xe,YQ,XS,X0,PyData.canLay0,PyData.depth,PyData.eqv]
 rfl
theorem Xw (a b:Int) (om:List Ob):Xe false (.int a) (.int b) om=some (.ok (.bl (decide (a=b))),om):=by
 simp[Xe,YQ,XS,X0,PyData.canLay0,PyData.depth,PyData.eqv]
 rfl
theorem Zg {S1 S2:FS} {sl sl1:Sl} {om om1:List Ob} (h:S1 sl om=some (.ok (.nx,sl1),om1)):ZE S1 S2 sl om=S2 sl1 om1:=by
 simp[ZE,bnd,h,Kp]
theorem ZT {S1 S2:FS} {sl sl1:Sl} {om om1:List Ob} {w:Wv} (h:S1 sl om=some (.ok (.rt w,sl1),om1)):ZE S1 S2 sl om=some (.ok (.rt w,sl1),om1):=by
 simp[ZE,bnd,h,Kp,ret]
theorem Zy {N:Nat} {S:FS} {ws:List Wv} {sl1:Sl} {om om1:List Ob} {w:Wv} (h:S (Ww N ws) om=some (.ok (.rt w,sl1),om1)):Ym N S ws om=some (.ok w,om1):=by
 simp[Ym,bnd,h,Ma,ret]
theorem Va {N:Nat} {S:FS} {ws:List Wv} {sl1:Sl} {om om1:List Ob} (h:S (Ww N ws) om=some (.ok (.nx,sl1),om1)):Ym N S ws om=some (.ok .non,om1):=by
 simp[Ym,bnd,h,Ma,ret]
theorem Yx {fi:FI} {T:TgW} {S:FS} {sl sl1:Sl} {om om1 om2:List Ob} {ws:List Wv} {r:Fl × Sl} (h:fi sl om=some (.ok ws,om1)) (hf:Xz T S ws sl om1=some (.ok r,om2)):XH fi T S sl om=some (.ok r,om2):=by
 simp[XH,bnd,h,hf]
theorem X7 {k:List Wv->Mw Wv} {js:List Nat} {fi:FI} {c:FT} {f:FE} {sl:Sl} {om om1 om2:List Ob} {ws us:List Wv} (h:fi sl om=some (.ok ws,om1)) (hl:ws.length<=lim) (hc:Xi c f (fun w=>Y9 js w sl) ws om1=some (.ok us,om2)):Yn k js fi c f sl om=k us om2:=by
 simp[Yn,bnd,h,chk,hl,hc,ret]
theorem ZD {i:Nat} {f:FE} {sl:Sl} {om om1:List Ob} {w:Wv} (h:f sl om=some (.ok w,om1)):ZM i f sl om=some (.ok (.nx,sl.set i (some w)),om1):=by
 simp[ZM,bnd,h,ret]
end
open PySem
theorem Zo {α β:Type} {m:Mw α} {k:α->Mw β} {om om1:List Ob} {a:α} (h:m om=some (.ok a,om1)):bnd m k om=k a om1:=by
 simp[bnd,h]
section
variable {sl sl1:Sl} {om om1 om2:List Ob} {f fa fb fo:FE} {c c1 c2:FT} {S S1 S2:FS} {fs:FA} {w x y:Wv} {ws:List Wv} {b:Bool} {i j n:Nat}
theorem Yo (h:c sl om=some (.ok true,om1)):sIf c S1 S2 sl om=S1 sl om1:=by simp[sIf,bnd,h]
theorem Rq (h:c sl om=some (.ok false,om1)):sIf c S1 S2 sl om=S2 sl om1:=by simp[sIf,bnd,h]
theorem ZI (h:c sl om=some (.ok false,om1)):sIf c S1 Yr sl om=some (.ok (.nx,sl),om1):=(Rq h).trans rfl
theorem Zb (h:sl[i]?=some (some w)):Za i sl om=some (.ok w,om):=by simp[Za,h,ret]
theorem Zp:fC w sl om=some (.ok w,om):=rfl
theorem Zk:Zm sl om=some (.ok [],om):=rfl
theorem Zd (h:f sl om=some (.ok w,om1)) (hr:fs sl om1=some (.ok ws,om2)):Ze f fs sl om=some (.ok (w::ws),om2):=by simp[Ze,bnd,h,hr,ret]
theorem ZG {k:List Wv->Mw Wv} (h:fs sl om=some (.ok ws,om1)):fA k fs sl om=k ws om1:=by simp[fA,bnd,h]
theorem Xs {k:Wv->Mw Wv} (h:f sl om=some (.ok w,om1)):f1 k f sl om=k w om1:=by simp[f1,bnd,h]
theorem Zs {k:Wv->Wv->Mw Wv} (h:fa sl om=some (.ok x,om1)) (h2:fb sl om1=some (.ok y,om2)):f2 k fa fb sl om=k x y om2:=by simp[f2,bnd,h,h2]
theorem Yj {g:List Wv->Mw Wv} (h:ws.length=n):kN n g ws om=g ws om:=by subst h; simp[kN,chk,bnd,ret]
theorem ZP (h:f sl om=some (.ok (.bl b),om1)):fB f sl om=some (.ok b,om1):=by simp[fB,bnd,h,kB,ret]
theorem YE (h:f sl om=some (.ok (.bl b),om1)):YG f sl om=some (.ok b,om1):=by simp[YG,bnd,h,L6,SQ]
theorem Wj (h:c sl om=some (.ok b,om1)):Ws c sl om=some (.ok (!b),om1):=by simp[Ws,bnd,h,ret]
theorem So (h:c1 sl om=some (.ok true,om1)):X1 c1 c2 sl om=c2 sl om1:=by simp[X1,bnd,h]
theorem Nl (h:c1 sl om=some (.ok false,om1)):X1 c1 c2 sl om=some (.ok false,om1):=by simp[X1,bnd,h,ret]
theorem KZ (h:c1 sl om=some (.ok true,om1)):fOr c1 c2 sl om=some (.ok true,om1):=by simp[fOr,bnd,h,ret]
theorem WV (h:c1 sl om=some (.ok false,om1)):fOr c1 c2 sl om=c2 sl om1:=by simp[fOr,bnd,h]
theorem Rn (h:fa sl om=some (.ok (.bl true),om1)):Wq fa fb sl om=fb sl om1:=by simp[Wq,bnd,h,kB,ret]
theorem Zr (h:f sl om=some (.ok w,om1)):ZS f sl om=some (.ok (.rt w,sl),om1):=by simp[ZS,bnd,h,ret]
theorem Yd (h:f sl om=some (.ok w,om1)):Z8 f sl om=some (.ok (.nx,sl),om1):=by simp[Z8,bnd,h,ret]
theorem ZJ {C:Addr} {m:Str} {g:List Wv->Mw Wv} {k:List (Str × Wv)} (h:fo sl om=some (.ok w,om1)) (hi:W4 om1 w=some (C,k)) (hk:k.lookup m=none) (hs:fs sl om1=some (.ok ws,om2)) (hn:ws.length+1=n):ZB C m n g fo fs sl om=g (w::ws) om2:=by
 subst hn
 simp[ZB,bnd,h,MT,hi,hk,hs,kN,chk,ret]
end
open PySem
theorem ES {K:PySem.W.Frag} (h:Ce K=true) {a:Addr} {o:Obj} (e:K.lookup a=some o):o.cls≠.type "list":=by
 intro z
 have hm:∃b,(b,o)∈K:=by
  clear h z
  induction K with
  |nil=>cases e
  |cons p K ih =>
   rw[List.lookup_cons]at e
   split at e
   ·cases e; exact ⟨p.1,.head _⟩
   ·obtain ⟨b,hb⟩:=ih e; exact ⟨b,.tail _ hb⟩
 obtain ⟨b,hb⟩:=hm
 have:=List.all_eq_true.mp h _ hb
 rw[show tyL ((b,o):Addr × Obj).2.cls=true by show tyL o.cls=true; rw[z]; rfl]at this
 cases this
def DO (K:PySem.W.Frag):Sp:=fun vs H Q _=>∃(a:Addr) (ns:List Int),vs=[.ref a]∧SqL K H a (ns.map V.int)∧ns.length<=63∧∀H',Q (.bl true) H'
theorem Mb (F:Hp) (β:List Addr):∀ns:List Int,RWs F β (ns.map Wv.int) (ns.map V.int)
 |[]=>.nil
 |i::ns=>.cons (.int i) (Mb F β ns)
theorem FY {P:Program} {w:World} {K:PySem.W.Frag} {mg:Str->Option Value} {base:Heap} {CX:CXT} {k:Nat} {f:Addr} {fd:FuncData} {ps:List Str} {g:List Wv->Mw Wv} (hK:Ce K=true) (G:FnOk P w K mg base CX k f fd ps (spM 1 g))
    (h:∀ns:List Int,∃om,g [.lst (ns.map .int)] []=some (.ok (.bl true),om)):FnOk P w K mg base CX k f fd ps (DO K):=G.imp fun vs H Q E ⟨a,ns,e,S,_,q⟩=>by
 subst e
 have r:Rd H a (.lst (ns.map V.int)):=S.resolve_right fun ⟨o,its,n,e,hc,_⟩=>ES hK e hc
 obtain ⟨om,e⟩:=h ns
 refine ⟨fun b=>if b=a then H b else none,[],[],[.lst (ns.map .int)],⟨fun b u z=>?_,.nil,rfl,fun h a z=>(by cases z),fun h a x z _=>(by cases z)⟩,.cons (.lst ?_ (Mb _ _ ns)) .nil,rfl,?_⟩
 ·by_cases hb:b=a
  ·exact (if_pos hb).symm.trans z
  ·have:=(if_neg hb).symm.trans z; cases this
 ·rcases r with r|⟨o,r⟩
  ·exact .inl ((if_pos rfl).trans r)
  ·exact .inr ⟨o,(if_pos rfl).trans r⟩
 ·rw[e]
  exact fun F' H' β' _ _ v rv=>by cases rv; exact q H'
theorem KIsi.of {K:PySem.W.Frag} {T:Kd} (h:RL.map (fun s=>PySem.W.kitOne K (.type s) (.type T.nm))=[Kd.non,.bl,.int,.str,.lst,.tup,.dct].map fun t=>some (Kd.isi t T)):KIsi K T:=by
 simp only[RL,List.map_cons,List.map_nil,List.cons.injEq]at h
 exact ⟨h.1,h.2.1,h.2.2.1,h.2.2.2.1,h.2.2.2.2.1,h.2.2.2.2.2.1,h.2.2.2.2.2.2.1⟩
end L2
namespace L2
noncomputable section
open PySem
def fzW (om:List Ob) (n:Nat):Nat->Wv->Wv
 |0,w=>w
 |k+1,.o h=>if n<=h then (match om[h]? with|some (.lst xs)=>.lst (xs.map (fzW om n k))|_=>.o h) else .o h
 |k+1,.lst xs=>.lst (xs.map (fzW om n k))
 |k+1,.tup xs=>.tup (xs.map (fzW om n k))
 |_+1,w=>w
open Classical in def tidyR (om:List Ob):Option (Except Addr Wv × List Ob)->Option (Except Addr Wv × List Ob)
 |none=>none
 |some (.ok w,om')=>if om'.take om.length=om∧FzW om' om.length w (fzW om' om.length 4 w) then some (.ok (fzW om' om.length 4 w),om) else none
 |some (.error C,om')=>if om'.take om.length=om then some (.error C,om) else none
def tidyG (g:List Wv->Mw Wv):List Wv->Mw Wv:=fun ws om=>tidyR om (g ws om)
open Classical in theorem tidyR_tidy {om:List Ob} (hs:∀x∈om,UA om.length x) {r:Option (Except Addr Wv × List Ob)} (h:tidyR om r≠none):Tidy om r (tidyR om r):=by
 match r,h with
 |none,h=>exact absurd rfl h
 |some (.ok w,om'),h =>
  have h:¬ ((if om'.take om.length=om∧FzW om' om.length w (fzW om' om.length 4 w) then some (Except.ok (fzW om' om.length 4 w),om) else none)=(none:Option (Except Addr Wv × List Ob))):=h
  by_cases c:om'.take om.length=om∧FzW om' om.length w (fzW om' om.length 4 w)
  ·have e:om'=om++om'.drop om.length:=by
    conv=>lhs; rw[← List.take_append_drop om.length om',c.1]
   show Tidy om (some (.ok w,om')) (if om'.take om.length=om∧FzW om' om.length w (fzW om' om.length 4 w) then some (Except.ok (fzW om' om.length 4 w),om) else none)
   rw[if_pos c]
   have f:=c.2
   generalize fzW om' om.length 4 w=w' at f
   rw[e]at f ⊢
   exact .ok rfl hs f
  ·rw[if_neg c]at h; exact absurd rfl h
 |some (.error C,om'),h =>
  have h:¬ ((if om'.take om.length=om then some (Except.error C,om) else none)=(none:Option (Except Addr Wv × List Ob))):=h
  by_cases c:om'.take om.length=om
  ·have e:om'=om++om'.drop om.length:=by
    conv=>lhs; rw[← List.take_append_drop om.length om',c]
   show Tidy om (some (.error C,om')) (if om'.take om.length=om then some (Except.error C,om) else none)
   rw[if_pos c]
   rw[e]
   exact .err rfl hs
  ·rw[if_neg c]at h; exact absurd rfl h
theorem FnOk.tidyG {P:Program} {w:World} {K:PySem.W.Frag} {mg:Str->Option Value} {base:Heap} {k n:Nat} {f:Addr} {fd:FuncData} {ps:List Str} {CX:CXT} {g:List Wv->Mw Wv} (F:FnOk P w K mg base CX k f fd ps (spM n g)):FnOk P w K mg base CX k f fd ps (spM n (L2.tidyG g)) :=
 FnOk.tidy F fun ws om _ hs h=>tidyR_tidy hs h
open Classical in theorem tidyG_ok {g:List Wv->Mw Wv} {ws:List Wv} {om l:List Ob} {w w':Wv} (h:g ws om=some (.ok w,om++l)) (f:FzW (om++l) om.length w w') (e:fzW (om++l) om.length 4 w=w'):tidyG g ws om=some (.ok w',om):=by
 unfold tidyG
 rw[h]
 show (if (om++l).take om.length=om∧FzW (om++l) om.length w (fzW (om++l) om.length 4 w) then some (Except.ok (fzW (om++l) om.length 4 w),om) else none)=_
 rw[e,if_pos ⟨List.take_left,f⟩]
open Classical in theorem tidyG_er {g:List Wv->Mw Wv} {ws:List Wv} {om l:List Ob} {C:Addr} (h:g ws om=some (.error C,om++l)):tidyG g ws om=some (.error C,om):=by
 unfold tidyG
 rw[h]
 show (if (om++l).take om.length=om then some (Except.error C,om) else none)=_
 rw[if_pos List.take_left]
end
open PySem
theorem PR {α:Type} {T:TgW} {S:FS} (J:α->Sl->List Ob->Prop) (step:α->Wv->α):∀{l:List Wv} {a:α} {sl:Sl} {om:List Ob},(∀w∈l,∀a sl om,J a sl om->∃sl1 fl sl2 om2,T w sl=some sl1∧S sl1 om=some (.ok (fl,sl2),om2)∧(fl=.nx∨fl=.ct)∧J (step a w) sl2 om2)->J a sl om->∃sl' om',Xz T S l sl om=some (.ok (.nx,sl'),om')∧J (l.foldl step a) sl' om'
 |[],a,sl,om,_,j=>⟨sl,om,rfl,j⟩
 |w::r,a,sl,om,h,j=>by
  obtain ⟨sl1,fl,sl2,om2,h1,h2,h3,h4⟩:=h w (.head _) a sl om j
  obtain ⟨sl',om',e,j'⟩:=PR J step (l:=r) (fun x hx=>h x (.tail _ hx)) h4
  refine ⟨sl',om',?_,j'⟩
  show (match T w sl with|none=>Xn|some sl1=>bnd (S sl1) (Vd fun sl2=>Xz T S r sl2)) om=_
  rw[h1]
  rcases h3 with rfl|rfl
  ·simp[bnd,h2,Vd,e]
  ·simp[bnd,h2,Vd,e]
theorem P3 {T:TgW} {S:FS} {om:List Ob} {r:Wv} (p:Wv->Bool) (J:Sl->Prop):∀{l:List Wv} {sl:Sl},(∀w∈l,∀sl,J sl->∃sl1 sl2,T w sl=some sl1∧S sl1 om=some (.ok ((if p w then .rt r else .nx),sl2),om)∧J sl2)->J sl->∃sl',Xz T S l sl om=some (.ok ((if l.any p then .rt r else .nx),sl'),om)∧J sl'
 |[],sl,_,j=>⟨sl,rfl,j⟩
 |w::l,sl,h,j=>by
  obtain ⟨sl1,sl2,h1,h2,h3⟩:=h w (.head _) sl j
  cases hp:p w with
  |true =>
   refine ⟨sl2,?_,h3⟩
   show (match T w sl with|none=>Xn|some sl1=>bnd (S sl1) (Vd fun sl2=>Xz T S l sl2)) om=_
   rw[h1]
   simp[bnd,h2,Vd,hp,ret]
  |false =>
   obtain ⟨sl',e,j'⟩:=P3 p J (l:=l) (fun x hx=>h x (.tail _ hx)) h3
   refine ⟨sl',?_,j'⟩
   show (match T w sl with|none=>Xn|some sl1=>bnd (S sl1) (Vd fun sl2=>Xz T S l sl2)) om=_
   rw[h1]
   simp[bnd,h2,Vd,hp,e]
theorem GD (p:Wv->Bool) (n:Nat):(Xm n).any p=(List.range n).any fun k=>p (.int (k:Nat)):=by
 unfold Xm
 rw[List.any_map]
 rfl
theorem L7 {α:Type} (f:α->Wv->α) (a:α) (n:Nat):(Xm n).foldl f a=(List.range n).foldl (fun a (k:Nat)=>f a (.int k)) a:=by
 unfold Xm
 rw[List.foldl_map]
theorem ZU {om:List Ob} {w v:Wv} {xs:List Wv} {k:Nat} (h:Yq om w=some xs) (e:xs[k]?=some v):kIx w (.int k) om=some (.ok v,om):=by
 simp[kIx,h,FD e]
theorem Vo {om:List Ob} {w:Wv} {xs:List Wv} (h:Yq om w=some xs):YT [w] om=some (.ok (.int xs.length),om):=by
 simp[YT,h]
theorem Wy {om:List Ob} {w:Wv} {xs:List Wv} {sl:Sl} {i:Nat} (hv:sl[i]?=some (some w)) (h:Yq om w=some xs) (hl:xs.length<=lim):(fun sl=>bnd ((fA YT (Ze (Za i) Zm)) sl) Yl) sl om=some (.ok (Xm xs.length),om) :=
 (Zo ((ZG (Zd (Zb hv) Zk)).trans (Vo h))).trans (Xc _ _ hl)
theorem Fs {α:Type} {f:α->Wv} {xs:List α} {k:Nat} (h:k < xs.length) (d:α):(xs.map f)[k]?=some (f (xs.getD k d)):=by
 simp[h,List.getD_eq_getElem?_getD]
theorem YW {α:Type} {f:α->Wv} {xs:List α} {om:List Ob} {w:Wv} {k:Nat} (h:Yq om w=some (xs.map f)) (hk:k < xs.length) (d:α):kIx w (.int k) om=some (.ok (f (xs.getD k d)),om) :=
 ZU h (Fs hk d)
theorem Up (a b:String) (ha:PyData.strOk (Str.ofString a)=true) (hb:PyData.strOk (Str.ofString b)=true) (om:List Ob):Xe false (.str a) (.str b) om=some (.ok (.bl (decide (a=b))),om):=by
 simp[Xe,YQ,XS,X0,PyData.canLay0,PyData.depth,PyData.eqv,Xa,VI,ha,hb]
theorem L8 (a b:String) (ha:PyData.strOk (Str.ofString a)=true) (hb:PyData.strOk (Str.ofString b)=true) (om:List Ob):Xe true (.str a) (.str b) om=some (.ok (.bl (!decide (a=b))),om):=by
 simp[Xe,YQ,XS,X0,PyData.canLay0,PyData.depth,PyData.eqv,Xa,VI,ha,hb]
theorem Ez (a b:Option Int) (om:List Ob):Xe false (Zv a) (Zv b) om=some (.ok (.bl (decide (a=b))),om):=by
 cases a <;> cases b <;> simp[Zv,Xe,YQ,XS,X0,PyData.canLay0,PyData.depth,PyData.eqv] <;> rfl
theorem Tm (a b:Option Int) (om:List Ob):Xe true (Zv a) (Zv b) om=some (.ok (.bl (!decide (a=b))),om):=by
 cases a <;> cases b <;> simp[Zv,Xe,YQ,XS,X0,PyData.canLay0,PyData.depth,PyData.eqv] <;> rfl
def JA (b:Bool) (r:Wv):Fl:=bif b then .rt r else .nx
theorem Mg {T:TgW} {S:FS} {om:List Ob} {r:Wv} {n:Nat} {sl:Sl} (p:Nat->Bool) (J:Sl->Prop) (h:∀m,m < n->∀sl,J sl->∃sl1 sl2,T (.int (m:Nat)) sl=some sl1∧S sl1 om=some (.ok (JA (p m) r,sl2),om)∧J sl2) (j:J sl):∃sl',Xz T S (Xm n) sl om=some (.ok (JA ((List.range n).any p) r,sl'),om)∧J sl':=by
 obtain ⟨sl',e,j'⟩:=P3 (T:=T) (S:=S) (om:=om) (r:=r) (fun w=>match w with|.int i=>p i.toNat|_=>false) J (l:=Xm n) (sl:=sl) (fun w hw sl j=>by
  obtain ⟨m,hm,rfl⟩:=Ty hw
  obtain ⟨sl1,sl2,h1,h2,h3⟩:=h m hm sl j
  refine ⟨sl1,sl2,h1,h2.trans ?_,h3⟩
  show _=some (Except.ok (if p ((m:Nat):Int).toNat=true then Fl.rt r else Fl.nx,sl2),om)
  rw[Int.toNat_natCast]
  cases p m <;> rfl) j
 refine ⟨sl',e.trans ?_,j'⟩
 have e3:((Xm n).any fun w=>match w with|.int i=>p i.toNat|_=>false)=(List.range n).any p:=by
  rw[GD]
  show ((List.range n).any fun k=>p ((k:Nat):Int).toNat)=_
  simp only[Int.toNat_natCast]
 cases hb:(List.range n).any p with
 |true=>rw[if_pos (e3.trans hb)]; rfl
 |false=>rw[if_neg (by rw[e3,hb]; exact Bool.false_ne_true)]; rfl
theorem GU {α:Type} {T:TgW} {S:FS} {n:Nat} {sl:Sl} {om:List Ob} {a:α} (J:α->Sl->List Ob->Prop) (step:α->Nat->α) (h:∀m,m < n->∀a sl om,J a sl om->∃sl1 fl sl2 om2,T (.int (m:Nat)) sl=some sl1∧S sl1 om=some (.ok (fl,sl2),om2)∧(fl=.nx∨fl=.ct)∧J (step a m) sl2 om2) (j:J a sl om):∃sl' om',Xz T S (Xm n) sl om=some (.ok (.nx,sl'),om')∧J ((List.range n).foldl step a) sl' om':=by
 obtain ⟨sl',om',e,j'⟩:=PR (T:=T) (S:=S) J (fun a w=>match w with|.int i=>step a i.toNat|_=>a) (l:=Xm n) (fun w hw a sl om j=>by
  obtain ⟨m,hm,rfl⟩:=Ty hw
  obtain ⟨sl1,fl,sl2,om2,h1,h2,h3,h4⟩:=h m hm a sl om j
  exact ⟨sl1,fl,sl2,om2,h1,h2,h3,by show J (step a ((m:Nat):Int).toNat) _ _; rw[Int.toNat_natCast]; exact h4⟩) j
 rw[L7]at j'
 refine ⟨sl',om',e,?_⟩
 have e2:(fun (a:α) (k:Nat)=>(match (Wv.int (k:Nat)) with|.int i=>step a i.toNat|_=>a))=step:=by
  funext a k
  show step a ((k:Nat):Int).toNat=_
  rw[Int.toNat_natCast]
 rw[← e2]
 exact j'
theorem P8 {T:TgW} {S:FS} (J:Nat->Sl->List Ob->Prop):∀(n s:Nat) {sl:Sl} {om:List Ob},(∀m,s<=m->m < s+n->∀sl om,J m sl om->∃sl1 fl sl2 om2,T (.int (m:Nat)) sl=some sl1∧S sl1 om=some (.ok (fl,sl2),om2)∧(fl=.nx∨fl=.ct)∧J (m+1) sl2 om2)->J s sl om->∃sl' om',Xz T S ((List.range' s n).map fun (i:Nat)=>Wv.int i) sl om=some (.ok (.nx,sl'),om')∧J (s+n) sl' om'
 |0,s,sl,om,_,j=>⟨sl,om,rfl,j⟩
 |n+1,s,sl,om,h,j=>by
  obtain ⟨sl1,fl,sl2,om2,h1,h2,h3,h4⟩:=h s (Nat.le_refl _) (by omega) sl om j
  obtain ⟨sl',om',e,j'⟩:=P8 J n (s+1) (fun m ha hb=>h m (by omega) (by omega)) h4
  refine ⟨sl',om',?_,by rw[show s+(n+1)=s+1+n by omega]; exact j'⟩
  rw[List.range'_succ,List.map_cons]
  show (match T (.int (s:Nat)) sl with|none=>Xn|some sl1=>bnd (S sl1) (Vd fun sl2=>Xz T S _ sl2)) om=_
  rw[h1]
  rcases h3 with rfl|rfl
  ·simp[bnd,h2,Vd,e]
  ·simp[bnd,h2,Vd,e]
theorem WE {T:TgW} {S:FS} {n:Nat} {sl:Sl} {om:List Ob} (J:Nat->Sl->List Ob->Prop) (h:∀m,m < n->∀sl om,J m sl om->∃sl1 fl sl2 om2,T (.int (m:Nat)) sl=some sl1∧S sl1 om=some (.ok (fl,sl2),om2)∧(fl=.nx∨fl=.ct)∧J (m+1) sl2 om2) (j:J 0 sl om):∃sl' om',Xz T S (Xm n) sl om=some (.ok (.nx,sl'),om')∧J n sl' om':=by
 obtain ⟨sl',om',e,j'⟩:=P8 J n 0 (fun m _ hm=>h m (by omega)) j
 rw[Nat.zero_add]at j'
 refine ⟨sl',om',?_,j'⟩
 unfold Xm
 rw[List.range_eq_range']
 exact e
section
variable {sl:Sl} {om:List Ob} {c1 c2:FT} {b1 b2:Bool} {r:Wv}
theorem WJ (h1:c1 sl om=some (.ok b1,om)) (h2:b1=true->c2 sl om=some (.ok b2,om)):X1 c1 c2 sl om=some (.ok (b1&&b2),om):=by
 cases b1 with
 |true=>exact (So h1).trans (h2 rfl)
 |false=>exact Nl h1
theorem KP (h1:c1 sl om=some (.ok b1,om)) (h2:b1=false->c2 sl om=some (.ok b2,om)):fOr c1 c2 sl om=some (.ok (b1 || b2),om):=by
 cases b1 with
 |true=>exact KZ h1
 |false=>exact (WV h1).trans (h2 rfl)
theorem Ri (h1:c1 sl om=some (.ok b1,om)):sIf c1 (ZS (fC r)) Yr sl om=some (.ok (JA b1 r,sl),om):=by
 cases b1 with
 |true=>exact (Yo h1).trans (Zr Zp)
 |false=>exact ZI h1
theorem v2 {k:Wv->Wv->Mw Wv} {i j:Nat} {x y:Wv} (hi:sl[i]?=some (some x)) (hj:sl[j]?=some (some y)):f2 k (Za i) (Za j) sl om=k x y om:=Zs (Zb hi) (Zb hj)
end
theorem Rg (a b:Nat):((a:Int) == (b:Int))=decide (a=b):=by
 by_cases h:a=b
 ·simp[h]
 ·rw[decide_eq_false h]; simpa using (show ¬ (a:Int)=b by omega)
theorem LG (a b:Nat) (om:List Ob):Xe true (.int a) (.int b) om=some (.ok (.bl (!decide (a=b))),om):=by
 rw[WO]; by_cases h:a=b <;> simp[h] <;> omega
theorem HK (a b:Nat) (om:List Ob):Xe false (.int a) (.int b) om=some (.ok (.bl (decide (a=b))),om):=by
 rw[Xw]; by_cases h:a=b <;> simp[h] <;> omega
theorem Xx {ws:List Wv} {om:List Ob} (h:ws.length<=8):XA ws om=some (.ok (.tup ws),om):=by
 have:ws.length<=lim:=by have:=Z1; omega
 simp[XA,this,L2.ret]
theorem OP {om:List Ob} {n h k:Nat} {xs:List Wv} (hn:n<=h) (e:om[h]?=some (.lst xs)):fzW om n (k+1) (.o h)=.lst (xs.map (fzW om n k)):=by
 unfold fzW
 rw[if_pos hn,e]
theorem EF (om:List Ob) (n k:Nat):fzW om n k .non=.non:=by cases k <;> rfl
theorem Bd (om:List Ob) (n k:Nat) (b:Bool):fzW om n k (.bl b)=.bl b:=by cases k <;> rfl
theorem FG (om:List Ob) (n k:Nat) (b:Int):fzW om n k (.int b)=.int b:=by cases k <;> rfl
theorem GP (om:List Ob) (n k:Nat) (o:Option Int):fzW om n k (Zv o)=Zv o:=by cases o with|none=>exact EF ..|some _=>exact FG ..
theorem ET {om l:List Ob} {x:Ob}:(om++x::l)[om.length]?=some x:=by simp
theorem Tu:PyData.strOk (Str.ofString "stand")=true:=by decide +kernel
theorem XG:PyData.strOk (Str.ofString "move")=true:=by decide +kernel
theorem Wm:PyData.strOk (Str.ofString "help")=true:=by decide +kernel
end L2
namespace L2
noncomputable section
open PySem PySem.Spec PyProof.Rows
abbrev stW:Wv:=.tup [.str "stand"]
def GTup (K:PySem.W.Frag) (a:Addr):Prop:=∃(o:Obj) (its:Array Value) (n:Nat),K.lookup a=some o∧o.cls=.type "tuple"∧o.data=.seq its n∧its.size<=sizeLine∧Vals [V.str "stand"] its.toList
theorem GTup.sq {K:PySem.W.Frag} {a:Addr} (h:GTup K a) (H:Hp):SqT K H a [.str "stand"]:=.inr h
theorem GTup.of {K:PySem.W.Frag} {a:Addr} {od:Option Addr} {n:Nat} {t:Tok} {sl:Array (Option Value)} (h:K.lookup a=some ⟨.type "tuple",od,.seq #[.str "stand" t] n,sl⟩):GTup K a:=⟨_,_,_,h,rfl,rfl,by show 1<=sizeLine; decide,.cons ⟨t,rfl⟩ .nil⟩
def unG (s:Addr):Wv->Wv
 |.g a=>if a=s then stW else .g a
 |w=>w
theorem IL (s:Addr):unG s (.g s)=stW:=if_pos rfl
theorem CU {F:Hp} {β:List Addr} {s:Addr} {x:Wv} {v:V} (r:RW F β x v):unG s x=x∨(x=.g s∧v=.ref s∧unG s x=stW):=by
 cases r with
 |g a =>
  by_cases h:a=s
  ·subst h; exact .inr ⟨rfl,rfl,IL _⟩
  ·exact .inl (if_neg h)
 |_=>exact .inl rfl
def Vn (s:Addr) (x i:Wv):Mw Wv:=kIx (unG s x) i
section
variable {X:Cx} {E:XK} {e a b:Expr} {es:List Expr} {f fa fb:FE} {fs:FA} {pos p p2:Pos} {s:Addr}
theorem NF {x:Str} (hg:Gl X x) (h:X.mg x=some (.ref s)) (hd:(x == ("__debug__":Str))=false:=by decide):PE X (.Name x pos) (tE E (fC (.g s))):=JN (KN (v:=.ref s) hg h rfl hd) fun _ _=>.g s
theorem CK {F:Hp} {β:List Addr}:RWs F β [Wv.str "stand"] [V.str "stand"]:=.cons (.str _) .nil
theorem Em (G:GTup X.K s):Op2 E (rIx X.K) (Vn s):=by
 intro F H β om x y v u Q M rx ry R
 unfold Vn at R
 rcases CU (s:=s) rx with h|⟨rfl,rfl,h⟩
 ·rw[h]at R; exact IR M rx ry R
 ·rw[h]at R
  cases ry with
  |int i =>
   have R:Res E (match L2.atI [Wv.str "stand"] i with|some w=>some (Except.ok w,om)|none=>none) F H β (PV Q):=R
   match ha:L2.atI [Wv.str "stand"] i,R with
   |none,R=>exact R.elim
   |some w,R =>
    obtain ⟨z,ez,rz⟩:=(CK (F:=F) (β:=β)).atI ha
    exact .inr (.inl ⟨s,_,i,z,rfl,rfl,G.sq H,ez,(show Res E (ret w om) F H β (PV Q) from R).now M z rz⟩)
  |_=>exact R.elim
theorem VM (G:GTup X.K s) (ha:PE X a (tE E fa)) (hb:PE X b (tE E fb)) (hs:NI b:=by intro _ _; rfl):PE X (.Subscript a b pos) (tE E (f2 (Vn s) fa fb)):=(Dd HU ha hb hs).weak fun _ _ _ h=>La (Em G) h
def X9:List Wv->Option (List Int)
 |[]=>some []
 |.int i::r=>match X9 r with
  |some is=>some (i::is)
  |none=>none
 |_=>none
theorem U2 {F:Hp} {β:List Addr}:∀{ws:List Wv} {vs:List V} {ns:List Int},RWs F β ws vs->X9 ws=some ns->vs=ns.map V.int
 |_,_,_,.nil,e=>by cases e; rfl
 |_,_,_,.cons (ws:=r) h rr,e=>by
  cases h with
  |int i =>
   have e:(match X9 r with|some is=>some (i::is)|none=>none)=some _:=e
   match hr:X9 r,e with
   |some is,e =>
    have e:some (i::is)=some _:=e
    cases e
    rw[List.map_cons,← U2 rr hr]
   |none,e=>exact nomatch e
  |_=>exact nomatch e
def Js (p:Int):List Int->List Int
 |[]=>[p]
 |q::r=>if q < p then q::Js p r else p::q::r
def VZ:List Int->List Int
 |[]=>[]
 |p::r=>Js p (VZ r)
theorem Sh (p:Int):∀l,(Js p l).Perm (p::l)
 |[]=>List.Perm.refl _
 |q::r=>by
  unfold Js
  split
  ·exact ((Sh p r).cons q).trans (List.Perm.swap p q r)
  ·exact List.Perm.refl _
theorem WI:∀l,(VZ l).Perm l
 |[]=>List.Perm.refl _
 |p::r=>(Sh p (VZ r)).trans ((WI r).cons p)
theorem MF (p:Int):∀l:List Int,l.Pairwise (·<=·)->(Js p l).Pairwise (·<=·)
 |[],_=>List.pairwise_singleton _ _
 |q::r,h=>by
  have h':=List.pairwise_cons.mp h
  unfold Js
  by_cases hc:q < p
  ·rw[if_pos hc]
   refine List.pairwise_cons.mpr ⟨fun y hy=>?_,MF p r h'.2⟩
   rcases List.mem_cons.mp ((Sh p r).mem_iff.mp hy) with rfl|hy
   ·omega
   ·exact h'.1 y hy
  ·rw[if_neg hc]
   refine List.pairwise_cons.mpr ⟨fun y hy=>?_,h⟩
   rcases List.mem_cons.mp hy with rfl|hy
   ·omega
   ·have:=h'.1 y hy; omega
theorem Sd:∀l,(VZ l).Pairwise (·<=·)
 |[]=>List.Pairwise.nil
 |p::r=>MF p _ (Sd r)
theorem Q2:∀{l m:List Int},l.Perm m->l.Pairwise (·<=·)->m.Pairwise (·<=·)->l=m
 |[],m,h,_,_=>(List.nil_perm.mp h).symm
 |x::l,[],h,_,_=>absurd h (by simp)
 |x::l,y::m,h,h1,h2=>by
  have h1':=List.pairwise_cons.mp h1
  have h2':=List.pairwise_cons.mp h2
  have e:x=y:=by
   have hx:=h.mem_iff.mp (List.mem_cons_self (a:=x) (l:=l))
   have hy:=h.mem_iff.mpr (List.mem_cons_self (a:=y) (l:=m))
   rcases List.mem_cons.mp hx with hx|hx
   ·exact hx
   ·rcases List.mem_cons.mp hy with hy|hy
    ·exact hy.symm
    ·have a:=h1'.1 y hy
     have b:=h2'.1 x hx
     omega
  subst e
  rw[Q2 h.cons_inv h1'.2 h2'.2]
def HY (om:List Ob):Wv->Option (List Wv)
 |.lst ws=>some ws
 |.o h=>match om[h]? with
  |some (.lst ws)=>some ws
  |_=>none
 |_=>none
theorem MA {F H:Hp} {β:List Addr} {om:List Ob} {w:Wv} {v:V} {ws:List Wv} (M:MOk F H β om) (r:RW F β w v) (e:HY om w=some ws):∃a xs,v=.ref a∧SqL X.K H a xs∧RWs F β ws xs:=by
 cases r with
 |lst q rs=>cases e; exact ⟨_,_,rfl,.inl (Rd.same M.sub q),rs⟩
 |@o h a eb =>
  have e:(match om[h]? with|some (.lst ws)=>some ws|_=>none)=some ws:=e
  match hx:om[h]?,e with
  |none,e=>exact nomatch e
  |some (.ins _ _),e=>exact nomatch e
  |some (.exc _),e=>exact nomatch e
  |some (.dk _),e=>exact nomatch e
  |some (.dt _),e=>exact nomatch e
  |some (.dz _),e=>exact nomatch e
  |some (.lst us),e =>
   have e:some us=some ws:=e
   cases e
   obtain ⟨a',ea,_,xs,hxs,rs⟩:=M.at hx
   rw[eb]at ea; cases ea
   exact ⟨_,_,rfl,SqL.of hxs,rs⟩
 |_=>cases e
def WD (k:List Wv->Mw Wv) (ws:List Wv):Mw Wv:=fun om=>match ws with
 |[x]=>match HY om x with
  |some us=>match X9 us with
   |some ns=>if ns.length < 64 then k ((VZ ns).map Wv.int) om else none
   |none=>none
  |none=>none
 |_=>none
theorem NX {F:Hp} {β:List Addr}:∀ns:List Int,RWs F β (ns.map Wv.int) (ns.map V.int)
 |[]=>.nil
 |_::r=>.cons (.int _) (NX r)
theorem NQ {k:List Wv->Mw Wv} (lk:UK E k):Mj E (Hn X.K) (WD k):=by
 intro F H β om ws vs Q M rs R
 match ws,rs,R with
 |[],_,R=>exact R.elim
 |_::_::_,_,R=>exact R.elim
 |[x],.cons rx .nil,R =>
  unfold WD at R
  dsimp only at R
  match hx:HY om x,R with
  |none,R=>exact R.elim
  |some us,R =>
   dsimp only at R
   match hn:X9 us,R with
   |none,R=>exact R.elim
   |some ns,R =>
    dsimp only at R
    by_cases hl:ns.length < 64
    ·rw[if_pos hl]at R
     obtain ⟨p,xs,rfl,hs,r2⟩:=MA (X:=X) M rx hx
     rw[U2 r2 hn]at hs
     refine ⟨p,ns,rfl,hs,hl,fun q ms h1 h2 hq=>?_⟩
     have e:ms=VZ ns:=Q2 (h1.trans (WI ns).symm) h2 (Sd ns)
     rw[e]
     exact (lk M (NX _) R).2 hq
    ·rw[if_neg hl]at R; exact R.elim
theorem Mh {k:List Wv->Mw Wv} (lk:UK E k) (hg:Gl X "sorted") (hm:X.mg "sorted"=none) (ha:PA X [e] (tA E fs)) (he:starEach [e] X.env=(false,eval e X.env)::starEach [] X.env:=by rfl) (hpl:(backTo pos (starEach [] X.env)).any (·.1)=false:=by rfl) :
    PE X (.Call (.Name "sorted" p) [e] [] pos) (tE E (fA (WD k) fs)):=Rp Lr (NQ (X:=X) lk) hg hm PyProof.Rows.boot_sorted ha (by decide) (by decide) he hpl
def Vl:List Wv->Option (List Bool)
 |[]=>some []
 |.bl b::r=>match Vl r with
  |some bs=>some (b::bs)
  |none=>none
 |_=>none
theorem Rs {F:Hp} {β:List Addr}:∀{ws:List Wv} {vs:List V} {bs:List Bool},RWs F β ws vs->Vl ws=some bs->vs=bs.map V.bl
 |_,_,_,.nil,e=>by cases e; rfl
 |_,_,_,.cons (ws:=r) h rr,e=>by
  cases h with
  |bl i =>
   have e:(match Vl r with|some is=>some (i::is)|none=>none)=some _:=e
   match hr:Vl r,e with
   |some is,e =>
    have e:some (i::is)=some _:=e
    cases e
    rw[List.map_cons,← Rs rr hr]
   |none,e=>exact nomatch e
  |_=>exact nomatch e
def IJ (g:List Bool->Bool) (ws:List Wv):Mw Wv:=fun om=>match ws with
 |[x]=>match HY om x with
  |some us=>match Vl us with
   |some bs=>some (.ok (.bl (g bs)),om)
   |none=>none
  |none=>none
 |_=>none
abbrev EQ:=IJ fun bs=>bs.any id
theorem LY {g:List Bool->Bool}:Mj E (D1 X.K g) (IJ g):=by
 intro F H β om ws vs Q M rs R
 match ws,rs,R with
 |[],_,R=>exact R.elim
 |_::_::_,_,R=>exact R.elim
 |[x],.cons rx .nil,R =>
  unfold IJ at R
  dsimp only at R
  match hx:HY om x,R with
  |none,R=>exact R.elim
  |some us,R =>
   dsimp only at R
   match hn:Vl us,R with
   |none,R=>exact R.elim
   |some bs,R =>
    obtain ⟨p,xs,rfl,hs,r2⟩:=MA (X:=X) M rx hx
    rw[Rs r2 hn]at hs
    exact ⟨p,bs,rfl,hs,(show Res E (ret (Wv.bl (g bs)) om) F H β (PV Q) from R).now M _ (.bl _)⟩
theorem IS (hc:X.calm=true) (hg:Gl X "any") (hm:X.mg "any"=none) (hb:bootBuiltins "any"=some (.builtin "any")) (ha:PA X [e] (tA E fs)) (he:starEach [e] X.env=(false,eval e X.env)::starEach [] X.env:=by rfl) (hpl:(backTo pos (starEach [] X.env)).any (·.1)=false:=by rfl) :
    PE X (.Call (.Name "any" p) [e] [] pos) (tE E (fA EQ fs)):=Rp (Jn hc) (LY (X:=X)) hg hm hb ha (by decide) (by decide) he hpl
end
section
variable {X:Cx} {E:XK} {e o:Expr} {fo f:FE}
def DT:V->List V->Hp->VK->Prop:=fun x vs H Q=>∃l b xs zs,x=.ref l∧vs=[.ref b]∧H l=some (.lst xs)∧Rd H b (.lst zs)∧xs.length+zs.length<=sizeLine∧Q .non (upd H l (.lst (xs++zs)))
theorem Ey:MtM X "list.extend" DT:=by
 intro pins s σ H x vs v us Q I rx rv h
 obtain ⟨l,b,xs,zs,rfl,rfl,hH,hB,hz,q⟩:=h
 cases rx
 obtain ⟨u,rfl,ru⟩:=rv.one
 cases ru
 obtain ⟨_,its,n,r,hl,e⟩:=I.lstM hH
 obtain ⟨_,jts,m,r2,e2⟩:=hB.ok I.hok
 have hl2:=r2.length
 have hs:its.toArray.size+jts.toArray.size<=sizeLine:=by simp only[List.size_toArray]; omega
 have hn:¬ (!its.toArray.isEmpty&&Builtin.List.listTooLong (its.toArray.size+jts.toArray.size))=true:=fun z=>by
  rw[M9 hs,Bool.and_false]at z; cases z
 refine call_meets F.slot_list_extend ⟨_,e,rfl⟩ F.entry_list_extend (F.args_list_extend_2 _ _) (AutoSeq1.list_extend_list_list_0 l its.toArray n b jts.toArray m hn (by simp only[List.size_toArray]; omega) (by omega)) ⟨e,e2,?_⟩
 exact ⟨.non,_,I.lset (its':=its++jts) hH e (by simp) (r.append r2) (by rw[List.length_append]; omega),rfl,q⟩
def BK (x y:Wv):Mw Wv:=fun om=>match Xj om x,y with
 |some (h,ws),.lst us=>if ws.length+us.length<=lim then some (.ok .non,om.set h (.lst (ws++us))) else none
 |_,_=>none
def Er (fo f:FE):FE:=fun sl=>bnd (fo sl) fun x=>bnd (Ig x) fun _=>bnd (f sl) fun y=>BK x y
theorem Jq {apos cpos:Pos} (ho:PE X o (tE E fo)) (he:PE X e (tE E f)) (hbase:attributeBase o "extend" X.env (eval o X.env)=eval o X.env:=by rfl)
    (hfew:((backTo cpos (starEach [e] X.env)).all (fun x=>!x.1)&&(backToKw cpos (keywordEach [] X.env)).all (fun x=>x.1.isSome)
     && decide (([e]:List Expr).length+([]:List Keyword).length+(if ([]:List Keyword).isEmpty then 0 else 1) < 30))=true:=by rfl)
    (hline:(apos.endLine == cpos.line)=true:=by rfl) (hs:starEach [e] X.env=(false,eval e X.env)::starEach [] X.env:=by rfl) (hplain:(backTo cpos (starEach [] X.env)).any (·.1)=false:=by rfl) :
    PE X (.Call (.Attribute o "extend" apos) [e] [] cpos) (tE E (Er fo f)):=(IE PySem.F.plainAttrs_list PySem.F.slot_list_extend PySem.F.type_list_extend Ey ho (XY he VQ hs) hbase hfew hline hs hplain).weak fun σ H Q ⟨F,β,om,sl,M,V,R⟩=>by
 refine ⟨F,β,om,sl,M,V,R.bind fun x om1 F1 H1 β1 g1 M1 R1 v rv=>?_⟩
 obtain ⟨ty,R2⟩:=Lo (X:=X) M1 rv R1
 refine ⟨ty,F1,β1,om1,sl,M1,V.mono g1.toGr,R2.bind fun y om3 F3 H3 β3 g3 M3 R3 u ru=>?_⟩
 show DT v [u] H3 Q
 unfold BK at R3
 match hx:Xj om3 x,R3 with
 |none,R3=>exact R3.elim
 |some (h,ws),R3 =>
  cases ru with
  |@lst b zs us q rs2 =>
   dsimp only at R3
   obtain ⟨a,xs,_,_,eb,rfl,ha,rs⟩:=Vp M3 (rv.mono g3.toGr) hx
   by_cases hc:ws.length+us.length<=lim
   ·rw[if_pos hc]at R3
    have:=VS
    have:=rs.length
    have:=rs2.length
    refine ⟨a,b,xs,zs,rfl,rfl,ha,Rd.same M3.sub q,by omega,?_⟩
    exact R3 F3 _ β3 (M3.gxP eb (nz ha)) (M3.put eb ⟨xs++zs,ZH,rs.append rs2⟩) _ .non
   ·rw[if_neg hc]at R3; exact R3.elim
  |_=>exact R3.elim
end
section
variable {X:Cx} {E:XK} {tg iter:Expr} {body:List Stmt} {fo:FE} {T:TgW} {g:TG} {S:FS} {pos:Pos}
theorem CV {F H:Hp} {β:List Addr} {om:List Ob} {h:Nat} {a:Addr} {γ:Type} {k:List Wv->Option (Except Addr γ × List Ob)} {P:γ->Hp->Hp->List Addr->Prop} {F0 H0:Hp} {β0:List Addr} (M:MOk F H β om) (eb:β[h]?=some a)
    (R:Res E (match om[h]? with|some (.lst us)=>k us|_=>none) F0 H0 β0 P):∃us xs,om[h]?=some (.lst us)∧H a=some (.lst xs)∧RWs F β us xs∧Res E (k us) F0 H0 β0 P:=by
 match hx:om[h]?,R with
 |none,R=>exact R.elim
 |some (.ins _ _),R=>exact R.elim
 |some (.exc _),R=>exact R.elim
 |some (.dk _),R=>exact R.elim
 |some (.dt _),R=>exact R.elim
 |some (.dz _),R=>exact R.elim
 |some (.lst us),R =>
  obtain ⟨a',ea,_,xs,hxs,rs⟩:=M.at hx
  rw[eb]at ea; cases ea
  exact ⟨us,xs,rfl,hxs,rs,R⟩
end
end
end L2
namespace MP
noncomputable section
open PySem L2
structure CA where
 Map:Addr
 Board:Addr
 Orders:Addr
 Turn:Addr
 OrderError:Addr
 NoPlace:Addr
 NoSide:Addr
 Crowded:Addr
 NoUnit:Addr
 OutOfReach:Addr
 STAND:Addr
 kit:Addr->Value->Bool
 caught:Addr->Addr->Bool
def CA.isE (c:CA) (C:Addr):Bool:=C == c.NoPlace || C == c.NoSide || C == c.Crowded || C == c.NoUnit || C == c.OutOfReach
def CA.Ds (c:CA):List Value:=[.ref c.NoPlace,.ref c.NoSide,.ref c.Crowded,.ref c.NoUnit,.ref c.OutOfReach,.type "ValueError"]
def RO (c:CA):FS :=
 (ZE (sIf (fB (f2 kLt (Za 1) (fA YT (Ze (Za 0) Zm)))) (ZS (f2 kIx (Za 0) (Za 1))) Yr)
  (ZS (fC (.int 0))))
def g__law_cell_at (c:CA):List Wv->Mw Wv:=Ym 2 (RO c)
def TL (c:CA):FS :=
 (ZS (Wq (f1 (RD .int) (Za 0)) (f1 Qo (f1 (RD .bl) (Za 0)))))
def g__law_whole (c:CA):List Wv->Mw Wv:=Ym 1 (TL c)
def OL (c:CA):FS :=
 (ZE (ZM 1 (f2 Xy (fC (.int 2)) (f2 XR (fA (kN 2 (g__law_cell_at c)) (Ze (Za 0) (Ze (fC (.int 0)) Zm))) (fC (.int 6)))))
  (ZE (sIf (fB (f2 kEq (f2 XR (f2 T7 (fA (kN 2 (g__law_cell_at c)) (Ze (Za 0) (Ze (fC (.int 0)) Zm))) (fC (.int 6))) (fC (.int 5))) (fC (.int 1)))) (ZS (fA XA (Ze (Za 1) (Ze (f2 XR (f2 T7 (fA (kN 2 (g__law_cell_at c)) (Ze (Za 0) (Ze (fC (.int 0)) Zm))) (fC (.int 30))) (f2 IB (fC (.int 61)) (Za 1))) (Ze (fC (.int 60)) Zm))))) Yr)
  (ZS (fA XA (Ze (Za 1) (Ze (fC (.int 0)) (Ze (Za 1) Zm)))))))
def g__law_frame (c:CA):List Wv->Mw Wv:=Ym 2 (OL c)
def UL (c:CA):FE :=
 (MJ YI (Ze (fC (.bl false)) Zm) (Za 1))
def Vk (c:CA):FS :=
 (ZE (WM (f2 kEq (f2 XR (Za 2) (fC (.int 2))) (fC (.int 1))) (f2 kIx (Za 3) (Za 4)) (Za 5))
  (ZE (WM (f2 kEq (f2 XR (Za 2) (fC (.int 2))) (fC (.int 1))) (f2 kIx (Za 3) (Za 5)) (Za 4))
  (ZM 2 (f2 T7 (Za 2) (fC (.int 2))))))
def W8 (c:CA):FS :=
 (XH (fun sl=>bnd ((Za 4) sl) Yl) (tgN 5) (Vk c))
def Nm (c:CA):FS :=
 (ZE (ZM 2 (f2 XR (fA (kN 2 (g__law_cell_at c)) (Ze (Za 0) (Ze (fC (.int 1)) Zm))) (fC (.int 2097152))))
  (ZE (sIf (fB (f2 kEq (f2 XR (fA (kN 2 (g__law_cell_at c)) (Ze (Za 0) (Ze (fC (.int 2)) Zm))) (fC (.int 3))) (fC (.int 0)))) (ZM 2 (fC (.int 2097151))) Yr)
  (ZE (ZM 3 (Yn YI [1] (fun sl=>bnd ((Za 1) sl) Yl) XE (UL c)))
  (ZE (XH (fun sl=>bnd ((Za 1) sl) Yl) (tgN 4) (W8 c))
  (ZS (Za 3))))))
def g__law_links (c:CA):List Wv->Mw Wv:=Ym 6 (Nm c)
def Wk (c:CA):List Wv->Mw Wv:=tidyG (g__law_links c)
def UW (c:CA):FS :=
 (ZE (ZM 4 (fA (kN 2 (g__law_cell_at c)) (Ze (Za 0) (Ze (f2 Xy (fC (.int 3)) (Za 3)) Zm))))
  (sIf (fB (f2 kEq (f2 XR (Za 4) (fC (.int 4))) (fC (.int 0)))) (Z8 (JV (Za 2) (fC .non))) (sIf (fB (f2 kEq (f2 XR (f2 T7 (Za 4) (fC (.int 4))) (fC (.int 3))) (fC (.int 0)))) (Z8 (JV (Za 2) (f2 XR (f2 T7 (Za 4) (fC (.int 12))) (fC (.int 8))))) (Z8 (JV (Za 2) (f2 XR (f2 T7 (Za 4) (fC (.int 4))) (fC (.int 3))))))))
def O7 (c:CA):FS :=
 (ZE (ZM 2 (fA YI Zm))
  (ZE (XH (fun sl=>bnd ((Za 1) sl) Yl) (tgN 3) (UW c))
  (ZS (Za 2))))
def g__law_sides (c:CA):List Wv->Mw Wv:=Ym 5 (O7 c)
def Wl (c:CA):List Wv->Mw Wv:=tidyG (g__law_sides c)
def Vq (c:CA):FT :=
 (YG (f2 kIx (f2 kIx (Za 2) (Za 1)) (Za 0)))
def Vy (c:CA):FE :=
 (Za 0)
def Vs (c:CA):FT :=
 (X1 (fB (f2 kNe (Za 0) (Za 1))) (X1 (fB (f1 Xv (f2 kIx (Za 3) (Za 0)))) (fOr (fB (f2 kEq (Za 0) (Za 4))) (YG (f2 kIx (f2 kIx (Za 2) (Za 0)) (Za 4))))))
def Vz (c:CA):FE :=
 (Za 0)
def S5 (c:CA):FS :=
 (ZE (ZM 4 (Yn Yk [1,2] (fun sl=>bnd ((fA YT (Ze (Za 3) Zm)) sl) Yl) (Vq c) (Vy c)))
  (ZE (sIf (fB (f1 XT (f2 kIx (Za 3) (Za 1)))) (ZS (fC .non)) Yr)
  (ZE (sIf (fOr (Ws (YG (Za 4))) (fB (f2 kEq (f2 XR (Za 0) (fC (.int 4))) (fC (.int 0))))) (ZS (fA XA (Ze (fC (.str "stand")) Zm))) Yr)
  (ZE (ZM 5 (f2 kIx (Za 4) (f2 XR (f2 T7 (Za 0) (fC (.int 4))) (fA YT (Ze (Za 4) Zm)))))
  (ZE (sIf (fB (f2 kLt (f2 XR (Za 0) (fC (.int 4))) (fC (.int 3)))) (ZS (fA XA (Ze (fC (.str "move")) (Ze (Za 5) Zm)))) Yr)
  (ZE (ZM 6 (Yn Yk [1,2,3,5] (fun sl=>bnd ((fA YT (Ze (Za 3) Zm)) sl) Yl) (Vs c) (Vz c)))
  (ZE (sIf (Ws (YG (Za 6))) (ZS (fA XA (Ze (fC (.str "stand")) Zm))) Yr)
  (ZS (fA XA (Ze (fC (.str "help")) (Ze (f2 kIx (Za 6) (f2 XR (f2 T7 (Za 0) (fC (.int 28))) (fA YT (Ze (Za 6) Zm)))) (Ze (Za 5) Zm))))))))))))
def g__law_order_by (c:CA):List Wv->Mw Wv:=Ym 7 (S5 c)
def Qk (c:CA):FE :=
 (fA (kN 4 (g__law_order_by c)) (Ze (fA (kN 2 (g__law_cell_at c)) (Ze (Za 1) (Ze (f2 Xy (fC (.int 10)) (Za 0)) Zm))) (Ze (Za 0) (Ze (Za 2) (Ze (Za 3) Zm)))))
def QZ (c:CA):FS :=
 (ZS (Yn Yk [0,1,2] (fun sl=>bnd ((fA YT (Ze (Za 2) Zm)) sl) Yl) XE (Qk c)))
def g__law_orders (c:CA):List Wv->Mw Wv:=Ym 3 (QZ c)
def SD (c:CA):FS :=
 (sIf (X1 (fB (f2 kEq (f2 kIx (Za 0) (Za 3)) (fA XA (Ze (fC (.str "move")) (Ze (Za 2) Zm))))) (X1 (fB (f2 kNe (Za 3) (f2 kIx (f2 kIx (Za 0) (Za 2)) (fC (.int 2))))) (fB (f2 kNe (f2 kIx (Za 1) (Za 3)) (f2 kIx (Za 1) (Za 2)))))) (ZS (fC (.bl true))) Yr)
def Kl (c:CA):FS :=
 (ZE (XH (fun sl=>bnd ((fA YT (Ze (Za 0) Zm)) sl) Yl) (tgN 3) (SD c))
  (ZS (fC (.bl false))))
def g__law_cut (c:CA):List Wv->Mw Wv:=Ym 4 (Kl c)
def QJ (c:CA):FS :=
 (ZE (sIf (fOr (fB (f1 XT (f2 kIx (Za 0) (Za 2)))) (fOr (fB (f2 kNe (f2 kIx (f2 kIx (Za 0) (Za 2)) (fC (.int 0))) (fC (.str "help")))) (YG (fA (kN 3 (g__law_cut c)) (Ze (Za 0) (Ze (Za 1) (Ze (Za 2) Zm))))))) (ZS (fC (.bl false))) Yr)
  (ZE (ZM 3 (f2 kIx (Za 0) (f2 kIx (f2 kIx (Za 0) (Za 2)) (fC (.int 1)))))
  (ZE (sIf (fB (f2 kEq (f2 kIx (f2 kIx (Za 0) (Za 2)) (fC (.int 1))) (f2 kIx (f2 kIx (Za 0) (Za 2)) (fC (.int 2))))) (ZS (f2 kNe (f2 kIx (Za 3) (fC (.int 0))) (fC (.str "move")))) Yr)
  (ZS (f2 kEq (Za 3) (fA XA (Ze (fC (.str "move")) (Ze (f2 kIx (f2 kIx (Za 0) (Za 2)) (fC (.int 2))) Zm))))))))
def g__law_counts (c:CA):List Wv->Mw Wv:=Ym 4 (QJ c)
def Ub (c:CA):FS :=
 (sIf (X1 (fB (f2 kEq (f2 kIx (Za 0) (Za 6)) (fA XA (Ze (fC (.str "help")) (Ze (Za 2) (Ze (Za 3) Zm)))))) (X1 (YG (fA (kN 3 (g__law_counts c)) (Ze (Za 0) (Ze (Za 1) (Ze (Za 6) Zm))))) (fB (f2 kNe (f2 kIx (Za 1) (Za 6)) (Za 4))))) (ZM 5 (f2 Xy (Za 5) (fC (.int 1)))) Yr)
def QN (c:CA):FS :=
 (ZE (ZM 5 (fC (.int 1)))
  (ZE (XH (fun sl=>bnd ((fA YT (Ze (Za 0) Zm)) sl) Yl) (tgN 6) (Ub c))
  (ZS (Za 5))))
def g__law_strong (c:CA):List Wv->Mw Wv:=Ym 7 (QN c)
def MZ (c:CA):FS :=
 (ZE (sIf (fB (f2 kEq (f2 kIx (f2 kIx (Za 0) (Za 2)) (fC (.int 0))) (fC (.str "move")))) (ZS (fC (.int 1))) Yr)
  (ZS (fA (kN 5 (g__law_strong c)) (Ze (Za 0) (Ze (Za 1) (Ze (Za 2) (Ze (Za 2) (Ze (f1 Kh (fC (.int 1))) Zm))))))))
def g__law_firm (c:CA):List Wv->Mw Wv:=Ym 3 (MZ c)
def Tp (c:CA):FS :=
 (sIf (X1 (fB (f2 kNe (Za 6) (Za 2))) (X1 (fB (f2 kEq (f2 kIx (Za 0) (Za 6)) (fA XA (Ze (fC (.str "move")) (Ze (Za 4) Zm))))) (fB (f2 kGe (fA (kN 5 (g__law_strong c)) (Ze (Za 0) (Ze (Za 1) (Ze (Za 6) (Ze (Za 4) (Ze (f1 Kh (fC (.int 1))) Zm)))))) (Za 5))))) (ZS (fC (.int 1))) Yr)
def MK (c:CA):FS :=
 (ZE (ZM 4 (f2 kIx (f2 kIx (Za 0) (Za 2)) (fC (.int 1))))
  (ZE (ZM 5 (fA (kN 5 (g__law_strong c)) (Ze (Za 0) (Ze (Za 1) (Ze (Za 2) (Ze (Za 4) (Ze (f1 Kh (fC (.int 1))) Zm)))))))
  (ZE (XH (fun sl=>bnd ((fA YT (Ze (Za 0) Zm)) sl) Yl) (tgN 6) (Tp c))
  (ZE (sIf (fB (f1 XT (f2 kIx (Za 1) (Za 4)))) (ZS (fC (.int 0))) Yr)
  (ZE (ZM 7 (fA (kN 5 (g__law_strong c)) (Ze (Za 0) (Ze (Za 1) (Ze (Za 2) (Ze (Za 4) (Ze (f2 kIx (Za 1) (Za 4)) Zm)))))))
  (ZE (sIf (fB (f2 kEq (f2 kIx (Za 0) (Za 4)) (fA XA (Ze (fC (.str "move")) (Ze (Za 2) Zm))))) (ZE (sIf (fOr (fB (f2 kEq (f2 kIx (Za 1) (Za 4)) (f2 kIx (Za 1) (Za 2)))) (fB (f2 kLe (Za 7) (fA (kN 5 (g__law_strong c)) (Ze (Za 0) (Ze (Za 1) (Ze (Za 4) (Ze (Za 2) (Ze (f1 Kh (fC (.int 1))) Zm))))))))) (ZS (fC (.int 2))) Yr)
  (ZS (fC (.int 0)))) Yr)
  (ZE (sIf (YG (f2 kIx (Za 3) (Za 4))) (ZS (fC (.int 0))) Yr)
  (ZE (sIf (fOr (fB (f2 kEq (f2 kIx (Za 1) (Za 4)) (f2 kIx (Za 1) (Za 2)))) (fB (f2 kLe (Za 7) (fA (kN 3 (g__law_firm c)) (Ze (Za 0) (Ze (Za 1) (Ze (Za 4) Zm))))))) (ZS (fC (.int 3))) Yr)
  (ZS (fC (.int 0)))))))))))
def g__law_flaw (c:CA):List Wv->Mw Wv:=Ym 8 (MK c)
end
open PySem L2
inductive Od where
 |stand
 |move (g:Nat)
 |help (h g:Nat)
 deriving DecidableEq
def odW:Option Od->Wv
 |none=>.non
 |some .stand=>.tup [.str "stand"]
 |some (.move g)=>.tup [.str "move",.int g]
 |some (.help h g)=>.tup [.str "help",.int h,.int g]
theorem Rm (o:Option Od) (g:Nat) (om:List Ob):Xe false (odW o) (.tup [.str "move",.int g]) om=some (.ok (.bl (decide (o=some (.move g)))),om):=by
 match o with
 |none=>simp[odW,Xe,YQ,XS,pysOf,X0,PyData.canLay0,PyData.canLayAll0,PyData.depth,PyData.depthAll,PyData.eqv,PyData.eqvAll,XG,Rg]
 |some .stand=>simp[odW,Xe,YQ,XS,pysOf,X0,PyData.canLay0,PyData.canLayAll0,PyData.depth,PyData.depthAll,PyData.eqv,PyData.eqvAll,XG,Tu]
 |some (.move g')=>simp[odW,Xe,YQ,XS,pysOf,X0,PyData.canLay0,PyData.canLayAll0,PyData.depth,PyData.depthAll,PyData.eqv,PyData.eqvAll,XG,Rg]
 |some (.help a b)=>simp[odW,Xe,YQ,XS,pysOf,X0,PyData.canLay0,PyData.canLayAll0,PyData.depth,PyData.depthAll,PyData.eqv,PyData.eqvAll,XG,Wm]
theorem Es (o:Option Od) (h g:Nat) (om:List Ob):Xe false (odW o) (.tup [.str "help",.int h,.int g]) om=some (.ok (.bl (decide (o=some (.help h g)))),om):=by
 match o with
 |none=>simp[odW,Xe,YQ,XS,pysOf,X0,PyData.canLay0,PyData.canLayAll0,PyData.depth,PyData.depthAll,PyData.eqv,PyData.eqvAll,Wm,Rg]
 |some .stand=>simp[odW,Xe,YQ,XS,pysOf,X0,PyData.canLay0,PyData.canLayAll0,PyData.depth,PyData.depthAll,PyData.eqv,PyData.eqvAll,Wm,Tu]
 |some (.move g')=>simp[odW,Xe,YQ,XS,pysOf,X0,PyData.canLay0,PyData.canLayAll0,PyData.depth,PyData.depthAll,PyData.eqv,PyData.eqvAll,Wm,XG]
 |some (.help a b)=>simp[odW,Xe,YQ,XS,pysOf,X0,PyData.canLay0,PyData.canLayAll0,PyData.depth,PyData.depthAll,PyData.eqv,PyData.eqvAll,Wm,Rg]
abbrev at' {α:Type} (l:List (Option α)) (k:Nat):Option α:=l.getD k none
structure OkT (told:List (Option Od)) (f:List (Option Int)):Prop where
 len:told.length=f.length
 few:told.length<=60
 both:∀k,k < told.length->((at' told k).isSome=true ↔ (at' f k).isSome=true)
 mv:∀k g,at' told k=some (.move g)->g < told.length∧g≠k
 hl:∀k h g,at' told k=some (.help h g)->h < told.length∧g < told.length∧h≠k∧g≠k∧(at' f h).isSome=true
structure Rows (om:List Ob) (tw sw:Wv) (told:List (Option Od)) (f:List (Option Int)):Prop where
 t:Yq om tw=some (told.map odW)
 s:Yq om sw=some (f.map Zv)
def SY (told:List (Option Od)) (f:List (Option Int)) (k g:Nat):Bool:=(List.range told.length).any fun m=>decide (at' told m=some (.move k))&&(!decide (m=g)&&!decide (at' f m=at' f k))
section
variable (c:CA) {om:List Ob} {tw sw:Wv} {told:List (Option Od)} {f:List (Option Int)}
theorem O6 (T:OkT told f):(told.map odW).length<=lim:=by
 have:=T.few; have:=Z1; rw[List.length_map]; omega
theorem Bi (R:Rows om tw sw told f) (T:OkT told f) {k h g:Nat} (hk:k < told.length) (e:at' told k=some (.help h g)):g__law_cut c [tw,sw,.int k] om=some (.ok (.bl (SY told f k g)),om):=by
 have hk2:k < f.length:=T.len ▸ hk
 have ek:=YW (k:=k) R.t hk none
 have es:=YW (k:=k) R.s hk2 none
 rw[show told.getD k none=some (.help h g) from e]at ek
 obtain ⟨sl',hf,x,rfl⟩:=Mg (T:=tgN 3) (S:=SD c) (om:=om) (r:=.bl true) (n:=(told.map odW).length) (fun m=>decide (at' told m=some (.move k))&&(!decide (m=g)&&!decide (at' f m=at' f k)))
  (fun sl=>∃x,sl=[some tw,some sw,some (.int k),x]) (sl:=[some tw,some sw,some (.int k),none]) (fun m hm sl ⟨x,hx⟩=>by
   subst hx
   rw[List.length_map]at hm
   have hm2:m < f.length:=T.len ▸ hm
   refine ⟨[some tw,some sw,some (.int k),some (.int m)],_,rfl,Ri ?_,_,rfl⟩
   refine WJ (ZP ((Zs ((v2 rfl rfl).trans (YW R.t hm none)) ((ZG (Zd Zp (Zd (Zb rfl) Zk))).trans (Xx (by simp)))).trans (Rm _ _ _))) fun _=>?_
   refine WJ (ZP ((Zs (Zb rfl) ((Zs ((v2 rfl rfl).trans ek) Zp).trans (ZU (k:=2) (v:=.int g) rfl rfl))).trans (LG _ _ _))) fun _=>?_
   exact ZP ((Zs ((v2 rfl rfl).trans (YW R.s hm2 none)) ((v2 rfl rfl).trans es)).trans (Tm _ _ _))) ⟨_,rfl⟩
 have e1:=Yx (sl1:=[]) (fi:=fun sl=>bnd ((fA YT (Ze (Za 0) Zm)) sl) Yl) (sl:=[some tw,some sw,some (.int k),none]) (Wy rfl R.t (O6 T)) hf
 rw[List.length_map]at e1
 change XH _ _ _ _ _=some (.ok (JA (SY told f k g) _,_),_) at e1
 cases hc:SY told f k g with
 |true=>rw[hc]at e1; exact Zy (ZT e1)
 |false=>rw[hc]at e1; exact Zy ((Zg e1).trans (Zr Zp))
end
open PySem L2
def odN:Od->String
 |.stand=>"stand"
 |.move _=>"move"
 |.help _ _=>"help"
theorem Uo (o:Od):PyData.strOk (Str.ofString (odN o))=true:=by
 cases o with
 |stand=>exact Tu
 |move g=>exact XG
 |help h g=>exact Wm
theorem LQ (o:Od) (om:List Ob):kIx (odW (some o)) (.int 0) om=some (.ok (.str (odN o)),om):=by
 cases o with
 |stand=>exact ZU (k:=0) rfl rfl
 |move g=>exact ZU (k:=0) rfl rfl
 |help h g=>exact ZU (k:=0) rfl rfl
theorem Cj (h g:Nat) (om:List Ob):kIx (odW (some (.help h g))) (.int 2) om=some (.ok (.int g),om):=ZU (k:=2) rfl rfl
theorem CQ (h g:Nat) (om:List Ob):kIx (odW (some (.help h g))) (.int 1) om=some (.ok (.int h),om):=ZU (k:=1) rfl rfl
theorem Ab (g:Nat) (om:List Ob):kIx (odW (some (.move g))) (.int 1) om=some (.ok (.int g),om):=ZU (k:=1) rfl rfl
def Xd:Option Od->Bool
 |some (.move _)=>true
 |_=>false
theorem G7 (o:Od):decide (odN o="move")=Xd (some o):=by cases o <;> simp[odN,Xd]
theorem Hc (o:Option Od) (om:List Ob):XT (odW o) om=some (.ok (.bl o.isNone),om):=by
 match o with
 |none=>rfl
 |some .stand=>rfl
 |some (.move g)=>rfl
 |some (.help h g)=>rfl
theorem KD (o:Option Od) (om:List Ob):Xv (odW o) om=some (.ok (.bl o.isSome),om):=by
 match o with
 |none=>rfl
 |some .stand=>rfl
 |some (.move g)=>rfl
 |some (.help h g)=>rfl
theorem TD (o:Option Int) (om:List Ob):XT (Zv o) om=some (.ok (.bl o.isNone),om):=by
 cases o <;> rfl
theorem OD (o:Option Int) (om:List Ob):Xv (Zv o) om=some (.ok (.bl o.isSome),om):=by
 cases o <;> rfl
def YF (told:List (Option Od)) (f:List (Option Int)) (k:Nat):Bool:=match at' told k with
 |some (.help h g)=>!SY told f k g&&(if h=g then !Xd (at' told h) else decide (at' told h=some (.move g)))
 |_=>false
section
variable (c:CA) {om:List Ob} {tw sw:Wv} {told:List (Option Od)} {f:List (Option Int)}
theorem J0 (R:Rows om tw sw told f) (T:OkT told f) {k:Nat} (hk:k < told.length):g__law_counts c [tw,sw,.int k] om=some (.ok (.bl (YF told f k)),om):=by
 have ek:=YW (k:=k) R.t hk none
 have a1:fB (f1 XT (f2 kIx (Za 0) (Za 2))) [some tw,some sw,some (.int k),none] om=_:=ZP ((Xs ((v2 rfl rfl).trans ek)).trans (Hc _ _))
 match e:at' told k with
 |none =>
  rw[show YF told f k=false by unfold YF; rw[e]]
  rw[show told.getD k none=none from e]at a1
  exact Zy (ZT ((Yo (KZ a1)).trans (Zr Zp)))
 |some o =>
  rw[show told.getD k none=some o from e]at a1 ek
  have a2:fB (f2 kNe (f2 kIx (f2 kIx (Za 0) (Za 2)) (fC (.int 0))) (fC (.str "help"))) [some tw,some sw,some (.int k),none] om=_:=ZP ((Zs ((Zs ((v2 rfl rfl).trans ek) Zp).trans (LQ o _)) Zp).trans (L8 _ _ (Uo o) Wm _))
  match o,e with
  |.stand,e =>
   rw[show YF told f k=false by unfold YF; rw[e]]
   exact Zy (ZT ((Yo ((WV a1).trans (KZ a2))).trans (Zr Zp)))
  |.move g,e =>
   rw[show YF told f k=false by unfold YF; rw[e]]
   exact Zy (ZT ((Yo ((WV a1).trans (KZ a2))).trans (Zr Zp)))
  |.help h g,e =>
   obtain ⟨hh,hg,_,_,hs⟩:=T.hl k h g e
   have a3:YG (fA (kN 3 (g__law_cut c)) (Ze (Za 0) (Ze (Za 1) (Ze (Za 2) Zm)))) [some tw,some sw,some (.int k),none] om=_:=YE ((ZG (Zd (Zb rfl) (Zd (Zb rfl) (Zd (Zb rfl) Zk)))).trans ((Yj rfl).trans (Bi c R T hk e)))
   have hC:YF told f k=(!SY told f k g&&(if h=g then !Xd (at' told h) else decide (at' told h=some (.move g)))):=by unfold YF; rw[e]
   cases hc:SY told f k g with
   |true =>
    rw[hC,hc]
    rw[hc]at a3
    exact Zy (ZT ((Yo ((WV a1).trans ((WV a2).trans a3))).trans (Zr Zp)))
   |false =>
    rw[hC,hc]
    rw[hc]at a3
    have eh:=YW (k:=h) R.t hh none
    have s2:ZM 3 (f2 kIx (Za 0) (f2 kIx (f2 kIx (Za 0) (Za 2)) (fC (.int 1)))) [some tw,some sw,some (.int k),none] om=_:=ZD ((Zs (Zb rfl) ((Zs ((v2 rfl rfl).trans ek) Zp).trans (CQ h g _))).trans eh)
    have a4:fB (f2 kEq (f2 kIx (f2 kIx (Za 0) (Za 2)) (fC (.int 1))) (f2 kIx (f2 kIx (Za 0) (Za 2)) (fC (.int 2)))) [some tw,some sw,some (.int k),some (odW (told.getD h none))] om=_:=ZP ((Zs ((Zs ((v2 rfl rfl).trans ek) Zp).trans (CQ h g _)) ((Zs ((v2 rfl rfl).trans ek) Zp).trans (Cj h g _))).trans (HK _ _ _))
    refine Zy ((Zg (ZI ((WV a1).trans ((WV a2).trans a3)))).trans ((Zg s2).trans ?_)) (sl1:=[some tw,some sw,some (.int k),some (odW (told.getD h none))])
    by_cases hq:h=g
    ·rw[decide_eq_true hq]at a4
     obtain ⟨o2,e2⟩:=Option.isSome_iff_exists.mp ((T.both h hh).mpr hs)
     rw[if_pos hq,e2,show told.getD h none=some o2 from e2]
     rw[show told.getD h none=some o2 from e2]at a4
     refine ZT ((Yo a4).trans (Zr ?_))
     refine ((Zs ((Zs (Zb rfl) Zp).trans (LQ o2 _)) Zp).trans (L8 _ _ (Uo o2) XG _)).trans ?_
     rw[G7]; simp
    ·rw[decide_eq_false hq]at a4
     rw[if_neg hq]
     refine (Zg (ZI a4)).trans (Zr ?_)
     refine ((Zs (Zb rfl) ((ZG (Zd Zp (Zd ((Zs ((v2 rfl rfl).trans ek) Zp).trans (Cj h g _)) Zk))).trans (Xx (by simp)))).trans (Rm _ _ _)).trans ?_
     simp
end
open PySem L2
def LU (told:List (Option Od)) (f:List (Option Int)) (k goal:Nat) (sd:Option Int) (h:Nat):Bool:=decide (at' told h=some (.help k goal))&&(YF told f h&&!decide (at' f h=sd))
def ZX (told:List (Option Od)) (f:List (Option Int)) (k goal:Nat) (sd:Option Int):Int:=(List.range told.length).foldl (fun a h=>bif LU told f k goal sd h then a+1 else a) 1
def UX (told:List (Option Od)) (f:List (Option Int)) (k:Nat):Int:=bif Xd (at' told k) then 1 else ZX told f k k (some (-1))
def PK (told:List (Option Od)) (f:List (Option Int)) (kept:List Bool) (k goal:Nat):Int :=
 bif (List.range told.length).any fun m=>!decide (m=k)&&(decide (at' told m=some (.move goal))&&decide (ZX told f k goal (some (-1))<=ZX told f m goal (some (-1)))) then 1
 else bif (at' f goal).isNone then 0
 else bif decide (at' told goal=some (.move k)) then (bif decide (at' f goal=at' f k) || decide (ZX told f k goal (at' f goal)<=ZX told f goal k (some (-1))) then 2 else 0)
 else bif kept.getD goal false then 0
 else bif decide (at' f goal=at' f k) || decide (ZX told f k goal (at' f goal)<=UX told f goal) then 3 else 0
section
variable (c:CA) {om:List Ob} {tw sw kw:Wv} {told:List (Option Od)} {f:List (Option Int)} {kept:List Bool}
theorem Vt (R:Rows om tw sw told f) (T:OkT told f) (k goal:Nat) (sd:Option Int):g__law_strong c [tw,sw,.int k,.int goal,Zv sd] om=some (.ok (.int (ZX told f k goal sd)),om):=by
 obtain ⟨sl',om',hf,⟨rfl,x,rfl⟩⟩:=GU (T:=tgN 6) (S:=Ub c) (n:=(told.map odW).length) (a:=(1:Int)) (fun a sl om'=>om'=om∧∃x,sl=[some tw,some sw,some (.int k),some (.int goal),some (Zv sd),some (.int a),x])
  (fun a h=>bif LU told f k goal sd h then a+1 else a) (sl:=[some tw,some sw,some (.int k),some (.int goal),some (Zv sd),some (.int 1),none]) (om:=om) (fun m hm a sl om' ⟨ho,x,hx⟩=>by
   subst ho hx
   rw[List.length_map]at hm
   have hm2:m < f.length:=T.len ▸ hm
   have t:X1 (fB (f2 kEq (f2 kIx (Za 0) (Za 6)) (fA XA (Ze (fC (.str "help")) (Ze (Za 2) (Ze (Za 3) Zm)))))) (X1 (YG (fA (kN 3 (g__law_counts c)) (Ze (Za 0) (Ze (Za 1) (Ze (Za 6) Zm))))) (fB (f2 kNe (f2 kIx (Za 1) (Za 6)) (Za 4)))) [some tw,some sw,some (.int k),some (.int goal),some (Zv sd),some (.int a),some (.int m)] om'=some (.ok (LU told f k goal sd m),om'):=by
    refine WJ (ZP ((Zs ((v2 rfl rfl).trans (YW R.t hm none)) ((ZG (Zd Zp (Zd (Zb rfl) (Zd (Zb rfl) Zk)))).trans (Xx (by simp)))).trans (Es _ _ _ _))) fun _=>?_
    refine WJ (YE ((ZG (Zd (Zb rfl) (Zd (Zb rfl) (Zd (Zb rfl) Zk)))).trans ((Yj rfl).trans (J0 c R T hm)))) fun _=>?_
    exact ZP ((Zs ((v2 rfl rfl).trans (YW R.s hm2 none)) (Zb rfl)).trans (Tm _ _ _))
   cases hb:LU told f k goal sd m with
   |true =>
    rw[hb]at t
    refine ⟨[some tw,some sw,some (.int k),some (.int goal),some (Zv sd),some (.int a),some (.int m)],.nx,_,_,rfl,(Yo t).trans (ZD (i:=5) ((Zs (Zb rfl) Zp).trans rfl)),.inl rfl,rfl,_,rfl⟩
   |false =>
    rw[hb]at t
    exact ⟨[some tw,some sw,some (.int k),some (.int goal),some (Zv sd),some (.int a),some (.int m)],.nx,_,_,rfl,ZI t,.inl rfl,rfl,_,rfl⟩) ⟨rfl,_,rfl⟩
 have e1:=Yx (sl1:=[]) (fi:=fun sl=>bnd ((fA YT (Ze (Za 0) Zm)) sl) Yl) (sl:=[some tw,some sw,some (.int k),some (.int goal),some (Zv sd),some (.int 1),none]) (Wy rfl R.t (O6 T)) hf
 rw[List.length_map]at e1
 exact Zy ((Zg (ZD (i:=5) Zp)).trans ((Zg e1).trans (Zr (Zb rfl))))
theorem Fw {sl:Sl}:f1 Kh (fC (.int 1)) sl om=some (.ok (Zv (some (-1))),om):=rfl
theorem Ef (R:Rows om tw sw told f) (T:OkT told f) {k:Nat} (hk:k < told.length) (hs:(at' told k).isSome=true):g__law_firm c [tw,sw,.int k] om=some (.ok (.int (UX told f k)),om):=by
 obtain ⟨o,e⟩:=Option.isSome_iff_exists.mp hs
 have ek:=YW (k:=k) R.t hk none
 rw[show told.getD k none=some o from e]at ek
 have a1:fB (f2 kEq (f2 kIx (f2 kIx (Za 0) (Za 2)) (fC (.int 0))) (fC (.str "move"))) [some tw,some sw,some (.int k)] om=_:=ZP ((Zs ((Zs ((v2 rfl rfl).trans ek) Zp).trans (LQ o _)) Zp).trans (Up _ _ (Uo o) XG _))
 rw[G7]at a1
 unfold UX
 rw[e]
 cases hb:Xd (some o) with
 |true=>rw[hb]at a1; exact Zy (ZT ((Yo a1).trans (Zr Zp)))
 |false =>
  rw[hb]at a1
  exact Zy ((Zg (ZI a1)).trans (Zr ((ZG (Zd (Zb rfl) (Zd (Zb rfl) (Zd (Zb rfl) (Zd (Zb rfl) (Zd Fw Zk)))))).trans ((Yj rfl).trans (Vt c R T k k (some (-1)))))))
end
open PySem L2
section
variable (c:CA) {om:List Ob} {tw sw kw:Wv} {told:List (Option Od)} {f:List (Option Int)} {kept:List Bool}
theorem le_int (a b:Int) (om:List Ob):kLe (.int a) (.int b) om=some (.ok (.bl (decide (a<=b))),om):=by
 simp[kI,kIc,L2.ret]
theorem ge_int (a b:Int) (om:List Ob):kGe (.int a) (.int b) om=some (.ok (.bl (decide (b<=a))),om):=by
 simp[kI,kIc,L2.ret]
theorem Kt (R:Rows om tw sw told f) (T:OkT told f) (hK:Yq om kw=some (kept.map Wv.bl)) (hl:kept.length=told.length) {k goal:Nat} (hk:k < told.length) (e:at' told k=some (.move goal)):g__law_flaw c [tw,sw,.int k,kw] om=some (.ok (.int (PK told f kept k goal)),om):=by
 obtain ⟨hg,hgk⟩:=T.mv k goal e
 have hk2:k < f.length:=T.len ▸ hk
 have hg2:goal < f.length:=T.len ▸ hg
 have ek:=YW (k:=k) R.t hk none
 rw[show told.getD k none=some (.move goal) from e]at ek
 have eg:=YW (k:=goal) R.t hg none
 have sg:=YW (k:=goal) R.s hg2 none
 have sk:=YW (k:=k) R.s hk2 none
 have kg:=YW (k:=goal) hK (hl ▸ hg) false
 have s1:ZM 4 (f2 kIx (f2 kIx (Za 0) (Za 2)) (fC (.int 1))) [some tw,some sw,some (.int k),some kw,none,none,none,none] om=_:=ZD ((Zs ((v2 rfl rfl).trans ek) Zp).trans (Ab goal _))
 have s2:ZM 5 (fA (kN 5 (g__law_strong c)) (Ze (Za 0) (Ze (Za 1) (Ze (Za 2) (Ze (Za 4) (Ze (f1 Kh (fC (.int 1))) Zm)))))) [some tw,some sw,some (.int k),some kw,some (.int goal),none,none,none] om=_:=ZD ((ZG (Zd (Zb rfl) (Zd (Zb rfl) (Zd (Zb rfl) (Zd (Zb rfl) (Zd Fw Zk)))))).trans ((Yj rfl).trans (Vt c R T k goal (some (-1)))))
 generalize hM:ZX told f k goal (some (-1))=mine at s2
 obtain ⟨sl',hf,x,rfl⟩:=Mg (T:=tgN 6) (S:=Tp c) (om:=om) (r:=.int 1) (n:=(told.map odW).length) (fun m=>!decide (m=k)&&(decide (at' told m=some (.move goal))&&decide (mine<=ZX told f m goal (some (-1)))))
  (fun sl=>∃x,sl=[some tw,some sw,some (.int k),some kw,some (.int goal),some (.int mine),x,none]) (sl:=[some tw,some sw,some (.int k),some kw,some (.int goal),some (.int mine),none,none]) (fun m hm sl ⟨x,hx⟩=>by
   subst hx
   rw[List.length_map]at hm
   refine ⟨[some tw,some sw,some (.int k),some kw,some (.int goal),some (.int mine),some (.int m),none],_,rfl,Ri ?_,_,rfl⟩
   refine WJ (ZP ((v2 rfl rfl).trans (LG _ _ _))) fun _=>?_
   refine WJ (ZP ((Zs ((v2 rfl rfl).trans (YW R.t hm none)) ((ZG (Zd Zp (Zd (Zb rfl) Zk))).trans (Xx (by simp)))).trans (Rm _ _ _))) fun _=>?_
   exact ZP ((Zs ((ZG (Zd (Zb rfl) (Zd (Zb rfl) (Zd (Zb rfl) (Zd (Zb rfl) (Zd Fw Zk)))))).trans ((Yj rfl).trans (Vt c R T m goal (some (-1))))) (Zb rfl)).trans (ge_int _ _ _))) ⟨_,rfl⟩
 have e1:=Yx (sl1:=[]) (fi:=fun sl=>bnd ((fA YT (Ze (Za 0) Zm)) sl) Yl) (sl:=[some tw,some sw,some (.int k),some kw,some (.int goal),some (.int mine),none,none]) (Wy rfl R.t (O6 T)) hf
 rw[List.length_map]at e1
 unfold PK
 rw[hM]
 generalize ((List.range told.length).any fun m=>!decide (m=k)&&(decide (at' told m=some (.move goal))&&decide (mine<=ZX told f m goal (some (-1)))))=b1 at e1 ⊢
 cases b1 with
 |true=>exact Zy ((Zg s1).trans ((Zg s2).trans (ZT e1)))
 |false =>
  have a3:fB (f1 XT (f2 kIx (Za 1) (Za 4))) [some tw,some sw,some (.int k),some kw,some (.int goal),some (.int mine),x,none] om=_:=ZP ((Xs ((v2 rfl rfl).trans sg)).trans (TD _ _))
  generalize hN:(at' f goal).isNone=b2
  rw[show (f.getD goal none).isNone=b2 from hN]at a3
  cases b2 with
  |true=>exact Zy ((Zg s1).trans ((Zg s2).trans ((Zg e1).trans (ZT ((Yo a3).trans (Zr Zp))))))
  |false =>
   have s4:ZM 7 (fA (kN 5 (g__law_strong c)) (Ze (Za 0) (Ze (Za 1) (Ze (Za 2) (Ze (Za 4) (Ze (f2 kIx (Za 1) (Za 4)) Zm)))))) [some tw,some sw,some (.int k),some kw,some (.int goal),some (.int mine),x,none] om=_:=ZD ((ZG (Zd (Zb rfl) (Zd (Zb rfl) (Zd (Zb rfl) (Zd (Zb rfl) (Zd ((v2 rfl rfl).trans sg) Zk)))))).trans ((Yj rfl).trans (Vt c R T k goal (f.getD goal none))))
   change ZM _ _ _ _=some (.ok (.nx,[some tw,some sw,some (.int k),some kw,some (.int goal),some (.int mine),x,some (.int (ZX told f k goal (at' f goal)))]),om) at s4
   generalize ZX told f k goal (at' f goal)=ag at s4 ⊢
   have a5:fB (f2 kEq (f2 kIx (Za 0) (Za 4)) (fA XA (Ze (fC (.str "move")) (Ze (Za 2) Zm)))) [some tw,some sw,some (.int k),some kw,some (.int goal),some (.int mine),x,some (.int ag)] om=_:=ZP ((Zs ((v2 rfl rfl).trans eg) ((ZG (Zd Zp (Zd (Zb rfl) Zk))).trans (Xx (by simp)))).trans (Rm _ _ _))
   have aS:fB (f2 kEq (f2 kIx (Za 1) (Za 4)) (f2 kIx (Za 1) (Za 2))) [some tw,some sw,some (.int k),some kw,some (.int goal),some (.int mine),x,some (.int ag)] om=_:=ZP ((Zs ((v2 rfl rfl).trans sg) ((v2 rfl rfl).trans sk)).trans (Ez _ _ _))
   have pre:=fun {r:Option (Except Addr (Fl × Sl) × List Ob)} {S:FS} (h:S [some tw,some sw,some (.int k),some kw,some (.int goal),some (.int mine),x,some (.int ag)] om=r)=>(Zg s1).trans ((Zg s2).trans ((Zg e1).trans ((Zg (ZI (S1:=ZS (fC (.int 0))) a3)).trans ((Zg s4).trans h))))
   by_cases h5:at' told goal=some (.move k)
   ·rw[decide_eq_true (show told.getD goal none=some (.move k) from h5)]at a5
    rw[decide_eq_true h5]
    have a6:=KP aS fun _=>ZP ((Zs (Zb (i:=7) rfl) ((ZG (k:=kN 5 (g__law_strong c)) (Zd (Zb (i:=0) rfl) (Zd (Zb (i:=1) rfl) (Zd (Zb (i:=4) rfl) (Zd (Zb (i:=2) rfl) (Zd Fw Zk)))))).trans ((Yj rfl).trans (Vt c R T goal k (some (-1)))))).trans (le_int _ _ _))
    have a7:=Ri (r:=.int 2) a6
    change sIf _ _ _ _ _=some (.ok (JA (decide (at' f goal=at' f k) || decide (ag<=ZX told f goal k (some (-1)))) _,_),_) at a7
    generalize (decide (at' f goal=at' f k) || decide (ag<=ZX told f goal k (some (-1))))=b6 at a7 ⊢
    cases b6 with
    |true=>exact Zy (pre (ZT ((Yo a5).trans (ZT a7))))
    |false=>exact Zy (pre (ZT ((Yo a5).trans ((Zg a7).trans (Zr Zp)))))
   ·rw[decide_eq_false (show ¬ told.getD goal none=some (.move k) from h5)]at a5
    rw[decide_eq_false h5]
    have a6:YG (f2 kIx (Za 3) (Za 4)) [some tw,some sw,some (.int k),some kw,some (.int goal),some (.int mine),x,some (.int ag)] om=_:=YE ((v2 rfl rfl).trans kg)
    generalize kept.getD goal false=b6 at a6 ⊢
    cases b6 with
    |true=>exact Zy (pre ((Zg (ZI a5)).trans (ZT ((Yo a6).trans (Zr Zp)))))
    |false =>
     have hs:(at' told goal).isSome=true:=(T.both goal hg).mpr (by cases h:at' f goal with|none=>rw[h]at hN; cases hN|some _=>rfl)
     have a7:=Ri (r:=.int 3) (KP aS fun _=>ZP ((Zs (Zb (i:=7) rfl) ((ZG (k:=kN 3 (g__law_firm c)) (Zd (Zb (i:=0) rfl) (Zd (Zb (i:=1) rfl) (Zd (Zb (i:=4) rfl) Zk)))).trans ((Yj rfl).trans (Ef c R T hg hs)))).trans (le_int _ _ _)))
     change sIf _ _ _ _ _=some (.ok (JA (decide (at' f goal=at' f k) || decide (ag<=UX told f goal)) _,_),_) at a7
     generalize (decide (at' f goal=at' f k) || decide (ag<=UX told f goal))=b7 at a7 ⊢
     cases b7 with
     |true=>exact Zy (pre ((Zg (ZI a5)).trans ((Zg (ZI a6)).trans (ZT a7))))
     |false=>exact Zy (pre ((Zg (ZI a5)).trans ((Zg (ZI a6)).trans ((Zg a7).trans (Zr Zp)))))
end
open PySem L2
abbrev Z9 (ns:List Int):Wv:=.lst (ns.map .int)
section
variable (c:CA) {om:List Ob}
theorem EH (ns:List Int) (k:Nat) (om:List Ob):g__law_cell_at c [Z9 ns,.int k] om=some (.ok (.int (ns.getD k 0)),om):=by
 have hlen:fA YT (Ze (Za 0) Zm) [some (Z9 ns),some (.int k)] om=some (.ok (.int ns.length),om):=by
  refine (ZG (Zd (Zb rfl) Zk)).trans ((Vo rfl).trans ?_)
  rw[List.length_map]
 have a1:fB (f2 kLt (Za 1) (fA YT (Ze (Za 0) Zm))) [some (Z9 ns),some (.int k)] om=some (.ok (decide (k < ns.length)),om):=by
  refine ZP ((Zs (Zb rfl) hlen).trans ?_)
  simp[kI,L2.ret]
 by_cases h:k < ns.length
 ·rw[decide_eq_true h]at a1
  refine Zy (ZT ((Yo a1).trans (Zr ((v2 rfl rfl).trans (YW (xs:=ns) rfl h 0)))))
 ·rw[decide_eq_false h]at a1
  rw[show ns.getD k 0=0 by simp[List.getD_eq_getElem?_getD,List.getElem?_eq_none (Nat.le_of_not_lt h)]]
  exact Zy ((Zg (ZI a1)).trans (Zr Zp))
theorem Gn (i:Int) (om:List Ob):g__law_whole c [.int i] om=some (.ok (.bl true),om):=by
 simp[g__law_whole,TL,Ym,Ww,ZE,Kp,ZM,Z8,ZS,Px,sIf,Yr,Za,fC,f1,f2,fB,kB,fA,Ze,Zm,YT,Yq,bnd,L2.ret,kI,kIc,kIx,Ma,X1,fOr,Ws,Wq,EK,VV,XT,Xv,UE,UJ,To,UI,UD,Ra,Qo,RD,NV,Kd.isi,YG,L6,SQ,Yw,W4,ZB,MT,kN,chk,WT,Ui,Q4,Ts,newO,TX,X4,YR,Y2,UM,Sv,SU,TM,U9,isD,EI,G9,Wu,Sy,SZ,Gz,L2.On,XA,Yk,YI,MJ,RH,kSl,fSl,FC,Jb,MW,WM,Tx,Xj,Yn,XH,Yb,Xc,tgN,NC,VR,VB,ZL,EM,Ea,kUn,XE,EV,Xn,VI,Xa,L2.WO,L2.Xw,List.lookup_cons,List.lookup_nil]
theorem Qy {sl:Sl} {i:Nat} {fe:FE} {ns:List Int} {k:Nat} (h:sl[i]?=some (some (Z9 ns))) (hk:fe sl om=some (.ok (.int k),om)):fA (kN 2 (g__law_cell_at c)) (Ze (Za i) (Ze fe Zm)) sl om=some (.ok (.int (ns.getD k 0)),om) :=
 (ZG (Zd (Zb h) (Zd hk Zk))).trans ((Yj rfl).trans (EH c ns k om))
theorem Ud {sl:Sl} {fa:FE} {a q:Int} (h:fa sl om=some (.ok (.int a),om)) (hq:0 < q):f2 XR fa (fC (.int q)) sl om=some (.ok (.int (a % q)),om):=(Zs h Zp).trans (by simp[kIc,L2.ret,hq])
theorem SJ {sl:Sl} {fa:FE} {a q:Int} (h:fa sl om=some (.ok (.int a),om)) (hq:0 < q∧q < 1073741824):f2 T7 fa (fC (.int q)) sl om=some (.ok (.int (a / q)),om):=(Zs h Zp).trans (by simp[kIc,L2.ret,hq])
theorem NK {sl:Sl} {fa:FE} {a q:Int} (h:fa sl om=some (.ok (.int a),om)):f2 Xy (fC (.int q)) fa sl om=some (.ok (.int (q+a)),om):=(Zs Zp h).trans (by simp[kI,L2.ret])
theorem ML {sl:Sl} {fa:FE} {a q:Int} (h:fa sl om=some (.ok (.int a),om)):fB (f2 kEq fa (fC (.int q))) sl om=some (.ok (decide (a=q)),om):=ZP ((Zs h Zp).trans (Xw _ _ _))
theorem GH (ns:List Int):∃many off size:Nat,2<=many∧many<=7∧off+many<=size∧size<=60∧∀om,g__law_frame c [Z9 ns] om=some (.ok (.tup [.int many,.int off,.int size]),om):=by
 generalize hw:ns.getD 0 0=w
 have l1:0<=w % 6:=Int.emod_nonneg _ (by omega)
 have l2:w % 6 < 6:=Int.emod_lt_of_pos _ (by omega)
 obtain ⟨many,hm⟩:∃m:Nat,2+w % 6=m:=⟨(2+w % 6).toNat,by omega⟩
 have l3:0<=(w / 30) % (61 - many):=Int.emod_nonneg _ (by omega)
 have l4:(w / 30) % (61 - many) < 61 - many:=Int.emod_lt_of_pos _ (by omega)
 obtain ⟨off,ho⟩:∃m:Nat,(w / 30) % (61 - (many:Int))=m:=⟨((w / 30) % (61 - many)).toNat,by omega⟩
 have cell:∀(x:Option Wv) om,fA (kN 2 (g__law_cell_at c)) (Ze (Za 0) (Ze (fC (.int 0)) Zm)) [some (Z9 ns),x] om=some (.ok (.int w),om):=fun x om=>(Qy c (k:=0) rfl Zp).trans (by rw[hw])
 have s1:∀om,ZM 1 (f2 Xy (fC (.int 2)) (f2 XR (fA (kN 2 (g__law_cell_at c)) (Ze (Za 0) (Ze (fC (.int 0)) Zm))) (fC (.int 6)))) [some (Z9 ns),none] om=some (.ok (.nx,[some (Z9 ns),some (.int many)]),om):=fun om=>(ZD (NK (Ud (cell _ om) (by decide)))).trans (by rw[hm]; rfl)
 have t1:∀om,fB (f2 kEq (f2 XR (f2 T7 (fA (kN 2 (g__law_cell_at c)) (Ze (Za 0) (Ze (fC (.int 0)) Zm))) (fC (.int 6))) (fC (.int 5))) (fC (.int 1))) [some (Z9 ns),some (.int many)] om=_:=fun om=>ML (Ud (SJ (cell _ om) (by decide)) (by decide))
 by_cases h:w / 6 % 5=1
 ·refine ⟨many,off,60,by omega,by omega,by omega,by omega,fun om=>?_⟩
  have t1:=t1 om
  rw[decide_eq_true h]at t1
  refine Zy ((Zg (s1 om)).trans (ZT ((Yo t1).trans (Zr ((ZG (Zd (Zb rfl) (Zd (w:=.int off) (om1:=om) ?_ (Zd Zp Zk)))).trans (Xx (by simp)))))))
  refine (Zs (SJ (cell _ om) (by decide)) (y:=.int (61 - many)) (om2:=om) ((Zs Zp (Zb rfl)).trans (by simp[kI,L2.ret]))).trans ?_
  simp[kIc,L2.ret,ho,show (many:Int) < 61 by omega]
 ·refine ⟨many,0,many,by omega,by omega,by omega,by omega,fun om=>?_⟩
  have t1:=t1 om
  rw[decide_eq_false h]at t1
  exact Zy ((Zg (s1 om)).trans ((Zg (ZI t1)).trans (Zr ((ZG (Zd (Zb rfl) (Zd Zp (Zd (Zb rfl) Zk)))).trans (Xx (by simp))))))
def W9 (w:Int):Option Int:=if w % 4=0 then none else if w / 4 % 3=0 then some (w / 12 % 8) else some (w / 4 % 3)
def YD (ns:List Int) (m:Nat):List (Option Int):=(List.range m).map fun k=>W9 (ns.getD (3+k) 0)
theorem Uv (ns:List Int) (m:Nat):(YD ns m).length=m:=by simp[YD]
theorem JP {w s:Int} (h:W9 w=some s):0<=s∧s<=7:=by
 unfold W9 at h
 split at h
 ·cases h
 ·split at h
  ·cases h; omega
  ·cases h; omega
theorem Hf {sl:Sl} {i:Nat} {fe:FE} {w:Wv} {ws:List Wv} {l:List Ob} (h:sl[i]?=some (some (.o om.length))) (hw:fe sl (om++.lst ws::l)=some (.ok w,om++.lst ws::l)) (hl:ws.length < lim):Z8 (JV (Za i) fe) sl (om++.lst ws::l)=some (.ok (.nx,sl),om++.lst (ws++[w])::l):=by
 refine Yd (w:=.non) ?_
 unfold JV
 rw[Zo (Zb h)]
 refine (Zo (a:=()) (om1:=om++.lst ws::l) ?_).trans ((Zo hw).trans ?_)
 ·simp[Ig,L2.ret,Xj]
 ·simp[C6,Xj,hl]
theorem TU {sl:Sl} {i m:Nat} (h:sl[i]?=some (some (.int m))) (hm:m<=lim) (om:List Ob):(fun sl=>bnd ((Za i) sl) Yl) sl om=some (.ok (Xm m),om):=(Zo (Zb h)).trans (Xc _ _ hm)
theorem He (ns:List Int) {m:Nat} (hm:m<=60) (om:List Ob):Wl c [Z9 ns,.int m] om=some (.ok (.lst ((YD ns m).map Zv)),om):=by
 have hlim:=Z1
 have e1:ZM 2 (fA YI Zm) [some (Z9 ns),some (.int m),none,none,none] om=some (.ok (.nx,[some (Z9 ns),some (.int m),some (.o om.length),none,none]),om++[.lst []]) :=
  ZD (i:=2) ((ZG Zk).trans (by simp[YI,newO]))
 obtain ⟨sl',om',hf,rfl,x,y,rfl⟩:=WE (T:=tgN 3) (S:=UW c) (n:=m) (fun k sl om'=>om'=om++[.lst ((YD ns k).map Zv)]∧∃x y,sl=[some (Z9 ns),some (.int m),some (.o om.length),x,y])
  (sl:=[some (Z9 ns),some (.int m),some (.o om.length),none,none]) (om:=om++[.lst []]) (fun k hk sl om' ⟨ho,x,y,hx⟩=>by
   subst ho hx
   have hl:((YD ns k).map Zv).length < lim:=by rw[List.length_map,Uv]; omega
   have hs:(YD ns (k+1)).map Zv=(YD ns k).map Zv++[Zv (W9 (ns.getD (3+k) 0))]:=by
    unfold YD; rw[List.range_succ,List.map_append,List.map_append]; rfl
   generalize hw:ns.getD (3+k) 0=w at hs
   have s1:ZM 4 (fA (kN 2 (g__law_cell_at c)) (Ze (Za 0) (Ze (f2 Xy (fC (.int 3)) (Za 3)) Zm))) [some (Z9 ns),some (.int m),some (.o om.length),some (.int k),y] (om++[.lst ((YD ns k).map Zv)])=some (.ok (.nx,[some (Z9 ns),some (.int m),some (.o om.length),some (.int k),some (.int w)]),om++[.lst ((YD ns k).map Zv)]) :=
    (ZD (Qy c (k:=3+k) rfl ((NK (Zb rfl)).trans (by simp)))).trans (by rw[hw]; rfl)
   have t1:fB (f2 kEq (f2 XR (Za 4) (fC (.int 4))) (fC (.int 0))) [some (Z9 ns),some (.int m),some (.o om.length),some (.int k),some (.int w)] (om++[.lst ((YD ns k).map Zv)])=_:=ML (Ud (Zb rfl) (by decide))
   have t2:fB (f2 kEq (f2 XR (f2 T7 (Za 4) (fC (.int 4))) (fC (.int 3))) (fC (.int 0))) [some (Z9 ns),some (.int m),some (.o om.length),some (.int k),some (.int w)] (om++[.lst ((YD ns k).map Zv)])=_:=ML (Ud (SJ (Zb rfl) (by decide)) (by decide))
   refine ⟨[some (Z9 ns),some (.int m),some (.o om.length),some (.int k),y],.nx,[some (Z9 ns),some (.int m),some (.o om.length),some (.int k),some (.int w)],om++[.lst ((YD ns (k+1)).map Zv)],rfl,?_,.inl rfl,rfl,_,_,rfl⟩
   refine (Zg s1).trans ?_
   rw[hs]
   by_cases c1:w % 4=0
   ·rw[decide_eq_true c1]at t1
    rw[show W9 w=none by simp[W9,c1]]
    exact (Yo t1).trans (Hf rfl Zp hl)
   ·rw[decide_eq_false c1]at t1
    by_cases c2:w / 4 % 3=0
    ·rw[decide_eq_true c2]at t2
     rw[show W9 w=some (w / 12 % 8) by simp[W9,c1,c2]]
     exact (Rq t1).trans ((Yo t2).trans (Hf rfl (Ud (SJ (Zb rfl) (by decide)) (by decide)) hl))
    ·rw[decide_eq_false c2]at t2
     rw[show W9 w=some (w / 4 % 3) by simp[W9,c1,c2]]
     exact (Rq t1).trans ((Rq t2).trans (Hf rfl (Ud (SJ (Zb rfl) (by decide)) (by decide)) hl))) ⟨rfl,_,_,rfl⟩
 have e2:=Yx (sl1:=[]) (fi:=fun sl=>bnd ((Za 1) sl) Yl) (sl:=[some (Z9 ns),some (.int m),some (.o om.length),none,none]) (TU rfl (by omega) _) hf
 have hg:g__law_sides c [Z9 ns,.int m] om=some (.ok (.o om.length),om++[.lst ((YD ns m).map Zv)]):=Zy ((Zg e1).trans ((Zg e2).trans (Zr (Zb rfl))))
 refine tidyG_ok hg (.own (Nat.le_refl _) (by simp) (FzWs.of_smalls ?_)) ?_
 ·generalize YD ns m=l
  induction l with
  |nil=>trivial
  |cons o l ih=>exact ⟨by cases o <;> trivial,ih⟩
 ·refine (OP (k:=3) (Nat.le_refl _) ET).trans ?_
  rw[List.map_map]
  refine congrArg Wv.lst (List.map_congr_left fun o _=>GP _ _ _ o)
end
open PySem L2
abbrev Mx:=List (List Bool)
def X3 (rows:Mx) (a b:Nat):Bool:=(rows.getD a []).getD b false
def VU (rows:Mx) (a b:Nat) (v:Bool):Mx:=rows.set a ((rows.getD a []).set b v)
def Sr (a:Nat) (s:Int × Mx) (b:Nat):Int × Mx:=(s.1 / 2,VU (VU s.2 a b (decide (s.1 % 2=1))) b a (decide (s.1 % 2=1)))
def KJ (s:Int × Mx) (a:Nat):Int × Mx:=(List.range a).foldl (Sr a) s
def KR (ns:List Int):Int:=if ns.getD 2 0 % 3=0 then 2097151 else ns.getD 1 0 % 2097152
def WW (ns:List Int) (m a:Nat):Int × Mx:=(List.range a).foldl KJ (KR ns,List.replicate m (List.replicate m false))
def TQ (ns:List Int) (m:Nat):Mx:=(WW ns m m).2
structure Lk (m:Nat) (rows:Mx):Prop where
 len:rows.length=m
 row:∀a,a < m->(rows.getD a []).length=m
 sym:∀a b,X3 rows a b=X3 rows b a
 dg:∀a,X3 rows a a=false
theorem Md {rows:Mx} {a b i:Nat} {v:Bool} (ha:a < rows.length):(VU rows a b v).getD i []=if i=a then (rows.getD a []).set b v else rows.getD i []:=by
 unfold VU
 rw[List.getD_eq_getElem?_getD,List.getElem?_set]
 by_cases h:a=i
 ·subst h; simp[ha]
 ·rw[if_neg h,if_neg (Ne.symm h),List.getD_eq_getElem?_getD]
theorem Jf {rows:Mx} {a b i j:Nat} {v:Bool} (ha:a < rows.length) (hb:b < (rows.getD a []).length):X3 (VU rows a b v) i j=if i=a∧j=b then v else X3 rows i j:=by
 unfold X3
 rw[Md ha]
 by_cases h:i=a
 ·subst h
  rw[if_pos rfl,List.getD_eq_getElem?_getD,List.getElem?_set]
  by_cases h2:b=j
  ·subst h2; simp only[if_pos rfl,if_pos hb]; simp
  ·rw[if_neg h2,if_neg (fun z=>h2 z.2.symm),← List.getD_eq_getElem?_getD]
 ·rw[if_neg h,if_neg (fun z=>h z.1)]
theorem Tw (rows:Mx) (a b:Nat) (v:Bool):(VU rows a b v).length=rows.length:=by simp[VU]
theorem W1 {rows:Mx} {a b i:Nat} {v:Bool} (ha:a < rows.length):((VU rows a b v).getD i []).length=(rows.getD i []).length:=by
 rw[Md ha]
 by_cases h:i=a
 ·subst h; simp
 ·rw[if_neg h]
theorem Lk.step {m:Nat} {rows:Mx} (L:Lk m rows) {a b:Nat} (ha:a < m) (hb:b < a) (v:Bool):Lk m (VU (VU rows a b v) b a v):=by
 have h1:a < rows.length:=L.len ▸ ha
 have h2:b < (rows.getD a []).length:=by rw[L.row a ha]; omega
 have h3:b < (VU rows a b v).length:=by rw[Tw,L.len]; omega
 have h4:a < ((VU rows a b v).getD b []).length:=by rw[W1 h1,L.row b (by omega)]; exact ha
 have at2:∀i j,X3 (VU (VU rows a b v) b a v) i j=if i=b∧j=a then v else if i=a∧j=b then v else X3 rows i j:=fun i j=>by
  rw[Jf h3 h4,Jf h1 h2]
 refine ⟨by rw[Tw,Tw,L.len],fun i hi=>by rw[W1 h3,W1 h1,L.row i hi],fun i j=>?_,fun i=>?_⟩
 ·rw[at2,at2]
  by_cases e1:i=b∧j=a
  ·rw[if_pos e1,if_neg (by omega),if_pos ⟨e1.2,e1.1⟩]
  ·rw[if_neg e1]
   by_cases e2:i=a∧j=b
   ·rw[if_pos e2,if_pos ⟨e2.2,e2.1⟩]
   ·rw[if_neg e2,if_neg (by omega),if_neg (by omega),L.sym]
 ·rw[at2,if_neg (by omega),if_neg (by omega),L.dg]
theorem Lk.zero (m:Nat):Lk m (List.replicate m (List.replicate m false)):=by
 have z:∀a b,X3 (List.replicate m (List.replicate m false)) a b=false:=fun a b=>by
  unfold X3
  rw[List.getD_eq_getElem?_getD,List.getD_eq_getElem?_getD,List.getElem?_replicate]
  by_cases h:a < m
  ·rw[if_pos h]
   show ((List.replicate m false)[b]?).getD false=false
   rw[List.getElem?_replicate]
   by_cases h2:b < m
   ·rw[if_pos h2]; rfl
   ·rw[if_neg h2]; rfl
  ·rw[if_neg h]; rfl
 refine ⟨by simp,fun a ha=>?_,fun a b=>by rw[z,z],fun a=>z a a⟩
 rw[List.getD_eq_getElem?_getD,List.getElem?_replicate,if_pos ha]
 simp
theorem Lk.row_to {m:Nat} {s:Int × Mx} (L:Lk m s.2) {a:Nat} (ha:a < m):∀k,k<=a->Lk m ((List.range k).foldl (Sr a) s).2
 |0,_=>L
 |k+1,h=>by
  rw[List.range_succ,List.foldl_append]
  exact Lk.step (Lk.row_to L ha k (by omega)) ha (by omega) _
theorem Lk.to (ns:List Int) (m:Nat):∀a,a<=m->Lk m (WW ns m a).2
 |0,_=>Lk.zero m
 |a+1,h=>by
  unfold WW
  rw[List.range_succ,List.foldl_append]
  exact Lk.row_to (Lk.to ns m a (by omega)) (by omega) a (Nat.le_refl _)
theorem RP (ns:List Int) (m:Nat):Lk m (TQ ns m):=Lk.to ns m m (Nat.le_refl _)
open PySem L2
section
variable (c:CA) {om:List Ob}
theorem Ou {f:FE} {mk:Wv->Sl} {x:Ob}:∀{l:List Wv} {om:List Ob},(∀w∈l,∀om,f (mk w) om=some (.ok (.o om.length),om++[x]))->Xi XE f mk l om=some (.ok ((List.range l.length).map fun i=>.o (om.length+i)),om++List.replicate l.length x)
 |[],om,_=>by simp[Xi,L2.ret]
 |w::l,om,h=>by
  have ih:=Ou (l:=l) (om:=om++[x]) (fun y hy=>h y (.tail _ hy))
  have h1:=h w (.head _) om
  show bnd (ZL (XE (mk w))) (VJ (Xi XE f mk l) (f (mk w))) om=_
  have c1:ZL (f (mk w)) om=some (.ok (.o om.length),om++[x]):=by simp[ZL,h1]
  have c2:bnd (ZL (XE (mk w))) (VJ (Xi XE f mk l) (f (mk w))) om=bnd (ZL (f (mk w))) (fun x=>bnd (Xi XE f mk l) fun xs=>L2.ret (x::xs)) om:=rfl
  rw[c2,Zo c1,Zo ih]
  have e1:(List.range l.length).map (fun i=>Wv.o ((om++[x]).length+i))=((List.range l.length).map Nat.succ).map fun i=>Wv.o (om.length+i):=by
   rw[List.map_map]
   refine List.map_congr_left fun i _=>?_
   show Wv.o _=Wv.o _
   rw[List.length_append]
   congr 1
   show om.length+1+i=om.length+(i+1)
   omega
  rw[e1,List.length_cons,List.range_succ_eq_map,List.replicate_succ,List.append_assoc]
  rfl
abbrev Ii (r:List Bool):Ob:=.lst (r.map .bl)
abbrev Ew (n m:Nat):Ob:=.lst ((List.range m).map fun i=>.o (n+i))
abbrev XB (om:List Ob) (m:Nat) (rows:Mx):List Ob:=om++(rows.map Ii++[Ew om.length m])
theorem M7 {m:Nat} {rows:Mx} (hr:rows.length=m):(XB om m rows)[om.length+m]?=some (Ew om.length m):=by
 subst hr
 rw[List.getElem?_append_right (by omega),List.getElem?_append_right (by simp)]
 simp
theorem Mp {m i:Nat} {rows:Mx} (hi:i < rows.length):(XB om m rows)[om.length+i]?=some (Ii (rows.getD i [])):=by
 rw[List.getElem?_append_right (by omega),List.getElem?_append_left (by simp; omega)]
 simp[hi]
theorem Gh {m i jx:Nat} {rows:Mx} {v:Bool} (hi:i < rows.length):(XB om m rows).set (om.length+i) (.lst (((rows.getD i []).map Wv.bl).set jx (.bl v)))=XB om m (VU rows i jx v):=by
 rw[List.set_append_right _ _ (by omega),List.set_append_left _ _ (by simp; omega)]
 unfold XB VU
 rw[List.map_set,Nat.add_sub_cancel_left]
 congr 3
 simp[List.map_set]
theorem ME {fe:FE} {m i jx p q:Nat} {rows:Mx} {v:Bool} {sl:Sl} (hr:rows.length=m) (hi:i < m) (hj:jx < (rows.getD i []).length) (he:fe sl (XB om m rows)=some (.ok (.bl v),XB om m rows)) (h3:sl[3]?=some (some (.o (om.length+m)))) (hp:sl[p]?=some (some (.int i))) (hq:sl[q]?=some (some (.int jx))) :
    WM fe (f2 kIx (Za 3) (Za p)) (Za q) sl (XB om m rows)=some (.ok (.nx,sl),XB om m (VU rows i jx v)):=by
 have e1:f2 kIx (Za 3) (Za p) sl (XB om m rows)=some (.ok (.o (om.length+i)),XB om m rows):=by
  refine (v2 h3 hp).trans (ZU (xs:=(List.range m).map fun i=>.o (om.length+i)) ?_ (by simp[hi]))
  show (match (XB om m rows)[om.length+m]? with|some (.lst ws)=>some ws|_=>none)=_
  rw[M7 hr]
 unfold WM
 rw[Zo he,Zo e1,Zo (Zb hq)]
 refine (Zo (a:=()) (om1:=XB om m (VU rows i jx v)) ?_).trans rfl
 have e2:Xj (XB om m rows) (.o (om.length+i))=some (om.length+i,(rows.getD i []).map Wv.bl):=by
  show (match (XB om m rows)[om.length+i]? with|some (.lst ws)=>some (om.length+i,ws)|_=>none)=_
  rw[Mp (by omega)]
 have e3:ixN ((rows.getD i []).map Wv.bl).length (jx:Int)=some jx:=by
  rw[List.length_map]
  unfold ixN
  rw[if_pos (by omega),if_pos (by omega),Int.toNat_natCast]
 unfold Tx
 rw[e2]
 show (match ixN ((rows.getD i []).map Wv.bl).length (jx:Int) with|some j=>some (Except.ok (),(XB om m rows).set (om.length+i) (.lst (((rows.getD i []).map Wv.bl).set j (.bl v))))|none=>none)=_
 rw[e3]
 show some (Except.ok (),(XB om m rows).set (om.length+i) (.lst (((rows.getD i []).map Wv.bl).set jx (.bl v))))=_
 rw[Gh (by omega)]
end
open PySem L2
section
variable (c:CA) {om:List Ob}
theorem Im (w:Wv) (n:Nat):(List.replicate n [w]).flatten=List.replicate n w:=by
 induction n with
 |zero=>rfl
 |succ n ih=>rw[List.replicate_succ,List.flatten_cons,ih]; rfl
theorem Ny {b:Bool} {om:List Ob} (h:b=true):chk b om=some (.ok (),om):=by subst h; rfl
theorem BJ {w:Wv} {n i:Nat} (hn:n<=60) (sl:Sl) (om:List Ob) (h:sl[i]?=some (some (.int n))):MJ YI (Ze (fC w) Zm) (Za i) sl om=some (.ok (.o om.length),om++[.lst (List.replicate n w)]):=by
 have hl:=Z1
 have e:RH [w] (.int n) om=some (.ok (List.replicate n w),om):=by
  have hd:decide (-(2 ^ 63)<=(n:Int)∧(n:Int) < 2 ^ 63∧[w].length * (n:Int).toNat<=lim)=true:=by
   rw[decide_eq_true_iff]
   exact ⟨by omega,by omega,by show 1 * (n:Int).toNat<=lim; omega⟩
  unfold RH
  dsimp only
  rw[Zo (Ny hd),Int.toNat_natCast,Im]
  rfl
 unfold MJ
 rw[Zo (Zd Zp Zk),Zo (Ny (decide_eq_true (show [w].length<=lim by show 1<=lim; omega))),Zo (Zb h),Zo e]
 have:(List.replicate n w).length<=lim:=by rw[List.length_replicate]; omega
 unfold YI
 rw[if_pos this]
 rfl
abbrev Qc (n m:Nat) (ns:List Int) (bits:Int) (x4 x5:Option Wv):Sl:=[some (Z9 ns),some (.int m),some (.int bits),some (.o (n+m)),x4,x5]
theorem F8 {m a b:Nat} {rows:Mx} {bits:Int} (ns:List Int) (L:Lk m rows) (ha:a < m) (hb:b < a):Vk c (Qc om.length m ns bits (some (.int a)) (some (.int b))) (XB om m rows)=some (.ok (.nx,Qc om.length m ns (Sr a (bits,rows) b).1 (some (.int a)) (some (.int b))),XB om m (Sr a (bits,rows) b).2):=by
 have v1:∀rows:Mx,f2 kEq (f2 XR (Za 2) (fC (.int 2))) (fC (.int 1)) (Qc om.length m ns bits (some (.int a)) (some (.int b))) (XB om m rows)=some (.ok (.bl (decide (bits % 2=1))),XB om m rows):=fun rows=>(Zs (Ud (Zb rfl) (by decide)) Zp).trans (Xw _ _ _)
 have s1:=ME (om:=om) (m:=m) (i:=a) (jx:=b) (p:=4) (q:=5) (rows:=rows) L.len ha (by rw[L.row a ha]; omega) (v1 rows) rfl rfl rfl
 have s2:=ME (om:=om) (m:=m) (i:=b) (jx:=a) (p:=5) (q:=4) (rows:=VU rows a b (decide (bits % 2=1))) (by rw[Tw,L.len]) (by omega) (by rw[W1 (by rw[L.len]; exact ha),L.row b (by omega)]; exact ha) (v1 _) rfl rfl rfl
 exact (Zg s1).trans ((Zg s2).trans (ZD (i:=2) (SJ (Zb rfl) (by decide))))
theorem Bq {m a:Nat} {s:Int × Mx} (ns:List Int) (L:Lk m s.2) (ha:a < m) (hm:m<=60) (x5:Option Wv):∃y5,W8 c (Qc om.length m ns s.1 (some (.int a)) x5) (XB om m s.2)=some (.ok (.nx,Qc om.length m ns (KJ s a).1 (some (.int a)) y5),XB om m (KJ s a).2):=by
 obtain ⟨sl',om',hf,y,rfl,rfl⟩:=WE (T:=tgN 5) (S:=Vk c) (n:=a) (fun b sl om'=>∃y,sl=Qc om.length m ns ((List.range b).foldl (Sr a) s).1 (some (.int a)) y∧om'=XB om m ((List.range b).foldl (Sr a) s).2)
  (sl:=Qc om.length m ns s.1 (some (.int a)) x5) (om:=XB om m s.2) (fun b hb sl om' ⟨y,h1,h2⟩=>by
   subst h1 h2
   refine ⟨_,.nx,_,_,rfl,F8 c ns (Lk.row_to L ha b (by omega)) ha hb,.inl rfl,some (.int b),?_,?_⟩
   ·rw[List.range_succ,List.foldl_append]; rfl
   ·rw[List.range_succ,List.foldl_append]; rfl) ⟨x5,rfl,rfl⟩
 exact ⟨y,Yx (sl1:=[]) (TU rfl (by have:=Z1; omega) _) hf⟩
abbrev YJ (r:List Bool):Wv:=.lst (r.map .bl)
theorem Gk (ns:List Int) {m:Nat} (hm:m<=60) (om:List Ob):Wk c [Z9 ns,.int m] om=some (.ok (.lst ((TQ ns m).map YJ)),om):=by
 have hlim:=Z1
 have cell:∀(x:Option Wv) (k:Nat),fA (kN 2 (g__law_cell_at c)) (Ze (Za 0) (Ze (fC (.int k)) Zm)) [some (Z9 ns),some (.int m),x,none,none,none] om=some (.ok (.int (ns.getD k 0)),om):=fun x k=>Qy c rfl Zp
 have s1:ZM 2 (f2 XR (fA (kN 2 (g__law_cell_at c)) (Ze (Za 0) (Ze (fC (.int 1)) Zm))) (fC (.int 2097152))) [some (Z9 ns),some (.int m),none,none,none,none] om=some (.ok (.nx,[some (Z9 ns),some (.int m),some (.int (ns.getD 1 0 % 2097152)),none,none,none]),om):=ZD (i:=2) (Ud (cell none 1) (by decide))
 have t1:fB (f2 kEq (f2 XR (fA (kN 2 (g__law_cell_at c)) (Ze (Za 0) (Ze (fC (.int 2)) Zm))) (fC (.int 3))) (fC (.int 0))) [some (Z9 ns),some (.int m),some (.int (ns.getD 1 0 % 2097152)),none,none,none] om=_:=ML (Ud (cell _ 2) (by decide))
 have s2:sIf (fB (f2 kEq (f2 XR (fA (kN 2 (g__law_cell_at c)) (Ze (Za 0) (Ze (fC (.int 2)) Zm))) (fC (.int 3))) (fC (.int 0)))) (ZM 2 (fC (.int 2097151))) Yr [some (Z9 ns),some (.int m),some (.int (ns.getD 1 0 % 2097152)),none,none,none] om=some (.ok (.nx,[some (Z9 ns),some (.int m),some (.int (KR ns)),none,none,none]),om):=by
  unfold KR
  by_cases h:ns.getD 2 0 % 3=0
  ·rw[decide_eq_true h]at t1
   rw[if_pos h]
   exact (Yo t1).trans (ZD (i:=2) Zp)
  ·rw[decide_eq_false h]at t1
   rw[if_neg h]
   exact ZI t1
 have hz:om++List.replicate m (Ob.lst (List.replicate m (.bl false)))++[Ew om.length m]=XB om m (WW ns m 0).2:=by
  show _=om++((List.replicate m (List.replicate m false)).map Ii++[Ew om.length m])
  have e:Ii (List.replicate m false)=Ob.lst (List.replicate m (.bl false)):=by unfold Ii; rw[List.map_replicate]
  rw[List.append_assoc,List.map_replicate,e]
 have s3:ZM 3 (Yn YI [1] (fun sl=>bnd ((Za 1) sl) Yl) XE (UL c)) [some (Z9 ns),some (.int m),some (.int (KR ns)),none,none,none] om=some (.ok (.nx,Qc om.length m ns (WW ns m 0).1 none none),XB om m (WW ns m 0).2):=by
  refine ZD (i:=3) (w:=.o (om.length+m)) ?_
  refine (X7 (ws:=Xm m) (om1:=om) (TU rfl (by omega) om) (by rw[WR]; omega) (Ou (x:=.lst (List.replicate m (.bl false))) (fun w _ om=>BJ (i:=1) hm _ om rfl))).trans ?_
  rw[WR,← hz]
  unfold YI
  rw[if_pos (by rw[List.length_map,List.length_range]; omega)]
  unfold newO
  rw[List.length_append,List.length_replicate]
 obtain ⟨sl',om',hf,y4,y5,rfl,rfl⟩:=WE (T:=tgN 4) (S:=W8 c) (n:=m) (fun a sl om'=>∃y4 y5,sl=Qc om.length m ns (WW ns m a).1 y4 y5∧om'=XB om m (WW ns m a).2)
  (sl:=Qc om.length m ns (WW ns m 0).1 none none) (om:=XB om m (WW ns m 0).2) (fun a ha sl om' ⟨y4,y5,h1,h2⟩=>by
   subst h1 h2
   obtain ⟨z5,e⟩:=Bq c (om:=om) ns (Lk.to ns m a (by omega)) ha hm y5
   have e2:WW ns m (a+1)=KJ (WW ns m a) a:=by unfold WW; rw[List.range_succ,List.foldl_append]; rfl
   exact ⟨_,.nx,_,_,rfl,e,.inl rfl,_,z5,by rw[e2],by rw[e2]⟩) ⟨none,none,rfl,rfl⟩
 have e4:=Yx (sl1:=[]) (fi:=fun sl=>bnd ((Za 1) sl) Yl) (sl:=Qc om.length m ns (WW ns m 0).1 none none) (TU rfl (by omega) _) hf
 have hg:g__law_links c [Z9 ns,.int m] om=some (.ok (.o (om.length+m)),XB om m (TQ ns m)):=Zy ((Zg s1).trans ((Zg s2).trans ((Zg s3).trans ((Zg e4).trans (Zr (Zb rfl))))))
 have L:=RP ns m
 generalize TQ ns m=rows at hg L ⊢
 have ho:=M7 (om:=om) L.len
 have hrow:∀i,i < m->(XB om m rows)[om.length+i]?=some (Ii (rows.getD i [])):=fun i hi=>Mp (by rw[L.len]; exact hi)
 have hrows:rows.map YJ=(List.range m).map fun i=>YJ (rows.getD i []):=by
  refine List.ext_getElem? fun i=>?_
  rw[List.getElem?_map,List.getElem?_map]
  by_cases h:i < m
  ·rw[List.getElem?_range h,List.getElem?_eq_getElem (by rw[L.len]; exact h)]
   simp[List.getD_eq_getElem?_getD,List.getElem?_eq_getElem (show i < rows.length by rw[L.len]; exact h)]
  ·rw[List.getElem?_eq_none (by rw[L.len]; omega),List.getElem?_eq_none (by simp; omega)]
   rfl
 have pl:∀r:List Bool,smalls om.length (r.map Wv.bl):=fun r=>by
  induction r with
  |nil=>trivial
  |cons b r ih=>exact ⟨trivial,ih⟩
 refine tidyG_ok hg (.own (Nat.le_add_right _ _) ho ?_) ?_
 ·rw[hrows]
  have key:∀l:List Nat,(∀i∈l,i < m)->FzWs (XB om m rows) om.length (l.map fun i=>.o (om.length+i)) (l.map fun i=>YJ (rows.getD i [])):=fun l=>by
   induction l with
   |nil=>exact fun _=>.nil
   |cons i l ih=>exact fun h=>.cons (.own (Nat.le_add_right _ _) (hrow i (h i (.head _))) (FzWs.of_smalls (pl _))) (ih fun j hj=>h j (.tail _ hj))
  exact key _ fun i hi=>List.mem_range.mp hi
 ·refine (OP (k:=3) (Nat.le_add_right _ _) ho).trans ?_
  rw[List.map_map,hrows]
  refine congrArg Wv.lst (List.map_congr_left fun i hi=>?_)
  refine (OP (k:=2) (Nat.le_add_right _ _) (hrow i (List.mem_range.mp hi))).trans ?_
  refine congrArg Wv.lst ?_
  rw[List.map_map]
  exact List.map_congr_left fun b _=>Bd _ _ _ b
end
open PySem L2
def XD (l:List Nat):List Wv:=l.map fun (k:Nat)=>Wv.int k
def Vw (rows:Mx) (n k:Nat):List Nat:=(List.range n).filter fun b=>X3 rows k b
def KU (rows:Mx) (f:List (Option Int)) (k goal h:Nat):Bool:=!decide (h=k)&&((at' f h).isSome&&(decide (h=goal) || X3 rows h goal))
def TW (rows:Mx) (f:List (Option Int)) (n k goal:Nat):List Nat:=(List.range n).filter (KU rows f k goal)
def Tg (l:List Nat) (i:Int):Nat:=l.getD (i % l.length).toNat 0
def WA (w:Int) (k:Nat) (rows:Mx) (f:List (Option Int)):Option Od :=
 bif (at' f k).isNone then none
 else bif (Vw rows f.length k).isEmpty || decide (w % 4=0) then some .stand
 else bif decide (w % 4 < 3) then some (.move (Tg (Vw rows f.length k) (w / 4)))
 else bif (TW rows f f.length k (Tg (Vw rows f.length k) (w / 4))).isEmpty then some .stand
 else some (.help (Tg (TW rows f f.length k (Tg (Vw rows f.length k) (w / 4))) (w / 28)) (Tg (Vw rows f.length k) (w / 4)))
def Hj (rows:Mx) (f:List (Option Int)) (k:Nat):Option Od->Prop
 |none=>at' f k=none
 |some .stand=>(at' f k).isSome=true
 |some (.move g)=>(at' f k).isSome=true∧g < f.length∧X3 rows k g=true
 |some (.help h g)=>(at' f k).isSome=true∧h < f.length∧g < f.length∧h≠k∧(at' f h).isSome=true∧X3 rows k g=true∧(h=g∨X3 rows h g=true)
theorem Qp {l:List Nat} (i:Int) (h:l.isEmpty=false):Tg l i∈l:=by
 have hl:0 < l.length:=by cases l with|nil=>cases h|cons _ _=>simp
 have h1:0<=i % (l.length:Int):=Int.emod_nonneg _ (by omega)
 have h2:i % (l.length:Int) < l.length:=Int.emod_lt_of_pos _ (by omega)
 have h3:(i % (l.length:Int)).toNat < l.length:=by omega
 unfold Tg
 rw[List.getD_eq_getElem?_getD,List.getElem?_eq_getElem h3]
 exact List.getElem_mem _
theorem LK (w:Int) (k:Nat) (rows:Mx) (f:List (Option Int)):Hj rows f k (WA w k rows f):=by
 unfold WA
 cases h0:(at' f k).isNone with
 |true=>exact Option.isNone_iff_eq_none.mp h0
 |false =>
  have hs:(at' f k).isSome=true:=by cases h:at' f k with|none=>rw[h]at h0; cases h0|some _=>rfl
  show Hj rows f k (bif (Vw rows f.length k).isEmpty || decide (w % 4=0) then some .stand else _)
  cases h1:((Vw rows f.length k).isEmpty || decide (w % 4=0)) with
  |true=>exact hs
  |false =>
   have hn:(Vw rows f.length k).isEmpty=false:=(Bool.or_eq_false_iff.mp h1).1
   have hm:Tg (Vw rows f.length k) (w / 4)∈List.range f.length∧X3 rows k (Tg (Vw rows f.length k) (w / 4))=true:=List.mem_filter.mp (Qp (w / 4) hn)
   show Hj rows f k (bif decide (w % 4 < 3) then _ else _)
   generalize Tg (Vw rows f.length k) (w / 4)=g at hm ⊢
   cases h2:decide (w % 4 < 3) with
   |true=>exact ⟨hs,List.mem_range.mp hm.1,hm.2⟩
   |false =>
    show Hj rows f k (bif (TW rows f f.length k g).isEmpty then _ else _)
    cases h3:(TW rows f f.length k g).isEmpty with
    |true=>exact hs
    |false =>
     have ha:Tg (TW rows f f.length k g) (w / 28)∈List.range f.length∧KU rows f k g (Tg (TW rows f f.length k g) (w / 28))=true:=List.mem_filter.mp (Qp (w / 28) h3)
     generalize Tg (TW rows f f.length k g) (w / 28)=h at ha ⊢
     have hb:=ha.2
     simp only[KU,Bool.and_eq_true,Bool.not_eq_true',decide_eq_false_iff_not,Bool.or_eq_true,decide_eq_true_eq]at hb
     exact ⟨hs,List.mem_range.mp ha.1,List.mem_range.mp hm.1,hb.1,hb.2.1,hm.2,hb.2.2⟩
section
variable (c:CA) {om:List Ob}
theorem Uc {cT:FT} {f:FE} {mk:Wv->Sl} {om:List Ob} {n:Nat} (p:Nat->Bool) (g:Nat->Wv) (hc:∀k,k < n->cT (mk (.int (k:Nat))) om=some (.ok (p k),om)) (hf:∀k,k < n->p k=true->f (mk (.int (k:Nat))) om=some (.ok (g k),om)):Xi cT f mk (Xm n) om=some (.ok (((List.range n).filter p).map g),om):=by
 rw[Tb (fun w=>match w with|.int i=>p i.toNat|_=>false) (fun w=>match w with|.int i=>g i.toNat|_=>.non)]
 ·rw[N9,List.map_map]
  have e:((List.range n).filter fun k=>(match Wv.int (k:Nat) with|.int i=>p i.toNat|_=>false))=(List.range n).filter p:=List.filter_congr fun k _=>by
   show p ((k:Nat):Int).toNat=_
   rw[Int.toNat_natCast]
  rw[e]
  refine congrArg (fun l=>some (Except.ok l,om)) (List.map_congr_left fun k _=>?_)
  show g ((k:Nat):Int).toNat=_
  rw[Int.toNat_natCast]
 ·intro w hw
  obtain ⟨k,hk,rfl⟩:=Ty hw
  show _=some (Except.ok (p ((k:Nat):Int).toNat),om)
  rw[Int.toNat_natCast]
  exact hc k hk
 ·intro w hw hp
  obtain ⟨k,hk,rfl⟩:=Ty hw
  have hp:p ((k:Nat):Int).toNat=true:=hp
  rw[Int.toNat_natCast]at hp
  show _=some (Except.ok (g ((k:Nat):Int).toNat),om)
  rw[Int.toNat_natCast]
  exact hf k hk hp
theorem IU {sl:Sl} {m a b p q r:Nat} {rows:Mx} (L:Lk m rows) (ha:a < m) (hb:b < m) (hp:sl[p]?=some (some (.lst (rows.map YJ)))) (hq:sl[q]?=some (some (.int a))) (hr:sl[r]?=some (some (.int b))):f2 kIx (f2 kIx (Za p) (Za q)) (Za r) sl om=some (.ok (.bl (X3 rows a b)),om) :=
 (Zs ((v2 hp hq).trans (YW (xs:=rows) rfl (by rw[L.len]; exact ha) [])) (Zb hr)).trans (YW (f:=Wv.bl) (xs:=rows.getD a []) rfl (by rw[L.row a ha]; exact hb) false)
theorem Ja {sl:Sl} {i:Nat} {ws:List Wv} (h:sl[i]?=some (some (.lst ws))):YG (Za i) sl om=some (.ok (!ws.isEmpty),om):=by
 unfold YG
 rw[Zo (Zb h)]
 rfl
theorem Jd {sl:Sl} {i:Nat} {l:List Nat} {fa:FE} {q w:Int} (h:sl[i]?=some (some (.lst (XD l)))) (hl:l.isEmpty=false) (ha:fa sl om=some (.ok (.int w),om)):f2 kIx (Za i) (f2 XR fa (fA YT (Ze (Za i) Zm))) sl om=some (.ok (.int (Tg l w)),om):=by
 have h0:0 < l.length:=by cases l with|nil=>cases hl|cons _ _=>simp
 have hlen:fA YT (Ze (Za i) Zm) sl om=some (.ok (.int l.length),om):=(ZG (Zd (Zb h) Zk)).trans ((Vo rfl).trans (by simp[XD]))
 have h1:0<=w % (l.length:Int):=Int.emod_nonneg _ (by omega)
 have h2:w % (l.length:Int) < l.length:=Int.emod_lt_of_pos _ (by omega)
 have hm:f2 XR fa (fA YT (Ze (Za i) Zm)) sl om=some (.ok (.int (((w % l.length).toNat:Nat):Int)),om):=(Zs ha hlen).trans (by rw[Int.toNat_of_nonneg h1]; simp[kIc,L2.ret,show 0 < l.length from h0])
 refine (Zs (Zb h) hm).trans ?_
 exact YW (f:=fun (k:Nat)=>Wv.int k) (xs:=l) (k:=(w % l.length).toNat) rfl (by omega) 0
theorem SM (w:Int) {k:Nat} {rows:Mx} {f:List (Option Int)} (L:Lk f.length rows) (hk:k < f.length) (hn:f.length<=60) (om:List Ob):g__law_order_by c [.int w,.int k,.lst (rows.map YJ),.lst (f.map Zv)] om=some (.ok (odW (WA w k rows f)),om):=by
 have hlim:=Z1
 have hlen:(f.map Zv).length<=lim:=by rw[List.length_map]; omega
 generalize hNear:Vw rows f.length k=near
 have hnl:near.length<=60:=by rw[← hNear]; exact Nat.le_trans (List.length_filter_le _ _) (by simpa using hn)
 have s1:ZM 4 (Yn Yk [1,2] (fun sl=>bnd ((fA YT (Ze (Za 3) Zm)) sl) Yl) (Vq c) (Vy c)) [some (.int w),some (.int k),some (.lst (rows.map YJ)),some (.lst (f.map Zv)),none,none,none] om=some (.ok (.nx,[some (.int w),some (.int k),some (.lst (rows.map YJ)),some (.lst (f.map Zv)),some (.lst (XD near)),none,none]),om):=by
  refine ZD (i:=4) (w:=.lst (XD near)) ?_
  refine (X7 (ws:=Xm (f.map Zv).length) (om1:=om) (Wy rfl rfl hlen) (by rw[WR]; exact hlen) (Uc (fun b=>X3 rows k b) (fun b=>.int (b:Nat)) (fun b hb=>YE (IU (p:=2) (q:=1) (r:=0) L hk (by rw[List.length_map]at hb; exact hb) rfl rfl rfl)) (fun b hb _=>Zb rfl))).trans ?_
  rw[List.length_map]
  show Yk (XD (Vw rows f.length k)) om=_
  rw[hNear]
  unfold Yk
  rw[if_pos (by simp[XD]; omega)]
  rfl
 have sk:=YW (k:=k) (w:=.lst (f.map Zv)) (om:=om) rfl hk none
 have t2:fB (f1 XT (f2 kIx (Za 3) (Za 1))) [some (.int w),some (.int k),some (.lst (rows.map YJ)),some (.lst (f.map Zv)),some (.lst (XD near)),none,none] om=some (.ok (at' f k).isNone,om):=ZP ((Xs ((v2 rfl rfl).trans sk)).trans (TD _ _))
 unfold WA
 rw[hNear]
 generalize (at' f k).isNone=b2 at t2 ⊢
 cases b2 with
 |true=>exact Zy ((Zg s1).trans (ZT ((Yo t2).trans (Zr Zp))))
 |false =>
  have t3:fOr (Ws (YG (Za 4))) (fB (f2 kEq (f2 XR (Za 0) (fC (.int 4))) (fC (.int 0)))) [some (.int w),some (.int k),some (.lst (rows.map YJ)),some (.lst (f.map Zv)),some (.lst (XD near)),none,none] om=some (.ok (near.isEmpty || decide (w % 4=0)),om):=by
   refine KP ((Wj (Ja rfl)).trans (by simp[XD])) fun _=>ML (Ud (Zb rfl) (by decide))
  show g__law_order_by c _ om=some (.ok (odW (bif near.isEmpty || decide (w % 4=0) then some .stand else _)),om)
  cases h3:(near.isEmpty || decide (w % 4=0)) with
  |true =>
   rw[h3]at t3
   exact Zy ((Zg s1).trans ((Zg (ZI t2)).trans (ZT ((Yo t3).trans (Zr ((ZG (Zd Zp Zk)).trans (Xx (by simp))))))))
  |false =>
   rw[h3]at t3
   have hne:near.isEmpty=false:=(Bool.or_eq_false_iff.mp h3).1
   have hmem:=Qp (w / 4) hne
   rw[← hNear]at hmem
   have hgl:=List.mem_range.mp (List.mem_filter.mp hmem).1
   rw[hNear]at hgl
   have s4:ZM 5 (f2 kIx (Za 4) (f2 XR (f2 T7 (Za 0) (fC (.int 4))) (fA YT (Ze (Za 4) Zm)))) [some (.int w),some (.int k),some (.lst (rows.map YJ)),some (.lst (f.map Zv)),some (.lst (XD near)),none,none] om=_:=ZD (i:=5) (Jd (q:=0) rfl hne (SJ (Zb rfl) (by decide)))
   generalize Tg near (w / 4)=g at s4 hgl ⊢
   have t5:fB (f2 kLt (f2 XR (Za 0) (fC (.int 4))) (fC (.int 3))) [some (.int w),some (.int k),some (.lst (rows.map YJ)),some (.lst (f.map Zv)),some (.lst (XD near)),some (.int g),none] om=some (.ok (decide (w % 4 < 3)),om):=ZP ((Zs (Ud (Zb rfl) (by decide)) Zp).trans (by simp[kI,L2.ret]))
   have pre:=fun {r:Option (Except Addr (Fl × Sl) × List Ob)} {S:FS} (h:S [some (.int w),some (.int k),some (.lst (rows.map YJ)),some (.lst (f.map Zv)),some (.lst (XD near)),some (.int g),none] om=r)=>(Zg s1).trans ((Zg (ZI (S1:=ZS (fC .non)) t2)).trans ((Zg (ZI (S1:=ZS (fA XA (Ze (fC (.str "stand")) Zm))) t3)).trans ((Zg s4).trans h)))
   show g__law_order_by c _ om=some (.ok (odW (bif decide (w % 4 < 3) then some (.move g) else _)),om)
   cases h5:decide (w % 4 < 3) with
   |true =>
    rw[h5]at t5
    exact Zy (pre (ZT ((Yo t5).trans (Zr ((ZG (Zd Zp (Zd (Zb rfl) Zk))).trans (Xx (by simp)))))))
   |false =>
    rw[h5]at t5
    generalize hAble:TW rows f f.length k g=able
    have hal:able.length<=60:=by rw[← hAble]; exact Nat.le_trans (List.length_filter_le _ _) (by simpa using hn)
    have s6:ZM 6 (Yn Yk [1,2,3,5] (fun sl=>bnd ((fA YT (Ze (Za 3) Zm)) sl) Yl) (Vs c) (Vz c)) [some (.int w),some (.int k),some (.lst (rows.map YJ)),some (.lst (f.map Zv)),some (.lst (XD near)),some (.int g),none] om=some (.ok (.nx,[some (.int w),some (.int k),some (.lst (rows.map YJ)),some (.lst (f.map Zv)),some (.lst (XD near)),some (.int g),some (.lst (XD able))]),om):=by
     refine ZD (i:=6) (w:=.lst (XD able)) ?_
     refine (X7 (ws:=Xm (f.map Zv).length) (om1:=om) (Wy rfl rfl hlen) (by rw[WR]; exact hlen) (Uc (KU rows f k g) (fun b=>.int (b:Nat)) (fun b hb=>?_) (fun b hb _=>Zb rfl))).trans ?_
     ·rw[List.length_map]at hb
      refine WJ (ZP ((v2 rfl rfl).trans (LG _ _ _))) fun _=>WJ (ZP ((Xs ((v2 (i:=3) (j:=0) rfl rfl).trans (YW (k:=b) rfl hb none))).trans (OD _ _))) fun _=>?_
      exact KP (ZP ((v2 rfl rfl).trans (HK _ _ _))) fun _=>YE (IU (p:=2) (q:=0) (r:=4) L hb hgl rfl rfl rfl)
     ·rw[List.length_map]
      show Yk (XD (TW rows f f.length k g)) om=_
      rw[hAble]
      unfold Yk
      rw[if_pos (by simp[XD]; omega)]
      rfl
    have t7:Ws (YG (Za 6)) [some (.int w),some (.int k),some (.lst (rows.map YJ)),some (.lst (f.map Zv)),some (.lst (XD near)),some (.int g),some (.lst (XD able))] om=some (.ok able.isEmpty,om):=(Wj (Ja rfl)).trans (by simp[XD])
    show g__law_order_by c _ om=some (.ok (odW (bif able.isEmpty then some .stand else _)),om)
    cases h7:able.isEmpty with
    |true =>
     rw[h7]at t7
     exact Zy (pre ((Zg (ZI t5)).trans ((Zg s6).trans (ZT ((Yo t7).trans (Zr ((ZG (Zd Zp Zk)).trans (Xx (by simp)))))))))
    |false =>
     rw[h7]at t7
     exact Zy (pre ((Zg (ZI t5)).trans ((Zg s6).trans ((Zg (ZI t7)).trans (Zr ((ZG (Zd Zp (Zd (Jd (q:=0) rfl h7 (SJ (Zb rfl) (by decide))) (Zd (Zb rfl) Zk)))).trans (Xx (by simp))))))))
end
open PySem L2
structure Givn (rows:Mx) (f:List (Option Int)) (told:List (Option Od)):Prop where
 lk:Lk f.length rows
 len:told.length=f.length
 few:f.length<=60
 ok:∀k,k < f.length->Hj rows f k (at' told k)
theorem VT {α:Type} {l:List (Option α)} {k:Nat} (h:¬ k < l.length):at' l k=none:=by
 unfold at'; rw[List.getD_eq_getElem?_getD,List.getElem?_eq_none (by omega)]; rfl
theorem Givn.okT {rows:Mx} {f:List (Option Int)} {told:List (Option Od)} (G:Givn rows f told):OkT told f:=by
 have dg:∀k g,X3 rows k g=true->g≠k:=fun k g h z=>by subst z; rw[G.lk.dg]at h; cases h
 have inr:∀k o,at' told k=some o->k < f.length:=fun k o e=>by
  by_cases h:k < told.length
  ·rw[← G.len]; exact h
  ·rw[VT h]at e; cases e
 refine ⟨G.len,by rw[G.len]; exact G.few,fun k hk=>?_,fun k g e=>?_,fun k h g e=>?_⟩
 ·have o:=G.ok k (G.len ▸ hk)
  match e:at' told k,o with
  |none,o=>have o:at' f k=none:=o; rw[o]; simp
  |some .stand,o=>exact ⟨fun _=>o,fun _=>rfl⟩
  |some (.move g),o=>exact ⟨fun _=>o.1,fun _=>rfl⟩
  |some (.help h g),o=>exact ⟨fun _=>o.1,fun _=>rfl⟩
 ·have o:=G.ok k (inr k _ e)
  rw[e]at o
  exact ⟨by rw[G.len]; exact o.2.1,dg k g o.2.2⟩
 ·have o:=G.ok k (inr k _ e)
  rw[e]at o
  exact ⟨by rw[G.len]; exact o.2.1,by rw[G.len]; exact o.2.2.1,o.2.2.2.1,dg k g o.2.2.2.2.2.1,o.2.2.2.2.1⟩
def XQ (off:Nat) (ns:List Int) (rows:Mx) (f:List (Option Int)):List (Option Od):=(List.range f.length).map fun k=>WA (ns.getD (off+k) 0) k rows f
theorem Jo {off:Nat} {ns:List Int} {rows:Mx} {f:List (Option Int)} {k:Nat} (h:k < f.length):at' (XQ off ns rows f) k=WA (ns.getD (off+k) 0) k rows f:=by
 unfold at' XQ
 rw[List.getD_eq_getElem?_getD,List.getElem?_map,List.getElem?_range h]
 rfl
theorem Pg (off:Nat) (ns:List Int) {rows:Mx} {f:List (Option Int)} (L:Lk f.length rows) (hf:f.length<=60):Givn rows f (XQ off ns rows f) :=
 ⟨L,by simp[XQ],hf,fun k hk=>by rw[Jo hk]; exact LK ..⟩
theorem Givn.stand {rows:Mx} {f:List (Option Int)} {told:List (Option Od)} (G:Givn rows f told) {k:Nat} (hk:k < f.length) (hs:(at' f k).isSome=true):Givn rows f (told.set k (some .stand)):=by
 refine ⟨G.lk,by rw[List.length_set]; exact G.len,G.few,fun i hi=>?_⟩
 unfold at'
 rw[List.getD_eq_getElem?_getD,List.getElem?_set]
 by_cases h:k=i
 ·subst h; rw[if_pos rfl,if_pos (by rw[G.len]; exact hk)]; exact hs
 ·rw[if_neg h,← List.getD_eq_getElem?_getD]; exact G.ok i hi
section
variable (c:CA) {om:List Ob}
end
end MP
namespace MP
noncomputable section
open PySem L2
def QB (c:CA):FS :=
 (ZE (Ui c.Map "size" (Za 1) (Za 0))
  (Ui c.Map "links" (fun _=>newO (.dt [])) (Za 0)))
def WF (c:CA):List Wv->Mw Wv:=Ym 2 (QB c)
def Sa (c:CA):FS :=
 (sIf (fOr (fB (f2 kLt (Za 1) (fC (.int 0)))) (fB (f2 kGe (Za 1) (f1 (Yw c.Map "size") (Za 0))))) (Wu c.NoPlace (Sy (Za 1) SZ)) Yr)
def ZQ (c:CA):List Wv->Mw Wv:=Ym 2 (Sa c)
def LZ (c:CA):FS :=
 (ZE (Z8 (ZB c.Map "need_place" 2 (ZQ c) (Za 0) (Ze (Za 1) Zm)))
  (ZE (Z8 (ZB c.Map "need_place" 2 (ZQ c) (Za 0) (Ze (Za 2) Zm)))
  (ZE (sIf (fB (f2 kEq (Za 1) (Za 2))) (Wu c.OutOfReach (Sy (Za 1) SZ)) Yr)
  (ZE (Y2 (fC (.bl true)) (f1 (Yw c.Map "links") (Za 0)) (fA XA (Ze (Za 1) (Ze (Za 2) Zm))))
  (Y2 (fC (.bl true)) (f1 (Yw c.Map "links") (Za 0)) (fA XA (Ze (Za 2) (Ze (Za 1) Zm))))))))
def U5 (c:CA):List Wv->Mw Wv:=Ym 3 (LZ c)
def OZ (c:CA):FS :=
 (ZE (Z8 (ZB c.Map "need_place" 2 (ZQ c) (Za 0) (Ze (Za 1) Zm)))
  (ZE (Z8 (ZB c.Map "need_place" 2 (ZQ c) (Za 0) (Ze (Za 2) Zm)))
  (ZS (f2 (TX false) (fA XA (Ze (Za 1) (Ze (Za 2) Zm))) (f1 (Yw c.Map "links") (Za 0))))))
def VF (c:CA):List Wv->Mw Wv:=Ym 3 (OZ c)
def TR (c:CA):FS :=
 (ZE (Ui c.Board "chart" (Za 1) (Za 0))
  (Ui c.Board "units" (fun _=>newO (.dk [])) (Za 0)))
def XW (c:CA):List Wv->Mw Wv:=Ym 2 (TR c)
def Nk (c:CA):FS :=
 (ZE (Z8 (ZB c.Map "need_place" 2 (ZQ c) (f1 (Yw c.Board "chart") (Za 0)) (Ze (Za 1) Zm)))
  (ZE (sIf (fOr (fB (f2 kLt (Za 2) (fC (.int 0)))) (fB (f2 kGt (Za 2) (fC (.int 7))))) (Wu c.NoSide (Sy (Za 2) SZ)) Yr)
  (ZE (sIf (fB (f2 (TX false) (Za 1) (f1 (Yw c.Board "units") (Za 0)))) (Wu c.Crowded (Sy (Za 1) SZ)) Yr)
  (Y2 (Za 2) (f1 (Yw c.Board "units") (Za 0)) (Za 1)))))
def VD (c:CA):List Wv->Mw Wv:=Ym 3 (Nk c)
def SX (c:CA):FS :=
 (ZE (Z8 (ZB c.Map "need_place" 2 (ZQ c) (f1 (Yw c.Board "chart") (Za 0)) (Ze (Za 1) Zm)))
  (ZS (TM (f1 (Yw c.Board "units") (Za 0)) (Za 1))))
def ZR (c:CA):List Wv->Mw Wv:=Ym 2 (SX c)
def T1 (c:CA):FS :=
 (sIf (fB (f1 XT (ZB c.Board "side_at" 2 (ZR c) (Za 0) (Ze (Za 1) Zm)))) (Wu c.NoUnit (Sy (Za 1) SZ)) Yr)
def Yu (c:CA):List Wv->Mw Wv:=Ym 2 (T1 c)
def OQ (c:CA):FS :=
 (ZS (VR Yk (f1 (Yw c.Board "units") (Za 0))))
def Wx (c:CA):List Wv->Mw Wv:=Ym 1 (OQ c)
def W6 (c:CA):FS :=
 (sIf (YG (f2 kIx (f2 kIx (Za 1) (Za 3)) (Za 4))) (Z8 (ZB c.Map "link" 3 (U5 c) (Za 2) (Ze (f2 Xy (f2 kIx (Za 0) (fC (.int 1))) (Za 3)) (Ze (f2 Xy (f2 kIx (Za 0) (fC (.int 1))) (Za 4)) Zm)))) Yr)
def US (c:CA):FS :=
 (XH (fun sl=>bnd ((Za 3) sl) Yl) (tgN 4) (W6 c))
def O8 (c:CA):FS :=
 (ZE (ZM 2 (fA (WT c.Map 2 (WF c)) (Ze (f2 kIx (Za 0) (fC (.int 2))) Zm)))
  (ZE (XH (fun sl=>bnd ((f2 kIx (Za 0) (fC (.int 0))) sl) Yl) (tgN 3) (US c))
  (ZS (Za 2))))
def g__law_chart (c:CA):List Wv->Mw Wv:=Ym 5 (O8 c)
def UU (c:CA):FS :=
 (sIf (fB (f1 Xv (f2 kIx (Za 2) (Za 4)))) (Z8 (ZB c.Board "post" 3 (VD c) (Za 3) (Ze (f2 Xy (f2 kIx (Za 0) (fC (.int 1))) (Za 4)) (Ze (f2 kIx (Za 2) (Za 4)) Zm)))) Yr)
def OU (c:CA):FS :=
 (ZE (ZM 3 (fA (WT c.Board 2 (XW c)) (Ze (fA (kN 2 (g__law_chart c)) (Ze (Za 0) (Ze (Za 1) Zm))) Zm)))
  (ZE (XH (fun sl=>bnd ((f2 kIx (Za 0) (fC (.int 0))) sl) Yl) (tgN 4) (UU c))
  (ZS (Za 3))))
def g__law_board (c:CA):List Wv->Mw Wv:=Ym 5 (OU c)
end
open PySem L2
def pk (a b:Int):List Key:=[.inl a,.inl b]
theorem Nz {a b x y:Int}:pk a b=pk x y ↔ a=x∧b=y:=by
 unfold pk
 constructor
 ·intro h; injection h with h1 h2; injection h2 with h2 _; exact ⟨Sum.inl.inj h1,Sum.inl.inj h2⟩
 ·rintro ⟨rfl,rfl⟩; rfl
theorem Nu {κ:Type} [DecidableEq κ] (kvs:List (κ × Wv)) (k k':κ) (v:Wv):(kvs.map (fun kv=>if kv.1=k then (kv.1,v) else kv)).find? (fun kv=>decide (kv.1=k'))=(kvs.find? fun kv=>decide (kv.1=k')).map (fun kv=>if kv.1=k then (kv.1,v) else kv):=by
 induction kvs with
 |nil=>rfl
 |cons p kvs ih =>
  rw[List.map_cons,List.find?_cons,List.find?_cons]
  have e:(if p.1=k then (p.1,v) else p).1=p.1:=by split <;> rfl
  rw[e]
  cases h:decide (p.1=k') with
  |true=>rfl
  |false=>exact ih
theorem MS {κ:Type} [DecidableEq κ] (kvs:List (κ × Wv)) (k k':κ) (v:Wv):Vg (WB kvs k v) k'=if k'=k then some v else Vg kvs k':=by
 unfold WB
 by_cases ha:(kvs.any fun kv=>decide (kv.1=k))=true
 ·rw[if_pos ha]
  unfold Vg
  rw[Nu]
  by_cases h:k'=k
  ·subst h
   rw[if_pos rfl]
   obtain ⟨p,hp,e⟩:=List.any_eq_true.mp ha
   cases hf:kvs.find? fun kv=>decide (kv.1=k') with
   |none=>exact absurd e (List.find?_eq_none.mp hf p hp)
   |some q =>
    have hq:=List.find?_some hf
    have hq:q.1=k':=of_decide_eq_true hq
    simp[hq]
  ·rw[if_neg h]
   cases hf:kvs.find? fun kv=>decide (kv.1=k') with
   |none=>rfl
   |some q =>
    have hq:=List.find?_some hf
    have hq:q.1=k':=of_decide_eq_true hq
    simp[show ¬ q.1=k from fun z=>h (hq ▸ z)]
 ·rw[if_neg ha]
  unfold Vg
  rw[List.find?_append]
  have hn:(kvs.find? fun kv=>decide (kv.1=k))=none:=List.find?_eq_none.mpr fun p hp z=>ha (List.any_eq_true.mpr ⟨p,hp,z⟩)
  by_cases h:k'=k
  ·subst h
   rw[if_pos rfl,hn]
   simp
  ·rw[if_neg h]
   cases hf:kvs.find? fun kv=>decide (kv.1=k') with
   |none=>simp[show ¬ k=k' from fun z=>h z.symm]
   |some q=>rfl
theorem Qr {κ:Type} [DecidableEq κ] (kvs:List (κ × Wv)) (k:κ) (v:Wv):(WB kvs k v).length<=kvs.length+1:=by
 unfold WB
 split
 ·simp
 ·simp
abbrev X5 (c:CA) (size:Int) (hl:Nat):Ob:=.ins c.Map [("size",.int size),("links",.o hl)]
abbrev Wh (c:CA) (hm hu:Nat):Ob:=.ins c.Board [("chart",.o hm),("units",.o hu)]
section
variable (c:CA) {om:List Ob} {h hl:Nat} {size:Int}
theorem X8 {C:Addr} {n:Str} {fs:List (Str × Wv)} {w:Wv} {sl:Sl} {i:Nat} (hv:sl[i]?=some (some (.o h))) (hm:om[h]?=some (.ins C fs)) (hw:fs.lookup n=some w):f1 (Yw C n) (Za i) sl om=some (.ok w,om):=by
 refine (Xs (Zb hv)).trans ?_
 simp[Yw,W4,hm,hw]
theorem Iv (size:Int) (hl:Nat):List.lookup (Str.ofString "size") [(Str.ofString "size",Wv.int size),(Str.ofString "links",Wv.o hl)]=some (.int size):=by simp[List.lookup_cons,Xa]
theorem Qz (size:Int) (hl:Nat):List.lookup (Str.ofString "links") [(Str.ofString "size",Wv.int size),(Str.ofString "links",Wv.o hl)]=some (.o hl):=by simp[List.lookup_cons,Xa]
theorem Wg (m:String) (size:Int) (hl:Nat) (h1:m≠"size") (h2:m≠"links"):List.lookup (Str.ofString m) [(Str.ofString "size",Wv.int size),(Str.ofString "links",Wv.o hl)]=none:=by simp[List.lookup_cons,Xa,h1,h2]
theorem Te (hm hu:Nat):List.lookup (Str.ofString "chart") [(Str.ofString "chart",Wv.o hm),(Str.ofString "units",Wv.o hu)]=some (.o hm):=by simp[List.lookup_cons,Xa]
theorem VH (hm hu:Nat):List.lookup (Str.ofString "units") [(Str.ofString "chart",Wv.o hm),(Str.ofString "units",Wv.o hu)]=some (.o hu):=by simp[List.lookup_cons,Xa]
theorem Y1 (m:String) (hm hu:Nat) (h1:m≠"chart") (h2:m≠"units"):List.lookup (Str.ofString m) [(Str.ofString "chart",Wv.o hm),(Str.ofString "units",Wv.o hu)]=none:=by simp[List.lookup_cons,Xa,h1,h2]
theorem ZK {C:Addr} {fs:List (Str × Wv)} (hm:om[h]?=some (.ins C fs)):W4 om (.o h)=some (C,fs):=by simp[W4,hm]
theorem TN (hm:om[h]?=some (X5 c size hl)) {a:Int} (h0:0<=a) (h1:a < size):ZQ c [.o h,.int a] om=some (.ok .non,om):=by
 have t:fOr (fB (f2 kLt (Za 1) (fC (.int 0)))) (fB (f2 kGe (Za 1) (f1 (Yw c.Map "size") (Za 0)))) [some (.o h),some (.int a)] om=some (.ok false,om):=by
  refine (WV (ZP ((Zs (Zb rfl) Zp).trans (show kLt (.int a) (.int 0) om=some (.ok (.bl false),om) by simp[kI,L2.ret,show ¬ a < 0 by omega])))).trans ?_
  exact ZP ((Zs (Zb rfl) (X8 rfl hm (Iv ..))).trans (by simp[kI,L2.ret]; omega))
 exact Va (ZI t)
end
open PySem L2
section
variable (c:CA) {om:List Ob} {h hl:Nat} {size:Int} {kvs:List (List Key × Wv)}
def Ss (kvs:List (List Key × Wv)) (a b:Int):List (List Key × Wv):=WB (WB kvs (pk a b) (.bl true)) (pk b a) (.bl true)
def T3 (kvs:List (List Key × Wv)) (a b:Int):Bool:=(Vg kvs (pk a b)).isSome
theorem JH (kvs:List (List Key × Wv)) (a b x y:Int):T3 (Ss kvs a b) x y=(decide (x=a∧y=b) || (decide (x=b∧y=a) || T3 kvs x y)):=by
 unfold T3 Ss
 rw[MS,MS]
 by_cases h1:pk x y=pk b a
 ·rw[if_pos h1]; simp[Nz.mp h1]
 ·rw[if_neg h1]
  have h1':¬ (x=b∧y=a):=fun z=>h1 (Nz.mpr z)
  by_cases h2:pk x y=pk a b
  ·rw[if_pos h2]; simp[Nz.mp h2]
  ·rw[if_neg h2]
   have h2':¬ (x=a∧y=b):=fun z=>h2 (Nz.mpr z)
   rw[decide_eq_false h1',decide_eq_false h2']; simp
theorem LM (kvs:List (List Key × Wv)) (a b:Int):(Ss kvs a b).length<=kvs.length+2:=by
 unfold Ss
 have h1:=Qr kvs (pk a b) (.bl true)
 have h2:=Qr (WB kvs (pk a b) (.bl true)) (pk b a) (.bl true)
 omega
theorem Hv {sl:Sl} {i j k:Nat} {x y:Int} (hh:h≠hl) (hv:sl[i]?=some (some (.o h))) (hm:om[h]?=some (X5 c size hl)) (hk:om[hl]?=some (.dt kvs)) (hx:sl[j]?=some (some (.int x))) (hy:sl[k]?=some (some (.int y))) (hlen:kvs.length < lim) :
    Y2 (fC (.bl true)) (f1 (Yw c.Map "links") (Za i)) (fA XA (Ze (Za j) (Ze (Za k) Zm))) sl om=some (.ok (.nx,sl),om.set hl (.dt (WB kvs (pk x y) (.bl true)))):=by
 unfold Y2
 rw[Zo Zp,Zo (X8 hv hm (Qz ..)),Zo ((ZG (Zd (Zb hx) (Zd (Zb hy) Zk))).trans (Xx (by simp)))]
 refine (Zo (a:=()) (om1:=om.set hl (.dt (WB kvs (pk x y) (.bl true)))) ?_).trans rfl
 simp[UM,Sv,hk,WK,YR,hlen,pk]
theorem E3 (hh:h≠hl) (hm:om[h]?=some (X5 c size hl)) (hk:om[hl]?=some (.dt kvs)) {a b:Int} (ha:0<=a∧a < size) (hb:0<=b∧b < size) (hne:a≠b) (hlen:kvs.length+1 < lim) :
    U5 c [.o h,.int a,.int b] om=some (.ok .non,om.set hl (.dt (Ss kvs a b))):=by
 have n1:Z8 (ZB c.Map "need_place" 2 (ZQ c) (Za 0) (Ze (Za 1) Zm)) [some (.o h),some (.int a),some (.int b)] om=_:=Yd ((ZJ (Zb rfl) (ZK hm) (Wg _ _ _ (by decide) (by decide)) (Zd (Zb rfl) Zk) rfl).trans (TN c hm ha.1 ha.2))
 have n2:Z8 (ZB c.Map "need_place" 2 (ZQ c) (Za 0) (Ze (Za 2) Zm)) [some (.o h),some (.int a),some (.int b)] om=_:=Yd ((ZJ (Zb rfl) (ZK hm) (Wg _ _ _ (by decide) (by decide)) (Zd (Zb rfl) Zk) rfl).trans (TN c hm hb.1 hb.2))
 have t:fB (f2 kEq (Za 1) (Za 2)) [some (.o h),some (.int a),some (.int b)] om=some (.ok false,om):=ZP ((v2 rfl rfl).trans ((Xw _ _ _).trans (by rw[decide_eq_false hne])))
 have hlt:hl < om.length:=(List.getElem?_eq_some_iff.mp hk).1
 have p1:=Hv c (sl:=[some (.o h),some (.int a),some (.int b)]) (i:=0) (j:=1) (k:=2) hh rfl hm hk rfl rfl (by omega)
 have hm2:(om.set hl (.dt (WB kvs (pk a b) (.bl true))))[h]?=some (X5 c size hl):=by rw[List.getElem?_set_ne (Ne.symm hh)]; exact hm
 have hk2:(om.set hl (.dt (WB kvs (pk a b) (.bl true))))[hl]?=some (.dt (WB kvs (pk a b) (.bl true))):=by rw[List.getElem?_set_self hlt]
 have p2:=Hv c (sl:=[some (.o h),some (.int a),some (.int b)]) (i:=0) (j:=2) (k:=1) hh rfl hm2 hk2 rfl rfl (by have:=Qr kvs (pk a b) (.bl true); omega)
 rw[List.set_set]at p2
 exact Va ((Zg n1).trans ((Zg n2).trans ((Zg (ZI t)).trans ((Zg p1).trans p2))))
theorem JK (om:List Ob):WT c.Map 2 (WF c) [.int size] om=some (.ok (.o om.length),om++[X5 c size (om.length+1),.dt []]):=by
 simp[WF,QB,Ym,Ww,ZE,Kp,ZM,Z8,ZS,Px,sIf,Yr,Za,fC,f1,f2,fB,kB,fA,Ze,Zm,YT,Yq,bnd,L2.ret,kI,kIc,kIx,Ma,X1,fOr,Ws,Wq,EK,VV,XT,Xv,UE,UJ,To,UI,UD,Ra,Qo,RD,NV,Kd.isi,YG,L6,SQ,Yw,W4,ZB,MT,kN,chk,WT,Ui,Q4,Ts,newO,TX,X4,YR,Y2,UM,Sv,SU,TM,U9,isD,EI,G9,Wu,Sy,SZ,Gz,L2.On,XA,Yk,YI,MJ,RH,kSl,fSl,FC,Jb,MW,WM,Tx,Xj,Yn,XH,Yb,Xc,tgN,NC,VR,VB,ZL,EM,Ea,kUn,XE,EV,Xn,VI,Xa,L2.WO,L2.Xw,List.lookup_cons,List.lookup_nil]
theorem M0 (om:List Ob) (hm:Nat):WT c.Board 2 (XW c) [.o hm] om=some (.ok (.o om.length),om++[Wh c hm (om.length+1),.dk []]):=by
 simp[XW,TR,Ym,Ww,ZE,Kp,ZM,Z8,ZS,Px,sIf,Yr,Za,fC,f1,f2,fB,kB,fA,Ze,Zm,YT,Yq,bnd,L2.ret,kI,kIc,kIx,Ma,X1,fOr,Ws,Wq,EK,VV,XT,Xv,UE,UJ,To,UI,UD,Ra,Qo,RD,NV,Kd.isi,YG,L6,SQ,Yw,W4,ZB,MT,kN,chk,WT,Ui,Q4,Ts,newO,TX,X4,YR,Y2,UM,Sv,SU,TM,U9,isD,EI,G9,Wu,Sy,SZ,Gz,L2.On,XA,Yk,YI,MJ,RH,kSl,fSl,FC,Jb,MW,WM,Tx,Xj,Yn,XH,Yb,Xc,tgN,NC,VR,VB,ZL,EM,Ea,kUn,XE,EV,Xn,VI,Xa,L2.WO,L2.Xw,List.lookup_cons,List.lookup_nil]
end
open PySem L2
abbrev Yg (many off size:Nat):Wv:=.tup [.int many,.int off,.int size]
def dn (a b i j:Nat):Prop:=(j < i∧(i < a∨(i=a∧j < b)))∨(i < j∧(j < a∨(j=a∧i < b)))
structure Laid (rows:Mx) (off a b:Nat) (kvs:List (List Key × Wv)):Prop where
 has:∀x y:Int,T3 kvs x y=true ↔ ∃i j:Nat,x=off+i∧y=off+j∧X3 rows i j=true∧dn a b i j
 few:kvs.length<=20 * a+2 * b
theorem Laid.zero (rows:Mx) (off:Nat):Laid rows off 0 0 []:=by
 refine ⟨fun x y=>Iff.intro (fun h=>(by cases h)) (fun h=>?_),by simp⟩
 obtain ⟨i,j,_,_,_,h⟩:=h
 unfold dn at h; omega
theorem Laid.on {rows:Mx} {off a b m:Nat} {kvs:List (List Key × Wv)} (L:Laid rows off a b kvs) (lk:Lk m rows) (h:X3 rows a b=true) (hb:b < a):Laid rows off a (b+1) (Ss kvs ((off:Int)+a) ((off:Int)+b)):=by
 refine ⟨fun x y=>?_,by have:=LM kvs ((off:Int)+a) ((off:Int)+b); have:=L.few; omega⟩
 rw[JH,Bool.or_eq_true,Bool.or_eq_true,decide_eq_true_iff,decide_eq_true_iff,L.has]
 constructor
 ·rintro (⟨h1,h2⟩|⟨h1,h2⟩|⟨i,j,h1,h2,h3,h4⟩)
  ·exact ⟨a,b,h1,h2,h,by unfold dn; omega⟩
  ·exact ⟨b,a,h1,h2,(lk.sym b a).trans h,by unfold dn; omega⟩
  ·exact ⟨i,j,h1,h2,h3,by unfold dn at *; omega⟩
 ·rintro ⟨i,j,h1,h2,h3,h4⟩
  by_cases e1:i=a∧j=b
  ·exact .inl ⟨by rw[h1,e1.1],by rw[h2,e1.2]⟩
  ·by_cases e2:i=b∧j=a
   ·exact .inr (.inl ⟨by rw[h1,e2.1],by rw[h2,e2.2]⟩)
   ·exact .inr (.inr ⟨i,j,h1,h2,h3,by unfold dn at *; omega⟩)
theorem Laid.off' {rows:Mx} {off a b m:Nat} {kvs:List (List Key × Wv)} (L:Laid rows off a b kvs) (lk:Lk m rows) (h:X3 rows a b=false) (hb:b < a):Laid rows off a (b+1) kvs:=by
 refine ⟨fun x y=>?_,by have:=L.few; omega⟩
 rw[L.has]
 constructor
 ·rintro ⟨i,j,h1,h2,h3,h4⟩
  exact ⟨i,j,h1,h2,h3,by unfold dn at *; omega⟩
 ·rintro ⟨i,j,h1,h2,h3,h4⟩
  refine ⟨i,j,h1,h2,h3,?_⟩
  by_cases e1:i=a∧j=b
  ·rw[e1.1,e1.2,h]at h3; cases h3
  ·by_cases e2:i=b∧j=a
   ·rw[e2.1,e2.2,lk.sym,h]at h3; cases h3
   ·unfold dn at *; omega
theorem Laid.next {rows:Mx} {off a:Nat} {kvs:List (List Key × Wv)} (L:Laid rows off a a kvs) (ha:a<=7):Laid rows off (a+1) 0 kvs:=by
 refine ⟨fun x y=>?_,by have:=L.few; omega⟩
 rw[L.has]
 constructor
 ·rintro ⟨i,j,h1,h2,h3,h4⟩
  exact ⟨i,j,h1,h2,h3,by unfold dn at *; omega⟩
 ·rintro ⟨i,j,h1,h2,h3,h4⟩
  exact ⟨i,j,h1,h2,h3,by unfold dn at *; omega⟩
theorem Lk.inr {m:Nat} {rows:Mx} (L:Lk m rows) {i j:Nat} (h:X3 rows i j=true):i < m∧j < m∧i≠j:=by
 have hi:i < m:=by
  by_cases hi:i < m
  ·exact hi
  ·unfold X3 at h
   rw[List.getD_eq_getElem?_getD (l:=rows),List.getElem?_eq_none (by rw[L.len]; omega)]at h
   simp at h
 refine ⟨hi,?_,fun z=>by subst z; rw[L.dg]at h; cases h⟩
 by_cases hj:j < m
 ·exact hj
 ·unfold X3 at h
  rw[List.getD_eq_getElem?_getD,List.getElem?_eq_none (by rw[L.row i hi]; omega)]at h
  cases h
def Pr (rows:Mx) (off:Nat) (kvs:List (List Key × Wv)):Prop:=∀x y:Int,T3 kvs x y=true ↔ ∃i j:Nat,x=off+i∧y=off+j∧X3 rows i j=true
theorem Laid.done {rows:Mx} {off m:Nat} {kvs:List (List Key × Wv)} (L:Laid rows off m 0 kvs) (lk:Lk m rows):Pr rows off kvs:=fun x y=>by
 rw[L.has]
 constructor
 ·rintro ⟨i,j,h1,h2,h3,_⟩; exact ⟨i,j,h1,h2,h3⟩
 ·rintro ⟨i,j,h1,h2,h3⟩
  have:=lk.inr h3
  exact ⟨i,j,h1,h2,h3,by unfold dn; omega⟩
section
variable (c:CA) {om:List Ob} {many off size:Nat} {rows:Mx}
abbrev RM (om:List Ob) (size:Nat) (kvs:List (List Key × Wv)):List Ob:=om++[X5 c size (om.length+1),.dt kvs]
abbrev NE (n many off size:Nat) (rows:Mx) (x3 x4:Option Wv):Sl:=[some (Yg many off size),some (.lst (rows.map YJ)),some (.o n),x3,x4]
theorem GC (kvs kvs':List (List Key × Wv)):(RM c om size kvs).set (om.length+1) (.dt kvs')=RM c om size kvs':=by
 unfold RM
 rw[List.set_append_right _ _ (by omega),show om.length+1 - om.length=1 by omega]
 rfl
theorem Fz (lk:Lk many rows) (h1:off+many<=size) (hm:many<=7) {a b:Nat} (ha:a < many) (hb:b < a) {kvs:List (List Key × Wv)} (L:Laid rows off a b kvs) :
    ∃kvs',W6 c (NE om.length many off size rows (some (.int a)) (some (.int b))) (RM c om size kvs)=some (.ok (.nx,NE om.length many off size rows (some (.int a)) (some (.int b))),RM c om size kvs')∧Laid rows off a (b+1) kvs':=by
 have hlim:=Z1
 have t:YG (f2 kIx (f2 kIx (Za 1) (Za 3)) (Za 4)) (NE om.length many off size rows (some (.int a)) (some (.int b))) (RM c om size kvs)=_:=YE (IU (p:=1) (q:=3) (r:=4) lk ha (by omega) rfl rfl rfl)
 cases hv:X3 rows a b with
 |false =>
  rw[hv]at t
  exact ⟨kvs,ZI t,L.off' lk hv hb⟩
 |true =>
  rw[hv]at t
  refine ⟨_,(Yo t).trans (Yd (w:=.non) ((ZJ (Zb rfl) (ZK (fs:=[("size",.int (size:Int)),("links",.o (om.length+1))]) (by simp)) (Wg _ _ _ (by decide) (by decide)) (Zd ((Zs ((Zs (Zb rfl) Zp).trans (ZU (k:=1) (v:=.int off) rfl rfl)) (Zb rfl)).trans rfl) (Zd ((Zs ((Zs (Zb rfl) Zp).trans (ZU (k:=1) (v:=.int off) rfl rfl)) (Zb rfl)).trans rfl) Zk)) rfl).trans ((E3 c (h:=om.length) (hl:=om.length+1) (size:=size) (kvs:=kvs) (by omega) (by simp) (by simp) ⟨by omega,by omega⟩ ⟨by omega,by omega⟩ (by omega) (by have:=L.few; omega)).trans ?_))),L.on lk hv hb⟩
  rw[GC]
theorem Hl (lk:Lk many rows) (h1:off+many<=size) (hm:many<=7) (om:List Ob):∃kvs,g__law_chart c [Yg many off size,.lst (rows.map YJ)] om=some (.ok (.o om.length),om++[X5 c size (om.length+1),.dt kvs])∧Pr rows off kvs∧kvs.length<=140:=by
 have hlim:=Z1
 have s1:ZM 2 (fA (WT c.Map 2 (WF c)) (Ze (f2 kIx (Za 0) (fC (.int 2))) Zm)) [some (Yg many off size),some (.lst (rows.map YJ)),none,none,none] om=some (.ok (.nx,NE om.length many off size rows none none),RM c om size []):=ZD (i:=2) ((ZG (Zd ((Zs (Zb rfl) Zp).trans (ZU (k:=2) (v:=.int size) rfl rfl)) Zk)).trans (JK c om))
 obtain ⟨sl',om',hf,kvs,x3,x4,rfl,rfl,L⟩:=WE (T:=tgN 3) (S:=US c) (n:=many) (fun a sl om'=>∃kvs x3 x4,sl=NE om.length many off size rows x3 x4∧om'=RM c om size kvs∧Laid rows off a 0 kvs)
  (sl:=NE om.length many off size rows none none) (om:=RM c om size []) (fun a ha sl om' ⟨kvs,x3,x4,e1,e2,L⟩=>by
   subst e1 e2
   obtain ⟨sl2,om2,hf2,kvs2,y4,rfl,rfl,L2⟩:=WE (T:=tgN 4) (S:=W6 c) (n:=a) (fun b sl om'=>∃kvs y4,sl=NE om.length many off size rows (some (.int a)) y4∧om'=RM c om size kvs∧Laid rows off a b kvs)
    (sl:=NE om.length many off size rows (some (.int a)) x4) (om:=RM c om size kvs) (fun b hb sl om' ⟨kvs,y4,e1,e2,L⟩=>by
     subst e1 e2
     obtain ⟨kvs',e,L'⟩:=Fz c (om:=om) lk h1 hm ha hb L
     exact ⟨_,.nx,_,_,rfl,e,.inl rfl,kvs',_,rfl,rfl,L'⟩) ⟨kvs,x4,rfl,rfl,L⟩
   exact ⟨_,.nx,_,_,rfl,Yx (sl1:=[]) (TU (i:=3) (m:=a) rfl (by omega) _) hf2,.inl rfl,kvs2,_,_,rfl,rfl,L2.next (by omega)⟩) ⟨[],none,none,rfl,rfl,Laid.zero rows off⟩
 have e4:=Yx (sl1:=[]) (fi:=fun sl=>bnd ((f2 kIx (Za 0) (fC (.int 0))) sl) Yl) (sl:=NE om.length many off size rows none none) ((Zo ((Zs (Zb rfl) Zp).trans (ZU (k:=0) (v:=.int many) rfl rfl))).trans (Xc _ _ (by omega))) hf
 exact ⟨kvs,Zy ((Zg s1).trans ((Zg e4).trans (Zr (Zb rfl)))),L.done lk,by have:=L.few; omega⟩
end
open PySem L2
def Xl (off:Nat) (f:List (Option Int)) (n:Nat):List (Int × Int):=(List.range n).filterMap fun k=>(at' f k).map fun s=>((off:Int)+k,s)
theorem Pl (off:Nat) (f:List (Option Int)) (n:Nat):Xl off f (n+1)=Xl off f n++(match at' f n with|some s=>[((off:Int)+n,s)]|none=>[]):=by
 unfold Xl
 rw[List.range_succ,List.filterMap_append]
 congr 1
 rw[List.filterMap_cons,List.filterMap_nil]
 cases at' f n <;> rfl
theorem N4 (off:Nat) (f:List (Option Int)) (n:Nat):(Xl off f n).length<=n:=by
 unfold Xl
 exact Nat.le_trans (List.length_filterMap_le _ _) (by simp)
theorem PD (off:Nat) (f:List (Option Int)) (n:Nat) (x:Int):(Xl off f n).lookup x=if 0<=x - off∧x - off < n then at' f (x - off).toNat else none:=by
 induction n with
 |zero=>rw[if_neg (by omega)]; rfl
 |succ n ih =>
  rw[Pl,List.lookup_append,ih]
  by_cases h:0<=x - off∧x - off < n
  ·rw[if_pos h,if_pos (by omega)]
   cases ha:at' f (x - off).toNat with
   |some s=>rfl
   |none =>
    cases hb:at' f n with
    |none=>rfl
    |some s =>
     have:(x == (off:Int)+n)=false:=beq_eq_false_iff_ne.mpr (by omega)
     simp[List.lookup_cons,this]
  ·rw[if_neg h]
   by_cases h2:x=(off:Int)+n
   ·rw[if_pos (by omega),show (x - off).toNat=n by omega]
    cases hb:at' f n with
    |none=>rfl
    |some s=>simp[List.lookup_cons,h2]
   ·rw[if_neg (by omega)]
    cases hb:at' f n with
    |none=>rfl
    |some s =>
     have:(x == (off:Int)+n)=false:=beq_eq_false_iff_ne.mpr h2
     simp[List.lookup_cons,this]
section
variable (c:CA) {om:List Ob} {hb hm hu hl:Nat} {size:Int} {us:List (Int × Int)}
theorem K0 {C:Addr} {n:Str} {fs:List (Str × Wv)} {w:Wv} {sl:Sl} {fe:FE} {h:Nat} (hv:fe sl om=some (.ok (.o h),om)) (hm:om[h]?=some (.ins C fs)) (hw:fs.lookup n=some w):f1 (Yw C n) fe sl om=some (.ok w,om):=by
 refine (Xs hv).trans ?_
 simp[Yw,W4,hm,hw]
theorem Mq (h1:om[hb]?=some (Wh c hm hu)) (h2:om[hm]?=some (X5 c size hl)) {a:Int} (ha:0<=a∧a < size) {sl:Sl} (s0:sl[0]?=some (some (.o hb))) (s1:sl[1]?=some (some (.int a))):Z8 (ZB c.Map "need_place" 2 (ZQ c) (f1 (Yw c.Board "chart") (Za 0)) (Ze (Za 1) Zm)) sl om=some (.ok (.nx,sl),om) :=
 Yd ((ZJ (X8 s0 h1 (Te ..)) (ZK h2) (Wg _ _ _ (by decide) (by decide)) (Zd (Zb s1) Zk) rfl).trans (TN c h2 ha.1 ha.2))
theorem FU (h1:om[hb]?=some (Wh c hm hu)) (h2:om[hm]?=some (X5 c size hl)) (h3:om[hu]?=some (.dk (Xu us))) {a s:Int} (ha:0<=a∧a < size) (hs:0<=s∧s<=7) (hn:us.lookup a=none) (hlen:us.length < lim) :
    VD c [.o hb,.int a,.int s] om=some (.ok .non,om.set hu (.dk (Xu (us++[(a,s)])))):=by
 have n1:=Mq c (sl:=[some (.o hb),some (.int a),some (.int s)]) h1 h2 ha rfl rfl
 have t1:fOr (fB (f2 kLt (Za 2) (fC (.int 0)))) (fB (f2 kGt (Za 2) (fC (.int 7)))) [some (.o hb),some (.int a),some (.int s)] om=some (.ok false,om):=by
  refine (WV (ZP ((Zs (Zb rfl) Zp).trans (show kLt (.int s) (.int 0) om=some (.ok (.bl false),om) by simp[kI,L2.ret]; omega)))).trans ?_
  exact ZP ((Zs (Zb rfl) Zp).trans (by simp[kI,L2.ret]; omega))
 have t2:fB (f2 (TX false) (Za 1) (f1 (Yw c.Board "units") (Za 0))) [some (.o hb),some (.int a),some (.int s)] om=some (.ok false,om):=by
  refine ZP ((Zs (Zb rfl) (X8 rfl h1 (VH ..))).trans ?_)
  simp[TX,X4,h3,YR,Rb,hn]
 have p:Y2 (Za 2) (f1 (Yw c.Board "units") (Za 0)) (Za 1) [some (.o hb),some (.int a),some (.int s)] om=some (.ok (.nx,[some (.o hb),some (.int a),some (.int s)]),om.set hu (.dk (Xu (us++[(a,s)])))):=by
  unfold Y2
  rw[Zo (Zb rfl),Zo (X8 rfl h1 (VH ..)),Zo (Zb rfl)]
  refine (Zo (a:=()) (om1:=om.set hu (.dk (Xu (us++[(a,s)])))) ?_).trans rfl
  simp[UM,Sv,h3,YR,Ie,hlen,Ec s hn]
 exact Va ((Zg n1).trans ((Zg (ZI t1)).trans ((Zg (ZI t2)).trans p)))
theorem FQ (h1:om[hb]?=some (Wh c hm hu)) (h2:om[hm]?=some (X5 c size hl)) (h3:om[hu]?=some (.dk (Xu us))) {a:Int} (ha:0<=a∧a < size):ZR c [.o hb,.int a] om=some (.ok (Zv (us.lookup a)),om):=by
 have n1:=Mq c (sl:=[some (.o hb),some (.int a)]) h1 h2 ha rfl rfl
 have p:TM (f1 (Yw c.Board "units") (Za 0)) (Za 1) [some (.o hb),some (.int a)] om=some (.ok (Zv (us.lookup a)),om):=by
  have e:=X8 (sl:=[some (.o hb),some (.int a)]) (i:=0) rfl h1 (VH hm hu)
  cases hq:us.lookup a with
  |none=>simp[TM,bnd,e,U9,isD,h3,Za,SU,X4,YR,Rb,hq,L2.ret,Zv]
  |some s=>simp[TM,bnd,e,U9,isD,h3,Za,SU,X4,YR,Rb,hq,L2.ret,Zv]
 exact Zy ((Zg n1).trans (Zr p))
abbrev X2 (om:List Ob) (size:Nat) (kvs:List (List Key × Wv)) (us:List (Int × Int)):List Ob:=om++[X5 c size (om.length+1),.dt kvs,Wh c om.length (om.length+3),.dk (Xu us)]
theorem Gj {many off size:Nat} {rows:Mx} {f:List (Option Int)} (lk:Lk many rows) (hf:f.length=many) (h1:off+many<=size) (hm:many<=7) (hs:∀k s,at' f k=some s->0<=s∧s<=7) (om:List Ob) :
    ∃kvs,g__law_board c [Yg many off size,.lst (rows.map YJ),.lst (f.map Zv)] om=some (.ok (.o (om.length+2)),X2 c om size kvs (Xl off f many))∧Pr rows off kvs∧kvs.length<=140:=by
 have hlim:=Z1
 obtain ⟨kvs,ec,mo,hk⟩:=Hl c lk h1 hm om
 refine ⟨kvs,?_,mo,hk⟩
 have s1:ZM 3 (fA (WT c.Board 2 (XW c)) (Ze (fA (kN 2 (g__law_chart c)) (Ze (Za 0) (Ze (Za 1) Zm))) Zm)) [some (Yg many off size),some (.lst (rows.map YJ)),some (.lst (f.map Zv)),none,none] om=some (.ok (.nx,[some (Yg many off size),some (.lst (rows.map YJ)),some (.lst (f.map Zv)),some (.o (om.length+2)),none]),X2 c om size kvs (Xl off f 0)):=by
  refine ZD (i:=3) (w:=.o (om.length+2)) ((ZG (Zd ((ZG (Zd (Zb rfl) (Zd (Zb rfl) Zk))).trans ((Yj rfl).trans ec)) Zk)).trans ((M0 c _ _).trans ?_))
  rw[List.length_append,List.append_assoc]
  rfl
 obtain ⟨sl',om',hfor,x,rfl,rfl⟩:=WE (T:=tgN 4) (S:=UU c) (n:=many) (fun k sl om'=>∃x,sl=[some (Yg many off size),some (.lst (rows.map YJ)),some (.lst (f.map Zv)),some (.o (om.length+2)),x]∧om'=X2 c om size kvs (Xl off f k))
  (sl:=[some (Yg many off size),some (.lst (rows.map YJ)),some (.lst (f.map Zv)),some (.o (om.length+2)),none]) (om:=X2 c om size kvs (Xl off f 0)) (fun k hk sl om' ⟨x,e1,e2⟩=>by
   subst e1 e2
   have hk2:k < f.length:=by omega
   have sk:f2 kIx (Za 2) (Za 4) [some (Yg many off size),some (.lst (rows.map YJ)),some (.lst (f.map Zv)),some (.o (om.length+2)),some (.int k)] (X2 c om size kvs (Xl off f k))=_:=(v2 rfl rfl).trans (YW (k:=k) rfl hk2 none)
   have t:fB (f1 Xv (f2 kIx (Za 2) (Za 4))) [some (Yg many off size),some (.lst (rows.map YJ)),some (.lst (f.map Zv)),some (.o (om.length+2)),some (.int k)] (X2 c om size kvs (Xl off f k))=some (.ok (at' f k).isSome,X2 c om size kvs (Xl off f k)):=ZP ((Xs sk).trans (OD _ _))
   refine ⟨[some (Yg many off size),some (.lst (rows.map YJ)),some (.lst (f.map Zv)),some (.o (om.length+2)),some (.int k)],.nx,_,X2 c om size kvs (Xl off f (k+1)),rfl,?_,.inl rfl,some (.int k),rfl,rfl⟩
   rw[Pl]
   cases hq:at' f k with
   |none =>
    rw[hq]at t
    rw[List.append_nil]
    exact ZI t
   |some s =>
    rw[hq]at t
    rw[show f.getD k none=some s from hq]at sk
    refine (Yo t).trans (Yd (w:=.non) ((ZJ (Zb rfl) (ZK (fs:=[("chart",.o om.length),("units",.o (om.length+3))]) (by simp)) (Y1 _ _ _ (by decide) (by decide)) (Zd ((Zs ((Zs (Zb rfl) Zp).trans (ZU (k:=1) (v:=.int off) rfl rfl)) (Zb rfl)).trans rfl) (Zd sk Zk)) rfl).trans ((FU c (hb:=om.length+2) (hm:=om.length) (hu:=om.length+3) (hl:=om.length+1) (size:=size) (us:=Xl off f k) (by simp) (by simp) (by simp) ⟨by omega,by omega⟩ (hs k s hq) (by rw[PD,if_neg (by omega)]) (by have:=N4 off f k; omega)).trans ?_)))
    unfold X2
    rw[List.set_append_right _ _ (by omega),show om.length+3 - om.length=3 by omega]
    rfl) ⟨none,rfl,rfl⟩
 have e4:=Yx (sl1:=[]) (fi:=fun sl=>bnd ((f2 kIx (Za 0) (fC (.int 0))) sl) Yl) (sl:=[some (Yg many off size),some (.lst (rows.map YJ)),some (.lst (f.map Zv)),some (.o (om.length+2)),none]) ((Zo ((Zs (Zb rfl) Zp).trans (ZU (k:=0) (v:=.int many) rfl rfl))).trans (Xc _ _ (by omega))) hfor
 exact Zy ((Zg s1).trans ((Zg e4).trans (Zr (Zb rfl))))
end
open PySem L2
theorem NW (off:Nat) (f:List (Option Int)) (n:Nat):(Xl off f n).Pairwise (fun x y=>x.1 < y.1):=by
 unfold Xl
 refine List.Pairwise.filterMap (R:=(· < ·)) _ (fun a b hab x hx y hy=>?_) List.pairwise_lt_range
 obtain ⟨s,_,rfl⟩:=Option.map_eq_some_iff.mp hx
 obtain ⟨t,_,rfl⟩:=Option.map_eq_some_iff.mp hy
 show (off:Int)+a < off+b
 omega
theorem Na {us:List (Int × Int)} (nd:(us.map (·.1)).Nodup):(Wr us).Pairwise (fun x y=>x.1 < y.1):=by
 have hp:=XM us
 have hn:((Wr us).map (·.1)).Nodup:=(hp.map _).nodup_iff.mpr nd
 refine ((UC us).and (List.pairwise_map.mp hn)).imp fun {x y} h=>?_
 have a:¬ _:=fun w'=>absurd (Y3.mpr w') (by rw[h.1]; exact Bool.false_ne_true)
 have b:=h.2
 omega
theorem Kj {us vs:List (Int × Int)} (nd:(us.map (·.1)).Nodup) (hv:vs.Pairwise (fun x y=>x.1 < y.1)) (h:∀p,p∈us ↔ p∈vs):Wr us=vs :=
 Ul (Na nd) hv fun p=>by rw[(XM us).mem_iff,h]
theorem O2 {us:List (Int × Int)} (h:us.Pairwise (fun x y=>x.1 < y.1)):(us.map (·.1)).Nodup:=by
 refine List.pairwise_map.mpr (h.imp fun {x y} hxy z=>?_)
 have hxy:x.1 < y.1:=hxy
 have z:x.1=y.1:=z
 omega
theorem L5 {us:List (Int × Int)} (h:us.Pairwise (fun x y=>x.1 < y.1)):Wr us=us:=Kj (O2 h) h fun _=>Iff.rfl
section
variable (c:CA) {om:List Ob} {hb hm hu hl:Nat} {size:Int} {us:List (Int × Int)} {kvs:List (List Key × Wv)}
theorem Et (h1:om[hb]?=some (Wh c hm hu)) (h3:om[hu]?=some (.dk (Xu us))) (hn:us.length < 64):Wx c [.o hb] om=some (.ok (.lst ((Wr us).map prW)),om):=by
 have h2:(Wr us).length=us.length:=(XM us).length_eq
 have hlim:=Z1
 refine Zy (Zr ?_)
 unfold VR
 refine (Zo (X8 (sl:=[some (.o hb)]) (i:=0) rfl h1 (VH ..))).trans ?_
 refine (Zo (a:=(Wr us).map prW) (om1:=om) ?_).trans ?_
 ·simp[VB,h3,NU,hn]
 ·unfold Yk
  rw[if_pos (by rw[List.length_map]; omega)]
  rfl
theorem Ll (h2:om[hm]?=some (X5 c size hl)) {a:Int} (ha:0<=a∧a < size) {sl:Sl} {i j:Nat} (s0:sl[i]?=some (some (.o hm))) (s1:sl[j]?=some (some (.int a))):Z8 (ZB c.Map "need_place" 2 (ZQ c) (Za i) (Ze (Za j) Zm)) sl om=some (.ok (.nx,sl),om) :=
 Yd ((ZJ (Zb s0) (ZK h2) (Wg _ _ _ (by decide) (by decide)) (Zd (Zb s1) Zk) rfl).trans (TN c h2 ha.1 ha.2))
theorem Al {sl:Sl} {i j k:Nat} {x y:Int} (h2:om[hm]?=some (X5 c size hl)) (h3:om[hl]?=some (.dt kvs)) (hi:sl[i]?=some (some (.int x))) (hj:sl[j]?=some (some (.int y))) (hk:sl[k]?=some (some (.o hm))):f2 (TX false) (fA XA (Ze (Za i) (Ze (Za j) Zm))) (f1 (Yw c.Map "links") (Za k)) sl om=some (.ok (.bl (T3 kvs x y)),om):=by
 refine (Zs ((ZG (Zd (Zb hi) (Zd (Zb hj) Zk))).trans (Xx (by simp))) (X8 hk h2 (Qz ..))).trans ?_
 simp[TX,X4,h3,WK,YR,T3,pk]
theorem JD (h2:om[hm]?=some (X5 c size hl)) (h3:om[hl]?=some (.dt kvs)) {a b:Int} (ha:0<=a∧a < size) (hb:0<=b∧b < size):VF c [.o hm,.int a,.int b] om=some (.ok (.bl (T3 kvs a b)),om):=by
 have n1:=Ll c (sl:=[some (.o hm),some (.int a),some (.int b)]) (i:=0) (j:=1) h2 ha rfl rfl
 have n2:=Ll c (sl:=[some (.o hm),some (.int a),some (.int b)]) (i:=0) (j:=2) h2 hb rfl rfl
 exact Zy ((Zg n1).trans ((Zg n2).trans (Zr (Al c (i:=1) (j:=2) (k:=0) h2 h3 rfl rfl rfl))))
end
end MP
namespace MP
noncomputable section
open PySem L2
def UN (c:CA):FS :=
 (ZE (Ui c.Orders "board" (Za 1) (Za 0))
  (Ui c.Orders "given" (fun _=>newO (.dk [])) (Za 0)))
def XC (c:CA):List Wv->Mw Wv:=Ym 2 (UN c)
def Qg (c:CA):FS :=
 (ZE (Z8 (ZB c.Board "need_unit" 2 (Yu c) (f1 (Yw c.Orders "board") (Za 0)) (Ze (Za 1) Zm)))
  (Y2 (fC (.g c.STAND)) (f1 (Yw c.Orders "given") (Za 0)) (Za 1)))
def Xq (c:CA):List Wv->Mw Wv:=Ym 2 (Qg c)
def XJ (c:CA):FS :=
 (Z8 (ZB c.Map "need_place" 2 (ZQ c) (f1 (Yw c.Board "chart") (f1 (Yw c.Orders "board") (Za 0))) (Ze (Za 3) Zm)))
def XO (c:CA):FS :=
 (Z8 (ZB c.Board "need_unit" 2 (Yu c) (f1 (Yw c.Orders "board") (Za 0)) (Ze (Za 3) Zm)))
def T2 (c:CA):FS :=
 (ZE (XH (fun sl=>bnd ((Za 1) sl) Yb) (tgN 3) (XJ c))
  (XH (fun sl=>bnd ((Za 2) sl) Yb) (tgN 3) (XO c)))
def YC (c:CA):List Wv->Mw Wv:=Ym 4 (T2 c)
def Uy (c:CA):FS :=
 (sIf (Ws (YG (ZB c.Map "beside" 3 (VF c) (f1 (Yw c.Board "chart") (f1 (Yw c.Orders "board") (Za 0))) (Ze (Za 1) (Ze (Za 2) Zm))))) (Wu c.OutOfReach (Sy (Za 2) (Sy (Za 1) SZ))) Yr)
def Z2 (c:CA):List Wv->Mw Wv:=Ym 3 (Uy c)
def QD (c:CA):FS :=
 (ZE (Z8 (ZB c.Orders "need_all" 3 (YC c) (Za 0) (Ze (fA Yk (Ze (Za 1) (Ze (Za 2) Zm))) (Ze (fA Yk (Ze (Za 1) Zm)) Zm))))
  (ZE (Z8 (ZB c.Orders "need_beside" 3 (Z2 c) (Za 0) (Ze (Za 1) (Ze (Za 2) Zm))))
  (Y2 (fA XA (Ze (fC (.str "move")) (Ze (Za 2) Zm))) (f1 (Yw c.Orders "given") (Za 0)) (Za 1))))
def Vf (c:CA):List Wv->Mw Wv:=Ym 3 (QD c)
def O5 (c:CA):FS :=
 (ZE (Z8 (ZB c.Orders "need_all" 3 (YC c) (Za 0) (Ze (fA Yk (Ze (Za 1) (Ze (Za 2) (Ze (Za 3) Zm)))) (Ze (fA Yk (Ze (Za 1) (Ze (Za 2) Zm))) Zm))))
  (ZE (sIf (fB (f2 kEq (Za 2) (Za 1))) (Wu c.OutOfReach (Sy (Za 1) SZ)) Yr)
  (ZE (Z8 (ZB c.Orders "need_beside" 3 (Z2 c) (Za 0) (Ze (Za 1) (Ze (Za 3) Zm))))
  (ZE (sIf (fB (f2 kNe (Za 3) (Za 2))) (Z8 (ZB c.Orders "need_beside" 3 (Z2 c) (Za 0) (Ze (Za 2) (Ze (Za 3) Zm)))) Yr)
  (Y2 (fA XA (Ze (fC (.str "help")) (Ze (Za 2) (Ze (Za 3) Zm)))) (f1 (Yw c.Orders "given") (Za 0)) (Za 1))))))
def VO (c:CA):List Wv->Mw Wv:=Ym 4 (O5 c)
def Q0 (c:CA):FS :=
 (ZE (Z8 (ZB c.Board "need_unit" 2 (Yu c) (f1 (Yw c.Orders "board") (Za 0)) (Ze (Za 1) Zm)))
  (ZS (RJ (f1 (Yw c.Orders "given") (Za 0)) (Za 1) (fC (.g c.STAND)))))
def Yz (c:CA):List Wv->Mw Wv:=Ym 2 (Q0 c)
def Su (c:CA):FS :=
 (ZE (ZM 2 (RJ (f1 (Yw c.Orders "given") (Za 0)) (Za 1) (fC (.g c.STAND))))
  (ZE (sIf (fB (f2 kEq (f2 (Vn c.STAND) (Za 2) (fC (.int 0))) (fC (.str "move")))) (ZS (f2 (Vn c.STAND) (Za 2) (fC (.int 1)))) Yr)
  (ZS (fC .non))))
def Zq (c:CA):List Wv->Mw Wv:=Ym 3 (Su c)
def Sj (c:CA):FT :=
 (fB (f1 Xv (ZB c.Orders "goal_of" 2 (Zq c) (Za 1) (Ze (Za 0) Zm))))
def Sm (c:CA):FE :=
 (Za 0)
def SW (c:CA):FS :=
 (ZS (fA (WD Yk) (Ze (WQ Yk [0] (f1 (Yw c.Orders "given") (Za 0)) (Sj c) (Sm c)) Zm)))
def ZZ (c:CA):List Wv->Mw Wv:=Ym 1 (SW c)
def Tr (c:CA):FT :=
 (fB (f1 Xv (ZB c.Orders "goal_of" 2 (Zq c) (Za 1) (Ze (Za 0) Zm))))
def T0 (c:CA):FE :=
 (Za 0)
def T5 (c:CA):FS :=
 (ZS (fA (WD YI) (Ze (WQ Yk [0] (f1 (Yw c.Orders "given") (Za 0)) (Tr c) (T0 c)) Zm)))
def Sz (c:CA):List Wv->Mw Wv:=Ym 1 (T5 c)
def VW (c:CA):FE :=
 (fA (kN 4 (g__law_order_by c)) (Ze (fA (kN 2 (g__law_cell_at c)) (Ze (Za 1) (Ze (f2 Xy (fC (.int 10)) (Za 0)) Zm))) (Ze (Za 0) (Ze (Za 2) (Ze (Za 3) Zm)))))
def Ql (c:CA):FS :=
 (ZS (Yn YI [0,1,2] (fun sl=>bnd ((fA YT (Ze (Za 2) Zm)) sl) Yl) XE (VW c)))
def XV (c:CA):List Wv->Mw Wv:=Ym 3 (Ql c)
def N5 (c:CA):FS :=
 (ZE (ZM 4 (f2 kIx (Za 2) (Za 3)))
  (ZE (sIf (fB (f1 XT (Za 4))) Px Yr)
  (sIf (fB (f2 kEq (f2 kIx (Za 4) (fC (.int 0))) (fC (.str "stand")))) (Z8 (ZB c.Orders "stand" 2 (Xq c) (Za 0) (Ze (f2 Xy (Za 1) (Za 3)) Zm))) (sIf (fB (f2 kEq (f2 kIx (Za 4) (fC (.int 0))) (fC (.str "move")))) (Z8 (ZB c.Orders "move" 3 (Vf c) (Za 0) (Ze (f2 Xy (Za 1) (Za 3)) (Ze (f2 Xy (Za 1) (f2 kIx (Za 4) (fC (.int 1)))) Zm)))) (Z8 (ZB c.Orders "aid" 4 (VO c) (Za 0) (Ze (f2 Xy (Za 1) (Za 3)) (Ze (f2 Xy (Za 1) (f2 kIx (Za 4) (fC (.int 1)))) (Ze (f2 Xy (Za 1) (f2 kIx (Za 4) (fC (.int 2)))) Zm)))))))))
def g__law_give (c:CA):List Wv->Mw Wv:=Ym 5 (N5 c)
def UY (c:CA):FS :=
 (Z8 (fA (kN 4 (g__law_give c)) (Ze (Za 4) (Ze (f2 kIx (Za 0) (fC (.int 1))) (Ze (Za 3) (Ze (Za 5) Zm))))))
def O1 (c:CA):FS :=
 (ZE (ZM 4 (fA (WT c.Orders 2 (XC c)) (Ze (fA (kN 3 (g__law_board c)) (Ze (Za 0) (Ze (Za 1) (Ze (Za 2) Zm)))) Zm)))
  (ZE (XH (fun sl=>bnd ((f2 kIx (Za 0) (fC (.int 0))) sl) Yl) (tgN 5) (UY c))
  (ZS (Za 4))))
def g__law_given (c:CA):List Wv->Mw Wv:=Ym 6 (O1 c)
end
open PySem L2
abbrev Y6 (c:CA) (hb hg:Nat):Ob:=.ins c.Orders [("board",.o hb),("given",.o hg)]
theorem Ft (hb hg:Nat):List.lookup (Str.ofString "board") [(Str.ofString "board",Wv.o hb),(Str.ofString "given",Wv.o hg)]=some (.o hb):=by simp[List.lookup_cons,Xa]
theorem Rk (hb hg:Nat):List.lookup (Str.ofString "given") [(Str.ofString "board",Wv.o hb),(Str.ofString "given",Wv.o hg)]=some (.o hg):=by simp[List.lookup_cons,Xa]
theorem Z4 (m:String) (hb hg:Nat) (h1:m≠"board") (h2:m≠"given"):List.lookup (Str.ofString m) [(Str.ofString "board",Wv.o hb),(Str.ofString "given",Wv.o hg)]=none:=by simp[List.lookup_cons,Xa,h1,h2]
def odG (c:CA) (off:Nat):Od->Wv
 |.stand=>.g c.STAND
 |.move g=>.tup [.str "move",.int ((off:Int)+g)]
 |.help h g=>.tup [.str "help",.int ((off:Int)+h),.int ((off:Int)+g)]
abbrev Gs:=List (Nat × Od)
def YK (c:CA) (off:Nat) (gs:Gs):List (Key × Wv):=gs.map fun p=>(.inl ((off:Int)+p.1),odG c off p.2)
def V5 (gs:Gs) (k:Nat) (o:Od):Gs:=if (gs.any fun p=>decide (p.1=k))=true then gs.map (fun p=>if p.1=k then (p.1,o) else p) else gs++[(k,o)]
theorem Dk {off a k:Nat} (h:a≠k):(Sum.inl ((off:Int)+a):Key)≠Sum.inl ((off:Int)+k):=fun z=>h (by have:=Sum.inl.inj z; omega)
theorem Nx (off a k:Nat):decide ((Sum.inl ((off:Int)+a):Key)=Sum.inl ((off:Int)+k))=decide (a=k):=by
 by_cases h:a=k
 ·subst h; simp
 ·rw[decide_eq_false h,decide_eq_false (Dk h)]
theorem UB (c:CA) (off:Nat) (gs:Gs) (k:Nat):Vg (YK c off gs) (.inl ((off:Int)+k))=(gs.lookup k).map (odG c off):=by
 induction gs with
 |nil=>rfl
 |cons p gs ih =>
  obtain ⟨j,o⟩:=p
  unfold Vg YK at ih ⊢
  rw[List.map_cons,List.find?_cons,List.lookup_cons]
  dsimp only
  rw[Nx]
  by_cases h:j=k
  ·subst h; simp
  ·rw[decide_eq_false h,beq_eq_false_iff_ne.mpr (Ne.symm h)]
   exact ih
theorem Ek (c:CA) (off:Nat) (gs:Gs) (k:Nat) (o:Od):WB (YK c off gs) (.inl ((off:Int)+k)) (odG c off o)=YK c off (V5 gs k o):=by
 unfold WB V5 YK
 have e:((gs.map fun p=>((Sum.inl ((off:Int)+p.1):Key),odG c off p.2)).any fun kv=>decide (kv.1=Sum.inl ((off:Int)+k)))=gs.any fun p=>decide (p.1=k):=by
  rw[List.any_map]
  refine congrArg (List.any gs) (funext fun p=>?_)
  exact Nx off p.1 k
 rw[e]
 by_cases h:(gs.any fun p=>decide (p.1=k))=true
 ·rw[if_pos h,if_pos h,List.map_map,List.map_map]
  refine List.map_congr_left fun p _=>?_
  show (if (Sum.inl ((off:Int)+p.1):Key)=Sum.inl ((off:Int)+k) then (Sum.inl ((off:Int)+p.1),odG c off o) else (Sum.inl ((off:Int)+p.1),odG c off p.2))=((Sum.inl ((off:Int)+(if p.1=k then (p.1,o) else p).1):Key),odG c off (if p.1=k then (p.1,o) else p).2)
  by_cases hp:p.1=k
  ·rw[if_pos (by rw[hp]),if_pos hp]
  ·rw[if_neg (Dk hp),if_neg hp]
 ·rw[if_neg h,if_neg h,List.map_append]
  rfl
theorem MD (gs:Gs) (k:Nat):(gs.any fun p=>decide (p.1=k))=(gs.lookup k).isSome:=by
 induction gs with
 |nil=>rfl
 |cons p gs ih =>
  obtain ⟨j,o⟩:=p
  rw[List.any_cons,List.lookup_cons]
  dsimp only
  by_cases h:j=k
  ·subst h; simp
  ·rw[decide_eq_false h,beq_eq_false_iff_ne.mpr (Ne.symm h),Bool.false_or]
   exact ih
theorem Jv (gs:Gs) (k j:Nat) (o:Od):(gs.map fun p=>if p.1=k then (p.1,o) else p).lookup j=if j=k then (gs.lookup j).map (fun _=>o) else gs.lookup j:=by
 induction gs with
 |nil=>simp
 |cons p gs ih =>
  obtain ⟨i,q⟩:=p
  rw[List.map_cons]
  dsimp only
  by_cases h:i=k
  ·rw[if_pos h,List.lookup_cons,List.lookup_cons]
   by_cases hj:j=i
   ·subst hj; subst h; simp
   ·rw[beq_eq_false_iff_ne.mpr hj]
    exact ih
  ·rw[if_neg h,List.lookup_cons,List.lookup_cons]
   by_cases hj:j=i
   ·subst hj; simp[h]
   ·rw[beq_eq_false_iff_ne.mpr hj]
    exact ih
theorem Pn (gs:Gs) (k j:Nat) (o:Od):(V5 gs k o).lookup j=if j=k then some o else gs.lookup j:=by
 unfold V5
 by_cases h:(gs.any fun p=>decide (p.1=k))=true
 ·rw[if_pos h,Jv]
  by_cases hj:j=k
  ·subst hj
   rw[if_pos rfl,if_pos rfl]
   rw[MD]at h
   obtain ⟨x,hx⟩:=Option.isSome_iff_exists.mp h
   rw[hx]; rfl
  ·rw[if_neg hj,if_neg hj]
 ·rw[if_neg h,List.lookup_append]
  rw[MD]at h
  by_cases hj:j=k
  ·subst hj
   rw[if_pos rfl,Option.not_isSome_iff_eq_none.mp h]
   simp
  ·rw[if_neg hj,List.lookup_cons,beq_eq_false_iff_ne.mpr hj]
   simp
theorem LL {gs:Gs} (h:(gs.map (·.1)).Nodup) (k:Nat) (o:Od):((V5 gs k o).map (·.1)).Nodup:=by
 unfold V5
 by_cases ha:(gs.any fun p=>decide (p.1=k))=true
 ·rw[if_pos ha,List.map_map]
  have e:(gs.map ((·.1) ∘ fun p=>if p.1=k then (p.1,o) else p))=gs.map (·.1):=List.map_congr_left fun p _=>by
   show (if p.1=k then (p.1,o) else p).1=p.1
   by_cases hp:p.1=k
   ·rw[if_pos hp]
   ·rw[if_neg hp]
  rw[e]; exact h
 ·rw[if_neg ha,List.map_append,List.nodup_append]
  refine ⟨h,by simp,fun a ha' b hb z=>ha ?_⟩
  have hb:b=k:=by simpa using hb
  obtain ⟨p,hp,rfl⟩:=List.mem_map.mp ha'
  exact List.any_eq_true.mpr ⟨p,hp,decide_eq_true (z.trans hb)⟩
structure Tell (gs:Gs) (T:Nat->Option Od):Prop where
 nd:(gs.map (·.1)).Nodup
 get:∀k o,T k=some o->(gs.lookup k).getD .stand=o
 key:∀k o,gs.lookup k=some o->T k=some o
theorem Tell.put {gs:Gs} {T:Nat->Option Od} (h:Tell gs T) (k:Nat) (o:Od):Tell (V5 gs k o) (fun j=>if j=k then some o else T j):=by
 refine ⟨LL h.nd k o,fun j q e=>?_,fun j q e=>?_⟩
 ·rw[Pn]
  by_cases hj:j=k
  ·rw[if_pos hj]at e ⊢; cases e; rfl
  ·rw[if_neg hj]at e ⊢; exact h.get j q e
 ·rw[Pn]at e
  by_cases hj:j=k
  ·rw[if_pos hj]at e; cases e; show (if j=k then some o else T j)=some o; rw[if_pos hj]
  ·rw[if_neg hj]at e; show (if j=k then some o else T j)=some q; rw[if_neg hj]; exact h.key j q e
theorem Tell.start0 {T:Nat->Option Od} (h:∀k o,T k=some o->o=.stand):Tell [] T:=⟨by simp,fun k o e=>(h k o e).symm,fun k o e=>by cases e⟩
theorem SE {k:Nat} {o:Od}:∀{gs:Gs},gs.lookup k=some o->(k,o)∈gs
 |[],e=>by cases e
 |(j,q)::gs,e=>by
  rw[List.lookup_cons]at e
  cases hb:(k == j) with
  |true=>rw[hb]at e; cases e; rw[eq_of_beq hb]; exact .head _
  |false=>rw[hb]at e; exact .tail _ (SE e)
theorem WY {k:Nat} {o:Od}:∀{gs:Gs},(gs.map (·.1)).Nodup->(k,o)∈gs->gs.lookup k=some o
 |[],_,e=>nomatch e
 |(j,q)::gs,nd,e=>by
  rw[List.lookup_cons]
  rw[List.map_cons,List.nodup_cons]at nd
  rcases List.mem_cons.mp e with e|e
  ·cases e; simp
  ·have hne:k≠j:=fun z=>nd.1 (List.mem_map.mpr ⟨(k,o),e,z⟩)
   rw[beq_eq_false_iff_ne.mpr hne]
   exact WY nd.2 e
structure Wd (c:CA) (om:List Ob) (hb hm hu hl size off:Nat) (f:List (Option Int)) (kvs:List (List Key × Wv)):Prop where
 b:om[hb]?=some (Wh c hm hu)
 m:om[hm]?=some (X5 c size hl)
 u:om[hu]?=some (.dk (Xu (Xl off f f.length)))
 l:om[hl]?=some (.dt kvs)
 fit:off+f.length<=size
 few:size<=60
theorem UQ {α:Type} {l:List (Option α)} {k:Nat} {x:α} (h:at' l k=some x):k < l.length:=by
 by_cases hk:k < l.length
 ·exact hk
 ·rw[VT hk]at h; cases h
section
variable {c:CA} {om:List Ob} {ho hb hm hu hl hg size off:Nat} {f:List (Option Int)} {kvs:List (List Key × Wv)} {gs:Gs}
theorem Wd.set (W:Wd c om hb hm hu hl size off f kvs) {kv:List (Key × Wv)} {x:Ob} (h:om[hg]?=some (.dk kv)) (hn:hg≠hu):Wd c (om.set hg x) hb hm hu hl size off f kvs:=by
 have nb:hg≠hb:=fun z=>by subst z; rw[W.b]at h; cases h
 have nm:hg≠hm:=fun z=>by subst z; rw[W.m]at h; cases h
 have nl:hg≠hl:=fun z=>by subst z; rw[W.l]at h; cases h
 exact ⟨by rw[List.getElem?_set_ne nb]; exact W.b,by rw[List.getElem?_set_ne nm]; exact W.m,by rw[List.getElem?_set_ne hn]; exact W.u,by rw[List.getElem?_set_ne nl]; exact W.l,W.fit,W.few⟩
theorem Wd.grow (W:Wd c om hb hm hu hl size off f kvs) (l:List Ob):Wd c (om++l) hb hm hu hl size off f kvs:=by
 have g:∀{h:Nat} {x:Ob},om[h]?=some x->(om++l)[h]?=some x:=fun e=>by rw[List.getElem?_append_left (List.getElem?_eq_some_iff.mp e).1]; exact e
 exact ⟨g W.b,g W.m,g W.u,g W.l,W.fit,W.few⟩
theorem Wd.look (W:Wd c om hb hm hu hl size off f kvs) (k:Nat):(Xl off f f.length).lookup ((off:Int)+k)=at' f k:=by
 rw[PD]
 by_cases h:k < f.length
 ·rw[if_pos (by omega),show ((off:Int)+k - off).toNat=k by omega]
 ·rw[if_neg (by omega),VT h]
theorem Wd.inn (W:Wd c om hb hm hu hl size off f kvs) {k:Nat} (h:k < f.length):0<=(off:Int)+k∧(off:Int)+k < (size:Nat):=by
 have:=W.fit; omega
theorem O4 (W:Wd c om hb hm hu hl size off f kvs) {k:Nat} (h:k < f.length):ZR c [.o hb,.int ((off:Int)+k)] om=some (.ok (Zv (at' f k)),om):=by
 rw[FQ c W.b W.m W.u (W.inn h),W.look]
theorem LF (W:Wd c om hb hm hu hl size off f kvs) {k:Nat} {s:Int} (h:at' f k=some s):Yu c [.o hb,.int ((off:Int)+k)] om=some (.ok .non,om):=by
 have e:fB (f1 XT (ZB c.Board "side_at" 2 (ZR c) (Za 0) (Ze (Za 1) Zm))) [some (.o hb),some (.int ((off:Int)+k))] om=some (.ok false,om):=by
  refine ZP ((Xs ((ZJ (Zb rfl) (ZK W.b) (Y1 _ _ _ (by decide) (by decide)) (Zd (Zb rfl) Zk) rfl).trans (O4 W (UQ h)))).trans ((TD _ _).trans ?_))
  rw[h]; rfl
 exact Va (ZI e)
structure Os (c:CA) (om:List Ob) (ho hb hg off:Nat) (gs:Gs):Prop where
 o:om[ho]?=some (Y6 c hb hg)
 g:om[hg]?=some (.dk (YK c off gs))
theorem MX (c:CA) (off:Nat) (gs:Gs):(YK c off gs).length=gs.length:=by simp[YK]
theorem Os.set (S:Os c om ho hb hg off gs) {h:Nat} {kv:List (Key × Wv)} {x:Ob} (e:om[h]?=some (.dk kv)) (hn:h≠hg):Os c (om.set h x) ho hb hg off gs:=by
 have nb:h≠ho:=fun z=>by subst z; rw[S.o]at e; cases e
 exact ⟨by rw[List.getElem?_set_ne nb]; exact S.o,by rw[List.getElem?_set_ne hn]; exact S.g⟩
theorem Os.grow (S:Os c om ho hb hg off gs) (l:List Ob):Os c (om++l) ho hb hg off gs:=by
 have g:∀{h:Nat} {x:Ob},om[h]?=some x->(om++l)[h]?=some x:=fun e=>by rw[List.getElem?_append_left (List.getElem?_eq_some_iff.mp e).1]; exact e
 exact ⟨g S.o,g S.g⟩
theorem HR (S:Os c om ho hb hg off gs) {k:Nat} {o:Od} {sl:Sl} {fv:FE} {i j:Nat} (hv:fv sl om=some (.ok (odG c off o),om)) (hi:sl[i]?=some (some (.o ho))) (hj:sl[j]?=some (some (.int ((off:Int)+k)))) (hl:gs.length < 100) :
    Y2 fv (f1 (Yw c.Orders "given") (Za i)) (Za j) sl om=some (.ok (.nx,sl),om.set hg (.dk (YK c off (V5 gs k o)))):=by
 have hlim:=Z1
 unfold Y2
 rw[Zo hv,Zo (X8 hi S.o (Rk ..)),Zo (Zb hj)]
 refine (Zo (a:=()) (om1:=om.set hg (.dk (YK c off (V5 gs k o)))) ?_).trans rfl
 have h1:(YK c off gs).length < lim:=by rw[MX]; omega
 simp[UM,Sv,S.g,YR,h1,Ek]
theorem VP (S:Os c om ho hb hg off gs) {sl:Sl} {i:Nat} (hi:sl[i]?=some (some (.o ho))):f1 (Yw c.Orders "board") (Za i) sl om=some (.ok (.o hb),om):=X8 hi S.o (Ft ..)
theorem N8 (W:Wd c om hb hm hu hl size off f kvs) (S:Os c om ho hb hg off gs) {k:Nat} {s:Int} (h:at' f k=some s) (hl:gs.length < 100):Xq c [.o ho,.int ((off:Int)+k)] om=some (.ok .non,om.set hg (.dk (YK c off (V5 gs k .stand)))):=by
 have e1:Z8 (ZB c.Board "need_unit" 2 (Yu c) (f1 (Yw c.Orders "board") (Za 0)) (Ze (Za 1) Zm)) [some (.o ho),some (.int ((off:Int)+k))] om=some (.ok (.nx,[some (.o ho),some (.int ((off:Int)+k))]),om) :=
  Yd ((ZJ (VP S rfl) (ZK W.b) (Y1 _ _ _ (by decide) (by decide)) (Zd (Zb rfl) Zk) rfl).trans (LF W h))
 exact Va ((Zg e1).trans (HR S (o:=.stand) Zp rfl rfl hl))
theorem Fo (W:Wd c om hb hm hu hl size off f kvs) (S:Os c om ho hb hg off gs) {k:Nat} {s:Int} (h:at' f k=some s):Yz c [.o ho,.int ((off:Int)+k)] om=some (.ok (odG c off ((gs.lookup k).getD .stand)),om):=by
 have e1:Z8 (ZB c.Board "need_unit" 2 (Yu c) (f1 (Yw c.Orders "board") (Za 0)) (Ze (Za 1) Zm)) [some (.o ho),some (.int ((off:Int)+k))] om=some (.ok (.nx,[some (.o ho),some (.int ((off:Int)+k))]),om) :=
  Yd ((ZJ (VP S rfl) (ZK W.b) (Y1 _ _ _ (by decide) (by decide)) (Zd (Zb rfl) Zk) rfl).trans (LF W h))
 have e2:RJ (f1 (Yw c.Orders "given") (Za 0)) (Za 1) (fC (.g c.STAND)) [some (.o ho),some (.int ((off:Int)+k))] om=some (.ok (odG c off ((gs.lookup k).getD .stand)),om):=by
  unfold RJ
  rw[Zo (X8 rfl S.o (Rk ..))]
  refine (Zo (a:=()) (om1:=om) (by simp[U9,isD,S.g])).trans ?_
  rw[Zo (Zb rfl),Zo Zp]
  cases hq:gs.lookup k with
  |none=>simp[SF,X4,S.g,YR,UB,hq,odG]
  |some o=>simp[SF,X4,S.g,YR,UB,hq]
 exact Zy ((Zg e1).trans (Zr e2))
def Uf (off:Nat):Od->Wv
 |.move g=>.int ((off:Int)+g)
 |_=>.non
theorem Lb (ho':om[ho]?=some (Y6 c hb hg)) (hd:om[hg]?=some (.dk (YK c off gs))∨om[hg]?=some (.dz (YK c off gs))) (k:Nat):Zq c [.o ho,.int ((off:Int)+k)] om=some (.ok (Uf off ((gs.lookup k).getD .stand)),om):=by
 generalize ho2:(gs.lookup k).getD .stand=o
 have e1:ZM 2 (RJ (f1 (Yw c.Orders "given") (Za 0)) (Za 1) (fC (.g c.STAND))) [some (.o ho),some (.int ((off:Int)+k)),none] om=some (.ok (.nx,[some (.o ho),some (.int ((off:Int)+k)),some (odG c off o)]),om):=by
  refine ZD (i:=2) (w:=odG c off o) ?_
  unfold RJ
  rw[Zo (X8 rfl ho' (Rk ..))]
  rw[← ho2]
  rcases hd with hd|hd
  ·refine (Zo (a:=()) (om1:=om) (by simp[U9,isD,hd])).trans ?_
   rw[Zo (Zb rfl),Zo Zp]
   cases hq:gs.lookup k with
   |none=>simp[SF,X4,hd,YR,UB,hq,odG]
   |some o=>simp[SF,X4,hd,YR,UB,hq]
  ·refine (Zo (a:=()) (om1:=om) (by simp[U9,isD,hd])).trans ?_
   rw[Zo (Zb rfl),Zo Zp]
   cases hq:gs.lookup k with
   |none=>simp[SF,X4,hd,YR,UB,hq,odG]
   |some o=>simp[SF,X4,hd,YR,UB,hq]
 have e2:fB (f2 kEq (f2 (Vn c.STAND) (Za 2) (fC (.int 0))) (fC (.str "move"))) [some (.o ho),some (.int ((off:Int)+k)),some (odG c off o)] om=some (.ok (decide (odN o="move")),om):=by
  refine ZP ((Zs (x:=.str (odN o)) (om1:=om) ((Zs (Zb rfl) Zp).trans ?_) Zp).trans (Up _ _ (Uo o) XG _))
  unfold Vn
  cases o with
  |stand=>rw[show odG c off .stand=.g c.STAND from rfl,IL]; exact ZU (k:=0) rfl rfl
  |move g=>exact ZU (k:=0) rfl rfl
  |help h g=>exact ZU (k:=0) rfl rfl
 refine Zy (sl1:=[some (.o ho),some (.int ((off:Int)+k)),some (odG c off o)]) ((Zg e1).trans ?_)
 cases o with
 |stand=>exact (Zg (ZI e2)).trans (Zr Zp)
 |help h g=>exact (Zg (ZI e2)).trans (Zr Zp)
 |move g=>exact ZT ((Yo e2).trans (Zr ((Zs (Zb rfl) Zp).trans (ZU (k:=1) rfl rfl))))
theorem EN (S:Os c om ho hb hg off gs) (k:Nat):Zq c [.o ho,.int ((off:Int)+k)] om=some (.ok (Uf off ((gs.lookup k).getD .stand)),om):=Lb S.o (.inl S.g) k
end
open PySem L2
theorem Vr {S:FS} {i:Nat} {om:List Ob} {sl:Sl} (hi:i < sl.length):∀{l:List Wv} (x:Option Wv),(∀w∈l,S (sl.set i (some w)) om=some (.ok (.nx,sl.set i (some w)),om))->∃y,Xz (tgN i) S l (sl.set i x) om=some (.ok (.nx,sl.set i y),om)
 |[],x,_=>⟨x,rfl⟩
 |w::l,x,h=>by
  obtain ⟨y,e⟩:=Vr hi (l:=l) (some w) fun u hu=>h u (.tail _ hu)
  refine ⟨y,?_⟩
  show (match tgN i w (sl.set i x) with|none=>Xn|some sl1=>bnd (S sl1) (Vd fun sl2=>Xz (tgN i) S l sl2)) om=_
  have e1:tgN i w (sl.set i x)=some (sl.set i (some w)):=by unfold tgN; rw[List.set_set]
  rw[e1]
  dsimp only
  rw[Zo (h w (.head _))]
  exact e
section
variable {c:CA} {om:List Ob} {ho hb hm hu hl hg size off:Nat} {f:List (Option Int)} {kvs:List (List Key × Wv)} {gs:Gs}
theorem SI (W:Wd c om hb hm hu hl size off f kvs) (S:Os c om ho hb hg off gs) (ps us:List Nat) (hp:∀k∈ps,k < f.length) (hus:∀k∈us,(at' f k).isSome=true) :
    YC c [.o ho,.lst (ps.map fun (k:Nat)=>.int ((off:Int)+k)),.lst (us.map fun (k:Nat)=>.int ((off:Int)+k))] om=some (.ok .non,om):=by
 generalize hA:Wv.lst (ps.map fun (k:Nat)=>.int ((off:Int)+k))=A
 generalize hB:Wv.lst (us.map fun (k:Nat)=>.int ((off:Int)+k))=B
 obtain ⟨y,e1⟩:=Vr (S:=XJ c) (i:=3) (om:=om) (sl:=[some (.o ho),some A,some B,none]) (by simp) (l:=ps.map fun (k:Nat)=>.int ((off:Int)+k)) none (fun w hw=>by
  obtain ⟨k,hk,rfl⟩:=List.mem_map.mp hw
  have hk:=W.inn (hp k hk)
  exact Yd ((ZJ (K0 (VP S rfl) W.b (Te ..)) (ZK W.m) (Wg _ _ _ (by decide) (by decide)) (Zd (Zb rfl) Zk) rfl).trans (TN c W.m hk.1 hk.2)))
 obtain ⟨z,e2⟩:=Vr (S:=XO c) (i:=3) (om:=om) (sl:=[some (.o ho),some A,some B,y]) (by simp) (l:=us.map fun (k:Nat)=>.int ((off:Int)+k)) y (fun w hw=>by
  obtain ⟨k,hk,rfl⟩:=List.mem_map.mp hw
  obtain ⟨s,hs⟩:=Option.isSome_iff_exists.mp (hus k hk)
  exact Yd ((ZJ (VP S rfl) (ZK W.b) (Y1 _ _ _ (by decide) (by decide)) (Zd (Zb rfl) Zk) rfl).trans (LF W hs)))
 have f1:XH (fun sl=>bnd ((Za 1) sl) Yb) (tgN 3) (XJ c) [some (.o ho),some A,some B,none] om=_:=Yx (sl1:=[]) ((Zo (Zb rfl)).trans (by rw[← hA]; rfl)) e1
 have f2:XH (fun sl=>bnd ((Za 2) sl) Yb) (tgN 3) (XO c) [some (.o ho),some A,some B,y] om=_:=Yx (sl1:=[]) ((Zo (Zb rfl)).trans (by rw[← hB]; rfl)) e2
 exact Va ((Zg f1).trans f2)
theorem WH (W:Wd c om hb hm hu hl size off f kvs) (S:Os c om ho hb hg off gs) {a b:Nat} (ha:a < f.length) (hbb:b < f.length) (hk:T3 kvs ((off:Int)+a) ((off:Int)+b)=true):Z2 c [.o ho,.int ((off:Int)+a),.int ((off:Int)+b)] om=some (.ok .non,om):=by
 refine Va (ZI (Wj (b:=true) (YE ((ZJ (K0 (VP S rfl) W.b (Te ..)) (ZK W.m) (Wg _ _ _ (by decide) (by decide)) (Zd (Zb rfl) (Zd (Zb rfl) Zk)) rfl).trans ((JD c W.m W.l (W.inn ha) (W.inn hbb)).trans ?_)))))
 rw[hk]
theorem Qq {ws:List Wv} {om:List Ob} (h:ws.length<=8):Yk ws om=some (.ok (.lst ws),om):=by
 have:=Z1
 unfold Yk
 rw[if_pos (by omega)]
 rfl
theorem EA (W:Wd c om hb hm hu hl size off f kvs) (S:Os c om ho hb hg off gs) {k g:Nat} {s:Int} (h:at' f k=some s) (hgl:g < f.length) (hk:T3 kvs ((off:Int)+k) ((off:Int)+g)=true) (hlen:gs.length < 100) :
    Vf c [.o ho,.int ((off:Int)+k),.int ((off:Int)+g)] om=some (.ok .non,om.set hg (.dk (YK c off (V5 gs k (.move g))))):=by
 have e1:Z8 (ZB c.Orders "need_all" 3 (YC c) (Za 0) (Ze (fA Yk (Ze (Za 1) (Ze (Za 2) Zm))) (Ze (fA Yk (Ze (Za 1) Zm)) Zm))) [some (.o ho),some (.int ((off:Int)+k)),some (.int ((off:Int)+g))] om=some (.ok (.nx,[some (.o ho),some (.int ((off:Int)+k)),some (.int ((off:Int)+g))]),om) :=
  Yd ((ZJ (Zb rfl) (ZK S.o) (Z4 _ _ _ (by decide) (by decide)) (Zd ((ZG (Zd (Zb rfl) (Zd (Zb rfl) Zk))).trans (Qq (by simp))) (Zd ((ZG (Zd (Zb rfl) Zk)).trans (Qq (by simp))) Zk)) rfl).trans
   (SI W S [k,g] [k] (by intro j hj; simp at hj; rcases hj with rfl|rfl; exact UQ h; exact hgl) (by intro j hj; simp at hj; subst hj; rw[h]; rfl)))
 have e2:Z8 (ZB c.Orders "need_beside" 3 (Z2 c) (Za 0) (Ze (Za 1) (Ze (Za 2) Zm))) [some (.o ho),some (.int ((off:Int)+k)),some (.int ((off:Int)+g))] om=some (.ok (.nx,[some (.o ho),some (.int ((off:Int)+k)),some (.int ((off:Int)+g))]),om) :=
  Yd ((ZJ (Zb rfl) (ZK S.o) (Z4 _ _ _ (by decide) (by decide)) (Zd (Zb rfl) (Zd (Zb rfl) Zk)) rfl).trans (WH W S (UQ h) hgl hk))
 exact Va ((Zg e1).trans ((Zg e2).trans (HR S (o:=.move g) ((ZG (Zd Zp (Zd (Zb rfl) Zk))).trans (Xx (by simp))) rfl rfl hlen)))
theorem C2 (W:Wd c om hb hm hu hl size off f kvs) (S:Os c om ho hb hg off gs) {k h g:Nat} {s t:Int} (hs:at' f k=some s) (ht:at' f h=some t) (hgl:g < f.length) (hne:h≠k) (hk:T3 kvs ((off:Int)+k) ((off:Int)+g)=true) (hh:h=g∨T3 kvs ((off:Int)+h) ((off:Int)+g)=true) (hlen:gs.length < 100) :
    VO c [.o ho,.int ((off:Int)+k),.int ((off:Int)+h),.int ((off:Int)+g)] om=some (.ok .non,om.set hg (.dk (YK c off (V5 gs k (.help h g))))):=by
 generalize hsl:([some (.o ho),some (.int ((off:Int)+k)),some (.int ((off:Int)+h)),some (.int ((off:Int)+g))]:Sl)=sl
 have s0:sl[0]?=some (some (.o ho)):=by rw[← hsl]; rfl
 have s1:sl[1]?=some (some (.int ((off:Int)+k))):=by rw[← hsl]; rfl
 have s2:sl[2]?=some (some (.int ((off:Int)+h))):=by rw[← hsl]; rfl
 have s3:sl[3]?=some (some (.int ((off:Int)+g))):=by rw[← hsl]; rfl
 have e1:Z8 (ZB c.Orders "need_all" 3 (YC c) (Za 0) (Ze (fA Yk (Ze (Za 1) (Ze (Za 2) (Ze (Za 3) Zm)))) (Ze (fA Yk (Ze (Za 1) (Ze (Za 2) Zm))) Zm))) sl om=some (.ok (.nx,sl),om) :=
  Yd ((ZJ (Zb s0) (ZK S.o) (Z4 _ _ _ (by decide) (by decide)) (Zd ((ZG (Zd (Zb s1) (Zd (Zb s2) (Zd (Zb s3) Zk)))).trans (Qq (by simp))) (Zd ((ZG (Zd (Zb s1) (Zd (Zb s2) Zk))).trans (Qq (by simp))) Zk)) rfl).trans
   (SI W S [k,h,g] [k,h] (by intro j hj; simp at hj; rcases hj with rfl|rfl|rfl; exact UQ hs; exact UQ ht; exact hgl) (by intro j hj; simp at hj; rcases hj with rfl|rfl; rw[hs]; rfl; rw[ht]; rfl)))
 have e2:fB (f2 kEq (Za 2) (Za 1)) sl om=some (.ok false,om):=ZP ((v2 s2 s1).trans ((Xw _ _ _).trans (by rw[decide_eq_false (by omega)])))
 have e3:Z8 (ZB c.Orders "need_beside" 3 (Z2 c) (Za 0) (Ze (Za 1) (Ze (Za 3) Zm))) sl om=some (.ok (.nx,sl),om) :=
  Yd ((ZJ (Zb s0) (ZK S.o) (Z4 _ _ _ (by decide) (by decide)) (Zd (Zb s1) (Zd (Zb s3) Zk)) rfl).trans (WH W S (UQ hs) hgl hk))
 have e4:sIf (fB (f2 kNe (Za 3) (Za 2))) (Z8 (ZB c.Orders "need_beside" 3 (Z2 c) (Za 0) (Ze (Za 2) (Ze (Za 3) Zm)))) Yr sl om=some (.ok (.nx,sl),om):=by
  have t:fB (f2 kNe (Za 3) (Za 2)) sl om=some (.ok (!decide ((off:Int)+g=(off:Int)+h)),om):=ZP ((v2 s3 s2).trans (WO _ _ _))
  by_cases hq:h=g
  ·rw[decide_eq_true (by omega)]at t
   exact ZI t
  ·rw[decide_eq_false (by omega)]at t
   refine (Yo t).trans (Yd ((ZJ (Zb s0) (ZK S.o) (Z4 _ _ _ (by decide) (by decide)) (Zd (Zb s2) (Zd (Zb s3) Zk)) rfl).trans (WH W S (UQ ht) hgl (hh.resolve_left hq))))
 refine Va (sl1:=sl) ?_
 show _=_
 have st:Ww 4 [.o ho,.int ((off:Int)+k),.int ((off:Int)+h),.int ((off:Int)+g)]=sl:=by rw[← hsl]; rfl
 rw[st]
 exact (Zg e1).trans ((Zg (ZI e2)).trans ((Zg e3).trans ((Zg e4).trans (HR S (o:=.help h g) ((ZG (Zd Zp (Zd (Zb s2) (Zd (Zb s3) Zk)))).trans (Xx (by simp))) s0 s1 hlen))))
def mvG (gs:Gs) (k:Nat):Bool:=Xd (some ((gs.lookup k).getD .stand))
theorem TC:∀{l m:List Int},l.Pairwise (· < ·)->m.Pairwise (· < ·)->(∀p,p∈l ↔ p∈m)->l=m
 |[],[],_,_,_=>rfl
 |[],y::m,_,_,h=>absurd ((h y).mpr (.head _)) (by simp)
 |x::l,[],_,_,h=>absurd ((h x).mp (.head _)) (by simp)
 |x::l,y::m,h1,h2,h=>by
  have h1':=List.pairwise_cons.mp h1
  have h2':=List.pairwise_cons.mp h2
  have e:x=y:=by
   rcases List.mem_cons.mp ((h x).mp (.head _)) with hx|hx
   ·exact hx
   ·rcases List.mem_cons.mp ((h y).mpr (.head _)) with hy|hy
    ·exact hy.symm
    ·have a:=h1'.1 y hy
     have b:=h2'.1 x hx
     omega
  subst e
  rw[TC h1'.2 h2'.2 fun p=>⟨fun hp=>?_,fun hp=>?_⟩]
  ·rcases List.mem_cons.mp ((h p).mp (.tail _ hp)) with z|z
   ·have:=h1'.1 p hp; omega
   ·exact z
  ·rcases List.mem_cons.mp ((h p).mpr (.tail _ hp)) with z|z
   ·have:=h2'.1 p hp; omega
   ·exact z
theorem O9 {l:List Int} (nd:l.Nodup):(VZ l).Pairwise (· < ·):=by
 have hn:(VZ l).Nodup:=(WI l).nodup_iff.mpr nd
 exact ((Sd l).and hn).imp fun {x y} h=>by
  have:=h.1
  have:=h.2
  omega
def Wn (off:Nat) (T:Nat->Option Od) (n:Nat):List Int:=((List.range n).filter fun k=>Xd (T k)).map fun (k:Nat)=>(off:Int)+k
theorem Qs (off:Nat) (T:Nat->Option Od) (n:Nat):(Wn off T n).Pairwise (· < ·):=by
 unfold Wn
 refine List.pairwise_map.mpr ((List.Pairwise.filter _ List.pairwise_lt_range).imp fun {a b} h=>?_)
 show (off:Int)+a < off+b
 omega
theorem MB {gs:Gs} {T:Nat->Option Od} (h:Tell gs T) (off n:Nat) (hn:∀k o,T k=some o->k < n):VZ ((gs.filter fun p=>Xd (some p.2)).map fun p=>(off:Int)+p.1)=Wn off T n:=by
 refine TC (O9 ?_) (Qs off T n) fun p=>?_
 ·have nd:((gs.filter fun p=>Xd (some p.2)).map (·.1)).Nodup:=h.nd.sublist (List.Sublist.map _ (List.filter_sublist ..))
  refine List.pairwise_map.mpr ((List.pairwise_map.mp nd).imp fun {a b} hab z=>hab ?_)
  have z:(off:Int)+a.1=off+b.1:=z
  omega
 ·rw[(WI _).mem_iff]
  unfold Wn
  constructor
  ·intro hp
   obtain ⟨q,hq,rfl⟩:=List.mem_map.mp hp
   obtain ⟨hq1,hq2⟩:=List.mem_filter.mp hq
   have hk:=h.key q.1 q.2 (WY h.nd hq1)
   exact List.mem_map.mpr ⟨q.1,List.mem_filter.mpr ⟨List.mem_range.mpr (hn _ _ hk),by rw[hk]; exact hq2⟩,rfl⟩
  ·intro hp
   obtain ⟨k,hk,rfl⟩:=List.mem_map.mp hp
   obtain ⟨_,hk2⟩:=List.mem_filter.mp hk
   match hT:T k with
   |none=>rw[hT]at hk2; cases hk2
   |some o =>
    rw[hT]at hk2
    have hg:=h.get k o hT
    cases hl:gs.lookup k with
    |none =>
     rw[hl]at hg
     have hg:Od.stand=o:=hg
     subst hg
     cases hk2
    |some q =>
     rw[hl]at hg
     have hg:q=o:=hg
     subst hg
     exact List.mem_map.mpr ⟨(k,q),List.mem_filter.mpr ⟨SE hl,hk2⟩,rfl⟩
theorem Td:∀ns:List Int,X9 (ns.map Wv.int)=some ns
 |[]=>rfl
 |n::r=>by
  show (match X9 (r.map Wv.int) with|some is=>some (n::is)|none=>none)=_
  rw[Td r]
theorem MC (off:Nat) (o:Od) (om:List Ob):Xv (Uf off o) om=some (.ok (.bl (Xd (some o))),om):=by
 cases o <;> rfl
theorem K8 (c:CA) (off:Nat) (gs:Gs):((YK c off gs).map fun p=>Tj p.1)=(gs.map fun p=>(off:Int)+p.1).map Wv.int:=by
 unfold YK
 rw[List.map_map,List.map_map]
 rfl
theorem SC {k:List Wv->Mw Wv} {cT:FT} {fE:FE} (hcT:∀om' (w:Wv),∀j:Nat,w=.int ((off:Int)+j)->om'[ho]?=some (Y6 c hb hg)->om'[hg]?=some (.dz (YK c off gs))->cT [some w,some (.o ho)] om'=some (.ok (mvG gs j),om')) (hfE:∀w om',fE [some w,some (.o ho)] om'=some (.ok w,om')) (S:Os c om ho hb hg off gs) (nd:(gs.map (·.1)).Nodup) (hlen:gs.length < 100) :
    WQ k [0] (f1 (Yw c.Orders "given") (Za 0)) cT fE [some (.o ho)] om=k (((gs.filter fun p=>Xd (some p.2)).map fun p=>(off:Int)+p.1).map Wv.int) om:=by
 have hlim:=Z1
 have nb:hg≠ho:=fun z=>by have h:=S.g; subst z; rw[S.o]at h; cases h
 have hlt:hg < om.length:=(List.getElem?_eq_some_iff.mp S.g).1
 have a1:(om.set hg (.dz (YK c off gs)))[ho]?=some (Y6 c hb hg):=by rw[List.getElem?_set_ne nb]; exact S.o
 have a2:(om.set hg (.dz (YK c off gs)))[hg]?=some (.dz (YK c off gs)):=by rw[List.getElem?_set_self hlt]
 unfold WQ
 rw[Zo (X8 rfl S.o (Rk ..))]
 refine (Zo (a:=(true,hg,(YK c off gs).map fun p=>Tj p.1)) (om1:=om.set hg (.dz (YK c off gs))) ?_).trans ?_
 ·have h1:(YK c off gs).length<=lim:=by rw[MX]; omega
  simp[L3,S.g,h1]
 dsimp only
 have pj:∀j:Nat,((off:Int)+j - off).toNat=j:=fun j=>by omega
 have e:=Tb (c:=cT) (f:=fE) (mk:=fun w=>Y9 [0] w [some (.o ho)]) (om:=om.set hg (.dz (YK c off gs))) (fun w=>match w with|.int i=>mvG gs (i - off).toNat|_=>false) (fun w=>w) (l:=(YK c off gs).map fun p=>Tj p.1)
  (fun w hw=>by
   rw[K8]at hw
   obtain ⟨i,hi,rfl⟩:=List.mem_map.mp hw
   obtain ⟨p,hp,rfl⟩:=List.mem_map.mp hi
   show cT [some (.int ((off:Int)+p.1)),some (.o ho)] _=some (.ok (mvG gs ((off:Int)+p.1 - off).toNat),_)
   rw[pj]
   exact hcT _ _ p.1 rfl a1 a2) (fun w hw _=>hfE w _)
 rw[Zo e]
 refine (Zo (a:=()) (om1:=om) ?_).trans ?_
 ·have:(om.set hg (.dz (YK c off gs))).set hg (.dk (YK c off gs))=om:=by
   rw[List.set_set]
   exact List.ext_getElem? fun i=>by
    by_cases h:hg=i
    ·subst h; rw[List.getElem?_set_self hlt,S.g]
    ·rw[List.getElem?_set_ne h]
  simp only[Ls,a2,this,if_true]
 ·refine congrArg (fun l=>k l om) ?_
  rw[List.map_id',K8,List.map_map]
  clear e a1 a2 hlt nb
  have key:∀l:Gs,(∀p∈l,gs.lookup p.1=some p.2)->(l.map (Wv.int ∘ fun p=>(off:Int)+p.1)).filter (fun w=>match w with|.int i=>mvG gs (i - off).toNat|_=>false)=((l.filter fun p=>Xd (some p.2)).map fun p=>(off:Int)+p.1).map Wv.int:=by
   intro l
   induction l with
   |nil=>intro _; rfl
   |cons p l ih =>
    intro hp
    have h1:=hp p (.head _)
    have e1:mvG gs ((off:Int)+p.1 - off).toNat=Xd (some p.2):=by
     rw[pj]
     unfold mvG
     rw[h1]
     rfl
    rw[List.map_cons,List.filter_cons,List.filter_cons]
    show (if mvG gs ((off:Int)+p.1 - off).toNat=true then _ else _)=_
    rw[e1,ih fun q hq=>hp q (.tail _ hq)]
    cases Xd (some p.2) <;> rfl
  exact key gs fun p hp=>WY nd hp
theorem J3 {T:Nat->Option Od} {n:Nat} (S:Os c om ho hb hg off gs) (t:Tell gs T) (hn:∀k o,T k=some o->k < n) (hlen:gs.length<=60):ZZ c [.o ho] om=some (.ok (.lst ((Wn off T n).map Wv.int)),om)∧Sz c [.o ho] om=some (.ok (.o om.length),om++[.lst ((Wn off T n).map Wv.int)]):=by
 have hlim:=Z1
 have hE:∀(w:Wv) (om':List Ob),(Za 0) [some w,some (.o ho)] om'=some (.ok w,om'):=fun w om'=>Zb rfl
 have hT:∀(om':List Ob) (w:Wv),∀j:Nat,w=.int ((off:Int)+j)->om'[ho]?=some (Y6 c hb hg)->om'[hg]?=some (.dz (YK c off gs))->(fB (f1 Xv (ZB c.Orders "goal_of" 2 (Zq c) (Za 1) (Ze (Za 0) Zm)))) [some w,some (.o ho)] om'=some (.ok (mvG gs j),om'):=fun om' w j hw h1 h2=>by
  subst hw
  exact ZP ((Xs ((ZJ (Zb rfl) (ZK h1) (Z4 _ _ _ (by decide) (by decide)) (Zd (Zb rfl) Zk) rfl).trans (Lb h1 (.inr h2) j))).trans (MC _ _ _))
 generalize hL:((gs.filter fun p=>Xd (some p.2)).map fun p=>(off:Int)+p.1)=L
 have hLl:L.length<=gs.length:=by rw[← hL,List.length_map]; exact List.length_filter_le _ _
 have es:VZ L=Wn off T n:=by rw[← hL]; exact MB t off n hn
 have hml:((Wn off T n).map Wv.int).length<=gs.length:=by rw[List.length_map,← es,(WI L).length_eq]; exact hLl
 have srt:∀k:List Wv->Mw Wv,WD k [.lst (L.map Wv.int)] om=k ((Wn off T n).map Wv.int) om:=fun k=>by
  show (match X9 (L.map Wv.int) with|some ns=>if ns.length < 64 then k ((VZ ns).map Wv.int) om else none|none=>none)=_
  rw[Td]
  show (if L.length < 64 then k ((VZ L).map Wv.int) om else none)=_
  rw[if_pos (by omega),es]
 have lay:Yk (L.map Wv.int) om=some (.ok (.lst (L.map Wv.int)),om):=by
  unfold Yk
  rw[if_pos (by rw[List.length_map]; omega)]
  rfl
 refine ⟨Zy (Zr ((ZG (Zd ((SC hT hE S t.nd (by omega)).trans (by rw[hL]; exact lay)) Zk)).trans ((srt Yk).trans ?_))),Zy (Zr ((ZG (Zd ((SC hT hE S t.nd (by omega)).trans (by rw[hL]; exact lay)) Zk)).trans ((srt YI).trans ?_)))⟩
 ·unfold Yk
  rw[if_pos (by omega)]
  rfl
 ·unfold YI
  rw[if_pos (by omega)]
  rfl
end
open PySem L2
theorem Gp:∀(n:Nat) (l:List Nat),l.Nodup->(∀x∈l,x < n)->l.length<=n
 |0,[],_,_=>Nat.le_refl _
 |0,x::_,_,h=>absurd (h x (.head _)) (by omega)
 |n+1,l,nd,h=>by
  have h1:=Gp n (l.erase n) (nd.erase n) fun x hx=>by
   have q:=(List.Nodup.mem_erase_iff nd).mp hx
   have:=h x q.2
   have:=q.1
   omega
  have h2:l.length<=(l.erase n).length+1:=by rw[List.length_erase]; split <;> omega
  omega
theorem Tell.len {gs:Gs} {T:Nat->Option Od} {n:Nat} (h:Tell gs T) (hn:∀k o,T k=some o->k < n):gs.length<=n:=by
 rw[← List.length_map (f:=(·.1))]
 refine Gp n _ h.nd fun x hx=>?_
 obtain ⟨p,hp,rfl⟩:=List.mem_map.mp hx
 exact hn _ _ (h.key p.1 p.2 (WY h.nd hp))
theorem Lg {om:List Ob} {i:Nat} {x:Ob} (h:om[i]?=some x):om.set i x=om:=List.ext_getElem? fun j=>by
 by_cases e:i=j
 ·subst e; rw[List.getElem?_set_self (List.getElem?_eq_some_iff.mp h).1,h]
 ·rw[List.getElem?_set_ne e]
section
variable {c:CA} {om:List Ob} {ho hb hm hu hl hg size off:Nat} {f:List (Option Int)} {kvs:List (List Key × Wv)} {gs:Gs} {rows:Mx}
theorem Os.at (S:Os c om ho hb hg off gs) (gs':Gs):Os c (om.set hg (.dk (YK c off gs'))) ho hb hg off gs':=by
 have nb:hg≠ho:=fun z=>by have h:=S.g; subst z; rw[S.o]at h; cases h
 exact ⟨by rw[List.getElem?_set_ne nb]; exact S.o,by rw[List.getElem?_set_self (List.getElem?_eq_some_iff.mp S.g).1]⟩
def gvn (gs:Gs) (k:Nat):Option Od->Gs
 |none=>gs
 |some o=>V5 gs k o
theorem Hw (o:Od) (om:List Ob):Xe false (.str (odN o)) (.str "stand") om=some (.ok (.bl (decide (odN o="stand"))),om):=Up _ _ (Uo o) Tu _
theorem FM {tw:Wv} {told:List (Option Od)} (W:Wd c om hb hm hu hl size off f kvs) (S:Os c om ho hb hg off gs) (mo:Pr rows off kvs) (G:Givn rows f told) (ht:Yq om tw=some (told.map odW)) {k:Nat} (hk:k < f.length) (hlen:gs.length < 100) :
    g__law_give c [.o ho,.int off,tw,.int k] om=some (.ok .non,om.set hg (.dk (YK c off (gvn gs k (at' told k))))):=by
 have hkt:k < told.length:=by rw[G.len]; exact hk
 have ok:=G.ok k hk
 have e0:∀{o:Option Od},at' told k=o->ZM 4 (f2 kIx (Za 2) (Za 3)) [some (.o ho),some (.int off),some tw,some (.int k),none] om=some (.ok (.nx,[some (.o ho),some (.int off),some tw,some (.int k),some (odW o)]),om):=fun {o} ho=>by
  have e:=YW (k:=k) ht hkt none
  rw[show told.getD k none=o from ho]at e
  exact ZD (i:=4) ((v2 rfl rfl).trans e)
 have hl2:∀{i j:Nat},X3 rows i j=true->T3 kvs ((off:Int)+i) ((off:Int)+j)=true:=fun {i j} h=>(mo _ _).mpr ⟨i,j,rfl,rfl,h⟩
 match ho2:at' told k,ok with
 |none,ok =>
  have t:fB (f1 XT (Za 4)) [some (.o ho),some (.int off),some tw,some (.int k),some (odW none)] om=some (.ok true,om):=ZP ((Xs (Zb rfl)).trans rfl)
  rw[show gvn gs k none=gs from rfl,Lg S.g]
  exact Zy ((Zg (e0 ho2)).trans (ZT ((Yo t).trans rfl)))
 |some o,ok =>
  have t:fB (f1 XT (Za 4)) [some (.o ho),some (.int off),some tw,some (.int k),some (odW (some o))] om=some (.ok false,om):=ZP ((Xs (Zb rfl)).trans (Hc _ _))
  have t1:fB (f2 kEq (f2 kIx (Za 4) (fC (.int 0))) (fC (.str "stand"))) [some (.o ho),some (.int off),some tw,some (.int k),some (odW (some o))] om=some (.ok (decide (odN o="stand")),om):=ZP ((Zs ((Zs (Zb rfl) Zp).trans (LQ o _)) Zp).trans (Hw _ _))
  have t2:fB (f2 kEq (f2 kIx (Za 4) (fC (.int 0))) (fC (.str "move"))) [some (.o ho),some (.int off),some tw,some (.int k),some (odW (some o))] om=some (.ok (decide (odN o="move")),om):=ZP ((Zs ((Zs (Zb rfl) Zp).trans (LQ o _)) Zp).trans (Up _ _ (Uo o) XG _))
  have ak:f2 Xy (Za 1) (Za 3) [some (.o ho),some (.int off),some tw,some (.int k),some (odW (some o))] om=some (.ok (.int ((off:Int)+k)),om):=(v2 rfl rfl).trans rfl
  refine Va (sl1:=[some (.o ho),some (.int off),some tw,some (.int k),some (odW (some o))]) ((Zg (e0 ho2)).trans ((Zg (ZI t)).trans ?_))
  match o,ok with
  |.stand,ok =>
   obtain ⟨s,hs⟩:=Option.isSome_iff_exists.mp ok
   exact (Yo t1).trans (Yd ((ZJ (Zb rfl) (ZK S.o) (Z4 _ _ _ (by decide) (by decide)) (Zd ak Zk) rfl).trans (N8 W S hs hlen)))
  |.move g,ok =>
   obtain ⟨s,hs⟩:=Option.isSome_iff_exists.mp ok.1
   have ag:f2 Xy (Za 1) (f2 kIx (Za 4) (fC (.int 1))) [some (.o ho),some (.int off),some tw,some (.int k),some (odW (some (.move g)))] om=some (.ok (.int ((off:Int)+g)),om):=(Zs (Zb rfl) ((Zs (Zb rfl) Zp).trans (Ab g _))).trans rfl
   exact (Rq t1).trans ((Yo t2).trans (Yd ((ZJ (Zb rfl) (ZK S.o) (Z4 _ _ _ (by decide) (by decide)) (Zd ak (Zd ag Zk)) rfl).trans (EA W S hs ok.2.1 (hl2 ok.2.2) hlen))))
  |.help h g,ok =>
   obtain ⟨s,hs⟩:=Option.isSome_iff_exists.mp ok.1
   obtain ⟨_,hh,hgl,hne,hsome,l1,l2⟩:=ok
   obtain ⟨s2,hs2⟩:=Option.isSome_iff_exists.mp hsome
   have ah:f2 Xy (Za 1) (f2 kIx (Za 4) (fC (.int 1))) [some (.o ho),some (.int off),some tw,some (.int k),some (odW (some (.help h g)))] om=some (.ok (.int ((off:Int)+h)),om):=(Zs (Zb rfl) ((Zs (Zb rfl) Zp).trans (CQ h g _))).trans rfl
   have ag:f2 Xy (Za 1) (f2 kIx (Za 4) (fC (.int 2))) [some (.o ho),some (.int off),some tw,some (.int k),some (odW (some (.help h g)))] om=some (.ok (.int ((off:Int)+g)),om):=(Zs (Zb rfl) ((Zs (Zb rfl) Zp).trans (Cj h g _))).trans rfl
   exact (Rq t1).trans ((Rq t2).trans (Yd ((ZJ (Zb rfl) (ZK S.o) (Z4 _ _ _ (by decide) (by decide)) (Zd ak (Zd ah (Zd ag Zk))) rfl).trans (C2 W S hs hs2 hgl hne (hl2 l1) (l2.imp id hl2) hlen))))
def U6 (told:List (Option Od)) (T:Nat->Option Od) (k j:Nat):Option Od:=if j < k then at' told j else T j
theorem Ih (told:List (Option Od)) (T:Nat->Option Od):U6 told T 0=T:=by funext j; unfold U6; rw[if_neg (by omega)]
theorem Iu (told:List (Option Od)) (T:Nat->Option Od) (k:Nat):U6 told T (k+1)=fun j=>if j=k then at' told k else U6 told T k j:=by
 funext j
 unfold U6
 by_cases h:j=k
 ·subst h; rw[if_pos (by omega),if_pos rfl]
 ·rw[if_neg h]
  by_cases h2:j < k
  ·rw[if_pos h2,if_pos (by omega)]
  ·rw[if_neg h2,if_neg (by omega)]
def Same' (f:List (Option Int)) (T:Nat->Option Od):Prop:=∀j,(T j).isSome=(at' f j).isSome
theorem Givn.same {told:List (Option Od)} (G:Givn rows f told):Same' f (at' told):=fun j=>by
 by_cases h:j < f.length
 ·have:=G.okT.both j (by rw[G.len]; exact h)
  exact Bool.eq_iff_iff.mpr this
 ·rw[VT h,VT (by rw[G.len]; exact h)]; rfl
theorem Same'.lt {T:Nat->Option Od} (h:Same' f T):∀k o,T k=some o->k < f.length:=fun k o e=>by
 have q:=h k
 rw[e]at q
 obtain ⟨s,hs⟩:=Option.isSome_iff_exists.mp q.symm
 exact UQ hs
theorem Same'.mix {told:List (Option Od)} {T:Nat->Option Od} (G:Givn rows f told) (h:Same' f T) (k:Nat):Same' f (U6 told T k):=fun j=>by
 unfold U6
 by_cases hj:j < k
 ·rw[if_pos hj]; exact G.same j
 ·rw[if_neg hj]; exact h j
theorem Tell.give {told:List (Option Od)} {T:Nat->Option Od} {k:Nat} (G:Givn rows f told) (hs:Same' f T) (t:Tell gs (U6 told T k)):Tell (gvn gs k (at' told k)) (U6 told T (k+1)):=by
 rw[Iu]
 match h:at' told k with
 |none =>
  have e:(fun j=>if j=k then (none:Option Od) else U6 told T k j)=U6 told T k:=by
   funext j
   by_cases hj:j=k
   ·subst hj
    rw[if_pos rfl]
    have a:=G.same j
    have b:=hs j
    unfold U6
    rw[if_neg (by omega)]
    rw[h]at a
    rw[← a]at b
    cases q:T j with
    |none=>rfl
    |some o=>rw[q]at b; cases b
   ·rw[if_neg hj]
  rw[e]
  exact t
 |some o=>exact t.put k o
theorem Pz {tw:Wv} {told:List (Option Od)} {T:Nat->Option Od} {B:FS} {i:Nat} {sl:Sl} (W:Wd c om hb hm hu hl size off f kvs) (S:Os c om ho hb hg off gs) (hne:hg≠hu) (mo:Pr rows off kvs) (G:Givn rows f told) (t:Tell gs T) (hs:Same' f T)
    (ht:∀om',(∀j,j≠hg->om'[j]?=om[j]?)->Yq om' tw=some (told.map odW)) (hB:∀(k:Nat) om1 om2,g__law_give c [.o ho,.int off,tw,.int k] om1=some (.ok .non,om2)->(∀j,j≠hg->om1[j]?=om[j]?)->B (sl.set i (some (.int k))) om1=some (.ok (.nx,sl.set i (some (.int k))),om2)) :
    ∃gs' x,Xz (tgN i) B (Xm f.length) sl om=some (.ok (.nx,sl.set i x),om.set hg (.dk (YK c off gs')))∧Tell gs' (at' told):=by
 have hsl:∀l:Sl,l=l.set i ((l[i]?).getD none):=fun l=>List.ext_getElem? fun j=>by
  by_cases h:i=j
  ·subst h
   by_cases hlt:i < l.length
   ·rw[List.getElem?_set_self hlt]; simp[hlt]
   ·rw[List.getElem?_eq_none (by omega),List.getElem?_eq_none (by simp; omega)]
  ·rw[List.getElem?_set_ne h]
 obtain ⟨sl',om',hf,gs',x,rfl,rfl,t'⟩:=WE (T:=tgN i) (S:=B) (n:=f.length) (fun k sl' om'=>∃gs' x,sl'=sl.set i x∧om'=om.set hg (.dk (YK c off gs'))∧Tell gs' (U6 told T k)) (sl:=sl) (om:=om) (fun k hk sl' om' ⟨gs',x,e1,e2,t'⟩=>by
  subst e1 e2
  have hg1:gs'.length<=f.length:=t'.len (Same'.mix G hs k).lt
  have hf:=W.few
  have hf2:=W.fit
  have oth:∀j,j≠hg->(om.set hg (.dk (YK c off gs')))[j]?=om[j]?:=fun j hj=>by rw[List.getElem?_set_ne (Ne.symm hj)]
  have e:=FM (W.set (x:=.dk (YK c off gs')) S.g hne) (S.at gs') mo G (ht _ oth) hk (by omega)
  rw[List.set_set]at e
  refine ⟨sl.set i (some (.int k)),.nx,_,_,?_,hB k _ _ e oth,.inl rfl,_,_,rfl,rfl,t'.give G hs⟩
  unfold tgN
  rw[List.set_set]) ⟨gs,(sl[i]?).getD none,hsl sl,(Lg S.g).symm,by rw[Ih]; exact t⟩
 refine ⟨gs',x,hf,?_⟩
 have e:U6 told T f.length=at' told:=by
  funext j
  unfold U6
  by_cases h:j < f.length
  ·rw[if_pos h]
  ·rw[if_neg h,VT (by rw[G.len]; exact h)]
   have:=hs j
   rw[VT h]at this
   cases q:T j with
   |none=>rfl
   |some o=>rw[q]at this; cases this
 rw[← e]
 exact t'
theorem Ng (c:CA) (om:List Ob) (hb:Nat):WT c.Orders 2 (XC c) [.o hb] om=some (.ok (.o om.length),om++[Y6 c hb (om.length+1),.dk []]):=by
 simp[XC,UN,Ym,Ww,ZE,Kp,ZM,Z8,ZS,Px,sIf,Yr,Za,fC,f1,f2,fB,kB,fA,Ze,Zm,YT,Yq,bnd,L2.ret,kI,kIc,kIx,Ma,X1,fOr,Ws,Wq,EK,VV,XT,Xv,UE,UJ,To,UI,UD,Ra,Qo,RD,NV,Kd.isi,YG,L6,SQ,Yw,W4,ZB,MT,kN,chk,WT,Ui,Q4,Ts,newO,TX,X4,YR,Y2,UM,Sv,SU,TM,U9,isD,EI,G9,Wu,Sy,SZ,Gz,L2.On,XA,Yk,YI,MJ,RH,kSl,fSl,FC,Jb,MW,WM,Tx,Xj,Yn,XH,Yb,Xc,tgN,NC,VR,VB,ZL,EM,Ea,kUn,XE,EV,Xn,VI,Xa,L2.WO,L2.Xw,List.lookup_cons,List.lookup_nil]
theorem CO (c:CA) (om:List Ob) (hb off:Nat):Os c (om++[Y6 c hb (om.length+1),.dk []]) om.length hb (om.length+1) off []:=⟨by simp,by simp[YK]⟩
theorem Aa {many:Nat} (hf:f.length=many) (h1:off+many<=size) (h2:size<=60):Wd c (X2 c om size kvs (Xl off f many)) (om.length+2) om.length (om.length+3) (om.length+1) size off f kvs:=by
 subst hf
 exact ⟨by simp[X2],by simp[X2],by simp[X2],by simp[X2],h1,h2⟩
end
end MP
namespace MP
noncomputable section
open PySem L2
def PP (c:CA):FT :=
 (X1 (fB (f2 kEq (ZB c.Orders "goal_of" 2 (Zq c) (Za 1) (Ze (Za 0) Zm)) (Za 2))) (fB (f2 kNe (ZB c.Board "side_at" 2 (ZR c) (f1 (Yw c.Orders "board") (Za 1)) (Ze (Za 0) Zm)) (Za 3))))
def Oe (c:CA):FE :=
 (Za 0)
def Sf (c:CA):FE :=
 (f2 kNe (Za 0) (f2 (Vn c.STAND) (Za 1) (fC (.int 2))))
def IV (c:CA):FS :=
 (ZE (ZM 2 (ZB c.Orders "told" 2 (Yz c) (Za 0) (Ze (Za 1) Zm)))
  (ZE (sIf (fB (f2 kNe (f2 (Vn c.STAND) (Za 2) (fC (.int 0))) (fC (.str "help")))) (ZS (fC (.bl false))) Yr)
  (ZE (ZM 3 (ZB c.Board "side_at" 2 (ZR c) (f1 (Yw c.Orders "board") (Za 0)) (Ze (Za 1) Zm)))
  (ZE (ZM 4 (Yn Yk [0,1,3] (fun sl=>bnd ((ZB c.Orders "movers" 1 (ZZ c) (Za 0) Zm) sl) Yb) (PP c) (Oe c)))
  (ZS (fA EQ (Ze (Yn Yk [2] (fun sl=>bnd ((Za 4) sl) Yb) XE (Sf c)) Zm)))))))
def g_is_cut (c:CA):List Wv->Mw Wv:=Ym 5 (IV c)
def BG (c:CA):FS :=
 (ZE (sIf (fB (f2 kEq (Za 2) (Za 1))) (ZS (f1 XT (ZB c.Orders "goal_of" 2 (Zq c) (Za 0) (Ze (Za 1) Zm)))) Yr)
  (ZS (f2 kEq (ZB c.Orders "goal_of" 2 (Zq c) (Za 0) (Ze (Za 1) Zm)) (Za 2))))
def g_fits (c:CA):List Wv->Mw Wv:=Ym 3 (BG c)
def GA (c:CA):FS :=
 (ZE (ZM 2 (ZB c.Orders "told" 2 (Yz c) (Za 0) (Ze (Za 1) Zm)))
  (ZS (Wq (f2 kEq (f2 (Vn c.STAND) (Za 2) (fC (.int 0))) (fC (.str "help"))) (Wq (fA (kN 3 (g_fits c)) (Ze (Za 0) (Ze (f2 (Vn c.STAND) (Za 2) (fC (.int 1))) (Ze (f2 (Vn c.STAND) (Za 2) (fC (.int 2))) Zm)))) (f1 Qo (fA (kN 2 (g_is_cut c)) (Ze (Za 0) (Ze (Za 1) Zm))))))))
def g_counts (c:CA):List Wv->Mw Wv:=Ym 3 (GA c)
def ED (c:CA):FS :=
 (ZE (ZM 3 (ZB c.Orders "told" 2 (Yz c) (Za 0) (Ze (Za 1) Zm)))
  (ZS (Wq (f2 kEq (f2 (Vn c.STAND) (Za 3) (fC (.int 0))) (fC (.str "help"))) (Wq (f2 kEq (f2 (Vn c.STAND) (Za 3) (fC (.int 1))) (Za 2)) (fA (kN 2 (g_counts c)) (Ze (Za 0) (Ze (Za 1) Zm)))))))
def g_backs (c:CA):List Wv->Mw Wv:=Ym 4 (ED c)
def LO (c:CA):FT :=
 (YG (fA (kN 3 (g_backs c)) (Ze (Za 2) (Ze (Za 0) (Ze (Za 3) Zm)))))
def LW (c:CA):FE :=
 (Za 1)
def Ji (c:CA):FS :=
 (ZS (No Yk 2 [0,1] (fun sl=>bnd ((ZB c.Board "roll" 1 (Wx c) (f1 (Yw c.Orders "board") (Za 0)) Zm) sl) Yb) (LO c) (LW c)))
def g_backing (c:CA):List Wv->Mw Wv:=Ym 2 (Ji c)
def FL (c:CA):FS :=
 (ZE (sIf (fB (f1 XT (ZB c.Orders "goal_of" 2 (Zq c) (Za 0) (Ze (Za 1) Zm)))) (ZS (fC (.int 0))) Yr)
  (ZS (f2 Xy (fC (.int 1)) (fA YT (Ze (fA (kN 2 (g_backing c)) (Ze (Za 0) (Ze (Za 1) Zm))) Zm)))))
def g_force (c:CA):List Wv->Mw Wv:=Ym 2 (FL c)
def Se (c:CA):FT :=
 (fB (f2 kNe (Za 0) (Za 1)))
def Sb (c:CA):FE :=
 (Za 0)
def S6 (c:CA):FS :=
 (ZE (sIf (fB (f1 XT (ZB c.Orders "goal_of" 2 (Zq c) (Za 0) (Ze (Za 1) Zm)))) (ZS (fC (.int 0))) Yr)
  (ZS (f2 Xy (fC (.int 1)) (fA YT (Ze (Yn Yk [2] (fun sl=>bnd ((fA (kN 2 (g_backing c)) (Ze (Za 0) (Ze (Za 1) Zm))) sl) Yb) (Se c) (Sb c)) Zm)))))
def g_force_against (c:CA):List Wv->Mw Wv:=Ym 3 (S6 c)
def L0 (c:CA):FS :=
 (ZE (sIf (fB (f1 Xv (ZB c.Orders "goal_of" 2 (Zq c) (Za 0) (Ze (Za 1) Zm)))) (ZS (fC (.int 1))) Yr)
  (ZS (f2 Xy (fC (.int 1)) (fA YT (Ze (fA (kN 2 (g_backing c)) (Ze (Za 0) (Ze (Za 1) Zm))) Zm)))))
def g_firmness (c:CA):List Wv->Mw Wv:=Ym 2 (L0 c)
end
open PySem L2
theorem YL {α:Type} {cT:FT} {f:FE} {mk:Wv->Sl} {om:List Ob} (φ:α->Wv) (p:α->Bool) (g:α->Wv):∀{l:List α},(∀a∈l,cT (mk (φ a)) om=some (.ok (p a),om))->(∀a∈l,p a=true->f (mk (φ a)) om=some (.ok (g a),om))->Xi cT f mk (l.map φ) om=some (.ok ((l.filter p).map g),om)
 |[],_,_=>rfl
 |a::l,h1,h2=>by
  have ih:=YL φ p g (l:=l) (fun b hb=>h1 b (.tail _ hb)) (fun b hb=>h2 b (.tail _ hb))
  have c1:ZL (cT (mk (φ a))) om=some (.ok (p a),om):=by simp[ZL,h1 a (.head _)]
  rw[List.map_cons]
  show bnd (ZL (cT (mk (φ a)))) (VJ (Xi cT f mk (l.map φ)) (f (mk (φ a)))) om=_
  rw[Zo c1,List.filter_cons]
  cases hp:p a with
  |false=>exact ih
  |true =>
   have c2:ZL (f (mk (φ a))) om=some (.ok (g a),om):=by simp[ZL,h2 a (.head _) hp]
   show bnd (ZL (f (mk (φ a)))) (fun x=>bnd (Xi cT f mk (l.map φ)) fun xs=>L2.ret (x::xs)) om=_
   rw[Zo c2,Zo ih]
   rfl
theorem Tf {α:Type} (b:α->Bool):∀l:List α,Vl (l.map fun a=>Wv.bl (b a))=some (l.map b)
 |[]=>rfl
 |a::l=>by
  show (match Vl (l.map fun a=>Wv.bl (b a)) with|some bs=>some (b a::bs)|none=>none)=_
  rw[Tf b l]
  rfl
theorem Fd (c:CA) (off:Nat) (o:Od) (om:List Ob):Vn c.STAND (odG c off o) (.int 0) om=some (.ok (.str (odN o)),om):=by
 unfold Vn
 cases o with
 |stand=>rw[show odG c off .stand=.g c.STAND from rfl,IL]; exact ZU (k:=0) rfl rfl
 |move g=>exact ZU (k:=0) rfl rfl
 |help h g=>exact ZU (k:=0) rfl rfl
theorem Dc (c:CA) (off h g:Nat) (om:List Ob):Vn c.STAND (odG c off (.help h g)) (.int 1) om=some (.ok (.int ((off:Int)+h)),om):=ZU (k:=1) rfl rfl
theorem DS (c:CA) (off h g:Nat) (om:List Ob):Vn c.STAND (odG c off (.help h g)) (.int 2) om=some (.ok (.int ((off:Int)+g)),om):=ZU (k:=2) rfl rfl
theorem UF {fa fb:FE} {sl:Sl} {om om1:List Ob} (h:fa sl om=some (.ok (.bl false),om1)):Wq fa fb sl om=some (.ok (.bl false),om1):=by simp[Wq,bnd,h,kB,L2.ret]
theorem Nj {fa fb:FE} {sl:Sl} {om:List Ob} {a b:Bool} (h:fa sl om=some (.ok (.bl a),om)) (h2:a=true->fb sl om=some (.ok (.bl b),om)):Wq fa fb sl om=some (.ok (.bl (a&&b)),om):=by
 cases a with
 |false=>exact UF h
 |true=>exact (Rn h).trans (h2 rfl)
theorem Qn (off a b:Nat):decide ((off:Int)+a=(off:Int)+b)=decide (a=b):=by
 by_cases h:a=b
 ·rw[decide_eq_true h,decide_eq_true (by omega)]
 ·rw[decide_eq_false h,decide_eq_false (by omega)]
theorem S9 (off:Nat) (o:Od) (g:Nat) (om:List Ob):Xe false (Uf off o) (.int ((off:Int)+g)) om=some (.ok (.bl (decide (o=.move g))),om):=by
 cases o with
 |stand=>simp[Uf,Xe,YQ,XS,X0,PyData.canLay0,PyData.depth,PyData.eqv]
 |help a b=>simp[Uf,Xe,YQ,XS,X0,PyData.canLay0,PyData.depth,PyData.eqv]
 |move a =>
  refine (Xw _ _ _).trans ?_
  rw[Qn]
  by_cases h:a=g
  ·subst h; simp
  ·rw[decide_eq_false h,decide_eq_false (fun z=>h (Od.move.inj z))]
theorem Qb (off:Nat) (o:Od) (om:List Ob):XT (Uf off o) om=some (.ok (.bl (!Xd (some o))),om):=by cases o <;> rfl
section
variable {c:CA} {om:List Ob} {ho hb hm hu hl hg size off:Nat} {f:List (Option Int)} {kvs:List (List Key × Wv)} {gs:Gs} {rows:Mx} {told:List (Option Od)}
def Eu (told:List (Option Od)) (f:List (Option Int)) (k:Nat):Bool:=match at' told k with
 |some (.help _ g)=>SY told f k g
 |_=>false
theorem LR (W:Wd c om hb hm hu hl size off f kvs) (S:Os c om ho hb hg off gs) (G:Givn rows f told) (t:Tell gs (at' told)) {k:Nat} {o:Od} (h:at' told k=some o):Yz c [.o ho,.int ((off:Int)+k)] om=some (.ok (odG c off o),om):=by
 have hs:=G.same k
 rw[h]at hs
 obtain ⟨s,e⟩:=Option.isSome_iff_exists.mp hs.symm
 rw[Fo W S e,t.get k o h]
theorem Nv (S:Os c om ho hb hg off gs) (t:Tell gs (at' told)) {k:Nat} {o:Od} (h:at' told k=some o):Zq c [.o ho,.int ((off:Int)+k)] om=some (.ok (Uf off o),om):=by
 rw[EN S k,t.get k o h]
theorem M8 (W:Wd c om hb hm hu hl size off f kvs) (S:Os c om ho hb hg off gs) (G:Givn rows f told) (t:Tell gs (at' told)):ZZ c [.o ho] om=some (.ok (.lst (((List.range f.length).filter fun k=>Xd (at' told k)).map fun (k:Nat)=>Wv.int ((off:Int)+k))),om):=by
 have h1:=t.len G.same.lt
 have h2:=W.fit
 have h3:=W.few
 rw[(J3 (n:=f.length) S t G.same.lt (by omega)).1]
 unfold Wn
 rw[List.map_map]
 rfl
theorem Fq (G:Givn rows f told) (k g:Nat):(((List.range f.length).filter fun m=>Xd (at' told m)).filter fun m=>decide (at' told m=some (.move k))&&!decide (at' f m=at' f k)).any (fun m=>!decide (m=g))=SY told f k g:=by
 unfold SY
 rw[G.len]
 refine Bool.eq_iff_iff.mpr ?_
 rw[List.any_eq_true,List.any_eq_true]
 constructor
 ·rintro ⟨m,hm,h⟩
  obtain ⟨hm1,hm2⟩:=List.mem_filter.mp hm
  obtain ⟨hm3,_⟩:=List.mem_filter.mp hm1
  obtain ⟨a,b⟩:=Bool.and_eq_true_iff.mp hm2
  exact ⟨m,hm3,by rw[a,h,b]; rfl⟩
 ·rintro ⟨m,hm,h⟩
  obtain ⟨a,h2⟩:=Bool.and_eq_true_iff.mp h
  obtain ⟨b,d⟩:=Bool.and_eq_true_iff.mp h2
  refine ⟨m,List.mem_filter.mpr ⟨List.mem_filter.mpr ⟨hm,?_⟩,by rw[a,d]; rfl⟩,b⟩
  rw[of_decide_eq_true a]
  rfl
theorem JU (W:Wd c om hb hm hu hl size off f kvs) (S:Os c om ho hb hg off gs) (G:Givn rows f told) (t:Tell gs (at' told)) {k:Nat} {o:Od} (h:at' told k=some o):g_is_cut c [.o ho,.int ((off:Int)+k)] om=some (.ok (.bl (Eu told f k)),om):=by
 have hlim:=Z1
 have hk:k < f.length:=G.same.lt k o h
 have h2:=W.fit
 have h3:=W.few
 have e1:ZM 2 (ZB c.Orders "told" 2 (Yz c) (Za 0) (Ze (Za 1) Zm)) [some (.o ho),some (.int ((off:Int)+k)),none,none,none] om=some (.ok (.nx,[some (.o ho),some (.int ((off:Int)+k)),some (odG c off o),none,none]),om) :=
  ZD (i:=2) ((ZJ (Zb rfl) (ZK S.o) (Z4 _ _ _ (by decide) (by decide)) (Zd (Zb rfl) Zk) rfl).trans (LR W S G t h))
 have t1:fB (f2 kNe (f2 (Vn c.STAND) (Za 2) (fC (.int 0))) (fC (.str "help"))) [some (.o ho),some (.int ((off:Int)+k)),some (odG c off o),none,none] om=some (.ok (!decide (odN o="help")),om):=ZP ((Zs ((Zs (Zb rfl) Zp).trans (Fd c off o _)) Zp).trans (L8 _ _ (Uo o) Wm _))
 unfold Eu
 rw[h]
 match o,h with
 |.stand,h=>exact Zy ((Zg e1).trans (ZT ((Yo t1).trans (Zr Zp))))
 |.move g,h=>exact Zy ((Zg e1).trans (ZT ((Yo t1).trans (Zr Zp))))
 |.help q g,h =>
  have e3:ZM 3 (ZB c.Board "side_at" 2 (ZR c) (f1 (Yw c.Orders "board") (Za 0)) (Ze (Za 1) Zm)) [some (.o ho),some (.int ((off:Int)+k)),some (odG c off (.help q g)),none,none] om=some (.ok (.nx,[some (.o ho),some (.int ((off:Int)+k)),some (odG c off (.help q g)),some (Zv (at' f k)),none]),om) :=
   ZD (i:=3) ((ZJ (VP S rfl) (ZK W.b) (Y1 _ _ _ (by decide) (by decide)) (Zd (Zb rfl) Zk) rfl).trans (O4 W hk))
  generalize hA:((List.range f.length).filter fun m=>Xd (at' told m))=A
  have hAm:∀m∈A,m < f.length∧∃g',at' told m=some (.move g'):=fun m hm=>by
   rw[← hA]at hm
   obtain ⟨a,b⟩:=List.mem_filter.mp hm
   refine ⟨List.mem_range.mp a,?_⟩
   match e:at' told m,b with
   |some (.move g'),_=>exact ⟨g',rfl⟩
  have hAl:A.length<=f.length:=by rw[← hA]; exact Nat.le_trans (List.length_filter_le _ _) (by simp)
  have mv:=M8 W S G t
  rw[hA]at mv
  generalize hp:(fun m=>decide (at' told m=some (.move k))&&!decide (at' f m=at' f k))=p
  have e4:ZM 4 (Yn Yk [0,1,3] (fun sl=>bnd ((ZB c.Orders "movers" 1 (ZZ c) (Za 0) Zm) sl) Yb) (PP c) (Oe c)) [some (.o ho),some (.int ((off:Int)+k)),some (odG c off (.help q g)),some (Zv (at' f k)),none] om=some (.ok (.nx,[some (.o ho),some (.int ((off:Int)+k)),some (odG c off (.help q g)),some (Zv (at' f k)),some (.lst ((A.filter p).map fun (m:Nat)=>Wv.int ((off:Int)+m)))]),om):=by
   refine ZD (i:=4) ((X7 (ws:=A.map fun (m:Nat)=>Wv.int ((off:Int)+m)) (om1:=om) ((Zo ((ZJ (Zb rfl) (ZK S.o) (Z4 _ _ _ (by decide) (by decide)) Zk rfl).trans mv)).trans rfl) (by rw[List.length_map]; omega) (YL (fun (m:Nat)=>Wv.int ((off:Int)+m)) p (fun (m:Nat)=>Wv.int ((off:Int)+m)) (fun m hm=>?_) (fun m hm _=>Zb rfl))).trans ?_)
   ·obtain ⟨hm1,g',hm2⟩:=hAm m hm
    rw[← hp]
    refine WJ (ZP ((Zs ((ZJ (Zb rfl) (ZK S.o) (Z4 _ _ _ (by decide) (by decide)) (Zd (Zb rfl) Zk) rfl).trans (Nv S t hm2)) (Zb rfl)).trans ((S9 _ _ _ _).trans ?_))) fun _=>?_
    ·rw[hm2]
     simp
    ·exact ZP ((Zs ((ZJ (VP S rfl) (ZK W.b) (Y1 _ _ _ (by decide) (by decide)) (Zd (Zb rfl) Zk) rfl).trans (O4 W hm1)) (Zb rfl)).trans (Tm _ _ _))
   ·unfold Yk
    have:=List.length_filter_le p A
    rw[if_pos (by rw[List.length_map]; omega)]
    rfl
  have hfl:=List.length_filter_le p A
  have e5:fA EQ (Ze (Yn Yk [2] (fun sl=>bnd ((Za 4) sl) Yb) XE (Sf c)) Zm) [some (.o ho),some (.int ((off:Int)+k)),some (odG c off (.help q g)),some (Zv (at' f k)),some (.lst ((A.filter p).map fun (m:Nat)=>Wv.int ((off:Int)+m)))] om=some (.ok (.bl (SY told f k g)),om):=by
   have c1:Yn Yk [2] (fun sl=>bnd ((Za 4) sl) Yb) XE (Sf c) [some (.o ho),some (.int ((off:Int)+k)),some (odG c off (.help q g)),some (Zv (at' f k)),some (.lst ((A.filter p).map fun (m:Nat)=>Wv.int ((off:Int)+m)))] om=some (.ok (.lst ((A.filter p).map fun m=>Wv.bl (!decide (m=g)))),om):=by
    refine (X7 (ws:=(A.filter p).map fun (m:Nat)=>Wv.int ((off:Int)+m)) (om1:=om) ((Zo (a:=.lst ((A.filter p).map fun (m:Nat)=>Wv.int ((off:Int)+m))) (om1:=om) (Zb rfl)).trans rfl) (by rw[List.length_map]; omega) (YL (fun (m:Nat)=>Wv.int ((off:Int)+m)) (fun _=>true) (fun m=>Wv.bl (!decide (m=g))) (fun m hm=>rfl) (fun m hm _=>?_))).trans ?_
    ·refine ((Zs (Zb rfl) ((Zs (Zb rfl) Zp).trans (DS c off q g _))).trans (WO _ _ _)).trans ?_
     rw[Qn]
    ·rw[List.filter_eq_self.mpr (fun _ _=>rfl)]
     unfold Yk
     rw[if_pos (by rw[List.length_map]; omega)]
     rfl
   refine (ZG (Zd c1 Zk)).trans ?_
   show (match Vl ((A.filter p).map fun m=>Wv.bl (!decide (m=g))) with|some bs=>some (Except.ok (Wv.bl (bs.any id)),om)|none=>none)=_
   rw[Tf]
   show some (Except.ok (Wv.bl (((A.filter p).map fun m=>!decide (m=g)).any id)),om)=_
   rw[List.any_map,← Fq G k g,hA,hp]
   rfl
  exact Zy ((Zg e1).trans ((Zg (ZI t1)).trans ((Zg e3).trans ((Zg e4).trans (Zr e5)))))
theorem Ee (S:Os c om ho hb hg off gs) (t:Tell gs (at' told)) {h g:Nat} {o:Od} (e:at' told h=some o):g_fits c [.o ho,.int ((off:Int)+h),.int ((off:Int)+g)] om=some (.ok (.bl (if h=g then !Xd (at' told h) else decide (at' told h=some (.move g)))),om):=by
 have t1:fB (f2 kEq (Za 2) (Za 1)) [some (.o ho),some (.int ((off:Int)+h)),some (.int ((off:Int)+g))] om=some (.ok (decide (g=h)),om):=ZP ((v2 rfl rfl).trans ((Xw _ _ _).trans (by rw[Qn])))
 have gl:ZB c.Orders "goal_of" 2 (Zq c) (Za 0) (Ze (Za 1) Zm) [some (.o ho),some (.int ((off:Int)+h)),some (.int ((off:Int)+g))] om=some (.ok (Uf off o),om):=(ZJ (Zb rfl) (ZK S.o) (Z4 _ _ _ (by decide) (by decide)) (Zd (Zb rfl) Zk) rfl).trans (Nv S t e)
 rw[e]
 by_cases hq:h=g
 ·rw[decide_eq_true hq.symm]at t1
  rw[if_pos hq]
  exact Zy (ZT ((Yo t1).trans (Zr ((Xs gl).trans (Qb _ _ _)))))
 ·rw[decide_eq_false (Ne.symm hq)]at t1
  rw[if_neg hq]
  refine Zy ((Zg (ZI t1)).trans (Zr ((Zs gl (Zb rfl)).trans ((S9 _ _ _ _).trans ?_))))
  simp
theorem Jr (W:Wd c om hb hm hu hl size off f kvs) (S:Os c om ho hb hg off gs) (G:Givn rows f told) (t:Tell gs (at' told)) {k:Nat} {o:Od} (h:at' told k=some o):g_counts c [.o ho,.int ((off:Int)+k)] om=some (.ok (.bl (YF told f k)),om):=by
 have e1:ZM 2 (ZB c.Orders "told" 2 (Yz c) (Za 0) (Ze (Za 1) Zm)) [some (.o ho),some (.int ((off:Int)+k)),none] om=some (.ok (.nx,[some (.o ho),some (.int ((off:Int)+k)),some (odG c off o)]),om) :=
  ZD (i:=2) ((ZJ (Zb rfl) (ZK S.o) (Z4 _ _ _ (by decide) (by decide)) (Zd (Zb rfl) Zk) rfl).trans (LR W S G t h))
 have t1:f2 kEq (f2 (Vn c.STAND) (Za 2) (fC (.int 0))) (fC (.str "help")) [some (.o ho),some (.int ((off:Int)+k)),some (odG c off o)] om=some (.ok (.bl (decide (odN o="help"))),om):=(Zs ((Zs (Zb rfl) Zp).trans (Fd c off o _)) Zp).trans (Up _ _ (Uo o) Wm _)
 refine Zy ((Zg e1).trans (Zr ?_)) (sl1:=[some (.o ho),some (.int ((off:Int)+k)),some (odG c off o)])
 unfold YF
 rw[h]
 match o,h with
 |.stand,h=>exact UF t1
 |.move g,h=>exact UF t1
 |.help q g,h =>
  have hq:=(G.okT.hl k q g h)
  obtain ⟨o2,e2⟩:=Option.isSome_iff_exists.mp ((G.same q).trans hq.2.2.2.2)
  have ic:=JU W S G t h
  have ei:Eu told f k=SY told f k g:=by unfold Eu; rw[h]
  rw[ei]at ic
  refine ((Rn t1).trans (Nj (a:=if q=g then !Xd (at' told q) else decide (at' told q=some (.move g))) (b:=!SY told f k g) ((ZG (Zd (Zb rfl) (Zd ((Zs (Zb rfl) Zp).trans (Dc c off q g _)) (Zd ((Zs (Zb rfl) Zp).trans (DS c off q g _)) Zk)))).trans ((Yj rfl).trans (Ee S t e2))) fun _=>?_)).trans ?_
  ·refine (Xs ((ZG (Zd (Zb rfl) (Zd (Zb rfl) Zk))).trans ((Yj rfl).trans ic))).trans ?_
   rfl
  ·rw[Bool.and_comm]
end
open PySem L2
def WU (told:List (Option Od)) (f:List (Option Int)) (h k:Nat):Bool:=match at' told h with
 |some (.help q _)=>decide (q=k)&&YF told f h
 |_=>false
def Vi (f:List (Option Int)) (n:Nat):List Nat:=(List.range n).filter fun h=>(at' f h).isSome
theorem HM (off:Nat) (f:List (Option Int)) (n:Nat):Xl off f n=(Vi f n).map fun (h:Nat)=>((off:Int)+h,(at' f h).getD 0):=by
 unfold Xl Vi
 generalize List.range n=l
 induction l with
 |nil=>rfl
 |cons h l ih =>
  rw[List.filterMap_cons,List.filter_cons]
  cases hh:at' f h with
  |none=>simpa using ih
  |some s =>
   simp only[Option.map_some,Option.isSome_some,if_true,List.map_cons,hh,Option.getD_some]
   rw[ih]
theorem SR {α:Type} (p:α->Bool):∀(l:List α) (a:Int),l.foldl (fun a h=>bif p h then a+1 else a) a=a+(l.filter p).length
 |[],a=>by simp
 |h::l,a=>by
  rw[List.foldl_cons,SR p l,List.filter_cons]
  cases p h with
  |false=>simp
  |true=>simp; omega
section
variable {c:CA} {om:List Ob} {ho hb hm hu hl hg size off:Nat} {f:List (Option Int)} {kvs:List (List Key × Wv)} {gs:Gs} {rows:Mx} {told:List (Option Od)}
def UP (told:List (Option Od)) (f:List (Option Int)) (k:Nat):List Nat:=(Vi f f.length).filter fun h=>WU told f h k
theorem JJ (G:Givn rows f told) {h k:Nat} (e:WU told f h k=true):∃s,at' f h=some s:=by
 unfold WU at e
 have q:=G.same h
 match ho2:at' told h,e with
 |some (.help a b),_=>rw[ho2]at q; exact Option.isSome_iff_exists.mp q.symm
theorem MI (G:Givn rows f told) (k:Nat):UP told f k=(List.range f.length).filter fun h=>WU told f h k:=by
 unfold UP Vi
 rw[List.filter_filter]
 refine List.filter_congr fun h _=>?_
 cases e:WU told f h k with
 |false=>simp
 |true =>
  obtain ⟨s,hs⟩:=JJ G e
  rw[hs]
  rfl
theorem KK (h k goal:Nat) (e:at' told k=some (.move goal)):WU told f h k=(decide (at' told h=some (.help k goal))&&YF told f h):=by
 unfold WU YF
 match e2:at' told h with
 |none=>simp
 |some .stand=>simp
 |some (.move g)=>simp
 |some (.help q g) =>
  dsimp only
  by_cases hq:q=k
  ·subst hq
   rw[e]
   by_cases hg:q=g
   ·subst hg
    simp[Xd]
   ·by_cases hgg:goal=g
    ·subst hgg; simp[hg]
    ·rw[if_neg hg]
     have:¬ (some (Od.move goal)=some (Od.move g)):=fun z=>hgg (by cases z; rfl)
     rw[decide_eq_false this]
     simp
  ·have h1:¬ (some (Od.help q g)=some (Od.help k goal)):=fun z=>hq (by cases z; rfl)
   rw[decide_eq_false hq,decide_eq_false h1]
theorem Fp (h k:Nat) (e:Xd (at' told k)=false):WU told f h k=(decide (at' told h=some (.help k k))&&YF told f h):=by
 unfold WU YF
 match e2:at' told h with
 |none=>simp
 |some .stand=>simp
 |some (.move g)=>simp
 |some (.help q g) =>
  dsimp only
  by_cases hq:q=k
  ·subst hq
   by_cases hg:q=g
   ·subst hg; simp
   ·rw[if_neg hg]
    have h2:¬ (at' told q=some (.move g)):=fun z=>by rw[z]at e; cases e
    have h1:¬ (some (Od.help q g)=some (Od.help q q)):=fun z=>hg (by cases z; rfl)
    rw[decide_eq_false h1,decide_eq_false h2]
    simp
  ·have h1:¬ (some (Od.help q g)=some (Od.help k k)):=fun z=>hq (by cases z; rfl)
   rw[decide_eq_false hq,decide_eq_false h1]
theorem Qd (G:Givn rows f told) (k goal:Nat) (sd:Option Int) (p:Nat->Bool) (hp:∀h,h < f.length->LU told f k goal sd h=p h):ZX told f k goal sd=1+((List.range f.length).filter p).length:=by
 unfold ZX
 rw[SR,G.len]
 congr 3
 exact List.filter_congr fun h hh=>hp h (List.mem_range.mp hh)
theorem SB (G:Givn rows f told) (hs7:∀k s,at' f k=some s->0<=s∧s<=7) {k goal:Nat} (hb:∀h,WU told f h k=(decide (at' told h=some (.help k goal))&&YF told f h)):ZX told f k goal (some (-1))=1+(UP told f k).length:=by
 rw[MI G]
 refine Qd G k goal _ _ fun h hh=>?_
 rw[hb h]
 unfold LU
 cases e:decide (at' told h=some (.help k goal)) with
 |false=>rfl
 |true =>
  have e:=of_decide_eq_true e
  have q:=G.same h
  rw[e]at q
  obtain ⟨s,hs⟩:=Option.isSome_iff_exists.mp q.symm
  have:=hs7 h s hs
  rw[hs,decide_eq_false (fun z=>by cases z; omega)]
  simp
theorem NS (G:Givn rows f told) {k goal:Nat} (sd:Int) (hb:∀h,WU told f h k=(decide (at' told h=some (.help k goal))&&YF told f h)):ZX told f k goal (some sd)=1+((UP told f k).filter fun h=>!decide ((at' f h).getD 0=sd)).length:=by
 rw[MI G,List.filter_filter]
 refine Qd G k goal _ _ fun h hh=>?_
 rw[hb h]
 unfold LU
 cases e:decide (at' told h=some (.help k goal)) with
 |false=>simp
 |true =>
  have e:=of_decide_eq_true e
  have q:=G.same h
  rw[e]at q
  obtain ⟨s,hs⟩:=Option.isSome_iff_exists.mp q.symm
  rw[hs]
  by_cases hh:s=sd
  ·subst hh; simp
  ·rw[decide_eq_false (fun z=>hh (by cases z; rfl))]
   simp[hh]
theorem GT (W:Wd c om hb hm hu hl size off f kvs) (S:Os c om ho hb hg off gs) (G:Givn rows f told) (t:Tell gs (at' told)) {h k:Nat} {o:Od} (e:at' told h=some o):g_backs c [.o ho,.int ((off:Int)+h),.int ((off:Int)+k)] om=some (.ok (.bl (WU told f h k)),om):=by
 have e1:ZM 3 (ZB c.Orders "told" 2 (Yz c) (Za 0) (Ze (Za 1) Zm)) [some (.o ho),some (.int ((off:Int)+h)),some (.int ((off:Int)+k)),none] om=some (.ok (.nx,[some (.o ho),some (.int ((off:Int)+h)),some (.int ((off:Int)+k)),some (odG c off o)]),om) :=
  ZD (i:=3) ((ZJ (Zb rfl) (ZK S.o) (Z4 _ _ _ (by decide) (by decide)) (Zd (Zb rfl) Zk) rfl).trans (LR W S G t e))
 have t1:f2 kEq (f2 (Vn c.STAND) (Za 3) (fC (.int 0))) (fC (.str "help")) [some (.o ho),some (.int ((off:Int)+h)),some (.int ((off:Int)+k)),some (odG c off o)] om=some (.ok (.bl (decide (odN o="help"))),om):=(Zs ((Zs (Zb rfl) Zp).trans (Fd c off o _)) Zp).trans (Up _ _ (Uo o) Wm _)
 refine Zy ((Zg e1).trans (Zr ?_)) (sl1:=[some (.o ho),some (.int ((off:Int)+h)),some (.int ((off:Int)+k)),some (odG c off o)])
 unfold WU
 rw[e]
 match o,e with
 |.stand,e=>exact UF t1
 |.move g,e=>exact UF t1
 |.help q g,e =>
  refine (Rn t1).trans (Nj (a:=decide (q=k)) ?_ fun _=>(ZG (Zd (Zb rfl) (Zd (Zb rfl) Zk))).trans ((Yj rfl).trans (Jr W S G t e)))
  refine ((Zs ((Zs (Zb rfl) Zp).trans (Dc c off q g _)) (Zb rfl)).trans (Xw _ _ _)).trans ?_
  rw[Qn]
theorem Bl (W:Wd c om hb hm hu hl size off f kvs):Wx c [.o hb] om=some (.ok (.lst ((Vi f f.length).map fun (h:Nat)=>Wv.tup [.int ((off:Int)+h),.int ((at' f h).getD 0)])),om):=by
 have h1:=W.fit
 have h2:=W.few
 have h3:=N4 off f f.length
 rw[Et c W.b W.u (by omega),L5 (NW off f f.length),HM,List.map_map]
 rfl
theorem RS (f:List (Option Int)) (n:Nat):(Vi f n).length<=n:=by
 unfold Vi
 exact Nat.le_trans (List.length_filter_le _ _) (by simp)
theorem Ti (W:Wd c om hb hm hu hl size off f kvs) (S:Os c om ho hb hg off gs) (G:Givn rows f told) (t:Tell gs (at' told)) (k:Nat):g_backing c [.o ho,.int ((off:Int)+k)] om=some (.ok (.lst ((UP told f k).map fun (h:Nat)=>Wv.int ((at' f h).getD 0))),om):=by
 have hlim:=Z1
 have h1:=W.fit
 have h2:=W.few
 have h3:=RS f f.length
 have hfl:(UP told f k).length<=(Vi f f.length).length:=List.length_filter_le _ _
 refine Zy (Zr ?_)
 unfold No
 refine (Zo (a:=(Vi f f.length).map fun (h:Nat)=>Wv.tup [.int ((off:Int)+h),.int ((at' f h).getD 0)]) (om1:=om) ((Zo ((ZJ (VP S rfl) (ZK W.b) (Y1 _ _ _ (by decide) (by decide)) Zk rfl).trans (Bl W))).trans rfl)).trans ?_
 refine (Zo (a:=()) (om1:=om) (Ny ?_)).trans ?_
 ·rw[decide_eq_true (by rw[List.length_map]; omega)]
  simp[CC]
 refine (Zo (YL (fun (h:Nat)=>Wv.tup [.int ((off:Int)+h),.int ((at' f h).getD 0)]) (fun h=>WU told f h k) (fun (h:Nat)=>Wv.int ((at' f h).getD 0)) (fun h hh=>?_) (fun h hh _=>Zb rfl))).trans ?_
 ·have hsome:=(List.mem_filter.mp hh).2
  obtain ⟨o,ho2⟩:=Option.isSome_iff_exists.mp ((G.same h).trans hsome)
  exact YE ((ZG (Zd (Zb rfl) (Zd (Zb rfl) (Zd (Zb rfl) Zk)))).trans ((Yj rfl).trans (GT W S G t ho2)))
 ·show Yk ((UP told f k).map fun (h:Nat)=>Wv.int ((at' f h).getD 0)) om=_
  unfold Yk
  rw[if_pos (by rw[List.length_map]; omega)]
  rfl
theorem LD {α:Type} {φ:α->Wv} {l:List α} {fe:FE} {sl:Sl} (h:fe sl om=some (.ok (.lst (l.map φ)),om)):f2 Xy (fC (.int 1)) (fA YT (Ze fe Zm)) sl om=some (.ok (.int (1+l.length)),om):=by
 refine (Zs Zp ((ZG (Zd h Zk)).trans (Vo rfl))).trans ?_
 rw[List.length_map]
 rfl
def WS (told:List (Option Od)) (f:List (Option Int)) (k:Nat) (sd:Int):Int:=match at' told k with
 |some (.move g)=>ZX told f k g (some sd)
 |_=>0
theorem LI (S:Os c om ho hb hg off gs) (t:Tell gs (at' told)) {k:Nat} {o:Od} (e:at' told k=some o) {sl:Sl} (s0:sl[0]?=some (some (.o ho))) (s1:sl[1]?=some (some (.int ((off:Int)+k)))):ZB c.Orders "goal_of" 2 (Zq c) (Za 0) (Ze (Za 1) Zm) sl om=some (.ok (Uf off o),om):=(ZJ (Zb s0) (ZK S.o) (Z4 _ _ _ (by decide) (by decide)) (Zd (Zb s1) Zk) rfl).trans (Nv S t e)
theorem Ha (W:Wd c om hb hm hu hl size off f kvs) (S:Os c om ho hb hg off gs) (G:Givn rows f told) (t:Tell gs (at' told)) (hs7:∀k s,at' f k=some s->0<=s∧s<=7) {k:Nat} {o:Od} (e:at' told k=some o):g_force c [.o ho,.int ((off:Int)+k)] om=some (.ok (.int (WS told f k (-1))),om):=by
 have t1:fB (f1 XT (ZB c.Orders "goal_of" 2 (Zq c) (Za 0) (Ze (Za 1) Zm))) [some (.o ho),some (.int ((off:Int)+k))] om=some (.ok (!Xd (some o)),om):=ZP ((Xs (LI S t e rfl rfl)).trans (Qb _ _ _))
 unfold WS
 rw[e]
 match o,e with
 |.stand,e=>exact Zy (ZT ((Yo t1).trans (Zr Zp)))
 |.help a b,e=>exact Zy (ZT ((Yo t1).trans (Zr Zp)))
 |.move g,e =>
  dsimp only
  rw[SB G hs7 (fun h=>KK h k g e)]
  exact Zy ((Zg (ZI t1)).trans (Zr (LD ((ZG (Zd (Zb rfl) (Zd (Zb rfl) Zk))).trans ((Yj rfl).trans (Ti W S G t k))))))
theorem Ly (W:Wd c om hb hm hu hl size off f kvs) (S:Os c om ho hb hg off gs) (G:Givn rows f told) (t:Tell gs (at' told)) {k:Nat} {o:Od} (e:at' told k=some o) (sd:Int):g_force_against c [.o ho,.int ((off:Int)+k),.int sd] om=some (.ok (.int (WS told f k sd)),om):=by
 have hlim:=Z1
 have h1:=W.fit
 have h2:=W.few
 have h3:=RS f f.length
 have hfl:(UP told f k).length<=(Vi f f.length).length:=List.length_filter_le _ _
 have t1:fB (f1 XT (ZB c.Orders "goal_of" 2 (Zq c) (Za 0) (Ze (Za 1) Zm))) [some (.o ho),some (.int ((off:Int)+k)),some (.int sd)] om=some (.ok (!Xd (some o)),om):=ZP ((Xs (LI S t e rfl rfl)).trans (Qb _ _ _))
 unfold WS
 rw[e]
 match o,e with
 |.stand,e=>exact Zy (ZT ((Yo t1).trans (Zr Zp)))
 |.help a b,e=>exact Zy (ZT ((Yo t1).trans (Zr Zp)))
 |.move g,e =>
  dsimp only
  rw[NS G sd (fun h=>KK h k g e)]
  have hfl2:=List.length_filter_le (fun h=>!decide ((at' f h).getD 0=sd)) (UP told f k)
  refine Zy ((Zg (ZI t1)).trans (Zr (LD (φ:=fun (h:Nat)=>Wv.int ((at' f h).getD 0)) ((X7 (ws:=(UP told f k).map fun (h:Nat)=>Wv.int ((at' f h).getD 0)) (om1:=om) ((Zo ((ZG (Zd (Zb rfl) (Zd (Zb rfl) Zk))).trans ((Yj rfl).trans (Ti W S G t k)))).trans rfl) (by rw[List.length_map]; omega) (YL (fun (h:Nat)=>Wv.int ((at' f h).getD 0)) (fun h=>!decide ((at' f h).getD 0=sd)) (fun (h:Nat)=>Wv.int ((at' f h).getD 0)) (fun h hh=>ZP ((v2 rfl rfl).trans (WO _ _ _))) (fun h hh _=>Zb rfl))).trans ?_))))
  unfold Yk
  rw[if_pos (by rw[List.length_map]; omega)]
  rfl
theorem Lq (W:Wd c om hb hm hu hl size off f kvs) (S:Os c om ho hb hg off gs) (G:Givn rows f told) (t:Tell gs (at' told)) (hs7:∀k s,at' f k=some s->0<=s∧s<=7) {k:Nat} {o:Od} (e:at' told k=some o):g_firmness c [.o ho,.int ((off:Int)+k)] om=some (.ok (.int (UX told f k)),om):=by
 have t1:fB (f1 Xv (ZB c.Orders "goal_of" 2 (Zq c) (Za 0) (Ze (Za 1) Zm))) [some (.o ho),some (.int ((off:Int)+k))] om=some (.ok (Xd (some o)),om):=ZP ((Xs (LI S t e rfl rfl)).trans (MC _ _ _))
 unfold UX
 rw[e]
 cases hmv:Xd (some o) with
 |true =>
  rw[hmv]at t1
  exact Zy (ZT ((Yo t1).trans (Zr Zp)))
 |false =>
  rw[hmv]at t1
  have hmv2:Xd (at' told k)=false:=by rw[e]; exact hmv
  show _=some (Except.ok (Wv.int (ZX told f k k (some (-1)))),om)
  rw[SB G hs7 (fun h=>Fp h k hmv2)]
  exact Zy ((Zg (ZI t1)).trans (Zr (LD ((ZG (Zd (Zb rfl) (Zd (Zb rfl) Zk))).trans ((Yj rfl).trans (Ti W S G t k))))))
end
open PySem L2
section
variable {c:CA} {om:List Ob} {ho hb hm hu hl hg size off:Nat} {f:List (Option Int)} {kvs:List (List Key × Wv)} {gs:Gs} {rows:Mx} {told:List (Option Od)}
theorem LS (c:CA) (ns:List Int) {rows:Mx} {f:List (Option Int)} (L:Lk f.length rows) (hn:f.length<=60) (om:List Ob):XV c [Z9 ns,.lst (rows.map YJ),.lst (f.map Zv)] om=some (.ok (.o om.length),om++[.lst ((XQ 10 ns rows f).map odW)]):=by
 have hlim:=Z1
 refine Zy (Zr ((X7 (ws:=Xm f.length) (om1:=om) (us:=(XQ 10 ns rows f).map odW) (om2:=om) ?_ (by rw[WR]; omega) ?_).trans ?_))
 ·have:=Wy (sl:=[some (Z9 ns),some (.lst (rows.map YJ)),some (.lst (f.map Zv))]) (i:=2) (om:=om) (w:=.lst (f.map Zv)) (xs:=f.map Zv) rfl rfl (by rw[List.length_map]; omega)
  rw[List.length_map]at this
  exact this
 ·have e:=Uc (cT:=XE) (f:=VW c) (mk:=fun w=>Y9 [0,1,2] w [some (Z9 ns),some (.lst (rows.map YJ)),some (.lst (f.map Zv))]) (om:=om) (n:=f.length) (fun _=>true) (fun k=>odW (WA (ns.getD (10+k) 0) k rows f)) (fun k hk=>rfl) (fun k hk _=>(ZG (Zd (Qy c (k:=10+k) rfl ((NK (Zb rfl)).trans (by simp))) (Zd (Zb rfl) (Zd (Zb rfl) (Zd (Zb rfl) Zk))))).trans ((Yj rfl).trans (SM c _ L hk hn om)))
  refine e.trans ?_
  rw[List.filter_eq_self.mpr (fun _ _=>rfl)]
  unfold XQ
  rw[List.map_map]
  rfl
 ·unfold YI
  rw[if_pos (by rw[List.length_map]; simp[XQ]; omega)]
  rfl
theorem Fi {many:Nat} {tw:Wv} (lk:Lk many rows) (hf:f.length=many) (h1:off+many<=size) (h2:size<=60) (hm7:many<=7) (hs:∀k s,at' f k=some s->0<=s∧s<=7) (G:Givn rows f told) (om:List Ob) (ht:∀om',(∀j,j < om.length->om'[j]?=om[j]?)->Yq om' tw=some (told.map odW)) :
    ∃kvs gs,g__law_given c [Yg many off size,.lst (rows.map YJ),.lst (f.map Zv),tw] om=some (.ok (.o (om.length+4)),om++[X5 c size (om.length+1),.dt kvs,Wh c om.length (om.length+3),.dk (Xu (Xl off f many)),Y6 c (om.length+2) (om.length+5),.dk (YK c off gs)])∧Pr rows off kvs∧Tell gs (at' told):=by
 have hlim:=Z1
 obtain ⟨kvs,eb,mo,hk⟩:=Gj c lk hf h1 hm7 hs om
 have W:=Aa (c:=c) (om:=om) (kvs:=kvs) hf h1 h2
 have hl:(X2 c om size kvs (Xl off f many)).length=om.length+4:=by simp[X2]
 have S:=CO c (X2 c om size kvs (Xl off f many)) (om.length+2) off
 have W2:=W.grow [Y6 c (om.length+2) ((X2 c om size kvs (Xl off f many)).length+1),.dk []]
 have s1:ZM 4 (fA (WT c.Orders 2 (XC c)) (Ze (fA (kN 3 (g__law_board c)) (Ze (Za 0) (Ze (Za 1) (Ze (Za 2) Zm)))) Zm)) [some (Yg many off size),some (.lst (rows.map YJ)),some (.lst (f.map Zv)),some tw,none,none] om=some (.ok (.nx,[some (Yg many off size),some (.lst (rows.map YJ)),some (.lst (f.map Zv)),some tw,some (.o (X2 c om size kvs (Xl off f many)).length),none]),X2 c om size kvs (Xl off f many)++[Y6 c (om.length+2) ((X2 c om size kvs (Xl off f many)).length+1),.dk []]) :=
  ZD (i:=4) ((ZG (Zd ((ZG (Zd (Zb rfl) (Zd (Zb rfl) (Zd (Zb rfl) Zk)))).trans ((Yj rfl).trans eb)) Zk)).trans (Ng c _ _))
 obtain ⟨gs,x,el,t⟩:=Pz (tw:=tw) (told:=told) (T:=fun k=>(at' f k).map fun _=>Od.stand) (B:=UY c) (i:=5) (sl:=[some (Yg many off size),some (.lst (rows.map YJ)),some (.lst (f.map Zv)),some tw,some (.o (X2 c om size kvs (Xl off f many)).length),none]) W2 S (by rw[hl]; omega) mo G
  (Tell.start0 fun k o e=>by
   obtain ⟨_,_,rfl⟩:=Option.map_eq_some_iff.mp e
   rfl) (fun j=>by simp) (fun om' h=>ht om' fun j hj=>by
   rw[h j (by rw[hl]; omega),List.getElem?_append_left (by rw[hl]; omega)]
   unfold X2
   rw[List.getElem?_append_left hj]) (fun k om1 om2 e _=>Yd ((ZG (Zd (Zb rfl) (Zd ((Zs (Zb rfl) Zp).trans (ZU (k:=1) (v:=.int off) rfl rfl)) (Zd (Zb rfl) (Zd (Zb rfl) Zk))))).trans ((Yj rfl).trans e)))
 refine ⟨kvs,gs,?_,mo,t⟩
 rw[hf]at el
 have e4:=Yx (sl1:=[]) (fi:=fun sl=>bnd ((f2 kIx (Za 0) (fC (.int 0))) sl) Yl) (sl:=[some (Yg many off size),some (.lst (rows.map YJ)),some (.lst (f.map Zv)),some tw,some (.o (X2 c om size kvs (Xl off f many)).length),none]) ((Zo ((Zs (Zb rfl) Zp).trans (ZU (k:=0) (v:=.int many) rfl rfl))).trans (Xc _ _ (by omega))) el
 have r:g__law_given c [Yg many off size,.lst (rows.map YJ),.lst (f.map Zv),tw] om=_:=Zy ((Zg s1).trans ((Zg e4).trans (Zr (Zb (i:=4) rfl))))
 refine r.trans ?_
 have e:(X2 c om size kvs (Xl off f many)++[Y6 c (om.length+2) ((X2 c om size kvs (Xl off f many)).length+1),.dk []]).set ((X2 c om size kvs (Xl off f many)).length+1) (.dk (YK c off gs))=om++[X5 c size (om.length+1),.dt kvs,Wh c om.length (om.length+3),.dk (Xu (Xl off f many)),Y6 c (om.length+2) (om.length+5),.dk (YK c off gs)]:=by
  rw[List.set_append_right _ _ (by omega),Nat.add_sub_cancel_left,hl]
  unfold X2
  rw[List.append_assoc]
  rfl
 rw[e,hl]
theorem IZ {S:FS} {i:Nat} {om:List Ob} {sl:Sl} {r:Wv}:∀{l:List Wv} (x:Option Wv),(∀w∈l,S (sl.set i (some w)) om=some (.ok (.nx,sl.set i (some w)),om)∨∃sl2 om2,S (sl.set i (some w)) om=some (.ok (.rt r,sl2),om2))->(∃y,Xz (tgN i) S l (sl.set i x) om=some (.ok (.nx,sl.set i y),om))∨∃sl2 om2,Xz (tgN i) S l (sl.set i x) om=some (.ok (.rt r,sl2),om2)
 |[],x,_=>.inl ⟨x,rfl⟩
 |w::l,x,h=>by
  have e0:Xz (tgN i) S (w::l) (sl.set i x) om=bnd (S (sl.set i (some w))) (Vd fun sl2=>Xz (tgN i) S l sl2) om:=by
   show (match tgN i w (sl.set i x) with|none=>Xn|some sl1=>bnd (S sl1) (Vd fun sl2=>Xz (tgN i) S l sl2)) om=_
   have e1:tgN i w (sl.set i x)=some (sl.set i (some w)):=by unfold tgN; rw[List.set_set]
   rw[e1]
  rw[e0]
  rcases h w (.head _) with e|⟨sl2,om2,e⟩
  ·rw[Zo e]
   exact IZ (l:=l) (some w) fun u hu=>h u (.tail _ hu)
  ·rw[Zo e]
   exact .inr ⟨sl2,om2,rfl⟩
theorem BB {told:List (Option Od)} {k:Nat} (hk:k < told.length) (o:Od):(fun j=>if j=k then some o else at' told j)=at' (told.set k (some o)):=by
 funext j
 unfold at'
 rw[List.getD_eq_getElem?_getD,List.getD_eq_getElem?_getD,List.getElem?_set]
 by_cases h:k=j
 ·subst h; rw[if_pos rfl,if_pos rfl,if_pos hk]; rfl
 ·rw[if_neg h,if_neg (Ne.symm h)]
end
end MP
namespace MP
noncomputable section
open PySem L2
def V4 (c:CA):FS :=
 (Y2 (fA (kN 2 (g_force c)) (Ze (Za 0) (Ze (Za 2) Zm))) (Za 1) (Za 2))
def Rz (c:CA):FS :=
 (ZE (ZM 1 (fun _=>newO (.dk [])))
  (ZE (XH (fun sl=>bnd ((ZB c.Orders "movers" 1 (ZZ c) (Za 0) Zm) sl) Yb) (tgN 2) (V4 c))
  (ZS (Za 1))))
def g_weigh_movers (c:CA):List Wv->Mw Wv:=Ym 3 (Rz c)
def UT (c:CA):FT :=
 (X1 (fB (f2 kNe (Za 0) (Za 2))) (fB (f2 kEq (ZB c.Orders "goal_of" 2 (Zq c) (Za 1) (Ze (Za 0) Zm)) (Za 3))))
def U0 (c:CA):FE :=
 (Za 0)
def UV (c:CA):FE :=
 (f2 kGe (f2 Vu (Za 1) (Za 0)) (f2 Vu (Za 1) (Za 2)))
def Nq (c:CA):FS :=
 (ZE (ZM 3 (ZB c.Orders "goal_of" 2 (Zq c) (Za 0) (Ze (Za 2) Zm)))
  (ZE (ZM 4 (WQ Yk [0,2,3] (Za 1) (UT c) (U0 c)))
  (ZS (fA EQ (Ze (Yn Yk [1,2] (fun sl=>bnd ((Za 4) sl) Yb) XE (UV c)) Zm)))))
def g_is_outdone (c:CA):List Wv->Mw Wv:=Ym 5 (Nq c)
def NO (c:CA):FS :=
 (ZE (ZM 4 (ZB c.Board "side_at" 2 (ZR c) (f1 (Yw c.Orders "board") (Za 0)) (Ze (Za 2) Zm)))
  (ZS (Wq (f2 kNe (Za 4) (ZB c.Board "side_at" 2 (ZR c) (f1 (Yw c.Orders "board") (Za 0)) (Ze (Za 1) Zm))) (f2 kGt (fA (kN 3 (g_force_against c)) (Ze (Za 0) (Ze (Za 1) (Ze (Za 4) Zm)))) (Za 3)))))
def g_overcomes (c:CA):List Wv->Mw Wv:=Ym 5 (NO c)
def Mc (c:CA):FS :=
 (ZE (ZM 3 (ZB c.Orders "goal_of" 2 (Zq c) (Za 0) (Ze (Za 2) Zm)))
  (ZE (sIf (YG (fA (kN 3 (g_is_outdone c)) (Ze (Za 0) (Ze (Za 1) (Ze (Za 2) Zm))))) (ZS (fC (.int 1))) Yr)
  (ZE (sIf (fB (f1 XT (ZB c.Board "side_at" 2 (ZR c) (f1 (Yw c.Orders "board") (Za 0)) (Ze (Za 3) Zm)))) (ZS (fC (.int 0))) Yr)
  (ZE (sIf (fB (f2 kEq (ZB c.Orders "goal_of" 2 (Zq c) (Za 0) (Ze (Za 3) Zm)) (Za 2))) (ZS (GQ (YG (fA (kN 4 (g_overcomes c)) (Ze (Za 0) (Ze (Za 2) (Ze (Za 3) (Ze (f2 Vu (Za 1) (Za 3)) Zm)))))) (fC (.int 0)) (fC (.int 2)))) Yr)
  (ZS (GQ (YG (fA (kN 4 (g_overcomes c)) (Ze (Za 0) (Ze (Za 2) (Ze (Za 3) (Ze (fA (kN 2 (g_firmness c)) (Ze (Za 0) (Ze (Za 3) Zm))) Zm)))))) (fC (.int 0)) (fC (.int 3))))))))
def g_hindrance (c:CA):List Wv->Mw Wv:=Ym 4 (Mc c)
def Vj (c:CA):FS :=
 (Y2 (fA (kN 3 (g_hindrance c)) (Ze (Za 0) (Ze (Za 1) (Ze (Za 3) Zm)))) (Za 2) (Za 3))
def Np (c:CA):FS :=
 (ZE (ZM 1 (fA (kN 1 (g_weigh_movers c)) (Ze (Za 0) Zm)))
  (ZE (ZM 2 (fun _=>newO (.dk [])))
  (ZE (KS (Za 1) (tgN 3) (Vj c))
  (ZS (Za 2)))))
def g_hindrances (c:CA):List Wv->Mw Wv:=Ym 4 (Np c)
def ER (c:CA):FS :=
 (ZE (sIf (X1 (fB (f2 kEq (f2 Vu (Za 1) (Za 2)) (fC (.int 3)))) (fB (f2 (QU false) (ZB c.Orders "goal_of" 2 (Zq c) (Za 0) (Ze (Za 2) Zm)) (Za 3)))) (ZS (fC (.int 0))) Yr)
  (ZS (f2 Vu (Za 1) (Za 2))))
def g_fault (c:CA):List Wv->Mw Wv:=Ym 4 (ER c)
def RU (c:CA):FE :=
 (fA XA (Ze (Za 4) (Ze (Za 0) (Ze (fA (kN 4 (g_fault c)) (Ze (Za 1) (Ze (Za 2) (Ze (Za 0) (Ze (Za 3) Zm))))) Zm))))
def Qw (c:CA):FT :=
 (fB (f2 kNe (f2 kIx (Za 0) (fC (.int 2))) (fC (.int 0))))
def Qj (c:CA):FE :=
 (Za 0)
def RV (c:CA):FT :=
 (fB (f2 kEq (f2 kIx (Za 0) (fC (.int 2))) (fC (.int 0))))
def Qi (c:CA):FE :=
 (f2 kIx (Za 0) (fC (.int 1)))
def Wb (c:CA):FS :=
 (ZE (ZM 5 (Yn Yk [0,1,2,4] (fun sl=>bnd ((Za 2) sl) Yb) XE (RU c)))
  (ZE (ZM 6 (Yn Yk [] (fun sl=>bnd ((Za 5) sl) Yb) (Qw c) (Qj c)))
  (ZE (sIf (fB (f2 kEq (Za 6) (fA Yk Zm))) (ZS (Za 3)) Yr)
  (ZE (Z8 (Er (Za 3) (Za 6)))
  (ZE (ZM 2 (Yn Yk [] (fun sl=>bnd ((Za 5) sl) Yb) (RV c) (Qi c)))
  (ZM 4 (f2 Xy (Za 4) (fC (.int 1)))))))))
def Ic (c:CA):FS :=
 (ZE (ZM 1 (fA (kN 1 (g_hindrances c)) (Ze (Za 0) Zm)))
  (ZE (ZM 2 (ZB c.Orders "movers" 1 (ZZ c) (Za 0) Zm))
  (ZE (ZM 3 (fA YI Zm))
  (ZE (ZM 4 (fC (.int 1)))
  (W7 (YG (fC (.bl true))) (Wb c) 100)))))
def g_strikes (c:CA):List Wv->Mw Wv:=Ym 7 (Ic c)
def Xo (c:CA):List Wv->Mw Wv:=tidyG (g_strikes c)
def RX (c:CA):FE :=
 (f2 kIx (Za 0) (fC (.int 1)))
def LN (c:CA):FT :=
 (fB (f2 (QU true) (Za 0) (Za 1)))
def Kg (c:CA):FE :=
 (Za 0)
def Jk (c:CA):FS :=
 (ZE (ZM 1 (Yn Yk [] (fun sl=>bnd ((fA (kN 1 (Xo c)) (Ze (Za 0) Zm)) sl) Yb) XE (RX c)))
  (ZS (Yn Yk [1] (fun sl=>bnd ((ZB c.Orders "movers" 1 (ZZ c) (Za 0) Zm) sl) Yb) (LN c) (Kg c))))
def g_settled (c:CA):List Wv->Mw Wv:=Ym 2 (Jk c)
def SL (c:CA):FE :=
 (f2 kIx (Za 0) (fC (.int 1)))
def NZ (c:CA):FT :=
 (fB (f2 (QU true) (Za 0) (Za 1)))
def Mn (c:CA):FE :=
 (Za 0)
def Lu (c:CA):FS :=
 (ZE (ZM 1 (Yn Yk [] (fun sl=>bnd ((fA (kN 1 (Xo c)) (Ze (Za 0) Zm)) sl) Yb) XE (SL c)))
  (ZS (Yn YI [1] (fun sl=>bnd ((ZB c.Orders "movers" 1 (ZZ c) (Za 0) Zm) sl) Yb) (NZ c) (Mn c))))
def VG (c:CA):List Wv->Mw Wv:=Ym 2 (Lu c)
end
open PySem L2
def Yt (off:Nat) (l:List Nat) (v:Nat->Int):List (Key × Wv):=l.map fun (k:Nat)=>(.inl ((off:Int)+k),.int (v k))
theorem RZ (off:Nat) (l:List Nat) (v:Nat->Int):(Yt off l v).length=l.length:=by simp[Yt]
theorem Ln {off:Nat} {v:Nat->Int} {k:Nat}:∀{l:List Nat},k∈l->Vg (Yt off l v) (.inl ((off:Int)+k))=some (.int (v k))
 |[],h=>nomatch h
 |j::l,h=>by
  unfold Vg Yt
  rw[List.map_cons,List.find?_cons]
  dsimp only
  rw[Nx]
  by_cases e:j=k
  ·subst e; simp
  ·rw[decide_eq_false e]
   rcases List.mem_cons.mp h with z|z
   ·exact absurd z.symm e
   ·exact Ln z
theorem IK {off:Nat} {v:Nat->Int} {k:Nat} {l:List Nat} (h:k ∉ l):WB (Yt off l v) (.inl ((off:Int)+k)) (.int (v k))=Yt off (l++[k]) v:=by
 have e:((Yt off l v).any fun kv=>decide (kv.1=(.inl ((off:Int)+k):Key)))=false:=by
  rw[List.any_eq_false]
  intro p hp
  obtain ⟨j,hj,rfl⟩:=List.mem_map.mp hp
  dsimp only
  rw[Nx]
  have:j≠k:=fun z=>h (z ▸ hj)
  simp[this]
 unfold WB
 rw[e,if_neg Bool.false_ne_true]
 unfold Yt
 rw[List.map_append]
 rfl
theorem Ox (off:Nat) (l:List Nat) (v:Nat->Int):((Yt off l v).map fun p=>Tj p.1)=l.map fun (k:Nat)=>Wv.int ((off:Int)+k):=by
 unfold Yt
 rw[List.map_map]
 rfl
def mvL (told:List (Option Od)) (f:List (Option Int)):List Nat:=(List.range f.length).filter fun k=>Xd (at' told k)
theorem NB (told:List (Option Od)) (f:List (Option Int)):(mvL told f).Nodup:=List.Nodup.sublist List.filter_sublist List.nodup_range
theorem Wz {told:List (Option Od)} {f:List (Option Int)} {k:Nat}:k∈mvL told f ↔ k < f.length∧∃g,at' told k=some (.move g):=by
 unfold mvL
 rw[List.mem_filter,List.mem_range]
 refine and_congr_right fun _=>?_
 match e:at' told k with
 |none=>simp[Xd]
 |some .stand=>simp[Xd]
 |some (.move g)=>simp[Xd]
 |some (.help a b)=>simp[Xd]
theorem WZ (told:List (Option Od)) (f:List (Option Int)):(mvL told f).length<=f.length:=Nat.le_trans (List.length_filter_le _ _) (by simp)
theorem Ux {α:Type} {T:TgW} {S:FS} (φ:α->Wv) (J:List α->Sl->List Ob->Prop):∀(l pre:List α) {sl:Sl} {om:List Ob},(∀p a q,pre++l=p++a::q->∀sl om,J p sl om->∃sl1 sl2 om2,T (φ a) sl=some sl1∧S sl1 om=some (.ok (.nx,sl2),om2)∧J (p++[a]) sl2 om2)->J pre sl om->∃sl' om',Xz T S (l.map φ) sl om=some (.ok (.nx,sl'),om')∧J (pre++l) sl' om'
 |[],pre,sl,om,_,j=>⟨sl,om,rfl,by rw[List.append_nil]; exact j⟩
 |a::l,pre,sl,om,h,j=>by
  obtain ⟨sl1,sl2,om2,e1,e2,j2⟩:=h pre a l rfl sl om j
  have ee:pre++[a]++l=pre++a::l:=by simp
  obtain ⟨sl',om',e3,j3⟩:=Ux φ J l (pre++[a]) (fun p b q hq=>h p b q (by rw[← hq,ee])) j2
  refine ⟨sl',om',?_,by rw[← ee]; exact j3⟩
  rw[List.map_cons]
  show (match T (φ a) sl with|none=>Xn|some sl1=>bnd (S sl1) (Vd fun sl2=>Xz T S (l.map φ) sl2)) om=_
  rw[e1]
  dsimp only
  rw[Zo e2]
  exact e3
theorem Hd {k:List Wv->Mw Wv} {js:List Nat} {fd:FE} {cT:FT} {fE:FE} {sl:Sl} {om:List Ob} {h:Nat} {kvs:List (Key × Wv)} {us:List Wv} (hd:fd sl om=some (.ok (.o h),om)) (hx:om[h]?=some (.dz kvs)) (hl:kvs.length<=lim) (hc:Xi cT fE (fun w=>Y9 js w sl) (kvs.map fun p=>Tj p.1) om=some (.ok us,om)):WQ k js fd cT fE sl om=k us om:=by
 unfold WQ
 rw[Zo hd]
 refine (Zo (a:=(false,h,kvs.map fun p=>Tj p.1)) (om1:=om) (by simp[L3,hx,hl])).trans ?_
 rw[Zo hc]
 exact (Zo (a:=()) (om1:=om) rfl).trans rfl
theorem Wi {ws:List Wv} {om:List Ob} (h:ws.length<=100):Yk ws om=some (.ok (.lst ws),om):=by
 have:=Z1
 unfold Yk
 rw[if_pos (by omega)]
 rfl
structure Sit (c:CA) (om:List Ob) (ho hb hm hu hl hg size off:Nat) (f:List (Option Int)) (kvs:List (List Key × Wv)) (gs:Gs) (rows:Mx) (told:List (Option Od)):Prop where
 W:Wd c om hb hm hu hl size off f kvs
 S:Os c om ho hb hg off gs
 G:Givn rows f told
 t:Tell gs (at' told)
 s7:∀k s,at' f k=some s->0<=s∧s<=7
section
variable {c:CA} {om:List Ob} {ho hb hm hu hl hg size off:Nat} {f:List (Option Int)} {kvs:List (List Key × Wv)} {gs:Gs} {rows:Mx} {told:List (Option Od)}
theorem Sit.grow (A:Sit c om ho hb hm hu hl hg size off f kvs gs rows told) (l:List Ob):Sit c (om++l) ho hb hm hu hl hg size off f kvs gs rows told:=⟨A.W.grow l,A.S.grow l,A.G,A.t,A.s7⟩
theorem Sit.few (A:Sit c om ho hb hm hu hl hg size off f kvs gs rows told):f.length<=60:=by have:=A.W.fit; have:=A.W.few; omega
theorem TZ (A:Sit c om ho hb hm hu hl hg size off f kvs gs rows told):ZZ c [.o ho] om=some (.ok (.lst ((mvL told f).map fun (k:Nat)=>Wv.int ((off:Int)+k))),om):=M8 A.W A.S A.G A.t
theorem Ry (A:Sit c om ho hb hm hu hl hg size off f kvs gs rows told) {k:Nat} {o:Od} (e:at' told k=some o) {sl:Sl} {i j:Nat} (s0:sl[i]?=some (some (.o ho))) (s1:sl[j]?=some (some (.int ((off:Int)+k)))):ZB c.Orders "goal_of" 2 (Zq c) (Za i) (Ze (Za j) Zm) sl om=some (.ok (Uf off o),om):=(ZJ (Zb s0) (ZK A.S.o) (Z4 _ _ _ (by decide) (by decide)) (Zd (Zb s1) Zk) rfl).trans (Nv A.S A.t e)
theorem Kq (A:Sit c om ho hb hm hu hl hg size off f kvs gs rows told) {k:Nat} (hk:k < f.length) {sl:Sl} {i j:Nat} (s0:sl[i]?=some (some (.o ho))) (s1:sl[j]?=some (some (.int ((off:Int)+k)))):ZB c.Board "side_at" 2 (ZR c) (f1 (Yw c.Orders "board") (Za i)) (Ze (Za j) Zm) sl om=some (.ok (Zv (at' f k)),om):=(ZJ (VP A.S s0) (ZK A.W.b) (Y1 _ _ _ (by decide) (by decide)) (Zd (Zb s1) Zk) rfl).trans (O4 A.W hk)
abbrev fN (told:List (Option Od)) (f:List (Option Int)) (k:Nat):Int:=WS told f k (-1)
theorem OB {om:List Ob} {l:List Nat} {v:Nat->Int} {k:Nat} {sl:Sl} {fv:FE} {i j:Nat} (n:Nat) (om0:List Ob) (hom:om=om0++[.dk (Yt off l v)]) (hn:n=om0.length) (hv:fv sl om=some (.ok (.int (v k)),om)) (hi:sl[i]?=some (some (.o n))) (hj:sl[j]?=some (some (.int ((off:Int)+k)))) (hk:k ∉ l) (hlen:l.length<=60) :
    Y2 fv (Za i) (Za j) sl om=some (.ok (.nx,sl),om0++[.dk (Yt off (l++[k]) v)]):=by
 have hlim:=Z1
 subst hom hn
 unfold Y2
 rw[Zo hv,Zo (Zb hi),Zo (Zb hj)]
 refine (Zo (a:=()) (om1:=om0++[.dk (Yt off (l++[k]) v)]) ?_).trans rfl
 have h1:(Yt off l v).length < lim:=by rw[RZ]; omega
 have h2:(om0++[Ob.dk (Yt off l v)])[om0.length]?=some (.dk (Yt off l v)):=by simp
 have h3:(om0++[Ob.dk (Yt off l v)]).set om0.length (.dk (Yt off (l++[k]) v))=om0++[.dk (Yt off (l++[k]) v)]:=by
  rw[List.set_append_right _ _ (Nat.le_refl _),Nat.sub_self]; rfl
 simp only[UM,Sv,h2,YR]
 rw[if_pos h1,IK hk,h3]
theorem HN (A:Sit c om ho hb hm hu hl hg size off f kvs gs rows told):g_weigh_movers c [.o ho] om=some (.ok (.o om.length),om++[.dk (Yt off (mvL told f) (fN told f))]):=by
 have hlim:=Z1
 have hfew:=A.few
 have hml:=WZ told f
 have e1:ZM 1 (fun _=>newO (.dk [])) [some (.o ho),none,none] om=some (.ok (.nx,[some (.o ho),some (.o om.length),none]),om++[.dk []]):=ZD (i:=1) rfl
 have A1:=A.grow [.dk []]
 obtain ⟨sl',om',ef,ho',x,rfl⟩:=Ux (T:=tgN 2) (S:=V4 c) (fun (k:Nat)=>Wv.int ((off:Int)+k)) (fun p sl om'=>om'=om++[.dk (Yt off p (fN told f))]∧∃x,sl=[some (.o ho),some (.o om.length),x]) (mvL told f) [] (sl:=[some (.o ho),some (.o om.length),none]) (om:=om++[.dk []]) (fun p a q hq sl om' ⟨h1,x,h2⟩=>by
  subst h2
  have hq:mvL told f=p++a::q:=hq
  have ha:a∈mvL told f:=by rw[hq]; simp
  obtain ⟨_,g,hg'⟩:=Wz.mp ha
  have nd:=NB told f
  rw[hq]at nd
  have hap:a ∉ p:=fun hp=>(List.nodup_append.mp nd).2.2 a hp a (.head _) rfl
  have hpl:p.length<=60:=by
   have:p.length<=(mvL told f).length:=by rw[hq]; simp
   omega
  have A2:Sit c om' ho hb hm hu hl hg size off f kvs gs rows told:=by rw[h1]; exact A.grow _
  refine ⟨[some (.o ho),some (.o om.length),some (.int ((off:Int)+a))],_,_,rfl,OB (i:=1) (j:=2) (k:=a) om.length om h1 rfl ((ZG (Zd (Zb rfl) (Zd (Zb rfl) Zk))).trans ((Yj rfl).trans (Ha A2.W A2.S A2.G A2.t A2.s7 hg'))) rfl rfl hap hpl,rfl,_,rfl⟩) ⟨rfl,_,rfl⟩
 have e2:=Yx (sl1:=[]) (fi:=fun sl=>bnd ((ZB c.Orders "movers" 1 (ZZ c) (Za 0) Zm) sl) Yb) (sl:=[some (.o ho),some (.o om.length),none]) ((Zo ((ZJ (Zb rfl) (ZK A1.S.o) (Z4 _ _ _ (by decide) (by decide)) Zk rfl).trans (TZ A1))).trans rfl) ef
 rw[ho']at e2
 exact Zy ((Zg e1).trans ((Zg e2).trans (Zr (Zb rfl))))
def Ld (told:List (Option Od)) (f:List (Option Int)) (k g:Nat):Bool:=((mvL told f).filter fun m=>!decide (m=k)&&decide (at' told m=some (.move g))).any fun m=>decide (fN told f k<=fN told f m)
theorem Nc {h:Nat} {l:List Nat} {v:Nat->Int} (hx:om[h]?=some (.dk (Yt off l v))∨om[h]?=some (.dz (Yt off l v))) {k:Nat} (hk:k∈l) {sl:Sl} {i j:Nat} (hi:sl[i]?=some (some (.o h))) (hj:sl[j]?=some (some (.int ((off:Int)+k)))):f2 Vu (Za i) (Za j) sl om=some (.ok (.int (v k)),om):=by
 refine (v2 hi hj).trans ?_
 have e:=Ln (off:=off) (v:=v) hk
 rcases hx with hx|hx
 ·simp only[Vu,X4,hx,YR,e]
 ·simp only[Vu,X4,hx,YR,e]
theorem Ka (A:Sit c om ho hb hm hu hl hg size off f kvs gs rows told) {hF k g:Nat} (hx:om[hF]?=some (.dz (Yt off (mvL told f) (fN told f)))) (e:at' told k=some (.move g)) (hk:k < f.length):g_is_outdone c [.o ho,.o hF,.int ((off:Int)+k)] om=some (.ok (.bl (Ld told f k g)),om):=by
 have hlim:=Z1
 have hfew:=A.few
 have hml:=WZ told f
 have hkm:k∈mvL told f:=Wz.mpr ⟨hk,g,e⟩
 have e1:ZM 3 (ZB c.Orders "goal_of" 2 (Zq c) (Za 0) (Ze (Za 2) Zm)) [some (.o ho),some (.o hF),some (.int ((off:Int)+k)),none,none] om=some (.ok (.nx,[some (.o ho),some (.o hF),some (.int ((off:Int)+k)),some (.int ((off:Int)+g)),none]),om):=ZD (i:=3) (Ry A e rfl rfl)
 generalize hp:(fun m=>!decide (m=k)&&decide (at' told m=some (.move g)))=p
 have hfl:=List.length_filter_le p (mvL told f)
 have e2:ZM 4 (WQ Yk [0,2,3] (Za 1) (UT c) (U0 c)) [some (.o ho),some (.o hF),some (.int ((off:Int)+k)),some (.int ((off:Int)+g)),none] om=some (.ok (.nx,[some (.o ho),some (.o hF),some (.int ((off:Int)+k)),some (.int ((off:Int)+g)),some (.lst (((mvL told f).filter p).map fun (m:Nat)=>Wv.int ((off:Int)+m)))]),om):=by
  refine ZD (i:=4) ((Hd (us:=((mvL told f).filter p).map fun (m:Nat)=>Wv.int ((off:Int)+m)) (Zb rfl) hx (by rw[RZ]; omega) ?_).trans (Wi (by rw[List.length_map]; omega)))
  rw[Ox]
  refine YL (fun (m:Nat)=>Wv.int ((off:Int)+m)) p (fun (m:Nat)=>Wv.int ((off:Int)+m)) (fun m hm=>?_) (fun m hm _=>Zb rfl)
  obtain ⟨hm1,g',hm2⟩:=Wz.mp hm
  rw[← hp]
  refine WJ (ZP ((v2 rfl rfl).trans ((WO _ _ _).trans (by rw[Qn])))) fun _=>ZP ((Zs (Ry A hm2 rfl rfl) (Zb rfl)).trans ((S9 _ _ _ _).trans ?_))
  rw[hm2]
  simp
 have e3:Yn Yk [1,2] (fun sl=>bnd ((Za 4) sl) Yb) XE (UV c) [some (.o ho),some (.o hF),some (.int ((off:Int)+k)),some (.int ((off:Int)+g)),some (.lst (((mvL told f).filter p).map fun (m:Nat)=>Wv.int ((off:Int)+m)))] om=some (.ok (.lst (((mvL told f).filter p).map fun m=>Wv.bl (decide (fN told f k<=fN told f m)))),om):=by
  refine (X7 (ws:=((mvL told f).filter p).map fun (m:Nat)=>Wv.int ((off:Int)+m)) (om1:=om) ((Zo (a:=.lst (((mvL told f).filter p).map fun (m:Nat)=>Wv.int ((off:Int)+m))) (om1:=om) (Zb rfl)).trans rfl) (by rw[List.length_map]; omega) (YL (fun (m:Nat)=>Wv.int ((off:Int)+m)) (fun _=>true) (fun m=>Wv.bl (decide (fN told f k<=fN told f m))) (fun m hm=>rfl) (fun m hm _=>?_))).trans ?_
  ·have hmm:=(List.mem_filter.mp hm).1
   exact (Zs (Nc (.inr hx) hmm rfl rfl) (Nc (.inr hx) hkm rfl rfl)).trans rfl
  ·rw[List.filter_eq_self.mpr (fun _ _=>rfl)]
   exact Wi (by rw[List.length_map]; omega)
 refine Zy ((Zg e1).trans ((Zg e2).trans (Zr ((ZG (Zd e3 Zk)).trans ?_))))
 show (match Vl (((mvL told f).filter p).map fun m=>Wv.bl (decide (fN told f k<=fN told f m))) with|some bs=>some (Except.ok (Wv.bl (bs.any id)),om)|none=>none)=_
 rw[Tf]
 show some (Except.ok (Wv.bl ((((mvL told f).filter p).map fun m=>decide (fN told f k<=fN told f m)).any id)),om)=_
 unfold Ld
 rw[List.any_map,hp]
 rfl
def P6 (told:List (Option Od)) (f:List (Option Int)) (k g:Nat) (st:Int):Bool:=!decide (at' f g=at' f k)&&decide (st < ZX told f k g (at' f g))
theorem FK (A:Sit c om ho hb hm hu hl hg size off f kvs gs rows told) {k g:Nat} {s:Int} (e:at' told k=some (.move g)) (hk:k < f.length) (hgs:at' f g=some s) (st:Int):g_overcomes c [.o ho,.int ((off:Int)+k),.int ((off:Int)+g),.int st] om=some (.ok (.bl (P6 told f k g st)),om):=by
 have e1:ZM 4 (ZB c.Board "side_at" 2 (ZR c) (f1 (Yw c.Orders "board") (Za 0)) (Ze (Za 2) Zm)) [some (.o ho),some (.int ((off:Int)+k)),some (.int ((off:Int)+g)),some (.int st),none] om=some (.ok (.nx,[some (.o ho),some (.int ((off:Int)+k)),some (.int ((off:Int)+g)),some (.int st),some (.int s)]),om):=by
  have q:=Kq A (UQ hgs) (sl:=[some (.o ho),some (.int ((off:Int)+k)),some (.int ((off:Int)+g)),some (.int st),none]) (i:=0) (j:=2) rfl rfl
  rw[hgs]at q
  exact ZD (i:=4) q
 refine Zy ((Zg e1).trans (Zr ?_)) (sl1:=[some (.o ho),some (.int ((off:Int)+k)),some (.int ((off:Int)+g)),some (.int st),some (.int s)])
 unfold P6
 rw[hgs]
 refine Nj ((Zs (Zb rfl) (Kq A hk rfl rfl)).trans (Tm (some s) (at' f k) om)) fun _=>?_
 have ag:=Ly A.W A.S A.G A.t e s
 rw[show WS told f k s=ZX told f k g (some s) by unfold WS; rw[e]]at ag
 exact (Zs ((ZG (Zd (Zb rfl) (Zd (Zb rfl) (Zd (Zb rfl) Zk)))).trans ((Yj rfl).trans ag)) (Zb rfl)).trans rfl
def Ue (told:List (Option Od)) (f:List (Option Int)) (k g:Nat):Int :=
 bif Ld told f k g then 1
 else bif (at' f g).isNone then 0
 else bif decide (at' told g=some (.move k)) then (bif P6 told f k g (fN told f g) then 0 else 2)
 else (bif P6 told f k g (UX told f g) then 0 else 3)
theorem Df {cT:FT} {a b:FE} {sl:Sl} {x:Bool} {m n:Int} (h:cT sl om=some (.ok x,om)) (ha:a sl om=some (.ok (.int m),om)) (hb:b sl om=some (.ok (.int n),om)):GQ cT a b sl om=some (.ok (.int (bif x then m else n)),om):=by
 unfold GQ
 rw[Zo h]
 cases x with
 |true=>rw[if_pos rfl]; exact ha
 |false=>rw[if_neg Bool.false_ne_true]; exact hb
theorem Fx (A:Sit c om ho hb hm hu hl hg size off f kvs gs rows told) {hF k g:Nat} (hx:om[hF]?=some (.dz (Yt off (mvL told f) (fN told f)))) (e:at' told k=some (.move g)):g_hindrance c [.o ho,.o hF,.int ((off:Int)+k)] om=some (.ok (.int (Ue told f k g)),om):=by
 have hk:k < f.length:=A.G.same.lt k _ e
 have hgl:g < f.length:=by have:=(A.G.okT.mv k g e).1; rw[A.G.len]at this; exact this
 have e1:ZM 3 (ZB c.Orders "goal_of" 2 (Zq c) (Za 0) (Ze (Za 2) Zm)) [some (.o ho),some (.o hF),some (.int ((off:Int)+k)),none] om=some (.ok (.nx,[some (.o ho),some (.o hF),some (.int ((off:Int)+k)),some (.int ((off:Int)+g))]),om):=ZD (i:=3) (Ry A e rfl rfl)
 have t1:YG (fA (kN 3 (g_is_outdone c)) (Ze (Za 0) (Ze (Za 1) (Ze (Za 2) Zm)))) [some (.o ho),some (.o hF),some (.int ((off:Int)+k)),some (.int ((off:Int)+g))] om=some (.ok (Ld told f k g),om):=YE ((ZG (Zd (Zb rfl) (Zd (Zb rfl) (Zd (Zb rfl) Zk)))).trans ((Yj rfl).trans (Ka A hx e hk)))
 have t2:fB (f1 XT (ZB c.Board "side_at" 2 (ZR c) (f1 (Yw c.Orders "board") (Za 0)) (Ze (Za 3) Zm))) [some (.o ho),some (.o hF),some (.int ((off:Int)+k)),some (.int ((off:Int)+g))] om=some (.ok (at' f g).isNone,om):=ZP ((Xs (Kq A hgl rfl rfl)).trans (TD _ _))
 unfold Ue
 cases h1:Ld told f k g with
 |true =>
  rw[h1]at t1
  exact Zy ((Zg e1).trans (ZT ((Yo t1).trans (Zr Zp))))
 |false =>
  rw[h1]at t1
  match h2:at' f g with
  |none =>
   rw[h2]at t2
   exact Zy ((Zg e1).trans ((Zg (ZI t1)).trans (ZT ((Yo t2).trans (Zr Zp)))))
  |some s =>
   rw[h2]at t2
   obtain ⟨o,hto⟩:=Option.isSome_iff_exists.mp ((A.G.same g).trans (by rw[h2]; rfl))
   have t3:fB (f2 kEq (ZB c.Orders "goal_of" 2 (Zq c) (Za 0) (Ze (Za 3) Zm)) (Za 2)) [some (.o ho),some (.o hF),some (.int ((off:Int)+k)),some (.int ((off:Int)+g))] om=some (.ok (decide (at' told g=some (.move k))),om):=by
    refine ZP ((Zs (Ry A hto rfl rfl) (Zb rfl)).trans ((S9 _ _ _ _).trans ?_))
    rw[hto]
    simp
   have rest:∀(st:Int) (fe:FE),fe [some (.o ho),some (.o hF),some (.int ((off:Int)+k)),some (.int ((off:Int)+g))] om=some (.ok (.int st),om)->YG (fA (kN 4 (g_overcomes c)) (Ze (Za 0) (Ze (Za 2) (Ze (Za 3) (Ze fe Zm))))) [some (.o ho),some (.o hF),some (.int ((off:Int)+k)),some (.int ((off:Int)+g))] om=some (.ok (P6 told f k g st),om):=fun st fe he=>YE ((ZG (Zd (Zb rfl) (Zd (Zb rfl) (Zd (Zb rfl) (Zd he Zk))))).trans ((Yj rfl).trans (FK A e hk h2 st)))
   by_cases h3:at' told g=some (.move k)
   ·rw[decide_eq_true h3]at t3 ⊢
    have hgm:g∈mvL told f:=Wz.mpr ⟨hgl,k,h3⟩
    have q:=Df (a:=fC (.int 0)) (b:=fC (.int 2)) (m:=0) (n:=2) (rest _ (f2 Vu (Za 1) (Za 3)) (Nc (i:=1) (j:=3) (.inr hx) hgm rfl rfl)) Zp Zp
    exact Zy ((Zg e1).trans ((Zg (ZI t1)).trans ((Zg (ZI t2)).trans (ZT ((Yo t3).trans (Zr q))))))
   ·rw[decide_eq_false h3]at t3 ⊢
    have q:=Df (a:=fC (.int 0)) (b:=fC (.int 3)) (m:=0) (n:=3) (rest _ (fA (kN 2 (g_firmness c)) (Ze (Za 0) (Ze (Za 3) Zm))) ((ZG (Zd (Zb rfl) (Zd (Zb rfl) Zk))).trans ((Yj rfl).trans (Lq A.W A.S A.G A.t A.s7 hto)))) Zp Zp
    exact Zy ((Zg e1).trans ((Zg (ZI t1)).trans ((Zg (ZI t2)).trans ((Zg (ZI t3)).trans (Zr q)))))
def hN (told:List (Option Od)) (f:List (Option Int)) (k:Nat):Int:=match at' told k with
 |some (.move g)=>Ue told f k g
 |_=>0
theorem Ga (A:Sit c om ho hb hm hu hl hg size off f kvs gs rows told):g_hindrances c [.o ho] om=some (.ok (.o (om.length+1)),om++[.dk (Yt off (mvL told f) (fN told f)),.dk (Yt off (mvL told f) (hN told f))]):=by
 have hlim:=Z1
 have hfew:=A.few
 have hml:=WZ told f
 generalize hD:Yt off (mvL told f) (fN told f)=D
 have hDl:D.length<=lim:=by rw[← hD,RZ]; omega
 have e1:ZM 1 (fA (kN 1 (g_weigh_movers c)) (Ze (Za 0) Zm)) [some (.o ho),none,none,none] om=some (.ok (.nx,[some (.o ho),some (.o om.length),none,none]),om++[.dk D]):=by
  rw[← hD]
  exact ZD (i:=1) ((ZG (Zd (Zb rfl) Zk)).trans ((Yj rfl).trans (HN A)))
 have hl1:(om++[Ob.dk D]).length=om.length+1:=by simp
 have e2:ZM 2 (fun _=>newO (.dk [])) [some (.o ho),some (.o om.length),none,none] (om++[.dk D])=some (.ok (.nx,[some (.o ho),some (.o om.length),some (.o (om.length+1)),none]),om++[.dk D,.dk []]):=by
  refine (ZD (i:=2) (w:=.o (om++[Ob.dk D]).length) (om1:=om++[.dk D]++[.dk []]) rfl).trans ?_
  rw[hl1,List.append_assoc]
  rfl
 obtain ⟨sl',om',ef,ho',x,rfl⟩:=Ux (T:=tgN 3) (S:=Vj c) (fun (k:Nat)=>Wv.int ((off:Int)+k)) (fun p sl om'=>om'=om++[.dz D]++[.dk (Yt off p (hN told f))]∧∃x,sl=[some (.o ho),some (.o om.length),some (.o (om.length+1)),x]) (mvL told f) [] (sl:=[some (.o ho),some (.o om.length),some (.o (om.length+1)),none]) (om:=om++[.dz D]++[.dk []]) (fun p a q hq sl om' ⟨h1,x,h2⟩=>by
  subst h2
  have hq:mvL told f=p++a::q:=hq
  have ha:a∈mvL told f:=by rw[hq]; simp
  obtain ⟨_,g,hg'⟩:=Wz.mp ha
  have nd:=NB told f
  rw[hq]at nd
  have hap:a ∉ p:=fun hp=>(List.nodup_append.mp nd).2.2 a hp a (.head _) rfl
  have hpl:p.length<=60:=by
   have:p.length<=(mvL told f).length:=by rw[hq]; simp
   omega
  have A2:Sit c om' ho hb hm hu hl hg size off f kvs gs rows told:=by rw[h1,List.append_assoc]; exact A.grow _
  have hx:om'[om.length]?=some (.dz (Yt off (mvL told f) (fN told f))):=by rw[h1,hD]; simp
  have hv:=Fx A2 hx hg'
  rw[show Ue told f a g=hN told f a by unfold hN; rw[hg']]at hv
  exact ⟨[some (.o ho),some (.o om.length),some (.o (om.length+1)),some (.int ((off:Int)+a))],_,_,rfl,OB (i:=2) (j:=3) (k:=a) (om.length+1) (om++[.dz D]) h1 (by simp) ((ZG (Zd (Zb rfl) (Zd (Zb rfl) (Zd (Zb rfl) Zk)))).trans ((Yj rfl).trans hv)) rfl rfl hap hpl,rfl,_,rfl⟩) ⟨rfl,_,rfl⟩
 have e3:KS (Za 1) (tgN 3) (Vj c) [some (.o ho),some (.o om.length),some (.o (om.length+1)),none] (om++[.dk D,.dk []])=some (.ok (.nx,[some (.o ho),some (.o om.length),some (.o (om.length+1)),x]),om++[.dk D,.dk (Yt off (mvL told f) (hN told f))]):=by
  unfold KS
  rw[Zo (Zb rfl)]
  have g0:(om++[Ob.dk D,.dk []])[om.length]?=some (.dk D):=by simp
  have g1:(om++[Ob.dk D,.dk []]).set om.length (.dz D)=om++[.dz D]++[.dk []]:=by
   rw[List.set_append_right _ _ (Nat.le_refl _),Nat.sub_self,List.append_assoc]; rfl
  refine (Zo (a:=(true,om.length,D.map fun p=>Tj p.1)) (om1:=om++[.dz D]++[.dk []]) (by simp only[L3,g0,if_pos hDl,g1])).trans ?_
  dsimp only
  have hk:(D.map fun p=>Tj p.1)=(mvL told f).map fun (k:Nat)=>Wv.int ((off:Int)+k):=by rw[← hD,Ox]
  rw[hk]
  refine (Zo (a:=(.nx,[some (.o ho),some (.o om.length),some (.o (om.length+1)),x])) (om1:=om') (by unfold ZL; rw[ef])).trans ?_
  rw[ho']
  have g2:(om++[Ob.dz D]++[Ob.dk (Yt off ([]++mvL told f) (hN told f))])[om.length]?=some (.dz D):=by simp
  have g3:(om++[Ob.dz D]++[Ob.dk (Yt off ([]++mvL told f) (hN told f))]).set om.length (.dk D)=om++[.dk D,.dk (Yt off (mvL told f) (hN told f))]:=by
   rw[List.append_assoc,List.set_append_right _ _ (Nat.le_refl _),Nat.sub_self]; rfl
  have g4:Ls true om.length (om++[Ob.dz D]++[Ob.dk (Yt off ([]++mvL told f) (hN told f))])=some (.ok (),om++[.dk D,.dk (Yt off (mvL told f) (hN told f))]):=by
   unfold Ls
   rw[if_pos rfl,g2]
   dsimp only
   rw[g3]
  exact (Zo g4).trans rfl
 exact Zy ((Zg e1).trans ((Zg e2).trans ((Zg e3).trans (Zr (Zb rfl)))))
end
open PySem L2
theorem Li (off a:Nat):∀l:List Nat,inV (.int ((off:Int)+a)) (l.map fun (k:Nat)=>V.int ((off:Int)+k))=l.contains a
 |[]=>rfl
 |k::l=>by
  have ih:=Li off a l
  unfold inV at ih ⊢
  rw[List.map_cons,List.any_cons,ih,List.contains_cons]
  congr 1
  show ((off:Int)+k == (off:Int)+a)=(a == k)
  by_cases h:a=k
  ·subst h; simp
  ·rw[beq_eq_false_iff_ne.mpr h,beq_eq_false_iff_ne.mpr (by omega)]
theorem T4 {off a:Nat} {l:List Nat} {om:List Ob} {pw:Wv} (hp:Yq om pw=some (l.map fun (k:Nat)=>Wv.int ((off:Int)+k))) (neg:Bool):QU neg (.int ((off:Int)+a)) pw om=some (.ok (.bl (if neg then !l.contains a else l.contains a)),om):=by
 unfold QU
 rw[hp]
 dsimp only
 have h1:(Tt (.int ((off:Int)+a))&&(l.map fun (k:Nat)=>Wv.int ((off:Int)+k)).all Tt)=true:=by
  rw[List.all_map]
  simp[Tt]
 rw[if_pos h1,List.map_map]
 have h2:(l.map (toV ∘ fun (k:Nat)=>Wv.int ((off:Int)+k)))=l.map fun (k:Nat)=>V.int ((off:Int)+k):=rfl
 rw[h2]
 show some (Except.ok (Wv.bl (if neg=true then !inV (.int ((off:Int)+a)) (l.map fun (k:Nat)=>V.int ((off:Int)+k)) else inV (.int ((off:Int)+a)) (l.map fun (k:Nat)=>V.int ((off:Int)+k)))),om)=_
 rw[Li]
section
variable {c:CA} {om:List Ob} {ho hb hm hu hl hg size off:Nat} {f:List (Option Int)} {kvs:List (List Key × Wv)} {gs:Gs} {rows:Mx} {told:List (Option Od)}
def ZV (told:List (Option Od)) (f:List (Option Int)) (ps:List Nat) (k:Nat):Int:=match at' told k with
 |some (.move g)=>bif decide (Ue told f k g=3)&&ps.contains g then 0 else Ue told f k g
 |_=>0
theorem IT (A:Sit c om ho hb hm hu hl hg size off f kvs gs rows told) {hN' k:Nat} {pw:Wv} {ps:List Nat} (hx:om[hN']?=some (.dk (Yt off (mvL told f) (hN told f)))) (hk:k∈mvL told f) (hp:Yq om pw=some (ps.map fun (k:Nat)=>Wv.int ((off:Int)+k))):g_fault c [.o ho,.o hN',.int ((off:Int)+k),pw] om=some (.ok (.int (ZV told f ps k)),om):=by
 obtain ⟨hkf,g,e⟩:=Wz.mp hk
 have eh:hN told f k=Ue told f k g:=by unfold hN; rw[e]
 have d1:f2 Vu (Za 1) (Za 2) [some (.o ho),some (.o hN'),some (.int ((off:Int)+k)),some pw] om=some (.ok (.int (Ue told f k g)),om):=by
  rw[← eh]
  exact Nc (.inl hx) hk rfl rfl
 have t1:X1 (fB (f2 kEq (f2 Vu (Za 1) (Za 2)) (fC (.int 3)))) (fB (f2 (QU false) (ZB c.Orders "goal_of" 2 (Zq c) (Za 0) (Ze (Za 2) Zm)) (Za 3))) [some (.o ho),some (.o hN'),some (.int ((off:Int)+k)),some pw] om=some (.ok (decide (Ue told f k g=3)&&ps.contains g),om) :=
  WJ (ZP ((Zs d1 Zp).trans (Xw _ _ _))) fun _=>ZP ((Zs (Ry A e rfl rfl) (Zb rfl)).trans (T4 hp false))
 unfold ZV
 rw[e]
 dsimp only
 cases h:(decide (Ue told f k g=3)&&ps.contains g) with
 |true =>
  rw[h]at t1
  exact Zy (ZT ((Yo t1).trans (Zr Zp)))
 |false =>
  rw[h]at t1
  exact Zy ((Zg (ZI t1)).trans (Zr d1))
theorem Qe (A:Sit c om ho hb hm hu hl hg size off f kvs gs rows told) {k g:Nat} {ps:List Nat} {kept:List Bool} (e:at' told k=some (.move g)) (hk:kept.getD g false=ps.contains g):PK told f kept k g=ZV told f ps k:=by
 have hkf:k < f.length:=A.G.same.lt k _ e
 have fk:fN told f k=ZX told f k g (some (-1)):=by unfold fN WS; rw[e]
 have ho:((List.range told.length).any fun m=>!decide (m=k)&&(decide (at' told m=some (.move g))&&decide (ZX told f k g (some (-1))<=ZX told f m g (some (-1)))))=Ld told f k g:=by
  unfold Ld
  rw[A.G.len]
  refine Bool.eq_iff_iff.mpr ?_
  rw[List.any_eq_true,List.any_eq_true]
  constructor
  ·rintro ⟨m,hm,h⟩
   obtain ⟨h1,h2⟩:=Bool.and_eq_true_iff.mp h
   obtain ⟨h3,h4⟩:=Bool.and_eq_true_iff.mp h2
   have hmv:=of_decide_eq_true h3
   refine ⟨m,List.mem_filter.mpr ⟨Wz.mpr ⟨List.mem_range.mp hm,g,hmv⟩,by rw[h1,h3]; rfl⟩,?_⟩
   have fm:fN told f m=ZX told f m g (some (-1)):=by unfold fN WS; rw[hmv]
   rw[fk,fm]
   exact h4
  ·rintro ⟨m,hm,h⟩
   obtain ⟨hm1,hm2⟩:=List.mem_filter.mp hm
   obtain ⟨h1,h3⟩:=Bool.and_eq_true_iff.mp hm2
   have hmv:=of_decide_eq_true h3
   have fm:fN told f m=ZX told f m g (some (-1)):=by unfold fN WS; rw[hmv]
   rw[fk,fm]at h
   exact ⟨m,List.mem_range.mpr (Wz.mp hm1).1,by rw[h1,h3,h]; rfl⟩
 have nle:∀a b:Int,decide (a<=b)=!decide (b < a):=fun a b=>by
  by_cases h:a<=b
  ·rw[decide_eq_true h,decide_eq_false (by omega)]; rfl
  ·rw[decide_eq_false h,decide_eq_true (by omega)]; rfl
 unfold PK ZV
 rw[e,ho,hk]
 dsimp only
 unfold Ue
 cases Ld told f k g with
 |true=>rfl
 |false =>
  match hs:at' f g with
  |none=>rfl
  |some s =>
   unfold P6
   rw[hs]
   by_cases h3:at' told g=some (.move k)
   ·have fg:fN told f g=ZX told f g k (some (-1)):=by unfold fN WS; rw[h3]
    rw[decide_eq_true h3,fg,nle (ZX told f k g (some s)) (ZX told f g k (some (-1)))]
    cases decide (some s=at' f k) <;> cases decide (ZX told f g k (some (-1)) < ZX told f k g (some s)) <;> rfl
   ·rw[decide_eq_false h3,nle (ZX told f k g (some s)) (UX told f g)]
    cases decide (some s=at' f k) <;> cases decide (UX told f g < ZX told f k g (some s)) <;> cases ps.contains g <;> rfl
end
open PySem L2
theorem Ku {om:List Ob} {x y:Wv} {d:PyData} (hx:YQ om x=some d) (hy:YQ om y=some d) (hl:X0 d=true) (neg:Bool):Xe neg x y om=some (.ok (.bl (!neg)),om):=by
 have hc:d.canLay0=true:=(Bool.and_eq_true_iff.mp hl).1
 have he:PyData.eqv d d=true:=PySem.SeqAt.eqv_refl d hc
 unfold Xe
 rw[hx,hy]
 dsimp only
 rw[hl]
 cases neg <;> simp[he]
theorem Rw (om:List Ob):∀ns:List Int,pysOf om (ns.map Wv.int)=some (ns.map PyData.int)
 |[]=>rfl
 |n::r=>by
  show (match XS om (.int n),pysOf om (r.map Wv.int) with|some d,some ds=>some (d::ds)|_,_=>none)=_
  rw[Rw om r]
  rfl
theorem Pd (ns:List Int):X0 (.list (ns.map PyData.int))=true:=by
 have a:PyData.canLayAll0 (ns.map PyData.int)=true:=by
  induction ns with
  |nil=>rfl
  |cons n r ih=>simp[PyData.canLayAll0,PyData.canLay0,ih]
 have b:PyData.depthAll (ns.map PyData.int)=0:=by
  induction ns with
  |nil=>rfl
  |cons n r ih =>
   have ih:=ih (by simp[PyData.canLayAll0,PyData.canLay0]at a; simpa using a)
   simp[PyData.depthAll,PyData.depth,ih]
 simp[X0,PyData.canLay0,PyData.depth,a,b]
theorem py_o {om:List Ob} {h:Nat} {ns:List Int} (e:om[h]?=some (.lst (ns.map Wv.int))):YQ om (.o h)=some (.list (ns.map PyData.int)):=by
 show (match om[h]? with|some (.lst ws)=>(pysOf om ws).map PyData.list|_=>none)=_
 rw[e]
 show (pysOf om (ns.map Wv.int)).map PyData.list=_
 rw[Rw]
 rfl
theorem C4 (om:List Ob) (ns:List Int):YQ om (.lst (ns.map Wv.int))=some (.list (ns.map PyData.int)):=by
 show (pysOf om (ns.map Wv.int)).map PyData.list=_
 rw[Rw]
 rfl
open PySem L2
abbrev R3:Type:=Int × Nat × Int
def r3W (off:Nat) (r:R3):Wv:=.tup [.int r.1,.int ((off:Int)+r.2.1),.int r.2.2]
def r3P (off:Nat) (r:R3):PyData:=.tuple [.int r.1,.int ((off:Int)+r.2.1),.int r.2.2]
theorem Gf (off:Nat) (om:List Ob):∀l:List R3,pysOf om (l.map (r3W off))=some (l.map (r3P off))
 |[]=>rfl
 |p::r=>by
  show (match XS om (r3W off p),pysOf om (r.map (r3W off)) with|some d,some ds=>some (d::ds)|_,_=>none)=_
  rw[Gf off om r]
  rfl
theorem K6 (off:Nat) (l:List R3):X0 (.list (l.map (r3P off)))=true:=by
 have a:PyData.canLayAll0 (l.map (r3P off))=true∧PyData.depthAll (l.map (r3P off))<=1:=by
  induction l with
  |nil=>exact ⟨rfl,by simp[PyData.depthAll]⟩
  |cons n r ih=>exact ⟨by simp[PyData.canLayAll0,PyData.canLay0,r3P]; exact ih.1,by have:=ih.2; simp[PyData.depthAll,PyData.depth,r3P]; omega⟩
 have:=a.2
 simp[X0,PyData.canLay0,PyData.depth,a.1]
 omega
theorem Bc (off:Nat) (l:List R3) (om:List Ob):Xe false (.lst (l.map (r3W off))) (.lst []) om=some (.ok (.bl l.isEmpty),om):=by
 have h1:YQ om (.lst (l.map (r3W off)))=some (.list (l.map (r3P off))):=by
  show (pysOf om (l.map (r3W off))).map PyData.list=_
  rw[Gf]; rfl
 have h2:YQ om (.lst [])=some (.list []):=rfl
 have h3:X0 (.list [])=true:=K6 off []
 unfold Xe
 rw[h1,h2]
 dsimp only
 rw[K6 off l,h3]
 cases l <;> rfl
def fallen (told:List (Option Od)) (f:List (Option Int)) (l:List Nat):List Nat:=l.filter fun k=>!decide (ZV told f l k=0)
def YZ (told:List (Option Od)) (f:List (Option Int)) (l:List Nat):List Nat:=l.filter fun k=>decide (ZV told f l k=0)
def VN (told:List (Option Od)) (f:List (Option Int)):Nat->Int->List Nat->List R3
 |0,_,_=>[]
 |n+1,i,l=>((fallen told f l).map fun k=>(i,k,ZV told f l k))++VN told f n (i+1) (YZ told f l)
theorem Qt {told:List (Option Od)} {f:List (Option Int)} {l:List Nat} (h:fallen told f l=[]):YZ told f l=l:=by
 refine List.filter_eq_self.mpr fun k hk=>?_
 have:=List.filter_eq_nil_iff.mp h k hk
 simpa using this
theorem Ro {told:List (Option Od)} {f:List (Option Int)} {l:List Nat} (h:fallen told f l=[]):∀(n:Nat) (i:Int),VN told f n i l=[]
 |0,_=>rfl
 |n+1,i=>by unfold VN; rw[h,Qt h,Ro h n]; rfl
theorem Vx (told:List (Option Od)) (f:List (Option Int)) (l:List Nat):(fallen told f l).length+(YZ told f l).length=l.length:=by
 unfold fallen YZ
 have h:∀(p:Nat->Bool) (l:List Nat),(l.filter fun k=>!p k).length+(l.filter p).length=l.length:=fun p l=>by
  induction l with
  |nil=>rfl
  |cons k r ih=>cases h:p k <;> simp[h] <;> omega
 exact h (fun k=>decide (ZV told f l k=0)) l
section
variable {c:CA} {om:List Ob} {ho hb hm hu hl hg size off:Nat} {f:List (Option Int)} {kvs:List (List Key × Wv)} {gs:Gs} {rows:Mx} {told:List (Option Od)}
abbrev pW (off:Nat) (k:Nat):Wv:=Wv.int ((off:Int)+k)
theorem Fb (A:Sit c om ho hb hm hu hl hg size off f kvs gs rows told) {hF hS:Nat} (hx:om[hF]?=some (.dk (Yt off (mvL told f) (hN told f)))) {l:List Nat} (hl':∀k∈l,k∈mvL told f) (h60:l.length<=60) (i:Int) (x5 x6:Option Wv) :
    ZM 5 (Yn Yk [0,1,2,4] (fun sl=>bnd ((Za 2) sl) Yb) XE (RU c)) [some (.o ho),some (.o hF),some (.lst (l.map (pW off))),some (.o hS),some (.int i),x5,x6] om=some (.ok (.nx,[some (.o ho),some (.o hF),some (.lst (l.map (pW off))),some (.o hS),some (.int i),some (.lst (l.map fun k=>r3W off (i,k,ZV told f l k))),x6]),om):=by
 have hlim:=Z1
 refine ZD (i:=5) ((X7 (ws:=l.map (pW off)) (om1:=om) ((Zo (a:=.lst (l.map (pW off))) (om1:=om) (Zb rfl)).trans rfl) (by rw[List.length_map]; omega) (YL (pW off) (fun _=>true) (fun k=>r3W off (i,k,ZV told f l k)) (fun k hk=>rfl) (fun k hk _=>?_))).trans ?_)
 ·refine (ZG (Zd (Zb rfl) (Zd (Zb rfl) (Zd ((ZG (Zd (Zb rfl) (Zd (Zb rfl) (Zd (Zb rfl) (Zd (Zb rfl) Zk))))).trans ((Yj rfl).trans (IT A hx (hl' k hk) rfl))) Zk)))).trans ?_
  unfold XA
  rw[if_pos (by simp; omega)]
  rfl
 ·rw[List.filter_eq_self.mpr (fun _ _=>rfl)]
  exact Wi (by rw[List.length_map]; omega)
theorem Eh {sl:Sl} {off:Nat} {i:Int} {l:List Nat} {v:Nat->Int} (h5:sl[5]?=some (some (.lst (l.map fun k=>r3W off (i,k,v k))))) (h60:l.length<=60):Yn Yk [] (fun sl=>bnd ((Za 5) sl) Yb) (Qw c) (Qj c) sl om=some (.ok (.lst ((l.filter fun k=>!decide (v k=0)).map fun k=>r3W off (i,k,v k))),om):=by
 have hlim:=Z1
 have hf:=List.length_filter_le (fun k=>!decide (v k=0)) l
 exact (X7 (ws:=l.map fun k=>r3W off (i,k,v k)) (om1:=om) ((Zo (Zb h5)).trans rfl) (by rw[List.length_map]; omega) (YL (fun k=>r3W off (i,k,v k)) (fun k=>!decide (v k=0)) (fun k=>r3W off (i,k,v k)) (fun k hk=>ZP ((Zs ((Zs (Zb rfl) Zp).trans (ZU (k:=2) rfl rfl)) Zp).trans (WO _ _ _))) (fun k hk _=>Zb rfl))).trans (Wi (by rw[List.length_map]; omega))
theorem E2 {sl:Sl} {off:Nat} {i:Int} {l:List Nat} {v:Nat->Int} (h5:sl[5]?=some (some (.lst (l.map fun k=>r3W off (i,k,v k))))) (h60:l.length<=60):Yn Yk [] (fun sl=>bnd ((Za 5) sl) Yb) (RV c) (Qi c) sl om=some (.ok (.lst ((l.filter fun k=>decide (v k=0)).map (pW off))),om):=by
 have hlim:=Z1
 have hf:=List.length_filter_le (fun k=>decide (v k=0)) l
 exact (X7 (ws:=l.map fun k=>r3W off (i,k,v k)) (om1:=om) ((Zo (Zb h5)).trans rfl) (by rw[List.length_map]; omega) (YL (fun k=>r3W off (i,k,v k)) (fun k=>decide (v k=0)) (pW off) (fun k hk=>ZP ((Zs ((Zs (Zb rfl) Zp).trans (ZU (k:=2) rfl rfl)) Zp).trans (Xw _ _ _))) (fun k hk _=>(Zs (Zb rfl) Zp).trans (ZU (k:=1) rfl rfl)))).trans (Wi (by rw[List.length_map]; omega))
theorem IC {om0:List Ob} {ws us:List Wv} {sl:Sl} (h3:sl[3]?=some (some (.o om0.length))) (h6:sl[6]?=some (some (.lst us))) (h:ws.length+us.length<=lim):Z8 (Er (Za 3) (Za 6)) sl (om0++[.lst ws])=some (.ok (.nx,sl),om0++[.lst (ws++us)]):=by
 have e:(om0++[Ob.lst ws])[om0.length]?=some (.lst ws):=by simp
 refine Yd (w:=.non) ?_
 unfold Er
 rw[Zo (Zb h3)]
 refine (Zo (a:=()) (om1:=om0++[.lst ws]) (by simp[Ig,Xj,e,L2.ret])).trans ?_
 rw[Zo (Zb h6)]
 simp[BK,Xj,e,h,List.set_append_right]
theorem N3 {om0:List Ob} (A:Sit c om0 ho hb hm hu hl hg size off f kvs gs rows told) {hF:Nat} (hx:om0[hF]?=some (.dk (Yt off (mvL told f) (hN told f)))):∀(n:Nat) (i:Int) (l:List Nat) (acc:List R3) (x5 x6:Option Wv),l.length < n->acc.length+l.length<=60->(∀k∈l,k∈mvL told f) ->
    ∃sl',W7 (YG (fC (.bl true))) (Wb c) n [some (.o ho),some (.o hF),some (.lst (l.map (pW off))),some (.o om0.length),some (.int i),x5,x6] (om0++[.lst (acc.map (r3W off))])=some (.ok (.rt (.o om0.length),sl'),om0++[.lst ((acc++VN told f n i l).map (r3W off))])
 |0,_,_,_,_,_,h,_,_=>by omega
 |n+1,i,l,acc,x5,x6,h,h60,hl'=>by
  have hlim:=Z1
  have hlen:=Vx told f l
  have A1:=A.grow [.lst (acc.map (r3W off))]
  have hx1:(om0++[Ob.lst (acc.map (r3W off))])[hF]?=some (.dk (Yt off (mvL told f) (hN told f))):=by
   have:hF < om0.length:=by
    by_cases h:hF < om0.length
    ·exact h
    ·rw[List.getElem?_eq_none (by omega)]at hx; cases hx
   rw[List.getElem?_append_left this]; exact hx
  have e1:=Fb (hS:=om0.length) A1 hx1 hl' (by omega) i x5 x6
  have e2:=ZD (i:=6) (Eh (c:=c) (om:=om0++[.lst (acc.map (r3W off))]) (sl:=[some (.o ho),some (.o hF),some (.lst (l.map (pW off))),some (.o om0.length),some (.int i),some (.lst (l.map fun k=>r3W off (i,k,ZV told f l k))),x6]) rfl (by omega))
  have em:(l.filter fun k=>!decide (ZV told f l k=0)).map (fun k=>r3W off (i,k,ZV told f l k))=((fallen told f l).map fun k=>(i,k,ZV told f l k)).map (r3W off):=by rw[List.map_map]; rfl
  rw[em]at e2
  have e3:fB (f2 kEq (Za 6) (fA Yk Zm)) [some (.o ho),some (.o hF),some (.lst (l.map (pW off))),some (.o om0.length),some (.int i),some (.lst (l.map fun k=>r3W off (i,k,ZV told f l k))),some (.lst (((fallen told f l).map fun k=>(i,k,ZV told f l k)).map (r3W off)))] (om0++[.lst (acc.map (r3W off))])=some (.ok ((fallen told f l).map fun k=>(i,k,ZV told f l k)).isEmpty,om0++[.lst (acc.map (r3W off))]) :=
   ZP ((Zs (Zb rfl) ((ZG Zk).trans (Qq (by simp)))).trans (Bc off _ _))
  show ∃sl',bnd _ (kWh (fun sl2=>W7 (YG (fC (.bl true))) (Wb c) n sl2) (Wb c) _) _=_
  rw[Zo (YE (b:=true) Zp)]
  show ∃sl',bnd (Wb c _) (Vd fun sl2=>W7 (YG (fC (.bl true))) (Wb c) n sl2) _=_
  by_cases hf:fallen told f l=[]
  ·rw[hf]at e2 e3
   refine ⟨[some (.o ho),some (.o hF),some (.lst (l.map (pW off))),some (.o om0.length),some (.int i),some (.lst (l.map fun k=>r3W off (i,k,ZV told f l k))),some (.lst ((([]:List Nat).map fun k=>(i,k,ZV told f l k)).map (r3W off)))],(Zo ((Zg e1).trans ((Zg e2).trans (ZT ((Yo e3).trans (Zr (Zb rfl))))))).trans ?_⟩
   rw[Ro hf,List.append_nil]
   rfl
  ·have hne:(fallen told f l).length≠0:=fun z=>hf (List.eq_nil_of_length_eq_zero z)
   have hie:((fallen told f l).map fun k=>(i,k,ZV told f l k)).isEmpty=false:=by
    cases hq:fallen told f l with
    |nil=>exact absurd hq hf
    |cons _ _=>rfl
   rw[hie]at e3
   have e4:=IC (om0:=om0) (ws:=acc.map (r3W off)) (us:=((fallen told f l).map fun k=>(i,k,ZV told f l k)).map (r3W off)) (sl:=[some (.o ho),some (.o hF),some (.lst (l.map (pW off))),some (.o om0.length),some (.int i),some (.lst (l.map fun k=>r3W off (i,k,ZV told f l k))),some (.lst (((fallen told f l).map fun k=>(i,k,ZV told f l k)).map (r3W off)))]) rfl rfl (by simp only[List.length_map]; omega)
   rw[← List.map_append]at e4
   have e5:=ZD (i:=2) (E2 (c:=c) (om:=om0++[.lst ((acc++(fallen told f l).map fun k=>(i,k,ZV told f l k)).map (r3W off))]) (sl:=[some (.o ho),some (.o hF),some (.lst (l.map (pW off))),some (.o om0.length),some (.int i),some (.lst (l.map fun k=>r3W off (i,k,ZV told f l k))),some (.lst (((fallen told f l).map fun k=>(i,k,ZV told f l k)).map (r3W off)))]) rfl (by omega))
   obtain ⟨sl',e7⟩:=N3 A hx n (i+1) (YZ told f l) (acc++(fallen told f l).map fun k=>(i,k,ZV told f l k)) (some (.lst (l.map fun k=>r3W off (i,k,ZV told f l k)))) (some (.lst (((fallen told f l).map fun k=>(i,k,ZV told f l k)).map (r3W off)))) (by omega) (by simp only[List.length_append,List.length_map]; omega) (fun k hk=>hl' k (List.mem_filter.mp hk).1)
   refine ⟨sl',(Zo ((Zg e1).trans ((Zg e2).trans ((Zg (ZI e3)).trans ((Zg e4).trans ((Zg e5).trans (ZD (i:=4) ((Zs (Zb rfl) Zp).trans rfl)))))))).trans (e7.trans ?_)⟩
   rw[List.append_assoc]
   rfl
abbrev Ye (told:List (Option Od)) (f:List (Option Int)):List R3:=VN told f 100 1 (mvL told f)
theorem Ki (A:Sit c om ho hb hm hu hl hg size off f kvs gs rows told):g_strikes c [.o ho] om=some (.ok (.o (om.length+2)),om++[.dk (Yt off (mvL told f) (fN told f)),.dk (Yt off (mvL told f) (hN told f)),.lst ((Ye told f).map (r3W off))]):=by
 have hlim:=Z1
 have hfew:=A.few
 have hml:=WZ told f
 have A2:=A.grow [.dk (Yt off (mvL told f) (fN told f)),.dk (Yt off (mvL told f) (hN told f))]
 have hx:(om++[Ob.dk (Yt off (mvL told f) (fN told f)),.dk (Yt off (mvL told f) (hN told f))])[om.length+1]?=some (.dk (Yt off (mvL told f) (hN told f))):=by simp
 have hi:=Ga A
 have hn:(om++[Ob.dk (Yt off (mvL told f) (fN told f)),.dk (Yt off (mvL told f) (hN told f))]).length=om.length+2:=by simp
 have hc:om++[Ob.dk (Yt off (mvL told f) (fN told f)),.dk (Yt off (mvL told f) (hN told f)),.lst ((Ye told f).map (r3W off))]=(om++[Ob.dk (Yt off (mvL told f) (fN told f)),.dk (Yt off (mvL told f) (hN told f))])++[.lst ((Ye told f).map (r3W off))]:=by simp
 rw[hc]
 generalize om++[Ob.dk (Yt off (mvL told f) (fN told f)),.dk (Yt off (mvL told f) (hN told f))]=om2 at A2 hx hi hn
 have e1:ZM 1 (fA (kN 1 (g_hindrances c)) (Ze (Za 0) Zm)) [some (.o ho),none,none,none,none,none,none] om=some (.ok (.nx,[some (.o ho),some (.o (om.length+1)),none,none,none,none,none]),om2):=ZD (i:=1) ((ZG (Zd (Zb rfl) Zk)).trans ((Yj rfl).trans hi))
 have e2:ZM 2 (ZB c.Orders "movers" 1 (ZZ c) (Za 0) Zm) [some (.o ho),some (.o (om.length+1)),none,none,none,none,none] om2=some (.ok (.nx,[some (.o ho),some (.o (om.length+1)),some (.lst ((mvL told f).map (pW off))),none,none,none,none]),om2):=ZD (i:=2) ((ZJ (Zb rfl) (ZK A2.S.o) (Z4 _ _ _ (by decide) (by decide)) Zk rfl).trans (TZ A2))
 have e3:ZM 3 (fA YI Zm) [some (.o ho),some (.o (om.length+1)),some (.lst ((mvL told f).map (pW off))),none,none,none,none] om2=some (.ok (.nx,[some (.o ho),some (.o (om.length+1)),some (.lst ((mvL told f).map (pW off))),some (.o om2.length),none,none,none]),om2++[.lst []]):=ZD (i:=3) ((ZG Zk).trans (by
  show YI [] om2=_
  unfold YI
  rw[if_pos (by simp)]
  rfl))
 obtain ⟨sl',e5⟩:=N3 A2 hx 100 1 (mvL told f) [] none none (by omega) (by simp; omega) (fun _ h=>h)
 rw[List.nil_append]at e5
 rw[← hn]
 exact Zy ((Zg e1).trans ((Zg e2).trans ((Zg e3).trans ((Zg (ZD (i:=4) Zp)).trans e5))))
theorem Dg (off n:Nat):∀l:List R3,smalls n (l.map (r3W off))
 |[]=>trivial
 |_::r=>⟨⟨trivial,trivial,trivial,trivial⟩,Dg off n r⟩
theorem BS (off n:Nat) (om:List Ob) (l:List R3):(l.map (r3W off)).map (fzW om n 3)=l.map (r3W off):=by
 rw[List.map_map]
 rfl
theorem Sn (A:Sit c om ho hb hm hu hl hg size off f kvs gs rows told):Xo c [.o ho] om=some (.ok (.lst ((Ye told f).map (r3W off))),om):=by
 refine tidyG_ok (Ki A) (.own (by omega) (by simp) (FzWs.of_smalls (Dg _ _ _))) ?_
 have e:(om++[Ob.dk (Yt off (mvL told f) (fN told f)),.dk (Yt off (mvL told f) (hN told f)),.lst ((Ye told f).map (r3W off))])[om.length+2]?=some (.lst ((Ye told f).map (r3W off))):=by simp
 generalize om++[Ob.dk (Yt off (mvL told f) (fN told f)),.dk (Yt off (mvL told f) (hN told f)),.lst ((Ye told f).map (r3W off))]=om2 at e
 show (if om.length<=om.length+2 then (match om2[om.length+2]? with|some (.lst xs)=>Wv.lst (xs.map (fzW om2 om.length 3))|_=>.o (om.length+2)) else .o (om.length+2))=_
 rw[if_pos (by omega),e]
 show Wv.lst (((Ye told f).map (r3W off)).map (fzW om2 om.length 3))=_
 rw[BS]
def VE (told:List (Option Od)) (f:List (Option Int)):Nat->List Nat->List Nat
 |0,l=>l
 |n+1,l=>VE told f n (YZ told f l)
theorem TY (told:List (Option Od)) (f:List (Option Int)):∀(n:Nat) (i:Int) (l:List Nat),(VN told f n i l).length<=l.length
 |0,_,_=>by simp[VN]
 |n+1,i,l=>by
  have:=Vx told f l
  have:=TY told f n (i+1) (YZ told f l)
  unfold VN
  simp only[List.length_append,List.length_map]
  omega
theorem OW (told:List (Option Od)) (f:List (Option Int)):∀(n:Nat) (i:Int) (l:List Nat),l.Nodup->VE told f n l=l.filter fun k=>!((VN told f n i l).map fun r=>r.2.1).contains k
 |0,_,l,_=>(List.filter_eq_self.mpr fun _ _=>rfl).symm
 |n+1,i,l,nd=>by
  have ih:=OW told f n (i+1) (YZ told f l) (nd.sublist List.filter_sublist)
  unfold VE VN
  rw[ih,List.map_append,List.map_map]
  have hm:(fallen told f l).map ((fun r:R3=>r.2.1) ∘ fun k=>(i,k,ZV told f l k))=fallen told f l:=by
   conv=>rhs; rw[← List.map_id (fallen told f l)]
   rfl
  rw[hm]
  generalize (VN told f n (i+1) (YZ told f l)).map (fun r=>r.2.1)=R
  unfold YZ
  rw[List.filter_filter]
  refine List.filter_congr fun k hk=>?_
  have hc:(fallen told f l++R).contains k=((fallen told f l).contains k || R.contains k):=by
   refine Bool.eq_iff_iff.mpr ?_
   rw[Bool.or_eq_true,List.contains_iff_mem,List.contains_iff_mem,List.contains_iff_mem,List.mem_append]
  have hf:(fallen told f l).contains k=!decide (ZV told f l k=0):=by
   refine Bool.eq_iff_iff.mpr ?_
   rw[List.contains_iff_mem]
   unfold fallen
   rw[List.mem_filter]
   exact ⟨fun h=>h.2,fun h=>⟨hk,h⟩⟩
  rw[hc,hf]
  cases decide (ZV told f l k=0) <;> cases R.contains k <;> rfl
theorem Kk (A:Sit c om ho hb hm hu hl hg size off f kvs gs rows told):g_settled c [.o ho] om=some (.ok (.lst ((VE told f 100 (mvL told f)).map (pW off))),om):=by
 have hlim:=Z1
 have hfew:=A.few
 have hml:=WZ told f
 have hsl:(Ye told f).length<=(mvL told f).length:=TY told f 100 1 (mvL told f)
 have e1:ZM 1 (Yn Yk [] (fun sl=>bnd ((fA (kN 1 (Xo c)) (Ze (Za 0) Zm)) sl) Yb) XE (RX c)) [some (.o ho),none] om=some (.ok (.nx,[some (.o ho),some (.lst (((Ye told f).map fun r=>r.2.1).map (pW off)))]),om):=by
  refine ZD (i:=1) ((X7 (ws:=(Ye told f).map (r3W off)) (om1:=om) ((Zo ((ZG (Zd (Zb rfl) Zk)).trans ((Yj rfl).trans (Sn A)))).trans rfl) (by rw[List.length_map]; omega) (YL (r3W off) (fun _=>true) (fun r=>pW off r.2.1) (fun k hk=>rfl) (fun k hk _=>(Zs (Zb rfl) Zp).trans (ZU (k:=1) rfl rfl)))).trans ?_)
  rw[List.filter_eq_self.mpr (fun _ _=>rfl)]
  have e:(Ye told f).map (fun r=>pW off r.2.1)=((Ye told f).map fun r=>r.2.1).map (pW off):=by rw[List.map_map]; rfl
  rw[e]
  exact Wi (by simp only[List.length_map]; omega)
 rw[OW told f 100 1 (mvL told f) (NB told f)]
 have hfl:=List.length_filter_le (fun k=>!((Ye told f).map fun r=>r.2.1).contains k) (mvL told f)
 refine Zy ((Zg e1).trans (Zr ((X7 (ws:=(mvL told f).map (pW off)) (om1:=om) ((Zo ((ZJ (Zb rfl) (ZK A.S.o) (Z4 _ _ _ (by decide) (by decide)) Zk rfl).trans (TZ A))).trans rfl) (by rw[List.length_map]; omega) (YL (pW off) (fun k=>!((Ye told f).map fun r=>r.2.1).contains k) (pW off) (fun k hk=>?_) (fun k hk _=>Zb rfl))).trans (Wi (by rw[List.length_map]; omega)))))
 exact ZP ((v2 rfl rfl).trans (T4 (l:=(Ye told f).map fun r=>r.2.1) rfl true))
end
open PySem L2
section
variable {c:CA} {ns:List Int} {many off size:Nat} {rows:Mx} {f:List (Option Int)} {kvs:List (List Key × Wv)}
theorem CT {sl:Sl} {om:List Ob} (h:sl[1]?=some (some (Yg many off size))):f2 kIx (Za 1) (fC (.int 0)) sl om=some (.ok (.int many),om):=(Zs (Zb h) Zp).trans (ZU (k:=0) rfl rfl)
theorem CF {sl:Sl} {om:List Ob} (h:sl[1]?=some (some (Yg many off size))):f2 kIx (Za 1) (fC (.int 1)) sl om=some (.ok (.int off),om):=(Zs (Zb h) Zp).trans (ZU (k:=1) rfl rfl)
theorem Bx {sl:Sl} {om:List Ob} (h:sl[1]?=some (some (Yg many off size))) (hm:many<=7):(fun sl=>bnd ((f2 kIx (Za 1) (fC (.int 0))) sl) Yl) sl om=some (.ok (Xm many),om):=(Zo (CT h)).trans (Xc _ _ (by have:=Z1; omega))
def lOf (kb:List Bool):List Nat:=(List.range kb.length).filter fun k=>kb.getD k false
theorem TV {kb:List Bool} {k:Nat}:k∈lOf kb ↔ kb.getD k false=true:=by
 unfold lOf
 rw[List.mem_filter,List.mem_range]
 refine ⟨fun h=>h.2,fun h=>⟨?_,h⟩⟩
 by_cases hk:k < kb.length
 ·exact hk
 ·rw[List.getD_eq_getElem?_getD,List.getElem?_eq_none (by omega)]at h
  cases h
theorem KA (kb:List Bool) (k:Nat):kb.getD k false=(lOf kb).contains k:=by
 refine Bool.eq_iff_iff.mpr ?_
 rw[List.contains_iff_mem,TV]
theorem K3 (kb:List Bool):(lOf kb).length<=kb.length:=Nat.le_trans (List.length_filter_le _ _) (by simp)
theorem BQ (kb:List Bool):(lOf kb).Nodup:=List.Nodup.sublist List.filter_sublist List.nodup_range
def clr (kb:List Bool) (l:List Nat):List Bool:=l.foldl (fun b k=>b.set k false) kb
theorem Rh:∀(l:List Nat) (kb:List Bool),(clr kb l).length=kb.length
 |[],_=>rfl
 |k::l,kb=>by
  show (clr (kb.set k false) l).length=_
  rw[Rh l]; simp
theorem EY (kb:List Bool) (l:List Nat) (k:Nat):clr kb (l++[k])=(clr kb l).set k false:=by
 unfold clr
 rw[List.foldl_append]
 rfl
theorem Nh:∀(l:List Nat) (kb:List Bool) (j:Nat),(clr kb l).getD j false=(kb.getD j false&&!l.contains j)
 |[],kb,j=>by simp[clr]
 |k::l,kb,j=>by
  show (clr (kb.set k false) l).getD j false=_
  rw[Nh l]
  by_cases h:k=j
  ·subst h
   have:(kb.set k false).getD k false=false:=by
    rw[List.getD_eq_getElem?_getD,List.getElem?_set_self']
    cases kb[k]? <;> rfl
   rw[this]
   simp
  ·have:(kb.set k false).getD j false=kb.getD j false:=by
    rw[List.getD_eq_getElem?_getD,List.getElem?_set_ne h,← List.getD_eq_getElem?_getD]
   rw[this]
   have h2:¬ j=k:=fun z=>h z.symm
   have:(k::l).contains j=l.contains j:=by
    refine Bool.eq_iff_iff.mpr ?_
    rw[List.contains_iff_mem,List.contains_iff_mem,List.mem_cons]
    exact ⟨fun z=>z.resolve_left h2,.inr⟩
   rw[this]
theorem KC (told:List (Option Od)) (f:List (Option Int)) (kb:List Bool):lOf (clr kb (fallen told f (lOf kb)))=YZ told f (lOf kb):=by
 have hF:∀k,kb.getD k false=true->(fallen told f (lOf kb)).contains k=!decide (ZV told f (lOf kb) k=0):=fun k hb=>by
  refine Bool.eq_iff_iff.mpr ?_
  rw[List.contains_iff_mem]
  unfold fallen
  rw[List.mem_filter]
  exact ⟨fun h=>h.2,fun h=>⟨TV.mpr hb,h⟩⟩
 have h:∀(F:List Nat) (p:Nat->Bool),(∀k,kb.getD k false=true->F.contains k=!p k)->lOf (clr kb F)=(lOf kb).filter p:=fun F p h=>by
  unfold lOf
  rw[Rh,List.filter_filter]
  refine List.filter_congr fun k _=>?_
  rw[Nh]
  cases hb:kb.getD k false with
  |false=>simp
  |true=>rw[h k hb]; simp
 exact h _ (fun k=>decide (ZV told f (lOf kb) k=0)) hF
theorem Bo {om0 l:List Ob} {kb:List Bool} {b:Bool} {k:Nat} {sl:Sl} {fv fo fi:FE} (hv:fv sl (om0++.lst (kb.map Wv.bl)::l)=some (.ok (.bl b),om0++.lst (kb.map Wv.bl)::l)) (ho:fo sl (om0++.lst (kb.map Wv.bl)::l)=some (.ok (.o om0.length),om0++.lst (kb.map Wv.bl)::l)) (hi:fi sl (om0++.lst (kb.map Wv.bl)::l)=some (.ok (.int k),om0++.lst (kb.map Wv.bl)::l)) (hk:k < kb.length) :
    WM fv fo fi sl (om0++.lst (kb.map Wv.bl)::l)=some (.ok (.nx,sl),om0++.lst ((kb.set k b).map Wv.bl)::l):=by
 unfold WM
 rw[Zo hv,Zo ho,Zo hi]
 refine (Zo (a:=()) (om1:=om0++.lst ((kb.set k b).map Wv.bl)::l) ?_).trans rfl
 have l2:ixN (kb.map Wv.bl).length (k:Int)=some k:=by
  rw[List.length_map]
  unfold ixN
  rw[if_pos (by omega),if_pos (by omega),Int.toNat_natCast]
 have e:(om0++Ob.lst (kb.map Wv.bl)::l)[om0.length]?=some (.lst (kb.map Wv.bl)):=by simp
 have e3:(om0++Ob.lst (kb.map Wv.bl)::l).set om0.length (.lst ((kb.set k b).map Wv.bl))=om0++.lst ((kb.set k b).map Wv.bl)::l:=by
  rw[List.set_append_right _ _ (Nat.le_refl _),Nat.sub_self]; rfl
 unfold Tx
 simp only[Xj,e]
 rw[l2]
 dsimp only
 rw[← List.map_set,e3]
theorem Bu (om0 l:List Ob) (ws:List Wv):Yq (om0++.lst ws::l) (.o om0.length)=some ws:=by
 have e:(om0++Ob.lst ws::l)[om0.length]?=some (.lst ws):=by simp
 simp[Yq,e]
theorem GF {n a:Nat} {p q:List Nat} (h:List.range n=p++a::q):a=p.length:=by
 have h1:(List.range n)[p.length]?=some a:=by rw[h]; simp
 rw[List.getElem?_eq_some_iff]at h1
 obtain ⟨hl,h2⟩:=h1
 rw[List.getElem_range]at h2
 exact h2.symm
end
end MP
namespace L2
noncomputable section
open PySem PySem.Spec PyProof.Rows
def Xb (c:FT) (f:FE) (mk:Wv->Sl) (h n:Nat):Nat->Mw (List Wv)
 |0=>fun om=>match om[h]? with
  |some (.lst us)=>if us.length=n then some (.ok [],om) else none
  |_=>none
 |m+1=>fun om=>match om[h]? with
  |some (.lst us)=>if us.length=n then (match us[n - (m+1)]? with
   |some w=>bnd (ZL (c (mk w))) (VJ (Xb c f mk h n m) (f (mk w))) om
   |none=>none) else none
  |_=>none
def BM (k:List Wv->Mw Wv) (c:FT) (f:FE) (mk:Wv->Sl) (x:Wv):Mw Wv:=fun om=>match x with
 |.o h=>match om[h]? with
  |some (.lst us)=>if us.length<=lim then bnd (Xb c f mk h us.length us.length) k om else none
  |_=>none
 |_=>none
def Si (k:List Wv->Mw Wv) (js:List Nat) (fo:FE) (c:FT) (f:FE):FE:=fun sl=>bnd (fo sl) (BM k c f fun w=>Y9 js w sl)
section
variable {X:Cx} {E:XK} {js:List Nat} {c:FT} {f fo:FE} {k:List Wv->Mw Wv}
theorem GR {Kf:PySem.W.Frag} (hk:UK E k) {σ:St} {H:Hp} {Q:VK} (h:tE E (Si k js fo c f) σ H Q):Lf (E6 Kf (tE E fo)) js (fun _ _ _ _=>tT E0 c) (fun _ _ _ _=>tE E0 f) σ H Q:=by
 obtain ⟨F,β,om,sl,M,V,R⟩:=h
 refine ⟨F,β,om,sl,M,V,R.bind fun x om1 F1 H1 β1 g1 M1 R1 v rv=>?_⟩
 generalize hmk:(fun w=>Y9 js w sl)=mk at R1
 cases rv with
 |@o h a eb =>
  have R1:Res E (match om1[h]? with|some (.lst us)=>(if us.length<=lim then bnd (Xb c f mk h us.length us.length) k om1 else none)|_=>none) F1 H1 β1 (PV Q):=R1
  obtain ⟨us,xs,hx,hxs,rs,R2⟩:=CV M1 eb R1
  refine ⟨a,rfl,⟨xs,SqL.of hxs⟩,fun D hD _ _ _ _=>?_⟩
  generalize us.length=n at R2
  by_cases hz:n<=lim
  ·rw[if_pos hz]at R2
   have hlim:=VS
   refine ⟨fun i m ys H2=>m=n - i∧i<=n∧ys.length<=i∧∃F β om Hm acc,H2=upd Hm D (.lst ys)∧Hm D=none∧β[h]?=some a∧Gx F1 F H1 Hm β1 β∧MOk F Hm β om∧EnvOk F β σ sl∧RWs F β acc ys∧Res E (bnd (Xb c f mk h n (n - i)) (fun xs=>k (acc++xs)) om) F1 H1 β1 (PV Q),
    ⟨n,by simp,Nat.zero_le _,Nat.zero_le _,F1,β1,om1,H1,[],rfl,hD,eb,Gx.refl _ _ _,M1,V.mono g1.toGr,.nil,R2⟩,?_⟩
   clear R2 R1 R
   rintro i m ys H2 ⟨rfl,hi,hys,F,β,om,Hm,acc,rfl,hDm,eb,G,M,V,ra,R⟩
   refine ⟨ZH,?_⟩
   have MU:MOk F (upd Hm D (.lst ys)) β om:=M.newU hDm
   by_cases hq:∃us,om[h]?=some (.lst us)
   ·obtain ⟨us2,hx⟩:=hq
    obtain ⟨a',ea,_,xs2,hxs2,rs2⟩:=M.at hx
    rw[eb]at ea; cases ea
    have hl2:=rs2.length
    have hH2:upd Hm D (.lst ys) a=some (.lst xs2):=by
     rw[Zz (fun z=>by rw[z,hDm]at hxs2; cases hxs2)]; exact hxs2
    by_cases hlt:i < n
    ·obtain ⟨j,hj⟩:∃j,n - i=j+1:=⟨n - i - 1,by omega⟩
     rw[hj]at R
     have e:Xb c f mk h n (j+1) om=(if us2.length=n then (match us2[n - (j+1)]? with|some w=>bnd (ZL (c (mk w))) (VJ (Xb c f mk h n j) (f (mk w))) om|none=>none) else none):=by
      show (match om[h]? with|some (.lst us)=>(if us.length=n then (match us[n - (j+1)]? with|some w=>bnd (ZL (c (mk w))) (VJ (Xb c f mk h n j) (f (mk w))) om|none=>none) else none)|_=>none)=_
      rw[hx]
     by_cases hl:us2.length=n
     ·have hlu:i < us2.length:=by omega
      rw[if_pos hl,show n - (j+1)=i by omega,List.getElem?_eq_getElem hlu]at e
      have e:Xb c f mk h n (j+1) om=bnd (ZL (c (mk us2[i]))) (VJ (Xb c f mk h n j) (f (mk us2[i]))) om:=e
      obtain ⟨x0,ex0,rx0⟩:=rs2.get (List.getElem?_eq_getElem hlu)
      refine .inr ⟨⟨xs2,x0,SqL.of hH2,ex0⟩,fun x H' hy=>?_⟩
      obtain ⟨rfl,hy⟩:=hy
      have ex:=hy xs2 (SqL.of hH2)
      rw[ex0]at ex
      have rx:RW F β us2[i] x:=by cases ex; exact rx0
      have R:Res E (bnd (bnd (ZL (c (mk us2[i]))) (VJ (Xb c f mk h n j) (f (mk us2[i])))) (fun xs=>k (acc++xs)) om) F1 H1 β1 (PV Q):=by
       have e2:bnd (Xb c f mk h n (j+1)) (fun xs=>k (acc++xs)) om=bnd (bnd (ZL (c (mk us2[i]))) (VJ (Xb c f mk h n j) (f (mk us2[i])))) (fun xs=>k (acc++xs)) om:=by
        conv=>lhs; unfold bnd
        rw[e]
        rfl
       rw[← e2]; exact R
      rw[Wc]at R
      have V2:EnvOk F β (Xh js (some x) σ) (mk us2[i]):=by rw[← hmk]; exact V.comp js rx
      refine ⟨F,β,om,_,MU,V2,?_⟩
      have R':=R
      unfold bnd ZL at R'
      match hm:c (mk us2[i]) om,R' with
      |none,R'=>exact R'.elim
      |some (.error _,_),R'=>exact R'.elim
      |some (.ok b,om2),R' =>
       clear R
       intro F2 H2 β2 g2 M2
       obtain ⟨e1,g2',M2'⟩:=beside hDm M g2 M2
       have R1:Res E (bnd (VJ (Xb c f mk h n j) (f (mk us2[i])) b) (fun xs=>k (acc++xs)) om2) F1 H1 β1 (PV Q):=R'
       cases b with
       |false =>
        rw[if_neg Bool.false_ne_true]
        have R1:Res E (bnd (Xb c f mk h n j) (fun xs=>k (acc++xs)) om2) F1 H1 β1 (PV Q):=R1
        refine ⟨n - (i+1),by omega,rfl,hlt,by omega,F2,β2,om2,wo H2 D,acc,(V7 e1).symm,UH,g2.pre h a eb,G.trans g2',M2',V.mono g2.toGr,ra.mono g2.toGr,?_⟩
        rw[show n - (i+1)=j by omega]
        exact R1
       |true =>
        rw[if_pos rfl]
        have R2:Res E (bnd (bnd (ZL (f (mk us2[i]))) fun x=>bnd (Xb c f mk h n j) fun xs=>ret (x::xs)) (fun xs=>k (acc++xs)) om2) F1 H1 β1 (PV Q):=R1
        rw[Wc]at R2
        refine ⟨F2,β2,om2,_,M2,V2.mono g2.toGr,?_⟩
        unfold bnd ZL at R2
        match hm2:f (mk us2[i]) om2,R2 with
        |none,R2=>exact R2.elim
        |some (.error _,_),R2=>exact R2.elim
        |some (.ok y,om3),R2 =>
         intro F3 H3 β3 g3 M3 v rv
         obtain ⟨e2,g3',M3'⟩:=beside (Hm:=wo H2 D) (ys:=ys) UH M2' (by rw[V7 e1]; exact g3) M3
         have R3:Res E (bnd (bnd (Xb c f mk h n j) fun xs=>ret (y::xs)) (fun xs=>k (acc++xs)) om3) F1 H1 β1 (PV Q):=R2
         rw[Wc]at R3
         have R3:Res E (bnd (Xb c f mk h n j) (fun xs=>k ((acc++[y])++xs)) om3) F1 H1 β1 (PV Q):=by
          have e:(fun xs=>k ((acc++[y])++xs))=fun xs=>k (acc++y::xs):=by funext xs; rw[List.append_assoc]; rfl
          rw[e]
          exact R3
         have ra2:RWs F3 β3 (acc++[y]) (ys++[v]):=(ra.mono (g2.trans g3).toGr).append (.cons rv .nil)
         refine ⟨e2,by omega,n - (i+1),by omega,rfl,hlt,by rw[List.length_append,List.length_singleton]; omega,F3,β3,om3,wo H3 D,acc++[y],?_,UH,g3.pre h a (g2.pre h a eb),(G.trans g2').trans g3',M3',V.mono (g2.trans g3).toGr,ra2,?_⟩
         ·rw[← V7 e2,Nb,V7 e2]
         ·rw[show n - (i+1)=j by omega]
          exact R3
     ·exfalso
      rw[if_neg hl]at e
      unfold bnd at R
      rw[e]at R
      exact R.elim
    ·have hin:n - i=0:=by omega
     rw[hin]at R
     have e:Xb c f mk h n 0 om=(if us2.length=n then some (.ok [],om) else none):=by
      show (match om[h]? with|some (.lst us)=>(if us.length=n then some (Except.ok [],om) else none)|_=>none)=_
      rw[hx]
     by_cases hl:us2.length=n
     ·rw[if_pos hl]at e
      have R:Res E (k (acc++[]) om) F1 H1 β1 (PV Q):=by
       unfold bnd at R
       rw[e]at R
       exact R
      rw[List.append_nil]at R
      exact .inl ⟨⟨xs2,SqL.of hH2,by omega⟩,(hk M ra (Res.mono G R)).2 hDm⟩
     ·exfalso
      rw[if_neg hl]at e
      unfold bnd at R
      rw[e]at R
      exact R.elim
   ·exfalso
    have e:Xb c f mk h n (n - i) om=none:=by
     cases n - i with
     |zero =>
      show (match om[h]? with|some (.lst us)=>(if us.length=n then some (Except.ok [],om) else none)|_=>none)=none
      split
      ·exact absurd ⟨_,‹_›⟩ hq
      ·rfl
     |succ j =>
      show (match om[h]? with|some (.lst us)=>(if us.length=n then (match us[n - (j+1)]? with|some w=>bnd (ZL (c (mk w))) (VJ (Xb c f mk h n j) (f (mk w))) om|none=>none) else none)|_=>none)=none
      split
      ·exact absurd ⟨_,‹_›⟩ hq
      ·rfl
    unfold bnd at R
    rw[e]at R
    exact R.elim
  ·rw[if_neg hz]at R2; exact R2.elim
 |_=>exact R1.elim
end
section
variable {X:Cx} {E:XK} {js:List Nat} {c:FT} {f fo:FE} {k:List Wv->Mw Wv} {scope:Scope} {cl:List (Str × Addr)} {x:Str} {cn:List Str} {elt iter:Expr} {ifs:List Expr} {px pos:Pos}
theorem Mr {j:Nat} {y:Str} {py spos:Pos} (hk:UK E k) (O:CompOk X scope cl x cn js) (hc:X.calm=true) (hi:PE X iter (tE E fo)) (ht:∀C s₂ H₂ fp,U7 (YB X scope cl x cn C s₂ H₂ fp) ifs (tT E0 c)) (he:∀C s₂ H₂ fp,PE (YB X scope cl x cn C s₂ H₂ fp) elt (tE E0 f))
    (hN:X.N.Nodup) (hj:X.N[j]?=some y) (hy:Loc X.env.scope y) (hsw:swapsWith (.ListComp elt [⟨.Name x px,iter,ifs,0⟩] scope pos) (some (.Name y py)) spos.line X.env=pure true)
    (hs:∀v,foldedSetIterable iter X.env v=pure v:=by intro _; rfl) (hf:X.fn y=true∨X.env.scope.names.lookup y=some .local:=by first|exact .inl rfl|exact .inr rfl) :
    PS X (.Assign [.Name y py] (.ListComp elt [⟨.Name x px,iter,ifs,0⟩] scope pos) spos) (tS E (ZM j (Si k js fo c f))):=(Tk O hc (K7 hi) ht he hN hj hy hsw hs hf).weak fun D σ H ⟨F,β,om,sl,M,V,R⟩=>by
 refine GR hk ⟨F,β,om,sl,M,V,R.bind fun w om1 F1 H1 β1 g1 M1 R1 v rv=>?_⟩
 exact (show Res E (ret (Fl.nx,sl.set j (some w)) om1) F1 H1 β1 (FlP D) from R1).now M1 _ ((V.mono g1.toGr).set j rv)
end
section
variable {X:Cx} {E:XK} {e a b c o:Expr} {es:List Expr} {f fa fb fc fo:FE} {fs:FA} {pos p2 p p':Pos}
def CS:V->List V->Hp->VK->Prop:=fun x vs H Q=>∃(l:Addr) (ns:List Int) (k:Int),x=.ref l∧vs=[.int k]∧Rd H l (.lst (ns.map V.int))∧Q (.int ((ns.count k:Nat):Int)) H
theorem IG:MtM X "list.count" CS:=by
 intro pins s σ H x vs v us Q I rx rv h
 obtain ⟨l,ns,k,rfl,rfl,hB,q⟩:=h
 cases rx
 obtain ⟨u,rfl,ru⟩:=rv.one
 obtain ⟨t,rfl⟩:=ru
 obtain ⟨_,its,n,r,e⟩:=hB.ok I.hok
 exact count_list_ints (vs:=its) ⟨_,e,rfl,n,rfl⟩ (Ru rfl r) ⟨.int _,H,I.tok _,⟨_,rfl⟩,q⟩
def kIsF (x:Wv):Mw Unit:=fun om=>match x with
 |.lst _=>some (.ok (),om)
 |_=>none
def IQ (x y:Wv):Mw Wv:=fun om=>match x,y with
 |.lst ws,.int k=>match X9 ws with
  |some ns=>some (.ok (.int ((ns.count k:Nat):Int)),om)
  |none=>none
 |_,_=>none
def RE (fo f:FE):FE:=fun sl=>bnd (fo sl) fun x=>bnd (kIsF x) fun _=>bnd (f sl) fun y=>IQ x y
theorem Hg {apos cpos:Pos} (ho:PE X o (tE E fo)) (he:PE X e (tE E f)) (hbase:attributeBase o "count" X.env (eval o X.env)=eval o X.env:=by rfl)
    (hfew:((backTo cpos (starEach [e] X.env)).all (fun x=>!x.1)&&(backToKw cpos (keywordEach [] X.env)).all (fun x=>x.1.isSome)
     && decide (([e]:List Expr).length+([]:List Keyword).length+(if ([]:List Keyword).isEmpty then 0 else 1) < 30))=true:=by rfl)
    (hline:(apos.endLine == cpos.line)=true:=by rfl) (hs:starEach [e] X.env=(false,eval e X.env)::starEach [] X.env:=by rfl) (hplain:(backTo cpos (starEach [] X.env)).any (·.1)=false:=by rfl) :
    PE X (.Call (.Attribute o "count" apos) [e] [] cpos) (tE E (RE fo f)):=(IE PySem.F.plainAttrs_list PySem.F.slot_list_count PySem.F.type_list_count IG ho (XY he VQ hs) hbase hfew hline hs hplain).weak fun σ H Q ⟨F,β,om,sl,M,V,R⟩=>by
 refine ⟨F,β,om,sl,M,V,R.bind fun x om1 F1 H1 β1 g1 M1 R1 v rv=>?_⟩
 cases rv with
 |@lst a xs ws q rs =>
  have R1:Res E (bnd (f sl) (fun y=>IQ (.lst ws) y) om1) F1 H1 β1 (PV Q):=R1
  refine ⟨.inl ⟨rfl,xs,.inl (Rd.same M1.sub q)⟩,F1,β1,om1,sl,M1,V.mono g1.toGr,R1.bind fun y om3 F3 H3 β3 g3 M3 R3 u ru=>?_⟩
  cases ru with
  |int k =>
   have R3:Res E (match X9 ws with|some ns=>some (Except.ok (Wv.int ((ns.count k:Nat):Int)),om3)|none=>none) F3 H3 β3 (PV Q):=R3
   match hn:X9 ws,R3 with
   |none,R3=>exact R3.elim
   |some ns,R3 =>
    have ex:=U2 rs hn
    subst ex
    exact ⟨a,ns,k,rfl,rfl,Rd.same M3.sub (Rd.same g3.toGr.same q),(show Res E (some (Except.ok (Wv.int ((ns.count k:Nat):Int)),om3)) F3 H3 β3 (PV Q) from R3).now M3 _ (.int _)⟩
  |_=>exact R3.elim
 |_=>exact R1.elim
end
end
end L2
namespace MP
open PySem L2
theorem PX {α:Type} {cT:FT} {fE:FE} {mk:Wv->Sl} {om:List Ob} {h:Nat} (φ:α->Wv) (p:α->Bool) (g:α->Wv) {l:List α} (hx:om[h]?=some (.lst (l.map φ))) (hc:∀a∈l,cT (mk (φ a)) om=some (.ok (p a),om)) (hf:∀a∈l,p a=true->fE (mk (φ a)) om=some (.ok (g a),om)) :
    ∀m,m<=l.length->Xb cT fE mk h l.length m om=some (.ok (((l.drop (l.length - m)).filter p).map g),om)
 |0,_=>by
  show (match om[h]? with|some (.lst us)=>(if us.length=l.length then some (Except.ok [],om) else none)|_=>none)=_
  rw[hx]
  simp
 |m+1,hm=>by
  have ih:=PX φ p g hx hc hf m (by omega)
  have hi:l.length - (m+1) < l.length:=by omega
  have hd:l.drop (l.length - (m+1))=l[l.length - (m+1)]::l.drop (l.length - m):=by
   rw[List.drop_eq_getElem_cons hi,show l.length - (m+1)+1=l.length - m by omega]
  rw[hd]
  have hmem:l[l.length - (m+1)]∈l:=List.getElem_mem hi
  have hu:(l.map φ)[l.length - (m+1)]?=some (φ l[l.length - (m+1)]):=by rw[List.getElem?_map,List.getElem?_eq_getElem hi]; rfl
  generalize l[l.length - (m+1)]=a at hmem hu
  show (match om[h]? with|some (.lst us)=>(if us.length=l.length then (match us[l.length - (m+1)]? with|some w=>bnd (ZL (cT (mk w))) (VJ (Xb cT fE mk h l.length m) (fE (mk w))) om|none=>none) else none)|_=>none)=_
  rw[hx]
  simp only[List.length_map]
  rw[if_pos trivial,hu]
  have c1:ZL (cT (mk (φ a))) om=some (.ok (p a),om):=by unfold ZL; rw[hc a hmem]
  show bnd (ZL (cT (mk (φ a)))) (VJ (Xb cT fE mk h l.length m) (fE (mk (φ a)))) om=_
  rw[Zo c1]
  cases hp:p a with
  |false =>
   rw[List.filter_cons,hp]
   exact ih
  |true =>
   rw[List.filter_cons,hp]
   have c2:ZL (fE (mk (φ a))) om=some (.ok (g a),om):=by unfold ZL; rw[hf a hmem hp]
   show bnd (ZL (fE (mk (φ a)))) (fun x=>bnd (Xb cT fE mk h l.length m) fun xs=>L2.ret (x::xs)) om=_
   rw[Zo c2,Zo ih]
   rfl
theorem J9 {α:Type} {k:List Wv->Mw Wv} {js:List Nat} {cT:FT} {fo fE:FE} {sl:Sl} {om:List Ob} {h:Nat} (φ:α->Wv) (p:α->Bool) (g:α->Wv) {l:List α} (ho:fo sl om=some (.ok (.o h),om)) (hx:om[h]?=some (.lst (l.map φ))) (hl:l.length<=lim) (hc:∀a∈l,cT (Y9 js (φ a) sl) om=some (.ok (p a),om)) (hf:∀a∈l,p a=true->fE (Y9 js (φ a) sl) om=some (.ok (g a),om)) :
    Si k js fo cT fE sl om=k ((l.filter p).map g) om:=by
 unfold Si
 rw[Zo ho]
 show (match om[h]? with|some (.lst us)=>(if us.length<=lim then bnd (Xb cT fE (fun w=>Y9 js w sl) h us.length us.length) k om else none)|_=>none)=_
 rw[hx]
 simp only[List.length_map]
 rw[if_pos hl]
 have:=PX (cT:=cT) (fE:=fE) (mk:=fun w=>Y9 js w sl) φ p g hx hc hf l.length (Nat.le_refl _)
 rw[Nat.sub_self,List.drop_zero]at this
 exact Zo this
theorem K1 (told:List (Option Od)) (f:List (Option Int)):∀(n:Nat) (i:Int) (l:List Nat) (r:R3),r∈VN told f n i l->i<=r.1
 |0,_,_,_,h=>by cases h
 |n+1,i,l,r,h=>by
  rcases List.mem_append.mp h with h|h
  ·obtain ⟨k,_,rfl⟩:=List.mem_map.mp h
   exact Int.le_refl _
  ·have:=K1 told f n (i+1) _ r h
   omega
theorem L4 (told:List (Option Od)) (f:List (Option Int)) (n:Nat) (i:Int) (l:List Nat):(VN told f (n+1) i l).filter (fun r=>decide (r.1=i))=(fallen told f l).map fun k=>(i,k,ZV told f l k):=by
 unfold VN
 rw[List.filter_append]
 have h1:((fallen told f l).map fun k=>(i,k,ZV told f l k)).filter (fun r:R3=>decide (r.1=i))=(fallen told f l).map fun k=>(i,k,ZV told f l k):=List.filter_eq_self.mpr fun r hr=>by
  obtain ⟨k,_,rfl⟩:=List.mem_map.mp hr
  exact decide_eq_true rfl
 have h2:(VN told f n (i+1) (YZ told f l)).filter (fun r:R3=>decide (r.1=i))=[]:=List.filter_eq_nil_iff.mpr fun r hr=>by
  have:=K1 told f n (i+1) _ r hr
  simp only[decide_eq_true_eq]
  omega
 rw[h1,h2,List.append_nil]
theorem Dp (told:List (Option Od)) (f:List (Option Int)):∀(n:Nat) (l:List Nat),VE told f (n+1) l=YZ told f (VE told f n l)
 |0,_=>rfl
 |n+1,l=>Dp told f n (YZ told f l)
theorem Mm (told:List (Option Od)) (f:List (Option Int)):∀(n m:Nat) (l:List Nat),l.length < n->l.length < m->VE told f n l=VE told f m l
 |0,_,_,h,_=>by omega
 |n+1,0,_,_,h=>by omega
 |n+1,m+1,l,h1,h2=>by
  by_cases h:fallen told f l=[]
  ·have:∀m,VE told f m l=l:=fun m=>by
    induction m with
    |zero=>rfl
    |succ m ih=>unfold VE; rw[Qt h]; exact ih
   rw[this,this]
  ·have:=Vx told f l
   have:(fallen told f l).length≠0:=fun z=>h (List.eq_nil_of_length_eq_zero z)
   exact Mm told f n m (YZ told f l) (by omega) (by omega)
theorem PQ (told:List (Option Od)) (f:List (Option Int)):∀(n:Nat) (l:List Nat),l.length < n->fallen told f (VE told f n l)=[]
 |0,_,h=>by omega
 |n+1,l,h=>by
  by_cases hf:fallen told f l=[]
  ·have:∀m,VE told f m l=l:=fun m=>by
    induction m with
    |zero=>rfl
    |succ m ih=>unfold VE; rw[Qt hf]; exact ih
   rw[this]
   exact hf
  ·have:=Vx told f l
   have:(fallen told f l).length≠0:=fun z=>hf (List.eq_nil_of_length_eq_zero z)
   exact PQ told f n (YZ told f l) (by omega)
theorem IX (told:List (Option Od)) (f:List (Option Int)):∀(n:Nat) (l:List Nat),(VE told f n l).Sublist l
 |0,l=>List.Sublist.refl _
 |n+1,l=>(IX told f n (YZ told f l)).trans List.filter_sublist
theorem Pw:∀{l:List Int},l.Nodup->∀a,l.count a<=1
 |[],_,a=>by simp
 |b::l,h,a=>by
  have ih:=Pw (List.nodup_cons.mp h).2 a
  rw[List.count_cons]
  by_cases e:b=a
  ·subst e
   have:l.count b=0:=List.count_eq_zero.mpr (List.nodup_cons.mp h).1
   rw[this]
   simp
  ·simp[e]; exact ih
section
variable {c:CA} {om:List Ob} {ho hb hm hu hl hg size off:Nat} {f:List (Option Int)} {kvs:List (List Key × Wv)} {gs:Gs} {rows:Mx} {told:List (Option Od)}
theorem My (A:Sit c om ho hb hm hu hl hg size off f kvs gs rows told):VG c [.o ho] om=some (.ok (.o om.length),om++[.lst ((VE told f 100 (mvL told f)).map (pW off))]):=by
 have hlim:=Z1
 have hfew:=A.few
 have hml:=WZ told f
 have hsl:(Ye told f).length<=(mvL told f).length:=TY told f 100 1 (mvL told f)
 have e1:ZM 1 (Yn Yk [] (fun sl=>bnd ((fA (kN 1 (Xo c)) (Ze (Za 0) Zm)) sl) Yb) XE (SL c)) [some (.o ho),none] om=some (.ok (.nx,[some (.o ho),some (.lst (((Ye told f).map fun r=>r.2.1).map (pW off)))]),om):=by
  refine ZD (i:=1) ((X7 (ws:=(Ye told f).map (r3W off)) (om1:=om) ((Zo ((ZG (Zd (Zb rfl) Zk)).trans ((Yj rfl).trans (Sn A)))).trans rfl) (by rw[List.length_map]; omega) (YL (r3W off) (fun _=>true) (fun r=>pW off r.2.1) (fun k hk=>rfl) (fun k hk _=>(Zs (Zb rfl) Zp).trans (ZU (k:=1) rfl rfl)))).trans ?_)
  rw[List.filter_eq_self.mpr (fun _ _=>rfl)]
  have e:(Ye told f).map (fun r=>pW off r.2.1)=((Ye told f).map fun r=>r.2.1).map (pW off):=by rw[List.map_map]; rfl
  rw[e]
  exact Wi (by simp only[List.length_map]; omega)
 rw[OW told f 100 1 (mvL told f) (NB told f)]
 have hfl:=List.length_filter_le (fun k=>!((Ye told f).map fun r=>r.2.1).contains k) (mvL told f)
 refine Zy ((Zg e1).trans (Zr ((X7 (ws:=(mvL told f).map (pW off)) (om1:=om) ((Zo ((ZJ (Zb rfl) (ZK A.S.o) (Z4 _ _ _ (by decide) (by decide)) Zk rfl).trans (TZ A))).trans rfl) (by rw[List.length_map]; omega) (YL (pW off) (fun k=>!((Ye told f).map fun r=>r.2.1).contains k) (pW off) (fun k hk=>?_) (fun k hk _=>Zb rfl))).trans ?_)))
 ·exact ZP ((v2 rfl rfl).trans (T4 (l:=(Ye told f).map fun r=>r.2.1) rfl true))
 ·unfold YI
  rw[if_pos (by rw[List.length_map]; omega)]
  rfl
end
end MP
namespace MP
noncomputable section
open PySem L2
def V9 (c:CA):FS :=
 (sIf (fOr (Ws (YG (fA (kN 1 (g__law_whole c)) (Ze (f2 kIx (Za 0) (Za 1)) Zm)))) (X1 (fB (f2 kGt (Za 1) (fC (.int 0)))) (fB (f2 kGe (f2 kIx (Za 0) (f2 IB (Za 1) (fC (.int 1)))) (f2 kIx (Za 0) (Za 1)))))) (ZS (fC (.bl false))) Yr)
def QP (c:CA):FS :=
 (ZE (sIf (Ws (YG (f1 (RD .lst) (Za 0)))) (ZS (fC (.bl false))) Yr)
  (ZE (XH (fun sl=>bnd ((fA YT (Ze (Za 0) Zm)) sl) Yl) (tgN 1) (V9 c))
  (ZS (fC (.bl true)))))
def g__law_rising (c:CA):List Wv->Mw Wv:=Ym 2 (QP c)
def WL (c:CA):FE :=
 (Wq (f1 Xv (Za 0)) (f2 kEq (f2 kIx (Za 0) (fC (.int 0))) (fC (.str "move"))))
def Um (c:CA):FT :=
 (fB (f2 kEq (f2 kIx (Za 0) (fC (.int 0))) (Za 2)))
def Ur (c:CA):FE :=
 (f2 IB (f2 kIx (Za 0) (fC (.int 1))) (Za 1))
def Uh (c:CA):FS :=
 (sIf (fOr (Ws (fB (VV kLe kLt (fC (.int 0)) (Za 7) (fA YT (Ze (Za 0) Zm))))) (fOr (fB (f2 kGt (RE (Za 6) (Za 7)) (fC (.int 1)))) (fOr (Ws (YG (f2 kIx (Za 4) (Za 7)))) (fB (f2 kEq (fA (kN 4 (g__law_flaw c)) (Ze (Za 0) (Ze (Za 1) (Ze (Za 7) (Ze (Za 4) Zm))))) (fC (.int 0))))))) (ZS (fC .non)) Yr)
def Uw (c:CA):FS :=
 (WM (fC (.bl false)) (Za 4) (Za 7))
def XZ (c:CA):FS :=
 (ZE (ZM 6 (Yn Yk [2,5] (fun sl=>bnd ((Za 3) sl) Yb) (Um c) (Ur c)))
  (ZE (XH (fun sl=>bnd ((Za 6) sl) Yb) (tgN 7) (Uh c))
  (XH (fun sl=>bnd ((Za 6) sl) Yb) (tgN 7) (Uw c))))
def QX (c:CA):FS :=
 (ZE (ZM 4 (Si YI [] (Za 0) XE (WL c)))
  (ZE (XH (fun sl=>bnd ((fC (.int 1)) sl) fun x=>bnd ((f2 Xy (fA YT (Ze (Za 0) Zm)) (fC (.int 2))) sl) fun y=>Oq x y) (tgN 5) (XZ c))
  (ZS (Za 4))))
def g__law_walked (c:CA):List Wv->Mw Wv:=Ym 8 (QX c)
def Vm (c:CA):FT :=
 (YG (f2 kIx (Za 2) (Za 0)))
def Ve (c:CA):FE :=
 (f2 Xy (Za 1) (Za 0))
def U1 (c:CA):FS :=
 (sIf (X1 (YG (f2 kIx (Za 5) (Za 7))) (fB (f2 kNe (fA (kN 4 (g__law_flaw c)) (Ze (Za 1) (Ze (Za 2) (Ze (Za 7) (Ze (Za 5) Zm))))) (fC (.int 0))))) (ZS (fC (.bl false))) Yr)
def Nd (c:CA):FS :=
 (ZE (ZM 4 (fA (kN 1 (VG c)) (Ze (Za 0) Zm)))
  (ZE (sIf (Ws (YG (fA (kN 1 (g__law_rising c)) (Ze (Za 4) Zm)))) (ZS (fC (.bl false))) Yr)
  (ZE (ZM 5 (fA (kN 4 (g__law_walked c)) (Ze (Za 1) (Ze (Za 2) (Ze (Za 3) (Ze (fA (kN 1 (Xo c)) (Ze (Za 0) Zm)) Zm))))))
  (ZE (sIf (fB (f1 XT (Za 5))) (ZS (fC (.bl false))) Yr)
  (ZE (ZM 6 (Yn Yk [3,5] (fun sl=>bnd ((fA YT (Ze (Za 1) Zm)) sl) Yl) (Vm c) (Ve c)))
  (ZE (sIf (fB (f2 kNe (Za 4) (Za 6))) (ZS (fC (.bl false))) Yr)
  (ZE (XH (fun sl=>bnd ((fA YT (Ze (Za 1) Zm)) sl) Yl) (tgN 7) (U1 c))
  (ZE (Z8 (f1 NC (Za 4)))
  (ZS (f2 kEq (fA (kN 1 (g_settled c)) (Ze (Za 0) Zm)) (Za 6)))))))))))
def g__law_right (c:CA):List Wv->Mw Wv:=Ym 8 (Nd c)
def Lx (c:CA):FE :=
 (fA (kN 4 (g__law_order_by c)) (Ze (fA (kN 2 (g__law_cell_at c)) (Ze (Za 1) (Ze (f2 Xy (fC (.int 17)) (Za 0)) Zm))) (Ze (Za 0) (Ze (Za 2) (Ze (Za 3) Zm)))))
def HZ (c:CA):FS :=
 (Z8 (fA (kN 4 (g__law_give c)) (Ze (Za 6) (Ze (f2 kIx (Za 1) (fC (.int 1))) (Ze (Za 5) (Ze (Za 7) Zm))))))
def Hy (c:CA):FS :=
 (sIf (X1 (fB (f1 Xv (f2 kIx (Za 5) (Za 7)))) (fB (f2 kEq (f2 kIx (f2 kIx (Za 5) (Za 7)) (fC (.int 0))) (fC (.str "move"))))) (ZE (WM (fA XA (Ze (fC (.str "stand")) Zm)) (Za 5) (Za 7))
  (ZE (Z8 (ZB c.Orders "stand" 2 (Xq c) (Za 6) (Ze (f2 Xy (f2 kIx (Za 1) (fC (.int 1))) (Za 7)) Zm)))
  (ZS (fA (kN 4 (g__law_right c)) (Ze (Za 6) (Ze (Za 5) (Ze (Za 3) (Ze (f2 kIx (Za 1) (fC (.int 1))) Zm)))))))) Yr)
def B4 (c:CA):FS :=
 (ZE (ZM 1 (fA (kN 1 (g__law_frame c)) (Ze (Za 0) Zm)))
  (ZE (ZM 2 (fA (kN 2 (Wk c)) (Ze (Za 0) (Ze (f2 kIx (Za 1) (fC (.int 0))) Zm))))
  (ZE (ZM 3 (fA (kN 2 (Wl c)) (Ze (Za 0) (Ze (f2 kIx (Za 1) (fC (.int 0))) Zm))))
  (ZE (ZM 4 (Yn YI [0,2,3] (fun sl=>bnd ((f2 kIx (Za 1) (fC (.int 0))) sl) Yl) XE (Lx c)))
  (ZE (ZM 5 (fA (kN 3 (XV c)) (Ze (Za 0) (Ze (Za 2) (Ze (Za 3) Zm)))))
  (ZE (ZM 6 (fA (kN 4 (g__law_given c)) (Ze (Za 1) (Ze (Za 2) (Ze (Za 3) (Ze (Za 4) Zm))))))
  (ZE (sIf (Ws (YG (fA (kN 4 (g__law_right c)) (Ze (Za 6) (Ze (Za 4) (Ze (Za 3) (Ze (f2 kIx (Za 1) (fC (.int 1))) Zm))))))) (ZS (fC (.bl false))) Yr)
  (ZE (XH (fun sl=>bnd ((f2 kIx (Za 1) (fC (.int 0))) sl) Yl) (tgN 7) (HZ c))
  (ZE (sIf (Ws (YG (fA (kN 4 (g__law_right c)) (Ze (Za 6) (Ze (Za 5) (Ze (Za 3) (Ze (f2 kIx (Za 1) (fC (.int 1))) Zm))))))) (ZS (fC (.bl false))) Yr)
  (ZE (XH (fun sl=>bnd ((f2 kIx (Za 1) (fC (.int 0))) sl) Yl) (tgN 7) (Hy c))
  (ZS (fC (.bl true)))))))))))))
def Fa (c:CA):List Wv->Mw Wv:=Ym 8 (B4 c)
end
open PySem L2
section
variable {c:CA} {om:List Ob} {ns:List Int} {ho hb hm hu hl hg many size off:Nat} {rows:Mx} {f:List (Option Int)} {kvs:List (List Key × Wv)} {gs:Gs} {told:List (Option Od)}
theorem B0 {o:Option Od} {sl:Sl} {om:List Ob} (h:sl[0]?=some (some (odW o))):WL c sl om=some (.ok (.bl (Xd o)),om):=by
 have c1:f1 Xv (Za 0) sl om=some (.ok (.bl o.isSome),om):=(Xs (Zb h)).trans (KD _ _)
 cases o with
 |none=>exact UF c1
 |some o =>
  have c2:f2 kEq (f2 kIx (Za 0) (fC (.int 0))) (fC (.str "move")) sl om=some (.ok (.bl (decide (odN o="move"))),om):=(Zs ((Zs (Zb h) Zp).trans (LQ o _)) Zp).trans (Up _ _ (Uo o) XG _)
  cases o <;> exact (Rn c1).trans c2
def UZ (told:List (Option Od)):List Bool:=told.map Xd
theorem Nw (G:Givn rows f told):lOf (UZ told)=mvL told f:=by
 unfold lOf mvL UZ
 rw[List.length_map,G.len]
 refine List.filter_congr fun k hk=>?_
 have hk:k < f.length:=List.mem_range.mp hk
 rw[List.getD_eq_getElem?_getD,List.getElem?_map]
 unfold at'
 rw[List.getD_eq_getElem?_getD,List.getElem?_eq_getElem (by rw[G.len]; exact hk)]
 rfl
theorem J8 (n:Nat) (om:List Ob) (h:n<=60):Oq (.int 1) (.int ((n:Int)+2)) om=some (.ok ((List.range (n+1)).map fun (m:Nat)=>Wv.int (1+(m:Int))),om):=by
 have e:(-(2 ^ 62)<=(1:Int)∧(1:Int) < 2 ^ 62∧-(2 ^ 62)<=(n:Int)+2∧(n:Int)+2 < 2 ^ 62):=by omega
 simp only[Oq]
 rw[Zo (Ny (decide_eq_true e)),show ((n:Int)+2 - 1).toNat=n+1 by omega]
 rfl
theorem J2 {h:Nat} {D:List Nat} (hx:om[h]?=some (.lst (D.map (pW off)))) (up:D.Pairwise (· < ·)) (hl:D.length<=60):g__law_rising c [.o h] om=some (.ok (.bl true),om):=by
 have hlim:=Z1
 have hq:Yq om (.o h)=some (D.map (pW off)):=by simp[Yq,hx]
 have c1:Ws (YG (f1 (RD .lst) (Za 0))) [some (.o h),none] om=some (.ok false,om):=Wj (b:=true) (YE ((Xs (Zb rfl)).trans (by simp[RD,NV,hx]; rfl)))
 obtain ⟨y,ey⟩:=Vr (S:=V9 c) (i:=1) (om:=om) (sl:=[some (.o h),none]) (by simp) (l:=Xm D.length) none (fun w hw=>by
  obtain ⟨k,hk,rfl⟩:=List.mem_map.mp hw
  have hk:k < D.length:=List.mem_range.mp hk
  have i0:f2 kIx (Za 0) (Za 1) ([some (.o h),none].set 1 (some (.int (k:Nat)))) om=some (.ok (pW off (D.getD k 0)),om):=(v2 rfl rfl).trans (YW (xs:=D) hq hk 0)
  have d1:Ws (YG (fA (kN 1 (g__law_whole c)) (Ze (f2 kIx (Za 0) (Za 1)) Zm))) ([some (.o h),none].set 1 (some (.int (k:Nat)))) om=some (.ok false,om):=Wj (b:=true) (YE ((ZG (Zd i0 Zk)).trans ((Yj rfl).trans (Gn c _ _))))
  have d2:fB (f2 kGt (Za 1) (fC (.int 0))) ([some (.o h),none].set 1 (some (.int (k:Nat)))) om=some (.ok (decide ((k:Int) > 0)),om):=ZP ((Zs (Zb rfl) Zp).trans rfl)
  by_cases h0:k=0
  ·subst h0
   exact ZI ((WV d1).trans (Nl d2))
  ·rw[decide_eq_true (show (k:Int) > 0 by omega)]at d2
   have i1:f2 kIx (Za 0) (f2 IB (Za 1) (fC (.int 1))) ([some (.o h),none].set 1 (some (.int (k:Nat)))) om=some (.ok (pW off (D.getD (k - 1) 0)),om):=(Zs (Zb rfl) ((Zs (Zb rfl) Zp).trans rfl)).trans (by
    show kIx (.o h) (.int ((k:Int) - 1)) om=_
    rw[show (k:Int) - 1=((k - 1:Nat):Int) by omega]
    exact YW (xs:=D) hq (by omega) 0)
   have hlt:D.getD (k - 1) 0 < D.getD k 0:=by
    rw[List.getD_eq_getElem?_getD,List.getD_eq_getElem?_getD,List.getElem?_eq_getElem hk,List.getElem?_eq_getElem (show k - 1 < D.length by omega)]
    exact List.pairwise_iff_getElem.mp up (k - 1) k (by omega) hk (by omega)
   have d3:fB (f2 kGe (f2 kIx (Za 0) (f2 IB (Za 1) (fC (.int 1)))) (f2 kIx (Za 0) (Za 1))) ([some (.o h),none].set 1 (some (.int (k:Nat)))) om=some (.ok (decide (((off:Int)+(D.getD (k - 1) 0:Nat)) ≥ ((off:Int)+(D.getD k 0:Nat)))),om):=ZP ((Zs i1 i0).trans rfl)
   rw[decide_eq_false (by omega)]at d3
   exact ZI ((WV d1).trans ((So d2).trans d3)))
 have e2:=Yx (sl1:=[]) (fi:=fun sl=>bnd ((fA YT (Ze (Za 0) Zm)) sl) Yl) (sl:=[some (.o h),none]) (Wy (i:=0) rfl hq (by rw[List.length_map]; omega)) (by rw[List.length_map]; exact ey)
 exact Zy ((Zg (ZI c1)).trans ((Zg e2).trans (Zr Zp)))
abbrev slW (ht:Nat) (sw rw':Wv) (off h:Nat) (x5 x6 x7:Option Wv):Sl:=[some (.o ht),some sw,some (.int off),some rw',some (.o h),x5,x6,x7]
theorem IH (A:Sit c om ho hb hm hu hl hg size off f kvs gs rows told) (hf7:f.length<=7) {ht:Nat} (hx:om[ht]?=some (.lst (told.map odW))) {kb:List Bool} (hkb:kb.length=f.length) (hmv:∀k,kb.getD k false=true->∃g,at' told k=some (.move g)) {R:List R3} (hR:R.length<=60) {i:Int} (hfi:R.filter (fun r=>decide (r.1=i))=(fallen told f (lOf kb)).map fun k=>(i,k,ZV told f (lOf kb) k)) (x6 x7:Option Wv) :
    ∃y6 y7,XZ c (slW ht (.lst (f.map Zv)) (.lst (R.map (r3W off))) off om.length (some (.int i)) x6 x7) (om++[.lst (kb.map Wv.bl)])=some (.ok (.nx,slW ht (.lst (f.map Zv)) (.lst (R.map (r3W off))) off om.length (some (.int i)) y6 y7),om++[.lst ((clr kb (fallen told f (lOf kb))).map Wv.bl)]):=by
 have hlim:=Z1
 have htl:=A.G.len
 have hht:ht < om.length:=by
  by_cases h:ht < om.length
  ·exact h
  ·rw[List.getElem?_eq_none (by omega)]at hx; cases hx
 have hxs:∀l,Yq (om++l) (.o ht)=some (told.map odW):=fun l=>by
  have:(om++l)[ht]?=some (.lst (told.map odW)):=by rw[List.getElem?_append_left hht]; exact hx
  simp[Yq,this]
 generalize hsw:Wv.lst (f.map Zv)=sw
 have Rr:∀l,Rows (om++l) (.o ht) sw told f:=fun l=>⟨hxs l,by rw[← hsw]; rfl⟩
 have hq:Yq (om++[.lst (kb.map Wv.bl)]) (.o om.length)=some (kb.map Wv.bl):=Bu om [] _
 have hF1:∀k∈fallen told f (lOf kb),k∈lOf kb∧ZV told f (lOf kb) k≠0:=fun k hk=>by
  have:=List.mem_filter.mp hk
  exact ⟨this.1,by simpa using this.2⟩
 have hFn:(fallen told f (lOf kb)).Nodup:=List.Nodup.sublist List.filter_sublist (BQ kb)
 have b1:ZM 6 (Yn Yk [2,5] (fun sl=>bnd ((Za 3) sl) Yb) (Um c) (Ur c)) (slW ht sw (.lst (R.map (r3W off))) off om.length (some (.int i)) x6 x7) (om++[.lst (kb.map Wv.bl)])=some (.ok (.nx,slW ht sw (.lst (R.map (r3W off))) off om.length (some (.int i)) (some (.lst ((fallen told f (lOf kb)).map fun (k:Nat)=>Wv.int (k:Int)))) x7),om++[.lst (kb.map Wv.bl)]):=by
  refine ZD (i:=6) ((X7 (ws:=R.map (r3W off)) (om1:=om++[.lst (kb.map Wv.bl)]) ((Zo (a:=.lst (R.map (r3W off))) (om1:=om++[.lst (kb.map Wv.bl)]) (Zb rfl)).trans rfl) (by rw[List.length_map]; omega) (YL (r3W off) (fun r=>decide (r.1=i)) (fun r=>Wv.int (r.2.1:Int)) (fun r hr=>ZP ((Zs ((Zs (Zb rfl) Zp).trans (ZU (k:=0) rfl rfl)) (Zb rfl)).trans (Xw _ _ _))) (fun r hr _=>(Zs ((Zs (Zb rfl) Zp).trans (ZU (k:=1) rfl rfl)) (Zb rfl)).trans ?_))).trans ?_)
  ·show some (Except.ok (Wv.int (((off:Int)+(r.2.1:Nat)) - off)),_)=_
   rw[show (off:Int)+(r.2.1:Nat) - off=(r.2.1:Nat) by omega]
  ·rw[hfi,List.map_map]
   have h1:=Vx told f (lOf kb)
   have h2:=K3 kb
   exact Wi (by rw[List.length_map]; omega)
 generalize hF:fallen told f (lOf kb)=F at b1 hF1 hFn
 have hFk:∀k∈F,k < kb.length:=fun k hk=>List.mem_range.mp (List.mem_filter.mp (hF1 k hk).1).1
 obtain ⟨y,ey⟩:=Vr (S:=Uh c) (i:=7) (om:=om++[.lst (kb.map Wv.bl)]) (sl:=slW ht sw (.lst (R.map (r3W off))) off om.length (some (.int i)) (some (.lst (F.map fun (k:Nat)=>Wv.int (k:Int)))) x7) (by simp) (l:=F.map fun (k:Nat)=>Wv.int (k:Int)) x7 (fun w hw=>by
  obtain ⟨k,hk,rfl⟩:=List.mem_map.mp hw
  have hkk:=hFk k hk
  have hon:=TV.mp (hF1 k hk).1
  obtain ⟨g,eg⟩:=hmv k hon
  generalize hsl:(slW ht sw (.lst (R.map (r3W off))) off om.length (some (.int i)) (some (.lst (F.map fun (k:Nat)=>Wv.int (k:Int)))) x7).set 7 (some (Wv.int (k:Int)))=sl
  have w0:sl[0]?=some (some (.o ht)):=by rw[← hsl]; rfl
  have w1:sl[1]?=some (some sw):=by rw[← hsl]; rfl
  have w4:sl[4]?=some (some (.o om.length)):=by rw[← hsl]; rfl
  have w6:sl[6]?=some (some (.lst (F.map fun (k:Nat)=>Wv.int (k:Int)))):=by rw[← hsl]; rfl
  have w7:sl[7]?=some (some (.int (k:Int))):=by rw[← hsl]; rfl
  have d1:Ws (fB (VV kLe kLt (fC (.int 0)) (Za 7) (fA YT (Ze (Za 0) Zm)))) sl (om++[.lst (kb.map Wv.bl)])=some (.ok false,om++[.lst (kb.map Wv.bl)]):=by
   refine Wj (b:=true) (ZP ?_)
   unfold VV
   rw[Zo Zp,Zo (Zb w7)]
   refine (Zo (a:=.bl true) (om1:=om++[.lst (kb.map Wv.bl)]) ?_).trans ((Zo (a:=true) (om1:=om++[.lst (kb.map Wv.bl)]) rfl).trans ?_)
   ·show some (Except.ok (Wv.bl (decide ((0:Int)<=(k:Int)))),_)=_
    rw[decide_eq_true (by omega)]
   ·rw[if_pos rfl,Zo ((ZG (Zd (Zb w0) Zk)).trans (Vo (hxs _)))]
    show some (Except.ok (Wv.bl (decide ((k:Int) < ((told.map odW).length:Nat)))),_)=_
    rw[decide_eq_true (by rw[List.length_map]; omega)]
  have d2:fB (f2 kGt (RE (Za 6) (Za 7)) (fC (.int 1))) sl (om++[.lst (kb.map Wv.bl)])=some (.ok false,om++[.lst (kb.map Wv.bl)]):=by
   have hm2:(F.map fun (k:Nat)=>Wv.int (k:Int))=(F.map fun (k:Nat)=>(k:Int)).map Wv.int:=by rw[List.map_map]; rfl
   have hnd:(F.map fun (k:Nat)=>(k:Int)).Nodup:=List.pairwise_map.mpr (hFn.imp fun {a b} h z=>h (by omega))
   have ec:RE (Za 6) (Za 7) sl (om++[.lst (kb.map Wv.bl)])=some (.ok (.int (((F.map fun (k:Nat)=>(k:Int)).count (k:Int):Nat):Int)),om++[.lst (kb.map Wv.bl)]):=by
    unfold RE
    rw[Zo (Zb w6)]
    refine (Zo (a:=()) (om1:=om++[.lst (kb.map Wv.bl)]) rfl).trans ((Zo (Zb w7)).trans ?_)
    rw[hm2]
    show (match X9 ((F.map fun (k:Nat)=>(k:Int)).map Wv.int) with|some ns=>some (Except.ok (Wv.int ((ns.count (k:Int):Nat):Int)),_)|none=>none)=_
    rw[Td]
   refine ZP ((Zs ec Zp).trans ?_)
   have:=Pw hnd (k:Int)
   show some (Except.ok (Wv.bl (decide ((((F.map fun (k:Nat)=>(k:Int)).count (k:Int):Nat):Int) > 1))),_)=_
   rw[decide_eq_false (by omega)]
  have d3:Ws (YG (f2 kIx (Za 4) (Za 7))) sl (om++[.lst (kb.map Wv.bl)])=some (.ok false,om++[.lst (kb.map Wv.bl)]):=by
   have:=(v2 w4 w7).trans (YW (xs:=kb) (f:=Wv.bl) hq hkk false)
   rw[hon]at this
   exact Wj (b:=true) (YE this)
  have ff:PK told f kb k g=ZV told f (lOf kb) k:=Qe A eg (KA kb g)
  have d4:fB (f2 kEq (fA (kN 4 (g__law_flaw c)) (Ze (Za 0) (Ze (Za 1) (Ze (Za 7) (Ze (Za 4) Zm))))) (fC (.int 0))) sl (om++[.lst (kb.map Wv.bl)])=some (.ok false,om++[.lst (kb.map Wv.bl)]):=by
   refine ZP ((Zs ((ZG (Zd (Zb w0) (Zd (Zb w1) (Zd (Zb w7) (Zd (Zb w4) Zk))))).trans ((Yj rfl).trans (Kt c (Rr _) A.G.okT hq (by rw[hkb,htl]) (by omega) eg))) Zp).trans ((Xw _ _ _).trans ?_))
   rw[ff,decide_eq_false (hF1 k hk).2]
  exact ZI ((WV d1).trans ((WV d2).trans ((WV d3).trans d4))))
 have b2:=Yx (sl1:=[]) (fi:=fun sl=>bnd ((Za 6) sl) Yb) (sl:=slW ht sw (.lst (R.map (r3W off))) off om.length (some (.int i)) (some (.lst (F.map fun (k:Nat)=>Wv.int (k:Int)))) x7) ((Zo (Zb rfl)).trans rfl) ey
 obtain ⟨sl',om',hfor,rfl,y7,rfl⟩:=Ux (T:=tgN 7) (S:=Uw c) (fun (k:Nat)=>Wv.int (k:Int)) (fun p sl om'=>om'=om++[.lst ((clr kb p).map Wv.bl)]∧∃x7,sl=slW ht sw (.lst (R.map (r3W off))) off om.length (some (.int i)) (some (.lst (F.map fun (k:Nat)=>Wv.int (k:Int)))) x7) F [] (sl:=slW ht sw (.lst (R.map (r3W off))) off om.length (some (.int i)) (some (.lst (F.map fun (k:Nat)=>Wv.int (k:Int)))) y) (om:=om++[.lst (kb.map Wv.bl)]) (fun p k q hpq sl om' ⟨e1,x7,e2⟩=>by
  subst e1 e2
  rw[List.nil_append]at hpq
  have hk:=hFk k (by rw[hpq]; simp)
  exact ⟨_,_,_,rfl,Bo (k:=k) (b:=false) Zp (Zb rfl) (Zb rfl) (by rw[Rh]; exact hk),by rw[EY],_,rfl⟩) ⟨rfl,_,rfl⟩
 exact ⟨_,_,(Zg b1).trans ((Zg b2).trans (Yx (sl1:=[]) ((Zo (Zb rfl)).trans rfl) hfor))⟩
theorem Jz (A:Sit c om ho hb hm hu hl hg size off f kvs gs rows told) (hf7:f.length<=7) {ht:Nat} (hx:om[ht]?=some (.lst (told.map odW))) :
    ∃kb,g__law_walked c [.o ht,.lst (f.map Zv),.int off,.lst ((Ye told f).map (r3W off))] om=some (.ok (.o om.length),om++[.lst (kb.map Wv.bl)])∧kb.length=f.length∧lOf kb=VE told f 100 (mvL told f)∧∀k,kb.getD k false=true->∃g,at' told k=some (.move g):=by
 have hlim:=Z1
 have htl:=A.G.len
 have hml:=WZ told f
 have hRl:(Ye told f).length<=(mvL told f).length:=TY told f 100 1 (mvL told f)
 have hht:ht < om.length:=by
  by_cases h:ht < om.length
  ·exact h
  ·rw[List.getElem?_eq_none (by omega)]at hx; cases hx
 have e1:ZM 4 (Si YI [] (Za 0) XE (WL c)) [some (.o ht),some (.lst (f.map Zv)),some (.int off),some (.lst ((Ye told f).map (r3W off))),none,none,none,none] om=some (.ok (.nx,slW ht (.lst (f.map Zv)) (.lst ((Ye told f).map (r3W off))) off om.length none none none),om++[.lst ((UZ told).map Wv.bl)]):=by
  refine ZD (i:=4) ((J9 odW (fun _=>true) (fun o=>Wv.bl (Xd o)) (Zb rfl) hx (by omega) (fun o _=>rfl) (fun o _ _=>B0 rfl)).trans ?_)
  rw[List.filter_eq_self.mpr (fun _ _=>rfl)]
  unfold YI UZ
  rw[if_pos (by rw[List.length_map]; omega),List.map_map]
  rfl
 have e0:∀(a b:Nat) (i j:Int),a=b->i=j->VN told f a i (mvL told f)=VN told f b j (mvL told f):=fun a b i j h1 h2=>by subst h1 h2; rfl
 generalize hR:Ye told f=R at e1 hRl
 obtain ⟨sl',om',hfor,kb,acc,x5,x6,x7,rfl,rfl,hk1,hk2,hk3,hk4,hk5⟩:=Ux (T:=tgN 5) (S:=XZ c) (fun (m:Nat)=>Wv.int (1+(m:Int))) (fun p sl om'=>∃kb acc x5 x6 x7,sl=slW ht (.lst (f.map Zv)) (.lst (R.map (r3W off))) off om.length x5 x6 x7∧om'=om++[.lst (kb.map Wv.bl)]∧kb.length=f.length∧(∀k,kb.getD k false=true->∃g,at' told k=some (.move g))∧R=acc++VN told f (100 - p.length) (1+(p.length:Int)) (lOf kb)∧(∀r∈acc,r.1 < 1+(p.length:Int))∧lOf kb=VE told f p.length (mvL told f)) (List.range (told.length+1)) [] (sl:=slW ht (.lst (f.map Zv)) (.lst (R.map (r3W off))) off om.length none none none) (om:=om++[.lst ((UZ told).map Wv.bl)]) (fun p m q hpq sl om' ⟨kb,acc,x5,x6,x7,e1,e2,h1,h2,h3,h4,h5⟩=>by
  subst e1 e2
  rw[List.nil_append]at hpq
  have hm:=GF hpq
  have hpl:p.length < told.length+1:=by
   have:(List.range (told.length+1)).length=(p++m::q).length:=by rw[hpq]
   rw[List.length_range,List.length_append,List.length_cons]at this
   omega
  obtain ⟨r,hr⟩:∃r,100 - p.length=r+1:=⟨99 - p.length,by omega⟩
  have hfi:R.filter (fun r=>decide (r.1=1+(m:Int)))=(fallen told f (lOf kb)).map fun k=>(1+(m:Int),k,ZV told f (lOf kb) k):=by
   rw[hm,h3,hr,List.filter_append,L4]
   have:acc.filter (fun r:R3=>decide (r.1=1+(p.length:Int)))=[]:=List.filter_eq_nil_iff.mpr fun r hr=>by
    have:=h4 r hr
    simp only[decide_eq_true_eq]
    omega
   rw[this,List.nil_append]
  obtain ⟨y6,y7,er⟩:=IH A hf7 hx h1 h2 (R:=R) (by omega) hfi x6 x7
  refine ⟨_,_,_,rfl,er,_,acc++(fallen told f (lOf kb)).map fun k=>(1+(p.length:Int),k,ZV told f (lOf kb) k),_,_,_,rfl,rfl,by rw[Rh]; exact h1,fun k hk=>?_,?_,fun r hr=>?_,?_⟩
  ·rw[Nh]at hk
   exact h2 k (Bool.and_eq_true_iff.mp hk).1
  ·rw[KC,List.append_assoc,List.length_append]
   rw[show 100 - (p.length+[m].length)=r by simp; omega]
   have e1:(1+((p.length+[m].length:Nat):Int))=1+(p.length:Int)+1:=by simp; omega
   rw[e1]
   conv=>lhs; rw[h3,hr]
   conv=>lhs; arg 2; unfold VN
  ·rw[List.length_append]
   have e1:(1+((p.length+[m].length:Nat):Int))=1+(p.length:Int)+1:=by simp; omega
   rw[e1]
   rcases List.mem_append.mp hr with hr|hr
   ·have:=h4 r hr; omega
   ·obtain ⟨k,_,rfl⟩:=List.mem_map.mp hr
    show 1+(p.length:Int) < _
    omega
  ·rw[KC,h5,List.length_append]
   show _=VE told f (p.length+1) (mvL told f)
   rw[Dp]) ⟨UZ told,[],none,none,none,rfl,rfl,by unfold UZ; rw[List.length_map,htl],fun k hk=>by
   have:=TV.mpr hk
   rw[Nw A.G]at this
   exact (Wz.mp this).2,(by rw[Nw A.G,← hR,List.nil_append]; exact e0 _ _ _ _ (by simp) (by simp)),(fun r hr=>by cases hr),(by rw[Nw A.G]; rfl)⟩
 have e3:XH (fun sl=>bnd ((fC (.int 1)) sl) fun x=>bnd ((f2 Xy (fA YT (Ze (Za 0) Zm)) (fC (.int 2))) sl) fun y=>Oq x y) (tgN 5) (XZ c) (slW ht (.lst (f.map Zv)) (.lst (R.map (r3W off))) off om.length none none none) (om++[.lst ((UZ told).map Wv.bl)])=some (.ok (.nx,slW ht (.lst (f.map Zv)) (.lst (R.map (r3W off))) off om.length x5 x6 x7),om++[.lst (kb.map Wv.bl)]):=by
  refine Yx (sl1:=[]) (ws:=(List.range (told.length+1)).map fun (m:Nat)=>Wv.int (1+(m:Int))) ?_ hfor
  show bnd ((fC (.int 1)) _) _ _=_
  rw[Zo Zp]
  have hxs:Yq (om++[.lst ((UZ told).map Wv.bl)]) (.o ht)=some (told.map odW):=by
   have:(om++[Ob.lst ((UZ told).map Wv.bl)])[ht]?=some (.lst (told.map odW)):=by rw[List.getElem?_append_left hht]; exact hx
   simp[Yq,this]
  rw[Zo ((Zs ((ZG (Zd (Zb rfl) Zk)).trans (Vo hxs)) Zp).trans rfl)]
  rw[List.length_map]
  show Oq (.int 1) (.int ((told.length:Int)+2)) _=_
  exact J8 _ _ (by omega)
 refine ⟨kb,Zy ((Zg e1).trans ((Zg e3).trans (Zr (Zb rfl)))),hk1,?_,hk2⟩
 rw[hk5,List.nil_append,List.length_range]
 exact Mm told f _ _ _ (by omega) (by omega)
end
open PySem L2
section
variable {c:CA} {om:List Ob} {ns:List Int} {ho hb hm hu hl hg many size off:Nat} {rows:Mx} {f:List (Option Int)} {kvs:List (List Key × Wv)} {gs:Gs} {told:List (Option Od)}
theorem Qx (A:Sit c om ho hb hm hu hl hg size off f kvs gs rows told) (hf7:f.length<=7) {ht:Nat} (hx:om[ht]?=some (.lst (told.map odW))):∃l,g__law_right c [.o ho,.o ht,.lst (f.map Zv),.int off] om=some (.ok (.bl true),om++l):=by
 have hlim:=Z1
 have htl:=A.G.len
 have hml:=WZ told f
 have hht:ht < om.length:=by
  by_cases h:ht < om.length
  ·exact h
  ·rw[List.getElem?_eq_none (by omega)]at hx; cases hx
 have hxl:∀l,(om++l)[ht]?=some (.lst (told.map odW)):=fun l=>by rw[List.getElem?_append_left hht]; exact hx
 have hxs:∀l,Yq (om++l) (.o ht)=some (told.map odW):=fun l=>by simp[Yq,hxl l]
 have es:=My A
 have hsub:=IX told f 100 (mvL told f)
 have hno:=PQ told f 100 (mvL told f) (by omega)
 have A1:=A.grow [.lst ((VE told f 100 (mvL told f)).map (pW off))]
 obtain ⟨kb,ew,k1,k2,k3⟩:=Jz A1 hf7 (ht:=ht) (hxl _)
 have ef:=Sn A1
 have A3:=A.grow [.lst [],.lst (kb.map Wv.bl)]
 have e3:=Kk A3
 rw[← k2]at es hsub hno A1 ew ef e3
 have hDl:(lOf kb).length<=7:=by have:=K3 kb; omega
 have hup:(lOf kb).Pairwise (· < ·):=List.Pairwise.sublist List.filter_sublist List.pairwise_lt_range
 generalize hsw:Wv.lst (f.map Zv)=sw at ew
 have Rr:∀l,Rows (om++l) (.o ht) sw told f:=fun l=>⟨hxs l,by rw[← hsw]; rfl⟩
 have hP:(lOf kb).map (pW off)=((lOf kb).map fun (k:Nat)=>(off:Int)+k).map Wv.int:=by rw[List.map_map]; rfl
 have c2:om++[Ob.lst ((lOf kb).map (pW off))]++[.lst (kb.map Wv.bl)]=om++[.lst ((lOf kb).map (pW off)),.lst (kb.map Wv.bl)]:=by simp
 have hn1:(om++[Ob.lst ((lOf kb).map (pW off))]).length=om.length+1:=by simp
 rw[c2,hn1]at ew
 have hq:∀x:Ob,Yq (om++[x,.lst (kb.map Wv.bl)]) (.o (om.length+1))=some (kb.map Wv.bl):=fun x=>by
  have:(om++[x,Ob.lst (kb.map Wv.bl)])[om.length+1]?=some (.lst (kb.map Wv.bl)):=by simp
  simp[Yq,this]
 have ri:=J2 (c:=c) (off:=off) (om:=om++[.lst ((lOf kb).map (pW off))]) (h:=om.length) (D:=lOf kb) (by simp) hup (by omega)
 have b1:ZM 4 (fA (kN 1 (VG c)) (Ze (Za 0) Zm)) [some (.o ho),some (.o ht),some sw,some (.int off),none,none,none,none] om=some (.ok (.nx,[some (.o ho),some (.o ht),some sw,some (.int off),some (.o om.length),none,none,none]),om++[.lst ((lOf kb).map (pW off))]):=ZD (i:=4) ((ZG (Zd (Zb rfl) Zk)).trans ((Yj rfl).trans es))
 have b2:Ws (YG (fA (kN 1 (g__law_rising c)) (Ze (Za 4) Zm))) [some (.o ho),some (.o ht),some sw,some (.int off),some (.o om.length),none,none,none] (om++[.lst ((lOf kb).map (pW off))])=some (.ok false,om++[.lst ((lOf kb).map (pW off))]):=Wj (b:=true) (YE ((ZG (Zd (Zb rfl) Zk)).trans ((Yj rfl).trans ri)))
 have b3:ZM 5 (fA (kN 4 (g__law_walked c)) (Ze (Za 1) (Ze (Za 2) (Ze (Za 3) (Ze (fA (kN 1 (Xo c)) (Ze (Za 0) Zm)) Zm))))) [some (.o ho),some (.o ht),some sw,some (.int off),some (.o om.length),none,none,none] (om++[.lst ((lOf kb).map (pW off))])=some (.ok (.nx,[some (.o ho),some (.o ht),some sw,some (.int off),some (.o om.length),some (.o (om.length+1)),none,none]),om++[.lst ((lOf kb).map (pW off)),.lst (kb.map Wv.bl)]):=ZD (i:=5) ((ZG (Zd (Zb rfl) (Zd (Zb rfl) (Zd (Zb rfl) (Zd ((ZG (Zd (Zb rfl) Zk)).trans ((Yj rfl).trans ef)) Zk))))).trans ((Yj rfl).trans ew))
 have b4:fB (f1 XT (Za 5)) [some (.o ho),some (.o ht),some sw,some (.int off),some (.o om.length),some (.o (om.length+1)),none,none] (om++[.lst ((lOf kb).map (pW off)),.lst (kb.map Wv.bl)])=some (.ok false,om++[.lst ((lOf kb).map (pW off)),.lst (kb.map Wv.bl)]):=ZP ((Xs (Zb rfl)).trans rfl)
 have b5:ZM 6 (Yn Yk [3,5] (fun sl=>bnd ((fA YT (Ze (Za 1) Zm)) sl) Yl) (Vm c) (Ve c)) [some (.o ho),some (.o ht),some sw,some (.int off),some (.o om.length),some (.o (om.length+1)),none,none] (om++[.lst ((lOf kb).map (pW off)),.lst (kb.map Wv.bl)])=some (.ok (.nx,[some (.o ho),some (.o ht),some sw,some (.int off),some (.o om.length),some (.o (om.length+1)),some (.lst ((lOf kb).map (pW off))),none]),om++[.lst ((lOf kb).map (pW off)),.lst (kb.map Wv.bl)]):=by
  have cr:=Uc (cT:=Vm c) (f:=Ve c) (mk:=fun w=>Y9 [3,5] w [some (.o ho),some (.o ht),some sw,some (.int off),some (.o om.length),some (.o (om.length+1)),none,none]) (om:=om++[.lst ((lOf kb).map (pW off)),.lst (kb.map Wv.bl)]) (n:=(told.map odW).length) (fun k=>kb.getD k false) (pW off) (fun k hk=>YE ((v2 rfl rfl).trans (YW (xs:=kb) (f:=Wv.bl) (hq _) (by rw[List.length_map]at hk; omega) false))) (fun k hk _=>(v2 rfl rfl).trans rfl)
  refine ZD (i:=6) ((X7 (ws:=Xm (told.map odW).length) (om1:=om++[.lst ((lOf kb).map (pW off)),.lst (kb.map Wv.bl)]) (Wy (i:=1) rfl (hxs _) (by rw[List.length_map]; omega)) (by rw[WR,List.length_map]; omega) cr).trans ?_)
  have e:(List.range (told.map odW).length).filter (fun k=>kb.getD k false)=lOf kb:=by unfold lOf; rw[List.length_map,htl,k1]
  rw[e]
  exact Wi (by rw[List.length_map]; omega)
 have b6:fB (f2 kNe (Za 4) (Za 6)) [some (.o ho),some (.o ht),some sw,some (.int off),some (.o om.length),some (.o (om.length+1)),some (.lst ((lOf kb).map (pW off))),none] (om++[.lst ((lOf kb).map (pW off)),.lst (kb.map Wv.bl)])=some (.ok false,om++[.lst ((lOf kb).map (pW off)),.lst (kb.map Wv.bl)]):=by
  rw[hP]
  exact ZP ((v2 rfl rfl).trans (Ku (py_o (by simp)) (C4 _ _) (Pd _) true))
 obtain ⟨y,ey⟩:=Vr (S:=U1 c) (i:=7) (om:=om++[.lst ((lOf kb).map (pW off)),.lst (kb.map Wv.bl)]) (sl:=[some (.o ho),some (.o ht),some sw,some (.int off),some (.o om.length),some (.o (om.length+1)),some (.lst ((lOf kb).map (pW off))),none]) (by simp) (l:=Xm (told.map odW).length) none (fun w hw=>by
  obtain ⟨k,hk,rfl⟩:=List.mem_map.mp hw
  have hk:k < (told.map odW).length:=List.mem_range.mp hk
  rw[List.length_map]at hk
  have ek:YG (f2 kIx (Za 5) (Za 7)) ([some (.o ho),some (.o ht),some sw,some (.int off),some (.o om.length),some (.o (om.length+1)),some (.lst ((lOf kb).map (pW off))),none].set 7 (some (.int (k:Nat)))) (om++[.lst ((lOf kb).map (pW off)),.lst (kb.map Wv.bl)])=some (.ok (kb.getD k false),om++[.lst ((lOf kb).map (pW off)),.lst (kb.map Wv.bl)]):=YE ((v2 rfl rfl).trans (YW (xs:=kb) (f:=Wv.bl) (hq _) (by omega) false))
  cases hkm:kb.getD k false with
  |false=>rw[hkm]at ek; exact ZI (Nl ek)
  |true =>
   rw[hkm]at ek
   obtain ⟨g,eg⟩:=k3 k hkm
   have ff:PK told f kb k g=ZV told f (lOf kb) k:=Qe A eg (KA kb g)
   have f0:ZV told f (lOf kb) k=0:=by
    have:=List.filter_eq_nil_iff.mp hno k (TV.mpr hkm)
    simpa using this
   refine ZI ((So ek).trans (ZP ((Zs ((ZG (Zd (Zb rfl) (Zd (Zb rfl) (Zd (Zb rfl) (Zd (Zb rfl) Zk))))).trans ((Yj rfl).trans (Kt c (Rr _) A.G.okT (hq _) (by omega) (by omega) eg))) Zp).trans ((WO _ _ _).trans ?_))))
   rw[ff,f0]
   rfl)
 have b7:=Yx (sl1:=[]) (fi:=fun sl=>bnd ((fA YT (Ze (Za 1) Zm)) sl) Yl) (sl:=[some (.o ho),some (.o ht),some sw,some (.int off),some (.o om.length),some (.o (om.length+1)),some (.lst ((lOf kb).map (pW off))),none]) (Wy (i:=1) rfl (hxs _) (by rw[List.length_map]; omega)) ey
 have b8:Z8 (f1 NC (Za 4)) [some (.o ho),some (.o ht),some sw,some (.int off),some (.o om.length),some (.o (om.length+1)),some (.lst ((lOf kb).map (pW off))),y] (om++[.lst ((lOf kb).map (pW off)),.lst (kb.map Wv.bl)])=some (.ok (.nx,[some (.o ho),some (.o ht),some sw,some (.int off),some (.o om.length),some (.o (om.length+1)),some (.lst ((lOf kb).map (pW off))),y]),om++[.lst [],.lst (kb.map Wv.bl)]):=Yd (w:=.non) ((Xs (Zb rfl)).trans (by
  have e:(om++[Ob.lst ((lOf kb).map (pW off)),.lst (kb.map Wv.bl)])[om.length]?=some (.lst ((lOf kb).map (pW off))):=by simp
  simp[NC,Xj,e,List.set_append_right]))
 have b9:f2 kEq (fA (kN 1 (g_settled c)) (Ze (Za 0) Zm)) (Za 6) [some (.o ho),some (.o ht),some sw,some (.int off),some (.o om.length),some (.o (om.length+1)),some (.lst ((lOf kb).map (pW off))),y] (om++[.lst [],.lst (kb.map Wv.bl)])=some (.ok (.bl true),om++[.lst [],.lst (kb.map Wv.bl)]):=by
  refine (Zs ((ZG (Zd (Zb rfl) Zk)).trans ((Yj rfl).trans e3)) (Zb rfl)).trans ?_
  rw[hP]
  exact Ku (C4 _ _) (C4 _ _) (Pd _) false
 exact ⟨_,Zy ((Zg b1).trans ((Zg (ZI b2)).trans ((Zg b3).trans ((Zg (ZI b4)).trans ((Zg b5).trans ((Zg (ZI b6)).trans ((Zg b7).trans ((Zg b8).trans (Zr b9)))))))))⟩
end
open PySem L2
theorem Wd.else' {c:CA} {om:List Ob} {hb hm hu hl size off:Nat} {f:List (Option Int)} {kvs:List (List Key × Wv)} (W:Wd c om hb hm hu hl size off f kvs) {j:Nat} (h1:j≠hb) (h2:j≠hm) (h3:j≠hu) (h4:j≠hl) (x:Ob):Wd c (om.set j x) hb hm hu hl size off f kvs :=
 ⟨by rw[List.getElem?_set_ne h1]; exact W.b,by rw[List.getElem?_set_ne h2]; exact W.m,by rw[List.getElem?_set_ne h3]; exact W.u,by rw[List.getElem?_set_ne h4]; exact W.l,W.fit,W.few⟩
theorem Os.else' {c:CA} {om:List Ob} {ho hb hg off:Nat} {gs:Gs} (S:Os c om ho hb hg off gs) {j:Nat} (h1:j≠ho) (h2:j≠hg) (x:Ob):Os c (om.set j x) ho hb hg off gs :=
 ⟨by rw[List.getElem?_set_ne h1]; exact S.o,by rw[List.getElem?_set_ne h2]; exact S.g⟩
theorem Hk (c:CA) (ns:List Int):∃om,Fa c [Z9 ns] []=some (.ok (.bl true),om):=by
 have hlim:=Z1
 obtain ⟨many,off,size,m1,m2,m3,m4,ef⟩:=GH c ns
 have el:=Gk c ns (m:=many) (by omega) []
 have es:=He c ns (m:=many) (by omega) []
 have L:=RP ns many
 generalize TQ ns many=rows at el L
 have hfl:(YD ns many).length=many:=Uv ..
 have hs7:∀k s,at' (YD ns many) k=some s->0<=s∧s<=7:=fun k s h=>by
  have hk:=UQ h
  unfold at' YD at h
  rw[Uv]at hk
  rw[List.getD_eq_getElem?_getD,List.getElem?_map,List.getElem?_range hk]at h
  exact JP h
 generalize YD ns many=f at es hfl hs7
 have hf7:f.length<=7:=by omega
 have L':Lk f.length rows:=by rw[hfl]; exact L
 have G1:=Pg 17 ns L' (by omega)
 have G2:=Pg 10 ns L' (by omega)
 have a1:ZM 1 (fA (kN 1 (g__law_frame c)) (Ze (Za 0) Zm)) [some (Z9 ns),none,none,none,none,none,none,none] []=some (.ok (.nx,[some (Z9 ns),some (Yg many off size),none,none,none,none,none,none]),[]):=ZD (i:=1) ((ZG (Zd (Zb rfl) Zk)).trans ((Yj rfl).trans (ef _)))
 have a2:ZM 2 (fA (kN 2 (Wk c)) (Ze (Za 0) (Ze (f2 kIx (Za 1) (fC (.int 0))) Zm))) [some (Z9 ns),some (Yg many off size),none,none,none,none,none,none] []=some (.ok (.nx,[some (Z9 ns),some (Yg many off size),some (.lst (rows.map YJ)),none,none,none,none,none]),[]):=ZD (i:=2) ((ZG (Zd (Zb rfl) (Zd (CT rfl) Zk))).trans ((Yj rfl).trans el))
 have a3:ZM 3 (fA (kN 2 (Wl c)) (Ze (Za 0) (Ze (f2 kIx (Za 1) (fC (.int 0))) Zm))) [some (Z9 ns),some (Yg many off size),some (.lst (rows.map YJ)),none,none,none,none,none] []=some (.ok (.nx,[some (Z9 ns),some (Yg many off size),some (.lst (rows.map YJ)),some (.lst (f.map Zv)),none,none,none,none]),[]):=ZD (i:=3) ((ZG (Zd (Zb rfl) (Zd (CT rfl) Zk))).trans ((Yj rfl).trans es))
 have a4:ZM 4 (Yn YI [0,2,3] (fun sl=>bnd ((f2 kIx (Za 1) (fC (.int 0))) sl) Yl) XE (Lx c)) [some (Z9 ns),some (Yg many off size),some (.lst (rows.map YJ)),some (.lst (f.map Zv)),none,none,none,none] []=some (.ok (.nx,[some (Z9 ns),some (Yg many off size),some (.lst (rows.map YJ)),some (.lst (f.map Zv)),some (.o 0),none,none,none]),[.lst ((XQ 17 ns rows f).map odW)]):=by
  have hk2:∀k,k < many->k < f.length:=fun k h=>by omega
  have hn6:f.length<=60:=by omega
  have cr:=Uc (cT:=XE) (f:=Lx c) (mk:=fun w=>Y9 [0,2,3] w [some (Z9 ns),some (Yg many off size),some (.lst (rows.map YJ)),some (.lst (f.map Zv)),none,none,none,none]) (om:=[]) (n:=many) (fun _=>true) (fun k=>odW (WA (ns.getD (17+k) 0) k rows f)) (fun k hk=>rfl) (fun k hk _=>(ZG (Zd (Qy c (ns:=ns) (k:=17+k) (i:=1) rfl ((NK (a:=k) (Zb (i:=0) rfl)).trans (by simp))) (Zd (Zb (i:=0) rfl) (Zd (Zb (i:=2) rfl) (Zd (Zb (i:=3) rfl) Zk))))).trans ((Yj rfl).trans (SM c _ L' (hk2 k hk) hn6 [])))
  refine ZD (i:=4) ((X7 (ws:=Xm many) (om1:=[]) (Bx rfl m2) (by rw[WR]; omega) cr).trans ?_)
  have e:((List.range many).filter fun _=>true).map (fun k=>odW (WA (ns.getD (17+k) 0) k rows f))=(XQ 17 ns rows f).map odW:=by
   rw[List.filter_eq_self.mpr (fun _ _=>rfl)]
   unfold XQ
   rw[List.map_map,hfl]
   rfl
  rw[e]
  unfold YI
  rw[if_pos (by rw[List.length_map]; simp[XQ]; omega)]
  rfl
 generalize XQ 17 ns rows f=t1 at G1 a4
 have eo:=LS c ns L' (by omega) [.lst (t1.map odW)]
 have a5:ZM 5 (fA (kN 3 (XV c)) (Ze (Za 0) (Ze (Za 2) (Ze (Za 3) Zm)))) [some (Z9 ns),some (Yg many off size),some (.lst (rows.map YJ)),some (.lst (f.map Zv)),some (.o 0),none,none,none] [.lst (t1.map odW)]=some (.ok (.nx,[some (Z9 ns),some (Yg many off size),some (.lst (rows.map YJ)),some (.lst (f.map Zv)),some (.o 0),some (.o 1),none,none]),[.lst (t1.map odW),.lst ((XQ 10 ns rows f).map odW)]):=ZD (i:=5) ((ZG (Zd (Zb rfl) (Zd (Zb rfl) (Zd (Zb rfl) Zk)))).trans ((Yj rfl).trans eo))
 generalize XQ 10 ns rows f=t2 at G2 a5
 clear eo
 obtain ⟨kvs,g1,eg,mo,u1⟩:=Fi (c:=c) (tw:=.o 0) L hfl m3 m4 m2 hs7 G1 [.lst (t1.map odW),.lst (t2.map odW)] (fun om' h=>by
  show (match om'[0]? with|some (.lst ws)=>some ws|_=>none)=_
  rw[h 0 (by simp)]
  rfl)
 generalize hX:([.lst (t1.map odW),.lst (t2.map odW)]:List Ob)++[X5 c size ([Ob.lst (t1.map odW),.lst (t2.map odW)].length+1),.dt kvs,Wh c [Ob.lst (t1.map odW),.lst (t2.map odW)].length ([Ob.lst (t1.map odW),.lst (t2.map odW)].length+3),.dk (Xu (Xl off f many)),Y6 c ([Ob.lst (t1.map odW),.lst (t2.map odW)].length+2) ([Ob.lst (t1.map odW),.lst (t2.map odW)].length+5),.dk (YK c off g1)]=X at eg
 have A1:Sit c X 6 4 2 5 3 7 size off f kvs g1 rows t1:=⟨by subst hX; exact ⟨rfl,rfl,by rw[hfl]; rfl,rfl,by omega,m4⟩,by subst hX; exact ⟨rfl,rfl⟩,G1,u1,hs7⟩
 have x0:X[0]?=some (.lst (t1.map odW)):=by subst hX; rfl
 have x1:X[1]?=some (.lst (t2.map odW)):=by subst hX; rfl
 have hXl:X.length=8:=by subst hX; rfl
 have a6:ZM 6 (fA (kN 4 (g__law_given c)) (Ze (Za 1) (Ze (Za 2) (Ze (Za 3) (Ze (Za 4) Zm))))) [some (Z9 ns),some (Yg many off size),some (.lst (rows.map YJ)),some (.lst (f.map Zv)),some (.o 0),some (.o 1),none,none] [.lst (t1.map odW),.lst (t2.map odW)]=some (.ok (.nx,[some (Z9 ns),some (Yg many off size),some (.lst (rows.map YJ)),some (.lst (f.map Zv)),some (.o 0),some (.o 1),some (.o 6),none]),X):=ZD (i:=6) ((ZG (Zd (Zb rfl) (Zd (Zb rfl) (Zd (Zb rfl) (Zd (Zb rfl) Zk))))).trans ((Yj rfl).trans eg))
 generalize hsl:([some (Z9 ns),some (Yg many off size),some (.lst (rows.map YJ)),some (.lst (f.map Zv)),some (.o 0),some (.o 1),some (.o 6),none]:Sl)=sl at a6
 have v1:sl[1]?=some (some (Yg many off size)):=by rw[← hsl]; rfl
 have v3:sl[3]?=some (some (.lst (f.map Zv))):=by rw[← hsl]; rfl
 have v4:sl[4]?=some (some (.o 0)):=by rw[← hsl]; rfl
 have v5:sl[5]?=some (some (.o 1)):=by rw[← hsl]; rfl
 have v6:sl[6]?=some (some (.o 6)):=by rw[← hsl]; rfl
 have v7:sl=sl.set 7 none:=by rw[← hsl]; rfl
 have hl8:sl.length=8:=by rw[← hsl]; rfl
 have w7:∀x,(sl.set 7 x)[7]?=some x:=fun x=>by rw[← hsl]; rfl
 have wn:∀(x:Option Wv) (j:Nat),j≠7->(sl.set 7 x)[j]?=sl[j]?:=fun x j hj=>by rw[List.getElem?_set_ne (Ne.symm hj)]
 have hp:∀{sl:Sl} {om l:List Ob} {i h:Nat},sl[1]?=some (some (Yg many off size))->sl[3]?=some (some (.lst (f.map Zv)))->sl[i]?=some (some (.o h))->sl[6]?=some (some (.o 6))->g__law_right c [.o 6,.o h,.lst (f.map Zv),.int off] om=some (.ok (.bl true),om++l)->fA (kN 4 (g__law_right c)) (Ze (Za 6) (Ze (Za i) (Ze (Za 3) (Ze (f2 kIx (Za 1) (fC (.int 1))) Zm)))) sl om=some (.ok (.bl true),om++l):=fun h1 h3 h4 h6 e =>
  (ZG (Zd (Zb h6) (Zd (Zb h4) (Zd (Zb h3) (Zd (CF h1) Zk))))).trans ((Yj rfl).trans e)
 obtain ⟨l1,r1⟩:=Qx A1 hf7 x0
 have a7:sIf (Ws (YG (fA (kN 4 (g__law_right c)) (Ze (Za 6) (Ze (Za 4) (Ze (Za 3) (Ze (f2 kIx (Za 1) (fC (.int 1))) Zm))))))) (ZS (fC (.bl false))) Yr sl X=some (.ok (.nx,sl),X++l1):=ZI (Wj (b:=true) (YE (hp v1 v3 v4 v6 r1)))
 have A1':=A1.grow l1
 have y1:(X++l1)[1]?=some (.lst (t2.map odW)):=by rw[List.getElem?_append_left (by omega)]; exact x1
 generalize X++l1=Y at A1' a7 y1
 obtain ⟨g2,z,e8,u2⟩:=Pz (tw:=.o 1) (B:=HZ c) (i:=7) (sl:=sl) A1'.W A1'.S (by decide) mo G2 u1 G1.same (fun om' h=>by
  show (match om'[1]? with|some (.lst ws)=>some ws|_=>none)=_
  rw[h 1 (by decide),y1]) (fun k om1 om2 e _=>Yd ((ZG (Zd (Zb ((wn _ 6 (by decide)).trans v6)) (Zd (CF ((wn _ 1 (by decide)).trans v1)) (Zd (Zb ((wn _ 5 (by decide)).trans v5)) (Zd (Zb (w7 _)) Zk))))).trans ((Yj rfl).trans e)))
 rw[hfl]at e8
 have a8:=Yx (sl1:=[]) (fi:=fun sl=>bnd ((f2 kIx (Za 1) (fC (.int 0))) sl) Yl) (sl:=sl) (Bx v1 m2) e8
 have A2:Sit c (Y.set 7 (.dk (YK c off g2))) 6 4 2 5 3 7 size off f kvs g2 rows t2:=⟨A1'.W.set A1'.S.g (by decide),A1'.S.at g2,G2,u2,hs7⟩
 have y2:(Y.set 7 (.dk (YK c off g2)))[1]?=some (.lst (t2.map odW)):=by rw[List.getElem?_set_ne (by decide)]; exact y1
 generalize Y.set 7 (.dk (YK c off g2))=Z at A2 a8 y2
 obtain ⟨l2,r2⟩:=Qx A2 hf7 y2
 have a9:sIf (Ws (YG (fA (kN 4 (g__law_right c)) (Ze (Za 6) (Ze (Za 5) (Ze (Za 3) (Ze (f2 kIx (Za 1) (fC (.int 1))) Zm))))))) (ZS (fC (.bl false))) Yr (sl.set 7 z) Z=some (.ok (.nx,sl.set 7 z),Z++l2):=ZI (Wj (b:=true) (YE (hp ((wn _ 1 (by decide)).trans v1) ((wn _ 3 (by decide)).trans v3) ((wn _ 5 (by decide)).trans v5) ((wn _ 6 (by decide)).trans v6) r2)))
 have A3:=A2.grow l2
 have y3:(Z++l2)[1]?=some (.lst (t2.map odW)):=by
  have:1 < Z.length:=by
   by_cases h:1 < Z.length
   ·exact h
   ·rw[List.getElem?_eq_none (by omega)]at y2; cases y2
  rw[List.getElem?_append_left this]; exact y2
 generalize Z++l2=st at A3 a9 y3
 have htl:t2.length=f.length:=G2.len
 have lp:=IZ (S:=Hy c) (i:=7) (om:=st) (sl:=sl) (r:=.bl true) (l:=Xm many) z (fun w hw=>by
  obtain ⟨k,hk,rfl⟩:=List.mem_map.mp hw
  have hk:k < many:=List.mem_range.mp hk
  have hkf:k < f.length:=by omega
  have hkt:k < t2.length:=by omega
  have u1':=(wn (some (.int (k:Nat))) 1 (by decide)).trans v1
  have u3:=(wn (some (.int (k:Nat))) 3 (by decide)).trans v3
  have u5:=(wn (some (.int (k:Nat))) 5 (by decide)).trans v5
  have u6:=(wn (some (.int (k:Nat))) 6 (by decide)).trans v6
  have u7:=w7 (some (.int (k:Nat)))
  have hq:Yq st (.o 1)=some (t2.map odW):=by simp[Yq,y3]
  have ek:f2 kIx (Za 5) (Za 7) (sl.set 7 (some (.int (k:Nat)))) st=some (.ok (odW (at' t2 k)),st):=(v2 u5 u7).trans (YW (xs:=t2) hq hkt none)
  have c1:fB (f1 Xv (f2 kIx (Za 5) (Za 7))) (sl.set 7 (some (.int (k:Nat)))) st=some (.ok (at' t2 k).isSome,st):=ZP ((Xs ek).trans (KD _ _))
  match ho2:at' t2 k with
  |none =>
   rw[ho2]at c1
   exact .inl (ZI (Nl c1))
  |some o =>
   rw[ho2]at c1 ek
   have c2:fB (f2 kEq (f2 kIx (f2 kIx (Za 5) (Za 7)) (fC (.int 0))) (fC (.str "move"))) (sl.set 7 (some (.int (k:Nat)))) st=some (.ok (decide (odN o="move")),st):=ZP ((Zs ((Zs ek Zp).trans (LQ o _)) Zp).trans (Up _ _ (Uo o) XG _))
   match o,ho2 with
   |.stand,_=>exact .inl (ZI ((So c1).trans c2))
   |.help _ _,_=>exact .inl (ZI ((So c1).trans c2))
   |.move g,ho2 =>
    refine .inr ?_
    have hsome:(at' f k).isSome=true:=by rw[← G2.same k,ho2]; rfl
    obtain ⟨s,hs⟩:=Option.isSome_iff_exists.mp hsome
    have G3:=G2.stand hkf hsome
    have t3:Tell (V5 g2 k .stand) (at' (t2.set k (some .stand))):=by rw[← BB hkt]; exact u2.put k .stand
    have hgl:=u2.len G2.same.lt
    have e2:(t2.map odW).set k (.tup [.str "stand"])=(t2.set k (some .stand)).map odW:=by rw[List.map_set]; rfl
    have h1l:1 < st.length:=by
     by_cases h:1 < st.length
     ·exact h
     ·rw[List.getElem?_eq_none (by omega)]at y3; cases y3
    have W3:=A3.W.else' (j:=1) (by decide) (by decide) (by decide) (by decide) (.lst ((t2.set k (some .stand)).map odW))
    have S3:=A3.S.else' (j:=1) (by decide) (by decide) (.lst ((t2.set k (some .stand)).map odW))
    have z3:(st.set 1 (.lst ((t2.set k (some .stand)).map odW)))[1]?=some (.lst ((t2.set k (some .stand)).map odW)):=by rw[List.getElem?_set_self h1l]
    have b1:WM (fA XA (Ze (fC (.str "stand")) Zm)) (Za 5) (Za 7) (sl.set 7 (some (.int (k:Nat)))) st=some (.ok (.nx,sl.set 7 (some (.int (k:Nat)))),st.set 1 (.lst ((t2.set k (some .stand)).map odW))):=by
     unfold WM
     rw[Zo ((ZG (Zd Zp Zk)).trans (Xx (by simp))),Zo (Zb u5),Zo (Zb u7)]
     refine (Zo (a:=()) (om1:=st.set 1 (.lst ((t2.set k (some .stand)).map odW))) ?_).trans rfl
     have l1:Xj st (.o 1)=some (1,t2.map odW):=by simp[Xj,y3]
     have l2:ixN (t2.map odW).length (k:Int)=some k:=by
      rw[List.length_map]
      unfold ixN
      rw[if_pos (by omega),if_pos (by omega),Int.toNat_natCast]
     unfold Tx
     rw[l1]
     show (match ixN (t2.map odW).length (k:Int) with|some j=>some (Except.ok (),st.set 1 (.lst ((t2.map odW).set j (.tup [.str "stand"]))))|none=>none)=_
     rw[l2]
     show some (Except.ok (),st.set 1 (.lst ((t2.map odW).set k (.tup [.str "stand"]))))=_
     rw[e2]
    generalize st.set 1 (.lst ((t2.set k (some .stand)).map odW))=st3 at W3 S3 z3 b1
    have b2:Z8 (ZB c.Orders "stand" 2 (Xq c) (Za 6) (Ze (f2 Xy (f2 kIx (Za 1) (fC (.int 1))) (Za 7)) Zm)) (sl.set 7 (some (.int (k:Nat)))) st3=some (.ok (.nx,sl.set 7 (some (.int (k:Nat)))),st3.set 7 (.dk (YK c off (V5 g2 k .stand)))) :=
     Yd ((ZJ (Zb u6) (ZK S3.o) (Z4 _ _ _ (by decide) (by decide)) (Zd ((Zs (CF u1') (Zb u7)).trans rfl) Zk) rfl).trans (N8 W3 S3 hs (by omega)))
    have A4:Sit c (st3.set 7 (.dk (YK c off (V5 g2 k .stand)))) 6 4 2 5 3 7 size off f kvs (V5 g2 k .stand) rows (t2.set k (some .stand)):=⟨W3.set S3.g (by decide),S3.at _,G3,t3,hs7⟩
    have z4:(st3.set 7 (.dk (YK c off (V5 g2 k .stand))))[1]?=some (.lst ((t2.set k (some .stand)).map odW)):=by rw[List.getElem?_set_ne (by decide)]; exact z3
    obtain ⟨l4,r4⟩:=Qx A4 hf7 z4
    exact ⟨_,_,(Yo ((So c1).trans c2)).trans ((Zg b1).trans ((Zg b2).trans (Zr (hp u1' u3 u5 u6 r4))))⟩)
 have rg:=Bx (sl:=sl.set 7 z) (om:=st) ((wn z 1 (by decide)).trans v1) m2
 rcases lp with ⟨y,e⟩|⟨sl2,om2,e⟩
 ·have a10:=Yx (sl1:=[]) (fi:=fun sl=>bnd ((f2 kIx (Za 1) (fC (.int 0))) sl) Yl) rg e
  exact ⟨_,Zy ((Zg a1).trans ((Zg a2).trans ((Zg a3).trans ((Zg a4).trans ((Zg a5).trans ((Zg a6).trans ((Zg a7).trans ((Zg a8).trans ((Zg a9).trans ((Zg a10).trans (Zr Zp)))))))))))⟩
 ·have a10:=Yx (sl1:=[]) (fi:=fun sl=>bnd ((f2 kIx (Za 1) (fC (.int 0))) sl) Yl) rg e
  exact ⟨_,Zy ((Zg a1).trans ((Zg a2).trans ((Zg a3).trans ((Zg a4).trans ((Zg a5).trans ((Zg a6).trans ((Zg a7).trans ((Zg a8).trans ((Zg a9).trans (ZT a10))))))))))⟩
open PySem L2 PyProof.Rows
theorem G5:bootBuiltins "int"=some (.type "int"):=by decide +kernel
theorem JB:bootBuiltins "bool"=some (.type "bool"):=by decide +kernel
theorem Il:bootBuiltins "list"=some (.type "list"):=by decide +kernel
theorem N7:bootBuiltins "any"=some (.builtin "any"):=by decide +kernel
theorem BW:FnScope ["script","k"] ["script","k"] (Zi J6):=⟨rfl,rfl,rfl,by decide +kernel,rfl,by decide +kernel,by decide +kernel⟩
theorem BU:FnScope ["script","many"] ["script"] (Zi Iz):=⟨rfl,rfl,rfl,by decide +kernel,rfl,by decide +kernel,by decide +kernel⟩
theorem Ap:FnScope ["script","many","bits","links","a","b"] ["script","many"] (Zi Io):=⟨rfl,rfl,rfl,by decide +kernel,rfl,by decide +kernel,by decide +kernel⟩
theorem B3:FnScope ["script","many","sides","k","cell"] ["script","many"] (Zi J5):=⟨rfl,rfl,rfl,by decide +kernel,rfl,by decide +kernel,by decide +kernel⟩
theorem BR:FnScope ["cell","k","links","sides","near","goal","able"] ["cell","k","links","sides"] (Zi Jj):=⟨rfl,rfl,rfl,by decide +kernel,rfl,by decide +kernel,by decide +kernel⟩
theorem En:FnScope ["script","links","sides"] ["script","links","sides"] (Zi JZ):=⟨rfl,rfl,rfl,by decide +kernel,rfl,by decide +kernel,by decide +kernel⟩
theorem BV:FnScope ["self","size"] ["self","size"] (Zi JC):=⟨rfl,rfl,rfl,by decide +kernel,rfl,by decide +kernel,by decide +kernel⟩
theorem B7:FnScope ["self","at"] ["self","at"] (Zi JF):=⟨rfl,rfl,rfl,by decide +kernel,rfl,by decide +kernel,by decide +kernel⟩
theorem AI:FnScope ["self","a","b"] ["self","a","b"] (Zi J1):=⟨rfl,rfl,rfl,by decide +kernel,rfl,by decide +kernel,by decide +kernel⟩
theorem A7:FnScope ["frame","links","chart","a","b"] ["frame","links"] (Zi Iy):=⟨rfl,rfl,rfl,by decide +kernel,rfl,by decide +kernel,by decide +kernel⟩
theorem Dm:FnScope ["self","chart"] ["self","chart"] (Zi Pe):=⟨rfl,rfl,rfl,by decide +kernel,rfl,by decide +kernel,by decide +kernel⟩
theorem Do:FnScope ["self","at","side"] ["self","at","side"] (Zi P1):=⟨rfl,rfl,rfl,by decide +kernel,rfl,by decide +kernel,by decide +kernel⟩
theorem E5:FnScope ["frame","links","sides","board","k"] ["frame","links","sides"] (Zi Pk):=⟨rfl,rfl,rfl,by decide +kernel,rfl,by decide +kernel,by decide +kernel⟩
theorem Ca:FnScope ["self","board"] ["self","board"] (Zi Pp):=⟨rfl,rfl,rfl,by decide +kernel,rfl,by decide +kernel,by decide +kernel⟩
theorem DN:FnScope ["self","at"] ["self","at"] (Zi Ps):=⟨rfl,rfl,rfl,by decide +kernel,rfl,by decide +kernel,by decide +kernel⟩
theorem DH:FnScope ["self","at"] ["self","at"] (Zi P5):=⟨rfl,rfl,rfl,by decide +kernel,rfl,by decide +kernel,by decide +kernel⟩
theorem Dv:FnScope ["self","at"] ["self","at"] (Zi OI):=⟨rfl,rfl,rfl,by decide +kernel,rfl,by decide +kernel,by decide +kernel⟩
theorem DC:FnScope ["self","places","units","at"] ["self","places","units"] (Zi Op):=⟨rfl,rfl,rfl,by decide +kernel,rfl,by decide +kernel,by decide +kernel⟩
theorem D5:FnScope ["self","a","b"] ["self","a","b"] (Zi Q8):=⟨rfl,rfl,rfl,by decide +kernel,rfl,by decide +kernel,by decide +kernel⟩
theorem DX:FnScope ["self","at","goal"] ["self","at","goal"] (Zi PM):=⟨rfl,rfl,rfl,by decide +kernel,rfl,by decide +kernel,by decide +kernel⟩
theorem Dj:FnScope ["self","at","goal"] ["self","at","goal"] (Zi OJ):=⟨rfl,rfl,rfl,by decide +kernel,rfl,by decide +kernel,by decide +kernel⟩
theorem DR:FnScope ["self","at","helped","goal"] ["self","at","helped","goal"] (Zi PO):=⟨rfl,rfl,rfl,by decide +kernel,rfl,by decide +kernel,by decide +kernel⟩
theorem DM:FnScope ["orders","off","told","k","order"] ["orders","off","told","k"] (Zi PY):=⟨rfl,rfl,rfl,by decide +kernel,rfl,by decide +kernel,by decide +kernel⟩
theorem E7:FnScope ["frame","links","sides","told","orders","k"] ["frame","links","sides","told"] (Zi Oj):=⟨rfl,rfl,rfl,by decide +kernel,rfl,by decide +kernel,by decide +kernel⟩
theorem DQ:FnScope ["self","at","order"] ["self","at"] (Zi Pc):=⟨rfl,rfl,rfl,by decide +kernel,rfl,by decide +kernel,by decide +kernel⟩
theorem Dz:FnScope ["self"] ["self"] (Zi Pu):=⟨rfl,rfl,rfl,by decide +kernel,rfl,by decide +kernel,by decide +kernel⟩
theorem DW:FnScope ["self"] ["self"] (Zi OC):=⟨rfl,rfl,rfl,by decide +kernel,rfl,by decide +kernel,by decide +kernel⟩
theorem DE:FnScope ["self","at"] ["self","at"] (Zi OH):=⟨rfl,rfl,rfl,by decide +kernel,rfl,by decide +kernel,by decide +kernel⟩
theorem D8:FnScope ["orders","at","order","own","comers"] ["orders","at"] (Zi Q5):=⟨rfl,rfl,rfl,by decide +kernel,rfl,by decide +kernel,by decide +kernel⟩
theorem Cc:FnScope ["orders","helped","goal"] ["orders","helped","goal"] (Zi Ov):=⟨rfl,rfl,rfl,by decide +kernel,rfl,by decide +kernel,by decide +kernel⟩
theorem Da:FnScope ["orders","at","order"] ["orders","at"] (Zi OG):=⟨rfl,rfl,rfl,by decide +kernel,rfl,by decide +kernel,by decide +kernel⟩
theorem D7:FnScope ["orders","helper","at","order"] ["orders","helper","at"] (Zi PU):=⟨rfl,rfl,rfl,by decide +kernel,rfl,by decide +kernel,by decide +kernel⟩
theorem De:FnScope ["orders","at"] ["orders","at"] (Zi Pf):=⟨rfl,rfl,rfl,by decide +kernel,rfl,by decide +kernel,by decide +kernel⟩
theorem D0:FnScope ["orders","at"] ["orders","at"] (Zi Oa):=⟨rfl,rfl,rfl,by decide +kernel,rfl,by decide +kernel,by decide +kernel⟩
theorem DF:FnScope ["orders","forces","at"] ["orders"] (Zi Oc):=⟨rfl,rfl,rfl,by decide +kernel,rfl,by decide +kernel,by decide +kernel⟩
theorem Du:FnScope ["orders","forces","at","goal","rivals"] ["orders","forces","at"] (Zi Oy):=⟨rfl,rfl,rfl,by decide +kernel,rfl,by decide +kernel,by decide +kernel⟩
theorem DK:FnScope ["orders","at","side"] ["orders","at","side"] (Zi Pb):=⟨rfl,rfl,rfl,by decide +kernel,rfl,by decide +kernel,by decide +kernel⟩
theorem DU:FnScope ["orders","at","goal","strength","side"] ["orders","at","goal","strength"] (Zi PH):=⟨rfl,rfl,rfl,by decide +kernel,rfl,by decide +kernel,by decide +kernel⟩
theorem Db:FnScope ["orders","at"] ["orders","at"] (Zi Py):=⟨rfl,rfl,rfl,by decide +kernel,rfl,by decide +kernel,by decide +kernel⟩
theorem Dl:FnScope ["orders","forces","at","goal"] ["orders","forces","at"] (Zi Pi):=⟨rfl,rfl,rfl,by decide +kernel,rfl,by decide +kernel,by decide +kernel⟩
theorem DB:FnScope ["orders","forces","found","at"] ["orders"] (Zi Q9):=⟨rfl,rfl,rfl,by decide +kernel,rfl,by decide +kernel,by decide +kernel⟩
theorem E4:FnScope ["orders","found","at","places"] ["orders","found","at","places"] (Zi P4):=⟨rfl,rfl,rfl,by decide +kernel,rfl,by decide +kernel,by decide +kernel⟩
theorem Cb:FnScope ["orders","found","left","struck","count","faults","fallen"] ["orders"] (Zi Om):=⟨rfl,rfl,rfl,by decide +kernel,rfl,by decide +kernel,by decide +kernel⟩
theorem Ky:FnScope ["orders","struck"] ["orders"] (Zi Q3):=⟨rfl,rfl,rfl,by decide +kernel,rfl,by decide +kernel,by decide +kernel⟩
theorem Dh:FnScope ["found"] ["found"] (Zi Oi):=⟨rfl,rfl,rfl,by decide +kernel,rfl,by decide +kernel,by decide +kernel⟩
theorem DZ:FnScope ["found","k"] ["found"] (Zi Of):=⟨rfl,rfl,rfl,by decide +kernel,rfl,by decide +kernel,by decide +kernel⟩
theorem E9:FnScope ["told","sides","k","m"] ["told","sides","k"] (Zi Po):=⟨rfl,rfl,rfl,by decide +kernel,rfl,by decide +kernel,by decide +kernel⟩
theorem D9:FnScope ["told","sides","k","other"] ["told","sides","k"] (Zi P9):=⟨rfl,rfl,rfl,by decide +kernel,rfl,by decide +kernel,by decide +kernel⟩
theorem D2:FnScope ["told","sides","k","goal","side","total","h"] ["told","sides","k","goal","side"] (Zi PZ):=⟨rfl,rfl,rfl,by decide +kernel,rfl,by decide +kernel,by decide +kernel⟩
theorem E8:FnScope ["told","sides","k"] ["told","sides","k"] (Zi Q6):=⟨rfl,rfl,rfl,by decide +kernel,rfl,by decide +kernel,by decide +kernel⟩
theorem Di:FnScope ["told","sides","k","kept","goal","mine","m","against"] ["told","sides","k","kept"] (Zi OE):=⟨rfl,rfl,rfl,by decide +kernel,rfl,by decide +kernel,by decide +kernel⟩
theorem DJ:FnScope ["told","sides","off","rows","kept","count","bad","k"] ["told","sides","off","rows"] (Zi P7):=⟨rfl,rfl,rfl,by decide +kernel,rfl,by decide +kernel,by decide +kernel⟩
theorem Dy:FnScope ["orders","told","sides","off","found","kept","due","k"] ["orders","told","sides","off"] (Zi PL):=⟨rfl,rfl,rfl,by decide +kernel,rfl,by decide +kernel,by decide +kernel⟩
theorem Dw:FnScope ["script","frame","links","sides","first","told","orders","k"] ["script"] (Zi Pj):=⟨rfl,rfl,rfl,by decide +kernel,rfl,by decide +kernel,by decide +kernel⟩
structure Ad where
 f_0:Addr
 d_0:FuncData
 f_1:Addr
 d_1:FuncData
 f_2:Addr
 d_2:FuncData
 f_3:Addr
 d_3:FuncData
 f_4:Addr
 d_4:FuncData
 f_5:Addr
 d_5:FuncData
 f_6:Addr
 d_6:FuncData
 f_7:Addr
 d_7:FuncData
 f_8:Addr
 d_8:FuncData
 f_9:Addr
 d_9:FuncData
 f_10:Addr
 d_10:FuncData
 f_11:Addr
 d_11:FuncData
 f_12:Addr
 d_12:FuncData
 f_13:Addr
 d_13:FuncData
 f_14:Addr
 d_14:FuncData
 f_15:Addr
 d_15:FuncData
 f_16:Addr
 d_16:FuncData
 f_17:Addr
 d_17:FuncData
 f_18:Addr
 d_18:FuncData
 f_19:Addr
 d_19:FuncData
 f_20:Addr
 d_20:FuncData
 f_21:Addr
 d_21:FuncData
 f_22:Addr
 d_22:FuncData
 f_23:Addr
 d_23:FuncData
 f_24:Addr
 d_24:FuncData
 f_25:Addr
 d_25:FuncData
 f_26:Addr
 d_26:FuncData
 f_27:Addr
 d_27:FuncData
 f_28:Addr
 d_28:FuncData
 f_29:Addr
 d_29:FuncData
 f_30:Addr
 d_30:FuncData
 f_31:Addr
 d_31:FuncData
 f_32:Addr
 d_32:FuncData
 f_33:Addr
 d_33:FuncData
 f_34:Addr
 d_34:FuncData
 f_35:Addr
 d_35:FuncData
 f_36:Addr
 d_36:FuncData
 f_37:Addr
 d_37:FuncData
 f_38:Addr
 d_38:FuncData
 f_39:Addr
 d_39:FuncData
 f_40:Addr
 d_40:FuncData
 f_41:Addr
 d_41:FuncData
 f_42:Addr
 d_42:FuncData
 f_43:Addr
 d_43:FuncData
 f_44:Addr
 d_44:FuncData
 f_45:Addr
 d_45:FuncData
 f_46:Addr
 d_46:FuncData
 f_47:Addr
 d_47:FuncData
 f_48:Addr
 d_48:FuncData
 f_49:Addr
 d_49:FuncData
 f_50:Addr
 d_50:FuncData
 f_51:Addr
 d_51:FuncData
 f_52:Addr
 d_52:FuncData
 f_53:Addr
 d_53:FuncData
structure All (K:W.Frag) (mg:Str->Option Value) (c:CA) (a:Ad):Prop where
 cl_Board:Cls K c.Board
 cl_Map:Cls K c.Map
 cl_Orders:Cls K c.Orders
 na_Board_chart:NoAttr K c.Board "chart"
 na_Board_units:NoAttr K c.Board "units"
 na_Map_links:NoAttr K c.Map "links"
 na_Map_size:NoAttr K c.Map "size"
 na_Orders_board:NoAttr K c.Orders "board"
 na_Orders_given:NoAttr K c.Orders "given"
 mk_Board:Mk K c.Board a.f_10
 mk_Map:Mk K c.Map a.f_6
 mk_Orders:Mk K c.Orders a.f_13
 c_Board:mg "Board"=some (.ref c.Board)
 c_Crowded:mg "Crowded"=some (.ref c.Crowded)
 c_FACED:∃t,mg "FACED"=some (.int 2 t)
 c_FREE:∃t,mg "FREE"=some (.int 0 t)
 c_HELD:∃t,mg "HELD"=some (.int 3 t)
 c_LAST_SIDE:∃t,mg "LAST_SIDE"=some (.int 7 t)
 c_Map:mg "Map"=some (.ref c.Map)
 c_NoPlace:mg "NoPlace"=some (.ref c.NoPlace)
 c_NoSide:mg "NoSide"=some (.ref c.NoSide)
 c_NoUnit:mg "NoUnit"=some (.ref c.NoUnit)
 c_Orders:mg "Orders"=some (.ref c.Orders)
 c_OutOfReach:mg "OutOfReach"=some (.ref c.OutOfReach)
 c_RIVAL:∃t,mg "RIVAL"=some (.int 1 t)
 c_STAND:mg "STAND"=some (.ref c.STAND)
 gt_STAND:GTup K c.STAND
 x_Crowded:W.excIn K c.Crowded [.type "ValueError",.type "Exception",.type "BaseException",.type "object"] "ValueError.__new__"=true
 x_NoPlace:W.excIn K c.NoPlace [.type "ValueError",.type "Exception",.type "BaseException",.type "object"] "ValueError.__new__"=true
 x_NoSide:W.excIn K c.NoSide [.type "ValueError",.type "Exception",.type "BaseException",.type "object"] "ValueError.__new__"=true
 x_NoUnit:W.excIn K c.NoUnit [.type "ValueError",.type "Exception",.type "BaseException",.type "object"] "ValueError.__new__"=true
 x_OutOfReach:W.excIn K c.OutOfReach [.type "ValueError",.type "Exception",.type "BaseException",.type "object"] "ValueError.__new__"=true
 z_any:mg "any"=none
 z_bool:mg "bool"=none
 z_int:mg "int"=none
 z_isinstance:mg "isinstance"=none
 z_len:mg "len"=none
 z_list:mg "list"=none
 z_range:mg "range"=none
 z_sorted:mg "sorted"=none
 i_bool:KIsi K .bl
 i_int:KIsi K .int
 i_list:KIsi K .lst
 F_0:Fun K "_law_cell_at" "_law_cell_at" J6 a.f_0 a.d_0
 b_0:Binds K a.d_0 ["script","k"] []
 g__law_cell_at:mg "_law_cell_at"=some (.ref a.f_0)
 k_0:W.keepIn K (.ref a.f_0)=true
 F_1:Fun K "_law_frame" "_law_frame" Iz a.f_1 a.d_1
 b_1:Binds K a.d_1 ["script"] []
 g__law_frame:mg "_law_frame"=some (.ref a.f_1)
 k_1:W.keepIn K (.ref a.f_1)=true
 F_2:Fun K "_law_links" "_law_links" Io a.f_2 a.d_2
 b_2:Binds K a.d_2 ["script","many"] []
 g__law_links:mg "_law_links"=some (.ref a.f_2)
 k_2:W.keepIn K (.ref a.f_2)=true
 F_3:Fun K "_law_sides" "_law_sides" J5 a.f_3 a.d_3
 b_3:Binds K a.d_3 ["script","many"] []
 g__law_sides:mg "_law_sides"=some (.ref a.f_3)
 k_3:W.keepIn K (.ref a.f_3)=true
 F_4:Fun K "_law_order_by" "_law_order_by" Jj a.f_4 a.d_4
 b_4:Binds K a.d_4 ["cell","k","links","sides"] []
 g__law_order_by:mg "_law_order_by"=some (.ref a.f_4)
 k_4:W.keepIn K (.ref a.f_4)=true
 F_5:Fun K "_law_orders" "_law_orders" JZ a.f_5 a.d_5
 b_5:Binds K a.d_5 ["script","links","sides"] []
 g__law_orders:mg "_law_orders"=some (.ref a.f_5)
 k_5:W.keepIn K (.ref a.f_5)=true
 F_6:Fun K "__init__" "Map.__init__" JC a.f_6 a.d_6
 b_6:Binds K a.d_6 ["self","size"] []
 F_7:Fun K "need_place" "Map.need_place" JF a.f_7 a.d_7
 b_7:Binds K a.d_7 ["self","at"] []
 m_7:Meth K c.Map "need_place" a.f_7
 F_8:Fun K "link" "Map.link" J1 a.f_8 a.d_8
 b_8:Binds K a.d_8 ["self","a","b"] []
 m_8:Meth K c.Map "link" a.f_8
 F_9:Fun K "_law_chart" "_law_chart" Iy a.f_9 a.d_9
 b_9:Binds K a.d_9 ["frame","links"] []
 g__law_chart:mg "_law_chart"=some (.ref a.f_9)
 k_9:W.keepIn K (.ref a.f_9)=true
 F_10:Fun K "__init__" "Board.__init__" Pe a.f_10 a.d_10
 b_10:Binds K a.d_10 ["self","chart"] []
 F_11:Fun K "post" "Board.post" P1 a.f_11 a.d_11
 b_11:Binds K a.d_11 ["self","at","side"] []
 m_11:Meth K c.Board "post" a.f_11
 F_12:Fun K "_law_board" "_law_board" Pk a.f_12 a.d_12
 b_12:Binds K a.d_12 ["frame","links","sides"] []
 g__law_board:mg "_law_board"=some (.ref a.f_12)
 k_12:W.keepIn K (.ref a.f_12)=true
 F_13:Fun K "__init__" "Orders.__init__" Pp a.f_13 a.d_13
 b_13:Binds K a.d_13 ["self","board"] []
 F_14:Fun K "side_at" "Board.side_at" Ps a.f_14 a.d_14
 b_14:Binds K a.d_14 ["self","at"] []
 m_14:Meth K c.Board "side_at" a.f_14
 F_15:Fun K "need_unit" "Board.need_unit" P5 a.f_15 a.d_15
 b_15:Binds K a.d_15 ["self","at"] []
 m_15:Meth K c.Board "need_unit" a.f_15
 F_16:Fun K "stand" "Orders.stand" OI a.f_16 a.d_16
 b_16:Binds K a.d_16 ["self","at"] []
 m_16:Meth K c.Orders "stand" a.f_16
 F_17:Fun K "need_all" "Orders.need_all" Op a.f_17 a.d_17
 b_17:Binds K a.d_17 ["self","places","units"] []
 m_17:Meth K c.Orders "need_all" a.f_17
 F_18:Fun K "beside" "Map.beside" Q8 a.f_18 a.d_18
 b_18:Binds K a.d_18 ["self","a","b"] []
 m_18:Meth K c.Map "beside" a.f_18
 F_19:Fun K "need_beside" "Orders.need_beside" PM a.f_19 a.d_19
 b_19:Binds K a.d_19 ["self","at","goal"] []
 m_19:Meth K c.Orders "need_beside" a.f_19
 F_20:Fun K "move" "Orders.move" OJ a.f_20 a.d_20
 b_20:Binds K a.d_20 ["self","at","goal"] []
 m_20:Meth K c.Orders "move" a.f_20
 F_21:Fun K "aid" "Orders.aid" PO a.f_21 a.d_21
 b_21:Binds K a.d_21 ["self","at","helped","goal"] []
 m_21:Meth K c.Orders "aid" a.f_21
 F_22:Fun K "_law_give" "_law_give" PY a.f_22 a.d_22
 b_22:Binds K a.d_22 ["orders","off","told","k"] []
 g__law_give:mg "_law_give"=some (.ref a.f_22)
 k_22:W.keepIn K (.ref a.f_22)=true
 F_23:Fun K "_law_given" "_law_given" Oj a.f_23 a.d_23
 b_23:Binds K a.d_23 ["frame","links","sides","told"] []
 g__law_given:mg "_law_given"=some (.ref a.f_23)
 k_23:W.keepIn K (.ref a.f_23)=true
 F_24:Fun K "goal_of" "Orders.goal_of" Pc a.f_24 a.d_24
 b_24:Binds K a.d_24 ["self","at"] []
 m_24:Meth K c.Orders "goal_of" a.f_24
 F_25:Fun K "movers" "Orders.movers" Pu a.f_25 a.d_25
 b_25:Binds K a.d_25 ["self"] []
 m_25:Meth K c.Orders "movers" a.f_25
 F_26:Fun K "roll" "Board.roll" OC a.f_26 a.d_26
 b_26:Binds K a.d_26 ["self"] []
 m_26:Meth K c.Board "roll" a.f_26
 F_27:Fun K "told" "Orders.told" OH a.f_27 a.d_27
 b_27:Binds K a.d_27 ["self","at"] []
 m_27:Meth K c.Orders "told" a.f_27
 F_28:Fun K "is_cut" "is_cut" Q5 a.f_28 a.d_28
 b_28:Binds K a.d_28 ["orders","at"] []
 g_is_cut:mg "is_cut"=some (.ref a.f_28)
 k_28:W.keepIn K (.ref a.f_28)=true
 F_29:Fun K "fits" "fits" Ov a.f_29 a.d_29
 b_29:Binds K a.d_29 ["orders","helped","goal"] []
 g_fits:mg "fits"=some (.ref a.f_29)
 k_29:W.keepIn K (.ref a.f_29)=true
 F_30:Fun K "counts" "counts" OG a.f_30 a.d_30
 b_30:Binds K a.d_30 ["orders","at"] []
 g_counts:mg "counts"=some (.ref a.f_30)
 k_30:W.keepIn K (.ref a.f_30)=true
 F_31:Fun K "backs" "backs" PU a.f_31 a.d_31
 b_31:Binds K a.d_31 ["orders","helper","at"] []
 g_backs:mg "backs"=some (.ref a.f_31)
 k_31:W.keepIn K (.ref a.f_31)=true
 F_32:Fun K "backing" "backing" Pf a.f_32 a.d_32
 b_32:Binds K a.d_32 ["orders","at"] []
 g_backing:mg "backing"=some (.ref a.f_32)
 k_32:W.keepIn K (.ref a.f_32)=true
 F_33:Fun K "force" "force" Oa a.f_33 a.d_33
 b_33:Binds K a.d_33 ["orders","at"] []
 g_force:mg "force"=some (.ref a.f_33)
 k_33:W.keepIn K (.ref a.f_33)=true
 F_34:Fun K "weigh_movers" "weigh_movers" Oc a.f_34 a.d_34
 b_34:Binds K a.d_34 ["orders"] []
 g_weigh_movers:mg "weigh_movers"=some (.ref a.f_34)
 k_34:W.keepIn K (.ref a.f_34)=true
 F_35:Fun K "is_outdone" "is_outdone" Oy a.f_35 a.d_35
 b_35:Binds K a.d_35 ["orders","forces","at"] []
 g_is_outdone:mg "is_outdone"=some (.ref a.f_35)
 k_35:W.keepIn K (.ref a.f_35)=true
 F_36:Fun K "force_against" "force_against" Pb a.f_36 a.d_36
 b_36:Binds K a.d_36 ["orders","at","side"] []
 g_force_against:mg "force_against"=some (.ref a.f_36)
 k_36:W.keepIn K (.ref a.f_36)=true
 F_37:Fun K "overcomes" "overcomes" PH a.f_37 a.d_37
 b_37:Binds K a.d_37 ["orders","at","goal","strength"] []
 g_overcomes:mg "overcomes"=some (.ref a.f_37)
 k_37:W.keepIn K (.ref a.f_37)=true
 F_38:Fun K "firmness" "firmness" Py a.f_38 a.d_38
 b_38:Binds K a.d_38 ["orders","at"] []
 g_firmness:mg "firmness"=some (.ref a.f_38)
 k_38:W.keepIn K (.ref a.f_38)=true
 F_39:Fun K "hindrance" "hindrance" Pi a.f_39 a.d_39
 b_39:Binds K a.d_39 ["orders","forces","at"] []
 g_hindrance:mg "hindrance"=some (.ref a.f_39)
 k_39:W.keepIn K (.ref a.f_39)=true
 F_40:Fun K "hindrances" "hindrances" Q9 a.f_40 a.d_40
 b_40:Binds K a.d_40 ["orders"] []
 g_hindrances:mg "hindrances"=some (.ref a.f_40)
 k_40:W.keepIn K (.ref a.f_40)=true
 F_41:Fun K "fault" "fault" P4 a.f_41 a.d_41
 b_41:Binds K a.d_41 ["orders","found","at","places"] []
 g_fault:mg "fault"=some (.ref a.f_41)
 k_41:W.keepIn K (.ref a.f_41)=true
 F_42:Fun K "strikes" "strikes" Om a.f_42 a.d_42
 b_42:Binds K a.d_42 ["orders"] []
 g_strikes:mg "strikes"=some (.ref a.f_42)
 k_42:W.keepIn K (.ref a.f_42)=true
 F_43:Fun K "settled" "settled" Q3 a.f_43 a.d_43
 b_43:Binds K a.d_43 ["orders"] []
 g_settled:mg "settled"=some (.ref a.f_43)
 k_43:W.keepIn K (.ref a.f_43)=true
 F_44:Fun K "_law_whole" "_law_whole" Oi a.f_44 a.d_44
 b_44:Binds K a.d_44 ["found"] []
 g__law_whole:mg "_law_whole"=some (.ref a.f_44)
 k_44:W.keepIn K (.ref a.f_44)=true
 F_45:Fun K "_law_rising" "_law_rising" Of a.f_45 a.d_45
 b_45:Binds K a.d_45 ["found"] []
 g__law_rising:mg "_law_rising"=some (.ref a.f_45)
 k_45:W.keepIn K (.ref a.f_45)=true
 F_46:Fun K "_law_cut" "_law_cut" Po a.f_46 a.d_46
 b_46:Binds K a.d_46 ["told","sides","k"] []
 g__law_cut:mg "_law_cut"=some (.ref a.f_46)
 k_46:W.keepIn K (.ref a.f_46)=true
 F_47:Fun K "_law_counts" "_law_counts" P9 a.f_47 a.d_47
 b_47:Binds K a.d_47 ["told","sides","k"] []
 g__law_counts:mg "_law_counts"=some (.ref a.f_47)
 k_47:W.keepIn K (.ref a.f_47)=true
 F_48:Fun K "_law_strong" "_law_strong" PZ a.f_48 a.d_48
 b_48:Binds K a.d_48 ["told","sides","k","goal","side"] []
 g__law_strong:mg "_law_strong"=some (.ref a.f_48)
 k_48:W.keepIn K (.ref a.f_48)=true
 F_49:Fun K "_law_firm" "_law_firm" Q6 a.f_49 a.d_49
 b_49:Binds K a.d_49 ["told","sides","k"] []
 g__law_firm:mg "_law_firm"=some (.ref a.f_49)
 k_49:W.keepIn K (.ref a.f_49)=true
 F_50:Fun K "_law_flaw" "_law_flaw" OE a.f_50 a.d_50
 b_50:Binds K a.d_50 ["told","sides","k","kept"] []
 g__law_flaw:mg "_law_flaw"=some (.ref a.f_50)
 k_50:W.keepIn K (.ref a.f_50)=true
 F_51:Fun K "_law_walked" "_law_walked" P7 a.f_51 a.d_51
 b_51:Binds K a.d_51 ["told","sides","off","rows"] []
 g__law_walked:mg "_law_walked"=some (.ref a.f_51)
 k_51:W.keepIn K (.ref a.f_51)=true
 F_52:Fun K "_law_right" "_law_right" PL a.f_52 a.d_52
 b_52:Binds K a.d_52 ["orders","told","sides","off"] []
 g__law_right:mg "_law_right"=some (.ref a.f_52)
 k_52:W.keepIn K (.ref a.f_52)=true
 F_53:Fun K "law" "law" Pj a.f_53 a.d_53
 b_53:Binds K a.d_53 ["script"] []
 Fa:mg "law"=some (.ref a.f_53)
 k_53:W.keepIn K (.ref a.f_53)=true
section
variable {P:Program} {w:World} {K:W.Frag} {mg:Str->Option Value} {base:Heap} {c:CA} {a:Ad}
theorem YV (T:All K mg c a):FnOk P w K mg base (CXw P w) 1 a.f_0 a.d_0 ["script","k"] (spM 2 (g__law_cell_at c)):=by
 refine ZY T.F_0 BW fun cdv A outer s H E hr=>?_
 have Sc:=BW
 exact (Zh (Z0 (KF (Zf 1) (Xg rfl T.z_len (Zc (Zf 0) Zl))) (Zj (Zt (ZC (Zf 0) (Zf 1)))) ZF)
     (Zj (Zt Zn)))
theorem QI (T:All K mg c a):FnOk P w K mg base (CXw P w) 2 a.f_1 a.d_1 ["script"] (spM 1 (g__law_frame c)):=by
 have G_0:=YV (P:=P) (w:=w) (base:=base) T
 have b_0:=T.b_0
 refine ZY T.F_1 BU fun cdv A outer s H E hr=>?_
 have Sc:=BU
 exact (Zh (ZW (i:=1) Sc.nd rfl (Or.inl rfl) (YS Zn (XI (Zw G_0 (hr.mono (by decide)) rfl T.g__law_cell_at T.k_0 b_0 Zx (Zc (Zf 0) (Zc Zn Zl))) Zn)))
     (Zh (Z0 (YX hr.units (XI (V6 (Zw G_0 (hr.mono (by decide)) rfl T.g__law_cell_at T.k_0 b_0 Zx (Zc (Zf 0) (Zc Zn Zl))) Zn) Zn) Zn) (Zj (Zt (Xf (Zc (Zf 1) (Zc (XI (V6 (Zw G_0 (hr.mono (by decide)) rfl T.g__law_cell_at T.k_0 b_0 Zx (Zc (Zf 0) (Zc Zn Zl))) Zn) (LA Zn (Zf 1))) (Zc Zn Zl)))))) ZF)
     (Zj (Zt (Xf (Zc (Zf 1) (Zc Zn (Zc (Zf 1) Zl))))))))
theorem QL (T:All K mg c a):FnOk P w K mg base (CXw P w) 2 a.f_2 a.d_2 ["script","many"] (spM 2 (g__law_links c)):=by
 have G_0:=YV (P:=P) (w:=w) (base:=base) T
 have b_0:=T.b_0
 refine ZY T.F_2 Ap fun cdv A outer s H E hr=>?_
 have Sc:=Ap
 exact (Zh (ZW (i:=2) Sc.nd rfl (Or.inl rfl) (XI (Zw G_0 (hr.mono (by decide)) rfl T.g__law_cell_at T.k_0 b_0 Zx (Zc (Zf 0) (Zc Zn Zl))) Zn))
     (Zh (Z0 (YX hr.units (XI (Zw G_0 (hr.mono (by decide)) rfl T.g__law_cell_at T.k_0 b_0 Zx (Zc (Zf 0) (Zc Zn Zl))) Zn) Zn) (Zj (ZW (i:=2) Sc.nd rfl (Or.inl rfl) Zn)) ZF)
     (Zh (Y8 (j:=3) WC (Z3 (js:=[1]) (cn:=["many"]) (by with_unfolding_all rfl) (by decide +kernel) rfl (by decide +kernel) rfl (by with_unfolding_all rfl) rfl (by with_unfolding_all rfl) (by decide +kernel)) rfl (Z6 rfl T.z_range (Zf 1)) (fun _ _ _ _=>XF) (fun _ _ _ _=>(Bn WC (Zc XU Zl) (Zf 1))) Sc.nd rfl (Or.inl rfl) (by with_unfolding_all rfl))
     (Zh (Y7 PassesOwn.leaving rfl (Z6 rfl T.z_range (Zf 1)) (Ys (i:=4) Sc.nd rfl (Or.inl rfl)) (Z7 4) (Zj (Y7 PassesOwn.leaving rfl (Z6 rfl T.z_range (Zf 4)) (Ys (i:=5) Sc.nd rfl (Or.inl rfl)) (Z7 5) (Zh (Rc (TH hr.units (XI (Zf 2) Zn) Zn) (ZC (Zf 3) (Zf 4)) (Zf 5) (hg:=Qv (ZC (Zf 3) (Zf 4)) (Zf 5) V8))
     (Zh (Rc (TH hr.units (XI (Zf 2) Zn) Zn) (ZC (Zf 3) (Zf 5)) (Zf 4) (hg:=Qv (ZC (Zf 3) (Zf 5)) (Zf 4) V8))
     (Zj (ZW (i:=2) Sc.nd rfl (Or.inl rfl) (V6 (Zf 2) Zn))))))))
     (Zj (Zt (Zf 3)))))))
theorem R8 (T:All K mg c a):FnOk P w K mg base (CXw P w) 2 a.f_2 a.d_2 ["script","many"] (spM 2 (Wk c)):=FnOk.tidyG (QL T)
theorem QE (T:All K mg c a):FnOk P w K mg base (CXw P w) 2 a.f_3 a.d_3 ["script","many"] (spM 2 (g__law_sides c)):=by
 have G_0:=YV (P:=P) (w:=w) (base:=base) T
 have b_0:=T.b_0
 refine ZY T.F_3 B3 fun cdv A outer s H E hr=>?_
 have Sc:=B3
 exact (Zh (ZW (i:=2) Sc.nd rfl (Or.inl rfl) (K9 Zl))
     (Zh (Y7 PassesOwn.leaving rfl (Z6 rfl T.z_range (Zf 1)) (Ys (i:=3) Sc.nd rfl (Or.inl rfl)) (Z7 3) (Zh (ZW (i:=4) Sc.nd rfl (Or.inl rfl) (Zw G_0 (hr.mono (by decide)) rfl T.g__law_cell_at T.k_0 b_0 Zx (Zc (Zf 0) (Zc (YS Zn (Zf 3)) Zl))))
     (Zj (Z0 (YX hr.units (XI (Zf 4) Zn) Zn) (Zj (Yh (T8 (Zf 2) ND))) (Zj (Z0 (YX hr.units (XI (V6 (Zf 4) Zn) Zn) Zn) (Zj (Yh (T8 (Zf 2) (XI (V6 (Zf 4) Zn) Zn)))) (Zj (Yh (T8 (Zf 2) (XI (V6 (Zf 4) Zn) Zn))))))))))
     (Zj (Zt (Zf 2)))))
theorem Rx (T:All K mg c a):FnOk P w K mg base (CXw P w) 2 a.f_3 a.d_3 ["script","many"] (spM 2 (Wl c)):=FnOk.tidyG (QE T)
theorem We (T:All K mg c a):FnOk P w K mg base (CXw P w) 1 a.f_4 a.d_4 ["cell","k","links","sides"] (spM 4 (g__law_order_by c)):=by
 refine ZY T.F_4 BR fun cdv A outer s H E hr=>?_
 have Sc:=BR
 exact (Zh (Y8 (j := 4) Yp (Z3 (js := [1,2]) (cn := ["k","links"]) (by with_unfolding_all rfl) (by decide +kernel) rfl (by decide +kernel) rfl (by with_unfolding_all rfl) rfl (by with_unfolding_all rfl) (by decide +kernel)) rfl (Z6 rfl T.z_range (Xg rfl T.z_len (Zc (Zf 3) Zl))) (fun _ _ _ _ => (Y4 (YU (ZC (ZC (Zf 2) (Zf 1)) (Zf 0))))) (fun _ _ _ _ => (Zf 0)) Sc.nd rfl (Or.inl rfl) (by with_unfolding_all rfl))
     (Zh (Z0 (VA (ZC (Zf 3) (Zf 1))) (Zj (Zt ND)) ZF)
     (Zh (Z0 (PW.pt (V3 (Vb (YU (Zf 4))) (VL (YX hr.units (XI (Zf 0) Zn) Zn)))) (Zj (Zt (Xf (Zc YM Zl)))) ZF)
     (Zh (ZW (i:=5) Sc.nd rfl (Or.inr rfl) (ZC (Zf 4) (XI (V6 (Zf 0) Zn) (Xg rfl T.z_len (Zc (Zf 4) Zl)))))
     (Zh (Z0 (KF (XI (Zf 0) Zn) Zn) (Zj (Zt (Xf (Zc YM (Zc (Zf 5) Zl))))) ZF)
     (Zh (Y8 (j:=6) Yp (Z3 (js:=[1,2,3,5]) (cn:=["k","links","sides","goal"]) (by with_unfolding_all rfl) (by decide +kernel) rfl (by decide +kernel) rfl (by with_unfolding_all rfl) rfl (by with_unfolding_all rfl) (by decide +kernel)) rfl (Z6 rfl T.z_range (Xg rfl T.z_len (Zc (Zf 3) Zl))) (fun _ _ _ _=>(Y4 (PW.pt (XX (WX hr.units (Zf 0) (Zf 1)) (XX (Tz (ZC (Zf 3) (Zf 0))) (Wp (PW.pt (V3 (YX hr.units (Zf 0) (Zf 4)) (VL (YU (ZC (ZC (Zf 2) (Zf 0)) (Zf 4)))))))))))) (fun _ _ _ _=>(Zf 0)) Sc.nd rfl (Or.inl rfl) (by with_unfolding_all rfl))
     (Zh (Z0 (Vb (YU (Zf 6))) (Zj (Zt (Xf (Zc YM Zl)))) ZF)
     (Zj (Zt (Xf (Zc YM (Zc (ZC (Zf 6) (XI (V6 (Zf 0) Zn) (Xg rfl T.z_len (Zc (Zf 6) Zl)))) (Zc (Zf 5) Zl)))))))))))))
theorem RC (T:All K mg c a):FnOk P w K mg base (CXw P w) 2 a.f_5 a.d_5 ["script","links","sides"] (spM 3 (g__law_orders c)):=by
 have G_0:=YV (P:=P) (w:=w) (base:=base) T
 have b_0:=T.b_0
 have G_4:=We (P:=P) (w:=w) (base:=base) T
 have b_4:=T.b_4
 refine ZY T.F_5 En fun cdv A outer s H E hr=>?_
 have Sc:=En
 exact (Zj (Zt (Wo Yp (Z3 (js:=[0,1,2]) (cn:=["script","links","sides"]) (by with_unfolding_all rfl) (by decide +kernel) rfl (by decide +kernel) rfl (by with_unfolding_all rfl) rfl (by with_unfolding_all rfl) (by decide +kernel)) rfl (Z6 rfl T.z_range (Xg rfl T.z_len (Zc (Zf 2) Zl))) (fun _ _ _ _=>XF) (fun _ _ _ _=>(Zw G_4 (hr.mono (by decide)) rfl T.g__law_order_by T.k_4 b_4 VX (Zc (Zw G_0 (hr.mono (by decide)) rfl T.g__law_cell_at T.k_0 b_0 VX (Zc (Zf 1) (Zc (YS Zn (Zf 0)) Zl))) (Zc (Zf 0) (Zc (Zf 2) (Zc (Zf 3) Zl)))))))))
theorem S7 (T:All K mg c a):FnOk P w K mg base (CXw P w) 2 a.f_5 a.d_5 ["script","links","sides"] (spM 3 (XV c)):=by
 have G_0:=YV (P:=P) (w:=w) (base:=base) T
 have b_0:=T.b_0
 have G_4:=We (P:=P) (w:=w) (base:=base) T
 have b_4:=T.b_4
 refine ZY T.F_5 En fun cdv A outer s H E hr=>?_
 have Sc:=En
 exact (Zj (Zt (Wo WC (Z3 (js:=[0,1,2]) (cn:=["script","links","sides"]) (by with_unfolding_all rfl) (by decide +kernel) rfl (by decide +kernel) rfl (by with_unfolding_all rfl) rfl (by with_unfolding_all rfl) (by decide +kernel)) rfl (Z6 rfl T.z_range (Xg rfl T.z_len (Zc (Zf 2) Zl))) (fun _ _ _ _=>XF) (fun _ _ _ _=>(Zw G_4 (hr.mono (by decide)) rfl T.g__law_order_by T.k_4 b_4 VX (Zc (Zw G_0 (hr.mono (by decide)) rfl T.g__law_cell_at T.k_0 b_0 VX (Zc (Zf 1) (Zc (YS Zn (Zf 0)) Zl))) (Zc (Zf 0) (Zc (Zf 2) (Zc (Zf 3) Zl)))))))))
theorem NP (T:All K mg c a):FnOk P w K mg base (CXw P w) 1 a.f_6 a.d_6 ["self","size"] (spM 2 (WF c)):=by
 refine ZY T.F_6 BV fun cdv A outer s H E hr=>?_
 have Sc:=BV
 exact (Zh (Sk T.cl_Map T.na_Map_size (Zf 1) (Zf 0))
     (Zj (Sk T.cl_Map T.na_Map_links II (Zf 0))))
theorem Y0 (T:All K mg c a):FnOk P w K mg base (CXw P w) 1 a.f_7 a.d_7 ["self","at"] (spM 2 (ZQ c)):=by
 refine ZY T.F_7 B7 fun cdv A outer s H E hr=>?_
 have Sc:=B7
 exact (Zj (Z0 (PW.pt (V3 (KF (Zf 1) Zn) (VL (HL (Zf 1) (Yv T.cl_Map T.na_Map_size (Zf 0)))))) (Zj (WP PySem.F.excBase_ValueError T.x_NoPlace rfl T.c_NoPlace rfl U8 (Us (Zf 1) (Vh Ta)))) ZF))
theorem Le (T:All K mg c a):FnOk P w K mg base (CXw P w) 2 a.f_8 a.d_8 ["self","a","b"] (spM 3 (U5 c)):=by
 have G_7:=Y0 (P:=P) (w:=w) (base:=base) T
 have b_7:=T.b_7
 refine ZY T.F_8 AI fun cdv A outer s H E hr=>?_
 have Sc:=AI
 exact (Zh (Yh (ZN (Zf 0) T.cl_Map T.m_7 G_7 (hr.mono (by decide)) b_7 Zx (Zc (Zf 1) Zl)))
     (Zh (Yh (ZN (Zf 0) T.cl_Map T.m_7 G_7 (hr.mono (by decide)) b_7 Zx (Zc (Zf 2) Zl)))
     (Zh (Z0 (YX hr.units (Zf 1) (Zf 2)) (Zj (WP PySem.F.excBase_ValueError T.x_OutOfReach rfl T.c_OutOfReach rfl U8 (Vh (Us (Zf 1) (Vh Ta))))) ZF)
     (Zh (W0 hr.units XU (Yv T.cl_Map T.na_Map_links (Zf 0)) (Xf (Zc (Zf 1) (Zc (Zf 2) Zl))))
     (Zj (W0 hr.units XU (Yv T.cl_Map T.na_Map_links (Zf 0)) (Xf (Zc (Zf 2) (Zc (Zf 1) Zl)))))))))
theorem QM (T:All K mg c a):FnOk P w K mg base (CXw P w) 3 a.f_9 a.d_9 ["frame","links"] (spM 2 (g__law_chart c)):=by
 have G_6:=NP (P:=P) (w:=w) (base:=base) T
 have b_6:=T.b_6
 have G_8:=Le (P:=P) (w:=w) (base:=base) T
 have b_8:=T.b_8
 refine ZY T.F_9 A7 fun cdv A outer s H E hr=>?_
 have Sc:=A7
 exact (Zh (ZW (i:=2) Sc.nd rfl (Or.inl rfl) (OV T.mk_Map G_6 (hr.mono (by decide)) rfl T.c_Map b_6 Zx (Zc (ZC (Zf 0) Zn) Zl)))
     (Zh (Y7 PassesOwn.leaving rfl (Z6 rfl T.z_range (ZC (Zf 0) Zn)) (Ys (i:=3) Sc.nd rfl (Or.inl rfl)) (Z7 3) (Zj (Y7 PassesOwn.leaving rfl (Z6 rfl T.z_range (Zf 3)) (Ys (i:=4) Sc.nd rfl (Or.inl rfl)) (Z7 4) (Zj (Z0 (YU (ZC (ZC (Zf 1) (Zf 3)) (Zf 4))) (Zj (Yh (ZN (Zf 2) T.cl_Map T.m_8 G_8 (hr.mono (by decide)) b_8 Zx (Zc (YS (ZC (Zf 0) Zn) (Zf 3)) (Zc (YS (ZC (Zf 0) Zn) (Zf 4)) Zl))))) ZF)))))
     (Zj (Zt (Zf 2)))))
theorem QO (T:All K mg c a):FnOk P w K mg base (CXw P w) 1 a.f_10 a.d_10 ["self","chart"] (spM 2 (XW c)):=by
 refine ZY T.F_10 Dm fun cdv A outer s H E hr=>?_
 have Sc:=Dm
 exact (Zh (Sk T.cl_Board T.na_Board_chart (Zf 1) (Zf 0))
     (Zj (Sk T.cl_Board T.na_Board_units TJ (Zf 0))))
theorem QV (T:All K mg c a):FnOk P w K mg base (CXw P w) 2 a.f_11 a.d_11 ["self","at","side"] (spM 3 (VD c)):=by
 have G_7:=Y0 (P:=P) (w:=w) (base:=base) T
 have b_7:=T.b_7
 refine ZY T.F_11 Do fun cdv A outer s H E hr=>?_
 have Sc:=Do
 exact (Zh (Yh (ZN (Yv T.cl_Board T.na_Board_chart (Zf 0)) T.cl_Map T.m_7 G_7 (hr.mono (by decide)) b_7 Zx (Zc (Zf 1) Zl)))
     (Zh (Z0 (PW.pt (V3 (KF (Zf 2) Zn) (VL (Hu (Zf 2) (Uk rfl T.c_LAST_SIDE))))) (Zj (WP PySem.F.excBase_ValueError T.x_NoSide rfl T.c_NoSide rfl U8 (Us (Zf 2) (Vh Ta)))) ZF)
     (Zh (Z0 (C1 hr.units (Zf 1) (Yv T.cl_Board T.na_Board_units (Zf 0))) (Zj (WP PySem.F.excBase_ValueError T.x_Crowded rfl T.c_Crowded rfl U8 (Vh (Us (Zf 1) Ta)))) ZF)
     (Zj (W0 hr.units (Zf 2) (Yv T.cl_Board T.na_Board_units (Zf 0)) (Zf 1))))))
theorem QK (T:All K mg c a):FnOk P w K mg base (CXw P w) 4 a.f_12 a.d_12 ["frame","links","sides"] (spM 3 (g__law_board c)):=by
 have G_10:=QO (P:=P) (w:=w) (base:=base) T
 have b_10:=T.b_10
 have G_11:=QV (P:=P) (w:=w) (base:=base) T
 have b_11:=T.b_11
 have G_9:=QM (P:=P) (w:=w) (base:=base) T
 have b_9:=T.b_9
 refine ZY T.F_12 E5 fun cdv A outer s H E hr=>?_
 have Sc:=E5
 exact (Zh (ZW (i:=3) Sc.nd rfl (Or.inl rfl) (OV T.mk_Board G_10 (hr.mono (by decide)) rfl T.c_Board b_10 Zx (Zc (Zw G_9 (hr.mono (by decide)) rfl T.g__law_chart T.k_9 b_9 Zx (Zc (Zf 0) (Zc (Zf 1) Zl))) Zl)))
     (Zh (Y7 PassesOwn.leaving rfl (Z6 rfl T.z_range (ZC (Zf 0) Zn)) (Ys (i:=4) Sc.nd rfl (Or.inl rfl)) (Z7 4) (Zj (Z0 (Tz (ZC (Zf 2) (Zf 4))) (Zj (Yh (ZN (Zf 3) T.cl_Board T.m_11 G_11 (hr.mono (by decide)) b_11 Zx (Zc (YS (ZC (Zf 0) Zn) (Zf 4)) (Zc (ZC (Zf 2) (Zf 4)) Zl))))) ZF)))
     (Zj (Zt (Zf 3)))))
theorem R6 (T:All K mg c a):FnOk P w K mg base (CXw P w) 1 a.f_13 a.d_13 ["self","board"] (spM 2 (XC c)):=by
 refine ZY T.F_13 Ca fun cdv A outer s H E hr=>?_
 have Sc:=Ca
 exact (Zh (Sk T.cl_Orders T.na_Orders_board (Zf 1) (Zf 0))
     (Zj (Sk T.cl_Orders T.na_Orders_given TJ (Zf 0))))
theorem Xr (T:All K mg c a):FnOk P w K mg base (CXw P w) 2 a.f_14 a.d_14 ["self","at"] (spM 2 (ZR c)):=by
 have G_7:=Y0 (P:=P) (w:=w) (base:=base) T
 have b_7:=T.b_7
 refine ZY T.F_14 DN fun cdv A outer s H E hr=>?_
 have Sc:=DN
 exact (Zh (Yh (ZN (Yv T.cl_Board T.na_Board_chart (Zf 0)) T.cl_Map T.m_7 G_7 (hr.mono (by decide)) b_7 Zx (Zc (Zf 1) Zl)))
     (Zj (Zt (EO hr.units (Yv T.cl_Board T.na_Board_units (Zf 0)) (Zf 1)))))
theorem XN (T:All K mg c a):FnOk P w K mg base (CXw P w) 3 a.f_15 a.d_15 ["self","at"] (spM 2 (Yu c)):=by
 have G_14:=Xr (P:=P) (w:=w) (base:=base) T
 have b_14:=T.b_14
 refine ZY T.F_15 DH fun cdv A outer s H E hr=>?_
 have Sc:=DH
 exact (Zj (Z0 (VA (ZN (Zf 0) T.cl_Board T.m_14 G_14 (hr.mono (by decide)) b_14 Zx (Zc (Zf 1) Zl))) (Zj (WP PySem.F.excBase_ValueError T.x_NoUnit rfl T.c_NoUnit rfl U8 (Vh (Us (Zf 1) Ta)))) ZF))
theorem VY (T:All K mg c a):FnOk P w K mg base (CXw P w) 4 a.f_16 a.d_16 ["self","at"] (spM 2 (Xq c)):=by
 have G_15:=XN (P:=P) (w:=w) (base:=base) T
 have b_15:=T.b_15
 refine ZY T.F_16 Dv fun cdv A outer s H E hr=>?_
 have Sc:=Dv
 exact (Zh (Yh (ZN (Yv T.cl_Orders T.na_Orders_board (Zf 0)) T.cl_Board T.m_15 G_15 (hr.mono (by decide)) b_15 Zx (Zc (Zf 1) Zl)))
     (Zj (W0 hr.units (NF rfl T.c_STAND) (Yv T.cl_Orders T.na_Orders_given (Zf 0)) (Zf 1))))
theorem WN (T:All K mg c a):FnOk P w K mg base (CXw P w) 4 a.f_17 a.d_17 ["self","places","units"] (spM 3 (YC c)):=by
 have G_15:=XN (P:=P) (w:=w) (base:=base) T
 have b_15:=T.b_15
 have G_7:=Y0 (P:=P) (w:=w) (base:=base) T
 have b_7:=T.b_7
 refine ZY T.F_17 DC fun cdv A outer s H E hr=>?_
 have Sc:=DC
 exact (Zh (Y7 PassesOwn.leaving rfl (YO (Zf 1)) (Ys (i:=3) Sc.nd rfl (Or.inl rfl)) (Z7 3) (Zj (Yh (ZN (Yv T.cl_Board T.na_Board_chart (Yv T.cl_Orders T.na_Orders_board (Zf 0))) T.cl_Map T.m_7 G_7 (hr.mono (by decide)) b_7 Zx (Zc (Zf 3) Zl)))))
     (Zj (Y7 PassesOwn.leaving rfl (YO (Zf 2)) (Ys (i:=3) Sc.nd rfl (Or.inl rfl)) (Z7 3) (Zj (Yh (ZN (Yv T.cl_Orders T.na_Orders_board (Zf 0)) T.cl_Board T.m_15 G_15 (hr.mono (by decide)) b_15 Zx (Zc (Zf 3) Zl)))))))
theorem QR (T:All K mg c a):FnOk P w K mg base (CXw P w) 2 a.f_18 a.d_18 ["self","a","b"] (spM 3 (VF c)):=by
 have G_7:=Y0 (P:=P) (w:=w) (base:=base) T
 have b_7:=T.b_7
 refine ZY T.F_18 D5 fun cdv A outer s H E hr=>?_
 have Sc:=D5
 exact (Zh (Yh (ZN (Zf 0) T.cl_Map T.m_7 G_7 (hr.mono (by decide)) b_7 Zx (Zc (Zf 1) Zl)))
     (Zh (Yh (ZN (Zf 0) T.cl_Map T.m_7 G_7 (hr.mono (by decide)) b_7 Zx (Zc (Zf 2) Zl)))
     (Zj (Zt (BN hr.units (Xf (Zc (Zf 1) (Zc (Zf 2) Zl))) (Yv T.cl_Map T.na_Map_links (Zf 0)))))))
theorem X6 (T:All K mg c a):FnOk P w K mg base (CXw P w) 3 a.f_19 a.d_19 ["self","at","goal"] (spM 3 (Z2 c)):=by
 have G_18:=QR (P:=P) (w:=w) (base:=base) T
 have b_18:=T.b_18
 refine ZY T.F_19 DX fun cdv A outer s H E hr=>?_
 have Sc:=DX
 exact (Zj (Z0 (Vb (YU (ZN (Yv T.cl_Board T.na_Board_chart (Yv T.cl_Orders T.na_Orders_board (Zf 0))) T.cl_Map T.m_18 G_18 (hr.mono (by decide)) b_18 Zx (Zc (Zf 1) (Zc (Zf 2) Zl))))) (Zj (WP PySem.F.excBase_ValueError T.x_OutOfReach rfl T.c_OutOfReach rfl U8 (Vh (Us (Zf 2) (Vh (Us (Zf 1) Ta)))))) ZF))
theorem Rv (T:All K mg c a):FnOk P w K mg base (CXw P w) 5 a.f_20 a.d_20 ["self","at","goal"] (spM 3 (Vf c)):=by
 have G_17:=WN (P:=P) (w:=w) (base:=base) T
 have b_17:=T.b_17
 have G_19:=X6 (P:=P) (w:=w) (base:=base) T
 have b_19:=T.b_19
 refine ZY T.F_20 Dj fun cdv A outer s H E hr=>?_
 have Sc:=Dj
 exact (Zh (Yh (ZN (Zf 0) T.cl_Orders T.m_17 G_17 (hr.mono (by decide)) b_17 Zx (Zc (Qa (Zc (Zf 1) (Zc (Zf 2) Zl))) (Zc (Qa (Zc (Zf 1) Zl)) Zl))))
     (Zh (Yh (ZN (Zf 0) T.cl_Orders T.m_19 G_19 (hr.mono (by decide)) b_19 Zx (Zc (Zf 1) (Zc (Zf 2) Zl))))
     (Zj (W0 hr.units (Xf (Zc YM (Zc (Zf 2) Zl))) (Yv T.cl_Orders T.na_Orders_given (Zf 0)) (Zf 1)))))
theorem QS (T:All K mg c a):FnOk P w K mg base (CXw P w) 5 a.f_21 a.d_21 ["self","at","helped","goal"] (spM 4 (VO c)):=by
 have G_17:=WN (P:=P) (w:=w) (base:=base) T
 have b_17:=T.b_17
 have G_19:=X6 (P:=P) (w:=w) (base:=base) T
 have b_19:=T.b_19
 refine ZY T.F_21 DR fun cdv A outer s H E hr=>?_
 have Sc:=DR
 exact (Zh (Yh (ZN (Zf 0) T.cl_Orders T.m_17 G_17 (hr.mono (by decide)) b_17 Zx (Zc (Qa (Zc (Zf 1) (Zc (Zf 2) (Zc (Zf 3) Zl)))) (Zc (Qa (Zc (Zf 1) (Zc (Zf 2) Zl))) Zl))))
     (Zh (Z0 (YX hr.units (Zf 2) (Zf 1)) (Zj (WP PySem.F.excBase_ValueError T.x_OutOfReach rfl T.c_OutOfReach rfl U8 (Vh (Us (Zf 1) (Vh Ta))))) ZF)
     (Zh (Yh (ZN (Zf 0) T.cl_Orders T.m_19 G_19 (hr.mono (by decide)) b_19 Zx (Zc (Zf 1) (Zc (Zf 3) Zl))))
     (Zh (Z0 (WX hr.units (Zf 3) (Zf 2)) (Zj (Yh (ZN (Zf 0) T.cl_Orders T.m_19 G_19 (hr.mono (by decide)) b_19 Zx (Zc (Zf 2) (Zc (Zf 3) Zl))))) ZF)
     (Zj (W0 hr.units (Xf (Zc YM (Zc (Zf 2) (Zc (Zf 3) Zl)))) (Yv T.cl_Orders T.na_Orders_given (Zf 0)) (Zf 1)))))))
theorem Tq (T:All K mg c a):FnOk P w K mg base (CXw P w) 6 a.f_22 a.d_22 ["orders","off","told","k"] (spM 4 (g__law_give c)):=by
 have G_21:=QS (P:=P) (w:=w) (base:=base) T
 have b_21:=T.b_21
 have G_20:=Rv (P:=P) (w:=w) (base:=base) T
 have b_20:=T.b_20
 have G_16:=VY (P:=P) (w:=w) (base:=base) T
 have b_16:=T.b_16
 refine ZY T.F_22 DM fun cdv A outer s H E hr=>?_
 have Sc:=DM
 exact (Zh (ZW (i:=4) Sc.nd rfl (Or.inl rfl) (ZC (Zf 2) (Zf 3)))
     (Zh (Z0 (VA (Zf 4)) (Zj EZ) ZF)
     (Zj (Z0 (YX hr.units (ZC (Zf 4) Zn) YM) (Zj (Yh (ZN (Zf 0) T.cl_Orders T.m_16 G_16 (hr.mono (by decide)) b_16 Zx (Zc (YS (Zf 1) (Zf 3)) Zl)))) (Zj (Z0 (YX hr.units (ZC (Zf 4) Zn) YM) (Zj (Yh (ZN (Zf 0) T.cl_Orders T.m_20 G_20 (hr.mono (by decide)) b_20 Zx (Zc (YS (Zf 1) (Zf 3)) (Zc (YS (Zf 1) (ZC (Zf 4) Zn)) Zl))))) (Zj (Yh (ZN (Zf 0) T.cl_Orders T.m_21 G_21 (hr.mono (by decide)) b_21 Zx (Zc (YS (Zf 1) (Zf 3)) (Zc (YS (Zf 1) (ZC (Zf 4) Zn)) (Zc (YS (Zf 1) (ZC (Zf 4) Zn)) Zl))))))))))))
theorem QC (T:All K mg c a):FnOk P w K mg base (CXw P w) 7 a.f_23 a.d_23 ["frame","links","sides","told"] (spM 4 (g__law_given c)):=by
 have G_13:=R6 (P:=P) (w:=w) (base:=base) T
 have b_13:=T.b_13
 have G_12:=QK (P:=P) (w:=w) (base:=base) T
 have b_12:=T.b_12
 have G_22:=Tq (P:=P) (w:=w) (base:=base) T
 have b_22:=T.b_22
 refine ZY T.F_23 E7 fun cdv A outer s H E hr=>?_
 have Sc:=E7
 exact (Zh (ZW (i:=4) Sc.nd rfl (Or.inl rfl) (OV T.mk_Orders G_13 (hr.mono (by decide)) rfl T.c_Orders b_13 Zx (Zc (Zw G_12 (hr.mono (by decide)) rfl T.g__law_board T.k_12 b_12 Zx (Zc (Zf 0) (Zc (Zf 1) (Zc (Zf 2) Zl)))) Zl)))
     (Zh (Y7 PassesOwn.leaving rfl (Z6 rfl T.z_range (ZC (Zf 0) Zn)) (Ys (i:=5) Sc.nd rfl (Or.inl rfl)) (Z7 5) (Zj (Yh (Zw G_22 (hr.mono (by decide)) rfl T.g__law_give T.k_22 b_22 Zx (Zc (Zf 4) (Zc (ZC (Zf 0) Zn) (Zc (Zf 3) (Zc (Zf 5) Zl))))))))
     (Zj (Zt (Zf 4)))))
theorem Yc (T:All K mg c a):FnOk P w K mg base (CXw P w) 1 a.f_24 a.d_24 ["self","at"] (spM 2 (Zq c)):=by
 refine ZY T.F_24 DQ fun cdv A outer s H E hr=>?_
 have Sc:=DQ
 exact (Zh (ZW (i:=2) Sc.nd rfl (Or.inl rfl) (Kx hr.units (Yv T.cl_Orders T.na_Orders_given (Zf 0)) (Zf 1) (NF rfl T.c_STAND)))
     (Zh (Z0 (YX hr.units (VM T.gt_STAND (Zf 2) Zn) YM) (Zj (Zt (VM T.gt_STAND (Zf 2) Zn))) ZF)
     (Zj (Zt ND))))
theorem Y5 (T:All K mg c a):FnOk P w K mg base (CXw P w) 2 a.f_25 a.d_25 ["self"] (spM 1 (ZZ c)):=by
 have G_24:=Yc (P:=P) (w:=w) (base:=base) T
 have b_24:=T.b_24
 refine ZY T.F_25 Dz fun cdv A outer s H E hr=>?_
 have Sc:=Dz
 exact (Zj (Zt (Mh Yp rfl T.z_sorted (Zc (GI Yp (Z3 (js:=[0]) (cn:=["self"]) (by with_unfolding_all rfl) (by decide +kernel) rfl (by decide +kernel) rfl (by with_unfolding_all rfl) rfl (by with_unfolding_all rfl) (by decide +kernel)) rfl (Yv T.cl_Orders T.na_Orders_given (Zf 0)) (fun _ _ _ _=>(Y4 (Tz (ZN (Zf 1) T.cl_Orders T.m_24 G_24 (hr.mono (by decide)) b_24 VX (Zc (Zf 0) Zl))))) (fun _ _ _ _=>(Zf 0))) Zl))))
theorem QY (T:All K mg c a):FnOk P w K mg base (CXw P w) 1 a.f_26 a.d_26 ["self"] (spM 1 (Wx c)):=by
 refine ZY T.F_26 DW fun cdv A outer s H E hr=>?_
 have Sc:=DW
 exact (Zj (Zt (JL Yp rfl rfl T.z_sorted (Yv T.cl_Board T.na_Board_units (Zf 0)))))
theorem WG (T:All K mg c a):FnOk P w K mg base (CXw P w) 4 a.f_27 a.d_27 ["self","at"] (spM 2 (Yz c)):=by
 have G_15:=XN (P:=P) (w:=w) (base:=base) T
 have b_15:=T.b_15
 refine ZY T.F_27 DE fun cdv A outer s H E hr=>?_
 have Sc:=DE
 exact (Zh (Yh (ZN (Yv T.cl_Orders T.na_Orders_board (Zf 0)) T.cl_Board T.m_15 G_15 (hr.mono (by decide)) b_15 Zx (Zc (Zf 1) Zl)))
     (Zj (Zt (Kx hr.units (Yv T.cl_Orders T.na_Orders_given (Zf 0)) (Zf 1) (NF rfl T.c_STAND)))))
theorem J4 (T:All K mg c a):FnOk P w K mg base (CXw P w) 5 a.f_28 a.d_28 ["orders","at"] (spM 2 (g_is_cut c)):=by
 have G_14:=Xr (P:=P) (w:=w) (base:=base) T
 have b_14:=T.b_14
 have G_24:=Yc (P:=P) (w:=w) (base:=base) T
 have b_24:=T.b_24
 have G_25:=Y5 (P:=P) (w:=w) (base:=base) T
 have b_25:=T.b_25
 have G_27:=WG (P:=P) (w:=w) (base:=base) T
 have b_27:=T.b_27
 refine ZY T.F_28 D8 fun cdv A outer s H E hr=>?_
 have Sc:=D8
 exact (Zh (ZW (i:=2) Sc.nd rfl (Or.inr rfl) (ZN (Zf 0) T.cl_Orders T.m_27 G_27 (hr.mono (by decide)) b_27 Zx (Zc (Zf 1) Zl)))
     (Zh (Z0 (WX hr.units (VM T.gt_STAND (Zf 2) Zn) YM) (Zj (Zt XU)) ZF)
     (Zh (ZW (i:=3) Sc.nd rfl (Or.inr rfl) (ZN (Yv T.cl_Orders T.na_Orders_board (Zf 0)) T.cl_Board T.m_14 G_14 (hr.mono (by decide)) b_14 Zx (Zc (Zf 1) Zl)))
     (Zh (Y8 (j:=4) Yp (Z3 (js:=[0,1,3]) (cn:=["orders","at","own"]) (by with_unfolding_all rfl) (by decide +kernel) rfl (by decide +kernel) rfl (by with_unfolding_all rfl) rfl (by with_unfolding_all rfl) (by decide +kernel)) rfl (YO (Vv (Zf 0) T.cl_Orders T.m_25 G_25 (hr.mono (by decide)) b_25 Zx)) (fun _ _ _ _=>(Y4 (PW.pt (XX (YX hr.units (ZN (Zf 1) T.cl_Orders T.m_24 G_24 (hr.mono (by decide)) b_24 VX (Zc (Zf 0) Zl)) (Zf 2)) (Wp (WX hr.units (ZN (Yv T.cl_Orders T.na_Orders_board (Zf 1)) T.cl_Board T.m_14 G_14 (hr.mono (by decide)) b_14 VX (Zc (Zf 0) Zl)) (Zf 3))))))) (fun _ _ _ _=>(Zf 0)) Sc.nd rfl (Or.inl rfl) (by with_unfolding_all rfl))
     (Zj (Zt (IS rfl rfl T.z_any N7 (Zc (Wo Yp (Z3 (js:=[2]) (cn:=["order"]) (by with_unfolding_all rfl) (by decide +kernel) rfl (by decide +kernel) rfl (by with_unfolding_all rfl) rfl (by with_unfolding_all rfl) (by decide +kernel)) rfl (YO (Zf 4)) (fun _ _ _ _=>XF) (fun _ _ _ _=>(Go hr.units (Zf 0) (VM T.gt_STAND (Zf 1) Zn)))) Zl))))))))
theorem EC (T:All K mg c a):FnOk P w K mg base (CXw P w) 2 a.f_29 a.d_29 ["orders","helped","goal"] (spM 3 (g_fits c)):=by
 have G_24:=Yc (P:=P) (w:=w) (base:=base) T
 have b_24:=T.b_24
 refine ZY T.F_29 Cc fun cdv A outer s H E hr=>?_
 have Sc:=Cc
 exact (Zh (Z0 (YX hr.units (Zf 2) (Zf 1)) (Zj (Zt (C0 (ZN (Zf 0) T.cl_Orders T.m_24 G_24 (hr.mono (by decide)) b_24 Zx (Zc (Zf 1) Zl))))) ZF)
     (Zj (Zt (TH hr.units (ZN (Zf 0) T.cl_Orders T.m_24 G_24 (hr.mono (by decide)) b_24 Zx (Zc (Zf 1) Zl)) (Zf 2)))))
theorem Ip (T:All K mg c a):FnOk P w K mg base (CXw P w) 6 a.f_30 a.d_30 ["orders","at"] (spM 2 (g_counts c)):=by
 have G_27:=WG (P:=P) (w:=w) (base:=base) T
 have b_27:=T.b_27
 have G_29:=EC (P:=P) (w:=w) (base:=base) T
 have b_29:=T.b_29
 have G_28:=J4 (P:=P) (w:=w) (base:=base) T
 have b_28:=T.b_28
 refine ZY T.F_30 Da fun cdv A outer s H E hr=>?_
 have Sc:=Da
 exact (Zh (ZW (i:=2) Sc.nd rfl (Or.inl rfl) (ZN (Zf 0) T.cl_Orders T.m_27 G_27 (hr.mono (by decide)) b_27 Zx (Zc (Zf 1) Zl)))
     (Zj (Zt (Th (TH hr.units (VM T.gt_STAND (Zf 2) Zn) YM) (Th (Zw G_29 (hr.mono (by decide)) rfl T.g_fits T.k_29 b_29 Zx (Zc (Zf 0) (Zc (VM T.gt_STAND (Zf 2) Zn) (Zc (VM T.gt_STAND (Zf 2) Zn) Zl)))) (R7 (Fg (Zw G_28 (hr.mono (by decide)) rfl T.g_is_cut T.k_28 b_28 Zx (Zc (Zf 0) (Zc (Zf 1) Zl))))))))))
theorem GB (T:All K mg c a):FnOk P w K mg base (CXw P w) 7 a.f_31 a.d_31 ["orders","helper","at"] (spM 3 (g_backs c)):=by
 have G_27:=WG (P:=P) (w:=w) (base:=base) T
 have b_27:=T.b_27
 have G_30:=Ip (P:=P) (w:=w) (base:=base) T
 have b_30:=T.b_30
 refine ZY T.F_31 D7 fun cdv A outer s H E hr=>?_
 have Sc:=D7
 exact (Zh (ZW (i:=3) Sc.nd rfl (Or.inl rfl) (ZN (Zf 0) T.cl_Orders T.m_27 G_27 (hr.mono (by decide)) b_27 Zx (Zc (Zf 1) Zl)))
     (Zj (Zt (Th (TH hr.units (VM T.gt_STAND (Zf 3) Zn) YM) (Th (TH hr.units (VM T.gt_STAND (Zf 3) Zn) (Zf 2)) (R7 (Zw G_30 (hr.mono (by decide)) rfl T.g_counts T.k_30 b_30 Zx (Zc (Zf 0) (Zc (Zf 1) Zl)))))))))
theorem U3 (T:All K mg c a):FnOk P w K mg base (CXw P w) 8 a.f_32 a.d_32 ["orders","at"] (spM 2 (g_backing c)):=by
 have G_26:=QY (P:=P) (w:=w) (base:=base) T
 have b_26:=T.b_26
 have G_31:=GB (P:=P) (w:=w) (base:=base) T
 have b_31:=T.b_31
 refine ZY T.F_32 De fun cdv A outer s H E hr=>?_
 have Sc:=De
 exact (Zj (Zt (HI Yp (LV (xs:=["helper","side"]) (js:=[0,1]) (cn:=["orders","at"]) (by with_unfolding_all rfl) (by decide +kernel) rfl (by decide +kernel) (by with_unfolding_all rfl) rfl (by with_unfolding_all rfl) (by decide +kernel)) rfl (fun _ _ _ _=>Cp rfl (Mv (Ys (i:=0) (show (["helper","side","orders","at"]:List Str).Nodup by decide +kernel) rfl (Or.inl rfl)) (Mv (Ys (i:=1) (show (["helper","side","orders","at"]:List Str).Nodup by decide +kernel) rfl (Or.inl rfl)) F7))) (YO (Vv (Yv T.cl_Orders T.na_Orders_board (Zf 0)) T.cl_Board T.m_26 G_26 (hr.mono (by decide)) b_26 Zx)) (fun _ _ _ _=>(Y4 (YU (Zw G_31 (hr.mono (by decide)) rfl T.g_backs T.k_31 b_31 VX (Zc (Zf 2) (Zc (Zf 0) (Zc (Zf 3) Zl))))))) (fun _ _ _ _=>(Zf 1)))))
theorem HA (T:All K mg c a):FnOk P w K mg base (CXw P w) 9 a.f_33 a.d_33 ["orders","at"] (spM 2 (g_force c)):=by
 have G_24:=Yc (P:=P) (w:=w) (base:=base) T
 have b_24:=T.b_24
 have G_32:=U3 (P:=P) (w:=w) (base:=base) T
 have b_32:=T.b_32
 refine ZY T.F_33 D0 fun cdv A outer s H E hr=>?_
 have Sc:=D0
 exact (Zh (Z0 (VA (ZN (Zf 0) T.cl_Orders T.m_24 G_24 (hr.mono (by decide)) b_24 Zx (Zc (Zf 1) Zl))) (Zj (Zt Zn)) ZF)
     (Zj (Zt (YS Zn (Xg rfl T.z_len (Zc (Zw G_32 (hr.mono (by decide)) rfl T.g_backing T.k_32 b_32 Zx (Zc (Zf 0) (Zc (Zf 1) Zl))) Zl))))))
theorem S4 (T:All K mg c a):FnOk P w K mg base (CXw P w) 10 a.f_34 a.d_34 ["orders"] (spM 1 (g_weigh_movers c)):=by
 have G_25:=Y5 (P:=P) (w:=w) (base:=base) T
 have b_25:=T.b_25
 have G_33:=HA (P:=P) (w:=w) (base:=base) T
 have b_33:=T.b_33
 refine ZY T.F_34 DF fun cdv A outer s H E hr=>?_
 have Sc:=DF
 exact (Zh (ZW (i:=1) Sc.nd rfl (Or.inl rfl) TJ)
     (Zh (Y7 PassesOwn.leaving rfl (YO (Vv (Zf 0) T.cl_Orders T.m_25 G_25 (hr.mono (by decide)) b_25 Zx)) (Ys (i:=2) Sc.nd rfl (Or.inl rfl)) (Z7 2) (Zj (W0 hr.units (Zw G_33 (hr.mono (by decide)) rfl T.g_force T.k_33 b_33 Zx (Zc (Zf 0) (Zc (Zf 2) Zl))) (Zf 1) (Zf 2))))
     (Zj (Zt (Zf 1)))))
theorem QF (T:All K mg c a):FnOk P w K mg base (CXw P w) 2 a.f_35 a.d_35 ["orders","forces","at"] (spM 3 (g_is_outdone c)):=by
 have G_24:=Yc (P:=P) (w:=w) (base:=base) T
 have b_24:=T.b_24
 refine ZY T.F_35 Du fun cdv A outer s H E hr=>?_
 have Sc:=Du
 exact (Zh (ZW (i:=3) Sc.nd rfl (Or.inr rfl) (ZN (Zf 0) T.cl_Orders T.m_24 G_24 (hr.mono (by decide)) b_24 Zx (Zc (Zf 2) Zl)))
     (Zh (Ms (j:=4) Yp (Z3 (js:=[0,2,3]) (cn:=["orders","at","goal"]) (by with_unfolding_all rfl) (by decide +kernel) rfl (by decide +kernel) rfl (by with_unfolding_all rfl) rfl (by with_unfolding_all rfl) (by decide +kernel)) rfl (Zf 1) (fun _ _ _ _=>(Y4 (PW.pt (XX (WX hr.units (Zf 0) (Zf 2)) (Wp (YX hr.units (ZN (Zf 1) T.cl_Orders T.m_24 G_24 (hr.mono (by decide)) b_24 VX (Zc (Zf 0) Zl)) (Zf 3))))))) (fun _ _ _ _=>(Zf 0)) Sc.nd rfl (Or.inl rfl) (by with_unfolding_all rfl))
     (Zj (Zt (IS rfl rfl T.z_any N7 (Zc (Wo Yp (Z3 (js:=[1,2]) (cn:=["forces","at"]) (by with_unfolding_all rfl) (by decide +kernel) rfl (by decide +kernel) rfl (by with_unfolding_all rfl) rfl (by with_unfolding_all rfl) (by decide +kernel)) rfl (YO (Zf 4)) (fun _ _ _ _=>XF) (fun _ _ _ _=>(B8 (Tv hr.units (Zf 1) (Zf 0)) (Tv hr.units (Zf 1) (Zf 2))))) Zl))))))
theorem Sg (T:All K mg c a):FnOk P w K mg base (CXw P w) 9 a.f_36 a.d_36 ["orders","at","side"] (spM 3 (g_force_against c)):=by
 have G_24:=Yc (P:=P) (w:=w) (base:=base) T
 have b_24:=T.b_24
 have G_32:=U3 (P:=P) (w:=w) (base:=base) T
 have b_32:=T.b_32
 refine ZY T.F_36 DK fun cdv A outer s H E hr=>?_
 have Sc:=DK
 exact (Zh (Z0 (VA (ZN (Zf 0) T.cl_Orders T.m_24 G_24 (hr.mono (by decide)) b_24 Zx (Zc (Zf 1) Zl))) (Zj (Zt Zn)) ZF)
     (Zj (Zt (YS Zn (Xg rfl T.z_len (Zc (Wo Yp (Z3 (js:=[2]) (cn:=["side"]) (by with_unfolding_all rfl) (by decide +kernel) rfl (by decide +kernel) rfl (by with_unfolding_all rfl) rfl (by with_unfolding_all rfl) (by decide +kernel)) rfl (YO (Zw G_32 (hr.mono (by decide)) rfl T.g_backing T.k_32 b_32 Zx (Zc (Zf 0) (Zc (Zf 1) Zl)))) (fun _ _ _ _=>(Y4 (WX hr.units (Zf 0) (Zf 1)))) (fun _ _ _ _=>(Zf 0))) Zl))))))
theorem Nr (T:All K mg c a):FnOk P w K mg base (CXw P w) 10 a.f_37 a.d_37 ["orders","at","goal","strength"] (spM 4 (g_overcomes c)):=by
 have G_14:=Xr (P:=P) (w:=w) (base:=base) T
 have b_14:=T.b_14
 have G_36:=Sg (P:=P) (w:=w) (base:=base) T
 have b_36:=T.b_36
 refine ZY T.F_37 DU fun cdv A outer s H E hr=>?_
 have Sc:=DU
 exact (Zh (ZW (i:=4) Sc.nd rfl (Or.inl rfl) (ZN (Yv T.cl_Orders T.na_Orders_board (Zf 0)) T.cl_Board T.m_14 G_14 (hr.mono (by decide)) b_14 Zx (Zc (Zf 2) Zl)))
     (Zj (Zt (Th (Go hr.units (Zf 4) (ZN (Yv T.cl_Orders T.na_Orders_board (Zf 0)) T.cl_Board T.m_14 G_14 (hr.mono (by decide)) b_14 Zx (Zc (Zf 1) Zl))) (R7 (A8 (Zw G_36 (hr.mono (by decide)) rfl T.g_force_against T.k_36 b_36 Zx (Zc (Zf 0) (Zc (Zf 1) (Zc (Zf 4) Zl)))) (Zf 3)))))))
theorem NY (T:All K mg c a):FnOk P w K mg base (CXw P w) 9 a.f_38 a.d_38 ["orders","at"] (spM 2 (g_firmness c)):=by
 have G_24:=Yc (P:=P) (w:=w) (base:=base) T
 have b_24:=T.b_24
 have G_32:=U3 (P:=P) (w:=w) (base:=base) T
 have b_32:=T.b_32
 refine ZY T.F_38 Db fun cdv A outer s H E hr=>?_
 have Sc:=Db
 exact (Zh (Z0 (Tz (ZN (Zf 0) T.cl_Orders T.m_24 G_24 (hr.mono (by decide)) b_24 Zx (Zc (Zf 1) Zl))) (Zj (Zt Zn)) ZF)
     (Zj (Zt (YS Zn (Xg rfl T.z_len (Zc (Zw G_32 (hr.mono (by decide)) rfl T.g_backing T.k_32 b_32 Zx (Zc (Zf 0) (Zc (Zf 1) Zl))) Zl))))))
theorem NH (T:All K mg c a):FnOk P w K mg base (CXw P w) 11 a.f_39 a.d_39 ["orders","forces","at"] (spM 3 (g_hindrance c)):=by
 have G_14:=Xr (P:=P) (w:=w) (base:=base) T
 have b_14:=T.b_14
 have G_24:=Yc (P:=P) (w:=w) (base:=base) T
 have b_24:=T.b_24
 have G_38:=NY (P:=P) (w:=w) (base:=base) T
 have b_38:=T.b_38
 have G_35:=QF (P:=P) (w:=w) (base:=base) T
 have b_35:=T.b_35
 have G_37:=Nr (P:=P) (w:=w) (base:=base) T
 have b_37:=T.b_37
 refine ZY T.F_39 Dl fun cdv A outer s H E hr=>?_
 have Sc:=Dl
 exact (Zh (ZW (i:=3) Sc.nd rfl (Or.inl rfl) (ZN (Zf 0) T.cl_Orders T.m_24 G_24 (hr.mono (by decide)) b_24 Zx (Zc (Zf 2) Zl)))
     (Zh (Z0 (YU (Zw G_35 (hr.mono (by decide)) rfl T.g_is_outdone T.k_35 b_35 Zx (Zc (Zf 0) (Zc (Zf 1) (Zc (Zf 2) Zl))))) (Zj (Zt (Uk rfl T.c_RIVAL))) ZF)
     (Zh (Z0 (VA (ZN (Yv T.cl_Orders T.na_Orders_board (Zf 0)) T.cl_Board T.m_14 G_14 (hr.mono (by decide)) b_14 Zx (Zc (Zf 3) Zl))) (Zj (Zt (Uk rfl T.c_FREE))) ZF)
     (Zh (Z0 (YX hr.units (ZN (Zf 0) T.cl_Orders T.m_24 G_24 (hr.mono (by decide)) b_24 Zx (Zc (Zf 3) Zl)) (Zf 2)) (Zj (Zt (Hx (YU (Zw G_37 (hr.mono (by decide)) rfl T.g_overcomes T.k_37 b_37 Zx (Zc (Zf 0) (Zc (Zf 2) (Zc (Zf 3) (Zc (Tv hr.units (Zf 1) (Zf 3)) Zl)))))) (Uk rfl T.c_FREE) (Uk rfl T.c_FACED)))) ZF)
     (Zj (Zt (Hx (YU (Zw G_37 (hr.mono (by decide)) rfl T.g_overcomes T.k_37 b_37 Zx (Zc (Zf 0) (Zc (Zf 2) (Zc (Zf 3) (Zc (Zw G_38 (hr.mono (by decide)) rfl T.g_firmness T.k_38 b_38 Zx (Zc (Zf 0) (Zc (Zf 3) Zl))) Zl)))))) (Uk rfl T.c_FREE) (Uk rfl T.c_HELD))))))))
theorem QH (T:All K mg c a):FnOk P w K mg base (CXw P w) 12 a.f_40 a.d_40 ["orders"] (spM 1 (g_hindrances c)):=by
 have G_39:=NH (P:=P) (w:=w) (base:=base) T
 have b_39:=T.b_39
 have G_34:=S4 (P:=P) (w:=w) (base:=base) T
 have b_34:=T.b_34
 refine ZY T.F_40 DB fun cdv A outer s H E hr=>?_
 have Sc:=DB
 exact (Zh (ZW (i:=1) Sc.nd rfl (Or.inl rfl) (Zw G_34 (hr.mono (by decide)) rfl T.g_weigh_movers T.k_34 b_34 Zx (Zc (Zf 0) Zl)))
     (Zh (ZW (i:=2) Sc.nd rfl (Or.inl rfl) TJ)
     (Zh (FP PassesOwn.leaving rfl (Zf 1) (Ys (i:=3) Sc.nd rfl (Or.inl rfl)) (Z7 3) (Zj (W0 hr.units (Zw G_39 (hr.mono (by decide)) rfl T.g_hindrance T.k_39 b_39 Zx (Zc (Zf 0) (Zc (Zf 1) (Zc (Zf 3) Zl)))) (Zf 2) (Zf 3))))
     (Zj (Zt (Zf 2))))))
theorem IY (T:All K mg c a):FnOk P w K mg base (CXw P w) 2 a.f_41 a.d_41 ["orders","found","at","places"] (spM 4 (g_fault c)):=by
 have G_24:=Yc (P:=P) (w:=w) (base:=base) T
 have b_24:=T.b_24
 refine ZY T.F_41 E4 fun cdv A outer s H E hr=>?_
 have Sc:=E4
 exact (Zh (Z0 (PW.pt (XX (YX hr.units (Tv hr.units (Zf 1) (Zf 2)) (Uk rfl T.c_HELD)) (Wp (B1 (ZN (Zf 0) T.cl_Orders T.m_24 G_24 (hr.mono (by decide)) b_24 Zx (Zc (Zf 2) Zl)) (Zf 3))))) (Zj (Zt (Uk rfl T.c_FREE))) ZF)
     (Zj (Zt (Tv hr.units (Zf 1) (Zf 2)))))
theorem Kb (T:All K mg c a):FnOk P w K mg base (CXw P w) 13 a.f_42 a.d_42 ["orders"] (spM 1 (g_strikes c)):=by
 have G_25:=Y5 (P:=P) (w:=w) (base:=base) T
 have b_25:=T.b_25
 have G_41:=IY (P:=P) (w:=w) (base:=base) T
 have b_41:=T.b_41
 have G_40:=QH (P:=P) (w:=w) (base:=base) T
 have b_40:=T.b_40
 refine ZY T.F_42 Cb fun cdv A outer s H E hr=>?_
 have Sc:=Cb
 exact (Zh (ZW (i:=1) Sc.nd rfl (Or.inr rfl) (Zw G_40 (hr.mono (by decide)) rfl T.g_hindrances T.k_40 b_40 Zx (Zc (Zf 0) Zl)))
     (Zh (ZW (i:=2) Sc.nd rfl (Or.inr rfl) (Vv (Zf 0) T.cl_Orders T.m_25 G_25 (hr.mono (by decide)) b_25 Zx))
     (Zh (ZW (i:=3) Sc.nd rfl (Or.inl rfl) (K9 Zl))
     (Zh (ZW (i:=4) Sc.nd rfl (Or.inr rfl) Zn)
     (Zj (Gm 100 PassesOwn.leaving (YU XU) (Zh (Y8 (j:=5) Yp (Z3 (js:=[0,1,2,4]) (cn:=["orders","found","left","count"]) (by with_unfolding_all rfl) (by decide +kernel) rfl (by decide +kernel) rfl (by with_unfolding_all rfl) rfl (by with_unfolding_all rfl) (by decide +kernel)) rfl (YO (Zf 2)) (fun _ _ _ _=>XF) (fun _ _ _ _=>(Xf (Zc (Zf 4) (Zc (Zf 0) (Zc (Zw G_41 (hr.mono (by decide)) rfl T.g_fault T.k_41 b_41 VX (Zc (Zf 1) (Zc (Zf 2) (Zc (Zf 0) (Zc (Zf 3) Zl))))) Zl))))) Sc.nd rfl (Or.inl rfl) (by with_unfolding_all rfl))
     (Zh (Y8 (j:=6) Yp (Z3 (js:=[]) (cn:=[]) (by with_unfolding_all rfl) (by decide +kernel) rfl (by decide +kernel) rfl (by with_unfolding_all rfl) rfl (by with_unfolding_all rfl) (by decide +kernel)) rfl (YO (Zf 5)) (fun _ _ _ _=>(Y4 (WX hr.units (ZC (Zf 0) Zn) (Uk rfl T.c_FREE)))) (fun _ _ _ _=>(Zf 0)) Sc.nd rfl (Or.inl rfl) (by with_unfolding_all rfl))
     (Zh (Z0 (YX hr.units (Zf 6) (Qa Zl)) (Zj (Zt (Zf 3))) ZF)
     (Zh (Yh (Jq (Zf 3) (Zf 6)))
     (Zh (ZW (i:=2) Sc.nd rfl (Or.inr rfl) (Wo Yp (Z3 (js:=[]) (cn:=[]) (by with_unfolding_all rfl) (by decide +kernel) rfl (by decide +kernel) rfl (by with_unfolding_all rfl) rfl (by with_unfolding_all rfl) (by decide +kernel)) rfl (YO (Zf 5)) (fun _ _ _ _=>(Y4 (YX hr.units (ZC (Zf 0) Zn) (Uk rfl T.c_FREE)))) (fun _ _ _ _=>(ZC (Zf 0) Zn))))
     (Zj (ZW (i:=4) Sc.nd rfl (Or.inr rfl) (YS (Zf 4) Zn))))))))))))))
theorem Uu (T:All K mg c a):FnOk P w K mg base (CXw P w) 13 a.f_42 a.d_42 ["orders"] (spM 1 (Xo c)):=FnOk.tidyG (Kb T)
theorem LH (T:All K mg c a):FnOk P w K mg base (CXw P w) 14 a.f_43 a.d_43 ["orders"] (spM 1 (g_settled c)):=by
 have G_25:=Y5 (P:=P) (w:=w) (base:=base) T
 have b_25:=T.b_25
 have G_42:=Uu (P:=P) (w:=w) (base:=base) T
 have b_42:=T.b_42
 refine ZY T.F_43 Ky fun cdv A outer s H E hr=>?_
 have Sc:=Ky
 exact (Zh (ZW (i:=1) Sc.nd rfl (Or.inr rfl) (Wo Yp (Z3 (js:=[]) (cn:=[]) (by with_unfolding_all rfl) (by decide +kernel) rfl (by decide +kernel) rfl (by with_unfolding_all rfl) rfl (by with_unfolding_all rfl) (by decide +kernel)) rfl (YO (Zw G_42 (hr.mono (by decide)) rfl T.g_strikes T.k_42 b_42 Zx (Zc (Zf 0) Zl))) (fun _ _ _ _ => XF) (fun _ _ _ _ => (ZC (Zf 0) Zn))))
     (Zj (Zt (Wo Yp (Z3 (js:=[1]) (cn:=["struck"]) (by with_unfolding_all rfl) (by decide +kernel) rfl (by decide +kernel) rfl (by with_unfolding_all rfl) rfl (by with_unfolding_all rfl) (by decide +kernel)) rfl (YO (Vv (Zf 0) T.cl_Orders T.m_25 G_25 (hr.mono (by decide)) b_25 Zx)) (fun _ _ _ _=>(Y4 (Gv (Zf 0) (Zf 1)))) (fun _ _ _ _=>(Zf 0))))))
theorem Lm (T:All K mg c a):FnOk P w K mg base (CXw P w) 14 a.f_43 a.d_43 ["orders"] (spM 1 (VG c)):=by
 have G_25:=Y5 (P:=P) (w:=w) (base:=base) T
 have b_25:=T.b_25
 have G_42:=Uu (P:=P) (w:=w) (base:=base) T
 have b_42:=T.b_42
 refine ZY T.F_43 Ky fun cdv A outer s H E hr=>?_
 have Sc:=Ky
 exact (Zh (ZW (i:=1) Sc.nd rfl (Or.inr rfl) (Wo Yp (Z3 (js:=[]) (cn:=[]) (by with_unfolding_all rfl) (by decide +kernel) rfl (by decide +kernel) rfl (by with_unfolding_all rfl) rfl (by with_unfolding_all rfl) (by decide +kernel)) rfl (YO (Zw G_42 (hr.mono (by decide)) rfl T.g_strikes T.k_42 b_42 Zx (Zc (Zf 0) Zl))) (fun _ _ _ _ => XF) (fun _ _ _ _ => (ZC (Zf 0) Zn))))
     (Zj (Zt (Wo WC (Z3 (js:=[1]) (cn:=["struck"]) (by with_unfolding_all rfl) (by decide +kernel) rfl (by decide +kernel) rfl (by with_unfolding_all rfl) rfl (by with_unfolding_all rfl) (by decide +kernel)) rfl (YO (Vv (Zf 0) T.cl_Orders T.m_25 G_25 (hr.mono (by decide)) b_25 Zx)) (fun _ _ _ _=>(Y4 (Gv (Zf 0) (Zf 1)))) (fun _ _ _ _=>(Zf 0))))))
theorem QT (T:All K mg c a):FnOk P w K mg base (CXw P w) 1 a.f_44 a.d_44 ["found"] (spM 1 (g__law_whole c)):=by
 refine ZY T.F_44 Dh fun cdv A outer s H E hr=>?_
 have Sc:=Dh
 exact (Zj (Zt (Th (LT T.i_int rfl T.z_isinstance (Zf 0) (Nt (v:=.ty "int") rfl T.z_int G5 rfl)) (R7 (Fg (LT T.i_bool rfl T.z_isinstance (Zf 0) (Nt (v:=.ty "bool") rfl T.z_bool JB rfl)))))))
theorem Qh (T:All K mg c a):FnOk P w K mg base (CXw P w) 2 a.f_45 a.d_45 ["found"] (spM 1 (g__law_rising c)):=by
 have G_44:=QT (P:=P) (w:=w) (base:=base) T
 have b_44:=T.b_44
 refine ZY T.F_45 DZ fun cdv A outer s H E hr=>?_
 have Sc:=DZ
 exact (Zh (Z0 (Vb (YU (LT T.i_list rfl T.z_isinstance (Zf 0) (Nt (v := .ty "list") rfl T.z_list Il rfl)))) (Zj (Zt XU)) ZF)
     (Zh (Y7 PassesOwn.leaving rfl (Z6 rfl T.z_range (Xg rfl T.z_len (Zc (Zf 0) Zl))) (Ys (i:=1) Sc.nd rfl (Or.inl rfl)) (Z7 1) (Zj (Z0 (PW.pt (V3 (Vb (YU (Zw G_44 (hr.mono (by decide)) rfl T.g__law_whole T.k_44 b_44 Zx (Zc (ZC (Zf 0) (Zf 1)) Zl)))) (VL (PW.pt (XX (Hu (Zf 1) Zn) (Wp (HL (ZC (Zf 0) (LA (Zf 1) Zn)) (ZC (Zf 0) (Zf 1))))))))) (Zj (Zt XU)) ZF)))
     (Zj (Zt XU))))
theorem NT (T:All K mg c a):FnOk P w K mg base (CXw P w) 1 a.f_46 a.d_46 ["told","sides","k"] (spM 3 (g__law_cut c)):=by
 refine ZY T.F_46 E9 fun cdv A outer s H E hr=>?_
 have Sc:=E9
 exact (Zh (Y7 PassesOwn.leaving rfl (Z6 rfl T.z_range (Xg rfl T.z_len (Zc (Zf 0) Zl))) (Ys (i:=3) Sc.nd rfl (Or.inl rfl)) (Z7 3) (Zj (Z0 (PW.pt (XX (YX hr.units (ZC (Zf 0) (Zf 3)) (Xf (Zc YM (Zc (Zf 2) Zl)))) (XX (WX hr.units (Zf 3) (ZC (ZC (Zf 0) (Zf 2)) Zn)) (Wp (WX hr.units (ZC (Zf 1) (Zf 3)) (ZC (Zf 1) (Zf 2))))))) (Zj (Zt XU)) ZF)))
     (Zj (Zt XU)))
theorem RA (T:All K mg c a):FnOk P w K mg base (CXw P w) 2 a.f_47 a.d_47 ["told","sides","k"] (spM 3 (g__law_counts c)):=by
 have G_46:=NT (P:=P) (w:=w) (base:=base) T
 have b_46:=T.b_46
 refine ZY T.F_47 D9 fun cdv A outer s H E hr=>?_
 have Sc:=D9
 exact (Zh (Z0 (PW.pt (V3 (VA (ZC (Zf 0) (Zf 2))) (V3 (WX hr.units (ZC (ZC (Zf 0) (Zf 2)) Zn) YM) (VL (YU (Zw G_46 (hr.mono (by decide)) rfl T.g__law_cut T.k_46 b_46 Zx (Zc (Zf 0) (Zc (Zf 1) (Zc (Zf 2) Zl))))))))) (Zj (Zt XU)) ZF)
     (Zh (ZW (i:=3) Sc.nd rfl (Or.inl rfl) (ZC (Zf 0) (ZC (ZC (Zf 0) (Zf 2)) Zn)))
     (Zh (Z0 (YX hr.units (ZC (ZC (Zf 0) (Zf 2)) Zn) (ZC (ZC (Zf 0) (Zf 2)) Zn)) (Zj (Zt (Go hr.units (ZC (Zf 3) Zn) YM))) ZF)
     (Zj (Zt (TH hr.units (Zf 3) (Xf (Zc YM (Zc (ZC (ZC (Zf 0) (Zf 2)) Zn) Zl)))))))))
theorem Ug (T:All K mg c a):FnOk P w K mg base (CXw P w) 3 a.f_48 a.d_48 ["told","sides","k","goal","side"] (spM 5 (g__law_strong c)):=by
 have G_47:=RA (P:=P) (w:=w) (base:=base) T
 have b_47:=T.b_47
 refine ZY T.F_48 D2 fun cdv A outer s H E hr=>?_
 have Sc:=D2
 exact (Zh (ZW (i:=5) Sc.nd rfl (Or.inl rfl) Zn)
     (Zh (Y7 PassesOwn.leaving rfl (Z6 rfl T.z_range (Xg rfl T.z_len (Zc (Zf 0) Zl))) (Ys (i:=6) Sc.nd rfl (Or.inl rfl)) (Z7 6) (Zj (Z0 (PW.pt (XX (YX hr.units (ZC (Zf 0) (Zf 6)) (Xf (Zc YM (Zc (Zf 2) (Zc (Zf 3) Zl))))) (XX (YU (Zw G_47 (hr.mono (by decide)) rfl T.g__law_counts T.k_47 b_47 Zx (Zc (Zf 0) (Zc (Zf 1) (Zc (Zf 6) Zl))))) (Wp (WX hr.units (ZC (Zf 1) (Zf 6)) (Zf 4)))))) (Zj (ZW (i:=5) Sc.nd rfl (Or.inl rfl) (YS (Zf 5) Zn))) ZF)))
     (Zj (Zt (Zf 5)))))
theorem OM (T:All K mg c a):FnOk P w K mg base (CXw P w) 4 a.f_49 a.d_49 ["told","sides","k"] (spM 3 (g__law_firm c)):=by
 have G_48:=Ug (P:=P) (w:=w) (base:=base) T
 have b_48:=T.b_48
 refine ZY T.F_49 E8 fun cdv A outer s H E hr=>?_
 have Sc:=E8
 exact (Zh (Z0 (YX hr.units (ZC (ZC (Zf 0) (Zf 2)) Zn) YM) (Zj (Zt Zn)) ZF)
     (Zj (Zt (Zw G_48 (hr.mono (by decide)) rfl T.g__law_strong T.k_48 b_48 Zx (Zc (Zf 0) (Zc (Zf 1) (Zc (Zf 2) (Zc (Zf 2) (Zc (NG Zn) Zl)))))))))
theorem TB (T:All K mg c a):FnOk P w K mg base (CXw P w) 5 a.f_50 a.d_50 ["told","sides","k","kept"] (spM 4 (g__law_flaw c)):=by
 have G_49:=OM (P:=P) (w:=w) (base:=base) T
 have b_49:=T.b_49
 have G_48:=Ug (P:=P) (w:=w) (base:=base) T
 have b_48:=T.b_48
 refine ZY T.F_50 Di fun cdv A outer s H E hr=>?_
 have Sc:=Di
 exact (Zh (ZW (i:=4) Sc.nd rfl (Or.inl rfl) (ZC (ZC (Zf 0) (Zf 2)) Zn))
     (Zh (ZW (i:=5) Sc.nd rfl (Or.inl rfl) (Zw G_48 (hr.mono (by decide)) rfl T.g__law_strong T.k_48 b_48 Zx (Zc (Zf 0) (Zc (Zf 1) (Zc (Zf 2) (Zc (Zf 4) (Zc (NG Zn) Zl)))))))
     (Zh (Y7 PassesOwn.leaving rfl (Z6 rfl T.z_range (Xg rfl T.z_len (Zc (Zf 0) Zl))) (Ys (i:=6) Sc.nd rfl (Or.inl rfl)) (Z7 6) (Zj (Z0 (PW.pt (XX (WX hr.units (Zf 6) (Zf 2)) (XX (YX hr.units (ZC (Zf 0) (Zf 6)) (Xf (Zc YM (Zc (Zf 4) Zl)))) (Wp (HL (Zw G_48 (hr.mono (by decide)) rfl T.g__law_strong T.k_48 b_48 Zx (Zc (Zf 0) (Zc (Zf 1) (Zc (Zf 6) (Zc (Zf 4) (Zc (NG Zn) Zl)))))) (Zf 5)))))) (Zj (Zt Zn)) ZF)))
     (Zh (Z0 (VA (ZC (Zf 1) (Zf 4))) (Zj (Zt Zn)) ZF)
     (Zh (ZW (i:=7) Sc.nd rfl (Or.inl rfl) (Zw G_48 (hr.mono (by decide)) rfl T.g__law_strong T.k_48 b_48 Zx (Zc (Zf 0) (Zc (Zf 1) (Zc (Zf 2) (Zc (Zf 4) (Zc (ZC (Zf 1) (Zf 4)) Zl)))))))
     (Zh (Z0 (YX hr.units (ZC (Zf 0) (Zf 4)) (Xf (Zc YM (Zc (Zf 2) Zl)))) (Zh (Z0 (PW.pt (V3 (YX hr.units (ZC (Zf 1) (Zf 4)) (ZC (Zf 1) (Zf 2))) (VL (D6 (Zf 7) (Zw G_48 (hr.mono (by decide)) rfl T.g__law_strong T.k_48 b_48 Zx (Zc (Zf 0) (Zc (Zf 1) (Zc (Zf 4) (Zc (Zf 2) (Zc (NG Zn) Zl)))))))))) (Zj (Zt Zn)) ZF)
     (Zj (Zt Zn))) ZF)
     (Zh (Z0 (YU (ZC (Zf 3) (Zf 4))) (Zj (Zt Zn)) ZF)
     (Zh (Z0 (PW.pt (V3 (YX hr.units (ZC (Zf 1) (Zf 4)) (ZC (Zf 1) (Zf 2))) (VL (D6 (Zf 7) (Zw G_49 (hr.mono (by decide)) rfl T.g__law_firm T.k_49 b_49 Zx (Zc (Zf 0) (Zc (Zf 1) (Zc (Zf 4) Zl)))))))) (Zj (Zt Zn)) ZF)
     (Zj (Zt Zn))))))))))
theorem R9 (T:All K mg c a):FnOk P w K mg base (CXw P w) 6 a.f_51 a.d_51 ["told","sides","off","rows"] (spM 4 (g__law_walked c)):=by
 have G_50:=TB (P:=P) (w:=w) (base:=base) T
 have b_50:=T.b_50
 refine ZY T.F_51 DJ fun cdv A outer s H E hr=>?_
 have Sc:=DJ
 exact (Zh (Mr (j:=4) WC (Z3 (js:=[]) (cn:=[]) (by with_unfolding_all rfl) (by decide +kernel) rfl (by decide +kernel) rfl (by with_unfolding_all rfl) rfl (by with_unfolding_all rfl) (by decide +kernel)) rfl (Zf 0) (fun _ _ _ _ => XF) (fun _ _ _ _ => (Th (EJ (Zf 0)) (R7 (TH hr.units (ZC (Zf 0) Zn) YM)))) Sc.nd rfl (Or.inl rfl) (by with_unfolding_all rfl))
     (Zh (Y7 PassesOwn.leaving rfl (Ib rfl T.z_range Zn (YS (Xg rfl T.z_len (Zc (Zf 0) Zl)) Zn)) (Ys (i:=5) Sc.nd rfl (Or.inr rfl)) (Z7 5) (Zh (Y8 (j:=6) Yp (Z3 (js:=[2,5]) (cn:=["off","count"]) (by with_unfolding_all rfl) (by decide +kernel) rfl (by decide +kernel) rfl (by with_unfolding_all rfl) rfl (by with_unfolding_all rfl) (by decide +kernel)) rfl (YO (Zf 3)) (fun _ _ _ _=>(Y4 (YX hr.units (ZC (Zf 0) Zn) (Zf 2)))) (fun _ _ _ _=>(LA (ZC (Zf 0) Zn) (Zf 1))) Sc.nd rfl (Or.inl rfl) (by with_unfolding_all rfl))
     (Zh (Y7 PassesOwn.leaving rfl (YO (Zf 6)) (Ys (i:=7) Sc.nd rfl (Or.inl rfl)) (Z7 7) (Zj (Z0 (PW.pt (V3 (Vb (Fm D3 Dx AQ Ag Zn (Zf 7) (Xg rfl T.z_len (Zc (Zf 0) Zl)))) (V3 (Hu (Hg (Zf 6) (Zf 7)) Zn) (V3 (Vb (YU (ZC (Zf 4) (Zf 7)))) (VL (YX hr.units (Zw G_50 (hr.mono (by decide)) rfl T.g__law_flaw T.k_50 b_50 Zx (Zc (Zf 0) (Zc (Zf 1) (Zc (Zf 7) (Zc (Zf 4) Zl))))) Zn)))))) (Zj (Zt ND)) ZF)))
     (Zj (Y7 PassesOwn.leaving rfl (YO (Zf 6)) (Ys (i:=7) Sc.nd rfl (Or.inl rfl)) (Z7 7) (Zj (Rc XU (Zf 4) (Zf 7) (hg:=Qv (Zf 4) (Zf 7) V8))))))))
     (Zj (Zt (Zf 4)))))
theorem QQ (T:All K mg c a):FnOk P w K mg base (CXw P w) 15 a.f_52 a.d_52 ["orders","told","sides","off"] (spM 4 (g__law_right c)):=by
 have G_50:=TB (P:=P) (w:=w) (base:=base) T
 have b_50:=T.b_50
 have G_45:=Qh (P:=P) (w:=w) (base:=base) T
 have b_45:=T.b_45
 have G_51:=R9 (P:=P) (w:=w) (base:=base) T
 have b_51:=T.b_51
 have G_settledM:=Lm (P:=P) (w:=w) (base:=base) T
 have G_43:=LH (P:=P) (w:=w) (base:=base) T
 have b_43:=T.b_43
 have G_42:=Uu (P:=P) (w:=w) (base:=base) T
 have b_42:=T.b_42
 refine ZY T.F_52 Dy fun cdv A outer s H E hr=>?_
 have Sc:=Dy
 exact (Zh (ZW (i:=4) Sc.nd rfl (Or.inl rfl) (Zw G_settledM (hr.mono (by decide)) rfl T.g_settled T.k_43 b_43 Zx (Zc (Zf 0) Zl)))
     (Zh (Z0 (Vb (YU (Zw G_45 (hr.mono (by decide)) rfl T.g__law_rising T.k_45 b_45 Zx (Zc (Zf 4) Zl)))) (Zj (Zt XU)) ZF)
     (Zh (ZW (i:=5) Sc.nd rfl (Or.inr rfl) (Zw G_51 (hr.mono (by decide)) rfl T.g__law_walked T.k_51 b_51 Zx (Zc (Zf 1) (Zc (Zf 2) (Zc (Zf 3) (Zc (Zw G_42 (hr.mono (by decide)) rfl T.g_strikes T.k_42 b_42 Zx (Zc (Zf 0) Zl)) Zl))))))
     (Zh (Z0 (VA (Zf 5)) (Zj (Zt XU)) ZF)
     (Zh (Y8 (j:=6) Yp (Z3 (js:=[3,5]) (cn:=["off","kept"]) (by with_unfolding_all rfl) (by decide +kernel) rfl (by decide +kernel) rfl (by with_unfolding_all rfl) rfl (by with_unfolding_all rfl) (by decide +kernel)) rfl (Z6 rfl T.z_range (Xg rfl T.z_len (Zc (Zf 1) Zl))) (fun _ _ _ _=>(Y4 (YU (ZC (Zf 2) (Zf 0))))) (fun _ _ _ _=>(YS (Zf 1) (Zf 0))) Sc.nd rfl (Or.inl rfl) (by with_unfolding_all rfl))
     (Zh (Z0 (WX hr.units (Zf 4) (Zf 6)) (Zj (Zt XU)) ZF)
     (Zh (Y7 PassesOwn.leaving rfl (Z6 rfl T.z_range (Xg rfl T.z_len (Zc (Zf 1) Zl))) (Ys (i:=7) Sc.nd rfl (Or.inl rfl)) (Z7 7) (Zj (Z0 (PW.pt (XX (YU (ZC (Zf 5) (Zf 7))) (Wp (WX hr.units (Zw G_50 (hr.mono (by decide)) rfl T.g__law_flaw T.k_50 b_50 Zx (Zc (Zf 1) (Zc (Zf 2) (Zc (Zf 7) (Zc (Zf 5) Zl))))) Zn)))) (Zj (Zt XU)) ZF)))
     (Zh (Yh (HB (Zf 4)))
     (Zj (Zt (TH hr.units (Zw G_43 (hr.mono (by decide)) rfl T.g_settled T.k_43 b_43 Zx (Zc (Zf 0) Zl)) (Zf 6))))))))))))
theorem Be (T:All K mg c a):FnOk P w K mg base (CXw P w) 16 a.f_53 a.d_53 ["script"] (spM 1 (Fa c)):=by
 have G_16:=VY (P:=P) (w:=w) (base:=base) T
 have b_16:=T.b_16
 have G_0:=YV (P:=P) (w:=w) (base:=base) T
 have b_0:=T.b_0
 have G_1:=QI (P:=P) (w:=w) (base:=base) T
 have b_1:=T.b_1
 have G_22:=Tq (P:=P) (w:=w) (base:=base) T
 have b_22:=T.b_22
 have G_23:=QC (P:=P) (w:=w) (base:=base) T
 have b_23:=T.b_23
 have G_2:=R8 (P:=P) (w:=w) (base:=base) T
 have b_2:=T.b_2
 have G_4:=We (P:=P) (w:=w) (base:=base) T
 have b_4:=T.b_4
 have G__law_ordersM:=S7 (P:=P) (w:=w) (base:=base) T
 have G_5:=RC (P:=P) (w:=w) (base:=base) T
 have b_5:=T.b_5
 have G_52:=QQ (P:=P) (w:=w) (base:=base) T
 have b_52:=T.b_52
 have G_3:=Rx (P:=P) (w:=w) (base:=base) T
 have b_3:=T.b_3
 refine ZY T.F_53 Dw fun cdv A outer s H E hr=>?_
 have Sc:=Dw
 exact (Zh (ZW (i:=1) Sc.nd rfl (Or.inl rfl) (Zw G_1 (hr.mono (by decide)) rfl T.g__law_frame T.k_1 b_1 Zx (Zc (Zf 0) Zl)))
     (Zh (ZW (i:=2) Sc.nd rfl (Or.inr rfl) (Zw G_2 (hr.mono (by decide)) rfl T.g__law_links T.k_2 b_2 Zx (Zc (Zf 0) (Zc (ZC (Zf 1) Zn) Zl))))
     (Zh (ZW (i:=3) Sc.nd rfl (Or.inr rfl) (Zw G_3 (hr.mono (by decide)) rfl T.g__law_sides T.k_3 b_3 Zx (Zc (Zf 0) (Zc (ZC (Zf 1) Zn) Zl))))
     (Zh (Y8 (j:=4) WC (Z3 (js:=[0,2,3]) (cn:=["script","links","sides"]) (by with_unfolding_all rfl) (by decide +kernel) rfl (by decide +kernel) rfl (by with_unfolding_all rfl) rfl (by with_unfolding_all rfl) (by decide +kernel)) rfl (Z6 rfl T.z_range (ZC (Zf 1) Zn)) (fun _ _ _ _=>XF) (fun _ _ _ _=>(Zw G_4 (hr.mono (by decide)) rfl T.g__law_order_by T.k_4 b_4 VX (Zc (Zw G_0 (hr.mono (by decide)) rfl T.g__law_cell_at T.k_0 b_0 VX (Zc (Zf 1) (Zc (YS Zn (Zf 0)) Zl))) (Zc (Zf 0) (Zc (Zf 2) (Zc (Zf 3) Zl)))))) Sc.nd rfl (Or.inl rfl) (by with_unfolding_all rfl))
     (Zh (ZW (i:=5) Sc.nd rfl (Or.inl rfl) (Zw G__law_ordersM (hr.mono (by decide)) rfl T.g__law_orders T.k_5 b_5 Zx (Zc (Zf 0) (Zc (Zf 2) (Zc (Zf 3) Zl)))))
     (Zh (ZW (i:=6) Sc.nd rfl (Or.inl rfl) (Zw G_23 (hr.mono (by decide)) rfl T.g__law_given T.k_23 b_23 Zx (Zc (Zf 1) (Zc (Zf 2) (Zc (Zf 3) (Zc (Zf 4) Zl))))))
     (Zh (Z0 (Vb (YU (Zw G_52 (hr.mono (by decide)) rfl T.g__law_right T.k_52 b_52 Zx (Zc (Zf 6) (Zc (Zf 4) (Zc (Zf 3) (Zc (ZC (Zf 1) Zn) Zl))))))) (Zj (Zt XU)) ZF)
     (Zh (Y7 PassesOwn.leaving rfl (Z6 rfl T.z_range (ZC (Zf 1) Zn)) (Ys (i:=7) Sc.nd rfl (Or.inl rfl)) (Z7 7) (Zj (Yh (Zw G_22 (hr.mono (by decide)) rfl T.g__law_give T.k_22 b_22 Zx (Zc (Zf 6) (Zc (ZC (Zf 1) Zn) (Zc (Zf 5) (Zc (Zf 7) Zl))))))))
     (Zh (Z0 (Vb (YU (Zw G_52 (hr.mono (by decide)) rfl T.g__law_right T.k_52 b_52 Zx (Zc (Zf 6) (Zc (Zf 5) (Zc (Zf 3) (Zc (ZC (Zf 1) Zn) Zl))))))) (Zj (Zt XU)) ZF)
     (Zh (Y7 PassesOwn.leaving rfl (Z6 rfl T.z_range (ZC (Zf 1) Zn)) (Ys (i:=7) Sc.nd rfl (Or.inl rfl)) (Z7 7) (Zj (Z0 (PW.pt (XX (Tz (ZC (Zf 5) (Zf 7))) (Wp (YX hr.units (ZC (ZC (Zf 5) (Zf 7)) Zn) YM)))) (Zh (Rc (Xf (Zc YM Zl)) (Zf 5) (Zf 7) (hg:=Qv (Zf 5) (Zf 7) V8))
     (Zh (Yh (ZN (Zf 6) T.cl_Orders T.m_16 G_16 (hr.mono (by decide)) b_16 Zx (Zc (YS (ZC (Zf 1) Zn) (Zf 7)) Zl)))
     (Zj (Zt (Zw G_52 (hr.mono (by decide)) rfl T.g__law_right T.k_52 b_52 Zx (Zc (Zf 6) (Zc (Zf 5) (Zc (Zf 3) (Zc (ZC (Zf 1) Zn) Zl))))))))) ZF)))
     (Zj (Zt XU))))))))))))
end
open PySem L2
theorem p1 {K:W.Frag} {x y:Option (Option Value)} (g:GK K) (i:Nat) (h1:nth (Ci K) i=some x) (h2:nth BO i=some y):x=y:=V1 g.1 i h1 h2
theorem p2 {K:W.Frag} {x y:Bool} (g:GK K) (i:Nat) (h1:nth (CN K) i=some x) (h2:nth Ba i=some y):x=y:=V1 g.2.1 i h1 h2
theorem p3 {K:W.Frag} {x y:Option (FuncData × Bool)} (g:GK K) (i:Nat) (h1:nth (Bt K) i=some x) (h2:nth Cm i=some y):x=y:=V1 g.2.2.1 i h1 h2
theorem gk_F {l:W.OpenLaw} {w:World} {K:W.Frag} {h:Heap} {mg:Str->Option Value} {fa:Addr} (g:GK K) (X:K.In h) (G:h.Ns mainGlobals mg) (hfa:mg "law"=some (.ref fa)) :
    ∃fd:FuncData,(∀(s:Shared) (v:Value),BindsTo s fd ⟨[v],[]⟩ [("script",v)])∧∀base:Heap,K.In base->base.Ns mainGlobals mg->FnOk l.prog w K mg base (CXw l.prog w) 16 fa fd ["script"] (DO K):=by
 obtain ⟨_,v_FACED⟩:=N2 (V1 g.2.2.2.1 0 rfl rfl)
 obtain ⟨_,v_FREE⟩:=N2 (V1 g.2.2.2.1 1 rfl rfl)
 obtain ⟨_,v_HELD⟩:=N2 (V1 g.2.2.2.1 2 rfl rfl)
 obtain ⟨_,v_LAST_SIDE⟩:=N2 (V1 g.2.2.2.1 3 rfl rfl)
 obtain ⟨_,v_RIVAL⟩:=N2 (V1 g.2.2.2.1 4 rfl rfl)
 obtain ⟨_,_,_,_,l_STAND⟩:=AR (V1 g.2.2.2.2.1 0 rfl rfl)
 have a_Map:=(p1 g 0 rfl rfl)
 have a_Board:=(p1 g 1 rfl rfl)
 have a_Orders:=(p1 g 2 rfl rfl)
 have a_OrderError:=(p1 g 3 rfl rfl)
 have a_NoPlace:=(p1 g 4 rfl rfl)
 have a_NoSide:=(p1 g 5 rfl rfl)
 have a_Crowded:=(p1 g 6 rfl rfl)
 have a_NoUnit:=(p1 g 7 rfl rfl)
 have a_OutOfReach:=(p1 g 8 rfl rfl)
 have a_STAND:=(p1 g 9 rfl rfl)
 have a_0:=(p1 g 10 rfl rfl)
 have l_0:=(Yy (p3 g 0 rfl rfl))
 have c_0:=(YA (p3 g 0 rfl rfl))
 have k_0:=(p2 g 0 rfl rfl)
 have a_1:=(p1 g 11 rfl rfl)
 have l_1:=(Yy (p3 g 1 rfl rfl))
 have c_1:=(YA (p3 g 1 rfl rfl))
 have k_1:=(p2 g 1 rfl rfl)
 have a_2:=(p1 g 12 rfl rfl)
 have l_2:=(Yy (p3 g 2 rfl rfl))
 have c_2:=(YA (p3 g 2 rfl rfl))
 have k_2:=(p2 g 2 rfl rfl)
 have a_3:=(p1 g 13 rfl rfl)
 have l_3:=(Yy (p3 g 3 rfl rfl))
 have c_3:=(YA (p3 g 3 rfl rfl))
 have k_3:=(p2 g 3 rfl rfl)
 have a_4:=(p1 g 14 rfl rfl)
 have l_4:=(Yy (p3 g 4 rfl rfl))
 have c_4:=(YA (p3 g 4 rfl rfl))
 have k_4:=(p2 g 4 rfl rfl)
 have a_5:=(p1 g 15 rfl rfl)
 have l_5:=(Yy (p3 g 5 rfl rfl))
 have c_5:=(YA (p3 g 5 rfl rfl))
 have k_5:=(p2 g 5 rfl rfl)
 have a_6:=(p1 g 16 rfl rfl)
 have i_6:=(p2 g 6 rfl rfl)
 have l_6:=(Yy (p3 g 6 rfl rfl))
 have c_6:=(YA (p3 g 6 rfl rfl))
 have k_6:=(p2 g 7 rfl rfl)
 have a_7:=(p1 g 17 rfl rfl)
 have i_7:=(p2 g 8 rfl rfl)
 have l_7:=(Yy (p3 g 7 rfl rfl))
 have c_7:=(YA (p3 g 7 rfl rfl))
 have k_7:=(p2 g 9 rfl rfl)
 have a_8:=(p1 g 18 rfl rfl)
 have i_8:=(p2 g 10 rfl rfl)
 have l_8:=(Yy (p3 g 8 rfl rfl))
 have c_8:=(YA (p3 g 8 rfl rfl))
 have k_8:=(p2 g 11 rfl rfl)
 have a_9:=(p1 g 19 rfl rfl)
 have l_9:=(Yy (p3 g 9 rfl rfl))
 have c_9:=(YA (p3 g 9 rfl rfl))
 have k_9:=(p2 g 12 rfl rfl)
 have a_10:=(p1 g 20 rfl rfl)
 have i_10:=(p2 g 13 rfl rfl)
 have l_10:=(Yy (p3 g 10 rfl rfl))
 have c_10:=(YA (p3 g 10 rfl rfl))
 have k_10:=(p2 g 14 rfl rfl)
 have a_11:=(p1 g 21 rfl rfl)
 have i_11:=(p2 g 15 rfl rfl)
 have l_11:=(Yy (p3 g 11 rfl rfl))
 have c_11:=(YA (p3 g 11 rfl rfl))
 have k_11:=(p2 g 16 rfl rfl)
 have a_12:=(p1 g 22 rfl rfl)
 have l_12:=(Yy (p3 g 12 rfl rfl))
 have c_12:=(YA (p3 g 12 rfl rfl))
 have k_12:=(p2 g 17 rfl rfl)
 have a_13:=(p1 g 23 rfl rfl)
 have i_13:=(p2 g 18 rfl rfl)
 have l_13:=(Yy (p3 g 13 rfl rfl))
 have c_13:=(YA (p3 g 13 rfl rfl))
 have k_13:=(p2 g 19 rfl rfl)
 have a_14:=(p1 g 24 rfl rfl)
 have i_14:=(p2 g 20 rfl rfl)
 have l_14:=(Yy (p3 g 14 rfl rfl))
 have c_14:=(YA (p3 g 14 rfl rfl))
 have k_14:=(p2 g 21 rfl rfl)
 have a_15:=(p1 g 25 rfl rfl)
 have i_15:=(p2 g 22 rfl rfl)
 have l_15:=(Yy (p3 g 15 rfl rfl))
 have c_15:=(YA (p3 g 15 rfl rfl))
 have k_15:=(p2 g 23 rfl rfl)
 have a_16:=(p1 g 26 rfl rfl)
 have i_16:=(p2 g 24 rfl rfl)
 have l_16:=(Yy (p3 g 16 rfl rfl))
 have c_16:=(YA (p3 g 16 rfl rfl))
 have k_16:=(p2 g 25 rfl rfl)
 have a_17:=(p1 g 27 rfl rfl)
 have i_17:=(p2 g 26 rfl rfl)
 have l_17:=(Yy (p3 g 17 rfl rfl))
 have c_17:=(YA (p3 g 17 rfl rfl))
 have k_17:=(p2 g 27 rfl rfl)
 have a_18:=(p1 g 28 rfl rfl)
 have i_18:=(p2 g 28 rfl rfl)
 have l_18:=(Yy (p3 g 18 rfl rfl))
 have c_18:=(YA (p3 g 18 rfl rfl))
 have k_18:=(p2 g 29 rfl rfl)
 have a_19:=(p1 g 29 rfl rfl)
 have i_19:=(p2 g 30 rfl rfl)
 have l_19:=(Yy (p3 g 19 rfl rfl))
 have c_19:=(YA (p3 g 19 rfl rfl))
 have k_19:=(p2 g 31 rfl rfl)
 have a_20:=(p1 g 30 rfl rfl)
 have i_20:=(p2 g 32 rfl rfl)
 have l_20:=(Yy (p3 g 20 rfl rfl))
 have c_20:=(YA (p3 g 20 rfl rfl))
 have k_20:=(p2 g 33 rfl rfl)
 have a_21:=(p1 g 31 rfl rfl)
 have i_21:=(p2 g 34 rfl rfl)
 have l_21:=(Yy (p3 g 21 rfl rfl))
 have c_21:=(YA (p3 g 21 rfl rfl))
 have k_21:=(p2 g 35 rfl rfl)
 have a_22:=(p1 g 32 rfl rfl)
 have l_22:=(Yy (p3 g 22 rfl rfl))
 have c_22:=(YA (p3 g 22 rfl rfl))
 have k_22:=(p2 g 36 rfl rfl)
 have a_23:=(p1 g 33 rfl rfl)
 have l_23:=(Yy (p3 g 23 rfl rfl))
 have c_23:=(YA (p3 g 23 rfl rfl))
 have k_23:=(p2 g 37 rfl rfl)
 have a_24:=(p1 g 34 rfl rfl)
 have i_24:=(p2 g 38 rfl rfl)
 have l_24:=(Yy (p3 g 24 rfl rfl))
 have c_24:=(YA (p3 g 24 rfl rfl))
 have k_24:=(p2 g 39 rfl rfl)
 have a_25:=(p1 g 35 rfl rfl)
 have i_25:=(p2 g 40 rfl rfl)
 have l_25:=(Yy (p3 g 25 rfl rfl))
 have c_25:=(YA (p3 g 25 rfl rfl))
 have k_25:=(p2 g 41 rfl rfl)
 have a_26:=(p1 g 36 rfl rfl)
 have i_26:=(p2 g 42 rfl rfl)
 have l_26:=(Yy (p3 g 26 rfl rfl))
 have c_26:=(YA (p3 g 26 rfl rfl))
 have k_26:=(p2 g 43 rfl rfl)
 have a_27:=(p1 g 37 rfl rfl)
 have i_27:=(p2 g 44 rfl rfl)
 have l_27:=(Yy (p3 g 27 rfl rfl))
 have c_27:=(YA (p3 g 27 rfl rfl))
 have k_27:=(p2 g 45 rfl rfl)
 have a_28:=(p1 g 38 rfl rfl)
 have l_28:=(Yy (p3 g 28 rfl rfl))
 have c_28:=(YA (p3 g 28 rfl rfl))
 have k_28:=(p2 g 46 rfl rfl)
 have a_29:=(p1 g 39 rfl rfl)
 have l_29:=(Yy (p3 g 29 rfl rfl))
 have c_29:=(YA (p3 g 29 rfl rfl))
 have k_29:=(p2 g 47 rfl rfl)
 have a_30:=(p1 g 40 rfl rfl)
 have l_30:=(Yy (p3 g 30 rfl rfl))
 have c_30:=(YA (p3 g 30 rfl rfl))
 have k_30:=(p2 g 48 rfl rfl)
 have a_31:=(p1 g 41 rfl rfl)
 have l_31:=(Yy (p3 g 31 rfl rfl))
 have c_31:=(YA (p3 g 31 rfl rfl))
 have k_31:=(p2 g 49 rfl rfl)
 have a_32:=(p1 g 42 rfl rfl)
 have l_32:=(Yy (p3 g 32 rfl rfl))
 have c_32:=(YA (p3 g 32 rfl rfl))
 have k_32:=(p2 g 50 rfl rfl)
 have a_33:=(p1 g 43 rfl rfl)
 have l_33:=(Yy (p3 g 33 rfl rfl))
 have c_33:=(YA (p3 g 33 rfl rfl))
 have k_33:=(p2 g 51 rfl rfl)
 have a_34:=(p1 g 44 rfl rfl)
 have l_34:=(Yy (p3 g 34 rfl rfl))
 have c_34:=(YA (p3 g 34 rfl rfl))
 have k_34:=(p2 g 52 rfl rfl)
 have a_35:=(p1 g 45 rfl rfl)
 have l_35:=(Yy (p3 g 35 rfl rfl))
 have c_35:=(YA (p3 g 35 rfl rfl))
 have k_35:=(p2 g 53 rfl rfl)
 have a_36:=(p1 g 46 rfl rfl)
 have l_36:=(Yy (p3 g 36 rfl rfl))
 have c_36:=(YA (p3 g 36 rfl rfl))
 have k_36:=(p2 g 54 rfl rfl)
 have a_37:=(p1 g 47 rfl rfl)
 have l_37:=(Yy (p3 g 37 rfl rfl))
 have c_37:=(YA (p3 g 37 rfl rfl))
 have k_37:=(p2 g 55 rfl rfl)
 have a_38:=(p1 g 48 rfl rfl)
 have l_38:=(Yy (p3 g 38 rfl rfl))
 have c_38:=(YA (p3 g 38 rfl rfl))
 have k_38:=(p2 g 56 rfl rfl)
 have a_39:=(p1 g 49 rfl rfl)
 have l_39:=(Yy (p3 g 39 rfl rfl))
 have c_39:=(YA (p3 g 39 rfl rfl))
 have k_39:=(p2 g 57 rfl rfl)
 have a_40:=(p1 g 50 rfl rfl)
 have l_40:=(Yy (p3 g 40 rfl rfl))
 have c_40:=(YA (p3 g 40 rfl rfl))
 have k_40:=(p2 g 58 rfl rfl)
 have a_41:=(p1 g 51 rfl rfl)
 have l_41:=(Yy (p3 g 41 rfl rfl))
 have c_41:=(YA (p3 g 41 rfl rfl))
 have k_41:=(p2 g 59 rfl rfl)
 have a_42:=(p1 g 52 rfl rfl)
 have l_42:=(Yy (p3 g 42 rfl rfl))
 have c_42:=(YA (p3 g 42 rfl rfl))
 have k_42:=(p2 g 60 rfl rfl)
 have a_43:=(p1 g 53 rfl rfl)
 have l_43:=(Yy (p3 g 43 rfl rfl))
 have c_43:=(YA (p3 g 43 rfl rfl))
 have k_43:=(p2 g 61 rfl rfl)
 have a_44:=(p1 g 54 rfl rfl)
 have l_44:=(Yy (p3 g 44 rfl rfl))
 have c_44:=(YA (p3 g 44 rfl rfl))
 have k_44:=(p2 g 62 rfl rfl)
 have a_45:=(p1 g 55 rfl rfl)
 have l_45:=(Yy (p3 g 45 rfl rfl))
 have c_45:=(YA (p3 g 45 rfl rfl))
 have k_45:=(p2 g 63 rfl rfl)
 have a_46:=(p1 g 56 rfl rfl)
 have l_46:=(Yy (p3 g 46 rfl rfl))
 have c_46:=(YA (p3 g 46 rfl rfl))
 have k_46:=(p2 g 64 rfl rfl)
 have a_47:=(p1 g 57 rfl rfl)
 have l_47:=(Yy (p3 g 47 rfl rfl))
 have c_47:=(YA (p3 g 47 rfl rfl))
 have k_47:=(p2 g 65 rfl rfl)
 have a_48:=(p1 g 58 rfl rfl)
 have l_48:=(Yy (p3 g 48 rfl rfl))
 have c_48:=(YA (p3 g 48 rfl rfl))
 have k_48:=(p2 g 66 rfl rfl)
 have a_49:=(p1 g 59 rfl rfl)
 have l_49:=(Yy (p3 g 49 rfl rfl))
 have c_49:=(YA (p3 g 49 rfl rfl))
 have k_49:=(p2 g 67 rfl rfl)
 have a_50:=(p1 g 60 rfl rfl)
 have l_50:=(Yy (p3 g 50 rfl rfl))
 have c_50:=(YA (p3 g 50 rfl rfl))
 have k_50:=(p2 g 68 rfl rfl)
 have a_51:=(p1 g 61 rfl rfl)
 have l_51:=(Yy (p3 g 51 rfl rfl))
 have c_51:=(YA (p3 g 51 rfl rfl))
 have k_51:=(p2 g 69 rfl rfl)
 have a_52:=(p1 g 62 rfl rfl)
 have l_52:=(Yy (p3 g 52 rfl rfl))
 have c_52:=(YA (p3 g 52 rfl rfl))
 have k_52:=(p2 g 70 rfl rfl)
 have a_53:=(p1 g 63 rfl rfl)
 have l_53:=(Yy (p3 g 53 rfl rfl))
 have c_53:=(YA (p3 g 53 rfl rfl))
 have k_53:=(p2 g 71 rfl rfl)
 have pg_Board:=(p2 g 72 rfl rfl)
 have hd_Board:=(p2 g 73 rfl rfl)
 have po_Board:=(p2 g 74 rfl rfl)
 have sa_Board:=(p1 g 64 rfl rfl)
 have pg_Map:=(p2 g 75 rfl rfl)
 have hd_Map:=(p2 g 76 rfl rfl)
 have po_Map:=(p2 g 77 rfl rfl)
 have sa_Map:=(p1 g 65 rfl rfl)
 have pg_Orders:=(p2 g 78 rfl rfl)
 have hd_Orders:=(p2 g 79 rfl rfl)
 have po_Orders:=(p2 g 80 rfl rfl)
 have sa_Orders:=(p1 g 66 rfl rfl)
 have n_Board_chart:=(p1 g 67 rfl rfl)
 have n_Board_units:=(p1 g 68 rfl rfl)
 have n_Map_links:=(p1 g 69 rfl rfl)
 have n_Map_size:=(p1 g 70 rfl rfl)
 have n_Orders_board:=(p1 g 71 rfl rfl)
 have n_Orders_given:=(p1 g 72 rfl rfl)
 have mm_Board:=(p2 g 81 rfl rfl)
 have kp_Board:=(p2 g 82 rfl rfl)
 have mm_Map:=(p2 g 83 rfl rfl)
 have kp_Map:=(p2 g 84 rfl rfl)
 have mm_Orders:=(p2 g 85 rfl rfl)
 have kp_Orders:=(p2 g 86 rfl rfl)
 have x_Crowded:=(p2 g 87 rfl rfl)
 have x_NoPlace:=(p2 g 88 rfl rfl)
 have x_NoSide:=(p2 g 89 rfl rfl)
 have x_NoUnit:=(p2 g 90 rfl rfl)
 have x_OutOfReach:=(p2 g 91 rfl rfl)
 have z_any:=(p1 g 73 rfl rfl)
 have z_bool:=(p1 g 74 rfl rfl)
 have z_int:=(p1 g 75 rfl rfl)
 have z_isinstance:=(p1 g 76 rfl rfl)
 have z_len:=(p1 g 77 rfl rfl)
 have z_list:=(p1 g 78 rfl rfl)
 have z_range:=(p1 g 79 rfl rfl)
 have z_sorted:=(p1 g 80 rfl rfl)
 have t_bool:=(V1 g.2.2.2.2.2.1 0 rfl rfl)
 have t_int:=(V1 g.2.2.2.2.2.1 1 rfl rfl)
 have t_list:=(V1 g.2.2.2.2.2.1 2 rfl rfl)
 have noL:=(p2 g 92 rfl rfl)
 have e:=hfa.symm.trans (W.mg_of X G a_53)
 cases e
 have F_0:=ZO (st:=J6) l_0 c_0 k_0
 have b_0:=F_0.binds (ps:=["script","k"]) fun _ _ _ _ _ _ us hl=>match us,hl with|[_,_],_=>rfl
 have F_1:=ZO (st:=Iz) l_1 c_1 k_1
 have b_1:=F_1.binds (ps:=["script"]) fun _ _ _ _ _ _ us hl=>match us,hl with|[_],_=>rfl
 have F_2:=ZO (st:=Io) l_2 c_2 k_2
 have b_2:=F_2.binds (ps:=["script","many"]) fun _ _ _ _ _ _ us hl=>match us,hl with|[_,_],_=>rfl
 have F_3:=ZO (st:=J5) l_3 c_3 k_3
 have b_3:=F_3.binds (ps:=["script","many"]) fun _ _ _ _ _ _ us hl=>match us,hl with|[_,_],_=>rfl
 have F_4:=ZO (st:=Jj) l_4 c_4 k_4
 have b_4:=F_4.binds (ps:=["cell","k","links","sides"]) fun _ _ _ _ _ _ us hl=>match us,hl with|[_,_,_,_],_=>rfl
 have F_5:=ZO (st:=JZ) l_5 c_5 k_5
 have b_5:=F_5.binds (ps:=["script","links","sides"]) fun _ _ _ _ _ _ us hl=>match us,hl with|[_,_,_],_=>rfl
 have F_6:=ZO (st:=JC) l_6 c_6 k_6
 have b_6:=F_6.binds (ps:=["self","size"]) fun _ _ _ _ _ _ us hl=>match us,hl with|[_,_],_=>rfl
 have F_7:=ZO (st:=JF) l_7 c_7 k_7
 have b_7:=F_7.binds (ps:=["self","at"]) fun _ _ _ _ _ _ us hl=>match us,hl with|[_,_],_=>rfl
 have F_8:=ZO (st:=J1) l_8 c_8 k_8
 have b_8:=F_8.binds (ps:=["self","a","b"]) fun _ _ _ _ _ _ us hl=>match us,hl with|[_,_,_],_=>rfl
 have F_9:=ZO (st:=Iy) l_9 c_9 k_9
 have b_9:=F_9.binds (ps:=["frame","links"]) fun _ _ _ _ _ _ us hl=>match us,hl with|[_,_],_=>rfl
 have F_10:=ZO (st:=Pe) l_10 c_10 k_10
 have b_10:=F_10.binds (ps:=["self","chart"]) fun _ _ _ _ _ _ us hl=>match us,hl with|[_,_],_=>rfl
 have F_11:=ZO (st:=P1) l_11 c_11 k_11
 have b_11:=F_11.binds (ps:=["self","at","side"]) fun _ _ _ _ _ _ us hl=>match us,hl with|[_,_,_],_=>rfl
 have F_12:=ZO (st:=Pk) l_12 c_12 k_12
 have b_12:=F_12.binds (ps:=["frame","links","sides"]) fun _ _ _ _ _ _ us hl=>match us,hl with|[_,_,_],_=>rfl
 have F_13:=ZO (st:=Pp) l_13 c_13 k_13
 have b_13:=F_13.binds (ps:=["self","board"]) fun _ _ _ _ _ _ us hl=>match us,hl with|[_,_],_=>rfl
 have F_14:=ZO (st:=Ps) l_14 c_14 k_14
 have b_14:=F_14.binds (ps:=["self","at"]) fun _ _ _ _ _ _ us hl=>match us,hl with|[_,_],_=>rfl
 have F_15:=ZO (st:=P5) l_15 c_15 k_15
 have b_15:=F_15.binds (ps:=["self","at"]) fun _ _ _ _ _ _ us hl=>match us,hl with|[_,_],_=>rfl
 have F_16:=ZO (st:=OI) l_16 c_16 k_16
 have b_16:=F_16.binds (ps:=["self","at"]) fun _ _ _ _ _ _ us hl=>match us,hl with|[_,_],_=>rfl
 have F_17:=ZO (st:=Op) l_17 c_17 k_17
 have b_17:=F_17.binds (ps:=["self","places","units"]) fun _ _ _ _ _ _ us hl=>match us,hl with|[_,_,_],_=>rfl
 have F_18:=ZO (st:=Q8) l_18 c_18 k_18
 have b_18:=F_18.binds (ps:=["self","a","b"]) fun _ _ _ _ _ _ us hl=>match us,hl with|[_,_,_],_=>rfl
 have F_19:=ZO (st:=PM) l_19 c_19 k_19
 have b_19:=F_19.binds (ps:=["self","at","goal"]) fun _ _ _ _ _ _ us hl=>match us,hl with|[_,_,_],_=>rfl
 have F_20:=ZO (st:=OJ) l_20 c_20 k_20
 have b_20:=F_20.binds (ps:=["self","at","goal"]) fun _ _ _ _ _ _ us hl=>match us,hl with|[_,_,_],_=>rfl
 have F_21:=ZO (st:=PO) l_21 c_21 k_21
 have b_21:=F_21.binds (ps:=["self","at","helped","goal"]) fun _ _ _ _ _ _ us hl=>match us,hl with|[_,_,_,_],_=>rfl
 have F_22:=ZO (st:=PY) l_22 c_22 k_22
 have b_22:=F_22.binds (ps:=["orders","off","told","k"]) fun _ _ _ _ _ _ us hl=>match us,hl with|[_,_,_,_],_=>rfl
 have F_23:=ZO (st:=Oj) l_23 c_23 k_23
 have b_23:=F_23.binds (ps:=["frame","links","sides","told"]) fun _ _ _ _ _ _ us hl=>match us,hl with|[_,_,_,_],_=>rfl
 have F_24:=ZO (st:=Pc) l_24 c_24 k_24
 have b_24:=F_24.binds (ps:=["self","at"]) fun _ _ _ _ _ _ us hl=>match us,hl with|[_,_],_=>rfl
 have F_25:=ZO (st:=Pu) l_25 c_25 k_25
 have b_25:=F_25.binds (ps:=["self"]) fun _ _ _ _ _ _ us hl=>match us,hl with|[_],_=>rfl
 have F_26:=ZO (st:=OC) l_26 c_26 k_26
 have b_26:=F_26.binds (ps:=["self"]) fun _ _ _ _ _ _ us hl=>match us,hl with|[_],_=>rfl
 have F_27:=ZO (st:=OH) l_27 c_27 k_27
 have b_27:=F_27.binds (ps:=["self","at"]) fun _ _ _ _ _ _ us hl=>match us,hl with|[_,_],_=>rfl
 have F_28:=ZO (st:=Q5) l_28 c_28 k_28
 have b_28:=F_28.binds (ps:=["orders","at"]) fun _ _ _ _ _ _ us hl=>match us,hl with|[_,_],_=>rfl
 have F_29:=ZO (st:=Ov) l_29 c_29 k_29
 have b_29:=F_29.binds (ps:=["orders","helped","goal"]) fun _ _ _ _ _ _ us hl=>match us,hl with|[_,_,_],_=>rfl
 have F_30:=ZO (st:=OG) l_30 c_30 k_30
 have b_30:=F_30.binds (ps:=["orders","at"]) fun _ _ _ _ _ _ us hl=>match us,hl with|[_,_],_=>rfl
 have F_31:=ZO (st:=PU) l_31 c_31 k_31
 have b_31:=F_31.binds (ps:=["orders","helper","at"]) fun _ _ _ _ _ _ us hl=>match us,hl with|[_,_,_],_=>rfl
 have F_32:=ZO (st:=Pf) l_32 c_32 k_32
 have b_32:=F_32.binds (ps:=["orders","at"]) fun _ _ _ _ _ _ us hl=>match us,hl with|[_,_],_=>rfl
 have F_33:=ZO (st:=Oa) l_33 c_33 k_33
 have b_33:=F_33.binds (ps:=["orders","at"]) fun _ _ _ _ _ _ us hl=>match us,hl with|[_,_],_=>rfl
 have F_34:=ZO (st:=Oc) l_34 c_34 k_34
 have b_34:=F_34.binds (ps:=["orders"]) fun _ _ _ _ _ _ us hl=>match us,hl with|[_],_=>rfl
 have F_35:=ZO (st:=Oy) l_35 c_35 k_35
 have b_35:=F_35.binds (ps:=["orders","forces","at"]) fun _ _ _ _ _ _ us hl=>match us,hl with|[_,_,_],_=>rfl
 have F_36:=ZO (st:=Pb) l_36 c_36 k_36
 have b_36:=F_36.binds (ps:=["orders","at","side"]) fun _ _ _ _ _ _ us hl=>match us,hl with|[_,_,_],_=>rfl
 have F_37:=ZO (st:=PH) l_37 c_37 k_37
 have b_37:=F_37.binds (ps:=["orders","at","goal","strength"]) fun _ _ _ _ _ _ us hl=>match us,hl with|[_,_,_,_],_=>rfl
 have F_38:=ZO (st:=Py) l_38 c_38 k_38
 have b_38:=F_38.binds (ps:=["orders","at"]) fun _ _ _ _ _ _ us hl=>match us,hl with|[_,_],_=>rfl
 have F_39:=ZO (st:=Pi) l_39 c_39 k_39
 have b_39:=F_39.binds (ps:=["orders","forces","at"]) fun _ _ _ _ _ _ us hl=>match us,hl with|[_,_,_],_=>rfl
 have F_40:=ZO (st:=Q9) l_40 c_40 k_40
 have b_40:=F_40.binds (ps:=["orders"]) fun _ _ _ _ _ _ us hl=>match us,hl with|[_],_=>rfl
 have F_41:=ZO (st:=P4) l_41 c_41 k_41
 have b_41:=F_41.binds (ps:=["orders","found","at","places"]) fun _ _ _ _ _ _ us hl=>match us,hl with|[_,_,_,_],_=>rfl
 have F_42:=ZO (st:=Om) l_42 c_42 k_42
 have b_42:=F_42.binds (ps:=["orders"]) fun _ _ _ _ _ _ us hl=>match us,hl with|[_],_=>rfl
 have F_43:=ZO (st:=Q3) l_43 c_43 k_43
 have b_43:=F_43.binds (ps:=["orders"]) fun _ _ _ _ _ _ us hl=>match us,hl with|[_],_=>rfl
 have F_44:=ZO (st:=Oi) l_44 c_44 k_44
 have b_44:=F_44.binds (ps:=["found"]) fun _ _ _ _ _ _ us hl=>match us,hl with|[_],_=>rfl
 have F_45:=ZO (st:=Of) l_45 c_45 k_45
 have b_45:=F_45.binds (ps:=["found"]) fun _ _ _ _ _ _ us hl=>match us,hl with|[_],_=>rfl
 have F_46:=ZO (st:=Po) l_46 c_46 k_46
 have b_46:=F_46.binds (ps:=["told","sides","k"]) fun _ _ _ _ _ _ us hl=>match us,hl with|[_,_,_],_=>rfl
 have F_47:=ZO (st:=P9) l_47 c_47 k_47
 have b_47:=F_47.binds (ps:=["told","sides","k"]) fun _ _ _ _ _ _ us hl=>match us,hl with|[_,_,_],_=>rfl
 have F_48:=ZO (st:=PZ) l_48 c_48 k_48
 have b_48:=F_48.binds (ps:=["told","sides","k","goal","side"]) fun _ _ _ _ _ _ us hl=>match us,hl with|[_,_,_,_,_],_=>rfl
 have F_49:=ZO (st:=Q6) l_49 c_49 k_49
 have b_49:=F_49.binds (ps:=["told","sides","k"]) fun _ _ _ _ _ _ us hl=>match us,hl with|[_,_,_],_=>rfl
 have F_50:=ZO (st:=OE) l_50 c_50 k_50
 have b_50:=F_50.binds (ps:=["told","sides","k","kept"]) fun _ _ _ _ _ _ us hl=>match us,hl with|[_,_,_,_],_=>rfl
 have F_51:=ZO (st:=P7) l_51 c_51 k_51
 have b_51:=F_51.binds (ps:=["told","sides","off","rows"]) fun _ _ _ _ _ _ us hl=>match us,hl with|[_,_,_,_],_=>rfl
 have F_52:=ZO (st:=PL) l_52 c_52 k_52
 have b_52:=F_52.binds (ps:=["orders","told","sides","off"]) fun _ _ _ _ _ _ us hl=>match us,hl with|[_,_,_,_],_=>rfl
 have F_53:=ZO (st:=Pj) l_53 c_53 k_53
 have b_53:=F_53.binds (ps:=["script"]) fun _ _ _ _ _ _ us hl=>match us,hl with|[_],_=>rfl
 have T:All K mg ⟨293,246,369,293,131,144,156,168,180,192,298,fun C D=>(W.kitOne K (.ref C) D).getD false,fun O C=>decide (W.exmOne K (.ref C) (.ref O)=some true)⟩ ⟨380,_,394,_,399,_,406,_,411,_,416,_,264,_,271,_,278,_,423,_,208,_,215,_,430,_,312,_,222,_,229,_,319,_,359,_,285,_,366,_,326,_,333,_,437,_,444,_,352,_,345,_,243,_,340,_,26,_,33,_,40,_,47,_,52,_,59,_,78,_,83,_,64,_,90,_,71,_,97,_,104,_,111,_,116,_,121,_,387,_,486,_,451,_,458,_,465,_,472,_,479,_,491,_,496,_,501,_⟩:=⟨⟨pg_Board,hd_Board,po_Board,sa_Board⟩,
  ⟨pg_Map,hd_Map,po_Map,sa_Map⟩,
  ⟨pg_Orders,hd_Orders,po_Orders,sa_Orders⟩,
  n_Board_chart,
  n_Board_units,
  n_Map_links,
  n_Map_size,
  n_Orders_board,
  n_Orders_given,
  ⟨mm_Board,a_10,i_10,kp_Board⟩,
  ⟨mm_Map,a_6,i_6,kp_Map⟩,
  ⟨mm_Orders,a_13,i_13,kp_Orders⟩,
  W.mg_of X G a_Board,
  W.mg_of X G a_Crowded,
  ⟨_,W.mg_of X G v_FACED⟩,
  ⟨_,W.mg_of X G v_FREE⟩,
  ⟨_,W.mg_of X G v_HELD⟩,
  ⟨_,W.mg_of X G v_LAST_SIDE⟩,
  W.mg_of X G a_Map,
  W.mg_of X G a_NoPlace,
  W.mg_of X G a_NoSide,
  W.mg_of X G a_NoUnit,
  W.mg_of X G a_Orders,
  W.mg_of X G a_OutOfReach,
  ⟨_,W.mg_of X G v_RIVAL⟩,
  W.mg_of X G a_STAND,
  GTup.of l_STAND,
  x_Crowded,
  x_NoPlace,
  x_NoSide,
  x_NoUnit,
  x_OutOfReach,
  W.mg_none_of X G z_any,
  W.mg_none_of X G z_bool,
  W.mg_none_of X G z_int,
  W.mg_none_of X G z_isinstance,
  W.mg_none_of X G z_len,
  W.mg_none_of X G z_list,
  W.mg_none_of X G z_range,
  W.mg_none_of X G z_sorted,
  KIsi.of t_bool,
  KIsi.of t_int,
  KIsi.of t_list,
  F_0,
  b_0,
  W.mg_of X G a_0,
  k_0,
  F_1,
  b_1,
  W.mg_of X G a_1,
  k_1,
  F_2,
  b_2,
  W.mg_of X G a_2,
  k_2,
  F_3,
  b_3,
  W.mg_of X G a_3,
  k_3,
  F_4,
  b_4,
  W.mg_of X G a_4,
  k_4,
  F_5,
  b_5,
  W.mg_of X G a_5,
  k_5,
  F_6,
  b_6,
  F_7,
  b_7,
  ⟨a_7,i_7,k_7⟩,
  F_8,
  b_8,
  ⟨a_8,i_8,k_8⟩,
  F_9,
  b_9,
  W.mg_of X G a_9,
  k_9,
  F_10,
  b_10,
  F_11,
  b_11,
  ⟨a_11,i_11,k_11⟩,
  F_12,
  b_12,
  W.mg_of X G a_12,
  k_12,
  F_13,
  b_13,
  F_14,
  b_14,
  ⟨a_14,i_14,k_14⟩,
  F_15,
  b_15,
  ⟨a_15,i_15,k_15⟩,
  F_16,
  b_16,
  ⟨a_16,i_16,k_16⟩,
  F_17,
  b_17,
  ⟨a_17,i_17,k_17⟩,
  F_18,
  b_18,
  ⟨a_18,i_18,k_18⟩,
  F_19,
  b_19,
  ⟨a_19,i_19,k_19⟩,
  F_20,
  b_20,
  ⟨a_20,i_20,k_20⟩,
  F_21,
  b_21,
  ⟨a_21,i_21,k_21⟩,
  F_22,
  b_22,
  W.mg_of X G a_22,
  k_22,
  F_23,
  b_23,
  W.mg_of X G a_23,
  k_23,
  F_24,
  b_24,
  ⟨a_24,i_24,k_24⟩,
  F_25,
  b_25,
  ⟨a_25,i_25,k_25⟩,
  F_26,
  b_26,
  ⟨a_26,i_26,k_26⟩,
  F_27,
  b_27,
  ⟨a_27,i_27,k_27⟩,
  F_28,
  b_28,
  W.mg_of X G a_28,
  k_28,
  F_29,
  b_29,
  W.mg_of X G a_29,
  k_29,
  F_30,
  b_30,
  W.mg_of X G a_30,
  k_30,
  F_31,
  b_31,
  W.mg_of X G a_31,
  k_31,
  F_32,
  b_32,
  W.mg_of X G a_32,
  k_32,
  F_33,
  b_33,
  W.mg_of X G a_33,
  k_33,
  F_34,
  b_34,
  W.mg_of X G a_34,
  k_34,
  F_35,
  b_35,
  W.mg_of X G a_35,
  k_35,
  F_36,
  b_36,
  W.mg_of X G a_36,
  k_36,
  F_37,
  b_37,
  W.mg_of X G a_37,
  k_37,
  F_38,
  b_38,
  W.mg_of X G a_38,
  k_38,
  F_39,
  b_39,
  W.mg_of X G a_39,
  k_39,
  F_40,
  b_40,
  W.mg_of X G a_40,
  k_40,
  F_41,
  b_41,
  W.mg_of X G a_41,
  k_41,
  F_42,
  b_42,
  W.mg_of X G a_42,
  k_42,
  F_43,
  b_43,
  W.mg_of X G a_43,
  k_43,
  F_44,
  b_44,
  W.mg_of X G a_44,
  k_44,
  F_45,
  b_45,
  W.mg_of X G a_45,
  k_45,
  F_46,
  b_46,
  W.mg_of X G a_46,
  k_46,
  F_47,
  b_47,
  W.mg_of X G a_47,
  k_47,
  F_48,
  b_48,
  W.mg_of X G a_48,
  k_48,
  F_49,
  b_49,
  W.mg_of X G a_49,
  k_49,
  F_50,
  b_50,
  W.mg_of X G a_50,
  k_50,
  F_51,
  b_51,
  W.mg_of X G a_51,
  k_51,
  F_52,
  b_52,
  W.mg_of X G a_52,
  k_52,
  F_53,
  b_53,
  W.mg_of X G a_53,
  k_53⟩
 refine ⟨_,?_,fun base _ _=>FY noL (Be T) (Hk _)⟩
 exact fun s v=>.of_eq rfl
theorem walk {l:W.OpenLaw} {q:Program} {loose:List Str} {XP:(Str->Option Value)->Heap->Prop} {d:DefRec} (hn:l.most=some 63) (hdf:d.params.defaults=[]) (hd:d.name="law") :
    W.WalkO q loose XP (W.Hook.says hook) l.row.toRowW d [] (fun f vs=>PySem.call f vs):=by
 refine Att.attach_call hn hdf fun w s₀ s₁ mg mb fa o pm cd doc a vs ns G Y ho hd' hcd hmg hobj hints hlen hg=>?_
 obtain ⟨K,KX,g⟩:=Y
 rw[hd]at hmg
 obtain ⟨fd,hb,hF⟩:=gk_F (l:=l) (w:=w) g KX G.T.g hmg
 exact GL KX G.T.g G.T.b G.T.builtins G.T.nolimit hg hobj hints (Nat.le_trans hlen (by decide)) ⟨rfl,by decide,by decide⟩ hF hb (fun H hO hS=>⟨a,ns,rfl,hS,hlen,fun _=>rfl⟩) fun H e s' ⟨_,_,_,_,_,z⟩=>z
end MP
open PySem PySem.W PyProof.Rows
set_option maxRecDepth 100000 in
set_option maxHeartbeats 0 in
theorem PySem.Challenge.cw_atonce_k10_whole_settled_stands_holds : PySem.Challenge.rw_atonce_k10_whole_settled_stands.Holds := by
 w_on; o_law
 refine PySem.W.holds_open (q:=MP.view) (loose:=[]) (XP:=PySem.W.XL MP.view []) MP.run (PySem.W.Hook.of MP.hook) (PySem.W.Hook.keeps MP.hook) (fun s e=>PySem.W.xl_of s (Bool.and_eq_true_iff.mp e).1) PySem.W.XL.keeps (by rfl) (by rfl) (by rfl) (fun s e=>PySem.W.recFacts_of (Bool.and_eq_true_iff.mp e).2) (by rfl) (by first|assumption|decide +kernel) (by decide +kernel) ⟨rfl,rfl,rfl,rfl,rfl,by decide +kernel⟩ ?hw ?hc
 case hw=>w_witness2
 case hc=>exact MP.walk (l:=PySem.Challenge.rw_atonce_k10_whole_settled_stands) rfl rfl rfl
