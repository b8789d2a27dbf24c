import PyProof.Rows.All
import KE.KIsAll
import OpenK.KLine
import KE.KItem
import OpenK.KRaise
import OpenK.KOwn
import KE.LcSums
import KE.KSortAsk
import KE.KTryMore
import KE.KItemsList
import KE.KSortTup
import Lean
import PyProof.EqAt
import PyProof.EqKinds
import PyProof.TupleCall
import PySem.Challenge.RW_atonce_k13_whole_no_order_of_looking
set_option compiler.extract_closed false
set_option Elab.async false
set_option linter.all false
set_option maxRecDepth 100000
set_option maxHeartbeats 4000000
abbrev aA:=@List.length_map
abbrev aB:=@PySem.wpAny_bind
abbrev aC:=@if_pos
abbrev aD:=@PySem.wpAny_pure
abbrev aE:=@if_neg
abbrev aF:=@PySem.Heap.get?_push_of_some
abbrev aG:=@List.mem_filter
abbrev aH:=@List.getElem?_eq_some_iff
abbrev aI:=@List.getElem?_eq_getElem
abbrev aJ:=@Bool.false_ne_true
abbrev aK:=@Nat.le_refl
abbrev aL:=@decide_eq_false
abbrev aM:=@List.getD_eq_getElem?_getD
abbrev aN:=@List.lookup_cons
abbrev aO:=@PySem.Heap.lt_size
abbrev aP:=@Array.length_toList
abbrev aQ:=@List.getElem?_append_left
abbrev aR:=@List.mem_cons
abbrev aS:=@List.map_map
abbrev aT:=@List.length_append
abbrev aU:=@List.map_cons
abbrev aV:=@List.length_filter_le
abbrev aW:=@PySem.Heap.get?_push_size
abbrev aX:=@List.mem_range
abbrev aY:=@beq_eq_false_iff_ne
abbrev aZ:=@List.mem_map
abbrev bA:=@List.getElem?_map
abbrev bB:=@List.contains_iff_mem
abbrev bC:=@Nat.ne_of_lt
abbrev bD:=@List.getElem?_append_right
abbrev bE:=@Option.isSome_iff_exists
abbrev bF:=@List.size_toArray
abbrev bG:=@of_decide_eq_true
abbrev bH:=@Nat.lt_of_lt_of_le
abbrev bI:=@List.length_cons
abbrev bJ:=@List.pairwise_cons
abbrev bK:=@List.getElem?_eq_none
abbrev bL:=@decide_eq_true
abbrev bM:=@List.mem_of_getElem?
abbrev bN:=@List.getElem?_set_ne
abbrev bO:=@List.pairwise_map
abbrev bP:=@List.length_range
abbrev bQ:=@Bool.and_eq_true_iff
abbrev bR:=@Array.getD_eq_getD_getElem?
abbrev bS:=@List.append_assoc
abbrev bT:=@Bool.and_eq_true
abbrev bU:=@List.set_append_right
abbrev bV:=@List.getElem?_set_self
abbrev bW:=@Option.some.inj
abbrev bX:=@decide_eq_true_iff
abbrev bY:=@List.filter_sublist
abbrev bZ:=@Option.map_eq_some_iff
abbrev ca:=@List.getElem?_range
abbrev cb:=@List.filter_eq_self
abbrev ce:=@Array.getElem?_eq_getElem
abbrev cf:=@PySem.sizeLine_eq
abbrev cg:=@Nat.le_trans
abbrev cj:=@Int.toNat_natCast
abbrev ck:=@List.mem_append_right
abbrev cp:=@PySem.mem_of_lookup
abbrev cq:=@List.map_congr_left
abbrev cu:=@List.map_append
abbrev cv:=@PySem.Heap.get?_update_self
abbrev cw:=@PySem.Heap.SameBut.update
abbrev cx:=@PySem.wpAny_mono
abbrev cy:=@Nat.zero_le
abbrev cz:=@PySem.wpAny_holding
abbrev cA:=@List.length_nil
abbrev cB:=@List.find?_cons
abbrev cC:=@List.append_nil
abbrev cD:=@List.filterMap_cons
abbrev cE:=@congrArg
abbrev cH:=@List.nodup_append
abbrev cI:=@Ne.symm
abbrev cJ:=@PySem.wpAny_setState_of
abbrev cK:=@List.mem_cons_self
abbrev cL:=@List.nodup_cons
abbrev cM:=@List.replicate_succ
abbrev cN:=@PySem.Heap.get?_update_other
abbrev cO:=@forall_congr
abbrev cP:=@List.mem_singleton
abbrev cQ:=@List.all_eq_true
abbrev cR:=@List.mem_cons_of_mem
abbrev cS:=@Nat.lt_irrefl
abbrev cU:=@List.Perm.refl
abbrev cV:=@Bool.eq_iff_iff
abbrev cW:=@List.filter_cons
abbrev cX:=@List.any_eq_true
abbrev cY:=@PySem.F.called_set
abbrev cZ:=@Nat.le_succ
abbrev c8:=@List.getElem?_of_mem
abbrev c9:=@PySem.Obj.data_mapFields
abbrev da:=@Nat.lt_succ_of_lt
abbrev db:=@List.ext_getElem?
abbrev dc:=@List.range_succ
abbrev de:=@List.length_set
abbrev df:=@PySem.F.slot_dict_get
abbrev dq:=@PySem.wpAny_isInstance
abbrev dr:=@PySem.wpAny_call_entry
abbrev du:=@PySem.wpAny_askSetting
abbrev dv:=@List.pairwise_iff_getElem
abbrev dw:=@List.foldl_append
abbrev dy:=@List.flatten_cons
abbrev dA:=@beq_iff_eq
abbrev dB:=@List.any_cons
abbrev dC:=@PyProof.Rows.boot_sorted
abbrev dD:=@PySem.wpAny_newObj_type
abbrev dE:=@List.getElem?_replicate
abbrev dF:=@Array.eq_empty_of_size_eq_zero
abbrev dG:=@PySem.Heap.size_push
abbrev dH:=@List.mem_append
abbrev dI:=@List.cons.inj
abbrev dJ:=@List.length_singleton
abbrev dL:=@List.length_replicate
abbrev dM:=@PySem.tupleKind_room_in1
abbrev dN:=@PySem.wpAny_passesOwn
abbrev dO:=@Array.getElem?_eq_some_iff
abbrev dP:=@Nat.sub_self
abbrev dQ:=@Nat.ne_of_gt
abbrev dR:=@decide_eq_decide
abbrev dS:=@Nat.lt_succ_self
abbrev dU:=@List.nodup_range
abbrev dW:=@PySem.wpAny_truthy_bool
abbrev dX:=@PyProof.Rows.F.plain_set_update_loop
abbrev dY:=@PySem.Around.under_plainId
abbrev dZ:=@List.filterMap_cons_some
abbrev d0:=@Nat.not_lt_zero
abbrev d3:=@Nat.lt_succ_iff
abbrev d4:=@Bool.or_eq_true
abbrev d5:=@PySem.codeAny_mono
abbrev d6:=@Int.emod_lt_of_pos
abbrev d7:=@Bool.false_eq_true
abbrev d8:=@Nat.add_sub_cancel_left
abbrev d9:=@List.pairwise_singleton
abbrev en:=@Nat.zero_add
abbrev er:=@Nat.succ_pos
abbrev et:=@Nat.le_of_lt
abbrev eA:=@bne_self_eq_false
abbrev eB:=@PySem.F.entry_dict_get
abbrev eC:=@List.pairwise_lt_range
abbrev eD:=@PySem.codeAny_builtin
abbrev eE:=@Nat.le_add_right
abbrev eF:=@List.getElem_mem
abbrev eG:=@PySem.filterMap_getElem?_range
abbrev eI:=@Prod.mk.inj
abbrev eJ:=@PySem.wpAny_setField
abbrev eK:=@PySem.isSubtype_type
abbrev eL:=@PySem.wpAny_storeSet_of
abbrev eM:=@PySem.Calls.callWith_builtin
abbrev eN:=@Array.getElem_toList
abbrev eO:=@Option.map_some
abbrev eQ:=@List.nil_append
abbrev eR:=@PySem.Obj.isFreed_of_fields
abbrev eS:=@List.set_set
abbrev eT:=@PyProof.Rows.callWith_type1
abbrev eU:=@Nat.mod_lt
abbrev eV:=@List.nodup_nil
abbrev eW:=@List.find?_eq_none
abbrev eX:=@List.filter_filter
abbrev eY:=@List.filter_append
abbrev eZ:=@PySem.Calls.evalArgs_plain
abbrev ff:=@List.perm_ext_iff_of_nodup
abbrev fg:=@PySem.wpAny_ite_split
abbrev fh:=@List.drop_eq_getElem_cons
abbrev fj:=@Classical.byContradiction
abbrev fq:=@PySem.wpAny_setEntries_of
abbrev fu:=@List.filter_congr
abbrev fw:=@List.any_eq_false
abbrev fF:=@Bool.not_eq_true'
abbrev fG:=@Bool.not_true
abbrev fI:=@Bool.false_or
abbrev fJ:=@List.filterMap_cons_none
abbrev fK:=@PySem.wpAny_Call_Name_kw
abbrev fL:=@List.not_mem_nil
abbrev fM:=@List.length_take
abbrev fO:=@List.isEmpty_nil
abbrev fP:=@PySem.Calls.spliced_cons
abbrev fQ:=@PySem.F.plainAttrs_dict
abbrev fR:=@List.length_eq_zero_iff
abbrev fS:=@Nat.not_lt
abbrev fT:=@List.map_set
abbrev fU:=@PySem.Calls.call_function_entry
abbrev fV:=@Array.toList_filterMap
abbrev fW:=@Array.getElem?_eq_none
abbrev fX:=@PySem.wpAny_setEpoch_of
abbrev fY:=@PySem.Value.isInt_shape
abbrev fZ:=@PySem.PassesOwn.leaving
abbrev f6:=@Int.emod_nonneg
abbrev f7:=@PySem.plainId_quiet
abbrev f8:=@List.filterMap_append
abbrev f9:=@Array.getElem?_toList
abbrev gc:=@Sum.inl.inj
abbrev ge:=@Array.size_map
abbrev gf:=@List.mem_append_left
abbrev gh:=@PySem.intKind_is
abbrev gn:=@PySem.wpAny_typeOf
abbrev gp:=@PySem.call_meetsIn
abbrev gq:=@PySem.W.plainGet_of
abbrev gr:=@PySem.W.hideAll_get
abbrev gu:=@PyProof.Rows.F.entry_set_update_loop
abbrev gv:=@PySem.wpAny_execs_nil
abbrev gw:=@List.all_cons
abbrev gx:=@PySem.builtinLookup_eq_fast
abbrev gy:=@PySem.W.callWith_K
abbrev gz:=@Option.isSome_some
abbrev gA:=@Nat.add_right_comm
abbrev gB:=@List.mem_filterMap
abbrev gC:=@List.length_range'
abbrev gD:=@List.contains_cons
abbrev gE:=@Option.isSome_map
abbrev gG:=@Nat.le_succ_of_le
abbrev gH:=@Option.getD_some
abbrev gI:=@List.range'_succ
abbrev gJ:=@List.drop_length
abbrev gK:=@Array.toList_inj
abbrev gL:=@PySem.wpAny_newList
abbrev gM:=@PySem.Paired.length
abbrev gP:=@List.eq_nil_of_length_eq_zero
abbrev gQ:=@List.of_mem_zip
abbrev gR:=@List.foldl_cons
abbrev gS:=@List.find?_some
abbrev gT:=@List.filter_nil
abbrev gW:=@PySem.wpAny_pyIter_list
abbrev gX:=@PySem.wpAny_pyIter_dict
abbrev gY:=@PySem.wpAny_dictEntries
abbrev gZ:=@PySem.Calls.spliced_nil
abbrev g6:=@Array.perm_iff_toList_perm
abbrev g7:=PySem.Value->PySem.Shared->Prop
abbrev g8:=PySem.Str->Option PySem.Value
abbrev g9:=PySem.W.Frag
abbrev hV:=List (PySem.Addr × PySem.Obj)
abbrev hX:=List (PySem.Str × PySem.Addr)
abbrev hY:=List (Option Int)
abbrev hZ:=List (Int × Int)
abbrev h8:=List (List Int)
abbrev iA:=List PySem.Addr
abbrev iB:=List PySem.Value
abbrev iC:=List Int
abbrev iD:=List Nat
abbrev iE:=List PySem.Str
abbrev iF:=List PySem.Expr
abbrev iG:=List Bool
abbrev iH:=Option PySem.Value
namespace L2
open PySem
def Yu(s:Stmt)(j:Nat):Stmt:=match s with
 |.ClassDef _ _ _ body _ _ _ _ _ _ _=>body.getD j (.Pass ⟨0,0,0,0⟩)
 |_=>.Pass ⟨0,0,0,0⟩
def QI(s:Stmt):Arguments:=match s with
 |.FunctionDef _ a _ _ _ _ _ _ _ _=>a
 |_=>{posonlyargs:=[],args:=[],vararg:=none,kwonlyargs:=[],kw_defaults:=[],kwarg:=none,defaults:=[]}
def UC(s:Stmt):List Stmt:=match s with
 |.FunctionDef _ _ b _ _ _ _ _ _ _=>b
 |_=>[]
def Yx(s:Stmt):Scope:=match s with
 |.FunctionDef _ _ _ _ _ _ sc _ _ _=>sc
 |_=>{kind:=.function,names:=[],isGenerator:=false,isCoroutine:=false}
def tyL:Value->Bool
 |.type s=>s == "list"
 |_=>false
def A7(K:g9):Bool:=K.all λp=>!tyL p.2.cls
def sevenT:List String:=["NoneType","bool","int","str","list","tuple","dict"]
end L2
namespace MP
noncomputable section
open PySem L2
def top(i:Nat):Stmt:=PySem.Challenge.pw_atonce_k13_whole_no_order_of_looking.main.body.getD i (.Pass ⟨0,0,0,0⟩)
abbrev st_0:Stmt:=top 43
abbrev st_1:Stmt:=top 45
abbrev st_2:Stmt:=top 46
abbrev st_3:Stmt:=top 47
abbrev st_4:Stmt:=top 48
abbrev st_5:Stmt:=top 49
abbrev st_6:Stmt:=top 54
abbrev st_7:Stmt:=Yu (top 38) 0
abbrev st_8:Stmt:=Yu (top 38) 1
abbrev st_9:Stmt:=Yu (top 38) 2
abbrev BN:Stmt:=top 50
abbrev B6:Stmt:=Yu (top 10) 0
abbrev AC:Stmt:=Yu (top 10) 1
abbrev BM:Stmt:=top 51
abbrev BJ:Stmt:=Yu (top 41) 0
abbrev AD:Stmt:=Yu (top 10) 2
abbrev As:Stmt:=Yu (top 10) 3
abbrev AO:Stmt:=Yu (top 41) 1
abbrev AT:Stmt:=Yu (top 41) 7
abbrev AS:Stmt:=Yu (top 38) 3
abbrev Ax:Stmt:=Yu (top 41) 8
abbrev Av:Stmt:=Yu (top 41) 2
abbrev B0:Stmt:=Yu (top 41) 3
abbrev Ah:Stmt:=top 52
abbrev Aw:Stmt:=top 53
abbrev BF:Stmt:=top 55
abbrev Ak:Stmt:=Yu (top 41) 6
abbrev BI:Stmt:=Yu (top 41) 5
abbrev AQ:Stmt:=Yu (top 10) 5
abbrev Af:Stmt:=Yu (top 41) 4
abbrev B2:Stmt:=top 12
abbrev AL:Stmt:=top 13
abbrev B8:Stmt:=top 14
abbrev B9:Stmt:=top 15
abbrev Ap:Stmt:=top 16
abbrev BG:Stmt:=top 17
abbrev AR:Stmt:=top 25
abbrev Ac:Stmt:=top 26
abbrev Aq:Stmt:=top 18
abbrev BW:Stmt:=top 27
abbrev Az:Stmt:=top 19
abbrev AB:Stmt:=top 28
abbrev AK:Stmt:=top 29
abbrev Al:Stmt:=top 30
abbrev Ao:Stmt:=top 31
abbrev B4:Stmt:=top 32
abbrev BY:Stmt:=top 35
abbrev BH:Stmt:=top 34
abbrev B5:Stmt:=Yu (top 36) 0
abbrev BO:Stmt:=Yu (top 36) 1
abbrev Au:Stmt:=Yu (top 36) 2
abbrev AI:Stmt:=Yu (top 36) 3
abbrev EZ:Stmt:=top 56
def UJ(as:iA)(h:Heap):W.Frag:=as.filterMap λa=>(h.get? a).map λo=>(a,o)
def Nv(h:Heap):∀as:iA,(UJ as h).In h
 |[],_,_,e=>by simp[UJ]at e
 |a::as,b,o,e=>by
  have ih:=Nv h as b o;unfold UJ at e ih;cases hg:h.get? a with
  |none=>simp only[cD,hg,Option.map_none]at e;exact ih e
  |some v=>
   simp only[cD,hg,eO,aN]at e;by_cases hb:b=a
   ·subst hb;simp at e;rw[hg,e]
   ·have:(b == a)=false:=by simpa using hb
    rw[this]at e;exact ih e
def nth{α:Type}:List α->Nat->Option α
 |[],_=>none
 |a::_,0=>some a
 |_::l,n+1=>nth l n
def nrm(f:FuncData):FuncData:={f with kwdefaults:=.none,doc:=.none,pyModule:=.none,annotations:=none,code:=.none,closureTuple:=.none}
def fnV(K:W.Frag)(f:Addr)(q:Str):Option (FuncData × Bool):=match K.lookup f with
 |some ⟨_,_,.func d,_⟩=>some (nrm d,W.codeIn K d.code q)
 |_=>none
def obK(K:W.Frag)(f:Addr):Obj:=(K.lookup f).getD default
def fdK(K:W.Frag)(f:Addr):FuncData:=match (obK K f).data with|.func d=>d|_=>default
def D7{K:W.Frag}{f:Addr}{q n q':Str}{a:Arguments}{b:List Stmt}{s:Scope}(h:fnV K f q=some (nrm (W.fnOf n q' a b s .none .none .none .none none .none .none),true)):K.lookup f=some ⟨(obK K f).cls,(obK K f).dict,.func (W.fnOf n q' a b s .none (fdK K f).kwdefaults (fdK K f).doc (fdK K f).pyModule (fdK K f).annotations (fdK K f).code (fdK K f).closureTuple),(obK K f).slots⟩∧W.codeIn K (fdK K f).code q=true:=by
 unfold fnV at h;cases hl:K.lookup f with
 |none=>rw[hl]at h;cases h
 |some v=>
  obtain⟨c,d,dt,sl⟩:=v;rw[hl]at h;cases dt with
  |func fd=>
   obtain⟨h1,h2⟩:=eI (bW h);have e1:obK K f=⟨c,d,.func fd,sl⟩:=by simp[obK,hl]
   have e2:fdK K f=fd:=by simp[fdK,e1]
   rw[e2,e1];refine⟨?_,h2⟩;obtain⟨x1,x2,x3,x4,x5,x6,x7,x8,x9,mX,oM,oN,oO,oP,oQ⟩:=fd;unfold nrm at h1;injection h1 with y1 y2 y3 y4 y5 y6 y7 y8 _ _ _ _ _ _ y15
   dsimp only at y1 y2 y3 y4 y5 y6 y7 y8 y15;subst y1 y2 y3 y4 y5 y6 y7 y8 y15;rfl
  |_=>cases h
def C2(x:Option (iH)):Option Int:=match x with|some (some (.int i _))=>some i|_=>none
def int_l{x:Option (iH)}{i:Int}(h:C2 x=some i):∃t,x=some (some (.int i t)):=by
 unfold C2 at h;split at h
 ·cases h;exact⟨_,rfl⟩
 ·cases h
def tupV(K:W.Frag)(a:Addr):Option (String × Str):=match K.lookup a with
 |some ⟨.type t,_,.seq vs _,_⟩=>(match vs.toList with|[.str x _]=>some (t,x)|_=>none)
 |_=>none
def tup_l{K:W.Frag}{a:Addr}{t:String}{x:Str}(h:tupV K a=some (t,x)):∃od n tk sl,K.lookup a=some ⟨.type t,od,.seq #[.str x tk] n,sl⟩:=by
 unfold tupV at h;split at h
 ·rename_i od vs n sl hl
  split at h
  ·rename_i y tk hv
   cases h;have:vs=#[.str x tk]:=gK.mp (by rw[hv]);subst this;exact⟨_,_,_,_,hl⟩
  ·cases h
 ·cases h
abbrev yRF:Type:=Option Addr × Str × Addr × Str × Stmt
abbrev yRN:Type:=Option Addr × Str × iH
abbrev yTF:Type:=Option (iH) × Bool × Option (FuncData × Bool)
abbrev yrG(n:Str)(f:Addr)(s:Stmt):yRF:=(none,n,f,n,s)
abbrev yrM(C:Addr)(n:Str)(f:Addr)(q:Str)(s:Stmt):yRF:=(some C,n,f,q,s)
abbrev ynC(n:Str)(a:Addr):yRN:=(none,n,some (.ref a))
abbrev ynS(C:Addr):yRN:=(some C,"__setattr__",some (.builtin "object.__setattr__"))
abbrev ynD(C:Addr)(n:Str):yRN:=(some C,n,none)
abbrev ynZ(n:Str):yRN:=(none,n,none)
def ylk(K:W.Frag)(C:Option Addr)(n:Str):Option (iH):=match C with
 |none=>W.nsIn K mainGlobals n
 |some C=>W.findIn K (.ref C) n
def Jy(K:W.Frag):List yRF->List yTF
 |[]=>[]
 |(C,n,f,q,_)::l=>(ylk K C n,W.isFn K (.ref f)&&W.keepIn K (.ref f),fnV K f q)::Jy K l
def JP(r:yRF):yTF:=(some (some (.ref r.2.2.1)),true,some (nrm (W.fnOf r.2.1 r.2.2.2.1 (QI r.2.2.2.2) (UC r.2.2.2.2) (Yx r.2.2.2.2) .none .none .none .none none .none .none),true))
def G3(K:W.Frag):List yRN->List (Option (iH))
 |[]=>[]
 |(C,n,_)::l=>ylk K C n::G3 K l
def yobB(K:W.Frag)(cs es:iA):Bool:=cs.all (λC=>W.plainGet K C Str.empty&&(W.hasDictIn K C&&(W.plainOver K C&&(W.makesIn K C&&W.keepIn K (.ref C)))))&&(es.all (λC=>W.excIn K C [.type "ValueError",.type "Exception",.type "BaseException",.type "object"] "ValueError.__new__")&&A7 K)
def D6(K:W.Frag):List (Str × Int)->List (Option Int)
 |[]=>[]
 |(n,_)::l=>C2 (W.nsIn K mainGlobals n)::D6 K l
def ytF:List yRF:=[yrG "_law_cell_at" 444 st_0,yrG "_law_frame" 458 st_1,yrG "_law_links" 463 st_2,yrG "_law_sides" 470 st_3,yrG "_law_order_by" 475 st_4,yrG "_law_orders" 480 st_5,yrG "_law_world" 513 st_6,yrM 357 "__init__" 328 "Map.__init__" st_7,yrM 357 "need_place" 335 "Map.need_place" st_8,yrM 357 "link" 342 "Map.link" st_9,yrG "_law_chart" 487 BN,yrM 146 "__init__" 108 "Board.__init__" B6,yrM 146 "post" 115 "Board.post" AC,yrG "_law_board" 494 BM,yrM 433 "__init__" 376 "Orders.__init__" BJ,yrM 146 "side_at" 122 "Board.side_at" AD,yrM 146 "need_unit" 129 "Board.need_unit" As,yrM 433 "stand" 383 "Orders.stand" AO,yrM 433 "need_all" 423 "Orders.need_all" AT,yrM 357 "beside" 349 "Map.beside" AS,yrM 433 "need_beside" 430 "Orders.need_beside" Ax,yrM 433 "move" 390 "Orders.move" Av,yrM 433 "aid" 397 "Orders.aid" B0,yrG "_law_give" 501 Ah,yrG "_law_given" 508 Aw,yrG "_law_other" 520 BF,yrM 433 "goal_of" 416 "Orders.goal_of" Ak,yrM 433 "movers" 409 "Orders.movers" BI,yrM 146 "roll" 143 "Board.roll" AQ,yrM 433 "told" 404 "Orders.told" Af,yrG "is_cut" 155 B2,yrG "fits" 162 AL,yrG "counts" 169 B8,yrG "backs" 176 B9,yrG "backing" 181 Ap,yrG "force" 188 BG,yrG "weigh_movers" 207 AR,yrG "is_outdone" 212 Ac,yrG "force_against" 193 Aq,yrG "overcomes" 219 BW,yrG "firmness" 200 Az,yrG "hindrance" 226 AB,yrG "hindrances" 233 AK,yrG "fault" 240 Al,yrG "strikes" 245 Ao,yrG "settled" 250 B4,yrG "units_after" 262 BY,yrG "posted_board" 257 BH,yrM 310 "__init__" 274 "Turn.__init__" B5,yrM 310 "done" 281 "Turn.done" BO,yrM 310 "aside" 286 "Turn.aside" Au,yrM 310 "shut" 293 "Turn.shut" AI,yrG "law" 525 EZ]
def ytN:List yRN:=[ynC "Board" 146,ynS 146,ynD 146 "chart",ynD 146 "units",ynC "Map" 357,ynS 357,ynD 357 "links",ynD 357 "size",ynC "Orders" 433,ynS 433,ynD 433 "board",ynD 433 "given",ynC "Turn" 310,ynS 310,ynD 310 "board",ynD 310 "closed",ynD 310 "comers",ynD 310 "goals",ynD 310 "pushed",ynC "Crowded" 68,ynC "NoPlace" 44,ynC "NoSide" 56,ynC "NoUnit" 80,ynC "OutOfReach" 92,ynC "STAND" 362,ynZ "any",ynZ "len",ynZ "list",ynZ "max",ynZ "min",ynZ "range",ynZ "set",ynZ "sorted"]
def ytI:List (Str × Int):=[("FACED",2),("FREE",0),("HELD",3),("LAST_SIDE",7),("RIVAL",1)]
abbrev OT:Type:=List yTF × List (Option (iH)) × Bool × hY × Option (String × Str)
def Ju(K:W.Frag):OT:=(Jy K ytF,G3 K ytN,yobB K [146,357,433,310] [68,44,56,80,92],D6 K ytI,tupV K 362)
def Bw:OT:=(ytF.map JP,ytN.map λr=>some r.2.2,true,ytI.map λr=>some r.2,some ("tuple","stand"))
def GK(K:W.Frag):Prop:=Ju K=Bw
def asK:iA:=[2,3,15,17,18,20,21,22,29,30,31,32,35,42,43,44,47,54,55,56,59,66,67,68,71,78,79,80,83,90,91,92,102,104,105,107,108,109,111,112,114,115,116,118,119,121,122,123,125,126,128,129,130,132,133,135,136,137,139,140,142,143,144,145,146,147,148,151,154,155,156,158,159,161,162,163,165,166,168,169,170,172,173,175,176,177,180,181,182,184,185,187,188,189,192,193,194,196,197,199,200,201,203,204,206,207,208,211,212,213,215,216,218,219,220,222,223,225,226,227,229,230,232,233,234,236,237,239,240,241,244,245,246,249,250,251,253,254,256,257,258,261,262,270,273,274,275,277,278,280,281,282,285,286,287,289,290,292,293,294,296,297,299,300,301,303,304,306,307,308,309,310,311,312,322,324,325,327,328,329,331,332,334,335,336,338,339,341,342,343,345,346,348,349,350,353,354,355,356,357,358,359,362,370,372,373,375,376,377,379,380,382,383,384,386,387,389,390,391,393,394,396,397,398,400,401,403,404,405,408,409,410,412,413,415,416,417,419,420,422,423,424,426,427,429,430,431,432,433,434,435,438,440,441,443,444,452,454,455,457,458,459,462,463,464,466,467,469,470,471,474,475,476,479,480,481,483,484,486,487,488,490,491,493,494,495,497,498,500,501,502,504,505,507,508,509,512,513,514,516,517,519,520,521,524,525]
def hook:W.Hook:=⟨OT,λs=>Ju (UJ asK s.heap),λ_=>Bw,λ_ h=>∃K:W.Frag,K.In h∧GK K,λ_ s e=>⟨_,Nv s.heap asK,e⟩,λ_ _ _ ⟨K,x,g⟩ k=>⟨K,W.Frag.In.keeps x k,g⟩⟩
def view:Program:={PySem.Challenge.pw_atonce_k13_whole_no_order_of_looking with main:={PySem.Challenge.pw_atonce_k13_whole_no_order_of_looking.main with body:=[top 0,top 2,top 3,top 4,top 5,top 6,top 7,top 9,top 10,top 12,top 13,top 14,top 15,top 16,top 17,top 18,top 19,top 21,top 22,top 23,top 24,top 25,top 26,top 27,top 28,top 29,top 30,top 31,top 32,top 34,top 35,top 36,top 38,top 40,top 41,top 43,top 44,top 45,top 46,top 47,top 48,top 49,top 50,top 51,top 52,top 53,top 54,top 55,top 56]}}
def Q0{α β γ:Type}{x:Option α}{f:α->β}{g:α->γ}{a:β}{b:γ}(h1:x.map f=some a)(h2:x.map g=some b):x.map (λs=>(f s,g s))=some (a,b):=by
 cases x with
 |none=>cases h1
 |some v=>simp only[eO,Option.some.injEq]at h1 h2 ⊢;rw[h1,h2]
def Xt(s:Shared):Bool:=W.xlAt view [] s&&W.recOk (W.RowW.records PySem.Challenge.rw_atonce_k13_whole_no_order_of_looking.row.toRowW) s
def rT(tb:String->Option Builtin)(q:Program)(v:World)(m:Nat)(an:iH):Nat->W.SharedT->Thread->Option W.SharedT
 |0,_,_=>none
 |i+1,x,y=>match W.through y with
  |true=>some x
  |false=>match W.stepOk m an y with
   |false=>none
   |true=>match W.stepT (denote tb) q v x y with
    |some (x',y')=>rT tb q v m an i x' y'
    |none=>none
def Ad{tb:String->Option Builtin}{q:Program}{v:World}{m:Nat}{an:iH}:∀{i:Nat} {x x':W.SharedT} {y:Thread},rT tb q v m an i x y=some x'->W.topRun tb q v m an i x.abs y=some x'.abs
 |0,_,_,_,h=>by cases h
 |i+1,x,x',y,h=>by
  unfold rT at h;unfold W.topRun;cases ht:W.through y with
  |true=>rw[ht]at h;cases h;rfl
  |false=>
   rw[ht]at h;cases hk:W.stepOk m an y with
   |false=>rw[hk]at h;cases h
   |true=>
    rw[hk]at h;cases hs:W.stepT (denote tb) q v x y with
    |none=>rw[hs]at h;cases h
    |some r=>obtain⟨x2,y2⟩:=r;rw[hs]at h;rw[W.stepT_spec hs];exact Ad h
def Ha:List Obj->Nat->W.BT->Option W.BT
 |[],_,t=>some t
 |o::l,n,t=>match ((t.ins n o).get n).isSome with
  |true=>Ha l (n+1) (t.ins n o)
  |false=>none
def KI{lf:Life}:∀{l:List Obj} {n:Nat} {t t':W.BT},Ha l n t=some t'->(W.absHeap t' (n+l.length) lf).objs.toList=(W.absHeap t n lf).objs.toList++l
 |[],n,t,t',h=>by cases h;simp
 |o::l,n,t,t',h=>by
  unfold Ha at h;split at h
  ·rename_i e
   have ih:=KI (lf:=lf) h;rw[W.absHeap_ins e]at ih;have:n+(o::l).length=n+1+l.length:=by simp;omega
   rw[this,ih];show((W.absHeap t n lf).objs.push o).toList++l=_;simp
  ·cases h
def goT(q:Program)(v:World)(m:Nat)(an:iH)(i:Nat)(os:OsState):Option W.SharedT:=
 (Ha (W.boot_heap v.params).objs.toList 0 .nil).bind λt=>rT treeTable q v m an i ⟨t,m,(W.boot_heap v.params).life,Array.mk [],W.boot_drawn,W.boot_toks,os⟩ (W.topStub q)
def okT(q:Program)(v:World)(s:Shared):Bool:=W.staticsOk (PySem.importedModules q.main.body) (W.boot_heap v.params) s.heap&&W.namesBound q s.heap&&W.gensDone s&&W.laidKept (W.boot_heap v.params) s.heap
def leftT{p q:Program}{loose:iE}{Xt:Shared->Bool}{α:Type}{Yf:Shared->α}{Ya:World->α}{N m:Nat}{an:iH}(e:W.opening p=W.plainProg p.main.scope.names) (hN:Nat.ble 600 N=true) (f:∀s,fenceModules? p s=some s)(z:∀w:World,((W.boot_heap w.params).isNs mainGlobals,(W.boot_heap w.params).objs.toList.length,(W.boot_heap w.params).nsMap mainGlobals "__annotations__")=(true,m,an))(run:∀(w:World) (os:OsState),(goT p w m an N os).map (λx=>(okT p w x.abs,W.openSeen q loose (PySem.importedModules p.main.body) Xt true x.abs,Yf x.abs))=some (true,W.openGood q loose,Ya w)):W.LeftO p q loose Xt Yf Ya N:=λw=>by
 obtain⟨⟨h,gs,d,k,os⟩,o,o'⟩:=bZ.mp (W.boot_open e hN f w);obtain⟨rfl,rfl,rfl,rfl⟩:h=W.boot_heap w.params∧gs=Array.mk []∧d=W.boot_drawn∧k=W.boot_toks:=by simpa using o'
 obtain⟨z1,z2,z3⟩:_∧_∧_:=by simpa only [Prod.mk.injEq] using z w
 obtain⟨x,hx,hv⟩:=bZ.mp (run w os);obtain⟨l1,l2,l3⟩:_∧_∧_:=by simpa only [Prod.mk.injEq] using hv
 obtain⟨t,ht,hr⟩:=Option.bind_eq_some_iff.mp hx;have r:=Ad hr;have hp:=KI (lf:=(W.boot_heap w.params).life) ht;rw[z2,en]at hp
 have ha:W.absHeap t m (W.boot_heap w.params).life=W.boot_heap w.params:=by
  have:(W.absHeap t m (W.boot_heap w.params).life).objs=(W.boot_heap w.params).objs:=gK.mp (by rw[hp];simp[W.absHeap,W.BT.list]);exact cE (λo=>Heap.mk o (W.boot_heap w.params).life) this
 have hs:(W.boot_heap w.params).objs.size=m:=by rw[← z2];simp
 unfold W.SharedT.abs at r;dsimp only at r;rw[ha]at r
 have tt:W.topFrom treeTable p w N ⟨W.boot_heap w.params,Array.mk [],W.boot_drawn,W.boot_toks,os⟩=some x.abs:=by
  unfold W.topFrom;dsimp only;rw[z1,z3,hs,r];show(match okT p w x.abs with|true=>some x.abs|false=>none)=_;rw[l1]
 unfold W.openEnds;rw[o];show(W.topFrom treeTable p w N _).map _=_;rw[tt];exact cE some (Prod.ext l2 l3)
def getT(t:W.BT)(n a:Nat):Option Obj:=match Nat.blt a n with
 |true=>W.alive ((t.get a).getD default)
 |false=>none
def FZ(t:W.BT)(n:Nat)(lf:Life)(a:Nat):(W.absHeap t n lf).get? a=getT t n a:=by
 unfold getT;by_cases h:a<n
 ·have:Nat.blt a n=true:=by simpa [Nat.blt_eq] using h
  rw[this];unfold Heap.get?;rw[W.absHeap_at,aC h];generalize (t.get a).getD default=o;show(match some o with|some ⟨_,_,.freed,_⟩=>none|o=>o)=W.alive o;obtain⟨c,d,dt,sl⟩:=o;cases dt <;> rfl
 ·have:Nat.blt a n=false:=by
   cases hb:Nat.blt a n with
   |false=>rfl
   |true=>exact absurd (by simpa [Nat.blt_eq] using hb) h
  rw[this,W.abs_get_none h]
def IX(as:iA)(t:W.BT)(n:Nat):W.Frag:=as.filterMap λa=>(getT t n a).map λo=>(a,o)
def Gf(as:iA)(t:W.BT)(n:Nat)(lf:Life):UJ as (W.absHeap t n lf)=IX as t n:=by
 unfold UJ IX;simp only[FZ]
def z_ok(w:World):((W.boot_heap w.params).isNs mainGlobals,(W.boot_heap w.params).objs.toList.length,(W.boot_heap w.params).nsMap mainGlobals "__annotations__")=(true,11,(some (.ref 6))):=by kernel_rfl
set_option maxRecDepth 100000 in
set_option maxHeartbeats 0 in
def run_o(w:World)(os:OsState):Option.map (λx=>okT PySem.Challenge.pw_atonce_k13_whole_no_order_of_looking w x.abs) (goT PySem.Challenge.pw_atonce_k13_whole_no_order_of_looking w 11 (some (.ref 6)) 8028 os)=some true:=by kernel_rfl
set_option maxRecDepth 100000 in
set_option maxHeartbeats 0 in
def run_a(w:World)(os:OsState):Option.map (λx=>(W.openSeen view [] (PySem.importedModules PySem.Challenge.pw_atonce_k13_whole_no_order_of_looking.main.body) Xt true x.abs).1) (goT PySem.Challenge.pw_atonce_k13_whole_no_order_of_looking w 11 (some (.ref 6)) 8028 os)=some (W.openGood view []).1:=by kernel_rfl
set_option maxRecDepth 100000 in
set_option maxHeartbeats 0 in
def run_c(w:World)(os:OsState):Option.map (λx=>(W.openSeen view [] (PySem.importedModules PySem.Challenge.pw_atonce_k13_whole_no_order_of_looking.main.body) Xt true x.abs).2) (goT PySem.Challenge.pw_atonce_k13_whole_no_order_of_looking w 11 (some (.ref 6)) 8028 os)=some (W.openGood view []).2:=by kernel_rfl
set_option maxRecDepth 100000 in
set_option maxHeartbeats 0 in
def run_f(w:World)(os:OsState):Option.map (λx=>Ju (IX asK x.tree x.n)) (goT PySem.Challenge.pw_atonce_k13_whole_no_order_of_looking w 11 (some (.ref 6)) 8028 os)=some Bw:=by kernel_rfl
def Bo:(λx:W.SharedT=>Ju (IX asK x.tree x.n))=λx=>Ju (UJ asK x.abs.heap):=funext λx=>cE Ju (Gf asK x.tree x.n x.life).symm
def run_g(w:World)(os:OsState):Option.map (λx=>Ju (UJ asK x.abs.heap)) (goT PySem.Challenge.pw_atonce_k13_whole_no_order_of_looking w 11 (some (.ref 6)) 8028 os)=some Bw:=Bo ▸ run_f w os
def run:W.LeftO PySem.Challenge.pw_atonce_k13_whole_no_order_of_looking view [] Xt (W.Hook.obs hook) (W.Hook.val hook) 8028:=leftT (by kernel_rfl) (by decide) (λ_=>rfl) z_ok λw os=>Q0 (run_o w os) (Q0 (Q0 (run_a w os) (run_c w os)) (run_g w os))
end
end MP
namespace L2
open PySem PySem.Spec PyProof.Rows
abbrev Key:=Sum Int Str
def PO:Key->Value->Bool
 |.inl k,v=>Value.isInt k v
 |.inr x,v=>Value.isStrOf x v
def keyH(w:World):Key->Int
 |.inl k=>hashInt k
 |.inr x=>hashStr w x
def YQ:∀{k:Key} {v:Value},PO k v=true->(∃i t,k=Sum.inl i∧v=Value.int i t)∨(∃x t,k=Sum.inr x∧v=Value.str x t)
 |.inl i,v,h=>by
  obtain⟨t,e⟩:=fY (k:=i) (v:=v) h;exact .inl ⟨i,t,rfl,e⟩
 |.inr x,v,h=>by
  obtain⟨t,e⟩:=Value.isStrOf_shape (x:=x) (v:=v) h;exact .inr ⟨x,t,rfl,e⟩
def Gq(i:Int)(t:Tok):PO (.inl i) (.int i t)=true:=by simp[PO,Value.isInt]
def HQ(x:Str)(t:Tok):PO (.inr x) (.str x t)=true:=by simp[PO,Value.isStrOf]
def key_ll(a b:Int):decide ((Sum.inl a:Key)=Sum.inl b)=(a == b):=by
 by_cases e:a=b
 ·subst e;simp
 ·have h:¬ (Sum.inl a:Key)=Sum.inl b:=λq=>e (gc q)
  rw[aL h];exact(aY.mpr e).symm
def A6(a b:Str):decide ((Sum.inr a:Key)=Sum.inr b)=decide (a=b):=by
 by_cases e:a=b
 ·subst e;simp
 ·have h:¬ (Sum.inr a:Key)=Sum.inr b:=λq=>e (Sum.inr.inj q)
  rw[aL h,aL e]
def key_lr(a:Int)(b:Str):decide ((Sum.inl a:Key)=Sum.inr b)=false:=aL (λq=>nomatch q)
def key_rl(a:Str)(b:Int):decide ((Sum.inr a:Key)=Sum.inl b)=false:=aL (λq=>nomatch q)
def ZT(prog:Program)(w:World):PySem.KeyKind prog w Key where
 is:=PO
 hash:=keyH w
 inj:=λv a b ha hb=>by
  rcases YQ ha with ⟨i,t,rfl,rfl⟩|⟨x,t,rfl,rfl⟩
  ·rcases YQ hb with ⟨j,u,rfl,e⟩|⟨y,u,rfl,e⟩
   ·injection e with e1 _;rw[e1]
   ·exact nomatch e
  ·rcases YQ hb with ⟨j,u,rfl,e⟩|⟨y,u,rfl,e⟩
   ·exact nomatch e
   ·injection e with e1 _;rw[e1]
 byValue:=λk v h=>by
  rcases YQ h with ⟨i,t,rfl,rfl⟩|⟨x,t,rfl,rfl⟩ <;> rfl
 pyHash:=λhv h=>by
  rcases YQ hv with ⟨i,t,rfl,rfl⟩|⟨x,t,rfl,rfl⟩
  ·exact wpAny_pyHash_int h
  ·exact wpAny_pyHash_str h
 eqBool:=λhu hv h=>by
  rcases YQ hu with ⟨i,t,rfl,rfl⟩|⟨x,t,rfl,rfl⟩
  ·rcases YQ hv with ⟨j,u,rfl,rfl⟩|⟨y,u,rfl,rfl⟩
   ·rw[key_ll]at h;exact wpAny_eqBool_int h
   ·rw[key_lr]at h;exact SeqAt.EqAt.int_str i t y u _ _ _ _ h
  ·rcases YQ hv with ⟨j,u,rfl,rfl⟩|⟨y,u,rfl,rfl⟩
   ·rw[key_rl]at h;exact SeqAt.EqAt.str_int x t j u _ _ _ _ h
   ·rw[A6]at h;exact wpAny_eqBool_str h
 «strs»:=λk x t v h=>by
  rcases YQ h with ⟨i,u,rfl,e⟩|⟨y,u,rfl,e⟩
  ·exact nomatch e
  ·injection e with e1 _
   subst e1;cases v <;> rfl
def KQ(prog:Program)(w:World)(i:Int)(t:Tok):(ZT prog w).is (.inl i) (.int i t)=true:=Gq i t
def K0(prog:Program)(w:World)(x:Str)(t:Tok):(ZT prog w).is (.inr x) (.str x t)=true:=HQ x t
inductive V where
 |non|bl (b:Bool)|int (i:Int)|str (x:Str)|byt (b:Array UInt8)|flt (b:UInt64)|ref (a:Addr)|ty (n:String)
 deriving DecidableEq
abbrev iI:=List V
def RelV:V->Value->Prop
 |.non,u=>u=Value.none
 |.bl b,u=>u=Value.bool b
 |.int i,u=>∃t,u=Value.int i t
 |.str x,u=>∃t,u=Value.str x t
 |.byt b,u=>∃t,u=Value.bytes b t
 |.flt b,u=>∃t,u=Value.float b t
 |.ref a,u=>u=Value.ref a
 |.ty n,u=>u=Value.type n
abbrev Vals:iI->List Value->Prop:=Paired RelV
def Vals.length{xs:iI}{us:iB}(r:Vals xs us):xs.length=us.length:=gM r
def Vals.get:∀{xs:iI} {us:iB} {i:Nat} {x:V},Vals xs us->xs[i]?=some x->∃u,us[i]?=some u∧RelV x u
 |_,_,_,_,.nil,e=>by simp at e
 |_,_,0,_,.cons r _,e=>by simp at e;subst e;exact⟨_,rfl,r⟩
 |_,_,i+1,x,.cons _ t,e=>by
  obtain⟨u,h1,h2⟩:=Vals.get (i:=i) (x:=x) t (by simpa using e);exact⟨u,by simpa using h1,h2⟩
def Vals.set{x:V}{u:Value}(r:RelV x u):∀{xs:iI} {us:iB} (i:Nat),Vals xs us->Vals (xs.set i x) (us.set i u)
 |_,_,_,.nil=>.nil
 |_,_,0,.cons _ t=>.cons r t
 |_,_,i+1,.cons q t=>.cons q (Vals.set r i t)
def Vals.append:∀{xs ys:iI} {us ws:iB},Vals xs us->Vals ys ws->Vals (xs++ys) (us++ws)
 |_,_,_,_,.nil,s=>s
 |_,_,_,_,.cons r t,s=>.cons r (Vals.append t s)
def RelO:Option V->Option Value->Prop
 |some v,some u=>RelV v u
 |none,none=>True
 |_,_=>False
def KV{κ:Type}:List (κ × V)->List (κ × Value)->Prop:=Paired λ(p:κ × V) (q:κ × Value)=>p.1=q.1∧RelV p.2 q.2
def kV:Key->V
 |.inl i=>.int i
 |.inr x=>.str x
inductive HO where
 |lst (xs:iI)
 |tup (xs:iI)
 |dK (kvs:List (Key × V))|dT (kvs:List (List Key × V))
 |set (S:Int->Bool) (n:Nat)
 |ins (C dx:Addr) (fs:List (Str × V))
 |own (x:Addr)
 |xd (fs:List (Str × V))
 |met (f x:Addr)
 |rng (lo hi:Int)
 |frz (o:Obj) (u:HO)
 |tbl (ps:Array Value)
 |ext (φ:Heap->Prop)
abbrev Hp:=Addr->Option HO
def upd(H:Hp)(a:Addr)(o:HO):Hp:=λb=>if b=a then some o else H b
def ZC{H:Hp}{a:Addr}{o:HO}:upd H a o a=some o:=by unfold upd;rw[aC rfl]
def Zx{H:Hp}{a b:Addr}{o:HO}(h:b≠a):upd H a o b=H b:=by unfold upd;rw[aE h]
def Ik{H:Hp}{a:Addr}{o u:HO}:upd (upd H a o) a u=upd H a u:=by
 funext b;unfold upd;split <;> rfl
def ne_of{H:Hp}{a b:Addr}{o u:HO}(h:H a=some o)(h':H b=some u)(d:o≠u):a≠b:=by
 intro e;subst e;rw[h]at h';exact d (bW h')
def ZX{H:Hp}{a b:Addr}{o:HO}(h:H a=some o)(h':H b=none):a≠b:=by
 intro e;subst e;rw[h]at h';cases h'
section
variable(P:Program)(w:World)
def ObjOk(H:Hp)(h:Heap)(a:Addr):HO->Prop
 |.lst xs=>xs.length<=sizeLine∧∃(ik:iB) (n:Nat),Vals xs ik∧h.get? a=some {cls:=.type "list",data:=.seq ik.toArray n}
 |.tup xs=>xs.length<=sizeLine∧∃ik:iB,Vals xs ik∧IsTup h a ik.toArray
 |.dK kvs=>kvs.length<=sizeLine∧(a == sysModules)=false∧∃vs,KV kvs vs∧h.DictOf (ZT P w) a vs
 | .dT kvs => kvs.length <= sizeLine ∧ (a == sysModules) = false ∧ ∃ xs : List (List Key × Addr × Value),
     Paired (λ(p:List Key × V) (q:List Key × Addr × Value)=>p.1=q.1∧H q.2.1=some (.tup (p.1.map kV))∧RelV p.2 q.2.2) kvs xs ∧
     ∃o es ep,h.get? a=some o∧o.ExactDict∧o.data=.dict es ep∧es.toList=xs.map (entryOfKey (tupleKind (ZT P w)))∧(xs.map (·.1)).Nodup
 |.set S n=>h.SetOf (intKind P w) a S n
 | .ins C dx fs => H dx = some (.own a) ∧ fs.length <= 1000 ∧ dx ≠ a ∧ h.get? a = some (PySem.W.instObj C dx) ∧
     ∃mA,h.Ns1 dx mA∧(∀f,RelO (fs.lookup f) (mA f))∧PySem.Within mA (fs.map (·.1))
 |.own _=>∃o,h.get? a=some o
 |.xd fs=>∃mA,h.Ns1 a mA∧∀f,RelO (fs.lookup f) (mA f)
 |.rng lo hi=>∃t u v,h.get? a=some {cls:=.type "range",data:=.fields #[.int lo t,.int hi u,.int 1 v]}
 |.frz o u=>h.get? a=some o∧ObjOk H h a u
 |.tbl ps=>h.get? a=some {cls:=.none,data:=.fields ps}
 |.met f x=>h.get? a=some (PySem.W.methodObj (.ref f) (.ref x))
 |.ext φ=>φ h∧(∃o,h.get? a=some o)∧∀h1 h2:Heap,φ h1->(∀o,h1.get? a=some o->h2.get? a=some o)->φ h2
def HOk(H:Hp)(h:Heap):Prop:=∀a o,H a=some o->ObjOk P w H h a o
end
section
variable{P:Program}{w:World}{H H':Hp}{h h':Heap}{a:Addr}{o:HO}
def ObjOk.lt(x:ObjOk P w H h a o):a<h.objs.size:=by
 cases o with
 |lst xs=>obtain⟨_,_,_,_,e⟩:=x;exact aO e
 |tup xs=>obtain⟨_,_,_,p⟩:=x;exact p.lt
 |dK kvs=>obtain⟨_,_,_,_,o,_,_,e,_⟩:=x;exact aO e
 |dT kvs=>obtain⟨_,_,_,_,o,_,_,e,_⟩:=x;exact aO e
 |set S n=>obtain⟨o,_,_,_,e,_⟩:=x;exact aO e
 |ins C dx fs=>obtain⟨_,_,_,e,_⟩:=x;exact aO e
 |own y=>obtain⟨_,e⟩:=x;exact aO e
 |xd fs=>obtain⟨_,⟨_,_,_,e,_⟩,_⟩:=x;exact aO e
 |rng lo hi=>obtain⟨_,_,_,e⟩:=x;exact aO e
 |frz ob u=>obtain⟨e,_⟩:=x;exact aO e
 |tbl ps=>exact aO (show h.get? a=some _ from x)
 |met f y=>exact aO (show h.get? a=some _ from x)
 |ext φ=>obtain⟨_,⟨_,e⟩,_⟩:=x;exact aO e
def Paired.mapP{α β:Type}{F G:α->β->Prop}:∀{l₁:List α} {lq:List β},Paired F l₁ lq->(∀a b,F a b->G a b)->Paired G l₁ lq
 |_,_,.nil,_=>.nil
 |_,_,.cons r t,f=>.cons (f _ _ r) (Paired.mapP t f)
def ObjOk.stay(x:ObjOk P w H h a o)(k:∀b u,(b=a∨H b=some (.own a))->h.get? b=some u->h'.get? b=some u)(ho:∀b,H b=some (.own a)->H' b=some (.own a)) (ht:∀b xs,H b=some (.tup xs)->H' b=some (.tup xs)):ObjOk P w H' h' a o:=by
 induction o with
 |lst xs=>obtain⟨z,ik,n,r,e⟩:=x;exact⟨z,ik,n,r,k _ _ (.inl rfl) e⟩
 |tup xs=>obtain⟨z,ik,r,ob,e,c⟩:=x;exact⟨z,ik,r,ob,k _ _ (.inl rfl) e,c⟩
 |dK kvs=>obtain⟨z,y,vs,r,ob,es,ep,e,c⟩:=x;exact⟨z,y,vs,r,ob,es,ep,k _ _ (.inl rfl) e,c⟩
 |dT kvs=>
  obtain⟨z,y,xs,r,ob,es,ep,e,c⟩:=x;exact⟨z,y,xs,Paired.mapP r λp q z=>⟨z.1,ht _ _ z.2.1,z.2.2⟩,ob,es,ep,k _ _ (.inl rfl) e,c⟩
 |set S n=>obtain⟨ob,es,ep,t,e,c⟩:=x;exact⟨ob,es,ep,t,k _ _ (.inl rfl) e,c⟩
 |ins C dx fs=>
  obtain⟨d,z,ne,e,mA,⟨od,es,ep,e2,c⟩,r⟩:=x;exact⟨ho _ d,z,ne,k _ _ (.inl rfl) e,mA,⟨od,es,ep,k _ _ (.inr d) e2,c⟩,r⟩
 |own y=>obtain⟨ob,e⟩:=x;exact⟨ob,k _ _ (.inl rfl) e⟩
 |xd fs=>obtain⟨mA,⟨od,es,ep,e,c⟩,r⟩:=x;exact⟨mA,⟨od,es,ep,k _ _ (.inl rfl) e,c⟩,r⟩
 |rng lo hi=>obtain⟨t,u,v,e⟩:=x;exact⟨t,u,v,k _ _ (.inl rfl) e⟩
 |frz ob u ih=>obtain⟨e,q⟩:=x;exact⟨k _ _ (.inl rfl) e,ih q⟩
 |tbl ps=>
  have e:h.get? a=some {cls:=.none,data:=.fields ps}:=x;show h'.get? a=some {cls:=.none,data:=.fields ps};exact k a _ (.inl rfl) e
 |met f y=>
  have e:h.get? a=some (PySem.W.methodObj (.ref f) (.ref y)):=x;show h'.get? a=some (PySem.W.methodObj (.ref f) (.ref y));exact k a _ (.inl rfl) e
 |ext φ=>obtain⟨p,⟨o,e⟩,st⟩:=x;exact⟨st _ _ p λo q=>k _ _ (.inl rfl) q,⟨o,k _ _ (.inl rfl) e⟩,st⟩
def HOk.lt(x:HOk P w H h)(e:H a=some o):a<h.objs.size:=(x a o e).lt
def HOk.fresh(x:HOk P w H h)(e:h.objs.size<=a):H a=none:=by
 cases q:H a with
 |none=>rfl
 |some u=>exact absurd (bH (x.lt q) e) (cS _)
def HOk.kept(x:HOk P w H h)(k:∀b u,h.get? b=some u->h'.get? b=some u):HOk P w H h':=λa o e=>
 (x a o e).stay (λb u _ q=>k b u q) (λ_ q=>q) λ_ _ q=>q
def HOk.laid(x:HOk P w H h)(k:∀b u,h.get? b=some u->h'.get? b=some u)(hp:h.objs.size<=a)(new:ObjOk P w (upd H a o) h' a o):HOk P w (upd H a o) h':=λb u e=>by
 have hn:=x.fresh hp;by_cases hb:b=a
 ·subst hb;rw[ZC]at e;cases e;exact new
 ·rw[Zx hb]at e
  exact(x b u e).stay (λc v _ q=>k c v q) (λc q=>by rw[Zx (ZX q hn)];exact q) λc xs q=>by rw[Zx (ZX q hn)];exact q
end
def Rd(H:Hp)(a:Addr)(u:HO):Prop:=H a=some u∨∃o,H a=some (.frz o u)
def Rd.ok{P:Program}{w:World}{H:Hp}{h:Heap}{a:Addr}{u:HO}(r:Rd H a u)(x:HOk P w H h):ObjOk P w H h a u:=by
 rcases r with r|⟨o,r⟩
 ·exact x a u r
 ·obtain⟨_,q⟩:=x a _ r
  exact q
def Mut:Option HO->Prop
 |some (.lst _)=>True
 |some (.dK _)=>True
 |some (.dT _)=>True
 |some (.set _ _)=>True
 |some (.ins _ _ _)=>True
 |some (.ext _)=>True
 |_=>False
section
variable{P:Program}{w:World}{H:Hp}{h h':Heap}{x e:Addr}{o':HO}
def HOk.write(ok:HOk P w H h)(mu:Mut (H x))(he:e=x∨H e=some (.own x))(k:∀b u,b≠e->h.get? b=some u->h'.get? b=some u)(lj:∃u,h'.get? e=some u)(new:ObjOk P w (upd H x o') h' x o'):HOk P w (upd H x o') h':=λb u q=>by
 have nown:∀c y,H c=some (.own y)->c≠x:=λc y r z=>by subst z;rw[r]at mu;exact mu
 have ntup:∀c xs,H c=some (.tup xs)->c≠x:=λc xs r z=>by subst z;rw[r]at mu;exact mu
 by_cases hb:b=x
 ·subst hb;rw[ZC]at q;cases q;exact new
 ·rw[Zx hb]at q
  by_cases hbe:b=e
  ·have q':H b=some (.own x):=by
    rcases he with z|z
    ·exact absurd (hbe.trans z) hb
    ·rw[hbe];exact z
   rw[q]at q';cases q';obtain⟨v,hv⟩:=lj;exact⟨v,by rw[hbe];exact hv⟩
  ·refine(ok b u q).stay (λc v hc r=>k c v ?_ r) (λc r=>by rw[Zx (nown c b r)];exact r) λc xs r=>by rw[Zx (ntup c xs r)];exact r
   rcases hc with rfl|hc
   ·exact hbe
   ·rintro rfl
    rcases he with z|z
    ·exact nown c b hc z
    ·rw[hc]at z;cases z;exact hb rfl
end
structure Un(fs ex:iA)(H H':Hp)(h h':Heap):Prop where
 keep:∀b o,h.get? b=some o->H b=none->b ∉ fs->b ∉ ex->h'.get? b=some o
 slot:∀b o,h.get? b=some o->H b=none->b∈fs->b ∉ ex->∃sl,h'.get? b=some {o with slots:=sl}
 free:∀b o,h.get? b=some o->H b=none->b ∉ ex->H' b=none
 there:∀b o,h.get? b=some o->b ∉ ex->∃o',h'.get? b=some o'
 tups:∀b xs,H b=some (.tup xs)->H' b=some (.tup xs)
 frzs:∀b o u,H b=some (.frz o u)->H' b=some (.frz o u)
 tbls:∀b ps,H b=some (.tbl ps)->∃more,H' b=some (.tbl (ps++more))
section
variable{fs jj ex oR:iA}{H H1 H2:Hp}{h h1 h2 h':Heap}{a x e:Addr}{o:HO}
def Un.any(u:Un fs ex H H1 h h1){b:Addr}{ob:Obj}(q:h.get? b=some ob)(n:H b=none)(hx:b ∉ ex):∃sl,h1.get? b=some {ob with slots:=sl}:=by
 by_cases hb:b∈fs
 ·exact u.slot b ob q n hb hx
 ·exact⟨ob.slots,u.keep b ob q n hb hx⟩
def Un.kept(k:∀b u,h.get? b=some u->h'.get? b=some u):Un fs ex H H h h':=
 ⟨λb ob q _ _ _=>k b ob q,λb ob q _ _ _=>⟨ob.slots,k b ob q⟩,λ_ _ _ n _=>n,λb ob q _=>⟨ob,k b ob q⟩,λ_ _ q=>q,λ_ _ _ q=>q,λ_ ps q=>⟨#[],by rw[q];simp⟩⟩
def Un.refl:Un fs ex H H h h:=Un.kept λ_ _ q=>q
def Un.laid(k:∀b u,h.get? b=some u->h'.get? b=some u)(hp:h.objs.size<=a)(hn:H a=none):Un fs ex H (upd H a o) h h' where
 keep:=λb u q _ _ _=>k b u q
 slot:=λb u q _ _ _=>⟨u.slots,k b u q⟩
 free:=λb u q n _=>by rw[Zx (bC (bH (aO q) hp))];exact n
 there:=λb u q _=>⟨u,k b u q⟩
 tups:=λb xs q=>by rw[Zx (ZX q hn)];exact q
 frzs:=λb u xs q=>by rw[Zx (ZX q hn)];exact q
 tbls:=λb ps q=>⟨#[],by rw[Zx (ZX q hn),q];simp⟩
def Un.write(mu:Mut (H x))(he:e=x∨H e=some (.own x))(k:∀b u,b≠e->h.get? b=some u->h'.get? b=some u)(lj:∃u,h'.get? e=some u):Un fs ex H (upd H x o) h h':=by
 have hx:∀b,H b=none->b≠x:=λb n z=>by subst z;rw[n]at mu;exact mu
 have hb:∀b,H b=none->b≠e:=λb n z=>by
  subst z;rcases he with r|r
  ·exact hx b n r
  ·rw[n]at r;cases r
 have hm:∀b u,H b=some u->¬ Mut (some u)->b≠x:=λb u q nm z=>by subst z;rw[q]at mu;exact nm mu
 refine⟨λb u q n _ _=>k b u (hb b n) q,λb u q n _ _=>⟨u.slots,k b u (hb b n) q⟩,λb u q n _=>by rw[Zx (hx b n)];exact n,λb u q _=>?_,
  λb xs q=>by rw[Zx (hm b _ q λz=>z)];exact q,λb u xs q=>by rw[Zx (hm b _ q λz=>z)];exact q,λb ps q=>⟨#[],by rw[Zx (hm b _ q λz=>z),q];simp⟩⟩
 by_cases hbe:b=e
 ·subst hbe;exact lj
 ·exact⟨u,k b u hbe q⟩
end
def trk(h:Heap)(H:Hp):iA:=(List.range h.objs.size).filter λa=>(H a).isSome
def Mi(h:Heap)(H:Hp):Heap:=PySem.W.hideAll h (trk h H)
def Ho(h:Heap)(H:Hp):(Mi h H).objs.size=h.objs.size:=PySem.W.hideAll_size _ _
def EC{h:Heap}{H:Hp}{b:Addr}{o:Obj}(e:h.get? b=some o)(n:H b=none):(Mi h H).get? b=some o:=
 gr _ e λhm=>by
  have q:(H b).isSome=true:=(aG.mp hm).2;rw[n]at q;simp at q
def DY{h:Heap}{H:Hp}{b:Addr}{o:Obj}(e:(Mi h H).get? b=some o):h.get? b=some o∧H b=none:=by
 have e':h.get? b=some o:=PySem.W.of_hideAll (trk h H) e;refine⟨e',?_⟩;cases q:H b with
 |none=>rfl
 |some x=>
  have hm:b∈trk h H:=aG.mpr ⟨aX.mpr (aO e'),by simp[q]⟩;have z:(Mi h H).get? b=none:=PySem.W.hideAll_none (trk h H) hm;rw[z]at e;cases e
structure Mod(K:g9)(mg:g8)(base:Heap):Prop where
 kin:K.In base
 glob:base.Ns mainGlobals mg
 blt:∃mb,base.Ns builtinsNs mb∧∀x:Str,x≠"__name__"->mb x=bootBuiltins x
 nolimit:base.NoLimit
structure Cx where
 prog:Program
 w:World
 K:g9
 mg:Str->Option Value
 base:Heap
 A:Around
 N:iE
 s₀:Shared
 H₀:Hp
 env:Env
 outer:List Env
 stack:List Env
 ex:iA
 fn:Str->Bool
 calm:Bool
 pn:hV
 xe:Value->Shared->Prop
def frs(l:List Env):iA:=l.filterMap (·.frame)
abbrev Cx.fs(X:Cx):iA:=frs X.outer
def Vis(sc:Scope)(x:Str):Prop:=sc.names.lookup x=some .local∨sc.names.lookup x=some .cell∨sc.names.lookup x=some .free
def Loc(sc:Scope)(x:Str):Prop:=sc.names.lookup x=some .local∨sc.names.lookup x=some .cell
def Look(env:Env)(h:Heap)(m:g8)(x:Str)(u:Value):Prop:=
 (env.kindOf x=some .local∧m x=some u)∨((env.kindOf x=some .cell∨env.kindOf x=some .free)∧∃c,env.cells.lookup x=some c∧h.IsCell c (some u))
structure Cx.Ok(X:Cx):Prop where
 mod:Mod X.K X.mg X.base
 kind:X.env.scope.kind=.function
 glob:X.env.globals=mainGlobals
 blt:X.env.builtins=builtinsNs
 above:X.s₀.heap.objs.size<=X.env.locals
 inj:∀x y c,X.env.cells.lookup x=some c->X.env.cells.lookup y=some c->x=y
 has:∀x,(X.env.kindOf x=some .cell∨X.env.kindOf x=some .free)->∃c,X.env.cells.lookup x=some c
 cab:∀x c,X.fn x=true->X.env.cells.lookup x=some c->X.s₀.heap.objs.size<=c
 hd:X.calm=true->X.A.handled=none
 frames:X.A.frames=some X.stack
 stk:X.stack=X.outer∨(X.stack=X.env::X.outer∧X.env.frame=some X.env.locals)
 exf:∀b∈X.ex,b≠X.env.locals∧∀x c,X.env.cells.lookup x=some c->c≠b
 bs:∀b o,X.base.get? b=some o->X.s₀.heap.get? b=some o∧X.H₀ b=none
 bsz:X.base.objs.size<=X.s₀.heap.objs.size
 noex:∀b o,X.base.get? b=some o->b ∉ X.ex
 exfs:∀b∈X.ex,b ∉ X.fs
 funs:X.s₀.heap.FunFrames X.base X.outer
 frf:∀b∈X.fs,X.H₀ b=none
structure Inv(X:Cx)(gV:hV)(σ:List (Option V))(H:Hp)(s:Shared):Prop where
 ok:X.Ok
 os:s.os=X.s₀.os
 bare:AllBare s.gens
 base:Un X.fs X.ex X.H₀ H X.s₀.heap s.heap
 loc:∃m,s.heap.Ns X.env.locals m∧∀(i:Nat) (x:Str) (v:V),X.N[i]?=some x->σ[i]?=some (some v)->Vis X.env.scope x->∃u,RelV v u∧Look X.env s.heap m x u
 cell:∀x c,X.env.cells.lookup x=some c->∃v,s.heap.IsCell c v
 free:H X.env.locals=none
 freeC:∀x c,X.env.cells.lookup x=some c->H c=none
 pin:∀p∈X.pn++gV,s.heap.get? p.1=some p.2∧H p.1=none∧p.1≠X.env.locals∧p.1 ∉ X.fs∧∀v,p.2.data≠.cell v
 hok:HOk X.prog X.w H s.heap
 len:σ.length=X.N.length
section
variable{X:Cx}{gV:hV}{σ:List (Option V)}{H H':Hp}{s:Shared}{h':Heap}
def Cx.Ok.nofr(ok:X.Ok){b:Addr}{o:Obj}(e:X.base.get? b=some o):b ∉ X.fs:=λhb=>by
 have:=(ok.funs.mem hb).1;rw[e]at this;cases this
def Inv.bs(I:Inv X gV σ H s):∀b o,X.base.get? b=some o->s.heap.get? b=some o∧H b=none:=λb o e=>
 ⟨I.base.keep b o (I.ok.bs b o e).1 (I.ok.bs b o e).2 (I.ok.nofr e) (I.ok.noex b o e),I.base.free b o (I.ok.bs b o e).1 (I.ok.bs b o e).2 (I.ok.noex b o e)⟩
def Inv.bk(I:Inv X gV σ H s):∀b o,X.base.get? b=some o->s.heap.get? b=some o:=λb o e=>(I.bs b o e).1
def Inv.mod(I:Inv X gV σ H s):Mod X.K X.mg X.base:=I.ok.mod
def Inv.kIn(I:Inv X gV σ H s):X.K.In s.heap:=I.ok.mod.kin.keeps I.bk
def Inv.lt(I:Inv X gV σ H s):X.env.locals<s.heap.objs.size:=let ⟨_,hn,_⟩:=I.loc;hn.lt
def Inv.sz(I:Inv X gV σ H s):X.s₀.heap.objs.size<=s.heap.objs.size:=cg I.ok.above (et I.lt)
def Inv.nofs(I:Inv X gV σ H s){a:Addr}(h:s.heap.objs.size<=a):a ∉ X.fs:=λhb=>by
 obtain⟨_,o,ho,_⟩:=I.ok.funs.mem hb;exact absurd (bH (aO ho) (cg I.sz h)) (cS _)
def Inv.cne(I:Inv X gV σ H s):∀x c,X.env.cells.lookup x=some c->c≠X.env.locals:=λx c e z=>by
 obtain⟨v,o,ho,hd⟩:=I.cell x c e;obtain⟨m,⟨o',es,ep,i7,kb,_⟩,_⟩:=I.loc;rw[z,i7]at ho;cases ho;rw[kb]at hd;cases hd
def Inv.funs(I:Inv X gV σ H s):s.heap.FunFrames X.base X.outer:=by
 have all:∀(l:List Env),(∀b∈frs l,b∈X.fs)->X.s₀.heap.FunFrames X.base l->s.heap.FunFrames X.base l:=by
  intro l
  induction l with
  |nil=>intro _ _;trivial
  |cons env r ih=>
   intro hs hl;obtain⟨hk,⟨L,o,hf,hn,ho,hd⟩,hr⟩:=hl;have hL:L∈X.fs:=hs L (by unfold frs;rw[cD,hf];exact cK);obtain⟨sl,e⟩:=I.base.slot L o ho (I.ok.frf L hL) hL λz=>I.ok.exfs L z hL
   exact⟨hk,⟨L,_,hf,hn,e,hd⟩,ih (λb hb=>hs b (by unfold frs;rw[cD,hf];exact cR _ hb)) hr⟩
 exact all X.outer (λ_ hb=>hb) I.ok.funs
def Inv.stack(I:Inv X gV σ H s):s.heap.FunFrames X.base X.stack:=by
 rcases I.ok.stk with e|⟨e,hf⟩
 ·rw[e];exact I.funs
 ·rw[e]
  obtain⟨m,hn,_⟩:=I.loc;refine .cons (by rw[I.ok.kind];decide) hf hn ?_ I.funs;exact Heap.get?_none_of_le (cg I.ok.bsz I.ok.above)
def Inv.stkSub(I:Inv X gV σ H s):∀b∈frs X.stack,b∈X.env.locals::X.fs:=λb hb=>by
 rcases I.ok.stk with e|⟨e,hf⟩
 ·rw[e]at hb;exact cR _ hb
 ·rw[e]at hb
  unfold frs at hb;rw[cD,hf]at hb;exact hb
def Inv.stkFree(I:Inv X gV σ H s):∀b∈frs X.stack,H b=none:=λb hb=>by
 rcases aR.mp (I.stkSub b hb) with e|hb
 ·rw[e];exact I.free
 ·obtain⟨_,o,ho,_⟩:=I.ok.funs.mem hb
  exact I.base.free b o ho (I.ok.frf b hb) λz=>I.ok.exfs b z hb
def Inv.step{g':Array GenState}{t':Nat}{d':Drawn}{ch:iA}(I:Inv X gV σ H s)(kc:∀b∈ch,(b∈X.ex∨X.s₀.heap.objs.size<=b)∧b≠X.env.locals∧(∀x c,X.env.cells.lookup x=some c->c≠b)∧∀p∈X.pn++gV,p.1≠b)(keep:∀b o,b≠X.env.locals->b ∉ X.fs->b ∉ ch->s.heap.get? b=some o->H b=none->h'.get? b=some o)(slot:∀b o,b≠X.env.locals->b∈X.fs->b ∉ ch->s.heap.get? b=some o->H b=none->∃sl,h'.get? b=some {o with slots:=sl}) (free:∀b o,b ∉ ch->s.heap.get? b=some o->H b=none->H' b=none)(there:∀b o,b ∉ ch->s.heap.get? b=some o->∃o',h'.get? b=some o')(tups:∀b xs,H b=some (.tup xs)->H' b=some (.tup xs)) (frzs:∀b o u,H b=some (.frz o u)->H' b=some (.frz o u)) (tbls:∀b ps,H b=some (.tbl ps)->∃more,H' b=some (.tbl (ps++more)))(ns:∀m,s.heap.Ns X.env.locals m->h'.Ns X.env.locals m) (hok:HOk X.prog X.w H' h') (hg:AllBare g'):Inv X gV σ H' {s with heap:=h',gens:=g',drawn:=d',toks:=t'}:=by
 have neL:∀b o,X.s₀.heap.get? b=some o->b≠X.env.locals:=λb o e=>bC (bH (aO e) I.ok.above)
 have neC:∀b o,X.s₀.heap.get? b=some o->b ∉ X.ex->b ∉ ch:=λb o e hx hb=>by
  rcases (kc b hb).1 with z|z
  ·exact hx z
  ·exact absurd (bH (aO e) z) (cS _)
 have cellK:∀x c,X.env.cells.lookup x=some c->∀v,s.heap.IsCell c v->h'.IsCell c v:=λx c e v ⟨o,ho,hd⟩=>by
  have nch:c ∉ ch:=λz=>(kc c z).2.2.1 x c e rfl
  by_cases hc:c∈X.fs
  ·obtain⟨sl,q⟩:=slot c o (I.cne x c e) hc nch ho (I.freeC x c e)
   exact⟨_,q,hd⟩
  ·exact⟨o,keep c o (I.cne x c e) hc nch ho (I.freeC x c e),hd⟩
 refine⟨I.ok,I.os,hg,⟨λb o e n hb hx=>?_,λb o e n hb hx=>?_,λb o e n hx=>?_,λb o e hx=>?_,λb xs e=>tups b xs (I.base.tups b xs e),λb o xs e=>frzs b o xs (I.base.frzs b o xs e),λb ps e=>?_⟩,?_,λx c e=>?_,?_,λx c e=>?_,λp hp=>?_,hok,I.len⟩
 ·exact keep b o (neL b o e) hb (neC b o e hx) (I.base.keep b o e n hb hx) (I.base.free b o e n hx)
 ·obtain⟨sl,e1⟩:=I.base.slot b o e n hb hx
  obtain⟨iS,e2⟩:=slot b _ (neL b o e) hb (neC b o e hx) e1 (I.base.free b o e n hx);exact⟨iS,e2⟩
 ·obtain⟨o',e1⟩:=I.base.there b o e hx
  exact free b o' (neC b o e hx) e1 (I.base.free b o e n hx)
 ·obtain⟨o',e1⟩:=I.base.there b o e hx
  exact there b o' (neC b o e hx) e1
 ·obtain⟨m1,e1⟩:=I.base.tbls b ps e
  obtain⟨m2,e2⟩:=tbls b _ e1;exact⟨m1++m2,by rw[e2,Array.append_assoc]⟩
 ·obtain⟨m,hn,hl⟩:=I.loc
  refine⟨m,ns m hn,λi x v e1 e2 e3=>?_⟩;obtain⟨u,r,l⟩:=hl i x v e1 e2 e3;refine⟨u,r,?_⟩;rcases l with l|⟨k,c,e,z⟩
  ·exact .inl l
  ·exact .inr ⟨k,c,e,cellK x c e _ z⟩
 ·obtain⟨v,z⟩:=I.cell x c e
  exact⟨v,cellK x c e v z⟩
 ·obtain⟨m,⟨o,_,_,ho,_⟩,_⟩:=I.loc
  exact free _ o (λz=>(kc _ z).2.1 rfl) ho I.free
 ·obtain⟨v,o,ho,hd⟩:=I.cell x c e
  exact free c o (λz=>(kc c z).2.2.1 x c e rfl) ho (I.freeC x c e)
 ·obtain⟨e,n,ne,nf,d⟩:=I.pin p hp
  have nch:p.1 ∉ ch:=λz=>(kc p.1 z).2.2.2 p hp rfl
  exact⟨keep p.1 p.2 ne nf nch e n,free p.1 p.2 nch e n,ne,nf,d⟩
def Inv.un{t':Nat}(I:Inv X gV σ H s)(u:Un X.fs [] H H' s.heap h')(hok:HOk X.prog X.w H' h'):Inv X gV σ H' {s with heap:=h',toks:=t'}:=by
 obtain⟨m,⟨o,es,ep,ho,r⟩,_⟩:=id I.loc;obtain⟨sl,hL⟩:=u.any ho I.free (by simp)
 exact I.step (g':=s.gens) (d':=s.drawn) (ch:=[]) (λ_ z=>nomatch z) (λb o _ hb _ e n=>u.keep b o e n hb (by simp)) (λb o _ hb _ e n=>u.slot b o e n hb (by simp)) (λb o _ e n=>u.free b o e n (by simp)) (λb o _ e=>u.there b o e (by simp)) u.tups u.frzs u.tbls (λm' hm=>by
  obtain⟨o',jd,kd,i7,r'⟩:=hm;rw[ho]at i7;cases i7;exact⟨_,jd,kd,hL,r'⟩) hok I.bare
def Inv.call{g':Array GenState}{t':Nat}{d':Drawn}{ch:iA}(I:Inv X gV σ H s)(u:Un (frs X.stack) ch H H' s.heap h')(hok:HOk X.prog X.w H' h')(hg:AllBare g')(kc:∀b∈ch,(b∈X.ex∨X.s₀.heap.objs.size<=b)∧b≠X.env.locals∧(∀x c,X.env.cells.lookup x=some c->c≠b)∧∀p∈X.pn++gV,p.1≠b):Inv X gV σ H' {s with heap:=h',gens:=g',drawn:=d',toks:=t'}:=by
 obtain⟨m,⟨o,es,ep,ho,r⟩,_⟩:=id I.loc;obtain⟨sl,hL⟩:=u.any ho I.free λz=>(kc _ z).2.1 rfl
 exact I.step (ch:=ch) kc (λb o hL hb hc e n=>u.keep b o e n (λz=>(aR.mp (I.stkSub b z)).elim hL hb) hc) (λb o _ _ hc e n=>u.any e n hc) (λb o hc e n=>u.free b o e n hc) (λb o hc e=>u.there b o e hc) u.tups u.frzs u.tbls (λm' hm=>by
  obtain⟨o',jd,kd,i7,r'⟩:=hm;rw[ho]at i7;cases i7;exact⟨_,jd,kd,hL,r'⟩) hok hg
def Inv.turned{t':Nat}{it:Addr}(I:Inv X gV σ H s)(k:∀b o,b≠it->s.heap.get? b=some o->h'.get? b=some o)(hn:H it=none)(hL:it≠X.env.locals)(h1:it∈X.ex∨X.s₀.heap.objs.size<=it) (h2:∀x c,X.env.cells.lookup x=some c->c≠it) (h3:∀p∈X.pn++gV,p.1≠it):Inv X gV σ H {s with heap:=h',toks:=t'}:=by
 have nit:∀b u,H b=some u->b≠it:=λb u e z=>by rw[z,hn]at e;cases e
 refine I.step (g':=s.gens) (d':=s.drawn) (ch:=[it]) (λb hb=>?_) (λb o _ _ hc e _=>k b o (λz=>hc (by simp[z])) e) (λb o _ _ hc e _=>⟨o.slots,k b o (λz=>hc (by simp[z])) e⟩) (λ_ _ _ _ n=>n)
  (λb o hc e=>⟨o,k b o (λz=>hc (by simp[z])) e⟩) (λ_ _ e=>e) (λ_ _ _ e=>e) (λb ps e=>⟨#[],by rw[e];simp⟩) (λm hm=>?_) (λb u e=>?_) I.bare
 ·have e:b=it:=by simpa using hb
  subst e;exact⟨h1,hL,h2,h3⟩
 ·obtain⟨o,es,ep,ho,r⟩:=hm
  exact⟨o,es,ep,k _ o (cI hL) ho,r⟩
 ·refine(I.hok b u e).stay (λc v hc q=>k c v ?_ q) (λ_ q=>q) λ_ _ q=>q
  rcases hc with z|z
  ·rw[z];exact nit b u e
  ·exact nit c _ z
def Inv.tok(I:Inv X gV σ H s)(t:Nat):Inv X gV σ H {s with toks:=t}:=I.un (h':=s.heap) (t':=t) Un.refl I.hok
def Inv.kept{t':Nat}(I:Inv X gV σ H s)(k:∀b u,s.heap.get? b=some u->h'.get? b=some u):Inv X gV σ H {s with heap:=h',toks:=t'}:=I.un (Un.kept k) (I.hok.kept k)
def Inv.laid{a:Addr}{o:HO}{t':Nat}(I:Inv X gV σ H s)(k:∀b u,s.heap.get? b=some u->h'.get? b=some u)(hp:s.heap.objs.size<=a)(new:ObjOk X.prog X.w (upd H a o) h' a o):Inv X gV σ (upd H a o) {s with heap:=h',toks:=t'}:=I.un (Un.laid k hp (I.hok.fresh hp)) (I.hok.laid k hp new)
def Inv.write{x e:Addr}{o:HO}{t':Nat}(I:Inv X gV σ H s)(mu:Mut (H x))(he:e=x∨H e=some (.own x))(k:∀b u,b≠e->s.heap.get? b=some u->h'.get? b=some u)(lj:∃u,h'.get? e=some u)(new:ObjOk X.prog X.w (upd H x o) h' x o):Inv X gV σ (upd H x o) {s with heap:=h',toks:=t'}:=I.un (Un.write mu he k lj) (I.hok.write mu he k lj new)
def Inv.pins_of{kD:hV}(I:Inv X gV σ H s)(h:∀p∈kD,s.heap.get? p.1=some p.2∧H p.1=none∧p.1≠X.env.locals∧p.1 ∉ X.fs∧∀v,p.2.data≠.cell v):Inv X kD σ H s:=
 ⟨I.ok,I.os,I.bare,I.base,I.loc,I.cell,I.free,I.freeC,λp hp=>(dH.mp hp).elim (λz=>I.pin p (gf _ z)) (h p),I.hok,I.len⟩
def L8{N:iE}(hN:N.Nodup){i j:Nat}{x:Str}(a:N[i]?=some x)(b:N[j]?=some x):i=j:=by
 obtain⟨h1,e1⟩:=aH.mp a;obtain⟨h2,e2⟩:=aH.mp b;exact(List.getElem_inj hN).mp (e1.trans e2.symm)
def Nm{M:Model}{A:Around}{E:g7}{i:Nat}{x:Str}{v:V}{u:Value}{Q:Unit->Shared->Prop}(I:Inv X gV σ H s)(hN:X.N.Nodup)(hi:X.N[i]?=some x)(hx:Loc X.env.scope x)(r:RelV v u)(h:∀s',Inv X gV (σ.set i (some v)) H s'->(∃a,Heap.SameBut a s.heap s'.heap∧(a=X.env.locals∨X.env.cells.lookup x=some a))->Q () s') (hf:X.fn x=true∨X.env.scope.names.lookup x=some .local:=by first|exact .inl rfl|exact .inr rfl|assumption):wpAny M A (storeName X.env x u) Q E s:=by
 obtain⟨m,hn,hl⟩:=id I.loc;have hcls:(X.env.scope.kind == .class || (X.env.scope.kind == .module&&X.env.locals != X.env.globals))=false:=by rw[I.ok.kind];rfl
 have hiσ:i < σ.length:=by rw[I.len];exact(aH.mp hi).1
 have cne:=I.cne
 have tracked:∀{a:Addr} {h':Heap},(∃o,s.heap.get? a=some o∧H a=none)->Heap.SameBut a s.heap h'->HOk X.prog X.w H h':=λ{a h'} ha hs b ob e=>by
  obtain⟨_,_,kE⟩:=ha;refine(I.hok b ob e).stay (λc w' hc q=>(hs.2 c ?_).trans q) (λ_ q=>q) λ_ _ q=>q
  rintro rfl;rcases hc with rfl|hc
  ·rw[kE]at e;cases e
  ·rw[kE]at hc;cases hc
 rcases hx with hk|hk
 ·refine wpAny_storeName_local hk hn (λh' l0 hs=>?_) hcls
  obtain⟨oL,_,_,lJ,_⟩:=id hn;refine h _ ⟨I.ok,I.os,I.bare,⟨λb o e n hb hx=>?_,λb o e n hb hx=>?_,I.base.free,λb o e hx=>?_,I.base.tups,I.base.frzs,I.base.tbls⟩,⟨_,l0,λj y v' e1 e2 e3=>?_⟩,λy c e=>?_,I.free,I.freeC,λp hp=>?_,tracked ⟨oL,lJ,I.free⟩ hs,by simpa using I.len⟩ ⟨_,hs,.inl rfl⟩
  ·exact(hs.2 b (bC (bH (aO e) I.ok.above))).trans (I.base.keep b o e n hb hx)
  ·obtain⟨sl,e1⟩:=I.base.slot b o e n hb hx
   exact⟨sl,(hs.2 b (bC (bH (aO e) I.ok.above))).trans e1⟩
  ·obtain⟨o',e1⟩:=I.base.there b o e hx
   exact⟨o',(hs.2 b (bC (bH (aO e) I.ok.above))).trans e1⟩
  ·by_cases hj:j=i
   ·subst hj
    rw[hi]at e1;cases e1;rw[bV hiσ]at e2;cases e2;exact⟨u,r,.inl ⟨hk,by simp⟩⟩
   ·rw[bN (cI hj)]at e2
    obtain⟨u',r',q⟩:=hl j y v' e1 e2 e3;refine⟨u',r',?_⟩;rcases q with ⟨k,e⟩|⟨k,c,e,z⟩
    ·refine .inl ⟨k,?_⟩
     have:y≠x:=λe=>hj (L8 hN e1 (e ▸ hi))
     simp[this,e]
    ·exact .inr ⟨k,c,e,z.sameBut hs (cne y c e)⟩
  ·obtain⟨w',z⟩:=I.cell y c e
   exact⟨w',z.sameBut hs (cne y c e)⟩
  ·obtain⟨e,n,ne,nf,d⟩:=I.pin p hp
   exact⟨(hs.2 p.1 ne).trans e,n,ne,nf,d⟩
 ·have hfn:X.fn x=true:=by
   rcases hf with z|z
   ·exact z
   ·rw[z]at hk;cases hk
  obtain⟨c,hc⟩:=I.ok.has x (.inl hk);obtain⟨w',z⟩:=I.cell x c hc;refine wpAny_storeName_cell I.ok.kind hk hc z (λh' kh hs=>?_);obtain⟨oc,lK,l5⟩:=id z;refine h {s with heap:=h'} ⟨I.ok,I.os,I.bare,⟨λb o e n hb hx=>?_,λb o e n hb hx=>?_,I.base.free,λb o e hx=>?_,I.base.tups,I.base.frzs,I.base.tbls⟩,⟨m,hn.sameBut hs (cI (cne x c hc)),λj y v' e1 e2 e3=>?_⟩,λy c' e=>?_,I.free,I.freeC,λp hp=>?_,tracked ⟨oc,lK,I.freeC x c hc⟩ hs,by simpa using I.len⟩ ⟨c,hs,.inr hc⟩
  ·exact(hs.2 b (bC (bH (aO e) (I.ok.cab x c hfn hc)))).trans (I.base.keep b o e n hb hx)
  ·obtain⟨sl,e1⟩:=I.base.slot b o e n hb hx
   exact⟨sl,(hs.2 b (bC (bH (aO e) (I.ok.cab x c hfn hc)))).trans e1⟩
  ·obtain⟨o',e1⟩:=I.base.there b o e hx
   exact⟨o',(hs.2 b (bC (bH (aO e) (I.ok.cab x c hfn hc)))).trans e1⟩
  ·by_cases hj:j=i
   ·subst hj
    rw[hi]at e1;cases e1;rw[bV hiσ]at e2;cases e2;exact⟨u,r,.inr ⟨.inl hk,c,hc,kh⟩⟩
   ·rw[bN (cI hj)]at e2
    obtain⟨u',r',q⟩:=hl j y v' e1 e2 e3;refine⟨u',r',?_⟩;rcases q with q|⟨k,c',e,z'⟩
    ·exact .inl q
    ·refine .inr ⟨k,c',e,z'.sameBut hs ?_⟩
     rintro rfl;exact hj (L8 hN e1 (I.ok.inj _ _ _ e hc ▸ hi))
  ·by_cases hcc:c'=c
   ·subst hcc;exact⟨_,kh⟩
   ·obtain⟨w2,z2⟩:=I.cell y c' e
    exact⟨w2,z2.sameBut hs hcc⟩
  ·obtain⟨e,n,ne,nf,d⟩:=I.pin p hp
   refine⟨(hs.2 p.1 ?_).trans e,n,ne,nf,d⟩;intro q;rw[q,lK]at e;have q':oc=p.2:=bW e;exact d w' (by rw[← q'];exact l5)
def Kb{M:Model}{A:Around}{E:g7}{i:Nat}{x:Str}{v:V}{u:Value}{Q:Unit->Shared->Prop}(I:Inv X gV σ H s)(hN:X.N.Nodup)(hi:X.N[i]?=some x)(hx:Loc X.env.scope x)(r:RelV v u)(h:∀s',Inv X gV (σ.set i (some v)) H s'->Q () s') (hf:X.fn x=true∨X.env.scope.names.lookup x=some .local:=by first|exact .inl rfl|exact .inr rfl|assumption):wpAny M A (storeName X.env x u) Q E s:=
 Nm I hN hi hx r (λs' I' _=>h s' I') hf
def Inv.call'{s':Shared}{ch:iA}(I:Inv X gV σ H s)(ho:s'.os=s.os)(u:Un (frs X.stack) ch H H' s.heap s'.heap)(hok:HOk X.prog X.w H' s'.heap)(hg:AllBare s'.gens)(kc:∀b∈ch,(b∈X.ex∨X.s₀.heap.objs.size<=b)∧b≠X.env.locals∧(∀x c,X.env.cells.lookup x=some c->c≠b)∧∀p∈X.pn++gV,p.1≠b):Inv X gV σ H' s':=by
 obtain⟨h',g',d',t',o'⟩:=s';have e:o'=s.os:=ho;subst e;exact I.call (g':=g') (t':=t') (d':=d') u hok hg kc
end
abbrev XK:=Value->Option Addr->Hp->Prop
abbrev St:=List (Option V)
abbrev VK:=V->Hp->Prop
abbrev TE:=St->Hp->VK->Prop
abbrev TT:=St->Hp->(Bool->Hp->Prop)->Prop
abbrev TA:=St->Hp->(iI->Hp->Prop)->Prop
structure Ends where
 nx:St->Hp->Prop
 rt:VK
 bk:St->Hp->Prop:=λ_ _=>False
 ct:St->Hp->Prop:=λ_ _=>False
abbrev TS:=Ends->St->Hp->Prop
def EP(X:Cx)(gV:hV)(σ:St)(Q:VK)(u:Value)(s':Shared):Prop:=∃v H',Inv X gV σ H' s'∧RelV v u∧Q v H'
def TP(X:Cx)(gV:hV)(σ:St)(Q:Bool->Hp->Prop)(b:Bool)(s':Shared):Prop:=∃H',Inv X gV σ H' s'∧Q b H'
def AP(X:Cx)(gV:hV)(σ:St)(Q:iI->Hp->Prop)(us:iB)(s':Shared):Prop:=∃vs H',Inv X gV σ H' s'∧Vals vs us∧Q vs H'
def SP(X:Cx)(gV:hV)(D:Ends)(f:Flow)(s':Shared):Prop:=
 match f with
 |.next=>∃iy H',Inv X gV iy H' s'∧D.nx iy H'
 |.brk=>∃iy H',Inv X gV iy H' s'∧D.bk iy H'
 |.cont=>∃iy H',Inv X gV iy H' s'∧D.ct iy H'
 |.ret u=>∃v iy H',Inv X gV iy H' s'∧RelV v u∧D.rt v H'
def PE(X:Cx)(e:Expr)(t:TE):Prop:=
 ∀(gV:hV) (s:Shared) (σ:St) (H:Hp) (Q:VK),Inv X gV σ H s->t σ H Q->wpAny (model X.prog X.w) X.A (eval e X.env) (EP X gV σ Q) X.xe s
def PT(X:Cx)(e:Expr)(t:TT):Prop:=
 ∀(gV:hV) (s:Shared) (σ:St) (H:Hp) (Q:Bool->Hp->Prop),Inv X gV σ H s->t σ H Q->wpAny (model X.prog X.w) X.A (isTrue e X.env (eval e X.env)) (TP X gV σ Q) X.xe s
def PW(X:Cx)(e:Expr)(t:TT):Prop:=
 ∀(whole:Sem Value) (gV:hV) (s:Shared) (σ:St) (H:Hp) (Q:Bool->Hp->Prop),Inv X gV σ H s->t σ H Q->wpAny (model X.prog X.w) X.A (isTrue e X.env whole) (TP X gV σ Q) X.xe s
def PW.pt{X:Cx}{e:Expr}{t:TT}(h:PW X e t):PT X e t:=h _
def PA(X:Cx)(es:iF)(t:TA):Prop:=
 ∀(pos:Pos) (gV:hV) (s:Shared) (σ:St) (H:Hp) (Q:iI->Hp->Prop),Inv X gV σ H s->t σ H Q->wpAny (model X.prog X.w) X.A (spliced (backTo pos (starEach es X.env))) (AP X gV σ Q) X.xe s
def PS(X:Cx)(st:Stmt)(t:TS):Prop:=
 ∀(gV:hV) (s:Shared) (σ:St) (H:Hp) (D:Ends),Inv X gV σ H s->t D σ H->wpAny (model X.prog X.w) X.A (exec st X.env) (SP X gV D) X.xe s
def PSs(X:Cx)(st:List Stmt)(t:TS):Prop:=
 ∀(gV:hV) (s:Shared) (σ:St) (H:Hp) (D:Ends),Inv X gV σ H s->t D σ H->wpAny (model X.prog X.w) X.A (execs st X.env) (SP X gV D) X.xe s
def thn{α:Type}{t:Sem α}{Q Q':α->Shared->Prop}{M:Model}{A:Around}{E:g7}{s:Shared}(h:wpAny M A t Q E s)(hQ:∀a s,Q a s->Q' a s):wpAny M A t Q' E s:=cx h hQ λ_ _ x=>x
section
variable{X:Cx}
def tVar(i:Nat):TE:=λσ H Q=>∃v,σ[i]?=some (some v)∧Q v H
def tC(v:V):TE:=λ_ H Q=>Q v H
def pe_var{i:Nat}{x:Str}{pos:Pos}(hN:X.N[i]?=some x)(hv:Vis X.env.scope x)(hd:(x == ("__debug__":Str))=false:=by decide)(jS:(x == ("__classdict__":Str))=false:=by decide):PE X (.Name x pos) (tVar i):=by
 intro gV s σ H Q I h;obtain⟨v,e,h⟩:=h;obtain⟨m,hn,hl⟩:=I.loc;obtain⟨u,r,l⟩:=hl i x v hN e hv;have fin:EP X gV σ Q u s:=⟨v,H,I,r,h⟩;rcases l with ⟨hk,hm⟩|⟨hk,c,hc,jK⟩
 ·exact wpAny_Name (wpAny_loadName_local I.ok.kind hk hn hm fin) hd
 ·rcases hk with hk|hk
  ·exact wpAny_Name (wpAny_loadName_cell I.ok.kind hk hc jK fin) hd
  ·exact wpAny_Name (wpAny_loadName_free I.ok.kind hk hc jK fin jS) hd
def AY{i j pos}:PE X (.Constant (.int i) j pos) (tC (.int i)):=λ_ _ _ H _ I h=>wpAny_Constant_int ⟨.int i,H,I.tok _,⟨_,rfl⟩,h⟩
def pe_bl{b j pos}:PE X (.Constant (.bool b) j pos) (tC (.bl b)):=λ_ _ _ H _ I h=>Constant_bool ⟨.bl b,H,I,rfl,h⟩
def pe_non{j pos}:PE X (.Constant .none j pos) (tC .non):=λ_ _ _ H _ I h=>Constant_none ⟨.non,H,I,rfl,h⟩
def Db{x j pos}:PE X (.Constant (.str x) j pos) (tC (.str x)):=λ_ _ _ H _ I h=>Calls.Constant_str ⟨.str x,H,I.tok _,⟨_,rfl⟩,h⟩
def Gl(X:Cx)(x:Str):Prop:=X.env.kindOf x=some .globalImplicit
def QP{E:g7}{gV:hV}{s:Shared}{σ:St}{H:Hp}{x:Str}{u:Value}{pos:Pos}{Q:g7}(I:Inv X gV σ H s)(hg:Gl X x)(hm:X.mg x=some u)(h:Q u s)(hd:(x == ("__debug__":Str))=false:=by decide):wpAny (model X.prog X.w) X.A (eval (.Name x pos) X.env) Q E s:=
 Calls.Name_function_global I.ok.kind hg (Calls.loadGlobal_global (by rw[I.ok.glob];exact I.mod.glob.keeps I.bk) hm h) hd
def Lc{E:g7}{gV:hV}{s:Shared}{σ:St}{H:Hp}{x:Str}{u:Value}{pos:Pos}{Q:g7}(I:Inv X gV σ H s)(hg:Gl X x)(hm:X.mg x=none)(hv:bootBuiltins x=some u)(h:Q u s)(hn:x≠"__name__":=by decide) (hd:(x == ("__debug__":Str))=false:=by decide):wpAny (model X.prog X.w) X.A (eval (.Name x pos) X.env) Q E s:=by
 obtain⟨mb,h1,h2⟩:=I.mod.blt;exact Calls.Name_function_global I.ok.kind hg (Calls.loadGlobal_builtin (by rw[I.ok.glob];exact I.mod.glob.keeps I.bk) hm (by rw[I.ok.blt];exact h1.keeps I.bk) ((h2 x hn).trans hv) h) hd
def IE{x:Str}{v:V}{u:Value}{pos:Pos}(hg:Gl X x)(hm:X.mg x=some u)(r:RelV v u)(hd:(x == ("__debug__":Str))=false:=by decide):PE X (.Name x pos) (tC v):=
 λ_ _ _ H _ I h=>QP I hg hm ⟨v,H,I,r,h⟩ hd
variable{a b:Expr}{ta tb:TE}{pos:Pos}
def PC(X:Cx)(op:CmpOp)(a b:Expr)(t:TE):Prop:=
 ∀(gV:hV) (s:Shared) (σ:St) (H:Hp) (Q:VK),Inv X gV σ H s->t σ H Q ->
  wpAny (model X.prog X.w) X.A (eval a X.env) (λv iu=>wpAny (model X.prog X.w) X.A (eval b X.env) (λu ib=>wpAny (model X.prog X.w) X.A (compareOp op v u) (EP X gV σ Q) X.xe ib) X.xe iu) X.xe s
def KF(b:Expr){op:CmpOp}(h:op≠.In)(h2:op≠.NotIn):behindInMarks op b=false:=by
 have e1:(op == CmpOp.In)=false:=by cases op <;> first|rfl|exact absurd rfl h
 have e2:(op == CmpOp.NotIn)=false:=by cases op <;> first|rfl|exact absurd rfl h2
 cases b <;> simp[behindInMarks,e1,e2]
def tIsN(ta:TE):TE:=λσ H Q=>ta σ H λx H1=>Q (.bl (decide (x=.non))) H1
def tNotN(ta:TE):TE:=λσ H Q=>ta σ H λx H1=>Q (.bl (!decide (x=.non))) H1
def RelV.none_iff{x:V}{v:Value}(r:RelV x v):(v == Value.none)=decide (x=.non):=by
 cases x with
 |non=>cases r;rfl
 |bl _=>cases r;rfl
 |int _=>obtain⟨t,rfl⟩:=r;rfl
 |str _=>obtain⟨t,rfl⟩:=r;rfl
 |byt _=>obtain⟨t,rfl⟩:=r;rfl
 |flt _=>obtain⟨t,rfl⟩:=r;rfl
 |ref _=>cases r;rfl
 |ty _=>cases r;rfl
def Eh{j iV}(ha:PE X a ta):PC X .Is a (.Constant .none j iV) (tIsN ta):=by
 intro gV s σ H Q I h;refine thn (ha gV s σ H _ I h) λv s1 ⟨x,H1,I1,r1,q1⟩=>?_
 exact Constant_none (is_none_gen ⟨.bl _,H1,I1,by rw[r1.none_iff];rfl,q1⟩)
def DW{j iV}(ha:PE X a ta):PC X .IsNot a (.Constant .none j iV) (tNotN ta):=by
 intro gV s σ H Q I h;refine thn (ha gV s σ H _ I h) λv s1 ⟨x,H1,I1,r1,q1⟩=>?_
 exact Constant_none (isnot_none_gen ⟨.bl _,H1,I1,by rw[r1.none_iff];rfl,q1⟩)
def tB(t:TE):TT:=λσ H Q=>t σ H λx H1=>∃c,x=.bl c∧Q c H1
def EH{op:CmpOp}{t:TE}(h:PC X op a b t)(h1:behindInMarks op b=false:=by first|exact KF _ (by decide) (by decide)|rfl):PE X (.Compare a [op] [b] pos) t:=λgV s σ H Q I hw=>wpAny_Compare1 (h gV s σ H Q I hw) h1
def Mn{op:CmpOp}{t:TE}(h:PC X op a b t)(h1:behindInMarks op b=false:=by first|exact KF _ (by decide) (by decide)|rfl):PT X (.Compare a [op] [b] pos) (tB t):=by
 intro gV s σ H Q I hw;refine wpAny_isTrue_Compare1 (thn (h gV s σ H _ I hw) λv s1 h1=>thn h1 λu s2 h2=>thn h2 λc s3 ⟨x,H1,I1,r1,q1⟩=>?_) h1;obtain⟨d,rfl,q⟩:=q1;cases r1;exact dW ⟨H1,I1,q⟩
variable{tA lL:TT}{rest:iF}
def tAnd(t u:TT):TT:=λσ H Q=>t σ H λc H1=>if c=true then u σ H1 Q else Q false H1
def tOr(t u:TT):TT:=λσ H Q=>t σ H λc H1=>if c=true then Q true H1 else u σ H1 Q
def tNot(t:TT):TT:=λσ H Q=>t σ H λc H1=>Q (!c) H1
def Ch(ha:PT X a tA):PW X (.BoolOp .And [a] pos) tA:=by
 intro wh gV s σ H Q I h;refine isTrue_and (thn (ha gV s σ H Q I h) λc s1 e=>?_);cases c with
 |true=>exact isTrue_and_nil e
 |false=>exact e
def A9(ha:PT X a tA):PW X (.BoolOp .Or [a] pos) tA:=by
 intro wh gV s σ H Q I h;refine isTrue_or (thn (ha gV s σ H Q I h) λc s1 e=>?_);cases c with
 |false=>exact isTrue_or_nil e
 |true=>exact e
def pw_and(ha:PT X a tA)(hb:PW X (.BoolOp .And (b::rest) pos) lL):PW X (.BoolOp .And (a::b::rest) pos) (tAnd tA lL):=by
 intro wh gV s σ H Q I h;refine isTrue_and (thn (ha gV s σ H _ I h) λc s1 ⟨H1,I1,q1⟩=>?_);cases c with
 |true=>exact hb wh gV s1 σ H1 Q I1 q1
 |false=>exact⟨H1,I1,q1⟩
def pw_or(ha:PT X a tA)(hb:PW X (.BoolOp .Or (b::rest) pos) lL):PW X (.BoolOp .Or (a::b::rest) pos) (tOr tA lL):=by
 intro wh gV s σ H Q I h;refine isTrue_or (thn (ha gV s σ H _ I h) λc s1 ⟨H1,I1,q1⟩=>?_);cases c with
 |true=>exact⟨H1,I1,q1⟩
 |false=>exact hb wh gV s1 σ H1 Q I1 q1
def AW(ha:PT X a tA):PT X (.UnaryOp .Not a pos) (tNot tA):=by
 intro gV s σ H Q I h;exact isTrue_not (ha gV s σ H (λc H1=>Q (!c) H1) I h)
def tAndV(ta tb:TE):TE:=λσ H Q=>ta σ H λx H1=>∃c,x=.bl c∧if c=true then tb σ H1 Q else Q (.bl false) H1
def tNotV(ta:TE):TE:=λσ H Q=>ta σ H λx H1=>∃c,x=.bl c∧Q (.bl (!c)) H1
def pe_one{op}{t:TE}(h:PE X a t):PE X (.BoolOp op [a] pos) t:=λgV s σ H Q I hw=>BoolOp_one (h gV s σ H Q I hw)
def pe_and(ha:PE X a ta)(hb:PE X (.BoolOp .And (b::rest) pos) tb):PE X (.BoolOp .And (a::b::rest) pos) (tAndV ta tb):=by
 intro gV s σ H Q I h;refine BoolOp_and (thn (ha gV s σ H _ I h) λv s1 ⟨x,H1,I1,r1,q1⟩=>?_);obtain⟨c,rfl,q1⟩:=q1;cases r1;refine dW ?_;cases c with
 |true=>exact hb gV s1 σ H1 Q I1 q1
 |false=>exact⟨.bl false,H1,I1,rfl,q1⟩
def A4(ha:PE X a ta):PE X (.UnaryOp .Not a pos) (tNotV ta):=by
 intro gV s σ H Q I h;refine UnaryOp_ (thn (ha gV s σ H _ I h) λv s1 ⟨x,H1,I1,r1,q1⟩=>?_);obtain⟨c,rfl,q1⟩:=q1;cases r1;exact not_of (dW ⟨.bl (!c),H1,I1,rfl,q1⟩)
def tIf(t:TT)(ta tb:TE):TE:=λσ H Q=>t σ H λc H1=>if c=true then ta σ H1 Q else tb σ H1 Q
def Ep{c:Expr}(hc:PT X c tA)(ha:PE X a ta)(hb:PE X b tb):PE X (.IfExp c a b pos) (tIf tA ta tb):=by
 intro gV s σ H Q I h;refine wpAny_IfExp (thn (hc gV s σ H _ I h) λd s1 ⟨H1,I1,q1⟩=>?_);cases d with
 |true=>exact ha gV s1 σ H1 Q I1 q1
 |false=>exact hb gV s1 σ H1 Q I1 q1
end
def SqL(K:g9)(H:Hp)(a:Addr)(xs:iI):Prop:=
 Rd H a (.lst xs) ∨
  ∃(o:Obj) (ik:Array Value) (n:Nat),K.lookup a=some o∧o.cls=.type "list"∧o.dict=none∧o.data=.seq ik n∧ik.size<=sizeLine∧Vals xs ik.toList
def SqT(K:g9)(H:Hp)(a:Addr)(xs:iI):Prop:=
 Rd H a (.tup xs) ∨
  ∃(o:Obj) (ik:Array Value) (n:Nat),K.lookup a=some o∧o.cls=.type "tuple"∧o.data=.seq ik n∧ik.size<=sizeLine∧Vals xs ik.toList
def absV:Value->Option V
 |.none=>some .non
 |.bool b=>some (.bl b)
 |.int i _=>some (.int i)
 |.str x _=>some (.str x)
 |.bytes b _=>some (.byt b)
 |.float b _=>some (.flt b)
 |.ref a=>some (.ref a)
 |.type n=>some (.ty n)
 |_=>none
def RelV.abs{x:V}{u:Value}(r:RelV x u):absV u=some x:=by
 cases x with
 |non=>cases r;rfl
 |bl _=>cases r;rfl
 |int _=>obtain⟨t,rfl⟩:=r;rfl
 |str _=>obtain⟨t,rfl⟩:=r;rfl
 |byt _=>obtain⟨t,rfl⟩:=r;rfl
 |flt _=>obtain⟨t,rfl⟩:=r;rfl
 |ref _=>cases r;rfl
 |ty _=>cases r;rfl
def RelV.inj{x y:V}{u:Value}(r:RelV x u)(q:RelV y u):x=y:=bW (r.abs.symm.trans q.abs)
def Vals.inj:∀{xs ys:iI} {us:iB},Vals xs us->Vals ys us->xs=ys
 |_,_,_,.nil,.nil=>rfl
 |_,_,_,.cons r t,.cons r' t'=>by rw[r.inj r',Vals.inj t t']
section
variable{X:Cx}{gV:hV}{σ:St}{H:Hp}{s:Shared}{a:Addr}{xs ys:iI}
def SqL.of{K:g9}(h:H a=some (.lst xs)):SqL K H a xs:=.inl (.inl h)
def SqT.of{K:g9}(h:H a=some (.tup xs)):SqT K H a xs:=.inl (.inl h)
def Inv.list(I:Inv X gV σ H s)(h:SqL X.K H a xs):∃ik:iB,Vals xs ik∧PlainL s.heap a ik.toArray∧xs.length<=sizeLine:=by
 rcases h with h|⟨o,ik,n,hk,hc,hd,hs,hz,r⟩
 ·obtain⟨z,ik,n,r,e⟩:=h.ok I.hok
  exact⟨ik,r,⟨_,n,e,rfl,rfl,rfl⟩,z⟩
 ·refine⟨ik.toList,r,⟨o,n,I.kIn a o hk,hc,hd,by simpa using hs⟩,?_⟩
  have e:=r.length;simp only[aP]at e;omega
def Inv.tuple(I:Inv X gV σ H s)(h:SqT X.K H a xs):∃ik:iB,Vals xs ik∧IsTup s.heap a ik.toArray∧xs.length<=sizeLine:=by
 rcases h with h|⟨o,ik,n,hk,hc,hs,hz,r⟩
 ·obtain⟨z,ik,r,p⟩:=h.ok I.hok
  exact⟨ik,r,p,z⟩
 ·refine⟨ik.toList,r,⟨o,I.kIn a o hk,hc,n,by simpa using hs⟩,?_⟩
  have e:=r.length;simp only[aP]at e;omega
def Inv.list_inj(I:Inv X gV σ H s)(h:SqL X.K H a xs)(h':SqL X.K H a ys):xs=ys:=by
 obtain⟨ik,r,⟨o,n,e,_,_,d⟩,_⟩:=I.list h;obtain⟨its',r',⟨o',n',e',_,_,d'⟩,_⟩:=I.list h';rw[e]at e';cases e';rw[d]at d';injection d' with d1 _
 have:ik=its':=by simpa using cE Array.toList d1
 subst this;exact r.inj r'
end
abbrev Cx.wish(X:Cx)(E:g7):Cx:={X with xe:=E}
abbrev Cx.nox(X:Cx):Cx:=X.wish λ_ _=>False
def Cx.Ok.wish{X:Cx}(ok:X.Ok)(E:g7):(X.wish E).Ok:=
 ⟨ok.mod,ok.kind,ok.glob,ok.blt,ok.above,ok.inj,ok.has,ok.cab,ok.hd,ok.frames,ok.stk,ok.exf,ok.bs,ok.bsz,ok.noex,ok.exfs,ok.funs,ok.frf⟩
def Cx.Ok.unwish{X:Cx}{E:g7}(ok:(X.wish E).Ok):X.Ok:=
 ⟨ok.mod,ok.kind,ok.glob,ok.blt,ok.above,ok.inj,ok.has,ok.cab,ok.hd,ok.frames,ok.stk,ok.exf,ok.bs,ok.bsz,ok.noex,ok.exfs,ok.funs,ok.frf⟩
section
variable{X:Cx}{gV:hV}{σ:St}{H:Hp}{s:Shared}{E:g7}
def Inv.wish(I:Inv X gV σ H s)(E:g7):Inv (X.wish E) gV σ H s:=⟨I.ok.wish E,I.os,I.bare,I.base,I.loc,I.cell,I.free,I.freeC,I.pin,I.hok,I.len⟩
def Inv.unwish(I:Inv (X.wish E) gV σ H s):Inv X gV σ H s:=⟨I.ok.unwish,I.os,I.bare,I.base,I.loc,I.cell,I.free,I.freeC,I.pin,I.hok,I.len⟩
def SP.unwish{D:Ends}{f:Flow}{s':Shared}(h:SP (X.wish E) gV D f s'):SP X gV D f s':=by
 cases f with
 |next=>obtain⟨iy,H',I,q⟩:=h;exact⟨iy,H',I.unwish,q⟩
 |brk=>obtain⟨iy,H',I,q⟩:=h;exact⟨iy,H',I.unwish,q⟩
 |cont=>obtain⟨iy,H',I,q⟩:=h;exact⟨iy,H',I.unwish,q⟩
 |ret u=>obtain⟨v,iy,H',I,r,q⟩:=h;exact⟨v,iy,H',I.unwish,r,q⟩
def PE.nox{e:Expr}{t:TE}(h:PE X.nox e t):PE X e t:=λgV s σ H Q I hw=>
 cx (h gV s σ H Q (I.wish _) hw) (λ_ _ ⟨v,H',I',r,q⟩=>⟨v,H',I'.unwish,r,q⟩) λ_ _ z=>False.elim z
def PT.nox{e:Expr}{t:TT}(h:PT X.nox e t):PT X e t:=λgV s σ H Q I hw=>
 cx (h gV s σ H Q (I.wish _) hw) (λ_ _ ⟨H',I',q⟩=>⟨H',I'.unwish,q⟩) λ_ _ z=>False.elim z
def PSs.nox{st:List Stmt}{t:TS}(h:PSs X.nox st t):PSs X st t:=λgV s σ H D I hw=>
 cx (h gV s σ H D (I.wish _) hw) (λ_ _ q=>q.unwish) λ_ _ z=>False.elim z
end
section
variable{X:Cx}{st:Stmt}{rest:List Stmt}{t u:TS}{e:Expr}{te:TE}{pos:Pos}
def tNext:TS:=λD σ H=>D.nx σ H
def tSeq(t u:TS):TS:=λD σ H=>t {D with nx:=u D} σ H
def Cc:PSs X [] tNext:=λ_ _ σ H _ I h=>gv ⟨σ,H,I,h⟩
def EO(h1:PS X st t)(h2:PSs X rest u):PSs X (st::rest) (tSeq t u):=by
 intro gV s σ H D I h;refine wpAny_execs_cons (thn (h1 gV s σ H {D with nx:=u D} I h) λf s1 q=>?_);cases f with
 |next=>
  obtain⟨iy,H',I',q⟩:=q;exact h2 gV s1 iy H' D I' q
 |ret v=>exact q
 |brk=>exact q
 |cont=>exact q
def C7(h1:PS X st t):PSs X [st] t:=by
 intro gV s σ H D I h;refine wpAny_execs_cons (thn (h1 gV s σ H D I h) λf s1 q=>?_);cases f with
 |next=>exact gv q
 |ret v=>exact q
 |brk=>exact q
 |cont=>exact q
def Inv.quiet{gV:hV}{σ:St}{H:Hp}{s:Shared}(I:Inv X gV σ H s):interactive X.env=false:=by simp[interactive,I.ok.kind]
def tDrop(te:TE):TS:=λD σ H=>te σ H λ_ H1=>D.nx σ H1
def BB(he:PE X e te)(hs:swapsWith e none pos.line X.env=pure false:=by rfl):PS X (.Expr e pos) (tDrop te):=by
 intro gV s σ H D I h;exact wpAny_Expr_any (thn (he gV s σ H _ I h) λv s1 ⟨x,H1,I1,r1,q1⟩=>⟨σ,H1,I1,q1⟩) I.quiet hs
def tRet(te:TE):TS:=λD σ H=>te σ H D.rt
def ps_ret(he:PE X e te):PS X (.Return (some e) pos) (tRet te):=by
 intro gV s σ H D I h;exact wpAny_Return_some (thn (he gV s σ H _ I h) λv s1 ⟨x,H1,I1,r1,q1⟩=>⟨x,σ,H1,I1,r1,q1⟩)
def tRetN:TS:=λD _ H=>D.rt .non H
def Cv:PS X (.Return none pos) tRetN:=λ_ _ σ H _ I h=>wpAny_Return_none ⟨.non,σ,H,I,rfl,h⟩
def tIfS(c:TT)(t u:TS):TS:=λD σ H=>c σ H λb H1=>if b=true then t D σ H1 else u D σ H1
def ps_if{c:Expr}{a b:List Stmt}{tc:TT}(hc:PT X c tc)(ha:PSs X a t)(hb:PSs X b u):PS X (.If c a b pos) (tIfS tc t u):=by
 intro gV s σ H D I h;refine wpAny_If (thn (hc gV s σ H _ I h) λd s1 ⟨H1,I1,q1⟩=>?_);cases d with
 |true=>exact ha gV s1 σ H1 D I1 q1
 |false=>exact hb gV s1 σ H1 D I1 q1
end
abbrev TG:=V->St->Hp->(St->Hp->Prop)->Prop
abbrev TGs:=iI->St->Hp->(St->Hp->Prop)->Prop
def PG(X:Cx)(target:Expr)(t:TG):Prop:=
 ∀(gV:hV) (s:Shared) (σ:St) (H:Hp) (v:V) (u:Value) (Q:St->Hp->Prop),Inv X gV σ H s->RelV v u->t v σ H Q ->
  wpAny (model X.prog X.w) X.A (assign target X.env u) (λ_ s'=>∃iy H',Inv X gV iy H' s'∧Q iy H') X.xe s
def PGs(X:Cx)(ts:iF)(t:TGs):Prop:=
 ∀(gV:hV) (s:Shared) (σ:St) (H:Hp) (vs:iI) (us:iB) (Q:St->Hp->Prop),Inv X gV σ H s->Vals vs us->t vs σ H Q ->
  wpAny (model X.prog X.w) X.A (assignInOrder ((assignEach ts X.env).map (·.2)) us) (λ_ s'=>∃iy H',Inv X gV iy H' s'∧Q iy H') X.xe s
abbrev TSet:=V->V->V->Hp->(Hp->Prop)->Prop
def PSet(X:Cx)(t:TSet):Prop:=
 ∀(gV:hV) (s:Shared) (σ:St) (H:Hp) (o i v:V) (ov iv u:Value) (Q:Hp->Prop),Inv X gV σ H s->RelV o ov->RelV i iv->RelV v u->t o i v H Q ->
  wpAny (model X.prog X.w) X.A (setItem ov iv u) (λ_ s'=>∃H',Inv X gV σ H' s'∧Q H') X.xe s
section
variable{X:Cx}{pos:Pos}
def Ph(i:Nat):TG:=λv σ H Q=>Q (σ.set i (some v)) H
def Wx{i:Nat}{x:Str}(hN:X.N.Nodup)(hi:X.N[i]?=some x)(hx:Loc X.env.scope x)(hf:X.fn x=true∨X.env.scope.names.lookup x=some .local:=by first|exact .inl rfl|exact .inr rfl|assumption):PG X (.Name x pos) (Ph i):=by
 intro gV s σ H v u Q I r h;exact wpAny_assign_Name (Kb I hN hi hx r (λs' I'=>⟨_,H,I',h⟩) hf)
def gNil:TGs:=λvs σ H Q=>vs=[]∧Q σ H
def B3(t:TG)(u:TGs):TGs:=λvs σ H Q=>∃v r,vs=v::r∧t v σ H λiy H'=>u r iy H' Q
def SB:PGs X [] gNil:=by
 intro gV s σ H vs us Q I r h;obtain⟨e,h⟩:=h;subst e;cases r;exact assignInOrder_nil ⟨σ,H,I,h⟩
def XU{e:Expr}{es:iF}{t:TG}{u:TGs}(h1:PG X e t)(h2:PGs X es u)(hs:(assignEach (e::es) X.env).map (·.2)=assign e X.env::(assignEach es X.env).map (·.2):=by rfl):PGs X (e::es) (B3 t u):=by
 intro gV s σ H vs us Q I r h;obtain⟨v,vr,e1,h⟩:=h;subst e1;cases r with
 |cons r rr=>
  rw[hs];refine assignInOrder_cons (thn (h1 gV s σ H _ _ _ I r h) λ_ s1 ⟨σ1,H1,I1,q1⟩=>?_);exact h2 gV s1 σ1 H1 _ _ Q I1 rr q1
def Hv(K:g9)(n:Nat)(t:TGs):TG:=λv σ H Q=>∃a xs,v=.ref a∧SqT K H a xs∧xs.length=n∧t xs σ H Q
def Q7{es:iF}{k:Nat}{t:TGs}{n:Nat}(hc:X.calm=true)(h:PGs X es t)(hn:(assignEach es X.env).length=n:=by rfl) (jv:(assignEach es X.env).findIdx? (·.1)=none:=by rfl):PG X (.Tuple es k pos) (Hv X.K n t):=by
 intro gV s σ H v u Q I r hw;obtain⟨a,xs,e1,hq,hl,hw⟩:=hw;subst e1;cases r;obtain⟨ik,rv,ht,hz⟩:=I.tuple hq;refine assign_Tuple_tuple (I.ok.hd hc) ht (by simp[hn,← hl,rv.length]) jv λh' hx=>?_
 have I1:Inv X gV σ H {s with heap:=h'}:=I.kept (t':=s.toks) λb o e=>hx b o (bC (aO e)) e
 exact h gV _ σ H xs _ Q I1 (by simpa using rv) hw
def gSub(to ti:TE)(t:TSet):TG:=λv σ H Q=>to σ H λo H1=>ti σ H1 λi H2=>t o i v H2 λH3=>Q σ H3
def Dy{o i:Expr}{to ti:TE}{t:TSet}(ho:PE X o to)(hi:PE X i ti)(hs:PSet X t)(ha:∀v,assign (.Subscript o i pos) X.env v=(do
     let ov ← holding [v] (eval o X.env)
     let iv ← holding [v,ov] (eval i X.env)
     standAt pos
     holding [v,ov,iv] (setItem ov iv v)
     release [v,ov,iv] []):=by intro _;rfl):PG X (.Subscript o i pos) (gSub to ti t):=by
 intro gV s σ H v u Q I r h;rw[ha];refine aB (cz (thn (ho gV s σ H _ I h) λov s1 ⟨x,H1,I1,r1,q1⟩=>?_));refine aB (cz (thn (hi gV s1 σ H1 _ I1 q1) λiv s2 ⟨y,H2,I2,r2,q2⟩=>?_));refine aB (wpAny_standAt (aB (cz (thn (hs gV s2 σ H2 x y v ov iv u _ I2 r1 r2 r q2) λ_ s3 ⟨H3,I3,q3⟩=>?_))));exact wpAny_release ⟨σ,H3,I3,q3⟩
def tAsg(te:TE)(g:TG):TS:=λD σ H=>te σ H λx H1=>g x σ H1 D.nx
def ps_asg{tg e:Expr}{te:TE}{g:TG}(he:PE X e te)(hg:PG X tg g)(hs:swapsWithSole [tg] e pos.line X.env=pure false:=by rfl)(hw:swappedStores [tg] e X.env=pure none:=by rfl)(h1:(assignEach [tg] X.env).map (·.2)=[assign tg X.env]:=by rfl):PS X (.Assign [tg] e pos) (tAsg te g):=by
 intro gV s σ H D I h;refine wpAny_Assign_stores (thn (he gV s σ H _ I h) λv s1 ⟨x,H1,I1,r1,q1⟩=>?_) hs hw;rw[h1];exact thn (hg gV s1 σ H1 x v _ I1 r1 q1) λ_ s2 q=>q
def A5{i:Nat}{x:Str}{e:Expr}{te:TE}{iV:Pos}(hN:X.N.Nodup)(hi:X.N[i]?=some x)(hx:Loc X.env.scope x)(he:PE X e te)(hs:swapsWith e (some (.Name x iV)) pos.line X.env=pure false:=by rfl)(hf:X.fn x=true∨X.env.scope.names.lookup x=some .local:=by first|exact .inl rfl|exact .inr rfl|assumption):PS X (.Assign [.Name x iV] e pos) (tAsg te (Ph i)):=by
 intro gV s σ H D I h;refine wpAny_Assign_Name (thn (he gV s σ H _ I h) λv s1 ⟨y,H1,I1,r1,q1⟩=>?_) hs;exact Kb I1 hN hi hx r1 (λs2 I2=>⟨_,H1,I2,q1⟩) hf
end
section
variable{X:Cx}{pos:Pos}
def tWhile(c:TT)(tb:TS):TS:=λD σ H=>∃W:Nat->St->Hp->Prop,(∃m,W m σ H)∧∀m σ H,W m σ H ->
 c σ H λb H1=>if b=true then ∃N:St->Hp->Prop,(∀iy H',N iy H'->∃m',m'<m∧W m' iy H')∧tb {D with nx:=N,ct:=N,bk:=D.nx} σ H1 else D.nx σ H1
def DI{c:Expr}{body:List Stmt}{tc:TT}{tb:TS}(hp:PassesOwn (model X.prog X.w) X.A X.env X.xe)(hc:PT X c tc)(hb:PSs X body tb):PS X (.While c body [] pos) (tWhile tc tb):=by
 intro gV s σ H D I h;obtain⟨W,⟨m0,w0⟩,turn⟩:=h;refine wpAny_While (codeAny_whileLoop (λn s'=>∃iy H',Inv X gV iy H' s'∧W n iy H') ?_ m0 ⟨σ,H,I,w0⟩);rintro n s1 ⟨σ1,H1,I1,w1⟩;refine dN hp (thn (hc gV s1 σ1 H1 _ I1 (turn n σ1 H1 w1)) λb s2 ⟨H2,I2,q2⟩=>?_);cases b with
 |true=>
  obtain⟨N,hN,q2⟩:=q2;rw[aC rfl];refine dN hp (thn (hb gV s2 σ1 H2 _ I2 q2) λf s3 q3=>?_);cases f with
  |next=>
   obtain⟨jT,H3,I3,n3⟩:=q3;obtain⟨m',hm,w3⟩:=hN jT H3 n3;exact⟨m',hm,jT,H3,I3,w3⟩
  |cont=>
   obtain⟨jT,H3,I3,n3⟩:=q3;obtain⟨m',hm,w3⟩:=hN jT H3 n3;exact⟨m',hm,jT,H3,I3,w3⟩
  |brk=>exact q3
  |ret v=>exact q3
 |false=>
  rw[aE aJ];exact gv ⟨σ1,H2,I2,q2⟩
end
structure It where
 go:Nat->Hp->Prop
 yld:Nat->Hp->V->Hp->Prop
 stop:Nat->Hp->Prop
def La(X:Cx)(gV:hV)(H:Hp)(b:Addr):Prop:=
 H b=none∧b≠X.env.locals∧b ∉ X.fs∧(b∈X.ex∨X.s₀.heap.objs.size<=b)∧(∀x c,X.env.cells.lookup x=some c->c≠b)∧∀p∈X.pn++gV,p.1≠b
def Inv.fpOk{X:Cx}{gV:hV}{σ:St}{H H':Hp}{s:Shared}{b:Addr}(I:Inv X gV σ H s)(hb:s.heap.objs.size<=b)(hn:H' b=none):La X gV H' b:=by
 refine⟨hn,dQ (bH I.lt hb),I.nofs hb,.inr (cg I.sz hb),λx c e z=>?_,λp hp z=>?_⟩
 ·obtain⟨v,q⟩:=I.cell x c e
  exact absurd (bH q.lt (by rw[z];exact hb)) (cS _)
 ·exact absurd (bH (aO (I.pin p hp).1) (by rw[z];exact hb)) (cS _)
structure Turn(P:Program)(w:World)(K:g9)(tg:Expr)(J:It)(fp:iA)(it:Addr)(tn:Nat->Heap->Prop):Prop where
 mem:it∈fp
 obj:∀i h,tn i h->∀b∈fp,∃o,h.get? b=some o∧∀v,o.data≠.cell v
 keep:∀i h h',tn i h->(∀b∈fp,∀o,h.get? b=some o->h'.get? b=some o)->tn i h'
 item:∀(X:Cx),X.prog=P->X.w=w->X.K=K->X.calm=true->∀(i:Nat) (gV:hV) (s:Shared) (σ:St) (H:Hp) (E:g7),Inv X gV σ H s->(∀b∈fp,La X gV H b)->tn i s.heap->J.go i H ->
  wpAny (model P w) X.A (pyNext (.ref it)) (λr s1=>∃u,r=some u ∧
   wpAny (model P w) X.A (letOwnedTupleGo tg (.ref it) u) (λ_ s2=>∃x H',Inv X gV σ H' s2∧RelV x u∧J.yld i H x H'∧tn (i+1) s2.heap∧∀b∈fp,H' b=none) E s1) E s
 done:∀(X:Cx),X.prog=P->X.w=w->X.K=K->X.calm=true->∀(i:Nat) (gV:hV) (s:Shared) (σ:St) (H:Hp) (E:g7),Inv X gV σ H s->(∀b∈fp,La X gV H b)->tn i s.heap->J.stop i H ->
  wpAny (model P w) X.A (pyNext (.ref it)) (λr s1=>r=none∧Inv X gV σ H s1) E s
 self:∀(A:Around) (i:Nat) (s:Shared) (Q:g7) (E:g7),tn i s.heap->Q (.ref it) s->wpAny (model P w) A (pyIter (.ref it)) Q E s
abbrev TI:=St->Hp->(It->Hp->Prop)->Prop
def PIE(X:Cx)(gV:hV)(σ:St)(tg:Expr)(R:It->Hp->Prop)(kS:Value)(s2:Shared):Prop:=
 ∃(it:Addr) (fp:iA) (tn:Nat->Heap->Prop) (J:It) (H':Hp),kS=.ref it∧Inv X gV σ H' s2∧Turn X.prog X.w X.K tg J fp it tn∧tn 0 s2.heap∧(∀b∈fp,La X gV H' b)∧R J H'
def PI(X:Cx)(tg il:Expr)(wi:TI):Prop:=
 ∀(gV:hV) (s:Shared) (σ:St) (H:Hp) (R:It->Hp->Prop),Inv X gV σ H s->wi σ H R ->
  wpAny (model X.prog X.w) X.A (eval il X.env) (λv s1=>wpAny (model X.prog X.w) X.A (pyIter v) (PIE X gV σ tg R) X.xe s1) X.xe s
def IF{M:Model}{A:Around}{E:g7}{s:Shared}{tg:Expr}{it:Addr}{u:Value}{o:Obj}{n:String}{vs:Array Value}{Q:Unit->Shared->Prop}(ho:s.heap.get? it=some o)(hc:o.cls=.type n)(hd:o.data=.fields vs)(hn:["enumerate","zip","dict_itemiterator","dict_reverseitemiterator","odict_iterator","itertools.zip_longest","itertools.pairwise"].contains n=false) (hQ:Q () s):wpAny M A (letOwnedTupleGo tg (.ref it) u) Q E s:=by
 unfold letOwnedTupleGo
 cases tg <;> first
  |exact aD hQ
  | (cases u <;> first
      |exact aD hQ
      | (refine aB (wpAny_load ho ?_)
         rw[hc,hd];show wpAny M A (if (["enumerate","zip","dict_itemiterator","dict_reverseitemiterator","odict_iterator","itertools.zip_longest","itertools.pairwise"].contains n&&vs[0]? == some (rawInt _))=true then _ else _) Q E s;rw[aE (by intro h;rw[hn,Bool.false_and]at h;cases h)];exact aD hQ))
def Itl(K:g9)(a:Addr):It:=
 ⟨λi H=>∃xs x,SqL K H a xs∧xs[i]?=some x,λi H x H'=>H'=H∧∀xs,SqL K H a xs->xs[i]?=some x,λi H=>∃xs,SqL K H a xs∧xs.length<=i⟩
def Itr(lo:Int)(n:Nat):It:=⟨λi _=>i<n,λi H x H'=>H'=H∧x=.int (lo+i),λi _=>n<=i⟩
def Ga{P:Program}{w:World}{K:g9}{tg:Expr}(a it:Addr):Turn P w K tg (Itl K a) [it] it (λi h=>h.IsListIter it a i) where
 mem:=by simp
 obj:=λi h st b hb=>by
  have e:b=it:=by simpa using hb
  subst e;obtain⟨o,e,c,d⟩:=st;exact⟨o,e,λv z=>by rw[d]at z;cases z⟩
 keep:=λi h h' st k=>st.at λo e=>k it (by simp) o e
 item:=by
  intro X hP hw hK hc i gV s σ H E I hf st hg;subst hP hw hK;obtain⟨xs,x,hq,hx⟩:=hg;obtain⟨ik,rv,p,hz⟩:=I.list hq;obtain⟨u,hu,ru⟩:=rv.get hx;obtain⟨f0,f1,f2,f3,f4,f5⟩:=hf it (by simp);refine wpAny_pyNext_list_item st p.isList (x:=u) (by simpa using hu) λh' jE sb=>?_
  have I1:Inv X gV σ H {s with heap:=h'}:=I.turned (t':=s.toks) (λb o hb e=>(sb.2 b hb).trans e) f0 f1 f3 f4 f5;obtain⟨o,e,c,d⟩:=id jE;exact⟨u,rfl,IF (s:={s with heap:=h'}) e c d (by decide) ⟨x,H,I1,ru,⟨rfl,λys hy=>by rw[I.list_inj hy hq];exact hx⟩,jE,λb hb=>(hf b hb).1⟩⟩
 done:=by
  intro X hP hw hK hc i gV s σ H E I hf st hg;subst hP hw hK;obtain⟨xs,hq,hx⟩:=hg;obtain⟨ik,rv,p,hz⟩:=I.list hq;obtain⟨f0,f1,f2,f3,f4,f5⟩:=hf it (by simp);have hl:=rv.length;exact wpAny_pyNext_list_end (I.ok.hd hc) st p.isList (by simp;omega) λh' eb=>⟨rfl,I.turned (t':=s.toks) (λb o hb e=>eb b o hb e) f0 f1 f3 f4 f5⟩
 self:=λ_ _ _ _ _ st h=>wpAny_pyIter_listiter st h
def JI{P:Program}{w:World}{K:g9}{tg:Expr}(it:Addr)(lo:Int)(n:Nat):Turn P w K tg (Itr lo n) [it] it (λi h=>IsRangeIter h it (lo+(i:Nat) * 1) ((n:Int)-(i:Nat)) 1) where
 mem:=by simp
 obj:=λi h st b hb=>by
  have e:b=it:=by simpa using hb
  subst e
  exact⟨_,st,λv z=>by
   have z':Data.fields _=Data.cell v:=z;cases z'⟩
 keep:=λi h h' st k=>k it (by simp) _ st
 item:=by
  intro X hP hw hK hc i gV s σ H E I hf st hg;subst hP hw hK;obtain⟨f0,f1,f2,f3,f4,f5⟩:=hf it (by simp);have W:=Walks.range (prog:=X.prog) (w:=X.w) (I.ok.hd hc) it lo 1 n;refine W.item i s _ _ hg st λv h' tk hv jE kk=>?_
  obtain⟨t,rfl⟩:=hv;have I1:Inv X gV σ H {s with heap:=h',toks:=tk}:=I.turned (λb o hb e=>kk b o (by simpa using hb) e) f0 f1 f3 f4 f5;refine⟨_,rfl,IF (s:={s with heap:=h',toks:=tk}) (n:="range_iterator") jE rfl rfl (by decide) ⟨.int (lo+i),H,I1,⟨t,?_⟩,⟨rfl,rfl⟩,jE,λb hb=>(hf b hb).1⟩⟩;rw[Int.mul_one]
 done:=by
  intro X hP hw hK hc i gV s σ H E I hf st hg;subst hP hw hK;obtain⟨f0,f1,f2,f3,f4,f5⟩:=hf it (by simp);exact wpAny_pyNext_range_end (I.ok.hd hc) st (by have:n<=i:=hg;omega) λh' eb=>⟨rfl,I.turned (t':=s.toks) (λb o hb e=>eb b o hb e) f0 f1 f3 f4 f5⟩
 self:=λ_ _ _ _ _ st h=>wpAny_pyIter_rangeiter st h
section
variable{X:Cx}{tg:Expr}
def iList(K:g9)(tl:TE):TI:=λσ H R=>tl σ H λx H1=>∃a,x=.ref a∧(∃xs,SqL K H1 a xs)∧R (Itl K a) H1
def Cu{l:Expr}{tl:TE}(hl:PE X l tl):PI X tg l (iList X.K tl):=by
 intro gV s σ H R I h;refine thn (hl gV s σ H _ I h) λv s1 ⟨x,H1,I1,r1,q1⟩=>?_
 obtain⟨a,e,⟨xs,hq⟩,q⟩:=q1;subst e;cases r1;obtain⟨ik,rv,p,hz⟩:=I1.list hq;refine gW p.isList ?_;refine⟨s1.heap.objs.size,[s1.heap.objs.size],_,_,H1,rfl,I1.kept (t':=s1.toks) λb o e=>aF _ e,Ga a _,⟨_,aW _ rfl,rfl,rfl⟩,λb hb=>?_,q⟩;have e:b=s1.heap.objs.size:=by simpa using hb
 subst e;exact I1.fpOk (aK _) (I1.hok.fresh (aK _))
def Fw{gV:hV}{σ:St}{H:Hp}{s:Shared}{R:It->Hp->Prop}{E:g7}{lo hi:Int}{t u v:Tok}{tk:Nat}(I:Inv X gV σ H s)(h1:-(2 ^ 62)<=lo)(h2:lo<2 ^ 62)(h3:-(2 ^ 62)<=hi)(h4:hi<2 ^ 62)(q:R (Itr lo (hi-lo).toNat) H):wpAny (model X.prog X.w) X.A (pyIter (.ref s.heap.objs.size)) (PIE X gV σ tg R) E {s with heap:=s.heap.push {cls:=.type "range",data:=.fields #[.int lo t,.int hi u,.int 1 v]},toks:=tk}:=by
 refine wpAny_pyIter_range (IsRange.new ..) (small_one h1 h2 h3 h4) ?_;have I1:Inv X gV σ H {s with heap:=s.heap.push {cls:=.type "range",data:=.fields #[.int lo t,.int hi u,.int 1 v]},toks:=tk}:=I.kept λb o e=>aF _ e
 refine⟨(s.heap.push {cls:=.type "range",data:=.fields #[.int lo t,.int hi u,.int 1 v]}).objs.size,[(s.heap.push {cls:=.type "range",data:=.fields #[.int lo t,.int hi u,.int 1 v]}).objs.size],_,_,H,rfl,
  I1.kept (t':=tk) λb o e=>aF _ e,JI _ lo (hi-lo).toNat,?_,λb hb=>?_,q⟩
 ·have e1:lo+((0:Nat):Int) * 1=lo:=by simp
  have e2:(((hi-lo).toNat:Nat):Int)-((0:Nat):Int)=Builtin.Range.rangeSize lo hi 1:=by rw[rangeSize_one];split <;> omega
  show IsRangeIter _ _ (lo+((0:Nat):Int) * 1) ((((hi-lo).toNat:Nat):Int)-((0:Nat):Int)) 1;rw[e1,e2];exact aW _ rfl
 ·have e:b=(s.heap.push {cls:=.type "range",data:=.fields #[.int lo t,.int hi u,.int 1 v]}).objs.size:=by simpa using hb
  subst e;exact I1.fpOk (aK _) (I1.hok.fresh (aK _))
def iRng1(ta:TA):TI:=λσ H R=>ta σ H λvs H1=>∃j:Int,vs=[.int j]∧-(2 ^ 62)<=j∧j<2 ^ 62∧R (Itr 0 j.toNat) H1
def GL{a:Expr}{ta:TA}{p pos:Pos}(hg:Gl X "range")(hm:X.mg "range"=none)(ha:PA X [a] ta)(hs:starEach [a] X.env=[(false,eval a X.env)]:=by rfl):PI X tg (.Call (.Name "range" p) [a] [] pos) (iRng1 ta):=by
 intro gV s σ H R I h;refine Call_ (Lc I hg hm boot_range (eT (thn (ha pos gV s σ H _ I h) λus s1 ⟨vs,H1,I1,r1,q1⟩=>?_) hs rfl));obtain⟨j,e,q1,q2,q⟩:=q1;subst e;cases r1 with
 |cons r rr=>
  cases rr;obtain⟨t,rfl⟩:=r;exact call_range_1 (Fw I1 (by omega) (by omega) q1 q2 (by simpa using q))
def tFor(wi:TI)(g:TG)(tb:TS):TS:=λD σ H=>wi σ H λJ H1=>∃W:Nat->Nat->St->Hp->Prop,(∃m,W 0 m σ H1)∧∀i m σ H,W i m σ H ->
 (J.stop i H∧D.nx σ H)∨(J.go i H∧∃N:St->Hp->Prop,(∀iy H',N iy H'->∃m',m'<m∧W (i+1) m' iy H')∧∀x H',J.yld i H x H'->g x σ H' λjn H2=>tb {D with nx:=N,ct:=N,bk:=D.nx} jn H2)
def RE(fp:iA)(h:Heap):hV:=fp.filterMap λb=>(h.get? b).map λo=>(b,o)
def Uu{fp:iA}{h:Heap}{b:Addr}{o:Obj}(hb:b∈fp)(e:h.get? b=some o):(b,o)∈RE fp h:=gB.mpr ⟨b,hb,by rw[e];rfl⟩
def Ge{fp:iA}{h:Heap}{p:Addr × Obj}(hp:p∈RE fp h):p.1∈fp∧h.get? p.1=some p.2:=by
 obtain⟨b,hb,e⟩:=gB.mp hp;cases q:h.get? b with
 |none=>rw[q]at e;cases e
 |some o=>
  rw[q]at e;have e':(b,o)=p:=bW e;subst e';exact⟨hb,q⟩
def Inv.pinned{gV:hV}{σ:St}{H:Hp}{s:Shared}{fp:iA}(I:Inv X gV σ H s)(hf:∀b∈fp,La X gV H b)(ho:∀b∈fp,∃o,s.heap.get? b=some o∧∀v,o.data≠.cell v):Inv X (gV++RE fp s.heap) σ H s:=
 I.pins_of λp hp=>(dH.mp hp).elim (λz=>I.pin p (ck _ z)) λz=>by
  obtain⟨hb,e⟩:=Ge z;obtain⟨f0,f1,f2,_⟩:=hf p.1 hb;obtain⟨o,e',d⟩:=ho p.1 hb;rw[e]at e';cases e';exact⟨e,f0,f1,f2,d⟩
def Inv.unpinned{gV pl:hV}{σ:St}{H:Hp}{s:Shared}(I:Inv X (gV++pl) σ H s):Inv X gV σ H s:=I.pins_of λp hp=>I.pin p (ck _ (gf _ hp))
def EW{il:Expr}{body:List Stmt}{wi:TI}{g:TG}{tb:TS}{pos:Pos}(hp:PassesOwn (model X.prog X.w) X.A X.env X.xe)(hc:X.calm=true)(hi:PI X tg il wi)(hg:PG X tg g)(hb:PSs X body tb)(hs:∀x,foldedSetIterable il X.env x=pure x:=by intro _;rfl):PS X (.For tg il body [] pos) (tFor wi g tb):=by
 intro gV s σ H D I h;refine wpAny_For (thn (hi gV s σ H _ I h) λv s1 h1=>thn h1 λkS s2 h2=>?_) hs;obtain⟨it,fp,tn,J,H2,e,I2,T,lM,f2,W,⟨m0,w0⟩,turn⟩:=h2;subst e;have stat:∀{H':Hp},(∀b∈fp,H' b=none)->∀b∈fp,La X gV H' b:=λhn b hb=>⟨hn b hb,(f2 b hb).2⟩
 refine codeAny_forLoop_any (λn s'=>∃i iy H',Inv X gV iy H' s'∧tn i s'.heap∧(∀b∈fp,H' b=none)∧W i n iy H') ?_ m0 ⟨0,σ,H2,I2,lM,λb hb=>(f2 b hb).1,w0⟩;rintro n s3 ⟨i,jT,H3,I3,st3,fr3,w3⟩;rcases turn i n jT H3 w3 with ⟨stop,qn⟩|⟨go,N,hN,step⟩
 ·refine dN hp (thn (T.done X rfl rfl rfl hc i gV s3 jT H3 X.xe I3 (stat fr3) st3 stop) λr s4 ⟨hr,I4⟩=>?_)
  subst hr;exact gv ⟨jT,H3,I4,qn⟩
 ·refine dN hp (thn (T.item X rfl rfl rfl hc i gV s3 jT H3 X.xe I3 (stat fr3) st3 go) λr s4 ⟨u,hr,h4⟩=>?_)
  subst hr;refine dN hp (thn h4 λ_ s5 ⟨x,H5,I5,r5,y5,st5,fr5⟩=>?_);have I5':=I5.pinned (stat fr5) (T.obj _ _ st5);refine dN hp (thn (hg _ s5 jT H5 x u _ I5' r5 (step x H5 y5)) λ_ s6 ⟨σ6,H6,I6,q6⟩=>?_);refine dN hp (thn (hb _ s6 σ6 H6 _ I6 q6) λf s7 q7=>?_)
  have again:∀{jU:St} {H7:Hp},Inv X (gV++RE fp s5.heap) jU H7 s7->N jU H7->∃m,m<n∧∃i iy H',Inv X gV iy H' s7∧tn i s7.heap∧(∀b∈fp,H' b=none)∧W i m iy H':=λ{jU H7} I7 n7=>by
   obtain⟨m',hm,w7⟩:=hN jU H7 n7;refine⟨m',hm,i+1,jU,H7,I7.unpinned,T.keep _ _ _ st5 λb hb o e=>(I7.pin (b,o) (ck _ (ck _ (Uu hb e)))).1,λb hb=>?_,w7⟩;obtain⟨o,e,d⟩:=T.obj _ _ st5 b hb;exact(I7.pin (b,o) (ck _ (ck _ (Uu hb e)))).2.1
  cases f with
  |next=>obtain⟨jU,H7,I7,n7⟩:=q7;exact again I7 n7
  |cont=>obtain⟨jU,H7,I7,n7⟩:=q7;exact again I7 n7
  |brk=>obtain⟨jU,H7,I7,q7⟩:=q7;exact⟨jU,H7,I7.unpinned,q7⟩
  |ret v=>obtain⟨x7,jU,H7,I7,r7,q7⟩:=q7;exact⟨x7,jU,H7,I7.unpinned,r7,q7⟩
end
abbrev R2:=V->V->Hp->VK->Prop
def OpR(X:Cx)(f:Value->Value->Sem Value)(r:R2):Prop:=
 ∀(gV:hV) (s:Shared) (σ:St) (H:Hp) (x y:V) (v u:Value) (Q:VK),Inv X gV σ H s->RelV x v->RelV y u->r x y H Q ->
  wpAny (model X.prog X.w) X.A (f v u) (EP X gV σ Q) X.xe s
def UnR(X:Cx)(f:Value->Sem Value)(r:V->Hp->VK->Prop):Prop:=
 ∀(gV:hV) (s:Shared) (σ:St) (H:Hp) (x:V) (v:Value) (Q:VK),Inv X gV σ H s->RelV x v->r x H Q ->
  wpAny (model X.prog X.w) X.A (f v) (EP X gV σ Q) X.xe s
def CallR(X:Cx)(f:Value)(r:iI->Hp->VK->Prop):Prop:=
 ∀(gV:hV) (s:Shared) (σ:St) (H:Hp) (xs:iI) (us:iB) (Q:VK),Inv X gV σ H s->Vals xs us->r xs H Q ->
  wpAny (model X.prog X.w) X.A (call f us) (EP X gV σ Q) X.xe s
def TruR(X:Cx)(r:V->Hp->(Bool->Hp->Prop)->Prop):Prop:=
 ∀(gV:hV) (s:Shared) (σ:St) (H:Hp) (x:V) (v:Value) (Q:Bool->Hp->Prop),Inv X gV σ H s->RelV x v->r x H Q ->
  wpAny (model X.prog X.w) X.A (truthy v) (TP X gV σ Q) X.xe s
def tOp(r:R2)(ta tb:TE):TE:=λσ H Q=>ta σ H λx H1=>tb σ H1 λy H2=>r x y H2 Q
def tUn(r:V->Hp->VK->Prop)(ta:TE):TE:=λσ H Q=>ta σ H λx H1=>r x H1 Q
def rI(C:Int->Int->Prop)(g:Int->Int->V):R2:=λx y H Q=>∃i j,x=.int i∧y=.int j∧C i j∧Q (g i j) H
def rI0(g:Int->Int->V):R2:=λx y H Q=>∃i j,x=.int i∧y=.int j∧Q (g i j) H
def rU(g:Int->V):V->Hp->VK->Prop:=λx H Q=>∃i,x=.int i∧Q (g i) H
section
variable{X:Cx}{a b c:Expr}{ta tb tc:TE}{pos:Pos}
def binT(ha:PE X a ta)(hb:PE X b tb){gV:hV}{s:Shared}{σ:St}{H:Hp}{R:V->V->Hp->Prop}(I:Inv X gV σ H s)(h:ta σ H λx H1=>tb σ H1 λy H2=>R x y H2) {Q:g7} {f:Value->Value->Sem Value}(hf:∀v u s2 x y H2,Inv X gV σ H2 s2->RelV x v->RelV y u->R x y H2->wpAny (model X.prog X.w) X.A (f v u) Q X.xe s2):wpAny (model X.prog X.w) X.A (eval a X.env) (λv iu=>wpAny (model X.prog X.w) X.A (eval b X.env) (λu ib=>wpAny (model X.prog X.w) X.A (f v u) Q X.xe ib) X.xe iu) X.xe s:=by
 refine thn (ha gV s σ H _ I h) λv s1 ⟨x,H1,I1,r1,q1⟩=>?_
 refine thn (hb gV s1 σ H1 _ I1 q1) λu s2 ⟨y,H2,I2,r2,q2⟩=>?_
 exact hf v u s2 x y H2 I2 r1 r2 q2
def Fp{op:Operator}{r:R2}(ho:OpR X (binaryOp op) r)(ha:PE X a ta)(hb:PE X b tb):PE X (.BinOp a op b pos) (tOp r ta tb):=by
 intro gV s σ H Q I h;exact wpAny_BinOp (binT ha hb I h λv u s2 x y H2 I2 rx ry q=>ho gV s2 σ H2 x y v u Q I2 rx ry q)
def pe_un{op:UnaryOp}{r:V->Hp->VK->Prop}(ho:UnR X (unaryOp op) r)(ha:PE X a ta):PE X (.UnaryOp op a pos) (tUn r ta):=by
 intro gV s σ H Q I h;exact UnaryOp_ (thn (ha gV s σ H _ I h) λv s1 ⟨x,H1,I1,r1,q1⟩=>ho gV s1 σ H1 x v Q I1 r1 q1)
def opI{f:Value->Value->Sem Value}{C:Int->Int->Prop}{g:Int->Int->Int}(rule:∀(i j:Int) (t u:Tok) (s:Shared) (Q:g7) (E:g7),C i j->Q (.int (g i j) s.toks) {s with toks:=s.toks+1}->wpAny (model X.prog X.w) X.A (f (.int i t) (.int j u)) Q E s):OpR X f (rI C λi j=>.int (g i j)):=by
 intro gV s σ H x y v u Q I rx ry h;obtain⟨i,j,rfl,rfl,hc,q⟩:=h;obtain⟨t,rfl⟩:=rx;obtain⟨t',rfl⟩:=ry;exact rule i j t t' s _ _ hc ⟨.int (g i j),H,I.tok _,⟨_,rfl⟩,q⟩
def opI0{f:Value->Value->Sem Value}{g:Int->Int->Int}(rule:∀(i j:Int) (t u:Tok) (s:Shared) (Q:g7) (E:g7),Q (.int (g i j) s.toks) {s with toks:=s.toks+1}->wpAny (model X.prog X.w) X.A (f (.int i t) (.int j u)) Q E s):OpR X f (rI0 λi j=>.int (g i j)):=by
 intro gV s σ H x y v u Q I rx ry h;obtain⟨i,j,rfl,rfl,q⟩:=h;obtain⟨t,rfl⟩:=rx;obtain⟨t',rfl⟩:=ry;exact rule i j t t' s _ _ ⟨.int (g i j),H,I.tok _,⟨_,rfl⟩,q⟩
def opB0{f:Value->Value->Sem Value}{g:Int->Int->Bool}(rule:∀(i j:Int) (t u:Tok) (s:Shared) (Q:g7) (E:g7),Q (.bool (g i j)) s->wpAny (model X.prog X.w) X.A (f (.int i t) (.int j u)) Q E s):OpR X f (rI0 λi j=>.bl (g i j)):=by
 intro gV s σ H x y v u Q I rx ry h;obtain⟨i,j,rfl,rfl,q⟩:=h;obtain⟨t,rfl⟩:=rx;obtain⟨t',rfl⟩:=ry;exact rule i j t t' s _ _ ⟨.bl (g i j),H,I,rfl,q⟩
def CDiv(i j:Int):Prop:=0<j∧j<1073741824
def op_add:OpR X (binaryOp .Add) (rI0 λi j=>.int (i+j)):=opI0 λ_ _ _ _ _ _ _ q=>add_int q
def op_sub:OpR X (binaryOp .Sub) (rI0 λi j=>.int (i-j)):=opI0 λ_ _ _ _ _ _ _ q=>sub_int q
def Cj:OpR X (binaryOp .FloorDiv) (rI CDiv λi j=>.int (i / j)):=opI λi j _ _ _ _ _ hc q=>by
 have h1:(0:Int)<j:=hc.1;have h2:j<1073741824:=hc.2;exact floordiv_int (by omega) (by rw[Int.fdiv_eq_ediv_of_nonneg i (by omega)];exact q) (.inl (PyProof.noPylong_small (by omega)))
def op_mod:OpR X (binaryOp .Mod) (rI (λ_ j=>0<j) λi j=>.int (i % j)):=opI λi j _ _ _ _ _ hc q=>by
 have h1:(0:Int)<j:=hc;exact mod_int' (by omega) (by rw[Int.fmod_eq_emod_of_nonneg i (by omega)];exact q)
def unI{f:Value->Sem Value}{g:Int->Int}(rule:∀(i:Int) (t:Tok) (s:Shared) (Q:g7) (E:g7),Q (.int (g i) s.toks) {s with toks:=s.toks+1}->wpAny (model X.prog X.w) X.A (f (.int i t)) Q E s):UnR X f (rU λi=>.int (g i)):=by
 intro gV s σ H x v Q I rx h;obtain⟨i,rfl,q⟩:=h;obtain⟨t,rfl⟩:=rx;exact rule i t s _ _ ⟨.int (g i),H,I.tok _,⟨_,rfl⟩,q⟩
def un_neg:UnR X (unaryOp .USub) (rU λi=>.int (-i)):=unI λ_ _ _ _ _ q=>neg_int q
end
section
variable{X:Cx}{a b c:Expr}{ta tb tc:TE}{pos:Pos}
def op_lt:OpR X (compareOp .Lt) (rI0 λi j=>.bl (decide (i<j))):=opB0 λ_ _ _ _ _ _ _ q=>lt_int q
def BX:OpR X (compareOp .Gt) (rI0 λi j=>.bl (decide (j<i))):=opB0 λ_ _ _ _ _ _ _ q=>gt_int q
def Aj:OpR X (compareOp .GtE) (rI0 λi j=>.bl (decide (j<=i))):=opB0 λ_ _ _ _ _ _ _ q=>ge_int q
def Um(b:Expr){op:CmpOp}(h:op≠.In:=by decide)(h2:op≠.NotIn:=by decide):behindInMarks op b=false:=by
 have e1:(op == CmpOp.In)=false:=by cases op <;> first|rfl|exact absurd rfl h
 have e2:(op == CmpOp.NotIn)=false:=by cases op <;> first|rfl|exact absurd rfl h2
 cases b <;> simp[behindInMarks,e1,e2]
def CY{op:CmpOp}{r:R2}(ho:OpR X (compareOp op) r)(ha:PE X a ta)(hb:PE X b tb)(hm:behindInMarks op b=false):PE X (.Compare a [op] [b] pos) (tOp r ta tb):=by
 intro gV s σ H Q I h;exact wpAny_Compare1 (binT ha hb I h λv u s2 x y H2 I2 rx ry q=>ho gV s2 σ H2 x y v u Q I2 rx ry q) hm
def tTest(t:TE):TT:=λσ H Q=>t σ H λx H'=>∃k,x=.bl k∧Q k H'
def Ce{op:CmpOp}{r:R2}(ho:OpR X (compareOp op) r)(ha:PE X a ta)(hb:PE X b tb)(hm:behindInMarks op b=false):PT X (.Compare a [op] [b] pos) (tTest (tOp r ta tb)):=by
 intro gV s σ H Q I h
 refine wpAny_isTrue_Compare1 (thn (ha gV s σ H _ I h) λv s1 ⟨x,H1,I1,r1,q1⟩=>thn (hb gV s1 σ H1 _ I1 q1) λu s2 ⟨y,H2,I2,r2,q2⟩=>
  thn (ho gV s2 σ H2 x y v u _ I2 r1 r2 q2) λc s3 ⟨z,H3,I3,r3,k,e,q3⟩=>?_) hm
 subst e;cases r3;exact dW ⟨H3,I3,q3⟩
def AZ(K:g9)(x:V)(H:Hp)(k:Bool):Prop:=
 match x with
 |.non=>k=false
 |.bl b=>k=b
 |.int i=>k=(i != 0)
 |.str y=>y.length<=sizeLine∧k=((y.length:Int) != 0)
 |.byt y=>y.size<=sizeLine∧k=((y.size:Int) != 0)
 |.ref p=>(∃xs,SqL K H p xs∧k=!xs.isEmpty)∨(∃xs,SqT K H p xs∧k=!xs.isEmpty)∨∃kvs,H p=some (.dK kvs)∧k=!kvs.isEmpty
 |_=>False
def Jh{κ:Type}{kvs:List (κ × V)}{vs:List (κ × Value)}(r:KV kvs vs):(!vs.isEmpty)=!kvs.isEmpty:=by
 cases r <;> rfl
def Op{xs:iI}{ik:iB}(r:Vals xs ik):(!ik.toArray.isEmpty)=!xs.isEmpty:=by
 cases r <;> simp
def Rn:(sizeLine:Nat)<2 ^ 63:=by rw[cf];decide
def tru_ok:TruR X (λx H Q=>∃k,AZ X.K x H k∧Q k H):=by
 intro gV s σ H x v Q I rx h;obtain⟨k,e,q⟩:=h;have hl:=Rn;have hs:sizeLine=16777216:=cf;cases x with
 |non=>
  cases rx;have e':k=false:=e;subst e';exact truthy_none ⟨H,I,q⟩
 |bl b=>
  cases rx;have e':k=b:=e;subst e';exact dW ⟨H,I,q⟩
 |int i=>
  obtain⟨t,rfl⟩:=rx;have e':k=(i != 0):=e;subst e';exact PySem.P.truthy_int ⟨H,I,q⟩
 |str y=>
  obtain⟨t,rfl⟩:=rx;obtain⟨hy,e'⟩:y.length<=sizeLine∧k=((y.length:Int) != 0):=e;subst e';exact PySem.P.truthy_str (by omega) ⟨H,I.tok _,q⟩
 |byt y=>
  obtain⟨t,rfl⟩:=rx;obtain⟨hy,e'⟩:y.size<=sizeLine∧k=((y.size:Int) != 0):=e;subst e';exact PySem.W.truthy_bytes (by omega) ⟨H,I.tok _,q⟩
 |ref p=>
  cases rx;have e':(∃xs,SqL X.K H p xs∧k=!xs.isEmpty)∨(∃xs,SqT X.K H p xs∧k=!xs.isEmpty)∨∃kvs,H p=some (.dK kvs)∧k=!kvs.isEmpty:=e
  rcases e' with ⟨xs,hx,e'⟩|⟨xs,hx,e'⟩|⟨kvs,hx,e'⟩
  ·subst e'
   obtain⟨ik,r,pl,hz⟩:=I.list hx;have ip:=r.length;exact wpAny_truthy_list pl.isList (by simp only[bF];omega) ⟨H,I.tok _,by rw[Op r];exact q⟩
  ·subst e'
   obtain⟨ik,r,pl,hz⟩:=I.tuple hx;have ip:=r.length;exact truthy_tuple pl (by simp only[bF];omega) ⟨H,I.tok _,by rw[Op r];exact q⟩
  ·subst e'
   obtain⟨hz,hS,vs,r,m⟩:kvs.length<=sizeLine∧(p == sysModules)=false∧∃vs,KV kvs vs∧s.heap.DictOf (ZT X.prog X.w) p vs:=I.hok p _ hx
   have ip:kvs.length=vs.length:=gM r;exact wpAny_truthy_dict hS m (by omega) ⟨H,I.tok _,by rw[Jh r];exact q⟩
 |_=>exact(show False from e).elim
def FD(ha:PE X a ta)(he:∀whole,isTrue a X.env whole=(do let v ← whole;standAt a.pos;holding [v] (truthy v))):PT X a (λσ H Q=>ta σ H λx H'=>∃k,AZ X.K x H' k∧Q k H'):=by
 intro gV s σ H Q I h;exact isTrue_plain (thn (ha gV s σ H _ I h) λv s1 ⟨x,H1,I1,r1,q1⟩=>tru_ok gV s1 σ H1 x v Q I1 r1 q1) (he _)
def SL{x:V}{us:iB}(r:Vals [x] us):∃u,us=[u]∧RelV x u:=by
 cases r with
 |cons r1 r2=>cases r2;exact⟨_,rfl,r1⟩
def Aa{x y:V}{us:iB}(r:Vals [x,y] us):∃u w',us=[u,w']∧RelV x u∧RelV y w':=by
 cases r with
 |cons r1 r2=>
  cases r2 with
  |cons r3 r4=>cases r4;exact⟨_,_,rfl,r1,r3⟩
def GJ(hc:X.calm=true):CallR X (.builtin "max") (λxs H Q=>∃i j,xs=[.int i,.int j]∧Q (.int (if j > i then j else i)) H):=by
 intro gV s σ H xs us Q I r h;obtain⟨i,j,rfl,q⟩:=h;obtain⟨u,w',rfl,⟨t,rfl⟩,⟨t',rfl⟩⟩:=Aa r;refine max_two_ints (I.ok.hd hc) λh' tk k=>⟨_,H,I.kept k,?_,q⟩
 by_cases hj:j > i
 ·rw[aC hj,aC hj];exact⟨_,rfl⟩
 ·rw[aE hj,aE hj];exact⟨_,rfl⟩
def HM(hc:X.calm=true):CallR X (.builtin "min") (λxs H Q=>∃i j,xs=[.int i,.int j]∧Q (.int (if j<i then j else i)) H):=by
 intro gV s σ H xs us Q I r h;obtain⟨i,j,rfl,q⟩:=h;obtain⟨u,w',rfl,⟨t,rfl⟩,⟨t',rfl⟩⟩:=Aa r;refine min_two_ints (I.ok.hd hc) λh' tk k=>⟨_,H,I.kept k,?_,q⟩
 by_cases hj:j<i
 ·rw[aC hj,aC hj];exact⟨_,rfl⟩
 ·rw[aE hj,aE hj];exact⟨_,rfl⟩
end
structure ObjM(h:Heap)(x dx C:Addr)(mA:g8):Prop where
 obj:h.get? x=some (PySem.W.instObj C dx)
 ns:h.Ns1 dx mA
 ne:dx≠x
def HZ{h:Heap}{dx:Addr}{mA:g8}(n:h.Ns1 dx mA):∃od,h.get? dx=some od∧∀name,PySem.W.lookIn name od=some (mA name):=by
 obtain⟨o,es,ep,ho,hd,hk,_,hm⟩:=n;refine⟨o,ho,λname=>?_⟩;have e:=hm name;unfold nsFind findBy at e;rw[← Array.find?_toList]at e;unfold PySem.W.lookIn;rw[hd];dsimp only;split
 ·rename_i y q
  rw[q]at e;exact cE some e
 ·rename_i q
  rw[q]at e
  have a:es.toList.any (·.refKey)=false:=by
   rw[fw];intro y hy;obtain⟨z,t,kT⟩:=hk y (Array.mem_toList_iff.mp hy);simp[DictEntry.refKey,kT]
  have a':¬ es.toList.any (·.refKey)=true:=by rw[a];exact aJ
  rw[aE a'];exact cE some e
def ObjM.look{h:Heap}{x dx C:Addr}{mA:g8}(I:ObjM h x dx C mA):∃od,PySem.W.InstAt h x (PySem.W.instObj C dx) C (some od)∧∀name,PySem.W.lookIn name od=some (mA name):=
 let ⟨od,ho,hl⟩:=HZ I.ns
 ⟨od,⟨I.obj,rfl,rfl,ho⟩,hl⟩
section
variable{prog:Program}{w:World}{A:Around}{E:g7}{s:Shared}{K:g9}{x dx C f:Addr}{mA:g8}{name:Str}{v:Value}
def D2{expr:Bool}{Q:g7}(X:K.In s.heap)(I:ObjM s.heap x dx C mA)(hg:PySem.W.plainGet K C name=true)(hh:PySem.W.hasDictIn K C=true)(ha:PySem.W.findIn K (.ref C) name=some none) (hv:mA name=some v) (nu:PySem.W.handedIn v=true) (h:Q v {s with toks:=s.toks+1}):wpAny (model prog w) A (getAttr (.ref x) name expr) Q E s:=by
 obtain⟨od,J,hl⟩:=I.look;exact PySem.W.get_value X J (gq hg).1 (PySem.W.findObj_own hh ha rfl (by rw[hl,hv])) nu h
def FX{pl:Sem Bool}{Q:Value × iB->Shared->Prop}(X:K.In s.heap)(I:ObjM s.heap x dx C mA)(hg:PySem.W.plainGet K C name=true)(hf:PySem.W.findIn K (.ref C) name=some (some (.ref f))) (ht:PySem.W.isFn K (.ref f)=true) (hv:mA name=none) (h:Q (.ref f,[.ref x]) s):wpAny (model prog w) A (getMethod (.ref x) name pl) Q E s:=by
 obtain⟨od,J,hl⟩:=I.look;exact PySem.W.method_fn X J (gq hg).1 (gq hg).2 hf (dA.mp ht) (by show(PySem.W.lookIn name od).map (·.isSome)=some false;rw[hl,hv];rfl) h
def CD{ns:iE}{Q:Unit->Shared->Prop}(X:K.In s.heap)(I:ObjM s.heap x dx C mA)(hs:PySem.W.findIn K (.ref C) "__setattr__"=some (some (.builtin "object.__setattr__"))) (hp:PySem.W.plainOver K C=true) (ht:PySem.W.takerIn K C name=some none) (hh:PySem.W.hasDictIn K C=true)(hw:PySem.Within mA ns) (hsz:ns.length<=sizeLine)(h:∀h',ObjM h' x dx C (λy=>if y=name then some v else mA y)->Heap.SameBut dx s.heap h'->Q () {s with heap:=h',toks:=s.toks+2}):wpAny (model prog w) A (setAttr (.ref x) name v) Q E s:=by
 obtain⟨od,J,hl⟩:=I.look;refine PySem.W.set_plain X J hs (PySem.W.osa_open (s:={s with toks:=s.toks+1}) (r:=none) X J hp ht λb=>?_);obtain⟨cd,hc,kb⟩:=PySem.W.any_some hh;have hx:s.heap.get? x=some ⟨.ref C,some dx,.plain,#[]⟩:=I.obj;refine aB (aD (aB (aB (wpAny_loadPart hx (aB (PySem.W.Looks.here (s:={s with toks:=s.toks+1}) (PySem.W.looks_clsIn X hc) ?_))))));rw[kb];refine aD (a:=some dx) (aB (aD (aB ?_)));refine wpAny_nsSet1 (s:={s with toks:=s.toks+1}) I.ns λh' mY jV=>?_
 obtain⟨oD,oS,oT,nv,nw,ny⟩:=mY.count (PySem.Within.cons name v hw);refine aB (wpAny_lookBehind nv (by rw[nw];exact pastItsLine_dict (cg ny (by rw[bI];omega))) ?_);exact aD (h _ ⟨(jV.2 _ (cI I.ne)).trans I.obj,mY,I.ne⟩ jV)
def Fo{R:Result->Shared->Prop}{vs:iB}{kw:List (Str × Value)}(X:K.In s.heap)(hm:PySem.W.makesIn K C=true)(hi:PySem.W.findIn K (.ref C) "__init__"=some (some (.ref f))) (hf:PySem.W.typeIn K (.ref f)=some (.type "function"))(h:codeAny (model prog w) (A.under (.builtin "type.__call__" ⟨.ref C::vs,kw⟩)) (.call (.ref f) ⟨.ref (s.heap.objs.size+1)::vs,kw⟩) (PySem.W.InitBack (s.heap.objs.size+1) R)
     {s with heap:=(s.heap.push PySem.W.emptyDict).push (PySem.W.instObj C s.heap.objs.size)}):
    codeAny (model prog w) A (.call (.ref C) ⟨vs,kw⟩) R s:=by
 obtain⟨hh,g,d,t,os⟩:=s;exact PySem.W.make_core (PySem.W.makes_of X hm) (PySem.W.looks_findIn X hi) (λself=>PySem.W.bind_fn X self hf) (.inl rfl) h
end
def putF(f:Str)(v:V):List (Str × V)->List (Str × V)
 |[]=>[(f,v)]
 |(g,x)::r=>if g=f then (g,v)::r else (g,x)::putF f v r
def Qk(f g:Str)(v:V):∀fs:List (Str × V),(putF f v fs).lookup g=if g=f then some v else fs.lookup g
 |[]=>by
  show List.lookup g [(f,v)]=_;by_cases h:g=f
  ·have hb:(g == f)=true:=dA.mpr h
   simp only[List.lookup,hb,aC h]
  ·have hb:(g == f)=false:=aY.mpr h
   simp only[List.lookup,hb,aE h]
 |(k,x)::r=>by
  have ih:=Qk f g v r;rw[show putF f v ((k,x)::r)=(if k=f then (k,v)::r else (k,x)::putF f v r) from rfl];by_cases hk:k=f
  ·rw[aC hk]
   by_cases h:g=k
   ·have hb:(g == k)=true:=dA.mpr h
    simp only[List.lookup,hb,aC (h.trans hk)]
   ·have hb:(g == k)=false:=aY.mpr h
    simp only[List.lookup,hb,aE (λe:g=f=>h (e.trans hk.symm))]
  ·rw[aE hk]
   by_cases h:g=k
   ·have hb:(g == k)=true:=dA.mpr h
    simp only[List.lookup,hb,aE (λe:g=f=>hk (h.symm.trans e))]
   ·have hb:(g == k)=false:=aY.mpr h
    simp only[List.lookup,hb];exact ih
def Rs(f:Str)(v:V):∀fs:List (Str × V),f∈(putF f v fs).map (·.1)∧∀g,g∈fs.map (·.1)->g∈(putF f v fs).map (·.1)
 |[]=>⟨by simp[putF],λg h=>by simp at h⟩
 |(k,x)::r=>by
  obtain⟨i1,i2⟩:=Rs f v r;rw[show putF f v ((k,x)::r)=(if k=f then (k,v)::r else (k,x)::putF f v r) from rfl];by_cases hk:k=f
  ·rw[aC hk]
   subst hk;exact⟨by simp,λg h=>by simpa using h⟩
  ·rw[aE hk]
   refine⟨?_,λg h=>?_⟩
   ·rw[aU]
    exact cR _ i1
   ·rw[aU]at h ⊢
    rcases aR.mp h with e|e
    ·exact aR.mpr (.inl e)
    ·exact cR _ (i2 g e)
def RZ(f:Str)(v:V):∀fs:List (Str × V),(putF f v fs).length<=fs.length+1
 |[]=>by simp[putF]
 |(k,x)::r=>by
  have ih:=RZ f v r;rw[show putF f v ((k,x)::r)=(if k=f then (k,v)::r else (k,x)::putF f v r) from rfl];by_cases hk:k=f
  ·rw[aC hk,bI,bI];omega
  ·rw[aE hk,bI,bI];omega
def RelO.some_of{v:V}{o:iH}(r:RelO (some v) o):∃u,o=some u∧RelV v u:=by
 cases o with
 |none=>exact(show False from r).elim
 |some u=>exact⟨u,rfl,r⟩
def RelO.none_of{o:iH}(r:RelO none o):o=none:=by
 cases o with
 |none=>rfl
 |some u=>exact(show False from r).elim
def GN{v:V}{u:Value}(r:RelV v u):PySem.W.handedIn u=true:=by
 cases v with
 |non=>cases (show u=Value.none from r);rfl
 |bl b=>cases (show u=Value.bool b from r);rfl
 |int i=>obtain⟨t,e⟩:=(show ∃t,u=Value.int i t from r);cases e;rfl
 |str x=>obtain⟨t,e⟩:=(show ∃t,u=Value.str x t from r);cases e;rfl
 |byt b=>obtain⟨t,e⟩:=(show ∃t,u=Value.bytes b t from r);cases e;rfl
 |flt b=>obtain⟨t,e⟩:=(show ∃t,u=Value.float b t from r);cases e;rfl
 |ref a=>cases (show u=Value.ref a from r);rfl
 |ty n=>cases (show u=Value.type n from r);rfl
section
variable{P:Program}{w:World}{H H':Hp}{h h':Heap}{a C dx:Addr}{fs jj:List (Str × V)}
def MZ(hok:HOk P w H h)(e:H a=some (.ins C dx fs)):∃mA,ObjM h a dx C mA∧(∀f,RelO (fs.lookup f) (mA f))∧PySem.Within mA (fs.map (·.1))∧fs.length<=1000∧H dx=some (.own a):=by
 obtain⟨d,z,ne,ob,mA,n,r,q⟩:=(show ObjOk P w H h a (.ins C dx fs) from hok a _ e);exact⟨mA,⟨ob,n,ne⟩,r,q,z,d⟩
end
structure Cls(K:g9)(C:Addr):Prop where
 pg:PySem.W.plainGet K C Str.empty=true
 hd:PySem.W.hasDictIn K C=true
 po:PySem.W.plainOver K C=true
 sa:PySem.W.findIn K (.ref C) "__setattr__"=some (some (.builtin "object.__setattr__"))
def Cls.get{K:g9}{C:Addr}(c:Cls K C)(f:Str):PySem.W.plainGet K C f=true:=c.pg
def NoAttr(K:g9)(C:Addr)(f:Str):Prop:=PySem.W.findIn K (.ref C) f=some none
def NoAttr.taker{K:g9}{C:Addr}{f:Str}(n:NoAttr K C f):PySem.W.takerIn K C f=some none:=by
 unfold PySem.W.takerIn;rw[show PySem.W.findIn K (.ref C) f=some none from n];rfl
structure Meth(K:g9)(C:Addr)(m:Str)(f:Addr):Prop where
 at_:PySem.W.findIn K (.ref C) m=some (some (.ref f))
 fn:PySem.W.isFn K (.ref f)=true
 kp:PySem.W.keepIn K (.ref f)=true
section
variable{X:Cx}{gV:hV}{σ:St}{H:Hp}{s:Shared}{a C dx:Addr}{fs:List (Str × V)}{f:Str}{v:V}{A:Around}{E:g7}
def J3{b:Bool}{Q:g7}(I:Inv X gV σ H s)(e:H a=some (.ins C dx fs))(c:Cls X.K C)(n:NoAttr X.K C f)(l:fs.lookup f=some v)(h:∀u s',Inv X gV σ H s'->RelV v u->Q u s'):wpAny (model X.prog X.w) A (getAttr (.ref a) f b) Q E s:=by
 obtain⟨mA,O,r,_,_,_⟩:=MZ I.hok e;obtain⟨u,hu,ru⟩:=RelO.some_of (v:=v) (o:=mA f) (by rw[← l];exact r f);exact D2 I.kIn O (c.get f) c.hd n hu (GN ru) (h u _ (I.tok _) ru)
def QY{m:Str}{g:Addr}{pl:Sem Bool}{Q:Value × iB->Shared->Prop}(I:Inv X gV σ H s)(e:H a=some (.ins C dx fs))(c:Cls X.K C)(k:Meth X.K C m g)(l:fs.lookup m=none)(h:Q (.ref g,[.ref a]) s):wpAny (model X.prog X.w) A (getMethod (.ref a) m pl) Q E s:=by
 obtain⟨mA,O,r,_,_,_⟩:=MZ I.hok e;have hn:mA m=none:=RelO.none_of (by rw[← l];exact r m);exact FX I.kIn O (c.get m) k.at_ k.fn hn h
def K6{y:V}{u:Value}{Q:Unit->Shared->Prop}(I:Inv X gV σ H s)(e:H a=some (.ins C dx fs))(c:Cls X.K C)(n:NoAttr X.K C f)(hl:fs.length<1000)(ry:RelV y u)(h:∀s',Inv X gV σ (upd H a (.ins C dx (putF f y fs))) s'->Q () s'):wpAny (model X.prog X.w) A (setAttr (.ref a) f u) Q E s:=by
 obtain⟨mA,O,r,wi,_,ho⟩:=MZ I.hok e;have hz:(fs.map (·.1)).length<=sizeLine:=by rw[aA,cf];omega
 refine CD I.kIn O c.sa c.po n.taker c.hd wi hz λh' O' sb=>h _ ?_
 have hd:∃o,h'.get? dx=some o:=let ⟨o,_,_,e',_⟩:=O'.ns;⟨o,e'⟩
 refine I.write (x:=a) (e:=dx) (by rw[e];exact True.intro) (.inr ho) (λb q hb z=>(sb.2 b hb).trans z) hd ?_;refine⟨by rw[Zx O.ne];exact ho,?_,O.ne,O'.obj,_,O'.ns,λg=>?_,λg hg=>?_⟩
 ·have:=RZ f y fs;omega
 ·show RelO ((putF f y fs).lookup g) (if g=f then some u else mA g)
  rw[Qk];by_cases q:g=f
  ·rw[aC q,aC q];exact ry
  ·rw[aE q,aE q];exact r g
 ·by_cases q:g=f
  ·rw[q];exact(Rs f y fs).1
  ·refine(Rs f y fs).2 g (wi g λz=>hg ?_)
   show(if g=f then some u else mA g)=none;rw[aE q];exact z
def Inv.made(I:Inv X gV σ H s):Inv X gV σ (upd (upd H s.heap.objs.size (.own (s.heap.objs.size+1))) (s.heap.objs.size+1) (.ins C s.heap.objs.size [])) {s with heap:=(s.heap.push PySem.W.emptyDict).push (PySem.W.instObj C s.heap.objs.size)}:=by
 have e1:(s.heap.push PySem.W.emptyDict).get? s.heap.objs.size=some PySem.W.emptyDict:=aW s.heap rfl
 have e2:((s.heap.push PySem.W.emptyDict).push (PySem.W.instObj C s.heap.objs.size)).get? (s.heap.objs.size+1)=some (PySem.W.instObj C s.heap.objs.size):=by
  have:=aW (s.heap.push PySem.W.emptyDict) (o:=PySem.W.instObj C s.heap.objs.size) rfl
  rwa [dG]at this
 have e3:(s.heap.push PySem.W.emptyDict).Ns s.heap.objs.size (λ_=>none):=⟨PySem.W.emptyDict,#[],_,e1,rfl,(λe he=>absurd he (by simp)),λ_=>rfl⟩;have I1:=I.laid (a:=s.heap.objs.size) (o:=.own (s.heap.objs.size+1)) (h':=s.heap.push PySem.W.emptyDict) (t':=s.toks) (λb u q=>aF _ q) (aK _) ⟨_,e1⟩;refine I1.laid (a:=s.heap.objs.size+1) (o:=.ins C s.heap.objs.size []) (t':=s.toks) (λb u q=>aF _ q) (Nat.le_of_eq (dG _ _)) ?_;have ne:s.heap.objs.size≠s.heap.objs.size+1:=bC (dS _);refine⟨by rw[Zx ne,ZC],cy _,ne,e2,λ_=>none,(Heap.Ns1.of_empty e3).at λo q=>aF _ q,λ_=>True.intro,λy hy=>absurd rfl hy⟩
def CU{prog:Program}{w:World}{env:Env}{e:Expr}{f:Str}{pos:Pos}{s:Shared}{Q:g7}(hb:attributeBase e f env (eval e env)=eval e env)(h:wpAny (model prog w) A (eval e env) (λo iu=>wpAny (model prog w) A (getAttr o f true) Q E iu) E s):wpAny (model prog w) A (eval (.Attribute e f pos) env) Q E s:=
 Attribute_any_ h (by rw[arm_eval_Attribute,hb])
end
def tFld(K:g9)(ta:TE)(f:Str):TE:=λσ H Q=>ta σ H λx H1=>∃a C dx fs v,x=.ref a∧H1 a=some (.ins C dx fs)∧Cls K C∧NoAttr K C f∧fs.lookup f=some v∧Q v H1
def sFld(K:g9)(ta tv:TE)(f:Str):TS:=λD σ H=>tv σ H λy H1=>ta σ H1 λx H2=>∃a C dx fs,x=.ref a∧H2 a=some (.ins C dx fs)∧Cls K C∧NoAttr K C f∧fs.length<1000 ∧
 D.nx σ (upd H2 a (.ins C dx (putF f y fs)))
section
variable{X:Cx}{o e value:Expr}{f:Str}{pos iV l6:Pos}{ta tv:TE}
def pe_fld(he:PE X e ta)(hb:attributeBase e f X.env (eval e X.env)=eval e X.env):PE X (.Attribute e f pos) (tFld X.K ta f):=by
 intro gV s σ H Q I h;refine CU hb (thn (he gV s σ H _ I h) λu s1 ⟨x,H1,I1,rx,a,C,dx,fs,v,ex,ea,c,n,l,q⟩=>?_);subst ex;obtain rfl:u=Value.ref a:=rx;exact J3 I1 ea c n l λu' s2 I2 ru=>⟨v,H1,I2,ru,q⟩
def ps_fld(ha:PE X o ta)(hv:PE X value tv)(hs:swapsWith value (some (.Attribute o f iV)) pos.line X.env=pure false):PS X (.Assign [.Attribute o f iV] value pos) (sFld X.K ta tv f):=by
 intro gV s σ H D I h;refine plainObj_wpAny_Assign_Attribute (thn (hv gV s σ H _ I h) λu s1 ⟨y,H1,I1,ry,q⟩=>thn (ha gV s1 σ H1 _ I1 q) λov s2 ⟨x,H2,I2,rx,a,C,dx,fs,ex,ea,c,n,l,q2⟩=>?_) hs;subst ex;obtain rfl:ov=Value.ref a:=rx;exact K6 I2 ea c n l ry λs3 I3=>⟨σ,_,I3,q2⟩
end
structure Room(k:Nat)(A:Around):Prop where
 hd:A.handled=none
 dp:A.depth+3 * k+5<recursionLimit
 un:A.units+16 * k+200<cLine
def Room.mono{j k:Nat}{A:Around}(r:Room k A)(h:j<=k):Room j A:=⟨r.hd,by have:=r.dp;omega,by have:=r.un;omega⟩
def Room.deeper{k:Nat}{A:Around}(r:Room (k+1) A)(env:Env):Room k (A.deeper env):=
 ⟨r.hd,by have:=r.dp;show A.depth+1+3 * k+5<_;omega,by have:=r.un;show A.units+3+16 * k+200<_;omega⟩
def JF{A:Around}{C:Addr}{us:iB}{kw:List (Str × Value)}:(A.under (.builtin "type.__call__" ⟨.ref C::us,kw⟩)).depth=A.depth+1:=by
 first|rfl|simp[Around.under,Code.weight,Code.isCreation,Code.isGuard,Code.isCaller,Code.frames,Code.isFrame,guardIds]
def JB{A:Around}{C:Addr}{us:iB}{kw:List (Str × Value)}:(A.under (.builtin "type.__call__" ⟨.ref C::us,kw⟩)).units=A.units+1:=by
 first|rfl|simp[Around.under,Code.cUnits,Code.frames,Code.isFrame]
def Room.make{k:Nat}{A:Around}(r:Room (k+1) A)(C:Addr)(us:iB)(kw:List (Str × Value)):Room k (A.under (.builtin "type.__call__" ⟨.ref C::us,kw⟩)):=
 ⟨r.hd,by have:=r.dp;rw[JF];omega,by have:=r.un;rw[JB];omega⟩
def Room.depth{k:Nat}{A:Around}(r:Room k A):A.depth<recursionLimit:=by have:=r.dp;omega
def Room.units{k:Nat}{A:Around}(r:Room k A):A.units+64<cLine:=by have:=r.un;omega
def tNil:TA:=λ_ H Q=>Q [] H
def tCons(ta:TE)(tr:TA):TA:=λσ H Q=>ta σ H λx H1=>tr σ H1 λxs H2=>Q (x::xs) H2
section
variable{X:Cx}{e:Expr}{es:iF}{te:TE}{t:TA}{pos:Pos}
def VO:PA X [] tNil:=λ_ _ _ _ H Q I h=>gZ ⟨[],H,I,.nil,h⟩
def XW(ha:PE X e te)(hr:PA X es t)(hs:starEach (e::es) X.env=(false,eval e X.env)::starEach es X.env:=by rfl):PA X (e::es) (tCons te t):=by
 intro pos gV s σ H Q I h;rw[hs];show wpAny _ _ (spliced ((false,eval e X.env)::backTo pos (starEach es X.env))) _ _ s;refine fP (thn (ha gV s σ H _ I h) λu s1 ⟨x,H1,I1,r1,q1⟩=>?_);exact thn (hr pos gV s1 σ H1 _ I1 q1) λus s2 ⟨xs,H2,I2,r2,q2⟩=>⟨x::xs,H2,I2,.cons r1 r2,q2⟩
def tTup(t:TA):TE:=λσ H Q=>t σ H λxs H1=>xs.length<=sizeLine∧∀p,H1 p=none->Q (.ref p) (upd H1 p (.tup xs))
def tLst(t:TA):TE:=λσ H Q=>t σ H λxs H1=>xs.length<=sizeLine∧∀p,H1 p=none->Q (.ref p) (upd H1 p (.lst xs))
def pe_tup{x1}(h:PA X es t):PE X (.Tuple es x1 pos) (tTup t):=by
 intro gV s σ H Q I hq;refine wpAny_Tuple_spliced (thn (h pos gV s σ H _ I hq) λus s1 ⟨xs,H1,I1,r,z,q⟩=>⟨by rw[← r.length];exact z,?_⟩);have hf:H1 s1.heap.objs.size=none:=I1.hok.fresh (aK _);refine⟨.ref s1.heap.objs.size,upd H1 s1.heap.objs.size (.tup xs),I1.laid (t':=s1.toks) (λb u e=>aF _ e) (aK _) ?_,rfl,q _ hf⟩;exact⟨z,us,r,⟨_,aW _ rfl,rfl,_,rfl⟩⟩
def Jl(h:PA X es t):PE X (.List es pos) (tLst t):=by
 intro gV s σ H Q I hq;refine wpAny_List_spliced (thn (h pos gV s σ H _ I hq) λus s1 ⟨xs,H1,I1,r,z,q⟩=>⟨by rw[← r.length];exact z,?_⟩);have hf:H1 s1.heap.objs.size=none:=I1.hok.fresh (aK _);refine⟨.ref s1.heap.objs.size,upd H1 s1.heap.objs.size (.lst xs),I1.laid (t':=s1.toks) (λb u e=>aF _ e) (aK _) ?_,rfl,q _ hf⟩;exact⟨z,us,0,r,aW _ rfl⟩
end
abbrev Sp:=iI->Hp->VK->XK->Prop
abbrev CXT:=List Env->Hp->Shared->XK->Value->Shared->Prop
structure Env0(P:Program)(w:World)(K:g9)(mg:g8)(base:Heap)(A:Around)(outer:List Env)(s:Shared)(H:Hp):Prop where
 frames:A.frames=some outer
 mod:Mod K mg base
 bs:∀b o,base.get? b=some o->s.heap.get? b=some o∧H b=none
 bsz:base.objs.size<=s.heap.objs.size
 funs:s.heap.FunFrames base outer
 frf:∀b∈frs outer,H b=none
 hok:HOk P w H s.heap
 bare:AllBare s.gens
def CE(outer:List Env)(P:Program)(w:World)(H:Hp)(s:Shared)(Q:VK)(u:Value)(s':Shared):Prop:=
 ∃v H',s'.os=s.os∧AllBare s'.gens∧Un (frs outer) [] H H' s.heap s'.heap∧HOk P w H' s'.heap∧RelV v u∧Q v H'
def CR(CX:CXT)(outer:List Env)(P:Program)(w:World)(H:Hp)(s:Shared)(Q:VK)(E:XK)(r:Result)(s':Shared):Prop:=
 match r with
 |.ok (.ret u)=>CE outer P w H s Q u s'
 |.ok _=>False
 |.error e=>CX outer H s E e s'
structure FnOk(P:Program)(w:World)(K:g9)(mg:g8)(base:Heap)(CX:CXT)(k:Nat)(f:Addr)(fd:FuncData)(ps:iE)(sp:Sp):Prop where
 len:∀vs H Q E,sp vs H Q E->vs.length=ps.length
 run:∀(A:Around) (outer:List Env) (s:Shared) (H:Hp) (args:Args) (us:iB) (vs:iI) (Q:VK) (E:XK),Room k A->Env0 P w K mg base A outer s H->BindsTo s fd args (ps.zip us)->Vals vs us->sp vs H Q E ->
  codeAny (model P w) A (.call (.ref f) args) (CR CX outer P w H s Q E) s
def FnOk.imp{P:Program}{w:World}{K:g9}{mg:g8}{base:Heap}{CX:CXT}{k:Nat}{f:Addr}{fd:FuncData}{ps:iE}{sp mZ:Sp}(F:FnOk P w K mg base CX k f fd ps sp)(h:∀vs H Q E,mZ vs H Q E->sp vs H Q E):FnOk P w K mg base CX k f fd ps mZ:=
 ⟨λvs H Q E q=>F.len vs H Q E (h _ _ _ _ q),λA outer s H args us vs Q E hr he hb hv hs=>F.run A outer s H args us vs Q E hr he hb hv (h _ _ _ _ hs)⟩
def Env0.make{P:Program}{w:World}{K:g9}{mg:g8}{base:Heap}{A:Around}{outer:List Env}{s:Shared}{H:Hp}(e:Env0 P w K mg base A outer s H)(C:Addr)(us:iB)(kw:List (Str × Value)):Env0 P w K mg base (A.under (.builtin "type.__call__" ⟨.ref C::us,kw⟩)) outer s H:=⟨by first|exact e.frames|(simpa [Around.under,Code.envs,Code.isFrame,pushEnvs] using e.frames),e.mod,e.bs,e.bsz,e.funs,e.frf,e.hok,e.bare⟩
section
variable{X:Cx}{gV:hV}{σ:St}{H:Hp}{s s':Shared}
def Inv.env0(I:Inv X gV σ H s):Env0 X.prog X.w X.K X.mg X.base X.A X.stack s H:=
 ⟨I.ok.frames,I.ok.mod,I.bs,cg I.ok.bsz I.sz,I.stack,I.stkFree,I.hok,I.bare⟩
def Inv.after{Q:VK}{u:Value}(I:Inv X gV σ H s)(h:CE X.stack X.prog X.w H s Q u s'):EP X gV σ Q u s':=by
 obtain⟨v,H',os,bare,un,hok,r,q⟩:=h;obtain⟨hh,g,d,t,lr⟩:=s';obtain rfl:lr=s.os:=os;exact⟨v,H',I.call (h':=hh) (g':=g) (d':=d) (t':=t) (ch:=[]) un hok bare (λb z=>absurd z (by simp)),r,q⟩
end
def tCall(sp:Sp)(dvs:iI)(E:XK)(t:TA):TE:=λσ H Q=>t σ H λvs H1=>sp (vs++dvs) H1 Q E
def Fx(C:Addr)(m:Str)(sp:Sp)(dvs:iI)(E:XK)(ta:TE)(t:TA):TE:=λσ H Q=>ta σ H λx H1=>∃a dx fs,x=.ref a∧H1 a=some (.ins C dx fs)∧fs.lookup m=none ∧
 t σ H1 λvs H2=>sp (x::(vs++dvs)) H2 Q E
def tMake(C:Addr)(sp:Sp)(dvs:iI)(E:XK)(t:TA):TE:=λσ H Q=>t σ H λvs H1=>∀x dx,H1 x=none->H1 dx=none->dx≠x ->
 sp (.ref x::(vs++dvs)) (upd (upd H1 dx (.own x)) x (.ins C dx [])) (λv H2=>v=.non∧Q (.ref x) H2) E
def Binds(K:g9)(fd:FuncData)(ps:iE)(ds:iB):Prop:=
 ∀(s:Shared) (us:iB),K.In s.heap->(us++ds).length=ps.length->BindsTo s fd ⟨us,[]⟩ (ps.zip (us++ds))
def Binds.all{K:g9}{fd:FuncData}{ps:iE}(h:∀us:iB,us.length=ps.length->bindArgs fd ⟨us,[]⟩=pure (ps.zip us)):Binds K fd ps []:=λs us _ hl=>by
 rw[cC]at hl ⊢;exact .of_eq (h us hl)
def XN(CX:CXT)(X:Cx)(E:XK):Prop:=∀(gV:hV) (σ:St) (H:Hp) (s:Shared) (e:Value) (s':Shared),Inv X gV σ H s->CX X.stack H s E e s'->X.xe e s'
section
variable{X:Cx}{CX:CXT}{k:Nat}{f C:Addr}{fd:FuncData}{ps:iE}{sp:Sp}{dvs:iI}{ds:iB}{E:XK}{x m:Str}{p pos iw:Pos}{e o:Expr}{es:iF}{ta:TE}{t:TA}
def Jv{gV:hV}{σ:St}{H:Hp}{s:Shared}{Q:VK}{us:iB}{vs:iI}(F:FnOk X.prog X.w X.K X.mg X.base CX k f fd ps sp)(hr:Room k X.A)(hb:Binds X.K fd ps ds)(hd:Vals dvs ds)(hx:XN CX X E)(I:Inv X gV σ H s) (r:Vals vs us) (h:sp (vs++dvs) H Q E):wpAny (model X.prog X.w) X.A (call (.ref f) us) (EP X gV σ Q) X.xe s:=by
 have r2:Vals (vs++dvs) (us++ds):=r.append hd;have hl:(us++ds).length=ps.length:=by rw[← r2.length];exact F.len _ _ _ _ h
 refine wpAny_call (d5 (F.run X.A X.stack s H ⟨us,[]⟩ (us++ds) (vs++dvs) Q E hr I.env0 (hb s us I.kIn hl) r2 h) λr s' hq=>?_);cases r with
 |error e=>exact hx gV σ H s e s' I hq
 |ok fl=>
  cases fl with
  |ret u=>exact I.after hq
  |next=>exact False.elim hq
  |brk=>exact False.elim hq
  |cont=>exact False.elim hq
def Ci(F:FnOk X.prog X.w X.K X.mg X.base CX k f fd ps sp)(hr:Room k X.A)(hg:Gl X x)(hm:X.mg x=some (.ref f))(hk:PySem.W.keepIn X.K (.ref f)=true)(hb:Binds X.K fd ps ds)(hd:Vals dvs ds)(hx:XN CX X E)(ha:PA X (e::es) t) (jo:(x == ("__debug__":Str))=false:=by decide) (he:starEach (e::es) X.env=(false,eval e X.env)::starEach es X.env:=by rfl) (iR:(backTo pos (starEach es X.env)).any (·.1)=false:=by rfl):PE X (.Call (.Name x p) (e::es) [] pos) (tCall sp dvs E t):=by
 intro gV s σ H Q I h;refine fK (QP I hg hm ?_ jo);refine gy (h₀:=X.base) I.ok.mod.kin hk (thn (ha pos gV s σ H _ I h) λus s1 ⟨vs,H1,I1,r,q⟩=>⟨I1.kIn,?_⟩) he iR;exact Jv F hr hb hd hx I1 r q
def CQ{pl:Sem Bool}(he:PE X o ta)(c:Cls X.K C)(hm:Meth X.K C m f)(F:FnOk X.prog X.w X.K X.mg X.base CX k f fd ps sp)(hr:Room k X.A)(hb:Binds X.K fd ps ds)(hd:Vals dvs ds)(hx:XN CX X E)(ha:PA X (e::es) t)(jv:starEach (e::es) X.env=(false,eval e X.env)::starEach es X.env:=by rfl) (iR:(backTo pos (starEach es X.env)).any (·.1)=false:=by rfl)(ht:eval (.Call (.Attribute o m iw) (e::es) [] pos) X.env=(do
     let ov ← eval o X.env
     standAt iw.atName
     let (f,first) ← holding [ov] (getMethod ov m pl)
     callWith pos f first (backTo pos (starEach (e::es) X.env)) (backToKw pos (keywordEach [] X.env))):=by rfl):
    PE X (.Call (.Attribute o m iw) (e::es) [] pos) (Fx C m sp dvs E ta t):=by
 intro gV s σ H Q I h;refine PySem.W.methodCall_KW (pl:=pl) (thn (he gV s σ H _ I h) λu s1 ⟨x,H1,I1,rx,a,dx,fs,ex,ea,l,q⟩=>?_) ht;subst ex;obtain rfl:u=Value.ref a:=rx;refine QY I1 ea c hm l ?_;refine gy (first:=[.ref a]) (h₀:=X.base) I.ok.mod.kin hm.kp (thn (ha pos gV s1 σ H1 _ I1 q) λus s2 ⟨vs,H2,I2,r,q2⟩=>⟨I2.kIn,?_⟩) jv iR;exact Jv (us:=.ref a::us) (vs:=.ref a::vs) F hr hb hd hx I2 (.cons rfl r) q2
def EM{pl:Sem Bool}(he:PE X o ta)(c:Cls X.K C)(hm:Meth X.K C m f)(F:FnOk X.prog X.w X.K X.mg X.base CX k f fd ps sp)(hr:Room k X.A)(hb:Binds X.K fd ps ds)(hd:Vals dvs ds)(hx:XN CX X E)(ht:eval (.Call (.Attribute o m iw) [] [] pos) X.env=(do
     let ov ← eval o X.env
     standAt iw.atName
     let (f,first) ← holding [ov] (getMethod ov m pl)
     callWith pos f first (backTo pos (starEach [] X.env)) (backToKw pos (keywordEach [] X.env))):=by rfl):
    PE X (.Call (.Attribute o m iw) [] [] pos) (Fx C m sp dvs E ta tNil):=by
 intro gV s σ H Q I h;refine PySem.W.methodCall_KW (pl:=pl) (thn (he gV s σ H _ I h) λu s1 ⟨x,H1,I1,rx,a,dx,fs,ex,ea,l,q⟩=>?_) ht;subst ex;obtain rfl:u=Value.ref a:=rx;refine QY I1 ea c hm l ?_;exact PySem.W.callWith_K0 (first:=[.ref a]) I1.kIn hm.kp (Jv (us:=[.ref a]) (vs:=[.ref a]) F hr hb hd hx I1 (.cons rfl .nil) q)
structure Mk(K:g9)(C f:Addr):Prop where
 makes:PySem.W.makesIn K C=true
 init:PySem.W.findIn K (.ref C) "__init__"=some (some (.ref f))
 fn:PySem.W.isFn K (.ref f)=true
 kp:PySem.W.keepIn K (.ref C)=true
def G6{gV:hV}{σ:St}{H:Hp}{s:Shared}{Q:VK}{us:iB}{vs:iI}(M:Mk X.K C f)(F:FnOk X.prog X.w X.K X.mg X.base CX k f fd ps sp)(hr:Room (k+1) X.A)(hb:Binds X.K fd ps ds)(hd:Vals dvs ds)(hx:XN CX X E) (I:Inv X gV σ H s) (r:Vals vs us)(h:∀x dx,H x=none->H dx=none->dx≠x->sp (.ref x::(vs++dvs)) (upd (upd H dx (.own x)) x (.ins C dx [])) (λv H2=>v=.non∧Q (.ref x) H2) E):wpAny (model X.prog X.w) X.A (call (.ref C) us) (EP X gV σ Q) X.xe s:=by
 have hq:=h (s.heap.objs.size+1) s.heap.objs.size (I.hok.fresh (cZ _)) (I.hok.fresh (aK _)) (bC (dS _));have I2:=Inv.made (C:=C) I;have r2:Vals (V.ref (s.heap.objs.size+1)::(vs++dvs)) (Value.ref (s.heap.objs.size+1)::(us++ds)):=.cons rfl (r.append hd)
 have hl:(Value.ref (s.heap.objs.size+1)::us++ds).length=ps.length:=by
  have e:=r2.length;rw[F.len _ _ _ _ hq]at e;exact e.symm
 refine wpAny_call (Fo (f:=f) I.kIn M.makes M.init (dA.mp M.fn) (d5 (F.run _ X.stack _ _ ⟨Value.ref (s.heap.objs.size+1)::us,[]⟩ (Value.ref (s.heap.objs.size+1)::(us++ds)) _ _ E (hr.make C us [])
  (I2.env0.make C us []) (hb _ (Value.ref (s.heap.objs.size+1)::us) I2.kIn hl) r2 hq) λr s' ke=>?_))
 cases r with
 |error e=>exact hx gV σ _ _ e s' I2 ke
 |ok fl=>
  cases fl with
  |ret u=>
   obtain⟨v,H',I3,rv,ev,q3⟩:=I2.after ke;subst ev;exact⟨rv,⟨V.ref (s.heap.objs.size+1),H',I3,rfl,q3⟩⟩
  |next=>exact False.elim ke
  |brk=>exact False.elim ke
  |cont=>exact False.elim ke
def Bm(M:Mk X.K C f)(F:FnOk X.prog X.w X.K X.mg X.base CX k f fd ps sp)(hr:Room (k+1) X.A)(hg:Gl X x)(hm:X.mg x=some (.ref C))(hb:Binds X.K fd ps ds)(hd:Vals dvs ds)(hx:XN CX X E)(ha:PA X (e::es) t) (jo:(x == ("__debug__":Str))=false:=by decide) (he:starEach (e::es) X.env=(false,eval e X.env)::starEach es X.env:=by rfl) (iR:(backTo pos (starEach es X.env)).any (·.1)=false:=by rfl):PE X (.Call (.Name x p) (e::es) [] pos) (tMake C sp dvs E t):=by
 intro gV s σ H Q I h;refine fK (QP I hg hm ?_ jo);refine gy (h₀:=X.base) I.ok.mod.kin M.kp (thn (ha pos gV s σ H _ I h) λus s1 ⟨vs,H1,I1,r,q⟩=>⟨I1.kIn,?_⟩) he iR;exact G6 M F hr hb hd hx I1 r q
end
structure FnScope(N P:iE)(sc:Scope):Prop where
 kind:sc.kind=.function
 co:sc.isCoroutine=false
 gen:sc.isGenerator=false
 nd:N.Nodup
 pre:N.take P.length=P
 par:∀x∈P,sc.names.lookup x=some .local∨sc.names.lookup x=some .cell
 nofree:∀y∈sc.names,y.2≠.free
def OO{kindOf:Str->Option NameKind}{x:Str}:∀{binds:List (Str × Value)} {m:g8},(∀v,(x,v) ∉ binds)->bindL kindOf binds m x=m x
 |[],_,_=>rfl
 |(n,v)::r,m,h=>by
  unfold bindL;rw[OO λw hw=>h w (cR _ hw)];split
  ·have:x≠n:=by rintro rfl;exact h v cK
   simp[this]
  ·rfl
def OP{kindOf:Str->Option NameKind}{x:Str}:∀{binds:List (Str × Value)} {m:g8},(∀v,(x,v) ∉ binds)->bindC kindOf binds m x=m x
 |[],_,_=>rfl
 |(n,v)::r,m,h=>by
  unfold bindC;rw[OP λw hw=>h w (cR _ hw)];split
  ·rfl
  ·have:x≠n:=by rintro rfl;exact h v cK
   simp[this]
def Nk{kindOf:Str->Option NameKind}{x:Str}{v:Value}:∀{P:iE} {vs:iB} {i:Nat} {m:g8},P.Nodup->P[i]?=some x->vs[i]?=some v->kindOf x=some .local -> bindL kindOf (P.zip vs) m x=some v
 |[],_,_,_,_,h,_,_=>by simp at h
 |_::_,[],_,_,_,_,h,_=>by simp at h
 |p::P,w::vs,0,m,nd,h1,h2,hk=>by
  simp at h1 h2;subst h1;subst h2;show bindL kindOf ((p,w)::P.zip vs) m p=_;unfold bindL;rw[OO λv hv=>(cL.mp nd).1 (gQ hv).1,aC hk];simp
 |p::P,w::vs,i+1,m,nd,h1,h2,hk=>by
  show bindL kindOf ((p,w)::P.zip vs) m x=_;unfold bindL;exact Nk (i:=i) (cL.mp nd).2 (by simpa using h1) (by simpa using h2) hk
def ON{kindOf:Str->Option NameKind}{x:Str}{v:Value}:∀{P:iE} {vs:iB} {i:Nat} {m:g8},P.Nodup->P[i]?=some x->vs[i]?=some v->kindOf x≠some .local -> bindC kindOf (P.zip vs) m x=some v
 |[],_,_,_,_,h,_,_=>by simp at h
 |_::_,[],_,_,_,_,h,_=>by simp at h
 |p::P,w::vs,0,m,nd,h1,h2,hk=>by
  simp at h1 h2;subst h1;subst h2;show bindC kindOf ((p,w)::P.zip vs) m p=_;unfold bindC;rw[OP λv hv=>(cL.mp nd).1 (gQ hv).1,aE hk];simp
 |p::P,w::vs,i+1,m,nd,h1,h2,hk=>by
  show bindC kindOf ((p,w)::P.zip vs) m x=_;unfold bindC;exact ON (i:=i) (cL.mp nd).2 (by simpa using h1) (by simpa using h2) hk
def start(N:iE)(vs:iI):St:=vs.map some++List.replicate (N.length-vs.length) none
def Ou(CX:CXT)(P:Program)(w:World)(K:g9)(mg:g8)(base:Heap)(N:iE)(qual:Str)(scope:Scope)(f:Addr)(cd:Value)(A:Around)(outer:List Env)(s:Shared)(H:Hp)(E:XK):Cx where
 prog:=P
 w:=w
 K:=K
 mg:=mg
 base:=base
 A:=A.deeper (envOfC qual scope s.heap.objs.size f cd)
 N:=N
 s₀:=s
 H₀:=H
 env:=envOfC qual scope s.heap.objs.size f cd
 outer:=outer
 stack:=envOfC qual scope s.heap.objs.size f cd::outer
 ex:=[]
 calm:=true
 fn:=λ_=>true
 pn:=[]
 xe:=λe s'=>wpAny (model P w) (A.deeper (envOfC qual scope s.heap.objs.size f cd)) (leaving (envOfC qual scope s.heap.objs.size f cd) e) (λ_ km=>CX outer H s E e km) (λe' km=>CX outer H s E e' km) s'
def LM{sc:Scope}{n:Nat}{x:Str}(h:sc.names.lookup x=some .cell):∃c,(cellsFrom n sc.names []).lookup x=some c:=by
 have q:=PySem.W.cellsFrom_some sc.names n [] (.inl h);exact bE.mp q
def Hn{CX:CXT}{P:Program}{w:World}{K:g9}{mg:g8}{base:Heap}{N ps:iE}{qual:Str}{scope:Scope}{f:Addr}{cd:Value}{A:Around}{outer:List Env}{s s1:Shared}{H:Hp}{E:XK}{us:iB}{vs:iI}(S:FnScope N ps scope) (hd:A.handled=none) (e0:Env0 P w K mg base A outer s H) (hl:vs.length=ps.length) (r:Vals vs us)(x:InCallC s s.heap.objs.size (bindL (envOfC qual scope s.heap.objs.size f cd).kindOf (ps.zip us) λ_=>none) (cellsFrom (s.heap.objs.size+1) scope.names []) (bindC (envOfC qual scope s.heap.objs.size f cd).kindOf (ps.zip us) λ_=>none) s1):Inv (Ou CX P w K mg base N qual scope f cd A outer s H E) [] (start N vs) H s1:=by
 have iR:ps.length<=N.length:=by have:=cE List.length S.pre;rw[fM]at this;omega
 obtain⟨h1,tk,rfl,hk⟩:=x.done;have noA:∀b:Addr,b ∉ (Ou CX P w K mg base N qual scope f cd A outer s H E).ex:=λb z=>absurd (show b∈([]:iA) from z) (by simp)
 refine⟨⟨e0.mod,S.kind,rfl,rfl,aK _,λy z c h1 h2=>?_,λy hy=>?_,λy c _ h=>?_,λ_=>hd,Around.frames_deeper e0.frames,.inr ⟨rfl,rfl⟩,λb z=>absurd z (noA b),e0.bs,e0.bsz,λb _ _=>noA b,λb z=>absurd z (noA b),e0.funs,e0.frf⟩,
  rfl,e0.bare,Un.kept hk,⟨_,x.toInCall.ns,λi y v h1 h2 h3=>?_⟩,λy c h=>⟨_,x.cell y c h⟩,e0.hok.fresh (aK _),λy c h=>?_,λp hp=>absurd (show p∈([]:hV) from hp) (by simp),e0.hok.kept hk,?_⟩
 ·exact name_of_addr x.apart (cp h1) (cp h2)
 ·have hy:scope.names.lookup y=some .cell∨scope.names.lookup y=some .free:=hy
  rcases hy with hy|hy
  ·exact LM hy
  ·exact absurd rfl (S.nofree _ (cp hy))
 ·exact et (x.above y c (cp h))
 ·have hi:i<vs.length:=by
   unfold start at h2;by_cases hi:i<vs.length
   ·exact hi
   ·rw[bD (by simpa using hi)]at h2
    rw[dE]at h2;split at h2 <;> cases h2
  have ha:vs[i]?=some v:=by
   unfold start at h2;rw[aQ (by simpa using hi),bA]at h2;cases e:vs[i]? with
   |none=>rw[e]at h2;cases h2
   |some a=>rw[e]at h2;cases h2;rfl
  obtain⟨u,hu,rv⟩:=r.get ha
  have hp:ps[i]?=some y:=by
   rw[← S.pre,List.getElem?_take_of_lt (by omega)];exact h1
  have ndP:ps.Nodup:=by rw[← S.pre];exact S.nd.sublist (List.take_sublist _ _)
  refine⟨u,rv,?_⟩;rcases S.par y (bM hp) with k|k
  ·exact .inl ⟨k,Nk ndP hp hu k⟩
  ·obtain⟨c,e⟩:=LM (n:=s.heap.objs.size+1) k
   refine .inr ⟨.inl k,c,e,?_⟩;have q:=x.cell y c e;rw[ON ndP hp hu (by show scope.names.lookup y≠_;rw[k];decide)]at q;exact q
 ·exact e0.hok.fresh (et (x.above y c (cp h)))
 ·unfold start
  show _=N.length;rw[aT,aA,dL];omega
def fn_of{CX:CXT}{P:Program}{w:World}{K:g9}{mg:g8}{base:Heap}{k:Nat}{f:Addr}{name qual:Str}{params:Arguments}{body:List Stmt}{scope:Scope}{dV kV doc pm jb ct oc:Value}{an od:Option Addr}{ll:Array (iH)} {N ps:iE} {sp:Sp} (lk:K.lookup f=some ⟨oc,od,.func (PySem.W.fnOf name qual params body scope dV kV doc pm an jb ct),ll⟩) (jS:PySem.W.codeIn K jb qual=true) (S:FnScope N ps scope)(len:∀vs H Q E,sp vs H Q E->vs.length=ps.length)(jW:∀(A:Around) (outer:List Env) (s:Shared) (H:Hp) (vs:iI) (Q:VK) (E:XK),Room k (A.deeper (envOfC qual scope s.heap.objs.size f jb))->sp vs H Q E ->
     ∃t,PSs (Ou CX P w K mg base N qual scope f jb A outer s H E) body t∧t {nx:=λ_ H'=>Q .non H',rt:=Q} (start N vs) H):
    FnOk P w K mg base CX (k+1) f (PySem.W.fnOf name qual params body scope dV kV doc pm an jb ct) ps sp:=by
 refine⟨len,λA outer s H args us vs Q E hr e0 hb r kF=>?_⟩;have hl:=len _ _ _ _ kF;have KX:K.In s.heap:=e0.mod.kin.keeps λb o e=>(e0.bs b o e).1
 have lim:s.heap.NoLimit:=e0.mod.nolimit.keeps λb o e=>(e0.bs b o e).1
 have hkind:∀y∈ps.zip us,scope.names.lookup y.1=some .local∨(scope.names.lookup y.1=some .cell∧((cellsFrom (s.heap.objs.size+1) scope.names []).lookup y.1).isSome=true):=λ⟨n,v⟩ hy=>by
  rcases S.par n (gQ hy).1 with q|q
  ·exact .inl q
  ·exact .inr ⟨q,PySem.W.cellsFrom_some _ _ _ (.inl q)⟩
 refine codeAny_call_function hr.depth (KX _ _ lk) rfl S.co S.gen rfl (PySem.W.codeRec_of KX jS) (hb _ _ _ _ ?_);refine wpAny_newFunctionEnv_cells S.kind hkind λenv he s1 x=>?_
 subst he;refine⟨lim.keeps x.toInCall.keep,codeAny_func ?_⟩;obtain⟨t,ht,hq⟩:=jW A outer s H vs Q E (hr.deeper _) kF;have I:Inv (Ou CX P w K mg base N qual scope f jb A outer s H E) [] (start N vs) H s1:=Hn S hr.hd e0 hl r x;refine cx (ht [] s1 (start N vs) H _ I hq) (λfl s' hs=>?_) λe s' hs=>hs
 have fin:∀{iy:St} {H':Hp} {v:V} {u:Value},Inv (Ou CX P w K mg base N qual scope f jb A outer s H E) [] iy H' s'->RelV v u->Q v H'->CE outer P w H s Q u s':=
  λ{iy H' v u} J rv q=>⟨v,H',J.os,J.bare,J.base,J.hok,rv,q⟩
 cases fl with
 |ret u=>
  obtain⟨v,iy,H',J,rv,q⟩:=hs;exact fin J rv q
 |next=>
  obtain⟨iy,H',J,q⟩:=hs;exact fin (v:=V.non) (u:=Value.none) J rfl q
 |brk=>
  obtain⟨_,_,_,q⟩:=hs;exact False.elim q
 |cont=>
  obtain⟨_,_,_,q⟩:=hs;exact False.elim q
section
variable{X:Cx}{x:Str}{p pos:Pos}{e:Expr}{es:iF}{t:TA}{id T:String}{r:iI->Hp->VK->Prop}
def tCB(r:iI->Hp->VK->Prop)(t:TA):TE:=λσ H Q=>t σ H λvs H1=>r vs H1 Q
def Oe(hc:CallR X (.builtin id) r)(hg:Gl X x)(hm:X.mg x=none)(hv:bootBuiltins x=some (.builtin id))(ha:PA X (e::es) t)(hn:x≠"__name__":=by decide)(jo:(x == ("__debug__":Str))=false:=by decide)(he:starEach (e::es) X.env=(false,eval e X.env)::starEach es X.env:=by rfl) (iR:(backTo pos (starEach es X.env)).any (·.1)=false:=by rfl):PE X (.Call (.Name x p) (e::es) [] pos) (tCB r t):=by
 intro gV s σ H Q I h;refine fK (Lc I hg hm hv ?_ hn jo);exact PyProof.Rows.callWith_builtin1 (thn (ha pos gV s σ H _ I h) λus s1 ⟨vs,H1,I1,r1,q1⟩=>hc gV s1 σ H1 vs us Q I1 r1 q1) he iR
def RM(hc:CallR X (.type T) r)(hg:Gl X x)(hm:X.mg x=none)(hv:bootBuiltins x=some (.type T))(ha:PA X (e::es) t)(hn:x≠"__name__":=by decide)(jo:(x == ("__debug__":Str))=false:=by decide)(he:starEach (e::es) X.env=(false,eval e X.env)::starEach es X.env:=by rfl) (iR:(backTo pos (starEach es X.env)).any (·.1)=false:=by rfl):PE X (.Call (.Name x p) (e::es) [] pos) (tCB r t):=by
 intro gV s σ H Q I h;refine fK (Lc I hg hm hv ?_ hn jo);exact eT (thn (ha pos gV s σ H _ I h) λus s1 ⟨vs,H1,I1,r1,q1⟩=>hc gV s1 σ H1 vs us Q I1 r1 q1) he iR
end
end L2
namespace HT
open PySem PyProof.Rows
end HT
namespace L2
open PySem PySem.Spec PyProof.Rows
def ixN(n:Nat)(i:Int):Option Nat:=if 0<=i then (if i<n then some i.toNat else none) else if -(n:Int)<=i then some (i+n).toNat else none
def atI{α:Type}(xs:List α)(i:Int):Option α:=(ixN xs.length i).bind λj=>xs[j]?
def IK{n:Nat}{i:Int}{j:Nat}(h:ixN n i=some j):seqIndex? i n=some j∧j<n∧-(n:Int)<=i∧i<n:=by
 unfold ixN at h;by_cases h0:0<=i
 ·rw[aC h0]at h
  by_cases h1:i<n
  ·rw[aC h1]at h
   have e:i.toNat=j:=bW h;exact⟨by rw[seqIndex_of h0 h1,e],by omega,by omega,h1⟩
  ·rw[aE h1]at h;cases h
 ·rw[aE h0]at h
  by_cases h1:-(n:Int)<=i
  ·rw[aC h1]at h
   have e:(i+n).toNat=j:=bW h;exact⟨by rw[seqIndex_neg (by omega) h1,e],by omega,h1,by omega⟩
  ·rw[aE h1]at h;cases h
def Lg{α:Type}{xs:List α}{i:Int}{v:α}(h:atI xs i=some v):∃j,seqIndex? i xs.length=some j∧xs[j]?=some v∧j<xs.length∧-(xs.length:Int)<=i∧i<xs.length:=by
 unfold atI at h;cases e:ixN xs.length i with
 |none=>rw[e]at h;cases h
 |some j=>
  rw[e]at h;obtain⟨h1,h2,h3,h4⟩:=IK e;exact⟨j,h1,h,h2,h3,h4⟩
def Cm{α:Type}{xs:List α}{j:Nat}{v:α}(h:xs[j]?=some v):atI xs (j:Int)=some v:=by
 have hj:j<xs.length:=(aH.mp h).1
 have e:ixN xs.length (j:Int)=some j:=by
  unfold ixN;rw[aC (by omega),aC (by omega)];simp
 unfold atI;rw[e];exact h
def MW(b:Expr):Prop:=∀o i,subscripted b false o i=operate [o,i] (getItem o i)
def IxR(X:Cx)(r:R2):Prop:=
 ∀(value slice:Expr) (gV:hV) (s:Shared) (σ:St) (H:Hp) (x y:V) (v u:Value) (Q:VK),Inv X gV σ H s->RelV x v->RelV y u->r x y H Q ->
  subscripted slice false v u=operate [v,u] (getItem v u)->wpAny (model X.prog X.w) X.A (subscriptTail value slice v u) (EP X gV σ Q) X.xe s
def MtR(X:Cx)(id:String)(r:V->List V->Hp->VK->Prop):Prop:=
 ∀(gV:hV) (s:Shared) (σ:St) (H:Hp) (x:V) (xs:iI) (v:Value) (us:iB) (Q:VK),Inv X gV σ H s->RelV x v->Vals xs us->r x xs H Q ->
  wpAny (model X.prog X.w) X.A (call (.builtin id) (v::us)) (EP X gV σ Q) X.xe s
section
variable{X:Cx}{a b:Expr}{ta tb:TE}{pos:Pos}
def IxR.or{r r':R2}(h:IxR X r)(h':IxR X r'):IxR X (λx y H Q=>r x y H Q∨r' x y H Q):=by
 intro value slice gV s σ H x y v u Q I rx ry q hs;rcases q with q|q
 ·exact h value slice gV s σ H x y v u Q I rx ry q hs
 ·exact h' value slice gV s σ H x y v u Q I rx ry q hs
def BZ{r:R2}(hr:IxR X r)(ha:PE X a ta)(hb:PE X b tb)(hs:MW b):PE X (.Subscript a b pos) (tOp r ta tb):=by
 intro gV s σ H Q I h;exact Subscript_ (binT ha hb I h λv u s2 x y H2 I2 rx ry q=>hr a b gV s2 σ H2 x y v u Q I2 rx ry q (hs _ _))
def rIxL(K:g9):R2:=λx y H Q=>∃p xs i v,x=.ref p∧y=.int i∧SqL K H p xs∧atI xs i=some v∧Q v H
def rIxT(K:g9):R2:=λx y H Q=>∃p xs i v,x=.ref p∧y=.int i∧SqT K H p xs∧atI xs i=some v∧Q v H
def rIxS:R2:=λx y H Q=>∃z i c,x=.str z∧y=.int i∧z.length<=sizeLine∧atI z.cps.toList i=some c∧Q (.str ⟨#[c]⟩) H
def Cp:IxR X (rIxL X.K):=by
 intro value slice gV s σ H x y v u Q I rx ry h hs;obtain⟨p,xs,i,z,rfl,rfl,hq,he,q⟩:=h;cases rx;obtain⟨t,rfl⟩:=ry;obtain⟨ik,r,pl,hz⟩:=I.list hq;obtain⟨j,h1,h2,h3,h4,h5⟩:=Lg he;obtain⟨w,ew,je⟩:=r.get h2;have hl:=r.length;have hn:=Rn;have fin:EP X gV σ Q w s:=⟨z,H,I,je,q⟩;by_cases h0:0<=i
 ·have hj:i.toNat=j:=by
   rw[seqIndex_of h0 h5]at h1;exact bW h1
  exact item_listR pl.isList h0 (by omega) (by rw[hj];simpa using ew) fin hs
 ·have hj:(i+(ik.toArray.size:Int)).toNat=j:=by
   rw[seqIndex_neg (by omega) h4]at h1;rw[bF,← hl];exact bW h1
  exact subscriptTail_builtinR (x:=w) pl.isList.typeIs slot_list_getitem.lookup
   (wpAny_getItem_list_neg (Q:=λr s'=>r=w∧EP X gV σ Q r s') pl.isList (by omega) (by rw[bF] <;> omega) (by omega) (by rw[hj];simpa using ew) ⟨rfl,fin⟩) hs
def ix_tup:IxR X (rIxT X.K):=by
 intro value slice gV s σ H x y v u Q I rx ry h hs;obtain⟨p,xs,i,z,rfl,rfl,hq,he,q⟩:=h;cases rx;obtain⟨t,rfl⟩:=ry;obtain⟨ik,r,pl,hz⟩:=I.tuple hq;obtain⟨j,h1,h2,h3,h4,h5⟩:=Lg he;obtain⟨w,ew,je⟩:=r.get h2;have hl:=r.length;have hn:=Rn;have fin:EP X gV σ Q w s:=⟨z,H,I,je,q⟩
 exact subscriptTail_builtinR (x:=w) pl.typeIs slot_tuple_getitem.lookup
  (getItem_tuple (j:=j) (Q:=λr s'=>r=w∧EP X gV σ Q r s') pl (by omega) (by omega) (by rw[bF,← hl];exact h1) (by simpa using ew) ⟨rfl,fin⟩) hs
def ix_str:IxR X rIxS:=by
 intro value slice gV s σ H x y v u Q I rx ry h hs;obtain⟨z,i,c,rfl,rfl,hz,he,q⟩:=h;obtain⟨t,rfl⟩:=rx;obtain⟨t',rfl⟩:=ry;obtain⟨j,h1,h2,h3,h4,h5⟩:=Lg he;have hl:z.cps.toList.length=z.length:=by simp[Str.length]
 rw[hl]at h1 h4 h5;have hn:=Rn
 exact tail_any (typeIs_str s z t) slot_str_getitem.lookup (getItem_str (c:=c) (by
  have e1:decide (i < -(2 ^ 63:Int))=false:=aL (by omega);have e2:decide (i ≥ 2 ^ 63)=false:=aL (by omega);rw[e1,e2,Bool.or_false]) (by rw[h1];simpa using h2) ⟨.str ⟨#[c]⟩,H,I.tok _,⟨_,rfl⟩,q⟩) hs
def rIx(K:g9):R2:=λx y H Q=>rIxL K x y H Q∨rIxT K x y H Q∨rIxS x y H Q
def F6:IxR X (rIx X.K):=Cp.or (ix_tup.or ix_str)
def Jk(ik:iB)(n j:Nat)(u:Value):Obj.mapSeq (·.setIfInBounds j u) {cls:=.type "list",data:=.seq ik.toArray n}={cls:=.type "list",data:=.seq (ik.set j u).toArray n}:=by
 simp[Obj.mapSeq]
def Inv.lst{gV:hV}{σ:St}{H:Hp}{s:Shared}{p:Addr}{xs:iI}(I:Inv X gV σ H s)(h:H p=some (.lst xs)):∃(ik:iB) (n:Nat),Vals xs ik∧s.heap.get? p=some {cls:=.type "list",data:=.seq ik.toArray n}∧xs.length<=sizeLine:=by
 obtain⟨z,ik,n,r,e⟩:=I.hok p _ h;exact⟨ik,n,r,e,z⟩
def Inv.lstUpd{gV:hV}{σ:St}{H:Hp}{s:Shared}{p:Addr}{xs ys:iI}{ik its':iB}{n n':Nat}{f:Obj->Obj}(I:Inv X gV σ H s)(h:H p=some (.lst xs))(ho:s.heap.get? p=some {cls:=.type "list",data:=.seq ik.toArray n}) (hf:f {cls:=.type "list",data:=.seq ik.toArray n}={cls:=.type "list",data:=.seq its'.toArray n'}) (r:Vals ys its') (hz:ys.length<=sizeLine) (t:Nat):Inv X gV σ (upd H p (.lst ys)) {s with heap:=s.heap.update p f,toks:=t}:=by
 have e:(s.heap.update p f).get? p=some {cls:=.type "list",data:=.seq its'.toArray n'}:=by
  rw[cv f ho (by rw[hf] <;> rfl),hf]
 refine I.write (x:=p) (e:=p) (by rw[h];trivial) (.inl rfl) (λb u hb q=>(cN _ _ (cI hb)).trans q) ⟨_,e⟩ ?_;exact⟨hz,its',n',r,e⟩
def BU:V->V->V->Hp->(Hp->Prop)->Prop:=λo i v H Q=>∃p xs k j,o=.ref p∧i=.int k∧H p=some (.lst xs)∧ixN xs.length k=some j∧Q (upd H p (.lst (xs.set j v)))
def set_list:PSet X BU:=by
 intro gV s σ H o i v ov iv u Q I ro ri rv h;obtain⟨p,xs,k,j,rfl,rfl,hp,hj,q⟩:=h;cases ro;obtain⟨t,rfl⟩:=ri;obtain⟨ik,n,r,ho,hz⟩:=I.lst hp;obtain⟨h1,h2,h3,h4⟩:=IK hj;have hl:=r.length;have hn:=Rn
 have I':Inv X gV σ (upd H p (.lst (xs.set j v))) {s with heap:=s.heap.update p (Obj.mapSeq (·.setIfInBounds j u))}:=
  I.lstUpd hp ho (Jk ik n j u) (r.set rv j) (by rw[de];exact hz) s.toks
 by_cases h0:0<=k
 ·have hk:k.toNat=j:=by
   rw[seqIndex_of h0 h4]at h1;exact bW h1
  exact PySem.W.ki_setAt ho h0 (by omega) (by rw[bF,← hl];exact h4) (by rw[hk];exact⟨_,I',q⟩)
 ·have hk:(k+(ik.toArray.size:Int)).toNat=j:=by
   rw[seqIndex_neg (by omega) h3]at h1;rw[bF,← hl];exact bW h1
  exact PySem.W.ki_setBack ho (by omega) (by rw[bF,← hl];exact h3) (by omega) (by rw[hk];exact⟨_,I',q⟩)
def TQ:V->Bool
 |.non=>true
 |.bl _=>true
 |.int _=>true
 |.str _=>true
 |_=>false
def eqV:V->V->Bool
 |.non,.non=>true
 |.bl a,.bl b=>a == b
 |.bl a,.int b=>(if a then 1 else 0) == b
 |.int a,.bl b=>a == (if b then 1 else 0)
 |.int a,.int b=>a == b
 |.str a,.str b=>a == b
 |_,_=>false
def eqAt_V{A:Around}{s:Shared}{y x:V}{u v:Value}(ry:RelV y u)(rx:RelV x v)(fy:TQ y=true)(fx:TQ x=true):SeqAt.EqAt A s u v (eqV y x):=by
 cases y with
 |non=>
  cases ry;cases x with
  |non=>cases rx;exact SeqAt.EqAt.same _
  |bl b=>cases rx;exact SeqAt.EqAt.none_bool b
  |int b=>obtain⟨t,rfl⟩:=rx;exact SeqAt.EqAt.none_int b t
  |str b=>obtain⟨t,rfl⟩:=rx;exact SeqAt.EqAt.none_str b t
  |_=>exact absurd (show false=true from fx) aJ
 |bl a=>
  cases ry;cases x with
  |non=>cases rx;exact SeqAt.EqAt.bool_none a
  |bl b=>cases rx;exact SeqAt.EqAt.bool_bool a b
  |int b=>obtain⟨t,rfl⟩:=rx;exact SeqAt.EqAt.bool_int a b t
  |str b=>obtain⟨t,rfl⟩:=rx;exact SeqAt.EqAt.bool_str a b t
  |_=>exact absurd (show false=true from fx) aJ
 |int a=>
  obtain⟨t',rfl⟩:=ry;cases x with
  |non=>cases rx;exact SeqAt.EqAt.int_none a t'
  |bl b=>cases rx;exact SeqAt.EqAt.int_bool a t' b
  |int b=>obtain⟨t,rfl⟩:=rx;exact SeqAt.EqAt.int_int a t' b t
  |str b=>obtain⟨t,rfl⟩:=rx;exact SeqAt.EqAt.int_str a t' b t
  |_=>exact absurd (show false=true from fx) aJ
 |str a=>
  obtain⟨t',rfl⟩:=ry;cases x with
  |non=>cases rx;exact SeqAt.EqAt.str_none a t'
  |bl b=>cases rx;exact SeqAt.EqAt.str_bool a t' b
  |int b=>obtain⟨t,rfl⟩:=rx;exact SeqAt.EqAt.str_int a t' b t
  |str b=>obtain⟨t,rfl⟩:=rx;exact SeqAt.EqAt.str_str a t' b t
  |_=>exact absurd (show false=true from fx) aJ
 |_=>exact absurd (show false=true from fy) aJ
def eqU(x:V)(u:Value):Bool:=match u with
 |.none=>eqV .non x
 |.bool b=>eqV (.bl b) x
 |.int i _=>eqV (.int i) x
 |.str z _=>eqV (.str z) x
 |_=>false
def FQ{x y:V}{u:Value}(r:RelV y u)(f:TQ y=true):eqU x u=eqV y x:=by
 cases y with
 |non=>cases r;rfl
 |bl b=>cases r;rfl
 |int i=>obtain⟨t,rfl⟩:=r;rfl
 |str z=>obtain⟨t,rfl⟩:=r;rfl
 |_=>exact absurd (show false=true from f) aJ
def SM{x:V}:∀{xs:iI} {us:iB},Vals xs us->xs.all TQ=true->us.any (eqU x)=xs.any λy=>eqV y x
 |_,_,.nil,_=>rfl
 |y::xs,u::us,.cons r t,f=>by
  rw[gw,bT]at f;rw[dB,dB,FQ r f.1,SM t f.2]
def U6{A:Around}{s:Shared}{x:V}{v:Value}(rx:RelV x v)(fx:TQ x=true):∀{xs:iI} {us:iB},Vals xs us->xs.all TQ=true->∀u∈us,SeqAt.EqAt A s u v (eqU x u)
 |_,_,.nil,_=>λu hu=>by cases hu
 |y::xs,u::us,.cons r t,f=>λu' hu=>by
  rw[gw,bT]at f;rcases aR.mp hu with rfl|hu
  ·rw[FQ r f.1];exact eqAt_V r rx f.1 fx
  ·exact U6 rx fx t f.2 u' hu
def inV(x:V)(xs:iI):Bool:=xs.any λy=>eqV y x
def rIn(K:g9)(neg:Bool):R2:=λx y H Q=>∃p xs,y=.ref p∧(SqL K H p xs∨SqT K H p xs)∧TQ x=true∧xs.all TQ=true∧Q (.bl (if neg then !inV x xs else inV x xs)) H
def Gi:OpR X (compareOp .In) (rIn X.K false):=by
 intro gV s σ H x y v u Q I rx ry h;obtain⟨p,xs,rfl,hq,fx,fs,q⟩:=h;cases ry;rcases hq with hq|hq
 ·obtain⟨ik,r,pl,hz⟩:=I.list hq
  refine SeqAt.in_listAt (eqU x) pl.isList (λw hw=>U6 rx fx r fs w (by simpa using hw)) ⟨.bl _,H,I,rfl,?_⟩;rw[show ik.toArray.any (eqU x)=ik.any (eqU x) by simp,SM r fs];exact q
 ·obtain⟨ik,r,pl,hz⟩:=I.tuple hq
  refine SeqAt.in_tupleAt (eqU x) pl (λw hw=>U6 rx fx r fs w (by simpa using hw)) ⟨.bl _,H,I,rfl,?_⟩;rw[show ik.toArray.any (eqU x)=ik.any (eqU x) by simp,SM r fs];exact q
def MQ:OpR X (compareOp .NotIn) (rIn X.K true):=by
 intro gV s σ H x y v u Q I rx ry h;obtain⟨p,xs,rfl,hq,fx,fs,q⟩:=h;cases ry;rcases hq with hq|hq
 ·obtain⟨ik,r,pl,hz⟩:=I.list hq
  refine SeqAt.notIn_listAt (eqU x) pl.isList (λw hw=>U6 rx fx r fs w (by simpa using hw)) ⟨.bl _,H,I,rfl,?_⟩;rw[show ik.toArray.any (eqU x)=ik.any (eqU x) by simp,SM r fs];exact q
 ·obtain⟨ik,r,pl,hz⟩:=I.tuple hq
  refine SeqAt.notIn_tupleAt (eqU x) pl (λw hw=>U6 rx fx r fs w (by simpa using hw)) ⟨.bl _,H,I,rfl,?_⟩;rw[show ik.toArray.any (eqU x)=ik.any (eqU x) by simp,SM r fs];exact q
def MX:CallR X (.builtin "len") (λxs H Q=>∃p ys,xs=[.ref p]∧(SqL X.K H p ys∨SqT X.K H p ys)∧Q (.int ys.length) H):=by
 intro gV s σ H xs us Q I r h;obtain⟨p,ys,rfl,hq,q⟩:=h;obtain⟨u,rfl,rx⟩:=SL r;cases rx;have hn:=Rn;rcases hq with hq|hq
 ·obtain⟨ik,r',pl,hz⟩:=I.list hq
  have ip:=r'.length;exact Calls.call_len_list pl.isList (by simp only[bF] <;> omega) ⟨.int ys.length,H,I.tok _,⟨s.toks+1,by rw[bF,ip]⟩,q⟩
 ·obtain⟨ik,r',pl,hz⟩:=I.tuple hq
  have ip:=r'.length;exact len_tuple pl (by simp only[bF] <;> omega) ⟨.int ys.length,H,I.tok _,⟨s.toks+1,by rw[bF,ip]⟩,q⟩
def CallR.or{f:Value}{r r':iI->Hp->VK->Prop}(h:CallR X f r)(h':CallR X f r'):CallR X f (λxs H Q=>r xs H Q∨r' xs H Q):=by
 intro gV s σ H xs us Q I rs q;rcases q with q|q
 ·exact h gV s σ H xs us Q I rs q
 ·exact h' gV s σ H xs us Q I rs q
def Le:CallR X (.type "list") (λxs H Q=>∃p ys,xs=[.ref p]∧(SqL X.K H p ys∨SqT X.K H p ys)∧∀l,H l=none->Q (.ref l) (upd H l (.lst ys))):=by
 intro gV s σ H xs us Q I r h;obtain⟨p,ys,rfl,hq,q⟩:=h;obtain⟨u,rfl,rx⟩:=SL r;cases rx
 have fin : ∀ (ik : iB),Vals ys ik -> ys.length <= sizeLine -> ∀ (h' : Heap) (c' : Nat),(∀ b o',s.heap.get? b = some o' -> h'.get? b = some o') ->
     h'.get? s.heap.objs.size=some {cls:=.type "list",dict:=none,data:=.seq ik.toArray c',slots:=#[]}->EP X gV σ Q (.ref s.heap.objs.size) {s with heap:=h'}:=λik r' hz h' c' kp e=>
  ⟨.ref s.heap.objs.size,_,I.laid (t':=s.toks) kp (aK _) (show ObjOk X.prog X.w _ h' _ (.lst ys) from⟨hz,ik,c',r',e⟩),rfl,q _ (I.hok.fresh (aK _))⟩
 rcases hq with hq|hq
 ·obtain⟨ik,r',pl,hz⟩:=I.list hq
  have ip:=r'.length;obtain⟨o,ho,hc,n,hd⟩:=pl.isList;exact call_list_seq p (.inl rfl) ho hc hd (λh' c' kp e=>fin ik r' hz h' c' kp e) (by simp only[bF] <;> omega)
 ·obtain⟨ik,r',pl,hz⟩:=I.tuple hq
  have ip:=r'.length;obtain⟨o,ho,hc,n,hd⟩:=pl;exact call_list_seq p (.inr rfl) ho hc hd (λh' c' kp e=>fin ik r' hz h' c' kp e) (by simp only[bF] <;> omega)
def tyV(K:g9)(T:String)(x:V)(H:Hp):Prop:=match x with
 |.str _=>T="str"
 |.int _=>T="int"
 | .ref p => (T = "list" ∧ ∃ xs,SqL K H p xs) ∨ (T = "tuple" ∧ ∃ o,K.lookup p = some o ∧ o.cls = .type "tuple" ∧ o.dict = none) ∨
     (T="dict"∧((∃kvs,H p=some (.dK kvs))∨∃kvs,H p=some (.dT kvs)))∨(T="set"∧∃S n,H p=some (.set S n))
 |_=>False
def Ec{gV:hV}{σ:St}{H:Hp}{s:Shared}{T:String}{x:V}{v:Value}(I:Inv X gV σ H s)(r:RelV x v)(ty:tyV X.K T x H):s.TypeIs v T∧∀a,v=.ref a->∃ob,s.heap.get? a=some ob∧ob.dict=none:=by
 cases x with
 |str z=>
  obtain⟨t,rfl⟩:=r;cases (show T="str" from ty);exact⟨typeIs_str s z t,λ_ e=>nomatch e⟩
 |int i=>
  obtain⟨t,rfl⟩:=r;cases (show T="int" from ty);exact⟨typeIs_int s i t,λ_ e=>nomatch e⟩
 |ref p=>
  cases r;rcases ty with ⟨rfl,xs,hq⟩|⟨rfl,o,hk,hc,hd⟩|⟨rfl,hk⟩|⟨rfl,S,n,hk⟩
  ·obtain⟨ik,_,pl,_⟩:=I.list hq
   refine⟨pl.isList.typeIs,λa e=>?_⟩;cases e;obtain⟨o,n,e,c,hd,_⟩:=pl;exact⟨o,e,hd⟩
  ·refine⟨⟨o,I.kIn p o hk,hc⟩,λa e=>?_⟩
   cases e;exact⟨o,I.kIn _ o hk,hd⟩
  ·have z:∃o,s.heap.get? p=some o∧o.ExactDict:=by
    rcases hk with ⟨kvs,hk⟩|⟨kvs,hk⟩
    ·obtain⟨_,_,_,_,o,_,_,e,ex,_⟩:=I.hok p _ hk
     exact⟨o,e,ex⟩
    ·obtain⟨_,_,_,_,o,_,_,e,ex,_⟩:=I.hok p _ hk
     exact⟨o,e,ex⟩
   obtain⟨o,e,ex⟩:=z;refine⟨⟨o,e,ex.1⟩,λa e2=>?_⟩;cases e2;exact⟨o,e,ex.2.1⟩
  ·obtain⟨o,_,_,_,e,ex,_⟩:=I.hok p _ hk
   refine⟨⟨o,e,ex.1⟩,λa e2=>?_⟩;cases e2;exact⟨o,e,ex.2.1⟩
 |_=>exact False.elim ty
def tBM0(K:g9)(T:String)(r:V->List V->Hp->VK->Prop)(to:TE):TE:=λσ H Q=>to σ H λx H1=>tyV K T x H1∧r x [] H1 Q
def tBM(K:g9)(T:String)(r:V->List V->Hp->VK->Prop)(to:TE)(t:TA):TE:=λσ H Q=>to σ H λx H1=>tyV K T x H1∧t σ H1 λxs H2=>r x xs H2 Q
variable{o e:Expr}{es:iF}{to:TE}{t:TA}{name:Str}{iw ir:Pos}{T id:String}{r:V->List V->Hp->VK->Prop}
def A3(pa:PlainAttrs T)(slot:Slot T name id)(l7:typeOf (.builtin id)=pure (.type "method_descriptor"))(hm:MtR X id r)(ho:PE X o to)(jf:attributeBase o name X.env (eval o X.env)=eval o X.env:=by rfl) (jg:(iw.endLine == ir.line)=true:=by rfl):PE X (.Call (.Attribute o name iw) [] [] ir) (tBM0 X.K T r to):=by
 intro gV s σ H Q I h;refine wpAny_Call_method0_late jf jg (thn (ho gV s σ H _ I h) λv s1 ⟨x,H1,I1,r1,ty,q1⟩=>?_);obtain⟨h1,h2⟩:=Ec I1 r1 ty;exact⟨T,id,pa,slot,l7,h1,h2,eM rfl (PySem.evalArgs_none (hm gV s1 σ H1 x [] v [] Q I1 r1 .nil q1))⟩
def Ai(pa:PlainAttrs T)(slot:Slot T name id)(l7:typeOf (.builtin id)=pure (.type "method_descriptor"))(hm:MtR X id r)(ho:PE X o to)(ha:PA X (e::es) t)(jf:attributeBase o name X.env (eval o X.env)=eval o X.env:=by rfl)(jp:((backTo ir (starEach (e::es) X.env)).all (λx=>!x.1)&&(backToKw ir (keywordEach [] X.env)).all (λx=>x.1.isSome)
     && decide ((e::es).length+([]:List Keyword).length+(if ([]:List Keyword).isEmpty then 0 else 1)<30))=true:=by rfl)
    (jg:(iw.endLine == ir.line)=true:=by rfl) (hs:starEach (e::es) X.env=(false,eval e X.env)::starEach es X.env:=by rfl) (ju:(backTo ir (starEach es X.env)).any (·.1)=false:=by rfl):
    PE X (.Call (.Attribute o name iw) (e::es) [] ir) (tBM X.K T r to t):=by
 intro gV s σ H Q I h;refine wpAny_Call_method_late jf jp jg rfl (thn (ho gV s σ H _ I h) λv s1 ⟨x,H1,I1,r1,ty,q1⟩=>?_);obtain⟨h1,h2⟩:=Ec I1 r1 ty;refine⟨T,id,pa,slot,l7,h1,h2,?_⟩;have hA:=ha ir gV s1 σ H1 _ I1 q1;rw[hs]at hA ⊢;refine eM (by show(false || (backTo ir (starEach es X.env)).any (·.1))=false;rw[ju] <;> rfl) (eZ ?_);exact thn hA λus s2 ⟨vs,H2,I2,r2,q2⟩=>hm gV s2 σ H2 x vs v us Q I2 r1 r2 q2
end
def MtM(X:Cx)(id:String)(r:V->List V->Hp->VK->Prop):Prop:=
 ∀(gV:hV) (s:Shared) (σ:St) (H:Hp) (x:V) (xs:iI) (v:Value) (us:iB) (Q:VK),Inv X gV σ H s->RelV x v->Vals xs us->r x xs H Q ->
  wpAny (model X.prog X.w) X.A (call (.builtin id) (v::us)) (EP X gV σ Q) X.xe s
def Vals.one:∀{x:V} {us:iB},Vals [x] us->∃u,us=[u]∧RelV x u
 |_,_,.cons r .nil=>⟨_,rfl,r⟩
def Vals.rep{xs:iI}{us:iB}(h:Vals xs us):∀k:Nat,Vals (List.replicate k xs).flatten (List.replicate k us).flatten
 |0=>.nil
 |k+1=>by
  rw[cM,cM,dy,dy];exact Vals.append h (Vals.rep h k)
def Np(ik:iB):∀(k:Nat) (iz:iB), List.foldl (λx1 x2=>x1++x2) iz.toArray (List.replicate k ik.toArray)=(iz++(List.replicate k ik).flatten).toArray
 |0,iz=>by simp
 |k+1,iz=>by
  have e:iz.toArray++ik.toArray=(iz++ik).toArray:=by simp
  have e2:(iz++ik)++(List.replicate k ik).flatten=iz++(List.replicate (k+1) ik).flatten:=by
   rw[cM,dy,bS]
  rw[← e2,← Np ik k (iz++ik),← e,cM,gR]
section
variable{X:Cx}{gV:hV}{σ:St}{H:Hp}{s:Shared}{l b:Addr}{xs ys zs:iI}
def Inv.lset{ik its':iB}{n:Nat}{f:Array Value->Array Value}{t':Nat}(I:Inv X gV σ H s)(hH:H l=some (.lst xs))(e:s.heap.get? l=some {cls:=.type "list",data:=.seq ik.toArray n}) (hf:f ik.toArray=its'.toArray) (hv:Vals ys its') (hz:ys.length<=sizeLine):Inv X gV σ (upd H l (.lst ys)) {s with heap:=s.heap.update l (Obj.mapSeq f),toks:=t'}:=by
 have q:=PySem.IsL.update e f;rw[hf]at q;refine I.write (x:=l) (e:=l) (by rw[hH];exact trivial) (.inl rfl) (λb' u hb hu=>(cN s.heap (Obj.mapSeq f) (cI hb)).trans hu) ⟨_,q⟩ ?_;exact⟨hz,its',_,hv,q⟩
def Inv.lnew{ik:iB}{t':Nat}(I:Inv X gV σ H s)(hv:Vals ys ik)(hz:ys.length<=sizeLine):Inv X gV σ (upd H s.heap.objs.size (.lst ys)) {s with heap:=s.heap.push {cls:=.type "list",data:=.seq ik.toArray},toks:=t'}:=
 I.laid (λ_ _ q=>aF _ q) (aK _) ⟨hz,ik,0,hv,aW _ rfl⟩
def Inv.fresh(I:Inv X gV σ H s):H s.heap.objs.size=none:=I.hok.fresh (aK _)
def Inv.lstM(I:Inv X gV σ H s)(hH:H l=some (.lst xs)):xs.length<=sizeLine∧∃(ik:iB) (n:Nat),Vals xs ik∧xs.length=ik.length∧s.heap.get? l=some {cls:=.type "list",data:=.seq ik.toArray n}:=by
 obtain⟨z,ik,n,r,e⟩:=I.hok l _ hH;exact⟨z,ik,n,r,r.length,e⟩
def Km{n:Nat}(h:n<=sizeLine):Builtin.List.listTooLong n=false:=by
 unfold Builtin.List.listTooLong;exact aL (by omega)
end
section
variable{X:Cx}
def He:V->List V->Hp->VK->Prop:=λx vs H Q=>∃l xs y,x=.ref l∧vs=[y]∧H l=some (.lst xs)∧xs.length<sizeLine∧Q .non (upd H l (.lst (xs++[y])))
def Gz:MtM X "list.append" He:=by
 intro gV s σ H x vs v us Q I rx rv h;obtain⟨l,xs,y,rfl,rfl,hH,hz,q⟩:=h;cases rx;obtain⟨u,rfl,ru⟩:=rv.one;obtain⟨z,ik,n,r,hl,e⟩:=I.lstM hH;refine call_meets F.slot_list_append ⟨_,e,rfl⟩ F.entry_list_append (F.args_list_append_2 _ _) (PySem.list_append l ik.toArray n u (by rw[bF];omega)) ⟨e,?_⟩;refine⟨.non,_,I.lset (its':=ik++[u]) hH e (by simp) (r.append (.cons ru .nil)) ?_,rfl,q⟩;rw[aT,dJ];omega
def rRep:R2:=λx y H Q=>∃l k xs,x=.ref l∧y=.int k∧H l=some (.lst xs)∧-(2 ^ 63)<=k∧k<2 ^ 63∧xs.length * k.toNat<=sizeLine ∧
 ∀p,H p=none->Q (.ref p) (upd H p (.lst (List.replicate k.toNat xs).flatten))
def CM{α:Type}(xs:List α)(k:Nat):(List.replicate k xs).flatten.length=k * xs.length:=by
 induction k with
 |zero=>simp
 |succ k ih=>rw[cM,dy,aT,ih,Nat.succ_mul,Nat.add_comm]
def op_rep:OpR X (binaryOp .Mult) rRep:=by
 intro gV s σ H x y v u Q I rx ry h;obtain⟨l,k,xs,rfl,rfl,hH,h1,h2,hz,q⟩:=h;cases rx;obtain⟨t,rfl⟩:=ry;obtain⟨z,ik,n,r,hl,e⟩:=I.lstM hH;have ip:ik.toArray.size * k.toNat<=sizeLine:=by rw[bF,← hl];exact hz
 have hcap:¬ ik.toArray.size * k.toNat > (2 ^ 63-1) / 8:=by
  have:(sizeLine:Nat)<=(2 ^ 63-1) / 8:=by decide
  omega
 have hfit:¬ (!Builtin.List.listFitsIndex k)=true:=by
  rw[fitsIndex_both h1 h2];exact aJ
 have hlong:¬ Builtin.List.listTooLong (ik.toArray.size * k.toNat)=true:=by
  rw[Km ip];exact aJ
 have hnew:List.foldl (λx1 x2=>x1++x2) #[] (List.replicate (if ik.toArray.isEmpty=true then 0 else k.toNat) ik.toArray)=(List.replicate k.toNat ik).flatten.toArray:=by
  have f0:∀m:Nat,List.foldl (λx1 x2=>x1++x2) #[] (List.replicate m ik.toArray)=(List.replicate m ik).flatten.toArray:=λm=>by
   have:=Np ik m [];rw[eQ]at this;exact this
  rw[f0];cases ik with
  |nil=>simp
  |cons a r'=>rw[aE (by simp)]
 refine wpAny_binaryOp_repeat_ref (T:="list") (U:="int") (by decide) ⟨_,e,rfl⟩ (λs'=>typeIs_int s' k t) noFill_list_mul F.fills_int_mul F.slot_int_rmul repeat_list F.slot_int_index.lookup
  (call_meets F.slot_int_rmul (typeIs_int s k t) F.entry_int_rmul (F.args_int_rmul_2 _ _) (int___rmul___int_list k t l ik.toArray n)
   ⟨e,rfl,⟨_,e,rfl⟩,call_meets F.slot_list_mul ⟨_,e,rfl⟩ F.entry_list_mul (F.args_list_mul_2 _ _) (AutoListH.list___mul___list_int_3 l ik.toArray n k t hfit hcap hlong) ⟨e,?_⟩⟩)
 rw[hnew];exact⟨.ref _,_,I.lnew (t':=s.toks) (r.rep k.toNat) (by rw[CM,Nat.mul_comm];exact hz),rfl,q _ I.fresh⟩
end
section
variable{κ:Type}[DecidableEq κ]
def Rb(kvs:List (κ × V))(k:κ):Option V:=(kvs.find? λkv=>decide (kv.1=k)).map (·.2)
def SU(kvs:List (κ × V))(k:κ)(v:V):List (κ × V):=
 if (kvs.any λkv=>decide (kv.1=k))=true then kvs.map (λkv=>if kv.1=k then (kv.1,v) else kv) else kvs++[(k,v)]
def P3{p:κ × V}{r:List (κ × V)}{k:κ}(e:p.1=k):Rb (p::r) k=some p.2:=by simp[Rb,cB,e]
def P7{p:κ × V}{r:List (κ × V)}{k:κ}(e:¬ p.1=k):Rb (p::r) k=Rb r k:=by simp[Rb,cB,e]
def Kq(k:κ):∀kvs:List (κ × V),(kvs.any λkv=>decide (kv.1=k))=(Rb kvs k).isSome
 |[]=>rfl
 |p::r=>by
  rw[dB];by_cases e:p.1=k
  ·simp only[P3 e,bL e,Bool.true_or,gz]
  ·rw[P7 e,aL e,fI];exact Kq k r
def Ql(kvs:List (κ × V))(k:κ)(v:V):(SU kvs k v).length<=kvs.length+1:=by
 unfold SU;split
 ·rw[aA];omega
 ·rw[aT,bI,cA];omega
def RelO.isSome_eq{o:Option V}{u:iH}(r:RelO o u):o.isSome=u.isSome:=by
 cases o with
 |none=>cases u with
  |none=>rfl
  |some _=>exact(show False from r).elim
 |some _=>cases u with
  |none=>exact(show False from r).elim
  |some _=>rfl
def RelO.getD{o:Option V}{u:iH}{d:V}{d':Value}(r:RelO o u)(rd:RelV d d'):RelV (o.getD d) (u.getD d'):=by
 cases o with
 |none=>cases u with
  |none=>exact rd
  |some _=>exact(show False from r).elim
 |some _=>cases u with
  |none=>exact(show False from r).elim
  |some _=>exact r
def KV.val{kvs:List (κ × V)}{vs:List (κ × Value)}(r:KV kvs vs)(k:κ):RelO (Rb kvs k) (valueAt vs k):=by
 unfold KV at r
 induction r with
 |nil=>exact True.intro
 |@cons p q ps qs h t ih=>
  obtain⟨h1,h2⟩:=h;by_cases e:p.1=k
  ·have e':q.1=k:=h1.symm.trans e
   have b:valueAt (q::qs) k=some q.2:=by simp[valueAt,cB,e']
   rw[P3 e,b];exact h2
  ·have e':¬ q.1=k:=λz=>e (h1.trans z)
   have b:valueAt (q::qs) k=valueAt qs k:=by simp[valueAt,cB,e']
   rw[P7 e,b];exact ih
def KV.any{kvs:List (κ × V)}{vs:List (κ × Value)}(r:KV kvs vs)(k:κ):(kvs.any λkv=>decide (kv.1=k))=vs.any λkv=>decide (kv.1=k):=by
 unfold KV at r
 induction r with
 |nil=>rfl
 |cons h t ih=>rw[dB,dB,ih,h.1]
def KV.repl{kvs:List (κ × V)}{vs:List (κ × Value)}(r:KV kvs vs)(k:κ){y:V}{u:Value}(ry:RelV y u):KV (kvs.map λkv=>if kv.1=k then (kv.1,y) else kv) (vs.map λkv=>if kv.1=k then (kv.1,u) else kv):=by
 unfold KV at r ⊢
 induction r with
 |nil=>exact .nil
 |@cons p q ps qs h t ih=>
  rw[aU,aU];refine .cons ?_ ih;obtain⟨h1,h2⟩:=h;by_cases e:p.1=k
  ·rw[aC e,aC (h1.symm.trans e)];exact⟨h1,ry⟩
  ·rw[aE e,aE (λz=>e (h1.trans z))];exact⟨h1,h2⟩
def KV.put{kvs:List (κ × V)}{vs:List (κ × Value)}(r:KV kvs vs)(k:κ){y:V}{u:Value}(ry:RelV y u):KV (SU kvs k y) (stored vs k u):=by
 unfold SU stored;rw[r.any k];by_cases e:(vs.any λkv=>decide (kv.1=k))=true
 ·rw[aC e,aC e];exact r.repl k ry
 ·rw[aE e,aE e];exact Paired.snoc r ⟨rfl,ry⟩
def KV.length{kvs:List (κ × V)}{vs:List (κ × Value)}(r:KV kvs vs):kvs.length=vs.length:=gM r
end
def Pd{P:Program}{w:World}{k:Key}{u:Value}(r:RelV (kV k) u):(ZT P w).is k u=true:=by
 cases k with
 |inl i=>obtain⟨t,e⟩:=(show ∃t,u=Value.int i t from r);subst e;exact KQ P w i t
 |inr x=>obtain⟨t,e⟩:=(show ∃t,u=Value.str x t from r);subst e;exact K0 P w x t
def O9{P:Program}{w:World}:∀{ks:List Key} {us:iB},Vals (ks.map kV) us->ItemsAre (ZT P w) ks us
 |[],_,r=>by rw[List.map_nil]at r;cases r;exact .nil
 |k::ks,_,r=>by
  rw[aU]at r;cases r with
  |cons h t=>exact .cons (Pd h) (O9 t)
abbrev KT(H:Hp):List (List Key × V)->List (List Key × Addr × Value)->Prop:=Paired λp q=>p.1=q.1∧H q.2.1=some (.tup (p.1.map kV))∧RelV p.2 q.2.2
def KT.val{H:Hp}{kvs:List (List Key × V)}{xs:List (List Key × Addr × Value)}(r:KT H kvs xs)(k:List Key):RelO (Rb kvs k) ((atKey xs k).map (·.2)):=by
 induction r with
 |nil=>exact True.intro
 |@cons p q ps qs h t ih=>
  obtain⟨h1,_,h2⟩:=h;by_cases e:p.1=k
  ·have e':q.1=k:=h1.symm.trans e
   have b:atKey (q::qs) k=some q.2:=by simp[atKey,cB,e']
   rw[P3 e,b];exact h2
  ·have e':¬ q.1=k:=λz=>e (h1.trans z)
   have b:atKey (q::qs) k=atKey qs k:=by simp[atKey,cB,e']
   rw[P7 e,b];exact ih
def KT.repl{H:Hp}{kvs:List (List Key × V)}{xs:List (List Key × Addr × Value)}(r:KT H kvs xs)(k:List Key){y:V}{u:Value}(ry:RelV y u):KT H (kvs.map λkv=>if kv.1=k then (kv.1,y) else kv) (xs.map (putAt k u)):=by
 induction r with
 |nil=>exact .nil
 |@cons p q ps qs h t ih=>
  rw[aU,aU];refine .cons ?_ ih;obtain⟨h1,h2,h3⟩:=h;unfold putAt;by_cases e:p.1=k
  ·rw[aC e,aC (h1.symm.trans e)];exact⟨h1,h2,ry⟩
  ·rw[aE e,aE (λz=>e (h1.trans z))];exact⟨h1,h2,h3⟩
def KT.put{H:Hp}{kvs:List (List Key × V)}{xs:List (List Key × Addr × Value)}(r:KT H kvs xs)(k:List Key){b:Addr}{y:V}{u:Value}(hb:H b=some (.tup (k.map kV)))(ry:RelV y u):KT H (SU kvs k y) (storedH xs k b u):=by
 have e:(kvs.any λkv=>decide (kv.1=k))=(atKey xs k).isSome:=by
  rw[Kq,(r.val k).isSome_eq,gE]
 unfold SU storedH;rw[e];by_cases q:(atKey xs k).isSome=true
 ·rw[aC q,aC q];exact r.repl k ry
 ·rw[aE q,aE q];exact Paired.snoc r ⟨rfl,hb,ry⟩
def KT.keeps{H H':Hp}{kvs:List (List Key × V)}{xs:List (List Key × Addr × Value)}(r:KT H kvs xs)(ht:∀b ys,H b=some (.tup ys)->H' b=some (.tup ys)):KT H' kvs xs:=
 Paired.mapP r λ_ _ z=>⟨z.1,ht _ _ z.2.1,z.2.2⟩
section
variable{P:Program}{w:World}{H:Hp}{h:Heap}{a:Addr}
def Ab{u:HO}(ok:HOk P w H h)(e:Rd H a u):ObjOk P w H h a u:=e.ok ok
def SK{kvs:List (Key × V)}(ok:HOk P w H h)(e:Rd H a (.dK kvs)):kvs.length<=sizeLine∧(a == sysModules)=false∧∃vs,KV kvs vs∧h.DictOf (ZT P w) a vs:=
 show ObjOk P w H h a (.dK kvs) from Ab ok e
def dk_of{kvs:List (Key × V)}(ok:HOk P w H h)(e:H a=some (.dK kvs)):kvs.length<=sizeLine∧(a == sysModules)=false∧∃vs,KV kvs vs∧h.DictOf (ZT P w) a vs:=SK ok (.inl e)
def T6{ks:List Key}(ok:HOk P w H h)(e:H a=some (.tup (ks.map kV))):(tupleKind (ZT P w)).is h ks a:=by
 obtain⟨_,ik,r,o,h1,h2,n,h3⟩:=(show ObjOk P w H h a (.tup (ks.map kV)) from ok a _ e);exact⟨o,ik.toArray,n,h1,h2,h3,by simpa using O9 r⟩
def Qi{kvs:List (List Key × V)}(ok:HOk P w H h)(e:Rd H a (.dT kvs)):kvs.length<=sizeLine∧(a == sysModules)=false ∧ ∃xs,KT H kvs xs∧h.DictOfH (tupleKind (ZT P w)) a xs:=by
 obtain⟨z,y,xs,r,o,es,ep,h1,h2,h3,h4,h5⟩:=(show ObjOk P w H h a (.dT kvs) from Ab ok e);refine⟨z,y,xs,r,o,es,ep,h1,h2,h3,h4,λx hx=>?_,h5⟩
 have all:∀{l:List (List Key × V)} {m:List (List Key × Addr × Value)},KT H l m->∀x∈m,(tupleKind (ZT P w)).is h x.1 x.2.1:=by
  intro l m q
  induction q with
  |nil=>intro x hx;exact nomatch hx
  |@cons p q ps qs hq t ih=>
   intro x hx;rcases aR.mp hx with e|hx
   ·subst e
    exact T6 ok (by rw[← hq.1];exact hq.2.1)
   ·exact ih x hx
 exact all r x hx
def dt_of{kvs:List (List Key × V)}(ok:HOk P w H h)(e:H a=some (.dT kvs)):kvs.length<=sizeLine∧(a == sysModules)=false ∧ ∃xs,KT H kvs xs∧h.DictOfH (tupleKind (ZT P w)) a xs:=Qi ok (.inl e)
end
def DGet(H:Hp)(a:Addr)(y:V)(r:Option V):Prop:=
 (∃kvs k,Rd H a (.dK kvs)∧y=kV k∧r=Rb kvs k)∨∃kvs k b,Rd H a (.dT kvs)∧y=.ref b∧H b=some (.tup (k.map kV))∧r=Rb kvs k
def DPut(H:Hp)(a:Addr)(y v:V)(H':Hp):Prop:=
 (∃kvs k,H a=some (.dK kvs)∧y=kV k∧kvs.length<sizeLine∧H'=upd H a (.dK (SU kvs k v))) ∨
 ∃kvs k b,H a=some (.dT kvs)∧y=.ref b∧H b=some (.tup (k.map kV))∧kvs.length<sizeLine∧H'=upd H a (.dT (SU kvs k v))
def DGet.k{H:Hp}{a:Addr}{kvs:List (Key × V)}{k:Key}(e:H a=some (.dK kvs)):DGet H a (kV k) (Rb kvs k):=.inl ⟨kvs,k,.inl e,rfl,rfl⟩
def DGet.t{H:Hp}{a b:Addr}{kvs:List (List Key × V)}{k:List Key}(e:H a=some (.dT kvs))(eb:H b=some (.tup (k.map kV))):DGet H a (.ref b) (Rb kvs k):=.inr ⟨kvs,k,b,.inl e,rfl,eb,rfl⟩
def DPut.k{H:Hp}{a:Addr}{kvs:List (Key × V)}{k:Key}{v:V}(e:H a=some (.dK kvs))(hl:kvs.length<sizeLine):DPut H a (kV k) v (upd H a (.dK (SU kvs k v))):=.inl ⟨kvs,k,e,rfl,hl,rfl⟩
def DPut.t{H:Hp}{a b:Addr}{kvs:List (List Key × V)}{k:List Key}{v:V}(e:H a=some (.dT kvs))(eb:H b=some (.tup (k.map kV)))(hl:kvs.length<sizeLine):DPut H a (.ref b) v (upd H a (.dT (SU kvs k v))):=.inr ⟨kvs,k,b,e,rfl,eb,hl,rfl⟩
section
variable{X:Cx}{gV:hV}{σ:St}{H:Hp}{s:Shared}{a:Addr}{y v:V}{u r:Value}{o:Option V}{A:Around}{E:g7}
def Inv.big(I:Inv X gV σ H s):sysModules<s.heap.objs.size:=by
 have h:mainGlobals<s.heap.objs.size:=(I.mod.glob.keeps I.bk).lt;exact Nat.lt_trans (by decide) h
def HP{Q:g7}(hu:A.units+1<cLine)(I:Inv X gV σ H s)(g:DGet H a y (some v))(ry:RelV y u)(h:∀w' s',Inv X gV σ H s'->RelV v w'->Q w' s'):wpAny (model X.prog X.w) A (getItem (.ref a) u) Q E s:=by
 rcases g with ⟨kvs,k,e,ey,l⟩|⟨kvs,k,b,e,ey,eb,l⟩
 ·subst ey
  obtain⟨z,hd,vs,rel,dd⟩:=SK I.hok e;obtain⟨w',hw,je⟩:=RelO.some_of (v:=v) (o:=valueAt vs k) (by rw[l];exact rel.val k);exact wpAny_getItem_of (Pd ry) dd.mapOf hw (h w' _ (I.tok _) je)
 ·subst ey
  cases (show u=Value.ref b from ry);obtain⟨z,hd,xs,rel,dd⟩:=Qi I.hok e;obtain⟨w',hw,je⟩:=RelO.some_of (v:=v) (o:=(atKey xs k).map (·.2)) (by rw[l];exact rel.val k);obtain⟨p,hp,jF⟩:=bZ.mp hw;refine wpAny_getItem_heap (dM hu) (T6 I.hok eb) dd hp ?_;rw[jF];exact h w' _ (I.tok _) je
def d_in{Q:g7}(hu:A.units+1<cLine)(I:Inv X gV σ H s)(g:DGet H a y o)(ry:RelV y u)(h:∀s',Inv X gV σ H s'->Q (.bool o.isSome) s'):wpAny (model X.prog X.w) A (compareOp .In u (.ref a)) Q E s:=by
 rcases g with ⟨kvs,k,e,ey,l⟩|⟨kvs,k,b,e,ey,eb,l⟩
 ·subst ey
  obtain⟨z,hd,vs,rel,dd⟩:=SK I.hok e;refine wpAny_in_of (Pd ry) hd dd.mapOf ?_;rw[← (rel.val k).isSome_eq,← l];exact h _ (I.tok _)
 ·subst ey
  cases (show u=Value.ref b from ry);obtain⟨z,hd,xs,rel,dd⟩:=Qi I.hok e;refine wpAny_in_heap (dM hu) (T6 I.hok eb) hd dd ?_;have q:=(rel.val k).isSome_eq;rw[gE]at q;rw[← q,← l];exact h _ (I.tok _)
def C8{Q:g7}(hu:A.units+1<cLine)(I:Inv X gV σ H s)(g:DGet H a y o)(ry:RelV y u)(h:∀s',Inv X gV σ H s'->Q (.bool (!o.isSome)) s'):wpAny (model X.prog X.w) A (compareOp .NotIn u (.ref a)) Q E s:=by
 rcases g with ⟨kvs,k,e,ey,l⟩|⟨kvs,k,b,e,ey,eb,l⟩
 ·subst ey
  obtain⟨z,hd,vs,rel,dd⟩:=SK I.hok e;refine wpAny_notIn_of (Pd ry) hd dd.mapOf ?_;rw[← (rel.val k).isSome_eq,← l];exact h _ (I.tok _)
 ·subst ey
  cases (show u=Value.ref b from ry);obtain⟨z,hd,xs,rel,dd⟩:=Qi I.hok e;refine wpAny_notIn_heap (dM hu) (T6 I.hok eb) hd dd ?_;have q:=(rel.val k).isSome_eq;rw[gE]at q;rw[← q,← l];exact h _ (I.tok _)
def Im{h':Heap}{t':Nat}{ob:HO}(I:Inv X gV σ H s)(mu:Mut (H a))(hs:Heap.SameBut a s.heap h')(he:∃q,h'.get? a=some q)(new:ObjOk X.prog X.w (upd H a ob) h' a ob):Inv X gV σ (upd H a ob) {s with heap:=h',toks:=t'}:=
 I.write (x:=a) (e:=a) mu (.inl rfl) (λb q hb z=>(hs.2 b hb).trans z) he new
def dk_new{P:Program}{w:World}{H':Hp}{h':Heap}{kvs:List (Key × V)}{vs:List (Key × Value)}(z:kvs.length<=sizeLine)(hd:(a == sysModules)=false)(rel:KV kvs vs)(dd:h'.DictOf (ZT P w) a vs):ObjOk P w H' h' a (.dK kvs):=⟨z,hd,vs,rel,dd⟩
def Gg{H':Hp}{Q:Unit->Shared->Prop}(hu:A.units+1<cLine)(I:Inv X gV σ H s)(g:DPut H a y v H')(ry:RelV y u)(rv:RelV v r)(h:∀s',Inv X gV σ H' s'->Q () s'):wpAny (model X.prog X.w) A (setItem (.ref a) u r) Q E s:=by
 rcases g with ⟨kvs,k,e,ey,l,eH⟩|⟨kvs,k,b,e,ey,eb,l,eH⟩
 ·subst ey eH
  obtain⟨z,hd,vs,rel,dd⟩:=dk_of I.hok e;have hz:vs.length<=sizeLine:=by rw[← rel.length];exact z
  have hl:(SU kvs k v).length<=sizeLine:=by have:=Ql kvs k v;omega
  refine wpAny_setItem_pairs (hsz:=hz) (Pd ry) dd λh' lN hs=>h _ ?_
  have he:∃q,h'.get? a=some q:=let ⟨q,_,_,hq,_⟩:=lN;⟨q,hq⟩
  exact Im I (by rw[e];exact True.intro) hs he (dk_new hl hd (rel.put k rv) lN)
 ·subst ey eH
  cases (show u=Value.ref b from ry);obtain⟨z,hd,xs,rel,dd⟩:=dt_of I.hok e;have hz:xs.length<=sizeLine:=by rw[← gM rel];exact z
  have hl:(SU kvs k v).length<=sizeLine:=by have:=Ql kvs k v;omega
  refine wpAny_setItem_heap (hsz:=hz) (dM hu) (T6 I.hok eb) dd λh' lN hs=>h _ ?_
  obtain⟨q,es,ep,hq,h2,h3,h4,_,h5⟩:=lN;refine Im I (by rw[e];exact True.intro) hs ⟨q,hq⟩ ⟨hl,hd,_,(rel.put k eb rv).keeps λc ys ec=>?_,q,es,ep,hq,h2,h3,h4,h5⟩;rw[Zx (ne_of ec e (λz=>nomatch z))];exact ec
end
section
variable{X:Cx}{gV:hV}{σ:St}{H:Hp}{s:Shared}{a:Addr}{kvs:List (Key × V)}{k:Key}{u:Value}{A:Around}{E:g7}
def d_len{Q:g7}(I:Inv X gV σ H s)(e:Rd H a (.dK kvs))(h:∀t s',Inv X gV σ H s'->Q (.int kvs.length t) s'):wpAny (model X.prog X.w) A (call (.builtin "len") [.ref a]) Q E s:=by
 obtain⟨z,hd,vs,rel,dd⟩:=SK I.hok e;refine call_len_dict hd dd (by rw[← rel.length];rw[cf]at z;omega) ?_;rw[← rel.length];exact h _ _ (I.tok _)
end
def NoSl(i:Expr):Prop:=∀ov iv,subscripted i false ov iv=operate [ov,iv] (getItem ov iv)
def C3{prog:Program}{w:World}{A:Around}{E:g7}{s:Shared}{env:Env}{value slice:Expr}{pos:Pos}{T id:String}{Q:g7}(hl:typeLookup (.type T) "__getitem__"=pure (some (.builtin id))) (hs:NoSl slice)(h:wpAny (model prog w) A (eval value env) (λo iu=>wpAny (model prog w) A (eval slice env) (λi ib=>ib.TypeIs o T∧wpAny (model prog w) A (getItem o i) Q E ib) E iu) E s):wpAny (model prog w) A (eval (.Subscript value slice pos) env) Q E s:=by
 refine Subscript_ (cx h (λo iu i4=>cx i4 (λi ib jX=>?_) λ_ _ x=>x) λ_ _ x=>x);obtain⟨hT,jX⟩:=jX;unfold subscriptTail;refine aB ?_;rw[getitemInPython_of_ne hT.not_modules];refine aB (wpAny_specialOf hT hl ?_)
 have fin:wpAny (model prog w) A (subscripted slice false o i) (λr jq=>wpAny (model prog w) A (letTemporaryGo value o r >>= λ_=>pure r) Q E jq) E ib:=by
  rw[hs o i];exact wpAny_operating (cx jX (λr jq jM=>aB (wpAny_letTemporaryGo (aD jM))) λ_ _ x=>x)
 first
  |exact aD (aB fin)
  |exact aB (aD (aB fin))
  |exact aB fin
def LK{X:Cx}{gV:hV}{σ:St}{H:Hp}{s:Shared}{a:Addr}{y:V}{o:Option V}(I:Inv X gV σ H s)(g:DGet H a y o):s.TypeIs (.ref a) "dict":=by
 rcases g with ⟨kvs,k,e,_,_⟩|⟨kvs,k,b,e,_,_,_⟩
 ·obtain⟨_,_,vs,_,dd⟩:=SK I.hok e
  exact dd.typeIs
 ·obtain⟨_,_,xs,_,dd⟩:=Qi I.hok e
  exact dd.typeIs
def tDGet(td ty:TE):TE:=λσ H Q=>td σ H λx H1=>ty σ H1 λy H2=>∃a v,x=.ref a∧DGet H2 a y (some v)∧Q v H2
def tDIn(ty td:TE):TE:=λσ H Q=>ty σ H λy H1=>td σ H1 λx H2=>∃a o,x=.ref a∧DGet H2 a y o∧Q (.bl o.isSome) H2
def DT(ty td:TE):TE:=λσ H Q=>ty σ H λy H1=>td σ H1 λx H2=>∃a o,x=.ref a∧DGet H2 a y o∧Q (.bl (!o.isSome)) H2
def sDPut(td ty tv:TE):TS:=λD σ H=>tv σ H λv H1=>td σ H1 λx H2=>ty σ H2 λy H3=>∃a H4,x=.ref a∧DPut H3 a y v H4∧D.nx σ H4
section
variable{X:Cx}{o i e value:Expr}{pos iV l6:Pos}{td ty tv:TE}
def CP(hu:X.A.units+1<cLine)(ho:PE X o td)(hi:PE X i ty)(hs:NoSl i):PE X (.Subscript o i pos) (tDGet td ty):=by
 intro gV s σ H Q I h;refine C3 PySem.F.slot_dict_getitem.lookup hs (thn (ho gV s σ H _ I h) λu s1 ⟨x,H1,I1,rx,q1⟩=>thn (hi gV s1 σ H1 _ I1 q1) λiv s2 ⟨y,H2,I2,ry,a,v,ex,g,q2⟩=>?_);subst ex;obtain rfl:u=Value.ref a:=rx;exact⟨LK I2 g,HP hu I2 g ry λw' s3 I3 je=>⟨v,H2,I3,je,q2⟩⟩
def GX(hu:X.A.units+1<cLine)(hi:PE X i ty)(ho:PE X o td):PC X .In i o (tDIn ty td):=by
 intro gV s σ H Q I h;refine thn (hi gV s σ H _ I h) λiv s1 ⟨y,H1,I1,ry,q1⟩=>thn (ho gV s1 σ H1 _ I1 q1) λu s2 ⟨x,H2,I2,rx,a,ov,ex,g,q2⟩=>?_
 subst ex;obtain rfl:u=Value.ref a:=rx;exact d_in hu I2 g ry λs3 I3=>⟨.bl ov.isSome,H2,I3,rfl,q2⟩
def HI(hu:X.A.units+1<cLine)(hi:PE X i ty)(ho:PE X o td):PC X .NotIn i o (DT ty td):=by
 intro gV s σ H Q I h;refine thn (hi gV s σ H _ I h) λiv s1 ⟨y,H1,I1,ry,q1⟩=>thn (ho gV s1 σ H1 _ I1 q1) λu s2 ⟨x,H2,I2,rx,a,ov,ex,g,q2⟩=>?_
 subst ex;obtain rfl:u=Value.ref a:=rx;exact C8 hu I2 g ry λs3 I3=>⟨.bl (!ov.isSome),H2,I3,rfl,q2⟩
def Co(hu:X.A.units+1<cLine)(ho:PE X o td)(hi:PE X i ty)(hv:PE X value tv)(hs:swapsWith value (some (.Subscript o i iV)) pos.line X.env=pure false):PS X (.Assign [.Subscript o i iV] value pos) (sDPut td ty tv):=by
 intro gV s σ H D I h;refine wpAny_Assign_Subscript (thn (hv gV s σ H _ I h) λr s1 ⟨v,H1,I1,rv,q1⟩=>thn (ho gV s1 σ H1 _ I1 q1) λu s2 ⟨x,H2,I2,rx,q2⟩=>thn (hi gV s2 σ H2 _ I2 q2) λiv s3 ⟨y,H3,I3,ry,a,H4,ex,g,q3⟩=>?_) hs;subst ex;obtain rfl:u=Value.ref a:=rx;exact Gg hu I3 g ry rv λs4 I4=>⟨σ,H4,I4,q3⟩
end
def Fd{P:Program}{w:World}{H:Hp}(h:Heap)(hb:sysModules<h.objs.size):ObjOk P w H (h.push {cls:=.type "dict",data:=.dict #[]}) h.objs.size (.dK []):=
 ⟨cy _,aY.mpr (cI (bC hb)),[],.nil,Heap.DictOf.new h⟩
def FU{P:Program}{w:World}{H:Hp}(h:Heap)(hb:sysModules<h.objs.size):ObjOk P w H (h.push {cls:=.type "dict",data:=.dict #[]}) h.objs.size (.dT []):=
 ⟨cy _,aY.mpr (cI (bC hb)),[],.nil,_,#[],0,aW _ rfl,⟨rfl,rfl,rfl⟩,rfl,rfl,eV⟩
def tDNewK:TE:=λ_ H Q=>∀p,H p=none->Q (.ref p) (upd H p (.dK []))
def tDNewT:TE:=λ_ H Q=>∀p,H p=none->Q (.ref p) (upd H p (.dT []))
section
variable{X:Cx}{pos:Pos}
def FN:PE X (.Dict [] [] pos) tDNewK:=λgV s σ H Q I h=>
 wpAny_Dict_empty ⟨.ref s.heap.objs.size,_,I.laid (a:=s.heap.objs.size) (o:=.dK []) (t':=s.toks) (λ_ _ q=>aF _ q) (aK _) (Fd s.heap I.big),rfl,h _ (I.hok.fresh (aK _))⟩
def EY:PE X (.Dict [] [] pos) tDNewT:=λgV s σ H Q I h=>
 wpAny_Dict_empty ⟨.ref s.heap.objs.size,_,I.laid (a:=s.heap.objs.size) (o:=.dT []) (t':=s.toks) (λ_ _ q=>aF _ q) (aK _) (FU s.heap I.big),rfl,h _ (I.hok.fresh (aK _))⟩
end
structure M1(X:Cx)(o:Expr)(m:Str)(iw:Pos)(e:Expr)(ir:Pos):Prop where
 base:attributeBase o m X.env (eval o X.env)=eval o X.env
 few:((backTo ir (starEach [e] X.env)).all (λx=>!x.1)&&(backToKw ir (keywordEach [] X.env)).all (λx=>x.1.isSome)
  && decide (([e]:iF).length+([]:List Keyword).length+(if ([]:List Keyword).isEmpty then 0 else 1)<30))=true
 line:(iw.endLine == ir.line)=true
 trees:backTo ir (starEach [e] X.env)=[(false,eval e X.env)]
structure M2(X:Cx)(o:Expr)(m:Str)(iw:Pos)(e f:Expr)(ir:Pos):Prop where
 base:attributeBase o m X.env (eval o X.env)=eval o X.env
 few:((backTo ir (starEach [e,f] X.env)).all (λx=>!x.1)&&(backToKw ir (keywordEach [] X.env)).all (λx=>x.1.isSome)
  && decide (([e,f]:iF).length+([]:List Keyword).length+(if ([]:List Keyword).isEmpty then 0 else 1)<30))=true
 line:(iw.endLine == ir.line)=true
 trees:backTo ir (starEach [e,f] X.env)=[(false,eval e X.env),(false,eval f X.env)]
def IsD(H:Hp)(a:Addr):Prop:=(∃kvs,Rd H a (.dK kvs))∨∃kvs,Rd H a (.dT kvs)
def FO{X:Cx}{gV:hV}{σ:St}{H:Hp}{s:Shared}{a:Addr}(I:Inv X gV σ H s)(d:IsD H a):s.TypeIs (.ref a) "dict"∧(∀b,Value.ref a=.ref b->∃ob,s.heap.get? b=some ob∧ob.dict=none)∧(a == sysModules)=false:=by
 rcases d with ⟨kvs,e⟩|⟨kvs,e⟩
 ·obtain⟨_,hd,vs,_,dd⟩:=SK I.hok e
  refine⟨dd.typeIs,λb q=>?_,hd⟩;cases q;obtain⟨ob,_,_,h1,h2,_⟩:=dd;exact⟨ob,h1,h2.2.1⟩
 ·obtain⟨_,hd,xs,_,dd⟩:=Qi I.hok e
  refine⟨dd.typeIs,λb q=>?_,hd⟩;cases q;obtain⟨ob,_,_,h1,h2,_⟩:=dd;exact⟨ob,h1,h2.2.1⟩
section
variable{X:Cx}{gV:hV}{σ:St}{H:Hp}{s:Shared}{a:Addr}{y d:V}{u r:Value}{o:Option V}{A:Around}{E:g7}
def d_get1{Q:g7}(hu:A.units+1<cLine)(I:Inv X gV σ H s)(g:DGet H a y o)(ry:RelV y u)(h:∀w' s',Inv X gV σ H s'->RelV (o.getD .non) w'->Q w' s'):wpAny (model X.prog X.w) A (call (.builtin "dict.get") [.ref a,u]) Q E s:=by
 rcases g with ⟨kvs,k,e,ey,l⟩|⟨kvs,k,b,e,ey,eb,l⟩
 ·subst ey
  obtain⟨z,hd,vs,rel,dd⟩:=SK I.hok e;refine gp df dd.typeIs eB (PySem.F.args_dict_get_2 _ _) (meets_dict_get (ZT X.prog X.w) a (Pd ry) hd) ⟨_,dd.mapOf,h _ _ (I.tok _) ?_⟩;rw[l];exact(rel.val k).getD rfl
 ·subst ey
  cases (show u=Value.ref b from ry);obtain⟨z,hd,xs,rel,dd⟩:=Qi I.hok e;refine gp df dd.typeIs eB (PySem.F.args_dict_get_2 _ _) (meetsH_dict_get (tupleKind (ZT X.prog X.w)) a b hd) ⟨dM hu,k,xs,T6 I.hok eb,dd,h _ _ (I.tok _) ?_⟩;rw[l];exact(rel.val k).getD rfl
def d_get2{Q:g7}(hu:A.units+1<cLine)(I:Inv X gV σ H s)(g:DGet H a y o)(ry:RelV y u)(rd:RelV d r)(h:∀w' s',Inv X gV σ H s'->RelV (o.getD d) w'->Q w' s'):wpAny (model X.prog X.w) A (call (.builtin "dict.get") [.ref a,u,r]) Q E s:=by
 rcases g with ⟨kvs,k,e,ey,l⟩|⟨kvs,k,b,e,ey,eb,l⟩
 ·subst ey
  obtain⟨z,hd,vs,rel,dd⟩:=SK I.hok e;refine gp df dd.typeIs eB (PySem.F.args_dict_get_3 _ _ _) (meets_dict_get_default (ZT X.prog X.w) a (Pd ry) hd r) ⟨_,dd.mapOf,h _ _ (I.tok _) ?_⟩;rw[l];exact(rel.val k).getD rd
 ·subst ey
  cases (show u=Value.ref b from ry);obtain⟨z,hd,xs,rel,dd⟩:=Qi I.hok e;refine gp df dd.typeIs eB (PySem.F.args_dict_get_3 _ _ _) (meetsH_dict_get_default (tupleKind (ZT X.prog X.w)) a b hd r) ⟨dM hu,k,xs,T6 I.hok eb,dd,h _ _ (I.tok _) ?_⟩;rw[l];exact(rel.val k).getD rd
end
def tDGet1(td ty:TE):TE:=λσ H Q=>td σ H λx H1=>∃a,x=.ref a∧IsD H1 a∧ty σ H1 λy H2=>∃o,DGet H2 a y o∧Q (o.getD .non) H2
def AX(td ty tx:TE):TE:=λσ H Q=>td σ H λx H1=>∃a,x=.ref a∧IsD H1 a∧ty σ H1 λy H2=>tx σ H2 λz H3=>∃o,DGet H3 a y o∧Q (o.getD z) H3
section
variable{X:Cx}{o e f:Expr}{iw ir:Pos}{td ty tx:TE}
def Eg(hu:X.A.units+1<cLine)(ho:PE X o td)(he:PE X e ty)(m:M1 X o "get" iw e ir):PE X (.Call (.Attribute o "get" iw) [e] [] ir) (tDGet1 td ty):=by
 intro gV s σ H Q I h;refine wpAny_Call_method m.base m.few m.line fQ df PySem.F.type_dict_get (thn (ho gV s σ H _ I h) λu s1 ⟨x,H1,I1,rx,a,ex,d,q1⟩=>?_);subst ex;obtain rfl:u=Value.ref a:=rx;obtain⟨t1,t2,_⟩:=FO I1 d;refine⟨t1,t2,?_⟩;rw[m.trees];refine eM rfl (eZ (fP (thn (he gV s1 σ H1 _ I1 q1) λiv s2 ⟨y,H2,I2,ry,ov,g,q2⟩=>gZ ?_)));exact d_get1 hu I2 g ry λw' s3 I3 je=>⟨_,H2,I3,je,q2⟩
def Df(hu:X.A.units+1<cLine)(ho:PE X o td)(he:PE X e ty)(hf:PE X f tx)(m:M2 X o "get" iw e f ir):PE X (.Call (.Attribute o "get" iw) [e,f] [] ir) (AX td ty tx):=by
 intro gV s σ H Q I h;refine wpAny_Call_method m.base m.few m.line fQ df PySem.F.type_dict_get (thn (ho gV s σ H _ I h) λu s1 ⟨x,H1,I1,rx,a,ex,d,q1⟩=>?_);subst ex;obtain rfl:u=Value.ref a:=rx;obtain⟨t1,t2,_⟩:=FO I1 d;refine⟨t1,t2,?_⟩;rw[m.trees]
 refine eM rfl (eZ (fP (thn (he gV s1 σ H1 _ I1 q1) λiv s2 ⟨y,H2,I2,ry,q2⟩=>
  fP (thn (hf gV s2 σ H2 _ I2 q2) λfv s3 ⟨z,H3,I3,rz,ov,g,q3⟩=>gZ ?_))))
 exact d_get2 hu I3 g ry rz λw' s4 I4 je=>⟨_,H3,I4,je,q3⟩
end
end L2
namespace Att
open PySem PySem.W PySem.Calls PyProof.Rows
def QC{P:Params}{h:Heap}:∀(ns:iC) (vs:iB),WellAll P h vs (ns.map WData.int)->IntsAre vs ns:=by
 intro ns
 induction ns with
 |nil=>
  intro vs w;rw[List.map_nil]at w;cases w;exact .nil
 |cons n ns ih=>
  intro vs w;rw[aU]at w;cases w with
  |cons a b=>
   cases a;exact .cons _ _ (ih _ b)
def HF{l:OpenLaw}{n:Nat}(hn:l.most=some n){P:Params}{h:Heap}{args:List WData}{kU:iB}(ko:l.row.toRowW.claim.pre args=true) (jN:WellAll P h kU args):∃a vs ns,kU=[Value.ref a]∧args=[WData.list (ns.map WData.int)]∧h.get? a=some {cls:=.type "list",data:=.seq vs.toArray}∧IntsAre vs ns∧ns.length<=n:=by
 have hsh:WShape.hasAll [] args [.list .int]=true:=(pre_splitW ko).1;have hc:l.pre.holds [] {args:=args}=true:=(pre_splitW ko).2;obtain⟨d,r,rfl,h1,h2⟩:=hasAllW_cons hsh;obtain rfl:=hasAllW_nil h2;obtain⟨xs,rfl,h3⟩:=hasW_list h1;obtain⟨ns,rfl⟩:=items_int h3
 have ip:ns.length<=n:=by
  unfold OpenLaw.pre at hc
  have h4:(WTm.not (.lt (.lit (.int (n:Int))) (.len (.arg 0)))).holds [] {args:=[.list (ns.map .int)]}=true:=by
   have h4:=(holds_andW hc).1;rw[hn]at h4;exact h4
  have h5:=condW_of h4 (w_not (w_lt w_lit (w_len_list (w_arg rfl))));rw[aA]at h5;refine Nat.le_of_not_lt λq=>?_
  have q':(n:Int)<((ns.length:Nat):Int):=by omega
  first
   |(rw[bL q']at h5;exact absurd h5 (by decide))
   |(simp at h5;omega)
 cases jN with
 |cons w1 w2=>
  cases w2;cases w1 with
  |list ho hall=>exact⟨_,_,ns,rfl,rfl,ho,QC ns _ hall,ip⟩
def Ht(l:OpenLaw)(args:List WData):l.row.toRowW.claim.post args (.bool true) args=true:=
 postW_of (r:=l.row.toRowW) (X:=(true == true))
  (show WShape.has [] (.bool true) .bool=true by first|rfl|decide|simp[WShape.has,WShape.arms,WShape.armsAll])
  (show(WTm.eq .res (.lit (.bool true))).value [] {args:=args,res:=some (.bool true),after:=args}=some (.bool (true == true)) from w_eq_bool (w_res rfl) w_lit) rfl
def attach_call{l:OpenLaw}{n:Nat}{q:Program}{loose:iE}{XP:(g8)->Heap->Prop}{YP:World->Heap->Prop}{d:DefRec}(hn:l.most=some n) (l8:d.params.defaults=[])(call:∀(w:World) (s₀ iu:Shared) (mg mb:g8) (fa:Addr) (o:Obj) (pm cd doc:Value) (a:Addr) (vs:iB) (ns:iC),
     Ground q loose [] XP w s₀ mg mb iu.heap->YP w iu.heap ->
     iu.heap.get? fa=some o->o.data=.func (docDef d.name d.params d.body d.scope pm cd doc)->iu.heap.CodeRec cd d.name->mg d.name=some (.ref fa) ->
     iu.heap.get? a=some {cls:=.type "list",data:=.seq vs.toArray}->IntsAre vs ns->ns.length<=n->iu.gens=#[] ->
     codeAny (model l.prog w) callerA (.call (.ref fa) ⟨[.ref a],[]⟩) (λr s'=>r=.ok (.ret (.bool true))∧OldK iu.heap s'.heap∧s'.os=iu.os∧AllBare s'.gens) iu):
    WalkO q loose XP YP l.row.toRowW d [] (λf vs=>PySem.call f vs):=by
 intro w s₀ iu mg mb G Y fa o pm cd doc dV kV ho hd jS hD lO hg args kU as ko nA oU jN oV;obtain rfl:dV=.none:=Dflts.none hD l8;obtain rfl:kV=.none:=Dflts.noKw hD;obtain⟨a,vs,ns,rfl,rfl,kW,jY,ip⟩:=HF hn ko jN;refine enter_call (d5 (call w s₀ iu mg mb fa o pm cd doc a vs ns G Y ho (fd_plain hd) jS lO kW jY ip hg) λr s' hq=>?_);obtain⟨rfl,h2,h3,h4⟩:=hq;exact⟨.inl ⟨.bool true,.bool true,[],rfl,λ_=>rfl,.bool true,Ht l _,λ_=>⟨List.Pairwise.nil,λ_ hm=>(nomatch hm)⟩⟩,h2,h3,h4⟩
end Att
namespace L2
open PySem PySem.Spec PyProof.Rows
def O4:∀{vs:iB} {ns:iC},IntsAre vs ns->Vals (ns.map V.int) vs
 |_,_,.nil=>.nil
 |_,_,.cons n t h=>.cons ⟨t,rfl⟩ (O4 h)
def Only(H:Hp):Prop:=∀b,H b=none∨∃o xs,H b=some (.frz o (.lst xs))
def Dz{P:Program}{w:World}{K:g9}{mg mb:g8}{CX:CXT}{k:Nat}{fa a:Addr}{fd:FuncData}{x:Str}{sp:Sp}{iu:Shared}{vs:iB}{ns:iC}(KX:K.In iu.heap) (lP:iu.heap.Ns mainGlobals mg) (hb:iu.heap.Ns builtinsNs mb) (l9:∀x:Str,x≠"__name__"->mb x=bootBuiltins x) (iQ:iu.heap.NoLimit) (hg:iu.gens=#[])(ha:iu.heap.get? a=some {cls:=.type "list",data:=.seq vs.toArray}) (hi:IntsAre vs ns) (hl:ns.length<=sizeLine) (hr:Room k callerA)(F:∀base:Heap,K.In base->base.Ns mainGlobals mg->FnOk P w K mg base CX k fa fd [x] sp) (ls:∀(s:Shared) (u:Value),BindsTo s fd ⟨[u],[]⟩ [(x,u)])(kF:∀H:Hp,Only H->SqL K H a (ns.map V.int)->sp [.ref a] H (λv _=>v=.bl true) λ_ _ _=>False)(nB:∀H e s',CX [] H iu (λ_ _ _=>False) e s'->False):codeAny (model P w) callerA (.call (.ref fa) ⟨[.ref a],[]⟩) (λr s'=>r=.ok (.ret (.bool true))∧OldK iu.heap s'.heap∧s'.os=iu.os∧AllBare s'.gens) iu:=by
 have rv:=O4 hi;have lenV:=hi.length
 have core : ∀ H : Hp,Only H -> SqL K H a (ns.map V.int) -> HOk P w H iu.heap -> (∀ b,H b ≠ none -> b = a) -> (H a ≠ none -> K.lookup a = none) ->
     codeAny (model P w) callerA (.call (.ref fa) ⟨[.ref a],[]⟩) (λr s'=>r=.ok (.ret (.bool true))∧OldK iu.heap s'.heap∧s'.os=iu.os∧AllBare s'.gens) iu:=by
  intro H hO hS hok hA hK;have base_of:∀{b:Addr} {o:Obj},iu.heap.get? b=some o->H b=none->(Mi iu.heap H).get? b=some o:=λe n=>EC e n
  have noA:∀{b:Addr} {o:Obj} {es:Array DictEntry} {ep:Nat},iu.heap.get? b=some o->o.data=.dict es ep->H b=none:=λ{b o es ep} e d=>by
   cases q:H b with
   |none=>rfl
   |some u=>
    have e':b=a:=hA b (by rw[q];simp);subst e';rw[ha]at e;cases e;have d':Data.seq vs.toArray _=Data.dict es ep:=d;cases d'
  have nsK:∀{b:Addr} {m:g8},iu.heap.Ns b m->(Mi iu.heap H).Ns b m:=λ{b m} ⟨o,es,ep,e,d,r⟩=>⟨o,es,ep,base_of e (noA e d),d,r⟩
  have hKb:K.In (Mi iu.heap H):=λb o e=>base_of (KX b o e) (by
   cases q:H b with
   |none=>rfl
   |some u=>
    have e':b=a:=hA b (by rw[q];simp);subst e';rw[hK (by rw[q];simp)]at e;cases e)
  have hM:Mod K mg (Mi iu.heap H):=⟨hKb,nsK lP,⟨mb,nsK hb,l9⟩,let ⟨mc,h1,h2⟩:=iQ;⟨mc,nsK h1,h2⟩⟩;have e0:Env0 P w K mg (Mi iu.heap H) callerA [] iu H:=⟨rfl,hM,λb o e=>DY e,Nat.le_of_eq (Ho _ _),trivial,λb hb=>absurd (show b∈([]:iA) from hb) (by simp),hok,.of_eq hg⟩;refine d5 ((F _ hKb (nsK lP)).run callerA [] iu H ⟨[.ref a],[]⟩ [.ref a] [.ref a] _ _ hr e0 (ls iu (.ref a)) (.cons rfl .nil) (kF H hO hS)) λr s' h=>?_
  cases r with
  |error e=>exact(nB H e s' h).elim
  |ok fl=>
   cases fl with
   |next=>exact False.elim h
   |brk=>exact False.elim h
   |cont=>exact False.elim h
   |ret u=>
    obtain⟨v,H',os,bare,un,ma,r',q⟩:=h;have q':v=.bl true:=q;subst q';obtain rfl:u=Value.bool true:=r';refine⟨rfl,OldK.of_keep λb o e=>?_,os,bare⟩;cases q:H b with
    |none=>exact un.keep b o e q (by intro z;exact absurd (show b∈([]:iA) from z) (by simp)) (by simp)
    |some u=>
     rcases hO b with z|⟨ob,xs,z⟩
     ·rw[q]at z;cases z
     ·have z2:=un.frzs b ob _ z
      obtain⟨e1,_⟩:=hok b _ z;obtain⟨e2,_⟩:=ma b _ z2;rw[e]at e1;cases e1;exact e2
 cases hk:K.lookup a with
 |some o=>
  have e:=KX a o hk;rw[ha]at e;cases e;refine core (λ_=>none) (λ_=>.inl rfl) (.inr ⟨_,vs.toArray,_,hk,rfl,rfl,rfl,by rw[bF,lenV];exact hl,by simpa using rv⟩) (λb u z=>by have z':(none:Option HO)=some u:=z;cases z') (λb z=>absurd rfl z) λz=>absurd rfl z
 |none=>
  refine core (λb=>if b=a then some (.frz {cls:=.type "list",data:=.seq vs.toArray} (.lst (ns.map V.int))) else none) (λb=>?_) (.inl (.inr ⟨{cls:=.type "list",data:=.seq vs.toArray},aC rfl⟩)) (λb u z=>?_) (λb z=>?_) λ_=>hk
  ·by_cases hb:b=a
   ·exact .inr ⟨_,_,aC hb⟩
   ·exact .inl (aE hb)
  ·by_cases hb:b=a
   ·have z':=(aC hb).symm.trans z
    cases z';subst hb;exact⟨ha,by rw[aA];exact hl,vs,_,rv,ha⟩
   ·have z':=(aE hb).symm.trans z
    cases z'
  ·by_cases hb:b=a
   ·exact hb
   ·exact absurd (aE hb) z
abbrev E0:XK:=λ_ _ _=>False
structure Fun(K:g9)(x qual:Str)(st:Stmt)(f:Addr)(fd:FuncData):Prop where
 ex:∃(oc:Value) (od:Option Addr) (kV doc pm:Value) (an:Option Addr) (jb ct:Value) (ll:Array (iH)),
  fd=PySem.W.fnOf x qual (QI st) (UC st) (Yx st) .none kV doc pm an jb ct∧K.lookup f=some ⟨oc,od,.func fd,ll⟩∧PySem.W.codeIn K jb qual=true
 kp:PySem.W.keepIn K (.ref f)=true
section
variable{P:Program}{w:World}{K:g9}{mg:g8}{base:Heap}
def Fun.binds{x qual:Str}{st:Stmt}{f:Addr}{fd:FuncData}{ps:iE}(F:Fun K x qual st f fd)(h:∀(kV doc pm:Value) (an:Option Addr) (jb ct:Value) (us:iB),us.length=ps.length->bindArgs (PySem.W.fnOf x qual (QI st) (UC st) (Yx st) .none kV doc pm an jb ct) ⟨us,[]⟩=pure (ps.zip us)):Binds K fd ps []:=by
 obtain⟨oc,od,kV,doc,pm,an,jb,ct,ll,rfl,lk,jS⟩:=F.ex;exact .all (h kV doc pm an jb ct)
end
def Same(H H':Hp):Prop:=∀b o,H b=some o->H' b=some o
def Same.refl(H:Hp):Same H H:=λ_ _ h=>h
def Same.trans{H H1 H2:Hp}(a:Same H H1)(b:Same H1 H2):Same H H2:=λc o h=>b c o (a c o h)
def Same.free{H H':Hp}(e:Same H H'){l:Addr}(h:H' l=Option.none):H l=Option.none:=by
 cases q:H l with
 |none=>rfl
 |some o=>
  rw[e l o q]at h;cases h
section
variable{X:Cx}
def Gc:CallR X (.builtin "len") (λxs H Q=>∃a kvs,xs=[V.ref a]∧H a=some (.dK kvs)∧Q (.int kvs.length) H):=by
 intro gV s σ H xs us Q I r h;obtain⟨a,kvs,rfl,ha,q⟩:=h;obtain⟨u,rfl,ru⟩:=SL r;cases ru;exact d_len I (.inl ha) λt s' I'=>⟨.int kvs.length,H,I',⟨t,rfl⟩,q⟩
end
section
variable{X:Cx}{e:Expr}{es:iF}{te:TE}{pos:Pos}
def tFmt(te:TE):TE:=λσ H Q=>te σ H λx H1=>∃i,x=.int i∧i.natAbs.log2<1920∧Q (.str (toString i)) H1
def pe_fmt(he:PE X e te):PE X (.FormattedValue e (-1) none pos) (tFmt te):=by
 intro gV s σ H Q I h;refine PyProof.Rows.FormattedValue_plain (thn (he gV s σ H _ I h) λv s1 ⟨x,H1,I1,r1,i,ex,hb,q⟩=>?_);subst ex;obtain⟨t,rfl⟩:=r1;exact PySem.wpAny_formatField_int hb ⟨.str (toString i),H1,I1.tok _,⟨_,rfl⟩,q⟩
def PJ(X:Cx)(n:Nat)(es:iF)(t:TA):Prop:=
 ∀(gV:hV) (s:Shared) (σ:St) (H:Hp) (iz:Str) (Q:VK),Inv X gV σ H s->iz.length+n * es.length<=sizeLine ->
  t σ H (λ_ H1=>∀z:Str,Q (.str z) H1)->wpAny (model X.prog X.w) X.A (joinParts iz (evalEach es X.env)) (EP X gV σ Q) X.xe s
def tPart1(n:Nat)(te:TE)(t:TA):TA:=λσ H Q=>te σ H λx H1=>(∃y:Str,x=.str y∧y.length<=n)∧t σ H1 Q
def A8{n:Nat}:PJ X n [] tNil:=by
 intro gV s σ H iz Q I hl h;exact PyProof.Rows.joinParts_nil ⟨.str iz,H,I.tok _,⟨_,rfl⟩,h iz⟩ (by simpa using hl)
def Iv{n:Nat}{t:TA}(he:PE X e te)(hr:PJ X n es t)(hs:evalEach (e::es) X.env=eval e X.env::evalEach es X.env:=by rfl):PJ X n (e::es) (tPart1 n te t):=by
 intro gV s σ H iz Q I hl h;rw[hs];refine PyProof.Rows.joinParts_cons (thn (he gV s σ H _ I h) λv s1 ⟨x,H1,I1,r1,⟨y,ex,hy⟩,q⟩=>?_);subst ex;obtain⟨t',rfl⟩:=r1
 have hz:iz.length+n * es.length+n<=sizeLine:=by
  rw[bI,Nat.mul_succ]at hl;omega
 have hap:(iz++y).length=iz.length+y.length:=strLen_append ..;have hm:(iz++y).length<=sizeLine:=by rw[hap];omega
 exact⟨hm,hr gV s1 σ H1 (iz++y) Q I1 (by rw[hap];omega) q⟩
def tJoin(t:TA):TE:=λσ H Q=>t σ H λ_ H1=>∀z:Str,Q (.str z) H1
def DU{iX iY:Expr}{rest:iF}{n:Nat}{t:TA}(h:PJ X n (iX::iY::rest) t)(hn:n * (iX::iY::rest).length<=16000000)(hs:evalEach (iX::iY::rest) X.env=eval iX X.env::eval iY X.env::evalEach rest X.env:=by rfl):PE X (.JoinedStr (iX::iY::rest) pos) (tJoin t):=by
 intro gV s σ H Q I q;refine PyProof.Rows.JoinedStr_many ?_;rw[← hs];refine h gV s σ H Str.empty Q I ?_ q;rw[cf];have:Str.empty.length=0:=rfl;omega
def GR{i:Int}{n:Nat}(h:i.natAbs.log2<1920)(hn:1921<=n):(toString i:Str).length<=n:=cg (PyProof.Rows.int_text_len_1921 h) hn
end
def ObjOk.ex{P:Program}{w:World}{H:Hp}{h:Heap}{a:Addr}{o:HO}(x:ObjOk P w H h a o):∃ob,h.get? a=some ob:=by
 cases o with
 |lst xs=>obtain⟨_,_,_,_,e⟩:=x;exact⟨_,e⟩
 |tup xs=>obtain⟨_,_,_,ob,e,_⟩:=x;exact⟨_,e⟩
 |dK kvs=>obtain⟨_,_,_,_,o,_,_,e,_⟩:=x;exact⟨_,e⟩
 |dT kvs=>obtain⟨_,_,_,_,o,_,_,e,_⟩:=x;exact⟨_,e⟩
 |set S n=>obtain⟨o,_,_,_,e,_⟩:=x;exact⟨_,e⟩
 |ins C dx fs=>obtain⟨_,_,_,e,_⟩:=x;exact⟨_,e⟩
 |own y=>exact x
 |xd fs=>obtain⟨_,⟨_,_,_,e,_⟩,_⟩:=x;exact⟨_,e⟩
 |rng lo hi=>obtain⟨_,_,_,e⟩:=x;exact⟨_,e⟩
 |frz ob u=>obtain⟨e,_⟩:=x;exact⟨_,e⟩
 |tbl ps=>exact⟨_,x⟩
 |met f y=>exact⟨_,x⟩
 |ext φ=>obtain⟨_,e,_⟩:=x;exact e
def Un.on{fs:iA}{H H1:Hp}{h0 h1 h2:Heap}(u:Un fs [] H H1 h0 h1)(kB:∀b o o1,h0.get? b=some o->b ∉ fs->h1.get? b=some o1->h2.get? b=some o1)(ks:∀b o o1,h0.get? b=some o->b∈fs->h1.get? b=some o1->∃sl,h2.get? b=some {o1 with slots:=sl}):Un fs [] H H1 h0 h2 where
 keep:=λb o e n hb hx=>kB b o o e hb (u.keep b o e n hb hx)
 slot:=λb o e n hb hx=>by
  obtain⟨sl,e1⟩:=u.slot b o e n hb hx;obtain⟨iT,e2⟩:=ks b o _ e hb e1;exact⟨iT,e2⟩
 free:=u.free
 there:=λb o e hx=>by
  obtain⟨o1,e1⟩:=u.there b o e hx;by_cases hb:b∈fs
  ·obtain⟨sl,e2⟩:=ks b o o1 e hb e1
   exact⟨_,e2⟩
  ·exact⟨o1,kB b o o1 e hb e1⟩
 tups:=u.tups
 frzs:=u.frzs
 tbls:=u.tbls
structure Fly(P:Program)(w:World)(outer:List Env)(H:Hp)(s:Shared)(H':Hp)(a:Addr)(cls:Value)(s':Shared):Prop where
 os:s'.os=s.os
 bare:AllBare s'.gens
 un:Un (frs outer) [] H H' s.heap s'.heap
 hok:HOk P w H' s'.heap
 fl:∃B a0,Heap.FlyingW B outer a cls a0 s'.heap∧(∀b o ob,H' b=some o->s'.heap.get? b=some ob->B.get? b=some ob) ∧
  ∀b o ob,s.heap.get? b=some o->b ∉ frs outer->s'.heap.get? b=some ob->B.get? b=some ob
def CXw(P:Program)(w:World):CXT:=λouter H s E e s'=>∃a cls H',e=.ref a∧Fly P w outer H s H' a cls s'∧E cls none H'
def HOk.flown{P:Program}{w:World}{H:Hp}{h h' B:Heap}(x:HOk P w H h)(c1:∀b o ob,H b=some o->h.get? b=some ob->B.get? b=some ob)(st:B.StaysIn h'):HOk P w H h':=λb o e=>
 (x b o e).stay (λc u hc q=>by
  rcases hc with rfl|hc
  ·exact st _ _ (c1 _ _ _ e q)
  ·exact st _ _ (c1 _ _ _ hc q)) (λ_ q=>q) λ_ _ q=>q
section
variable{P:Program}{w:World}{K:g9}{mg:g8}{base:Heap}{N:iE}{qual:Str}{scope:Scope}{f:Addr}{cd:Value}{A:Around}{outer:List Env}{s:Shared}{H:Hp}{E:XK}
def Ic:XN (CXw P w) (Ou (CXw P w) P w K mg base N qual scope f cd A outer s H E) E:=by
 intro gV σ H1 s1 e s' I nC;obtain⟨a,cls,H',rfl,kX,hE⟩:=nC;have I':=I.call' (ch:=[]) kX.os kX.un kX.hok kX.bare (λ_ z=>nomatch z);obtain⟨B,a0,fl,c1,c2⟩:=kX.fl;have hfr:(A.deeper (envOfC qual scope s.heap.objs.size f cd)).frames=some (envOfC qual scope s.heap.objs.size f cd::outer):=I.ok.frames;refine wpAny_leaves_onW (L:=s.heap.objs.size) hfr rfl fl λh' jZ up=>⟨a,cls,H',rfl,?_,hE⟩
 have hub:Un (frs outer) [] H H' s.heap s'.heap:=I'.base
 have nL:∀b o,s.heap.get? b=some o->b ∉ frs outer->b ∉ frs (envOfC qual scope s.heap.objs.size f cd::outer):=λb o e hb hm=>by
  unfold frs at hm hb;rw[cD]at hm;rcases aR.mp hm with z|z
  ·exact absurd (aO e) (by rw[z];exact cS _)
  ·exact hb z
 have kB:∀b o o1,s.heap.get? b=some o->b ∉ frs outer->s'.heap.get? b=some o1->B.get? b=some o1:=λb o o1 e hb e1=>by
  obtain⟨o2,e2⟩:=(show Un (frs outer) [] H H1 s.heap s1.heap from I.base).there b o e (by simp);exact c2 b o2 o1 e2 (nL b o e hb) e1
 refine⟨I'.os,I'.bare,hub.on (λb o o1 e hb e1=>jZ.1 _ _ (kB b o o1 e hb e1)) (λb o o1 e hb e1=>?_),kX.hok.flown c1 jZ.1,B,a0,jZ,λb o ob e eb=>?_,λb o ob e hb eb=>?_⟩
 ·obtain⟨_,o',i7,md⟩:=I'.funs.mem hb
  have i7:s'.heap.get? b=some o':=i7;rw[e1]at i7;cases i7;exact up b o1 e1 md
 ·obtain⟨kY,e2⟩:=(kX.hok b o e).ex
  have e3:=c1 b o kY e e2;have e4:=jZ.1 _ _ e3;have eb:h'.get? b=some ob:=eb;rw[e4]at eb;cases eb;exact e3
 ·obtain⟨kY,e2⟩:=hub.there b o e (by simp)
  have e3:=kB b o kY e hb e2;have e4:=jZ.1 _ _ e3;have eb:h'.get? b=some ob:=eb;rw[e4]at eb;cases eb;exact e3
end
def NE(X:Cx)(E:XK):Prop:=∀(gV:hV) (σ:St) (H:Hp) (s:Shared) (h':Heap) (e:Addr) (cls:Value) (args:iB),Inv X gV σ H s->Heap.MadeExcOf s.heap h' e cls args->E cls none H->X.xe (.ref e) {s with heap:=h'}
section
variable{P:Program}{w:World}{K:g9}{mg:g8}{base:Heap}{N:iE}{qual:Str}{scope:Scope}{f:Addr}{cd:Value}{A:Around}{outer:List Env}{s:Shared}{H:Hp}{E:XK}
def A0:NE (Ou (CXw P w) P w K mg base N qual scope f cd A outer s H E) E:=by
 intro gV σ H1 s1 h1 e cls args I hx hE;have hfr:(A.deeper (envOfC qual scope s.heap.objs.size f cd)).frames=some (envOfC qual scope s.heap.objs.size f cd::outer):=I.ok.frames;have jv:s1.heap.FunFrames base (envOfC qual scope s.heap.objs.size f cd::outer):=I.stack
 have hl:s1.heap.FunFrames (PySem.W.hideAll s1.heap (frs (envOfC qual scope s.heap.objs.size f cd::outer))) (envOfC qual scope s.heap.objs.size f cd::outer):=
  PySem.W.funFrames_hide jv λenv he a ha=>gB.mpr ⟨env,he,ha⟩
 refine wpAny_leaves_madeW (base:=PySem.W.hideAll s1.heap (frs (envOfC qual scope s.heap.objs.size f cd::outer))) (h:=s1.heap) (L:=s.heap.objs.size) hfr rfl (λb o q=>PySem.W.of_hideAll _ q) hl hx λh' t jZ _ _ up=>⟨e,cls,H1,rfl,?_,hE⟩
 have hub:Un (frs outer) [] H H1 s.heap s1.heap:=I.base
 have nL:∀b o,s.heap.get? b=some o->b ∉ frs outer->b ∉ frs (envOfC qual scope s.heap.objs.size f cd::outer):=λb o e hb hm=>by
  unfold frs at hm hb;rw[cD]at hm;rcases aR.mp hm with z|z
  ·exact absurd (aO e) (by rw[z];exact cS _)
  ·exact hb z
 have tB:∀b o ob,H1 b=some o->s1.heap.get? b=some ob->(PySem.W.hideAll s1.heap (frs (envOfC qual scope s.heap.objs.size f cd::outer))).get? b=some ob:=λb o ob e eb=>
  gr _ eb λhm=>by
   have:=I.stkFree b hm;rw[e]at this;cases this
 have kB:∀b o o1,s.heap.get? b=some o->b ∉ frs outer->s1.heap.get? b=some o1->(PySem.W.hideAll s1.heap (frs (envOfC qual scope s.heap.objs.size f cd::outer))).get? b=some o1:=λb o o1 e hb e1=>
  gr _ e1 (nL b o e hb)
 refine⟨I.os,I.bare,hub.on (λb o o1 e hb e1=>jZ.1 _ _ (kB b o o1 e hb e1)) (λb o o1 e hb e1=>?_),I.hok.flown tB jZ.1,_,_,jZ,λb o ob e eb=>?_,λb o ob e hb eb=>?_⟩
 ·obtain⟨_,o',i7,md⟩:=I.funs.mem hb
  have i7:s1.heap.get? b=some o':=i7;rw[e1]at i7;cases i7;exact up b o1 (hx.keeps b o1 e1) md
 ·obtain⟨kY,e2⟩:=(I.hok b o e).ex
  have e3:=tB b o kY e e2;have e4:=jZ.1 _ _ e3;have eb:h'.get? b=some ob:=eb;rw[e4]at eb;cases eb;exact e3
 ·obtain⟨kY,e2⟩:=hub.there b o e (by simp)
  have e3:=kB b o kY e hb e2;have e4:=jZ.1 _ _ e3;have eb:h'.get? b=some ob:=eb;rw[e4]at eb;cases eb;exact e3
end
def Hr{K:g9}{h:Heap}{C:Addr}{kG:iB}{jk:String}(X:K.In h)(q:PySem.W.excIn K C kG jk=true):∃bm Nn nm qn bs hdct sn sub ab col dd k0 k1 k2 k3 k5 mN,h.get? C=some (excClassObj nm qn C Nn bs bm hdct sn sub ab col dd k0 k1 k2 k3 k5 jk)∧h.Ns Nn mN∧mN "__init__"=none∧OwnTail h kG bm:=by
 unfold PySem.W.excIn at q;split at q
 ·rename_i dd cd sl ho
  split at q
  ·rename_i C' bm k0 k1 k2 k3 n k5 hm hs
   simp only[bT,dA,fF]at q;obtain⟨⟨⟨⟨⟨e1,e2⟩,lu⟩,ht⟩,hok⟩,lQ⟩:=q;subst e1 e2;obtain⟨nm,bs,mro,ns,qn,hd,sn,sub,ab,col,del⟩:=cd;dsimp only at hm lu hok lQ;subst hm lu;obtain⟨l⟩:=sl;have hs:l=_:=hs;subst hs;exact⟨bm,ns,nm,qn,bs,hd,sn,sub,ab,col,dd,k0,k1,k2,k3,k5,_,X _ _ ho,.of_isNs (PySem.W.isNs_of_in X hok),PySem.W.nsMap_none_of_in X hok lQ,PySem.W.tail_of_in X ht⟩
  ·cases q
 ·cases q
section
variable{X:Cx}{x:Str}{C:Addr}{kG:iB}{B jk jG:String}{E:XK}{kq:Expr}{rest:iF}{np ir pos:Pos}{t:TA}
def tRaise(C:Addr)(E:XK)(t:TA):TS:=λ_ σ H=>t σ H λvs H1=>vs.length<=sizeLine∧E (.ref C) none H1
def Eb(FB:ExcBaseFacts B jk jG kG)(q:PySem.W.excIn X.K C kG jk=true)(hg:Gl X x)(hm:X.mg x=some (.ref C))(hc:X.calm=true)(hE:NE X E)(ha:PA X (kq::rest) t)(he:starEach (kq::rest) X.env=(false,eval kq X.env)::starEach rest X.env:=by rfl) (iR:(backTo ir (starEach rest X.env)).any (·.1)=false:=by rfl) (jo:(x == ("__debug__":Str))=false:=by decide):PS X (.Raise (some (.Call (.Name x np) (kq::rest) [] ir)) none pos) (tRaise C E t):=by
 intro gV s σ H D I h;obtain⟨bm,Nn,nm,qn,bs,hdct,sn,sub,ab,col,dd,k0,k1,k2,k3,k5,mN,hC,hN,lQ,T⟩:=Hr I.mod.kin q
 refine wpAny_Raise_call_subT (C:=C) (nm:=nm) (q:=qn) (N:=Nn) (bs:=bs) (bm:=bm) (hdct:=hdct) (sn:=sn) (sub:=sub) (ab:=ab) (col:=col) (dd:=dd) (k0:=k0) (k1:=k1) (k2:=k2) (k3:=k3) (k5:=k5)
  FB (mN:=mN) (T.hasType FB.hasBase) (I.ok.hd hc) (by rw[he];show(false || (backTo ir (starEach rest X.env)).any (·.1))=false;rw[iR];rfl) lQ (QP I hg hm ⟨rfl,?_⟩ jo)
 have hw:=ha ir gV s σ H _ I h;rw[he]at hw ⊢;refine eZ (thn hw λus s1 ⟨vs,H1,I1,r,hl,hq⟩=>?_);exact⟨rfl,by rw[← r.length];exact hl,I1.bk _ _ hC,hN.keeps I1.bk,T.keeps I1.bk,λh' e nE=>hE gV σ H1 s1 h' e _ _ I1 nE hq⟩
end
def Fun.okX{P:Program}{w:World}{K:g9}{mg:g8}{base:Heap}{x qual:Str}{st:Stmt}{f:Addr}{fd:FuncData}{N ps:iE}{k:Nat}{sp:Sp}(F:Fun K x qual st f fd)(S:FnScope N ps (Yx st))(len:∀vs H Q E,sp vs H Q E->vs.length=ps.length)(jW:∀(jb:Value) (A:Around) (outer:List Env) (s:Shared) (H:Hp) (vs:iI) (Q:VK) (E:XK),Room k (A.deeper (envOfC qual (Yx st) s.heap.objs.size f jb))->sp vs H Q E ->
     ∃t,PSs (Ou (CXw P w) P w K mg base N qual (Yx st) f jb A outer s H E) (UC st) t∧t {nx:=λ_ H'=>Q .non H',rt:=Q} (start N vs) H):FnOk P w K mg base (CXw P w) (k+1) f fd ps sp:=by
 obtain⟨oc,od,kV,doc,pm,an,jb,ct,ll,rfl,lk,jS⟩:=F.ex;exact fn_of lk jS S len λA outer s H vs Q E hr kF=>jW jb A outer s H vs Q E hr kF
def Ih{P:Program}{w:World}{X:Cx}:XN (CXw P w) X E0:=λ_ _ _ _ _ _ _ ⟨_,_,_,_,_,h⟩=>h.elim
def excO(a C:Addr):HO:=.ext λh=>∃ob,h.get? a=some ob∧ob.cls=.ref C
structure ExcK(K:g9)(C:Addr):Prop where
 ga:PySem.W.findIn K (.ref C) "__getattribute__"=some (some (.builtin "BaseException.__getattribute__"))
 gt:PySem.W.findIn K (.ref C) "__getattr__"=some none
 cl:PySem.W.findIn K (.ref C) "__class__"=some (some (.builtin "object.__class__"))
 ob:PySem.W.mroIn K C (.type "object")=some true
 be:PySem.W.mroIn K C (.type "BaseException")=some true
 sp:PySem.W.specialIn K (.builtin "object.__class__") "__get__"=some (some (.builtin "getset_descriptor.__get__"))
 tk:PySem.W.takesIn K (.builtin "object.__class__")=some true
 is:(PySem.W.clsIn K C).isSome=true
def Vp(oc:Option Str)(n:Addr)(cl:hX):hX:=match oc with
 |none=>cl
 |some x=>(x,n)::cl
def KB(oc:Option Str)(h:Heap):Heap:=match oc with
 |none=>h
 |some _=>h.push {cls:=.type "cell",data:=.cell none}
def OZ{oc:Option Str}{n c:Addr}{cl:hX}{y:Str}(h:(Vp oc n cl).lookup y=some c):(oc=some y∧c=n)∨cl.lookup y=some c:=by
 cases oc with
 |none=>exact .inr h
 |some x=>
  have h:((x,n)::cl).lookup y=some c:=h;rw[aN]at h;cases e:y == x with
  |true=>rw[e]at h;cases h;exact .inl ⟨by rw[dA.mp e],rfl⟩
  |false=>rw[e]at h;exact .inr h
def L7{oc:Option Str}{n:Addr}{cl:hX}{y:Str}(h:oc≠some y):(Vp oc n cl).lookup y=cl.lookup y:=by
 cases oc with
 |none=>rfl
 |some x=>
  show((x,n)::cl).lookup y=_;rw[aN,aY.mpr λz=>h (by rw[z])]
def O1{n:Addr}{cl:hX}{y:Str}:(Vp (some y) n cl).lookup y=some n:=by
 show((y,n)::cl).lookup y=_;rw[aN,beq_self_eq_true]
def O5{cl:hX}:∀{names:List (Str × NameKind)},(∀y∈names,y.2≠.cell)->∀n,cellsFrom n names cl=Vp none n cl
 |[],_,_=>rfl
 |(x,k)::r,h,n=>by
  unfold cellsFrom;rw[aE (by have:=h _ (.head _);simpa using this)];exact O5 (λy hy=>h y (.tail _ hy)) n
def LL:∀{names:List (Str × NameKind)},(∀y∈names,y.2≠.cell)->∀h,pushCells h names=KB none h
 |[],_,_=>rfl
 |(x,k)::r,h,n=>by
  unfold pushCells;rw[aE (by have:=h _ (.head _);simpa using this)];exact LL (λy hy=>h y (.tail _ hy)) n
def C6{M:Model}{A:Around}{E:g7}{s:Shared}{scope:Scope}{env:Env}{cl:hX}{Q:Env->Shared->Prop}(hQ:Q {scope,locals:=s.heap.objs.size,globals:=env.globals,cells:=cellsFrom (s.heap.objs.size+1) scope.names cl,qual:=env.qual,func:=none,code:=env.code,frame:=env.frame,builtins:=env.builtins} {s with heap:=pushCells (s.heap.push {cls:=.type "dict",data:=.dict #[]}) scope.names}):wpAny M A (newFunctionEnv scope env.globals cl [] env.qual none .none (some env)) Q E s:=by
 simp only[newFunctionEnv,gz,if_true];refine aB (wpAny_alloc ?_);refine aB (wpAny_layCells _ (λname kind cells=>by cases hkc:kind == NameKind.cell <;> simp[hkc]) _ _ _ _ ?_);rw[show({s with heap:=s.heap.push {cls:=.type "dict",data:=.dict #[]}}:Shared).heap.objs.size=s.heap.objs.size+1 from dG ..];rw[List.forIn_nil];exact aB (aD (aD hQ))
def Td(X:Cx)(iZ:iF)(t:TT):Prop:=
 ∀(gV:hV) (s:Shared) (σ:St) (H:Hp) (Q:Bool->Hp->Prop),Inv X gV σ H s->t σ H Q ->
  wpAny (model X.prog X.w) X.A (forIn iZ true λc r=>if r=true then do let ok ← isTrue c X.env (eval c X.env);pure (ForInStep.yield ok) else pure (ForInStep.yield r)) (TP X gV σ Q) X.xe s
def tNoIf:TT:=λ_ H Q=>Q true H
def Fa{X:Cx}:Td X [] tNoIf:=λ_ _ _ H _ I h=>wpAny_tests_nil ⟨H,I,h⟩
def Ee{X:Cx}{c:Expr}{t:TT}(h:PT X c t):Td X [c] t:=λgV s σ H Q I q=>wpAny_tests_one (h gV s σ H Q I q)
def Xu(names:List (Str × NameKind))(env:Env):hX:=names.foldl (λcs p=>if p.2 == .free then (match env.cells.lookup p.1 with|some c=>(p.1,c)::cs|none=>cs) else cs) []
def Rj(env:Env):∀(names:List (Str × NameKind)) (cs:hX),(∀p∈cs,env.cells.lookup p.1=some p.2) -> ∀p∈names.foldl (λcs p=>if p.2 == .free then (match env.cells.lookup p.1 with|some c=>(p.1,c)::cs|none=>cs) else cs) cs,env.cells.lookup p.1=some p.2
 |[],cs,h=>h
 |q::r,cs,h=>by
  refine Rj env r _ ?_;dsimp only;split
  ·split
   ·rename_i c e
    intro p hp;rcases aR.mp hp with rfl|hp
    ·exact e
    ·exact h p hp
   ·exact h
  ·exact h
def WS(k:Option NameKind):Bool:=k == some .cell || k == some .free
def IM{k:Option NameKind}(h:WS k=true):k=some .cell∨k=some .free:=by
 unfold WS at h;rcases Bool.or_eq_true_iff.mp h with q|q
 ·exact .inl (by simpa using q)
 ·exact .inr (by simpa using q)
abbrev Yk(X:Cx)(oc:Option Str)(scope:Scope)(cl:hX)(xs cn:iE)(C:Addr)(ib:Shared)(ig:Hp)(fp:iA):Cx where
 prog:=X.prog
 w:=X.w
 K:=X.K
 mg:=X.mg
 base:=X.base
 A:=X.A
 N:=xs++cn
 s₀:=ib
 H₀:=ig
 env:=compEnvC scope (Vp oc (C+1) cl) C X.env
 outer:=X.stack
 stack:=X.stack
 ex:=fp
 fn:=λy=>decide (oc=some y)
 calm:=X.calm
 pn:=[]
 xe:=λ_ _=>False
def Sg(js:iD)(σ:St):St:=js.map λj=>(σ[j]?).join
structure CompOkT(X:Cx)(oc:Option Str)(scope:Scope)(cl:hX)(xs cn:iE)(js:iD):Prop where
 clos:closureFor scope X.env=pure cl
 cs:∀n,cellsFrom n scope.names cl=Vp oc n cl
 pc:∀h,pushCells h scope.names=KB oc h
 kind:scope.kind=.function
 names:∀y∈scope.names,y.2=.local->scope.names.lookup y.1=some .local
 sub:∀y c,cl.lookup y=some c->X.env.cells.lookup y=some c
 has:∀p∈(relabel scope X.env).names,p.2=.cell∨p.2=.free->oc=some p.1∨∃c,cl.lookup p.1=some c
 cap:∀(k:Nat) y,cn[k]?=some y->∃j,js[k]?=some j∧X.N[j]?=some y∧Vis X.env.scope y∧(X.env.kindOf y=some .cell∨X.env.kindOf y=some .free)∧((compEnvC scope cl 0 X.env).kindOf y=some .cell∨(compEnvC scope cl 0 X.env).kindOf y=some .free)
 own:∀y∈cn,oc≠some y
 len:js.length=cn.length
 nd:(xs++cn).Nodup
def BV{X:Cx}{scope:Scope}{cl:hX}{cn:iE}{js:iD}(len:js.length=cn.length)(cap:((cn.zip js).all λp=>(X.N[p.2]? == some p.1)&&WS (X.env.scope.names.lookup p.1)&&WS ((relabel scope X.env).names.lookup p.1))=true):∀(k:Nat) y,cn[k]?=some y->∃j,js[k]?=some j∧X.N[j]?=some y∧Vis X.env.scope y∧(X.env.kindOf y=some .cell∨X.env.kindOf y=some .free)∧((compEnvC scope cl 0 X.env).kindOf y=some .cell∨(compEnvC scope cl 0 X.env).kindOf y=some .free):=λk y e=>by
    have hk:k<cn.length:=(aH.mp e).1;have hj:js[k]?=some (js[k]'(by omega)):=aI _
    have hz:(y,js[k]'(by omega))∈cn.zip js:=by
     refine bM (i:=k) ?_;rw[List.getElem?_zip_eq_some];exact⟨e,hj⟩
    have q:=cQ.mp cap _ hz;simp only[bT,dA]at q;obtain⟨⟨q1,q2⟩,q3⟩:=q;have c2:=IM q2;refine⟨_,hj,q1,?_,c2,IM q3⟩;rcases c2 with z|z
    ·exact .inr (.inl z)
    ·exact .inr (.inr z)
def AN{X:Cx}{scope:Scope}{oc:Option Str}(has:((relabel scope X.env).names.all λp=>!(WS (some p.2)) || (decide (oc=some p.1) || ((Xu scope.names X.env).lookup p.1).isSome))=true):∀p∈(relabel scope X.env).names,p.2=.cell∨p.2=.free->oc=some p.1∨∃c,(Xu scope.names X.env).lookup p.1=some c:=λp hp hk=>by
    have q:=cQ.mp has p hp;have hk':WS (some p.2)=true:=by rcases hk with z|z <;> rw[z] <;> rfl
    rw[hk',fG,fI,d4,bX]at q;exact q.imp id bE.mp
def QW{X:Cx}{scope:Scope}{xs cn:iE}{js:iD}(clos:closureFor scope X.env=pure (Xu scope.names X.env))(i8:∀y∈scope.names,y.2≠.cell)(kind:scope.kind=.function)(names:∀y∈scope.names,y.2=.local->scope.names.lookup y.1=some .local)(has:((relabel scope X.env).names.all λp=>!(WS (some p.2)) || (decide ((none:Option Str)=some p.1) || ((Xu scope.names X.env).lookup p.1).isSome))=true) (len:js.length=cn.length)(cap:((cn.zip js).all λp=>(X.N[p.2]? == some p.1)&&WS (X.env.scope.names.lookup p.1)&&WS ((relabel scope X.env).names.lookup p.1))=true)(nd:(xs++cn).Nodup):CompOkT X none scope (Xu scope.names X.env) xs cn js:=
 ⟨clos,O5 i8,LL i8,kind,names,λy c h=>Rj X.env scope.names [] (λ_ z=>(nomatch z)) (y,c) (cp h),AN has,BV len cap,λ_ _ z=>(nomatch z),len,nd⟩
section
variable{X:Cx}{oc:Option Str}{scope:Scope}{cl:hX}{xs cn:iE}{js:iD}{gV:hV}{σ:St}{ig:Hp}{ib:Shared}{fp:iA}
def CompOkT.ok(O:CompOkT X oc scope cl xs cn js)(I:Inv X gV σ ig ib)(hf:∀b∈fp,La X gV ig b){C:Addr}(hC:ib.heap.objs.size<=C)(ho:∀b∈fp,∃o,ib.heap.get? b=some o):(Yk X oc scope cl xs cn C ib ig fp).Ok where
 mod:=I.mod
 kind:=by show(relabel scope X.env).kind=.function;exact O.kind
 glob:=I.ok.glob
 blt:=I.ok.blt
 above:=hC
 inj:=λy z c h1 h2=>by
  have lt:∀y,cl.lookup y=some (C+1)->False:=λy h=>by
   obtain⟨v,o,e,_⟩:=I.cell y _ (O.sub y _ h);exact absurd (bH (aO e) hC) (fS.mpr (cZ C))
  rcases OZ h1 with ⟨a,rfl⟩|a
  ·rcases OZ h2 with ⟨b,_⟩|b
   ·exact bW (a.symm.trans b)
   ·exact(lt z b).elim
  ·rcases OZ h2 with ⟨b,rfl⟩|b
   ·exact(lt y a).elim
   ·exact I.ok.inj y z c (O.sub y c a) (O.sub z c b)
 has:=λy hy=>by
  have hy:(relabel scope X.env).names.lookup y=some .cell∨(relabel scope X.env).names.lookup y=some .free:=hy
  have q:oc=some y∨∃c,cl.lookup y=some c:=by
   rcases hy with hy|hy
   ·exact O.has _ (cp hy) (.inl rfl)
   ·exact O.has _ (cp hy) (.inr rfl)
  by_cases ho:oc=some y
  ·subst ho;exact⟨_,O1⟩
  ·obtain⟨c,e⟩:=q.resolve_left ho
   exact⟨c,(L7 ho).trans e⟩
 cab:=λy c h e=>by
  have h:oc=some y:=bG h;subst h;have e:(Vp (some y) (C+1) cl).lookup y=some c:=e;rw[O1]at e;cases e;exact gG hC
 hd:=I.ok.hd
 frames:=I.ok.frames
 stk:=.inl rfl
 exf:=λb hb=>by
  obtain⟨o,e⟩:=ho b hb;refine⟨bC (bH (aO e) hC),λy c h=>?_⟩;rcases OZ h with ⟨_,rfl⟩|h
  ·exact dQ (da (bH (aO e) hC))
  ·exact(hf b hb).2.2.2.2.1 y c (O.sub y c h)
 bs:=I.bs
 bsz:=cg I.ok.bsz I.sz
 noex:=λb o e hb=>by
  rcases (hf b hb).2.2.2.1 with z|z
  ·exact I.ok.noex b o e z
  ·exact absurd (bH (aO e) (cg I.ok.bsz z)) (cS _)
 exfs:=λb hb hm=>(aR.mp (I.stkSub b hm)).elim (hf b hb).2.1 (hf b hb).2.2.1
 funs:=I.stack
 frf:=I.stkFree
def CompOkT.start(O:CompOkT X oc scope cl xs cn js)(I:Inv X gV σ ig ib)(hf:∀b∈fp,La X gV ig b)(ho:∀b∈fp,∃o,ib.heap.get? b=some o){i4:Heap}{m:g8}{tk:Nat}(lP:i4.Ns (ib.heap.objs.size+1) m) (hk:∀b o,ib.heap.get? b=some o->i4.get? b=some o) (hD:i4.get? ib.heap.objs.size=some {cls:=.type "list",data:=.seq ([]:iB).toArray}) (me:∀y,oc=some y->i4.IsCell (ib.heap.objs.size+1+1) none):Inv (Yk X oc scope cl xs cn (ib.heap.objs.size+1) ib ig fp) [] (List.replicate xs.length none++Sg js σ) (upd ig ib.heap.objs.size (.lst [])) {ib with heap:=i4,toks:=tk}:=by
 have fD:ig ib.heap.objs.size=none:=I.hok.fresh (aK _);have fC:ig (ib.heap.objs.size+1)=none:=I.hok.fresh (cZ _);have neD:ib.heap.objs.size+1≠ib.heap.objs.size:=Nat.succ_ne_self _;obtain⟨m0,oW,nF⟩:=I.loc;refine⟨O.ok I hf (cZ _) ho,rfl,I.bare,?_,⟨m,lP,λi y v e1 e2 e3=>?_⟩,λy c e=>?_,?_,λy c e=>?_,(λp hp=>nomatch hp),?_,?_⟩
 ·exact Un.laid hk (aK _) fD
 ·have hi:xs.length<=i:=by
   by_cases h:i<xs.length
   ·rw[aQ (by simpa using h),dE,aC h]at e2
    cases e2
   ·omega
  rw[bD (by simpa using hi),dL]at e2
  have e1:cn[i-xs.length]?=some y:=by
   have e1:(xs++cn)[i]?=some y:=e1;rw[bD hi]at e1;exact e1
  ·obtain⟨j,hj,nG,mf,jK,jP⟩:=O.cap _ y e1
   have e4:(σ[j]?).join=some v:=by
    have z:(js.map λj=>(σ[j]?).join)[i-xs.length]?=some (some v):=e2;rw[bA,hj]at z;simpa using z
   have e5:σ[j]?=some (some v):=by
    cases q:σ[j]? with
    |none=>rw[q]at e4;cases e4
    |some o=>rw[q]at e4;simp at e4;rw[e4]
   obtain⟨u,r,l⟩:=nF j y v nG e5 mf;refine⟨u,r,.inr ⟨jP,?_⟩⟩;rcases l with ⟨kl,_⟩|⟨_,c,ec,z⟩
   ·rcases jK with q|q
    ·rw[kl]at q;cases q
    ·rw[kl]at q;cases q
   ·have hown:=O.own y (bM e1)
    have hy:∃c',cl.lookup y=some c':=by
     rcases jP with q|q
     ·exact(O.has _ (cp (show(relabel scope X.env).names.lookup y=some .cell from q)) (.inl rfl)).resolve_left hown
     ·exact(O.has _ (cp (show(relabel scope X.env).names.lookup y=some .free from q)) (.inr rfl)).resolve_left hown
    obtain⟨c',kh⟩:=hy;have ecc:=O.sub y c' kh;rw[ec]at ecc;cases ecc;exact⟨c,(L7 hown).trans kh,z.keeps hk⟩
 ·rcases OZ e with ⟨a,rfl⟩|e
  ·exact⟨none,me y a⟩
  ·obtain⟨v,z⟩:=I.cell y c (O.sub y c e)
   exact⟨v,z.keeps hk⟩
 ·show upd ig ib.heap.objs.size (.lst []) (ib.heap.objs.size+1)=none
  rw[Zx neD];exact fC
 ·rcases OZ e with ⟨_,rfl⟩|e
  ·rw[Zx (dQ (da (dS _)))]
   exact I.hok.fresh (gG (cZ _))
  ·obtain⟨v,o,i7,_⟩:=I.cell y c (O.sub y c e)
   rw[Zx (bC (aO i7))];exact I.freeC y c (O.sub y c e)
 ·exact I.hok.laid hk (aK _) ⟨cy _,[],0,.nil,hD⟩
 ·show(List.replicate xs.length none++Sg js σ).length=(xs++cn).length
  simp[Sg,O.len]
end
def Ko{prog:Program}{w:World}{A:Around}{R:Result->Shared->Prop}{s:Shared}{i0 target il:Expr}{iZ:iF}{scope:Scope}{pos:Pos}{it iz:Value}{env:Env}(I:Nat->Shared->Prop)(turn:∀n s,I n s->wpAny (model prog w) A (pyNext it) (λr iu=>match r with
     |none=>R (.ok .next) iu
     | some v => wpAny (model prog w) A (letOwnedTupleGo target it v) (fun _ kH => wpAny (model prog w) A (assign target env v) (fun _ ib=>
         wpAny (model prog w) A (forIn iZ true λc r=>if r=true then do let ok ← isTrue c env (eval c env);pure (ForInStep.yield ok) else pure (ForInStep.yield r)) (λok jq=>
          if ok=true then wpAny (model prog w) A (eval i0 env) (λx kr=>wpAny (model prog w) A (call (.builtin "list.append") [iz,x]) (λ_ lv=>∃m,m<n∧I m lv) (λ_ _=>False) kr) (λ_ _=>False) jq
          else ∃m,m<n∧I m jq) (λ_ _=>False) ib) (λ_ _=>False) kH) (λ_ _=>False) iu) (λ_ _=>False) s)
    (n:Nat) (h:I n s):codeAny (model prog w) A (.compLoop (.ListComp i0 [⟨target,il,iZ,0⟩] scope pos) 0 it iz env) R s:=by
 refine codeAny_loop rfl I (λn s hI=>?_) n h;show wpAny _ A ((compTurn (.ListComp i0 [⟨target,il,iZ,0⟩] scope pos) 0 it iz env).onRaise (λx=>do noteFrame x env;theTreesLotGoes x)) _ _ s;refine wpAny_noted ?_;rw[compTurn_list];refine aB (wpAny_standAt (aB (cx (turn n s hI) (λr iu i4=>?_) λ_ _ h'=>h'.elim)));cases r with
 |none=>exact aD i4
 |some v=>
  refine aB (cx i4 (λ_ kH lw=>?_) λ_ _ h'=>h'.elim);refine aB (cx lw (λ_ ib jX=>aB (cx jX (λok jq jM=>?_) λ_ _ h'=>h'.elim)) λ_ _ h'=>h'.elim);cases ok with
  |false=>
   rw[aE aJ]at jM;exact aD ⟨rfl,jM⟩
  |true=>
   rw[aC rfl]at jM;exact aB (aB (cx jM (λx kr mh=>aB (cx mh (λ_ lv mi=>aD (aD ⟨rfl,mi⟩)) λ_ _ h'=>h'.elim)) λ_ _ h'=>h'.elim))
def Mq(wi:TI)(n:Nat)(g:TG)(js:iD)(tc:Addr->Shared->Hp->List Addr->TT)(te:Addr->Shared->Hp->List Addr->TE):TE:=λσ H Q=>wi σ H λJ H1=>∀D,H1 D=none->∀C ib ig fp,∃W:Nat->Nat->List V->Hp->Prop,(∃m,W 0 m [] (upd H1 D (.lst [])))∧∀i m ys H2,W i m ys H2->H2 D=some (.lst ys) ∧
 ((J.stop i H2∧Q (.ref D) H2)∨(J.go i H2∧∀x H',J.yld i H2 x H'->∀vs:St,vs.length=n->g x (vs++Sg js σ) H' λjn H6=>(∃kJ:St,kJ.length=n∧jn=kJ++Sg js σ)∧tc C ib ig fp jn H6 λb H3=>if b=true then te C ib ig fp jn H3 λv H4=>H4 D=some (.lst ys)∧ys.length<sizeLine∧∃m',m'<m∧W (i+1) m' (ys++[v]) (upd H4 D (.lst (ys++[v])))
  else ∃m',m'<m∧W (i+1) m' ys H3))
section
variable{X:Cx}{oc:Option Str}{scope:Scope}{cl:hX}{xs cn:iE}{js:iD}{i0 il:Expr}{iZ:iF}{tg:Expr}{g:TG}{pos:Pos}{wi:TI}{tc:Addr->Shared->Hp->List Addr->TT}{te:Addr->Shared->Hp->List Addr->TE}
def Qe(O:CompOkT X oc scope cl xs cn js)(hc:X.calm=true)(hg:∀C ib ig fp,PG (Yk X oc scope cl xs cn C ib ig fp) tg g)(ht:∀C ib ig fp,Td (Yk X oc scope cl xs cn C ib ig fp) iZ (tc C ib ig fp))(he:∀C ib ig fp,PE (Yk X oc scope cl xs cn C ib ig fp) i0 (te C ib ig fp)){gV:hV} {σ:St} {ib:Shared} {kS:Value} {R:V->Hp->Prop} {RR:Value->Addr->Result->Shared->Prop} {E:g7}(h:PIE X gV σ (tg) (λJ H1=>∀D,H1 D=none->∀C ib ig fp,∃W:Nat->Nat->List V->Hp->Prop,(∃m,W 0 m [] (upd H1 D (.lst [])))∧∀i m ys H2,W i m ys H2->H2 D=some (.lst ys) ∧
     ((J.stop i H2∧R (.ref D) H2)∨(J.go i H2∧∀x H',J.yld i H2 x H'->∀vs:St,vs.length=xs.length->g x (vs++Sg js σ) H' λjn H6=>(∃kJ:St,kJ.length=xs.length∧jn=kJ++Sg js σ)∧tc C ib ig fp jn H6 λb H3=>if b=true then te C ib ig fp jn H3 λv H4=>H4 D=some (.lst ys)∧ys.length<sizeLine∧∃m',m'<m∧W (i+1) m' (ys++[v]) (upd H4 D (.lst (ys++[v])))
      else ∃m',m'<m∧W (i+1) m' ys H3))) kS ib)
    (nH:∀D C H' s',Inv X gV σ H' s'->R (.ref D) H'->H' C=none->C≠X.env.locals->X.s₀.heap.objs.size<=C->(∀y c,X.env.cells.lookup y=some c->c≠C)->(∀p∈X.pn++gV,p.1≠C)->(∃m,s'.heap.Ns C m)->RR (.ref D) C (.ok .next) s'):
    wpAny (model X.prog X.w) X.A (newList []) (λiz jq=>wpAny (model X.prog X.w) X.A (newFunctionEnv scope X.env.globals cl [] X.env.qual none .none (some X.env)) (λlx kr=>
     codeAny (model X.prog X.w) X.A (.compStart (.ListComp i0 [⟨tg,il,iZ,0⟩] scope pos) 0 kS iz {lx with scope:=relabel scope X.env}) (RR iz lx.locals) kr) E jq) E ib:=by
 obtain⟨it,fp,tn,J,ig,rfl,I2,T,lM,f2,hR⟩:=h;have ho:∀b∈fp,∃o,ib.heap.get? b=some o:=λb hb=>let ⟨o,e,_⟩:=T.obj _ _ lM b hb;⟨o,e⟩
 obtain⟨W,⟨m0,w0⟩,turn⟩:=hR ib.heap.objs.size (I2.hok.fresh (aK _)) (ib.heap.objs.size+1) ib ig fp;refine dD (C6 ?_);dsimp only;generalize hH2:ib.heap.push {cls:=.type "list",dict:=none,data:=.seq ([]:iB).toArray}=HH;have hsz:HH.objs.size=ib.heap.objs.size+1:=by rw[← hH2,dG]
 rw[O.cs,O.pc];generalize hh₁:KB oc (HH.push {cls:=.type "dict",data:=.dict #[]})=i4
 have hkp:∀b o,(HH.push {cls:=.type "dict",data:=.dict #[]}).get? b=some o->i4.get? b=some o:=λb o e=>by
  rw[← hh₁];cases oc with
  |none=>exact e
  |some _=>exact aF _ e
 have old:∀b o,ib.heap.get? b=some o->i4.get? b=some o:=λb o e=>hkp b o (aF _ (hH2 ▸ aF _ e))
 have hD:i4.get? ib.heap.objs.size=some {cls:=.type "list",data:=.seq ([]:iB).toArray}:=hkp _ _ (aF _ (hH2 ▸ aW _ rfl))
 have hns₁:i4.Ns (ib.heap.objs.size+1) λ_=>none:=by
  rw[← hsz];exact(Heap.Ns.new HH (.type "dict")).keeps hkp
 have me:∀y,oc=some y->i4.IsCell (ib.heap.objs.size+1+1) none:=λy e=>by
  subst e;have jV:(HH.push {cls:=.type "dict",data:=.dict #[]}).objs.size=ib.heap.objs.size+1+1:=by rw[dG,hsz]
  rw[← hh₁,← jV];exact⟨_,aW _ rfl,rfl⟩
 show codeAny _ _ (.compStart _ 0 (.ref it) (.ref ib.heap.objs.size) (compEnvC scope (Vp oc (HH.objs.size+1) cl) HH.objs.size X.env)) (RR (.ref ib.heap.objs.size) HH.objs.size) _;rw[hsz];have I3:=O.start I2 f2 ho (tk:=ib.toks) hns₁ old hD me;have st3:tn 0 i4:=T.keep 0 _ _ lM λb hb o e=>old b o e
 have fpD:∀b∈fp,b≠ib.heap.objs.size:=λb hb=>by obtain⟨o,e⟩:=ho b hb;exact bC (aO e)
 have stat:∀{pl:hV} {H':Hp},(∀b∈fp,H' b=none)->(∀p∈pl,∀b∈fp,p.1≠b)->∀b∈fp,La (Yk X oc scope cl xs cn (ib.heap.objs.size+1) ib ig fp) pl H' b:=λ{pl H'} hn hp b hb=>
  ⟨hn b hb,(I3.ok.exf b hb).1,λhm=>I3.ok.exfs b hb hm,.inl hb,(I3.ok.exf b hb).2,λp ly=>hp p (by simpa using ly) b hb⟩
 have loop : ∀ jq : Shared,jq = { ib with heap:=i4 } ->
     codeAny (model X.prog X.w) X.A (.compLoop (.ListComp i0 [⟨tg,il,iZ,0⟩] scope pos) 0 (.ref it) (.ref ib.heap.objs.size) (compEnvC scope (Vp oc (ib.heap.objs.size+1+1) cl) (ib.heap.objs.size+1) X.env)) (RR (.ref ib.heap.objs.size) (ib.heap.objs.size+1)) jq:=by
  rintro jq rfl
  refine Ko (λn s'=>∃i ys vs H',vs.length=xs.length∧Inv (Yk X oc scope cl xs cn (ib.heap.objs.size+1) ib ig fp) [] (vs++Sg js σ) H' s'∧tn i s'.heap∧(∀b∈fp,H' b=none)∧W i n ys H') ?_ m0
   ⟨0,[],_,_,dL,I3,st3,λb hb=>by rw[Zx (fpD b hb)];exact(f2 b hb).1,w0⟩
  rintro n s4 ⟨i,ys,v4,H4,hv4,I4,st4,fr4,w4⟩;obtain⟨oX,tr⟩:=turn i n ys H4 w4;rcases tr with ⟨stop,qn⟩|⟨go,step⟩
  ·refine cx (T.done (Yk X oc scope cl xs cn (ib.heap.objs.size+1) ib ig fp) rfl rfl rfl hc i [] s4 _ H4 (λ_ _=>False) I4 (stat fr4 (λ_ z=>nomatch z)) st4 stop) (λr s5 ⟨hr,I5⟩=>?_) λ_ _ q=>q
   subst hr;have I6:Inv X gV σ H4 s5:=I2.call' (ch:=fp) I5.os I5.base I5.hok I5.bare λb hb=>⟨(f2 b hb).2.2.2.1,(f2 b hb).2.1,(f2 b hb).2.2.2.2.1,(f2 b hb).2.2.2.2.2⟩
   obtain⟨m,hn,_⟩:=I5.loc;refine nH _ _ H4 s5 I6 qn I5.free (dQ (da I2.lt)) (gG I2.sz) (λy c e z=>?_) (λp hp z=>?_) ⟨m,hn⟩
   ·obtain⟨v,o,i7,_⟩:=I2.cell y c e
    exact absurd (aO i7) (by rw[z];exact fS.mpr (cZ _))
   ·exact absurd (aO (I2.pin p hp).1) (by rw[z];exact fS.mpr (cZ _))
  ·refine cx (T.item (Yk X oc scope cl xs cn (ib.heap.objs.size+1) ib ig fp) rfl rfl rfl hc i [] s4 _ H4 (λ_ _=>False) I4 (stat fr4 (λ_ z=>nomatch z)) st4 go) (λr s4' ⟨u,hr,h5⟩=>?_) λ_ _ q=>q
   subst hr;refine cx h5 (λ_ s5 ⟨x5,H5,I5,r5,y5,st5,fr5⟩=>?_) λ_ _ q=>q
   have I5p:=I5.pinned (stat fr5 (λ_ z=>nomatch z)) (T.obj _ _ st5);refine cx (hg _ _ _ _ _ s5 _ H5 x5 u _ I5p r5 (step x5 H5 y5 v4 hv4)) (λ_ s6 ⟨σ6,H6,I6,⟨vs6,hv6,e6⟩,q6⟩=>?_) λ_ _ q=>q
   subst e6
   have again:∀{s7:Shared} {H7:Hp},Inv (Yk X oc scope cl xs cn (ib.heap.objs.size+1) ib ig fp) ([]++RE fp s5.heap) (vs6++Sg js σ) H7 s7->tn (i+1) s7.heap∧∀b∈fp,H7 b=none:=λ{s7 H7} I7=>by
    refine⟨T.keep _ _ _ st5 λb hb o e=>(I7.pin (b,o) (ck _ (ck _ (Uu hb e)))).1,λb hb=>?_⟩;obtain⟨o,e,d⟩:=T.obj _ _ st5 b hb;exact(I7.pin (b,o) (ck _ (ck _ (Uu hb e)))).2.1
   refine cx (ht _ _ _ _ _ s6 _ H6 _ I6 q6) (λok s7 ⟨H7,I7,q7⟩=>?_) λ_ _ q=>q
   cases ok with
   |false=>
    rw[aE aJ];rw[aE aJ]at q7;obtain⟨m',hm,w7⟩:=q7;obtain⟨nI,nJ⟩:=again I7;exact⟨m',hm,i+1,ys,vs6,H7,hv6,I7.unpinned,nI,nJ,w7⟩
   |true=>
    rw[aC rfl];rw[aC rfl]at q7;refine cx (he _ _ _ _ _ s7 _ H7 _ I7 q7) (λu8 s8 ⟨v8,H8,I8,r8,hD8,hz8,m',hm,w8⟩=>?_) λ_ _ q=>q
    obtain⟨oY,oZ⟩:=again I8;obtain⟨z8,ik,k8,m3,e8⟩:=I8.hok _ _ hD8;have hl8:=m3.length;refine append_at (E:=λ_ _=>False) (hsz:=by rw[bF];omega) e8 λh9 nK e9=>?_
    have I9:Inv (Yk X oc scope cl xs cn (ib.heap.objs.size+1) ib ig fp) ([]++RE fp s5.heap) (vs6++Sg js σ) (upd H8 ib.heap.objs.size (.lst (ys++[v8]))) {s8 with heap:=h9}:=by
     refine I8.write (x:=ib.heap.objs.size) (e:=ib.heap.objs.size) (t':=s8.toks) (by rw[hD8];exact True.intro) (.inl rfl) (λb u hb q=>(nK.2 b hb).trans q) ⟨_,e9⟩ ?_;refine⟨by rw[aT,dJ];omega,ik++[u8],k8+1,m3.append (.cons r8 .nil),?_⟩;rw[e9,List.push_toArray]
    obtain⟨nM,nN⟩:=again I9;exact⟨m',hm,i+1,ys++[v8],vs6,_,hv6,I9.unpinned,nM,nN,w8⟩
 exact codeAny_compStart_list (loop _ rfl) (T.self _ 0 _ _ _ st3 (loop _ rfl))
def LZ(O:CompOkT X oc scope cl xs cn js)(hc:X.calm=true)(hg:∀C ib ig fp,PG (Yk X oc scope cl xs cn C ib ig fp) tg g)(hi:PI X (tg) il wi)(ht:∀C ib ig fp,Td (Yk X oc scope cl xs cn C ib ig fp) iZ (tc C ib ig fp))(he:∀C ib ig fp,PE (Yk X oc scope cl xs cn C ib ig fp) i0 (te C ib ig fp))(hs:∀v,foldedSetIterable il X.env v=pure v:=by intro _;rfl):PE X (.ListComp i0 [⟨tg,il,iZ,0⟩] scope pos) (Mq wi xs.length g js tc te):=by
 intro gV s σ H Q I h;rw[eval_ListComp];refine wpAny_comprehension_free (use:=none) rfl hs O.clos O.kind O.names (thn (hi gV s σ H _ I h) λv s1 h1=>thn h1 λkS s2 h2=>?_);refine Qe O hc hg ht he (R:=Q) (RR:=λiz C=>compPost (model X.prog X.w) X.A X.xe none (EP X gV σ Q) iz C) h2 ?_;intro D C H' s' I' q hC hL h0 kZ hp ⟨m,hn⟩;refine⟨m,hn,λnO k4=>⟨.ref D,H',?_,rfl,q⟩⟩;exact I'.turned (t':=s'.toks) (λb o hb e=>(k4.2 b hb).trans e) hC hL (.inr h0) kZ hp
def OM(j:Nat)(wi:TI)(n:Nat)(g:TG)(js:iD)(tc:Addr->Shared->Hp->List Addr->TT)(te:Addr->Shared->Hp->List Addr->TE):TS:=λD σ H=>Mq wi n g js tc te σ H λv H1=>D.nx (σ.set j (some v)) H1
def Qa{j:Nat}{y:Str}{py i9:Pos}(O:CompOkT X oc scope cl xs cn js)(hc:X.calm=true)(hg:∀C ib ig fp,PG (Yk X oc scope cl xs cn C ib ig fp) tg g)(hi:PI X (tg) il wi)(ht:∀C ib ig fp,Td (Yk X oc scope cl xs cn C ib ig fp) iZ (tc C ib ig fp))(he:∀C ib ig fp,PE (Yk X oc scope cl xs cn C ib ig fp) i0 (te C ib ig fp))(hN:X.N.Nodup) (hj:X.N[j]?=some y) (hy:Loc X.env.scope y) (j0:swapsWith (.ListComp i0 [⟨tg,il,iZ,0⟩] scope pos) (some (.Name y py)) i9.line X.env=pure true)(hs:∀v,foldedSetIterable il X.env v=pure v:=by intro _;rfl) (hf:X.fn y=true∨X.env.scope.names.lookup y=some .local:=by first|exact .inl rfl|exact .inr rfl):PS X (.Assign [.Name y py] (.ListComp i0 [⟨tg,il,iZ,0⟩] scope pos) i9) (OM j wi xs.length g js tc te):=by
 intro gV s σ H D I h;rw[exec_Assign_Name_used _ _ _ _ j0];refine aB (wpAny_standAt (aB ?_));show wpAny _ X.A (do let _ ← comprehension (.ListComp i0 [⟨tg,il,iZ,0⟩] scope pos) scope X.env _ (newList []) false (eval il X.env) (some (assign (.Name y py) X.env))) _ _ s
 refine aB (cx (wpAny_comprehension_free (use:=some (assign (.Name y py) X.env)) (Q:=λ_ s'=>SP X gV D .next s') rfl hs O.clos O.kind O.names
  (thn (hi gV s σ H _ I h) λv s1 h1=>thn h1 λkS s2 h2=>?_)) (λ_ s' hq=>aD (aD hq)) λ_ _ e=>e)
 refine Qe O hc hg ht he (R:=λv H1=>D.nx (σ.set j (some v)) H1) (RR:=λiz C=>compPost (model X.prog X.w) X.A X.xe (some (assign (.Name y py) X.env)) (λ_ s'=>SP X gV D .next s') iz C) h2 ?_;intro DD C H' s' I' q hC hL h0 kZ hp ⟨m,hn⟩;show wpAny _ X.A (assign (.Name y py) X.env (.ref DD)) _ _ s';refine wpAny_assign_Name (Nm I' hN hj hy (v:=.ref DD) rfl (λs3 I3 ⟨a,hsb,ha⟩=>?_) hf)
 have nCa:C≠a:=λz=>by
  rcases ha with e|e
  ·exact hL (z.trans e)
  ·exact kZ _ _ e z.symm
 refine⟨m,hn.sameBut hsb nCa,λnO k4=>⟨_,H',?_,q⟩⟩;exact I3.turned (t':=s3.toks) (λb o hb e=>(k4.2 b hb).trans e) hC hL (.inr h0) kZ hp
end
abbrev XA(X:Cx)(oc:Option Str)(scope:Scope)(cl:hX)(x:Str)(cn:iE)(C:Addr)(ib:Shared)(ig:Hp)(fp:iA):Cx:=Yk X oc scope cl [x] cn C ib ig fp
def Sq(js:iD)(v:Option V)(σ:St):St:=v::js.map λj=>(σ[j]?).join
structure CompOk(X:Cx)(oc:Option Str)(scope:Scope)(cl:hX)(x:Str)(cn:iE)(js:iD):Prop where
 T:CompOkT X oc scope cl [x] cn js
 hx:(relabel scope X.env).names.lookup x=some .local∨(oc=some x∧(relabel scope X.env).names.lookup x=some .cell)
def Hw{X:Cx}{scope:Scope}{x:Str}{cn:iE}{js:iD}(clos:closureFor scope X.env=pure (Xu scope.names X.env))(i8:∀y∈scope.names,y.2≠.cell)(kind:scope.kind=.function)(names:∀y∈scope.names,y.2=.local->scope.names.lookup y.1=some .local) (hx:scope.names.lookup x=some .local)(has:((relabel scope X.env).names.all λp=>!(WS (some p.2)) || (decide ((none:Option Str)=some p.1) || ((Xu scope.names X.env).lookup p.1).isSome))=true) (len:js.length=cn.length)(cap:((cn.zip js).all λp=>(X.N[p.2]? == some p.1)&&WS (X.env.scope.names.lookup p.1)&&WS ((relabel scope X.env).names.lookup p.1))=true)(nd:(x::cn).Nodup):CompOk X none scope (Xu scope.names X.env) x cn js:=⟨QW clos i8 kind names has len cap nd,.inl (lookup_relabel_local hx)⟩
def J2{X:Cx}{scope:Scope}{x:Str}{cn:iE}{js:iD}(clos:closureFor scope X.env=pure (Xu scope.names X.env))(cs:∀n,cellsFrom n scope.names (Xu scope.names X.env)=Vp (some x) n (Xu scope.names X.env))(pc:∀h,pushCells h scope.names=KB (some x) h)(kind:scope.kind=.function)(names:∀y∈scope.names,y.2=.local->scope.names.lookup y.1=some .local) (hx:(relabel scope X.env).names.lookup x=some .cell)(has:((relabel scope X.env).names.all λp=>!(WS (some p.2)) || (decide (some x=some p.1) || ((Xu scope.names X.env).lookup p.1).isSome))=true) (len:js.length=cn.length)(cap:((cn.zip js).all λp=>(X.N[p.2]? == some p.1)&&WS (X.env.scope.names.lookup p.1)&&WS ((relabel scope X.env).names.lookup p.1))=true)(nd:(x::cn).Nodup):CompOk X (some x) scope (Xu scope.names X.env) x cn js:=
 ⟨⟨clos,cs,pc,kind,names,λy c h=>Rj X.env scope.names [] (λ_ z=>(nomatch z)) (y,c) (cp h),AN has,BV len cap,λy hy z=>(cL.mp nd).1 (bW z ▸ hy),len,nd⟩,.inr ⟨rfl,hx⟩⟩
def CompOk.pg{X:Cx}{oc:Option Str}{scope:Scope}{cl:hX}{x:Str}{cn:iE}{js:iD}{px:Pos}(O:CompOk X oc scope cl x cn js)(C:Addr)(ib:Shared)(ig:Hp)(fp:iA):PG (XA X oc scope cl x cn C ib ig fp) (.Name x px) (Ph 0):=by
 rcases O.hx with h|⟨h,h2⟩
 ·exact Wx O.T.nd rfl (.inl h) (.inr h)
 ·exact Wx O.T.nd rfl (.inr h2) (.inl (bL h))
def LQ(wi:TI)(js:iD)(tc:Addr->Shared->Hp->List Addr->TT)(te:Addr->Shared->Hp->List Addr->TE):TE:=λσ H Q=>wi σ H λJ H1=>∀D,H1 D=none->∀C ib ig fp,∃W:Nat->Nat->List V->Hp->Prop,(∃m,W 0 m [] (upd H1 D (.lst [])))∧∀i m ys H2,W i m ys H2->H2 D=some (.lst ys) ∧
 ((J.stop i H2∧Q (.ref D) H2)∨(J.go i H2∧∀x H',J.yld i H2 x H'->tc C ib ig fp (Sq js (some x) σ) H' λb H3=>if b=true then te C ib ig fp (Sq js (some x) σ) H3 λv H4=>H4 D=some (.lst ys)∧ys.length<sizeLine∧∃m',m'<m∧W (i+1) m' (ys++[v]) (upd H4 D (.lst (ys++[v])))
  else ∃m',m'<m∧W (i+1) m' ys H3))
def Kx(wi:TI)(js:iD)(tc:Addr->Shared->Hp->List Addr->TT)(te:Addr->Shared->Hp->List Addr->TE):Mq wi 1 (Ph 0) js tc te=LQ wi js tc te:=by
 funext σ H Q;refine cE (wi σ H) (funext λJ=>funext λH1=>?_);refine cO λD=>cO λhD=>cO λC=>cO λib=>cO λig=>cO λfp=>?_
 refine cE Exists (funext λW=>cE (_∧·) (cO λi=>cO λm=>cO λys=>cO λH2=>cO λhW=>cE (_∧·) (cE (_∨·) (cE (_∧·) (cO λx=>cO λH'=>cO λhy=>propext ⟨λh=>(h [none] rfl).2,λh vs hv=>?_⟩)))))
 match vs,hv with
 |[v],_=>exact⟨⟨[some x],rfl,rfl⟩,h⟩
section
variable{X:Cx}{oc:Option Str}{scope:Scope}{cl:hX}{x:Str}{cn:iE}{js:iD}{i0 il:Expr}{iZ:iF}{px pos:Pos}{wi:TI}{tc:Addr->Shared->Hp->List Addr->TT}{te:Addr->Shared->Hp->List Addr->TE}
def J5(O:CompOk X oc scope cl x cn js)(hc:X.calm=true)(hi:PI X (.Name x px) il wi)(ht:∀C ib ig fp,Td (XA X oc scope cl x cn C ib ig fp) iZ (tc C ib ig fp))(he:∀C ib ig fp,PE (XA X oc scope cl x cn C ib ig fp) i0 (te C ib ig fp))(hs:∀v,foldedSetIterable il X.env v=pure v:=by intro _;rfl):PE X (.ListComp i0 [⟨.Name x px,il,iZ,0⟩] scope pos) (LQ wi js tc te):=Kx wi js tc te ▸ LZ O.T hc O.pg hi ht he hs
def En(j:Nat)(wi:TI)(js:iD)(tc:Addr->Shared->Hp->List Addr->TT)(te:Addr->Shared->Hp->List Addr->TE):TS:=λD σ H=>LQ wi js tc te σ H λv H1=>D.nx (σ.set j (some v)) H1
def P9{j:Nat}{y:Str}{py i9:Pos}(O:CompOk X oc scope cl x cn js)(hc:X.calm=true)(hi:PI X (.Name x px) il wi)(ht:∀C ib ig fp,Td (XA X oc scope cl x cn C ib ig fp) iZ (tc C ib ig fp))(he:∀C ib ig fp,PE (XA X oc scope cl x cn C ib ig fp) i0 (te C ib ig fp))(hN:X.N.Nodup) (hj:X.N[j]?=some y) (hy:Loc X.env.scope y) (j0:swapsWith (.ListComp i0 [⟨.Name x px,il,iZ,0⟩] scope pos) (some (.Name y py)) i9.line X.env=pure true)(hs:∀v,foldedSetIterable il X.env v=pure v:=by intro _;rfl) (hf:X.fn y=true∨X.env.scope.names.lookup y=some .local:=by first|exact .inl rfl|exact .inr rfl):PS X (.Assign [.Name y py] (.ListComp i0 [⟨.Name x px,il,iZ,0⟩] scope pos) i9) (En j wi js tc te):=by
 have h:=Qa O.T hc O.pg hi ht he hN hj hy j0 hs hf;unfold OM at h;rw[show([x]:iE).length=1 from rfl,Kx]at h;exact h
end
section
variable{X:Cx}{gV:hV}{σ:St}{H:Hp}{s:Shared}
def Inv.freeze{d:Addr}{ob:Obj}{ks:List (Key × V)}(I:Inv X gV σ H s)(hd:H d=some (.dK ks))(ho:s.heap.get? d=some ob):Inv X gV σ (upd H d (.frz ob (.dK ks))) s:=by
 have old:∀b x,H b=some x->(∀ys,x≠.dK ys)->upd H d (.frz ob (.dK ks)) b=some x:=λb x e n=>by
  have hb:b≠d:=λz=>by rw[z,hd]at e;exact n ks (bW e).symm
  rw[Zx hb];exact e
 have ow:∀b a,H b=some (.own a)->upd H d (.frz ob (.dK ks)) b=some (.own a):=λb a e=>old b _ e λ_ z=>by cases z
 have tu:∀b xs,H b=some (.tup xs)->upd H d (.frz ob (.dK ks)) b=some (.tup xs):=λb a e=>old b _ e λ_ z=>by cases z
 refine I.un (h':=s.heap) (t':=s.toks) (H':=upd H d (.frz ob (.dK ks))) ⟨λb o e n _ _=>e,λb o e n _ _=>⟨o.slots,e⟩,λb o e n _=>?_,λb o e _=>⟨o,e⟩,tu,λb o u e=>old b _ e (λ_ z=>by cases z),λb ps e=>⟨#[],?_⟩⟩ (λb x e=>?_)
 ·rw[Zx (cI (ZX hd n))];exact n
 ·rw[Array.append_empty];exact old b _ e (λ_ z=>by cases z)
 ·by_cases hb:b=d
  ·rw[hb,ZC]at e
   cases e;rw[hb];exact⟨ho,(I.hok d _ hd).stay (λ_ _ _ q=>q) (λc q=>ow c _ q) λc xs q=>tu c xs q⟩
  ·rw[Zx hb]at e
   exact(I.hok b x e).stay (λ_ _ _ q=>q) (λc q=>ow c _ q) λc xs q=>tu c xs q
def Inv.nofrz{d:Addr}{ks:List (Key × V)}(I:Inv X gV σ H s)(hd:H d=some (.dK ks)):∀o u,X.H₀ d≠some (.frz o u):=λo u z=>by
 have:=I.base.frzs d o u z;rw[hd]at this;cases this
def Inv.thaw{d:Addr}{ob:Obj}{ks:List (Key × V)}(I:Inv X gV σ H s)(hd:H d=some (.frz ob (.dK ks)))(nf:∀o u,X.H₀ d≠some (.frz o u)):Inv X gV σ (upd H d (.dK ks)) s:=by
 have old:∀b x,H b=some x->b≠d->upd H d (.dK ks) b=some x:=λb x e n=>by rw[Zx n];exact e
 have nn:∀b,H b=none->upd H d (.dK ks) b=none:=λb n=>by rw[Zx (cI (ZX hd n))];exact n
 have tu:∀b xs,H b=some (.tup xs)->upd H d (.dK ks) b=some (.tup xs):=λb xs e=>old b _ e λz=>by rw[z,hd]at e;cases e
 have ow:∀b a,H b=some (.own a)->upd H d (.dK ks) b=some (.own a):=λb xs e=>old b _ e λz=>by rw[z,hd]at e;cases e
 refine⟨I.ok,I.os,I.bare,⟨I.base.keep,I.base.slot,λb o e n hx=>nn b (I.base.free b o e n hx),I.base.there,λb xs e=>tu b xs (I.base.tups b xs e),λb o u e=>old b _ (I.base.frzs b o u e) (λz=>nf o u (z ▸ e)),λb ps e=>?_⟩,
  I.loc,I.cell,nn _ I.free,λx c e=>nn c (I.freeC x c e),λp hp=>?_,λb x e=>?_,I.len⟩
 ·obtain⟨more,e1⟩:=I.base.tbls b ps e
  exact⟨more,old b _ e1 λz=>by rw[z,hd]at e1;cases e1⟩
 ·obtain⟨h1,h2,h3⟩:=I.pin p hp
  exact⟨h1,nn _ h2,h3⟩
 ·by_cases hb:b=d
  ·rw[hb,ZC]at e
   cases e;rw[hb];obtain⟨_,q⟩:=(show s.heap.get? d=some ob∧ObjOk X.prog X.w H s.heap d (.dK ks) from I.hok d _ hd);exact q.stay (λ_ _ _ q=>q) (λc q=>ow c _ q) λc xs q=>tu c xs q
  ·rw[Zx hb]at e
   exact(I.hok b x e).stay (λ_ _ _ q=>q) (λc q=>ow c _ q) λc xs q=>tu c xs q
end
def By{k:Key}{v:Value}(h:PO k v=true):RelV (kV k) v:=by
 rcases YQ h with ⟨i,t,rfl,rfl⟩|⟨x,t,rfl,rfl⟩
 ·exact⟨t,rfl⟩
 ·exact⟨t,rfl⟩
def IY{α γ:Type}{R:α->γ->Prop}:∀{xs:List α} {ys:List γ} {i:Nat} {x:α} {y:γ},Paired R xs ys->xs[i]?=some x->ys[i]?=some y->R x y
 |_,_,_,_,_,.nil,e,_=>by simp at e
 |_,_,0,_,_,.cons h _,e1,e2=>by simp at e1 e2;subst e1 e2;exact h
 |_,_,i+1,_,_,.cons _ r,e1,e2=>IY (i:=i) r (by simpa using e1) (by simpa using e2)
def Itd(d:Addr)(ob:Obj)(ks:List (Key × V)):It:=
 ⟨λi H=>H d=some (.frz ob (.dK ks))∧i<ks.length,λi H x H'=>H'=H∧∃p,ks[i]?=some p∧x=kV p.1,λi H=>H d=some (.frz ob (.dK ks))∧ks.length<=i⟩
def TnD(d:Addr)(ob:Obj)(it:Addr)(i:Nat)(h:Heap):Prop:=∃es ep,h.IsKeyIter it d i es.size ep∧ob.data=.dict es ep
def Ae{P:Program}{w:World}{H:Hp}{h:Heap}{d:Addr}{ob:Obj}{ks:List (Key × V)}{es:Array DictEntry}{ep:Nat}(ok:HOk P w H h)(hd:H d=some (.frz ob (.dK ks)))(i6:ob.data=.dict es ep):∃ws,KV ks ws∧h.DictAt (ZT P w) d ws ep∧es.size=ws.length:=by
 obtain⟨ho,z,hS,ws,r,m⟩:=(show h.get? d=some ob∧ks.length<=sizeLine∧(d == sysModules)=false∧∃vs,KV ks vs∧h.DictOf (ZT P w) d vs from ok d _ hd);obtain⟨o',jd,kd,i7,j4,kK,hk,hp,hn⟩:=m;rw[ho]at i7;cases i7;rw[i6]at kK;injection kK with e1 e2
 subst e1 e2;refine⟨ws,r,⟨ob,es,ho,j4,i6,hk,hp,hn⟩,?_⟩;have:=hp.length;simpa using this
def Nf{P:Program}{w:World}{K:g9}{tg:Expr}(d it:Addr)(ob:Obj)(ks:List (Key × V)):Turn P w K tg (Itd d ob ks) [it] it (TnD d ob it) where
 mem:=by simp
 obj:=λi h ⟨es,ep,st,_⟩ b hb=>by
  have e:b=it:=by simpa using hb
  subst e;obtain⟨o,e,c,d⟩:=st;exact⟨o,e,λv z=>by rw[d]at z;cases z⟩
 keep:=λi h h' ⟨es,ep,⟨o,e,c,q⟩,hd⟩ k=>⟨es,ep,⟨o,k it (by simp) o e,c,q⟩,hd⟩
 item:=by
  intro X hP hw hK hc i gV s σ H E I hf st hg;subst hP hw hK;obtain⟨hd,hi⟩:=hg;obtain⟨es,ep,k6,i6⟩:=st;obtain⟨ws,r,hm,hsz⟩:=Ae I.hok hd i6;have hl:ks.length=ws.length:=r.length;have hiw:i<ws.length:=by omega
  obtain⟨f0,f1,f2,f3,f4,f5⟩:=hf it (by simp);rw[hsz]at k6;refine wpAny_pyNext_dict_item (knd:=ZT X.prog X.w) (kvs:=ws) (k:=ws[i].1) (v:=ws[i].2) k6 hm (aI hiw) λkey h' kT lz sb=>?_
  have I1:Inv X gV σ H {s with heap:=h'}:=I.turned (t':=s.toks) (λb o hb e=>(sb.2 b hb).trans e) f0 f1 f3 f4 f5;obtain⟨oi,e1,c1,d1⟩:=id lz;obtain⟨g1,_⟩:=IY r (aI hi) (aI hiw);refine⟨key,rfl,IF (s:={s with heap:=h'}) e1 c1 d1 (by decide) ⟨kV ks[i].1,H,I1,?_,⟨rfl,ks[i],aI hi,rfl⟩,⟨es,ep,by rw[hsz];exact lz,i6⟩,λb hb=>(hf b hb).1⟩⟩;rw[g1];exact By kT
 done:=by
  intro X hP hw hK hc i gV s σ H E I hf st hg;subst hP hw hK;obtain⟨hd,hi⟩:=hg;obtain⟨es,ep,k6,i6⟩:=st;obtain⟨ws,r,hm,hsz⟩:=Ae I.hok hd i6;have hl:ks.length=ws.length:=r.length;obtain⟨f0,f1,f2,f3,f4,f5⟩:=hf it (by simp);rw[hsz]at k6;exact wpAny_pyNext_dict_end (knd:=ZT X.prog X.w) (kvs:=ws) (I.ok.hd hc) k6 hm (bK (by omega)) λh' eb=>⟨rfl,I.turned (t':=s.toks) (λb o hb e=>eb b o hb e) f0 f1 f3 f4 f5⟩
 self:=λ_ _ _ _ _ ⟨_,_,st,_⟩ h=>wpAny_pyIter_keyiter st h
section
variable{X:Cx}{tg:Expr}
def BP(X:Cx)(tl:TE):TI:=λσ H R=>tl σ H λx H1=>∃d ks,x=.ref d∧((H1 d=some (.dK ks)∧∀ob,(∀o u,X.H₀ d≠some (.frz o u))->R (Itd d ob ks) (upd H1 d (.frz ob (.dK ks))))∨∃ob,H1 d=some (.frz ob (.dK ks))∧R (Itd d ob ks) H1)
def M5{l:Expr}{tl:TE}(hl:PE X l tl):PI X tg l (BP X tl):=by
 intro gV s σ H R I h;refine thn (hl gV s σ H _ I h) λv s1 ⟨x,H1,I1,r1,q1⟩=>?_
 obtain⟨d,ks,e,q⟩:=q1;subst e;cases r1;rcases q with ⟨hd,q⟩|⟨ob,hd,q⟩
 ·obtain⟨z,hS,ws,r,m⟩:=(show ks.length<=sizeLine∧(d == sysModules)=false∧∃vs,KV ks vs∧s1.heap.DictOf (ZT X.prog X.w) d vs from I1.hok d _ hd)
  obtain⟨ob,es,ep,ho,j4,i6,hk,hp,hn⟩:=m;have hsz:es.size=ws.length:=by have:=hp.length;simpa using this
  have I2:=I1.freeze hd ho;refine gX (knd:=ZT X.prog X.w) (kvs:=ws) (ep:=ep) hS ⟨ob,es,ho,j4,i6,hk,hp,hn⟩ ?_;refine⟨s1.heap.objs.size,[s1.heap.objs.size],_,_,_,rfl,I2.kept (t':=s1.toks) λb o e=>aF _ e,Nf d _ ob ks,⟨es,ep,⟨_,aW _ rfl,rfl,by rw[hsz];rfl⟩,i6⟩,λb hb=>?_,q ob (I1.nofrz hd)⟩;have e:b=s1.heap.objs.size:=by simpa using hb
  subst e;exact I2.fpOk (aK _) (I2.hok.fresh (aK _))
 ·obtain⟨ho,z,hS,ws,r,m⟩:=(show s1.heap.get? d=some ob∧ks.length<=sizeLine∧(d == sysModules)=false∧∃vs,KV ks vs∧s1.heap.DictOf (ZT X.prog X.w) d vs from I1.hok d _ hd)
  obtain⟨nP,es,ep,i7,j4,i6,hk,hp,hn⟩:=m;rw[ho]at i7;cases i7;have hsz:es.size=ws.length:=by have:=hp.length;simpa using this
  refine gX (knd:=ZT X.prog X.w) (kvs:=ws) (ep:=ep) hS ⟨ob,es,ho,j4,i6,hk,hp,hn⟩ ?_;refine⟨s1.heap.objs.size,[s1.heap.objs.size],_,_,_,rfl,I1.kept (t':=s1.toks) λb o e=>aF _ e,Nf d _ ob ks,⟨es,ep,⟨_,aW _ rfl,rfl,by rw[hsz];rfl⟩,i6⟩,λb hb=>?_,q⟩;have e:b=s1.heap.objs.size:=by simpa using hb
  subst e;exact I1.fpOk (aK _) (I1.hok.fresh (aK _))
def Thawed(X:Cx)(Q:Hp->Prop)(H2:Hp):Prop:=(∃d ob ks,(∀o u,X.H₀ d≠some (.frz o u))∧H2 d=some (.frz ob (.dK ks))∧Q (upd H2 d (.dK ks)))∨Q H2
def Thawed.inv{Q:Hp->Prop}{gV:hV}{σ:St}{H:Hp}{s:Shared}(h:Thawed X Q H)(I:Inv X gV σ H s):∃H',Inv X gV σ H' s∧Q H':=by
 rcases h with ⟨d,ob,ks,nf,hd,q⟩|q
 ·exact⟨_,I.thaw hd nf,q⟩
 ·exact⟨H,I,q⟩
def Cb{e:Expr}{t:TE}(h:PE X e t):PE X e (λσ H Q=>t σ H λv=>Thawed X (Q v)):=λgV s σ H Q I q=>
 thn (h gV s σ H _ I q) λv s1 ⟨x,H1,I1,r1,q1⟩=>let ⟨H2,I2,q2⟩:=q1.inv I1;⟨x,H2,I2,r1,q2⟩
def Hh(X:Cx)(D:Ends):Ends:=⟨λσ=>Thawed X (D.nx σ),λv=>Thawed X (D.rt v),λσ=>Thawed X (D.bk σ),λσ=>Thawed X (D.ct σ)⟩
def C1{gV:hV}{D:Ends}{f:Flow}{s:Shared}(h:SP X gV (Hh X D) f s):SP X gV D f s:=by
 cases f with
 |next=>obtain⟨σ,H,I,q⟩:=h;obtain⟨H2,I2,q2⟩:=Thawed.inv q I;exact⟨σ,_,I2,q2⟩
 |brk=>obtain⟨σ,H,I,q⟩:=h;obtain⟨H2,I2,q2⟩:=Thawed.inv q I;exact⟨σ,_,I2,q2⟩
 |cont=>obtain⟨σ,H,I,q⟩:=h;obtain⟨H2,I2,q2⟩:=Thawed.inv q I;exact⟨σ,_,I2,q2⟩
 |ret u=>obtain⟨v,σ,H,I,r,q⟩:=h;obtain⟨H2,I2,q2⟩:=Thawed.inv q I;exact⟨v,σ,_,I2,r,q2⟩
def J7{e:Stmt}{t:TS}(h:PS X e t):PS X e (λD σ H=>t (Hh X D) σ H):=λgV s σ H D I q=>thn (h gV s σ H _ I q) λf s1 z=>C1 z
def Q5:∀{xs:iI} {us:iB} {ns:iC},xs=ns.map V.int->Vals xs us->IntsAre us ns
 |_,_,[],e,r=>by subst e;cases r;exact .nil
 |_,_,n::ns,e,r=>by
  subst e;cases r with
  |cons h r=>
   obtain⟨t,rfl⟩:=(show ∃t,_=Value.int n t from h);exact .cons n t (Q5 rfl r)
def N3:∀{us:iB} {ns:iC},IntsAre us ns->Vals (ns.map V.int) us
 |_,_,.nil=>.nil
 |_,_,.cons n t r=>.cons ⟨t,rfl⟩ (N3 r)
def Ff(K:g9):iI->Hp->VK->Prop:=λxs H Q=>∃(l:Addr) (ns:iC),xs=[.ref l]∧SqL K H l (ns.map V.int)∧ns.length<64∧∀(p:Addr) (ms:iC),ms.Perm ns->ms.Pairwise (·<=·)->H p=none->Q (.ref p) (upd H p (.lst (ms.map V.int)))
def J0:CallR X (.builtin "sorted") (Ff X.K):=by
 intro gV s σ H xs us Q I r h;obtain⟨l,ns,rfl,hl,kg,q⟩:=h;obtain⟨u,rfl,ru⟩:=SL r;cases (show u=Value.ref l from ru);obtain⟨ik,rv,p,hz⟩:=I.list hl;have hI:=Q5 rfl rv;have ip:ik.length=ns.length:=by have:=rv.length;rw[aA]at this;exact this.symm
 refine sorted_ints (vs:=ik) (ns:=ns) p.isList hI (by omega) λout ms a1 a2 a3=>?_
 obtain⟨e,he⟩:=sortedAll_at s.heap ik out;refine⟨.ref (s.heap.objs.size+1),_,I.laid (o:=.lst (ms.map V.int)) (t':=s.toks) (λ_ _=>sortedAll_old) (cZ _) ?_,rfl,q _ ms a2 a3 (I.hok.fresh (cZ _))⟩;have hl2:ms.length=ns.length:=a2.length_eq;refine⟨by rw[aA,cf];omega,out.toList,e,N3 a1,?_⟩;rw[he]
def O8:∀{xs:iI} {us:iB} {bs:iG},xs=bs.map V.bl->Vals xs us->LSm.BoolsAre us bs
 |_,_,[],e,r=>by subst e;cases r;exact .nil
 |_,_,b::bs,e,r=>by
  subst e;cases r with
  |cons h r=>
   cases (show _=Value.bool b from h);exact .cons b (O8 rfl r)
def BS(K:g9)(g:iG->Bool):iI->Hp->VK->Prop:=λxs H Q=>∃(l:Addr) (bs:iG),xs=[.ref l]∧SqL K H l (bs.map V.bl)∧Q (.bl (g bs)) H
def HC(hc:X.calm=true):CallR X (.builtin "any") (BS X.K λbs=>bs.any id):=by
 intro gV s σ H xs us Q I r h;obtain⟨l,bs,rfl,hl,q⟩:=h;obtain⟨u,rfl,ru⟩:=SL r;cases (show u=Value.ref l from ru);obtain⟨ik,rv,p,hz⟩:=I.list hl;have hb:=O8 rfl rv;have hp:=p.isList;have iW:l<s.heap.objs.size:=by obtain⟨_,e,_⟩:=hp;exact aO e
 refine call_any_walk (gW hp ⟨s.heap.objs.size,[s.heap.objs.size,l],[s.heap.objs.size],ik.toArray.size,_,_,λj=>(bs[j]?).getD false,rfl,Walks.list (A:=X.A.in1) (I.ok.hd hc) _ l (bC iW) ik.toArray,
  ⟨⟨_,aW _ rfl,rfl,rfl⟩,hp.push _⟩,λj v s' Q' E' hP hQ=>?_,λh' tk hk=>?_⟩)
 ·obtain⟨b,e,rfl⟩:=hb.get j v (by simpa using hP)
  simp only[e,gH]at hQ;exact dW hQ
 ·have e:((List.range ik.toArray.size).any λj=>(bs[j]?).getD false)=bs.any id:=by
   rw[bF,hb.length];exact LSm.range_any bs
  rw[e];exact⟨.bl _,H,I.kept (t':=tk) (LSm.kept_iter hk),rfl,q⟩
end
inductive Wv where
 |non|bl (b:Bool)|int (i:Int)|str (x:Str)|lst (ws:List Wv)|tup (ws:List Wv)|o (h:Nat)|g (a:Addr)
abbrev iJ:=List Wv
abbrev iK:=List (Str × Wv)
abbrev iL:=List (List Key × Wv)
abbrev iM:=List (Key × Wv)
inductive Ob where
 |ins (C:Addr) (fs:iK)|lst (ws:iJ)|dk (kvs:iM)|dt (kvs:iL)|exc (C:Addr)|dz (kvs:iM)
abbrev iN:=List Ob
section
variable(F:Hp)(β:iA)
mutual
inductive RW:Wv->V->Prop
 |non:RW .non .non
 |bl (b:Bool):RW (.bl b) (.bl b)
 |int (i:Int):RW (.int i) (.int i)
 |str (x:Str):RW (.str x) (.str x)
 |lst {a:Addr} {xs:iI} {ws:iJ} (e:Rd F a (.lst xs)) (r:RWs ws xs):RW (.lst ws) (.ref a)
 |tup {a:Addr} {xs:iI} {ws:iJ} (e:F a=some (.tup xs)) (r:RWs ws xs):RW (.tup ws) (.ref a)
 |o {h:Nat} {a:Addr} (e:β[h]?=some a):RW (.o h) (.ref a)
 |g (a:Addr):RW (.g a) (.ref a)
inductive RWs:iJ->List V->Prop
 |nil:RWs [] []
 |cons {w:Wv} {ws:iJ} {v:V} {vs:iI} (h:RW w v) (r:RWs ws vs):RWs (w::ws) (v::vs)
end
end
structure Gr(F F':Hp)(β iq:iA):Prop where
 same:Same F F'
 pre:∀(h:Nat) (a:Addr),β[h]?=some a->iq[h]?=some a
def Gr.refl(F:Hp)(β:iA):Gr F F β β:=⟨Same.refl _,λ_ _ e=>e⟩
def Gr.trans{F F1 F2:Hp}{β io ja:iA}(a:Gr F F1 β io)(b:Gr F1 F2 io ja):Gr F F2 β ja:=⟨a.same.trans b.same,λh x e=>b.pre h x (a.pre h x e)⟩
def Rd.same{H H':Hp}{a:Addr}{u:HO}(s:Same H H')(r:Rd H a u):Rd H' a u:=r.elim (λe=>.inl (s _ _ e)) λ⟨o,e⟩=>.inr ⟨o,s _ _ e⟩
mutual
def RW.mono{F F':Hp}{β iq:iA}(g:Gr F F' β iq):∀{w:Wv} {v:V},RW F β w v->RW F' iq w v
 |_,_,.non=>.non
 |_,_,.bl b=>.bl b
 |_,_,.int i=>.int i
 |_,_,.str x=>.str x
 |_,_,.lst e r=>.lst (Rd.same g.same e) (RWs.mono g r)
 |_,_,.tup e r=>.tup (g.same _ _ e) (RWs.mono g r)
 |_,_,.o e=>.o (g.pre _ _ e)
 |_,_,.g a=>.g a
def RWs.mono{F F':Hp}{β iq:iA}(g:Gr F F' β iq):∀{ws:iJ} {vs:iI},RWs F β ws vs->RWs F' iq ws vs
 |_,_,.nil=>.nil
 |_,_,.cons h r=>.cons (RW.mono g h) (RWs.mono g r)
end
section
variable{F:Hp}{β:iA}
def RWs.length:∀{ws:iJ} {vs:iI},RWs F β ws vs->ws.length=vs.length
 |_,_,.nil=>rfl
 |_,_,.cons _ r=>by rw[bI,bI,RWs.length r]
def RWs.get:∀{ws:iJ} {vs:iI} {i:Nat} {w:Wv},RWs F β ws vs->ws[i]?=some w->∃v,vs[i]?=some v∧RW F β w v
 |_,_,_,_,.nil,e=>by simp at e
 |_,_,0,_,.cons h _,e=>by simp at e;subst e;exact⟨_,rfl,h⟩
 |_,_,i+1,w,.cons _ r,e=>by
  obtain⟨v,h1,h2⟩:=RWs.get (i:=i) (w:=w) r (by simpa using e);exact⟨v,by simpa using h1,h2⟩
def RWs.append:∀{ws us:iJ} {vs xs:iI},RWs F β ws vs->RWs F β us xs->RWs F β (ws++us) (vs++xs)
 |_,_,_,_,.nil,s=>s
 |_,_,_,_,.cons h r,s=>.cons h (RWs.append r s)
def RWs.set{w:Wv}{v:V}(h:RW F β w v):∀{ws:iJ} {vs:iI} (i:Nat),RWs F β ws vs->RWs F β (ws.set i w) (vs.set i v)
 |_,_,_,.nil=>.nil
 |_,_,0,.cons _ r=>.cons h r
 |_,_,i+1,.cons q r=>.cons q (RWs.set h i r)
def RWs.rep{ws:iJ}{vs:iI}(h:RWs F β ws vs):∀k:Nat,RWs F β (List.replicate k ws).flatten (List.replicate k vs).flatten
 |0=>.nil
 |k+1=>by rw[cM,cM,dy,dy];exact h.append (RWs.rep h k)
end
inductive RK (F:Hp) (β:iA) {κ:Type}:List (κ × Wv)->List (κ × V)->Prop
 |nil:RK F β [] []
 |cons {k:κ} {w:Wv} {v:V} {ps:List (κ × Wv)} {qs:List (κ × V)} (h:RW F β w v) (r:RK F β ps qs):RK F β ((k,w)::ps) ((k,v)::qs)
def RK.mono{F F':Hp}{β iq:iA}{κ:Type}(g:Gr F F' β iq):∀{ps:List (κ × Wv)} {qs:List (κ × V)},RK F β ps qs->RK F' iq ps qs
 |_,_,.nil=>.nil
 |_,_,.cons h r=>.cons (h.mono g) (RK.mono g r)
def ObR(F H:Hp)(β:iA)(a:Addr):Ob->Prop
 |.ins C fs=>∃dx jj,H a=some (.ins C dx jj)∧RK F β fs jj
 |.lst ws=>∃xs,H a=some (.lst xs)∧RWs F β ws xs
 |.dk kvs=>∃ks,H a=some (.dK ks)∧RK F β kvs ks
 |.dt kvs=>∃ks,H a=some (.dT ks)∧RK F β kvs ks
 |.exc C=>H a=some (excO a C)
 |.dz kvs=>∃o ks,H a=some (.frz o (.dK ks))∧RK F β kvs ks
def ObR.mono{F F' H H':Hp}{β iq:iA}{a:Addr}(g:Gr F F' β iq)(e:H' a=H a):∀{ob:Ob},ObR F H β a ob->ObR F' H' iq a ob
 |.ins C fs,⟨dx,jj,h,r⟩=>⟨dx,jj,e.trans h,r.mono g⟩
 |.lst ws,⟨xs,h,r⟩=>⟨xs,e.trans h,r.mono g⟩
 |.dk kvs,⟨ks,h,r⟩=>⟨ks,e.trans h,r.mono g⟩
 |.dt kvs,⟨ks,h,r⟩=>⟨ks,e.trans h,r.mono g⟩
 |.exc C,h=>e.trans h
 |.dz kvs,⟨o,ks,h,r⟩=>⟨o,ks,e.trans h,r.mono g⟩
def ObR.ex{F H:Hp}{β:iA}{a:Addr}:∀{ob:Ob},ObR F H β a ob->∃x,H a=some x
 |.ins C fs,⟨dx,jj,h,r⟩=>⟨_,h⟩
 |.lst ws,⟨xs,h,r⟩=>⟨_,h⟩
 |.dk kvs,⟨ks,h,r⟩=>⟨_,h⟩
 |.dt kvs,⟨ks,h,r⟩=>⟨_,h⟩
 |.exc C,h=>⟨_,h⟩
 |.dz kvs,⟨o,ks,h,r⟩=>⟨_,h⟩
def ndx{α:Type}{l:List α}(hN:l.Nodup){i j:Nat}{x:α}(a:l[i]?=some x)(b:l[j]?=some x):i=j:=by
 obtain⟨ha,ea⟩:=aH.mp a;obtain⟨hb,eb⟩:=aH.mp b;have hp:=dv.mp hN;rcases Nat.lt_trichotomy i j with h|h|h
 ·exact absurd (ea.trans eb.symm) (hp i j ha hb h)
 ·exact h
 ·exact absurd (eb.trans ea.symm) (hp j i hb ha h)
structure MOk(F H:Hp)(β:iA)(om:iN):Prop where
 sub:Same F H
 nd:β.Nodup
 len:β.length=om.length
 free:∀(h:Nat) (a:Addr),β[h]?=some a->F a=none
 ob:∀(h:Nat) (a:Addr) (x:Ob),β[h]?=some a->om[h]?=some x->ObR F H β a x
section
variable{F H:Hp}{β:iA}{om:iN}
def MOk.at(M:MOk F H β om){h:Nat}{x:Ob}(e:om[h]?=some x):∃a,β[h]?=some a∧F a=none∧ObR F H β a x:=by
 have hl:h < β.length:=by rw[M.len];exact(aH.mp e).1
 have e1:β[h]?=some β[h]:=aI hl;exact⟨_,e1,M.free h _ e1,M.ob h _ x e1 e⟩
def MOk.there(M:MOk F H β om){h:Nat}{a:Addr}(e:β[h]?=some a):∃x,H a=some x:=by
 have hl:h<om.length:=by rw[← M.len];exact(aH.mp e).1
 exact(M.ob h a _ e (aI hl)).ex
def MOk.newF{p:Addr}{o:HO}(M:MOk F H β om)(hp:H p=none):Gr F (upd F p o) β β∧MOk (upd F p o) (upd H p o) β om:=by
 have fp:F p=none:=M.sub.free hp;have g:Gr F (upd F p o) β β:=⟨λb u e=>by rw[Zx (ZX e fp)];exact e,λ_ _ e=>e⟩
 have ne:∀(h:Nat) (a:Addr),β[h]?=some a->a≠p:=λh a e z=>by
  obtain⟨x,hx⟩:=M.there e;rw[z,hp]at hx;cases hx
 refine⟨g,λb u e=>?_,M.nd,M.len,λh a e=>by rw[Zx (ne h a e)];exact M.free h a e,λh a x e1 e2=>(M.ob h a x e1 e2).mono g (Zx (ne h a e1))⟩;by_cases hb:b=p
 ·subst hb;rw[ZC]at e ⊢;exact e
 ·rw[Zx hb]at e ⊢;exact M.sub b u e
def MOk.newO{p:Addr}{o:HO}{x:Ob}(M:MOk F H β om)(hp:H p=none)(hx:∀iq,Gr F F β iq->ObR F (upd H p o) iq p x):Gr F F β (β++[p])∧MOk F (upd H p o) (β++[p]) (om++[x])∧(β++[p])[om.length]?=some p:=by
 have fp:F p=none:=M.sub.free hp
 have ne:∀(h:Nat) (a:Addr),β[h]?=some a->a≠p:=λh a e z=>by
  obtain⟨y,hy⟩:=M.there e;rw[z,hp]at hy;cases hy
 have g:Gr F F β (β++[p]):=⟨Same.refl _,λh a e=>by rw[aQ (aH.mp e).1];exact e⟩;have last:(β++[p])[om.length]?=some p:=by rw[← M.len,bD (aK _),dP];rfl
 have cs:∀(h:Nat) (a:Addr),(β++[p])[h]?=some a->β[h]?=some a∨(h=om.length∧a=p):=λh a e=>by
  by_cases hl:h < β.length
  ·rw[aQ hl]at e;exact .inl e
  ·rw[bD (by omega)]at e
   have:h - β.length=0:=by
    have:=(aH.mp e).1;simp at this;omega
   rw[this]at e;refine .inr ⟨by rw[← M.len];omega,by simpa using e.symm⟩
 refine⟨g,⟨λb u e=>by rw[Zx (ZX e fp)];exact M.sub b u e,?_,by simp[M.len],λh a e=>?_,λh a y e1 e2=>?_⟩,last⟩
 ·rw[cH]
  refine⟨M.nd,by simp,λa ha b hb z=>?_⟩;obtain⟨i,hi⟩:=c8 ha;exact ne i a hi (z.trans (cP.mp hb))
 ·rcases cs h a e with e|⟨_,rfl⟩
  ·exact M.free h a e
  ·exact fp
 ·rcases cs h a e1 with e|⟨rfl,rfl⟩
  ·have hl:h<om.length:=by rw[← M.len];exact(aH.mp e).1
   rw[aQ hl]at e2;exact(M.ob h a y e e2).mono g (Zx (ne h a e))
  ·rw[bD (aK _),dP]at e2
   cases e2;exact hx _ g
def MOk.put{h:Nat}{a:Addr}{o:HO}{x:Ob}(M:MOk F H β om)(e:β[h]?=some a)(hx:ObR F (upd H a o) β a x):MOk F (upd H a o) β (om.set h x):=by
 have fa:=M.free h a e;refine⟨λb u eb=>by rw[Zx (ZX eb fa)];exact M.sub b u eb,M.nd,by simp[M.len],M.free,λj b y e1 e2=>?_⟩;by_cases hj:j=h
 ·subst hj
  rw[e]at e1;cases e1;have hl:j<om.length:=by rw[← M.len];exact(aH.mp e).1
  rw[bV hl]at e2;cases e2;exact hx
 ·rw[bN (cI hj)]at e2
  have nb:b≠a:=λz=>by
   subst z;exact hj (ndx M.nd e1 e)
  exact(M.ob j b y e1 e2).mono (Gr.refl _ _) (Zx nb)
end
structure Gx(F F' H H':Hp)(β iq:iA):Prop extends Gr F F' β iq where
 keep:∀b o,H b=some o->b ∉ β->H' b=some o
 there:∀b,H' b=none->H b=none
 new:∀b,b∈iq->b∈β∨H b=none
 fnew:∀b o,F' b=some o->F b=some o∨H b=none
 frz:∀b o u,H b=some (.frz o u)->H' b=some (.frz o u)
def Gx.refl(F H:Hp)(β:iA):Gx F F H H β β:=⟨Gr.refl _ _,λ_ _ e _=>e,λ_ e=>e,λ_ e=>.inl e,λ_ _ e=>.inl e,λ_ _ _ e=>e⟩
def Gx.trans{F F1 F2 H H1 H2:Hp}{β io ja:iA}(a:Gx F F1 H H1 β io)(b:Gx F1 F2 H1 H2 io ja):Gx F F2 H H2 β ja:=by
 have n1:∀c o,H c=some o->c ∉ β->c ∉ io:=λc o e h h1=>(a.new c h1).elim h λz=>by rw[e]at z;cases z
 refine⟨a.toGr.trans b.toGr,λc o e h=>b.keep c o (a.keep c o e h) (n1 c o e h),λc e=>a.there c (b.there c e),λc h=>?_,λc o e=>?_,λc o u e=>b.frz c o u (a.frz c o u e)⟩
 ·rcases b.new c h with h|h
  ·exact a.new c h
  ·exact .inr (a.there c h)
 ·rcases b.fnew c o e with h|h
  ·exact a.fnew c o h
  ·exact .inr (a.there c h)
section
variable{F H:Hp}{β:iA}{om:iN}{p:Addr}{o:HO}
def MOk.gxF(M:MOk F H β om)(hp:H p=none):Gx F (upd F p o) H (upd H p o) β β:=
 ⟨(M.newF (o:=o) hp).1,λb u e _=>by rw[Zx (ZX e hp)];exact e,λb e=>by
  by_cases hb:b=p
  ·rw[hb];exact hp
  ·rw[Zx hb]at e;exact e,λ_ e=>.inl e,λb u e=>by
  by_cases hb:b=p
  ·rw[hb];exact .inr hp
  ·rw[Zx hb]at e;exact .inl e,λb u w e=>by rw[Zx (ZX e hp)];exact e⟩
def MOk.gxU(M:MOk F H β om)(hp:H p=none):Gx F F H (upd H p o) β β:=
 ⟨Gr.refl _ _,λb u e _=>by rw[Zx (ZX e hp)];exact e,λb e=>by
  by_cases hb:b=p
  ·rw[hb];exact hp
  ·rw[Zx hb]at e;exact e,λ_ e=>.inl e,λb u e=>.inl e,λb u w e=>by rw[Zx (ZX e hp)];exact e⟩
def MOk.gxO(M:MOk F H β om)(hp:H p=none)(g:Gr F F β (β++[p])):Gx F F H (upd H p o) β (β++[p]):=
 ⟨g,(M.gxU (o:=o) hp).keep,(M.gxU (o:=o) hp).there,λb e=>by
  rcases dH.mp e with e|e
  ·exact .inl e
  ·rw[cP.mp e];exact .inr hp,λb u e=>.inl e,(M.gxU (o:=o) hp).frz⟩
def nz{H:Hp}{a:Addr}{x:HO}(h:H a=some x)(hx:∀o u,x≠.frz o u:=by intro _ _ z;cases z):∀o u,H a≠some (.frz o u):=λo u z=>hx o u (bW (h.symm.trans z))
def MOk.gxP(M:MOk F H β om){h:Nat}{a:Addr}(e:β[h]?=some a)(hz:∀u w,H a≠some (.frz u w)):Gx F F H (upd H a o) β β:=
 ⟨Gr.refl _ _,λb u eb hb=>by
  have hba:b≠a:=λz=>hb (by rw[z];exact bM e)
  rw[Zx hba];exact eb,λb eb=>by
  by_cases hb:b=a
  ·rw[hb,ZC]at eb;cases eb
  ·rw[Zx hb]at eb;exact eb,λ_ e=>.inl e,λb u e=>.inl e,λb u w eb=>by
  have hba:b≠a:=λz=>hz u w (z ▸ eb)
  rw[Zx hba];exact eb⟩
def MOk.newFx(M:MOk F H β om)(hp:H p=none):Gx F (upd F p o) H (upd H p o) β β∧MOk (upd F p o) (upd H p o) β om:=⟨M.gxF hp,(M.newF hp).2⟩
def MOk.newOx{x:Ob}(M:MOk F H β om)(hp:H p=none)(hx:∀iq,Gr F F β iq->ObR F (upd H p o) iq p x):Gx F F H (upd H p o) β (β++[p])∧MOk F (upd H p o) (β++[p]) (om++[x])∧(β++[p])[om.length]?=some p:=
 let ⟨g,m,e⟩:=M.newO hp hx;⟨M.gxO hp g,m,e⟩
end
abbrev Mw(α:Type):=iN->Option (Except Addr α × iN)
def ret{α:Type}(a:α):Mw α:=λom=>some (.ok a,om)
def bnd{α γ:Type}(m:Mw α)(k:α->Mw γ):Mw γ:=λom=>match m om with
 |none=>none
 |some (.ok a,ij)=>k a ij
 |some (.error c,ij)=>some (.error c,ij)
def Wg{α:Type}:Mw α:=λ_=>none
def BL{α:Type}(c:Addr):Mw α:=λom=>some (.error c,om)
def Yb{α:Type}(m:Mw α):Mw α:=λom=>match m om with
 |some (.ok a,ij)=>some (.ok a,ij)
 |_=>none
def Res(E:XK){α:Type}(r:Option (Except Addr α × iN))(F H:Hp)(β:iA)(P:α->Hp->Hp->List Addr->Prop):Prop:=match r with
 |none=>False
 |some (.ok x,ij)=>∀F' H' iq,Gx F F' H H' β iq->MOk F' H' iq ij->P x F' H' iq
 |some (.error c,ij)=>∀F' H' iq,Gx F F' H H' β iq->MOk F' H' iq ij->E (.ref c) none H'
section
variable{E:XK}{α γ:Type}{F F1 H H1:Hp}{β io:iA}{om:iN}{P:γ->Hp->Hp->List Addr->Prop}{P':α->Hp->Hp->List Addr->Prop}
def Res.mono{r:Option (Except Addr γ × iN)}(g:Gx F F1 H H1 β io)(R:Res E r F H β P):Res E r F1 H1 io P:=by
 match r,R with
 |some (.ok x,ij),R=>exact λF' H' iq g' M=>R F' H' iq (g.trans g') M
 |some (.error c,ij),R=>exact λF' H' iq g' M=>R F' H' iq (g.trans g') M
def Res.bind{m:Mw α}{k:α->Mw γ}(R:Res E (bnd m k om) F H β P)(h:∀x om1 F1 H1 io,Gx F F1 H H1 β io->MOk F1 H1 io om1->Res E (k x om1) F1 H1 io P->P' x F1 H1 io):Res E (m om) F H β P':=by
 unfold bnd at R
 match hm:m om,R with
 |some (.ok x,ij),R=>exact λF' H' iq g M=>h x ij F' H' iq g M (Res.mono g R)
 |some (.error c,ij),R=>exact R
end
structure EnvOk(F:Hp)(β:iA)(σ:St)(sl:List (Option Wv)):Prop where
 len:sl.length=σ.length
 get:∀(i:Nat) (w:Wv),sl[i]?=some (some w)->∃v,σ[i]?=some (some v)∧RW F β w v
def EnvOk.mono{F F':Hp}{β iq:iA}{σ:St}{sl:List (Option Wv)}(V:EnvOk F β σ sl)(g:Gr F F' β iq):EnvOk F' iq σ sl:=
 ⟨V.len,λi w e=>let ⟨v,h,r⟩:=V.get i w e;⟨v,h,r.mono g⟩⟩
def EnvOk.set{F:Hp}{β:iA}{σ:St}{sl:List (Option Wv)}{w:Wv}{v:V}(V:EnvOk F β σ sl)(i:Nat)(r:RW F β w v):EnvOk F β (σ.set i (some v)) (sl.set i (some w)):=by
 refine⟨by simp[V.len],λj u e=>?_⟩;by_cases hj:j=i
 ·subst hj
  by_cases hl:j<sl.length
  ·rw[bV hl]at e
   cases e;exact⟨v,by rw[bV (by rw[← V.len];exact hl)],r⟩
  ·rw[bK (by simp;omega)]at e;cases e
 ·rw[bN (cI hj)]at e ⊢
  exact V.get j u e
abbrev Sl:=List (Option Wv)
abbrev FE:=Sl->Mw Wv
abbrev FT:=Sl->Mw Bool
abbrev FA:=Sl->Mw (iJ)
inductive Fl where
 |nx|bk|ct|rt (w:Wv)
abbrev FS:=Sl->Mw (Fl × Sl)
def tE(E:XK)(f:FE):TE:=λσ H Q=>∃F β om sl,MOk F H β om∧EnvOk F β σ sl∧Res E (f sl om) F H β λw F' H' iq=>∀v,RW F' iq w v->Q v H'
def tT(E:XK)(f:FT):TT:=λσ H Q=>∃F β om sl,MOk F H β om∧EnvOk F β σ sl∧Res E (f sl om) F H β λb F' H' iq=>Q b H'
def tA(E:XK)(f:FA):TA:=λσ H Q=>∃F β om sl,MOk F H β om∧EnvOk F β σ sl∧Res E (f sl om) F H β λws F' H' iq=>∀vs,RWs F' iq ws vs->Q vs H'
def FlP(D:Ends)(x:Fl × Sl)(F' H':Hp)(iq:iA):Prop:=match x.1 with
 |.nx=>∀iy,EnvOk F' iq iy x.2->D.nx iy H'
 |.bk=>∀iy,EnvOk F' iq iy x.2->D.bk iy H'
 |.ct=>∀iy,EnvOk F' iq iy x.2->D.ct iy H'
 |.rt w=>∀v,RW F' iq w v->D.rt v H'
def tS(E:XK)(f:FS):TS:=λD σ H=>∃F β om sl,MOk F H β om∧EnvOk F β σ sl∧Res E (f sl om) F H β (FlP D)
def PV(Q:VK):Wv->Hp->Hp->List Addr->Prop:=λw F' H' iq=>∀v,RW F' iq w v->Q v H'
def Res.now{E:XK}{α:Type}{x:α}{F H:Hp}{β:iA}{om:iN}{P:α->Hp->Hp->List Addr->Prop}(R:Res E (ret x om) F H β P)(M:MOk F H β om):P x F H β:=R F H β (Gx.refl _ _ _) M
def PE.weak{X:Cx}{e:Expr}{t t':TE}(h:PE X e t)(w:∀σ H Q,t' σ H Q->t σ H Q):PE X e t':=λgV s σ H Q I q=>h gV s σ H Q I (w σ H Q q)
def PT.weak{X:Cx}{e:Expr}{t t':TT}(h:PT X e t)(w:∀σ H Q,t' σ H Q->t σ H Q):PT X e t':=λgV s σ H Q I q=>h gV s σ H Q I (w σ H Q q)
def PW.weak{X:Cx}{e:Expr}{t t':TT}(h:PW X e t)(w:∀σ H Q,t' σ H Q->t σ H Q):PW X e t':=λwh gV s σ H Q I q=>h wh gV s σ H Q I (w σ H Q q)
def PA.weak{X:Cx}{es:iF}{t t':TA}(h:PA X es t)(w:∀σ H Q,t' σ H Q->t σ H Q):PA X es t':=λpos gV s σ H Q I q=>h pos gV s σ H Q I (w σ H Q q)
def PS.weak{X:Cx}{e:Stmt}{t t':TS}(h:PS X e t)(w:∀D σ H,t' D σ H->t D σ H):PS X e t':=λgV s σ H Q I q=>h gV s σ H Q I (w Q σ H q)
def PSs.weak{X:Cx}{e:List Stmt}{t t':TS}(h:PSs X e t)(w:∀D σ H,t' D σ H->t D σ H):PSs X e t':=λgV s σ H Q I q=>h gV s σ H Q I (w Q σ H q)
def Za(i:Nat):FE:=λsl=>match sl[i]? with
 |some (some w)=>ret w
 |_=>Wg
def fC(w:Wv):FE:=λ_=>ret w
section
variable{X:Cx}{E:XK}{e a b:Expr}{es:iF}{fa fb:FE}{pos:Pos}
def HJ{i:Nat}(h:PE X e (tVar i)):PE X e (tE E (Za i)):=h.weak λσ H Q ⟨F,β,om,sl,M,V,R⟩=>by
 unfold Za at R
 match hw:sl[i]?,R with
 |some (some w),R=>
  obtain⟨v,e1,r⟩:=V.get i w hw;exact⟨v,e1,R.now M v r⟩
 |some none,R=>exact R.elim
 |none,R=>exact R.elim
def Go{v:V}{w:Wv}(h:PE X e (tC v))(r:∀F β,RW F β w v):PE X e (tE E (fC w)):=h.weak λσ H Q ⟨F,β,om,sl,M,V,R⟩=>R.now M v (r F β)
def Zl{i j pos}:PE X (.Constant (.int i) j pos) (tE E (fC (.int i))):=Go AY λ_ _=>.int i
def SC{i j pos}:PE X (.Constant (.bool i) j pos) (tE E (fC (.bl i))):=Go pe_bl λ_ _=>.bl i
def Mv{j pos}:PE X (.Constant .none j pos) (tE E (fC .non)):=Go pe_non λ_ _=>.non
def Xf{i j pos}:PE X (.Constant (.str i) j pos) (tE E (fC (.str i))):=Go Db λ_ _=>.str i
def Zf(i:Nat){x:Str}{pos:Pos}(hN:X.N[i]?=some x:=by rfl)(hv:Vis X.env.scope x:=by first|exact Or.inl rfl|exact Or.inr (Or.inl rfl)|exact Or.inr (Or.inr rfl))(hd:(x == ("__debug__":Str))=false:=by decide)(jS:(x == ("__classdict__":Str))=false:=by decide):PE X (.Name x pos) (tE E (Za i)):=HJ (pe_var hN hv hd jS)
def f1(k:Wv->Mw Wv)(fa:FE):FE:=λsl=>bnd (fa sl) k
def f2(k:Wv->Wv->Mw Wv)(fa fb:FE):FE:=λsl=>bnd (fa sl) λx=>bnd (fb sl) λy=>k x y
def Op2(E:XK)(r:R2)(k:Wv->Wv->Mw Wv):Prop:=∀{F H:Hp} {β:iA} {om:iN} {x y:Wv} {v u:V} {Q:VK},MOk F H β om->RW F β x v->RW F β y u->Res E (k x y om) F H β (PV Q)->r v u H Q
def Op1(E:XK)(r:V->Hp->VK->Prop)(k:Wv->Mw Wv):Prop:=∀{F H:Hp} {β:iA} {om:iN} {x:Wv} {v:V} {Q:VK},MOk F H β om->RW F β x v->Res E (k x om) F H β (PV Q)->r v H Q
def NL{r:R2}{k:Wv->Wv->Mw Wv}(hk:Op2 E r k){σ:St}{H:Hp}{Q:VK}(h:tE E (f2 k fa fb) σ H Q):tOp r (tE E fa) (tE E fb) σ H Q:=by
 obtain⟨F,β,om,sl,M,V,R⟩:=h;refine⟨F,β,om,sl,M,V,R.bind λx om1 F1 H1 io g1 M1 R1 v rv=>?_⟩;refine⟨F1,io,om1,sl,M1,V.mono g1.toGr,R1.bind λy om2 F2 H2 ja g2 M2 R2 u ru=>?_⟩;exact hk M2 (rv.mono g2.toGr) ru R2
def Fr{r:V->Hp->VK->Prop}{k:Wv->Mw Wv}(hk:Op1 E r k){σ:St}{H:Hp}{Q:VK}(h:tE E (f1 k fa) σ H Q):tE E fa σ H λx H1=>r x H1 Q:=by
 obtain⟨F,β,om,sl,M,V,R⟩:=h;exact⟨F,β,om,sl,M,V,R.bind λx om1 F1 H1 io g1 M1 R1 v rv=>hk M1 rv R1⟩
def LS{op:Operator}{r:R2}{k:Wv->Wv->Mw Wv}(ho:OpR X (binaryOp op) r)(hk:Op2 E r k)(ha:PE X a (tE E fa))(hb:PE X b (tE E fb)):PE X (.BinOp a op b pos) (tE E (f2 k fa fb)):=(Fp ho ha hb).weak λ_ _ _ h=>NL hk h
def qe_un{op:UnaryOp}{r:V->Hp->VK->Prop}{k:Wv->Mw Wv}(ho:UnR X (unaryOp op) r)(hk:Op1 E r k)(ha:PE X a (tE E fa)):PE X (.UnaryOp op a pos) (tE E (f1 k fa)):=(pe_un ho ha).weak λ_ _ _ h=>Fr hk h
def NG{op:CmpOp}{r:R2}{k:Wv->Wv->Mw Wv}(ho:OpR X (compareOp op) r)(hk:Op2 E r k)(ha:PE X a (tE E fa))(hb:PE X b (tE E fb))(hm:behindInMarks op b=false):PE X (.Compare a [op] [b] pos) (tE E (f2 k fa fb)):=(CY ho ha hb hm).weak λ_ _ _ h=>NL hk h
def kI(g:Int->Int->Wv):Wv->Wv->Mw Wv
 |.int i,.int j=>ret (g i j)
 |_,_=>Wg
def kIc(c:Int->Int->Bool)(g:Int->Int->Wv):Wv->Wv->Mw Wv
 |.int i,.int j=>if c i j=true then ret (g i j) else Wg
 |_,_=>Wg
def Sj{g:Int->Int->V}{g':Int->Int->Wv}(hg:∀F β i j,RW F β (g' i j) (g i j)):Op2 E (rI0 g) (kI g'):=by
 intro F H β om x y v u Q M rx ry R;cases rx <;> first|exact R.elim|skip
 cases ry <;> first|exact R.elim|skip
 exact⟨_,_,rfl,rfl,R.now M _ (hg ..)⟩
def Ed{C:Int->Int->Prop}{c:Int->Int->Bool}{g:Int->Int->V}{g':Int->Int->Wv}(hc:∀i j,c i j=true->C i j)(hg:∀F β i j,RW F β (g' i j) (g i j)):Op2 E (rI C g) (kIc c g'):=by
 intro F H β om x y v u Q M rx ry R;cases rx <;> first|exact R.elim|skip
 cases ry <;> first|exact R.elim|skip
 rename_i i j
 have R:Res E ((if c i j=true then ret (g' i j) else Wg) om) F H β (PV Q):=R;by_cases h:c i j=true
 ·rw[aC h]at R
  exact⟨_,_,rfl,rfl,hc _ _ h,R.now M _ (hg ..)⟩
 ·rw[aE h]at R
  exact R.elim
abbrev Wz:=kI λi j=>.int (i+j)
abbrev Xc:=kI λi j=>.int (i-j)
abbrev Tx:=kIc (λ_ j=>decide (0<j∧j<1073741824)) λi j=>.int (i / j)
abbrev Y9:=kIc (λ_ j=>decide (0<j)) λi j=>.int (i % j)
abbrev kLt:=kI λi j=>.bl (decide (i<j))
abbrev kGt:=kI λi j=>.bl (decide (j<i))
abbrev kGe:=kI λi j=>.bl (decide (j<=i))
def Xy(ha:PE X a (tE E fa))(hb:PE X b (tE E fb)):PE X (.BinOp a .Add b pos) (tE E (f2 Wz fa fb)):=LS op_add (Sj λ_ _ _ _=>.int _) ha hb
def YN(ha:PE X a (tE E fa))(hb:PE X b (tE E fb)):PE X (.BinOp a .Sub b pos) (tE E (f2 Xc fa fb)):=LS op_sub (Sj λ_ _ _ _=>.int _) ha hb
def Uh(ha:PE X a (tE E fa))(hb:PE X b (tE E fb)):PE X (.BinOp a .FloorDiv b pos) (tE E (f2 Tx fa fb)):=LS Cj (Ed (λi j h=>bG h) λ_ _ _ _=>.int _) ha hb
def Y7(ha:PE X a (tE E fa))(hb:PE X b (tE E fb)):PE X (.BinOp a .Mod b pos) (tE E (f2 Y9 fa fb)):=LS op_mod (Ed (λi j h=>bG h) λ_ _ _ _=>.int _) ha hb
def Ar(ha:PE X a (tE E fa))(hb:PE X b (tE E fb)):PE X (.Compare a [.Gt] [b] pos) (tE E (f2 kGt fa fb)):=NG BX (Sj λ_ _ _ _=>.bl _) ha hb (Um _)
def qe_ge(ha:PE X a (tE E fa))(hb:PE X b (tE E fb)):PE X (.Compare a [.GtE] [b] pos) (tE E (f2 kGe fa fb)):=NG Aj (Sj λ_ _ _ _=>.bl _) ha hb (Um _)
def QH:Wv->Mw Wv
 |.int i=>ret (.int (-i))
 |_=>Wg
def NS(ha:PE X a (tE E fa)):PE X (.UnaryOp .USub a pos) (tE E (f1 QH fa)):=qe_un un_neg (by
 intro F H β om x v Q M rx R;cases rx <;> first|exact R.elim|skip
 exact⟨_,rfl,R.now M _ (.int _)⟩) ha
end
mutual
def Vh(om:iN):Wv->Option PyData
 |.non=>some .none
 |.bl b=>some (.bool b)
 |.int i=>some (.int i)
 |.str x=>some (.str x)
 |.lst ws=>(pysOf om ws).map .list
 |.tup ws=>(pysOf om ws).map .tuple
 |.o _=>none
 |.g _=>none
def pysOf(om:iN):iJ->Option (List PyData)
 |[]=>some []
 |w::r=>match Vh om w,pysOf om r with
  |some d,some ds=>some (d::ds)
  |_,_=>none
end
def XJ(om:iN):Wv->Option PyData
 |.o h=>match om[h]? with
  |some (.lst ws)=>(pysOf om ws).map .list
  |_=>none
 |w=>Vh om w
section
variable{X:Cx}{gV:hV}{σ:St}{F H:Hp}{s:Shared}{β:iA}{om:iN}
mutual
def RW.reads(I:Inv X gV σ H s)(sub:Same F H):∀{w:Wv} {v:V} {d:PyData} {u:Value},RW F β w v->Vh om w=some d->RelV v u->∃as,Reads s.heap u d as
 |_,_,_,_,.non,e,r=>by unfold Vh at e;cases e;cases r;exact⟨_,.none⟩
 |_,_,_,_,.bl b,e,r=>by unfold Vh at e;cases e;cases r;exact⟨_,.bool b⟩
 |_,_,_,_,.int i,e,r=>by unfold Vh at e;cases e;obtain⟨t,rfl⟩:=r;exact⟨_,.int i t⟩
 |_,_,_,_,.str x,e,r=>by unfold Vh at e;cases e;obtain⟨t,rfl⟩:=r;exact⟨_,.str x t⟩
 |_,_,_,_,.lst (a:=a) (ws:=ws) q rs,e,r=>by
  unfold Vh at e;cases r
  match hp:pysOf om ws,e with
  |some ds,e=>
   cases e;obtain⟨_,ik,n,rv,eo⟩:=(Rd.same sub q).ok I.hok;obtain⟨as,ra⟩:=RWs.reads I sub rs hp rv;exact⟨_,.list eo rfl rfl (by simpa using ra)⟩
 |_,_,_,_,.tup (a:=a) (ws:=ws) q rs,e,r=>by
  unfold Vh at e;cases r
  match hp:pysOf om ws,e with
  |some ds,e=>
   cases e;obtain⟨_,ik,rv,o,eo,ec,n,ed⟩:=I.hok a _ (sub _ _ q);obtain⟨as,ra⟩:=RWs.reads I sub rs hp rv;exact⟨_,.tuple eo ec ed (by simpa using ra)⟩
 |_,_,_,_,.o _,e,r=>by unfold Vh at e;cases e
 |_,_,_,_,.g _,e,r=>by unfold Vh at e;cases e
def RWs.reads(I:Inv X gV σ H s)(sub:Same F H):∀{ws:iJ} {vs:iI} {ds:List PyData} {us:iB},RWs F β ws vs->pysOf om ws=some ds->Vals vs us->∃as,ReadsAll s.heap us ds as
 |_,_,_,_,.nil,e,r=>by unfold pysOf at e;cases e;cases r;exact⟨_,.nil⟩
 |_,_,_,_,.cons (w:=w) (ws:=ws) h q,e,r=>by
  unfold pysOf at e;cases r with
  |cons r1 r2=>
   match h1:Vh om w,h2:pysOf om ws,e with
   |some d,some ds,e=>
    cases e;obtain⟨as,ra⟩:=RW.reads I sub h h1 r1;obtain⟨bs,rb⟩:=RWs.reads I sub q h2 r2;exact⟨_,.cons ra rb⟩
end
def RW.readsTop(I:Inv X gV σ H s)(M:MOk F H β om){w:Wv}{v:V}{d:PyData}{u:Value}(je:RW F β w v)(e:XJ om w=some d)(r:RelV v u):∃as,Reads s.heap u d as:=by
 match w,e with
 |.non,e=>exact je.reads (om:=om) I M.sub e r
 |.bl _,e=>exact je.reads (om:=om) I M.sub e r
 |.int _,e=>exact je.reads (om:=om) I M.sub e r
 |.str _,e=>exact je.reads (om:=om) I M.sub e r
 |.lst _,e=>exact je.reads (om:=om) I M.sub e r
 |.tup _,e=>exact je.reads (om:=om) I M.sub e r
 |.g _,e=>exact je.reads (om:=om) I M.sub e r
 |.o h,e=>
  unfold XJ at e;dsimp only at e;split at e
  ·rename_i ws hw
   cases je with
   |o eb=>
    obtain⟨a,ea,_,xs,hx,rs⟩:=M.at hw;rw[eb]at ea;cases ea;cases r
    match hp:pysOf om ws,e with
    |some ds,e=>
     cases e;obtain⟨_,ik,n,rv,eo⟩:=I.hok _ _ hx;obtain⟨as,ra⟩:=RWs.reads I M.sub rs hp rv;exact⟨_,.list eo rfl rfl (by simpa using ra)⟩
  ·cases e
end
def Vj(d:PyData):Bool:=d.canLay0&&decide (d.depth<=60)
def WJ(neg:Bool)(x y:Wv):Mw Wv:=λom=>match XJ om x,XJ om y with
 |some d,some e=>if (Vj d&&Vj e)=true then some (.ok (.bl (if neg then !PyData.eqv d e else PyData.eqv d e)),om) else none
 |_,_=>none
abbrev kEq:=WJ false
abbrev kNe:=WJ true
def rEqS(E:XK)(neg:Bool):R2:=λv u H Q=>∃F β om x y,MOk F H β om∧RW F β x v∧RW F β y u∧Res E (WJ neg x y om) F H β (PV Q)
section
variable{X:Cx}{E:XK}{a b:Expr}{fa fb:FE}{pos:Pos}
def EV(hu:X.A.units+64<cLine):OpR X (compareOp .Eq) (rEqS E false):=by
 intro gV s σ H v u v' u' Q I rv ru h;obtain⟨F,β,om,x,y,M,rx,ry,R⟩:=h;unfold WJ at R
 match h1:XJ om x,h2:XJ om y,R with
 |some d,some e,R=>
  dsimp only at R;by_cases hl:(Vj d&&Vj e)=true
  ·rw[aC hl]at R
   obtain⟨l1,l2⟩:=bQ.mp hl;obtain⟨c1,d1⟩:=bQ.mp l1;obtain⟨c2,d2⟩:=bQ.mp l2;obtain⟨as,ra⟩:=rx.readsTop I M h1 rv;obtain⟨bs,rb⟩:=ry.readsTop I M h2 ru;have:=bG d1;have:=bG d2;exact SeqAt.rcAt_reads ra rb c1 c2 (by omega) _ _ _ _ ⟨.bl _,H,I,rfl,R F H β (Gx.refl _ _ _) M _ (.bl _)⟩
  ·rw[aE hl]at R;exact R.elim
def F8(hu:X.A.units+64<cLine):OpR X (compareOp .NotEq) (rEqS E true):=by
 intro gV s σ H v u v' u' Q I rv ru h;obtain⟨F,β,om,x,y,M,rx,ry,R⟩:=h;unfold WJ at R
 match h1:XJ om x,h2:XJ om y,R with
 |some d,some e,R=>
  dsimp only at R;by_cases hl:(Vj d&&Vj e)=true
  ·rw[aC hl]at R
   obtain⟨l1,l2⟩:=bQ.mp hl;obtain⟨c1,d1⟩:=bQ.mp l1;obtain⟨c2,d2⟩:=bQ.mp l2;obtain⟨as,ra⟩:=rx.readsTop I M h1 rv;obtain⟨bs,rb⟩:=ry.readsTop I M h2 ru;have:=bG d1;have:=bG d2;exact SeqAt.compareNe_reads ra rb c1 c2 (by omega) ⟨.bl _,H,I,rfl,R F H β (Gx.refl _ _ _) M _ (.bl _)⟩
  ·rw[aE hl]at R;exact R.elim
def SO(hu:X.A.units+64<cLine)(ha:PE X a (tE E fa))(hb:PE X b (tE E fb)):PE X (.Compare a [.Eq] [b] pos) (tE E (f2 kEq fa fb)):=NG (EV (E:=E) hu) (λM rx ry R=>⟨_,_,_,_,_,M,rx,ry,R⟩) ha hb (Um _)
def Ft(hu:X.A.units+64<cLine)(ha:PE X a (tE E fa))(hb:PE X b (tE E fb)):PE X (.Compare a [.NotEq] [b] pos) (tE E (f2 kNe fa fb)):=NG (F8 (E:=E) hu) (λM rx ry R=>⟨_,_,_,_,_,M,rx,ry,R⟩) ha hb (Um _)
end
end L2
namespace L2
noncomputable section
open PySem PySem.Spec PyProof.Rows
def kB:Wv->Mw Bool
 |.bl b=>ret b
 |_=>Wg
def fB(f:FE):FT:=λsl=>bnd (f sl) kB
def UG(f g:FT):FT:=λsl=>bnd (f sl) λb=>if b=true then g sl else ret false
def fOr(f g:FT):FT:=λsl=>bnd (f sl) λb=>if b=true then ret true else g sl
def Lw(f:FT):FT:=λsl=>bnd (f sl) λb=>ret (!b)
def V7(f g:FE):FE:=λsl=>bnd (f sl) λx=>bnd (kB x) λb=>if b=true then g sl else ret (.bl false)
def EI(c:FT)(f g:FE):FE:=λsl=>bnd (c sl) λb=>if b=true then f sl else g sl
def isNon:Wv->Bool
 |.non=>true
 |_=>false
def Uc(x:Wv):Mw Wv:=ret (.bl (isNon x))
def Wh(x:Wv):Mw Wv:=ret (.bl (!isNon x))
def AG(x:Wv):Mw Wv:=bnd (kB x) λb=>ret (.bl (!b))
def RW.isNon{F:Hp}{β:iA}{w:Wv}{v:V}(r:RW F β w v):decide (v=.non)=L2.isNon w:=by
 cases r <;> first|rfl|(refine aL ?_;intro z;cases z)
section
variable{X:Cx}{E:XK}{e a b c:Expr}{rest:iF}{f fa fb fc:FE}{g ga gb:FT}{pos:Pos}
def Res.kB{P:Bool->Hp->Hp->List Addr->Prop}{x:Wv}{v:V}{F H:Hp}{β:iA}{om:iN}(rv:RW F β x v)(M:MOk F H β om)(R:Res E (L2.kB x om) F H β P):∃b,x=.bl b∧v=.bl b∧P b F H β:=by
 cases rv <;> first|exact R.elim|skip
 exact⟨_,rfl,rfl,R.now M⟩
def Fs{σ:St}{H:Hp}{Q:Bool->Hp->Prop}(h:tT E (fB f) σ H Q):tE E f σ H λx H'=>∃c,x=.bl c∧Q c H':=by
 obtain⟨F,β,om,sl,M,V,R⟩:=h;refine⟨F,β,om,sl,M,V,R.bind λx om1 F1 H1 io g1 M1 R1 v rv=>?_⟩;obtain⟨b,rfl,rfl,q⟩:=R1.kB rv M1;exact⟨b,rfl,q⟩
def So{op:CmpOp}{r:R2}{k:Wv->Wv->Mw Wv}(ho:OpR X (compareOp op) r)(hk:Op2 E r k)(ha:PE X a (tE E fa))(hb:PE X b (tE E fb))(hm:behindInMarks op b=false):PT X (.Compare a [op] [b] pos) (tT E (fB (f2 k fa fb))):=
 (Ce ho ha hb hm).weak λ_ _ _ h=>NL hk (Fs h)
def IA(ha:PE X a (tE E fa))(hb:PE X b (tE E fb)):PT X (.Compare a [.Lt] [b] pos) (tT E (fB (f2 kLt fa fb))):=So op_lt (Sj λ_ _ _ _=>.bl _) ha hb (Um _)
def AJ(ha:PE X a (tE E fa))(hb:PE X b (tE E fb)):PT X (.Compare a [.Gt] [b] pos) (tT E (fB (f2 kGt fa fb))):=So BX (Sj λ_ _ _ _=>.bl _) ha hb (Um _)
def qt_ge(ha:PE X a (tE E fa))(hb:PE X b (tE E fb)):PT X (.Compare a [.GtE] [b] pos) (tT E (fB (f2 kGe fa fb))):=So Aj (Sj λ_ _ _ _=>.bl _) ha hb (Um _)
def XS(hu:X.A.units+64<cLine)(ha:PE X a (tE E fa))(hb:PE X b (tE E fb)):PT X (.Compare a [.Eq] [b] pos) (tT E (fB (f2 kEq fa fb))):=So (EV (E:=E) hu) (λM rx ry R=>⟨_,_,_,_,_,M,rx,ry,R⟩) ha hb (Um _)
def U5(hu:X.A.units+64<cLine)(ha:PE X a (tE E fa))(hb:PE X b (tE E fb)):PT X (.Compare a [.NotEq] [b] pos) (tT E (fB (f2 kNe fa fb))):=So (F8 (E:=E) hu) (λM rx ry R=>⟨_,_,_,_,_,M,rx,ry,R⟩) ha hb (Um _)
def Io:Op1 E (λx H1 Q=>Q (.bl (decide (x=.non))) H1) Uc:=λM rx R=>by show(_:VK) (.bl (decide _)) _;rw[rx.isNon];exact R.now M _ (.bl _)
def Eu:Op1 E (λx H1 Q=>Q (.bl (!decide (x=.non))) H1) Wh:=λM rx R=>by show(_:VK) (.bl (!decide _)) _;rw[rx.isNon];exact R.now M _ (.bl _)
def qe_isN{j iV}(ha:PE X a (tE E fa)):PE X (.Compare a [.Is] [.Constant .none j iV] pos) (tE E (f1 Uc fa)):=(EH (Eh ha)).weak λ_ _ _ h=>Fr Io h
def Rz{j iV}(ha:PE X a (tE E fa)):PT X (.Compare a [.Is] [.Constant .none j iV] pos) (tT E (fB (f1 Uc fa))):=(Mn (Eh ha)).weak λ_ _ _ h=>Fr Io (Fs h)
def Ul{j iV}(ha:PE X a (tE E fa)):PT X (.Compare a [.IsNot] [.Constant .none j iV] pos) (tT E (fB (f1 Wh fa))):=(Mn (DW ha)).weak λ_ _ _ h=>Fr Eu (Fs h)
def tT_and{σ:St}{H:Hp}{Q:Bool->Hp->Prop}(h:tT E (UG ga gb) σ H Q):tAnd (tT E ga) (tT E gb) σ H Q:=by
 obtain⟨F,β,om,sl,M,V,R⟩:=h;refine⟨F,β,om,sl,M,V,R.bind λx om1 F1 H1 io g1 M1 R1=>?_⟩;cases x with
 |true=>rw[aC rfl]at R1 ⊢;exact⟨F1,io,om1,sl,M1,V.mono g1.toGr,R1⟩
 |false=>rw[aE aJ]at R1 ⊢;exact R1.now M1
def tT_or{σ:St}{H:Hp}{Q:Bool->Hp->Prop}(h:tT E (fOr ga gb) σ H Q):tOr (tT E ga) (tT E gb) σ H Q:=by
 obtain⟨F,β,om,sl,M,V,R⟩:=h;refine⟨F,β,om,sl,M,V,R.bind λx om1 F1 H1 io g1 M1 R1=>?_⟩;cases x with
 |true=>rw[aC rfl]at R1 ⊢;exact R1.now M1
 |false=>rw[aE aJ]at R1 ⊢;exact⟨F1,io,om1,sl,M1,V.mono g1.toGr,R1⟩
def Vr(ha:PT X a (tT E ga)):PW X (.BoolOp .And [a] pos) (tT E ga):=Ch ha
def MI(ha:PT X a (tT E ga)):PW X (.BoolOp .Or [a] pos) (tT E ga):=A9 ha
def Uq(ha:PT X a (tT E ga))(hb:PW X (.BoolOp .And (b::rest) pos) (tT E gb)):PW X (.BoolOp .And (a::b::rest) pos) (tT E (UG ga gb)):=(pw_and ha hb).weak λ_ _ _ h=>tT_and h
def IV(ha:PT X a (tT E ga))(hb:PW X (.BoolOp .Or (b::rest) pos) (tT E gb)):PW X (.BoolOp .Or (a::b::rest) pos) (tT E (fOr ga gb)):=(pw_or ha hb).weak λ_ _ _ h=>tT_or h
def Jt(ha:PT X a (tT E ga)):PT X (.UnaryOp .Not a pos) (tT E (Lw ga)):=(AW ha).weak λσ H Q ⟨F,β,om,sl,M,V,R⟩=>⟨F,β,om,sl,M,V,R.bind λx om1 F1 H1 io g1 M1 R1=>R1.now M1⟩
def Mf{op}(h:PE X a (tE E f)):PE X (.BoolOp op [a] pos) (tE E f):=pe_one h
def Ry(ha:PE X a (tE E fa))(hb:PE X (.BoolOp .And (b::rest) pos) (tE E fb)):PE X (.BoolOp .And (a::b::rest) pos) (tE E (V7 fa fb)):=(pe_and ha hb).weak λσ H Q ⟨F,β,om,sl,M,V,R⟩=>by
 refine⟨F,β,om,sl,M,V,R.bind λx om1 F1 H1 io g1 M1 R1 v rv=>?_⟩
 have R2:Res E (L2.kB x om1) F1 H1 io λy F' H' iq=>(if y=true then tE E fb σ H' Q else Q (.bl false) H'):=R1.bind λy om2 F2 H2 ja g2 M2 R2=>by
  cases y with
  |true=>rw[aC rfl]at R2 ⊢;exact⟨F2,ja,om2,sl,M2,V.mono (g1.trans g2).toGr,R2⟩
  |false=>rw[aE aJ]at R2 ⊢;exact R2.now M2 _ (.bl _)
 obtain⟨c,rfl,rfl,q⟩:=R2.kB rv M1;exact⟨c,rfl,q⟩
def AU(ha:PE X a (tE E fa)):PE X (.UnaryOp .Not a pos) (tE E (f1 AG fa)):=(A4 ha).weak λσ H Q ⟨F,β,om,sl,M,V,R⟩=>by
 refine⟨F,β,om,sl,M,V,R.bind λx om1 F1 H1 io g1 M1 R1 v rv=>?_⟩;have R2:Res E (L2.kB x om1) F1 H1 io λy F' H' iq=>Q (.bl (!y)) H':=R1.bind λy om2 F2 H2 ja g2 M2 R2=>R2.now M2 _ (.bl _)
 obtain⟨c,rfl,rfl,q⟩:=R2.kB rv M1;exact⟨c,rfl,q⟩
def Dq(hc:PT X c (tT E ga))(ha:PE X a (tE E fa))(hb:PE X b (tE E fb)):PE X (.IfExp c a b pos) (tE E (EI ga fa fb)):=(Ep hc ha hb).weak λσ H Q ⟨F,β,om,sl,M,V,R⟩=>by
 refine⟨F,β,om,sl,M,V,R.bind λy om2 F2 H2 ja g2 M2 R2=>?_⟩;cases y with
 |false=>rw[aE aJ]at R2 ⊢;exact⟨F2,ja,om2,sl,M2,V.mono g2.toGr,R2⟩
 |true=>rw[aC rfl]at R2 ⊢;exact⟨F2,ja,om2,sl,M2,V.mono g2.toGr,R2⟩
end
def YI(om:iN):Wv->Option (iJ)
 |.lst ws=>some ws
 |.tup ws=>some ws
 |.o h=>match om[h]? with
  |some (.lst ws)=>some ws
  |_=>none
 |_=>none
noncomputable def limS:{n:Nat // n=100000}:=Classical.choice ⟨⟨100000,rfl⟩⟩
noncomputable def lim:Nat:=limS.1
def ZQ:lim=100000:=limS.2
def UB:lim<sizeLine:=by rw[ZQ];decide
def Tm{X:Cx}{F H:Hp}{β:iA}{om:iN}{w:Wv}{v:V}{ws:iJ}(M:MOk F H β om)(r:RW F β w v)(e:YI om w=some ws):∃a xs,v=.ref a∧(SqL X.K H a xs∨SqT X.K H a xs)∧RWs F β ws xs:=by
 cases r with
 |lst q rs=>unfold YI at e;cases e;exact⟨_,_,rfl,.inl (.inl (Rd.same M.sub q)),rs⟩
 |tup q rs=>unfold YI at e;cases e;exact⟨_,_,rfl,.inr (SqT.of (M.sub _ _ q)),rs⟩
 |o eb=>
  rename_i h a
  have e:(match om[h]? with|some (.lst ws)=>some ws|_=>none)=some ws:=e
  match hx:om[h]?,e with
  |none,e=>exact nomatch e
  |some (.ins _ _),e=>exact nomatch e
  |some (.exc _),e=>exact nomatch e
  |some (.dz _),e=>exact nomatch e
  |some (.dk _),e=>exact nomatch e
  |some (.dt _),e=>exact nomatch e
  |some (.lst us),e=>
   have e:some us=some ws:=e;cases e;obtain⟨a',ea,_,xs,kt,rs⟩:=M.at hx;rw[eb]at ea;cases ea;exact⟨_,_,rfl,.inl (SqL.of kt),rs⟩
 |_=>unfold YI at e;cases e
def RWs.atI{F:Hp}{β:iA}{ws:iJ}{vs:iI}{i:Int}{w:Wv}(r:RWs F β ws vs)(e:L2.atI ws i=some w):∃v,L2.atI vs i=some v∧RW F β w v:=by
 unfold L2.atI at e ⊢;rw[← r.length]
 match hx:ixN ws.length i,e with
 |some j,e=>exact r.get e
def kIx(x i:Wv):Mw Wv:=λom=>match YI om x,i with
 |some ws,.int k=>match atI ws k with
  |some w=>some (.ok w,om)
  |none=>none
 |_,_=>none
section
variable{X:Cx}{E:XK}{e a b c:Expr}{es:iF}{f fa fb fc:FE}{fs:FA}{pos:Pos}
def Ez:Op2 E (rIx X.K) kIx:=by
 intro F H β om x y v u Q M rx ry R;unfold kIx at R
 match hx:YI om x,y,ry,R with
 |none,_,_,R=>exact R.elim
 |some ws,.int i,.int _,R=>
  have R:Res E (match L2.atI ws i with|some w=>some (Except.ok w,om)|none=>none) F H β (PV Q):=R
  match ha:L2.atI ws i,R with
  |none,R=>exact R.elim
  |some w,R=>
   have R:Res E (ret w om) F H β (PV Q):=R;obtain⟨p,xs,rfl,hs,rs⟩:=Tm (X:=X) M rx hx;obtain⟨z,ez,rz⟩:=rs.atI ha;have q:=R.now M z rz;rcases hs with hs|hs
   ·exact .inl ⟨p,xs,i,z,rfl,rfl,hs,ez,q⟩
   ·exact .inr (.inl ⟨p,xs,i,z,rfl,rfl,hs,ez,q⟩)
def ZG(ha:PE X a (tE E fa))(hb:PE X b (tE E fb))(hs:MW b:=by intro _ _;rfl):PE X (.Subscript a b pos) (tE E (f2 kIx fa fb)):=(BZ F6 ha hb hs).weak λ_ _ _ h=>NL Ez h
def Zj:FA:=λ_=>ret []
def Zc(f:FE)(r:FA):FA:=λsl=>bnd (f sl) λx=>bnd (r sl) λxs=>ret (x::xs)
def Zk:PA X [] (tA E Zj):=VO.weak λσ H Q ⟨F,β,om,sl,M,V,R⟩=>R.now M _ .nil
def Zd(ha:PE X e (tE E f))(hr:PA X es (tA E fs))(hs:starEach (e::es) X.env=(false,eval e X.env)::starEach es X.env:=by rfl):PA X (e::es) (tA E (Zc f fs)):=(XW ha hr hs).weak λσ H Q ⟨F,β,om,sl,M,V,R⟩=>by
 refine⟨F,β,om,sl,M,V,R.bind λx om1 F1 H1 io g1 M1 R1 v rv=>?_⟩;exact⟨F1,io,om1,sl,M1,V.mono g1.toGr,R1.bind λxs om2 F2 H2 ja g2 M2 R2 vs nQ=>R2.now M2 _ (.cons (rv.mono g2.toGr) nQ)⟩
def Y6(ws:iJ):Mw Wv:=if ws.length<=lim then ret (.tup ws) else Wg
def ZL(ws:iJ):Mw Wv:=if ws.length<=lim then ret (.lst ws) else Wg
def newO(x:Ob):Mw Wv:=λom=>some (.ok (.o om.length),om++[x])
def X6(ws:iJ):Mw Wv:=if ws.length<=lim then newO (.lst ws) else Wg
def fA(k:iJ->Mw Wv)(fs:FA):FE:=λsl=>bnd (fs sl) k
def Res.lay{c:Prop}[Decidable c]{m:Mw Wv}{om:iN}{F:Hp}{β:iA}{P:Wv->Hp->Hp->List Addr->Prop}(R:Res E ((if c then m else Wg) om) F H β P):c∧Res E (m om) F H β P:=by
 by_cases h:c
 ·rw[aC h]at R;exact⟨h,R⟩
 ·rw[aE h]at R;exact R.elim
def Res.newO{x:Ob}{om:iN}{F H:Hp}{β:iA}{Q:VK}{p:Addr}{o:HO}(R:Res E (L2.newO x om) F H β (PV Q))(M:MOk F H β om)(hp:H p=none)(hx:∀iq,Gr F F β iq->ObR F (upd H p o) iq p x):Q (.ref p) (upd H p o):=by
 obtain⟨g,M',e⟩:=M.newOx hp hx;exact R _ _ _ g M' _ (.o e)
def YF{x1}(h:PA X es (tA E fs)):PE X (.Tuple es x1 pos) (tE E (fA Y6 fs)):=(pe_tup h).weak λσ H Q ⟨F,β,om,sl,M,V,R⟩=>by
 refine⟨F,β,om,sl,M,V,R.bind λws om1 F1 H1 io g1 M1 R1 vs rs=>?_⟩;obtain⟨hl,R2⟩:=Res.lay R1;have hl2:=UB;refine⟨by rw[← rs.length];omega,λp hp=>?_⟩;obtain⟨g,M'⟩:=M1.newFx (o:=.tup vs) hp;exact R2 _ _ _ g M' _ (.tup ZC (rs.mono g.toGr))
def On(h:PA X es (tA E fs)):PE X (.List es pos) (tE E (fA ZL fs)):=(Jl h).weak λσ H Q ⟨F,β,om,sl,M,V,R⟩=>by
 refine⟨F,β,om,sl,M,V,R.bind λws om1 F1 H1 io g1 M1 R1 vs rs=>?_⟩;obtain⟨hl,R2⟩:=Res.lay R1;have hl2:=UB;refine⟨by rw[← rs.length];omega,λp hp=>?_⟩;obtain⟨g,M'⟩:=M1.newFx (o:=.lst vs) hp;exact R2 _ _ _ g M' _ (.lst (.inl ZC) (rs.mono g.toGr))
def I0(h:PA X es (tA E fs)):PE X (.List es pos) (tE E (fA X6 fs)):=(Jl h).weak λσ H Q ⟨F,β,om,sl,M,V,R⟩=>by
 refine⟨F,β,om,sl,M,V,R.bind λws om1 F1 H1 io g1 M1 R1 vs rs=>?_⟩;obtain⟨hl,R2⟩:=Res.lay R1;have hl2:=UB;exact⟨by rw[← rs.length];omega,λp hp=>R2.newO M1 hp λiq g=>⟨vs,ZC,rs.mono g⟩⟩
def chk(c:Bool):Mw Unit:=if c=true then ret () else Wg
def Res.chk{γ:Type}{c:Bool}{k:Unit->Mw γ}{om:iN}{F:Hp}{β:iA}{P:γ->Hp->Hp->List Addr->Prop}(R:Res E (bnd (L2.chk c) k om) F H β P):c=true∧Res E (k () om) F H β P:=by
 cases c with
 |true=>exact⟨rfl,R⟩
 |false=>exact R.elim
def Res.chk2{γ α:Type}{c:Bool}{z:α}{k:α->Mw γ}{om:iN}{F:Hp}{β:iA}{P:γ->Hp->Hp->List Addr->Prop}(R:Res E (bnd (bnd (L2.chk c) λ_=>ret z) k om) F H β P):c=true∧Res E (k z om) F H β P:=by
 cases c with
 |true=>exact⟨rfl,R⟩
 |false=>exact R.elim
def Dk(ws:iJ)(y:Wv):Mw (iJ):=match y with
 |.int k=>bnd (chk (decide (-(2 ^ 63)<=k∧k<2 ^ 63∧ws.length * k.toNat<=lim))) λ_=>ret (List.replicate k.toNat ws).flatten
 |_=>Wg
def Cq(k:iJ->Mw Wv)(fs:FA)(fb:FE):FE:=λsl=>bnd (fs sl) λws=>bnd (chk (decide (ws.length<=lim))) λ_=>bnd (fb sl) λy=>bnd (Dk ws y) k
def WT(E:XK)(k:iJ->Mw Wv):Prop:=∀{ws:iJ} {vs:iI} {om:iN} {F H:Hp} {β:iA} {Q:VK} {p:Addr},MOk F H β om->RWs F β ws vs->Res E (k ws om) F H β (PV Q)->vs.length<=lim∧(H p=none->Q (.ref p) (upd H p (.lst vs)))
def Yy:WT E ZL:=λM rs R=>by
 obtain⟨hl,R2⟩:=Res.lay R;refine⟨by rw[← rs.length];exact hl,λhp=>?_⟩;obtain⟨g,M'⟩:=M.newFx (o:=.lst _) hp;exact R2 _ _ _ g M' _ (.lst (.inl ZC) (rs.mono g.toGr))
def Ru:WT E X6:=λM rs R=>by
 obtain⟨hl,R2⟩:=Res.lay R;exact⟨by rw[← rs.length];exact hl,λhp=>R2.newO M hp λiq g=>⟨_,ZC,rs.mono g⟩⟩
def qe_rep{k:iJ->Mw Wv}(hk:WT E k)(h:PA X es (tA E fs))(hb:PE X b (tE E fb)){p2:Pos}:PE X (.BinOp (.List es p2) .Mult b pos) (tE E (Cq k fs fb)):=(Fp op_rep (Jl h) hb).weak λσ H Q ⟨F,β,om,sl,M,V,R⟩=>by
 refine⟨F,β,om,sl,M,V,R.bind λws om1 F1 H1 io g1 M1 R1 vs rs=>?_⟩;obtain⟨hl,R1⟩:=R1.chk;have hl:=bG hl;have iQ:=UB;have ip:=rs.length;refine⟨by omega,λl hl=>?_⟩;obtain⟨g2,M2⟩:=M1.newFx (o:=.lst vs) hl;refine⟨_,io,om1,sl,M2,V.mono (g1.trans g2).toGr,(Res.mono g2 R1).bind λy jt F3 H3 jA g3 M3 R3 u ru=>?_⟩;have hH3:H3 l=some (.lst vs):=M3.sub _ _ (g3.same _ _ ZC);cases ru with
 |int i=>
  obtain⟨hc,R4⟩:=Res.chk2 R3;obtain⟨h1,h2,h3⟩:=bG hc;refine⟨l,i,vs,rfl,rfl,hH3,h1,h2,by rw[← ip];omega,λp hp=>?_⟩;exact(hk M3 ((rs.mono (g2.trans g3).toGr).rep i.toNat) R4).2 hp
 |_=>exact R3.elim
end
def Ie(om:iN):Wv->Option Bool
 |.non=>some false
 |.bl b=>some b
 |.int i=>some (i != 0)
 |.lst ws=>some (!ws.isEmpty)
 |.tup ws=>some (!ws.isEmpty)
 |.o h=>match om[h]? with
  |some (.lst ws)=>some (!ws.isEmpty)
  |some (.dk kvs)=>some (!kvs.isEmpty)
  |_=>none
 |_=>none
def kTru(x:Wv):Mw Bool:=λom=>match Ie om x with
 |some b=>some (.ok b,om)
 |none=>none
def Xj(f:FE):FT:=λsl=>bnd (f sl) kTru
def RWs.isEmpty{F:Hp}{β:iA}{ws:iJ}{vs:iI}(r:RWs F β ws vs):(!ws.isEmpty)=!vs.isEmpty:=by cases r <;> rfl
def RK.isEmpty{F:Hp}{β:iA}{κ:Type}{ws:List (κ × Wv)}{vs:List (κ × V)}(r:RK F β ws vs):(!ws.isEmpty)=!vs.isEmpty:=by cases r <;> rfl
def Hy{K:g9}{F H:Hp}{β:iA}{om:iN}{w:Wv}{v:V}{b:Bool}(M:MOk F H β om)(r:RW F β w v)(e:Ie om w=some b):AZ K v H b:=by
 cases r with
 |non=>cases e;rfl
 |bl c=>cases e;rfl
 |int i=>cases e;rfl
 |str x=>cases e
 |g _=>cases e
 |lst q rs=>cases e;exact .inl ⟨_,.inl (Rd.same M.sub q),rs.isEmpty⟩
 |tup q rs=>cases e;exact .inr (.inl ⟨_,SqT.of (M.sub _ _ q),rs.isEmpty⟩)
 |o eb=>
  rename_i h a
  have e:(match om[h]? with|some (.lst ws)=>some (!ws.isEmpty)|some (.dk kvs)=>some (!kvs.isEmpty)|_=>none)=some b:=e
  match hx:om[h]?,e with
  |none,e=>exact nomatch e
  |some (.ins _ _),e=>exact nomatch e
  |some (.exc _),e=>exact nomatch e
  |some (.dz _),e=>exact nomatch e
  |some (.dt _),e=>exact nomatch e
  |some (.dk kvs),e=>
   have e:some (!kvs.isEmpty)=some b:=e;obtain⟨a',ea,_,ks,hk,rs⟩:=M.at hx;rw[eb]at ea;cases ea;cases e;exact .inr (.inr ⟨ks,hk,rs.isEmpty⟩)
  |some (.lst ws),e=>
   have e:some (!ws.isEmpty)=some b:=e;obtain⟨a',ea,_,xs,kt,rs⟩:=M.at hx;rw[eb]at ea;cases ea;cases e;exact .inl ⟨xs,SqL.of kt,rs.isEmpty⟩
section
variable{X:Cx}{E:XK}{e a b c o:Expr}{es:iF}{f fa fb fc:FE}{fs:FA}{pos p2:Pos}
def XO(ha:PE X a (tE E fa))(he:∀whole,isTrue a X.env whole=(do let v ← whole;standAt a.pos;holding [v] (truthy v)):=by intro _;rfl):PT X a (tT E (Xj fa)):=(FD ha he).weak λσ H Q ⟨F,β,om,sl,M,V,R⟩=>by
 refine⟨F,β,om,sl,M,V,R.bind λx om1 F1 H1 io g1 M1 R1 v rv=>?_⟩;unfold kTru at R1
 match hx:Ie om1 x,R1 with
 |none,R1=>exact R1.elim
 |some b,R1=>exact⟨b,Hy M1 rv hx,(show Res E (ret b om1) F1 H1 io _ from R1).now M1⟩
def SJ:Wv->Bool
 |.non|.bl _|.int _|.str _=>true
 |_=>false
def toV:Wv->V
 |.non=>.non
 |.bl b=>.bl b
 |.int i=>.int i
 |.str x=>.str x
 |_=>.non
def RW.flat{F:Hp}{β:iA}{w:Wv}{v:V}(r:RW F β w v)(h:SJ w=true):v=toV w∧TQ v=true:=by
 cases r <;> first|exact⟨rfl,rfl⟩|cases h
def RWs.flat{F:Hp}{β:iA}:∀{ws:iJ} {vs:iI},RWs F β ws vs->ws.all SJ=true->vs=ws.map toV∧vs.all TQ=true
 |_,_,.nil,_=>⟨rfl,rfl⟩
 |_,_,.cons h r,e=>by
  rw[gw,bT]at e;obtain⟨h1,h2⟩:=h.flat e.1;obtain⟨h3,h4⟩:=RWs.flat r e.2;exact⟨by rw[aU,← h1,← h3],by rw[gw,h2,h4];rfl⟩
def Lh(neg:Bool)(x y:Wv):Mw Wv:=λom=>match YI om y with
 |some ws=>if (SJ x&&ws.all SJ)=true then some (.ok (.bl (if neg then !inV (toV x) (ws.map toV) else inV (toV x) (ws.map toV))),om) else none
 |none=>none
def Fe{neg:Bool}:Op2 E (rIn X.K neg) (Lh neg):=by
 intro F H β om x y v u Q M rx ry R;unfold Lh at R
 match hy:YI om y,R with
 |none,R=>exact R.elim
 |some ws,R=>
  dsimp only at R;by_cases hc:(SJ x&&ws.all SJ)=true
  ·rw[aC hc]at R
   obtain⟨h1,h2⟩:=bQ.mp hc;obtain⟨p,xs,rfl,hs,rs⟩:=Tm (X:=X) M ry hy;obtain⟨e1,e2⟩:=rx.flat h1;obtain⟨e3,e4⟩:=rs.flat h2;refine⟨p,xs,rfl,hs,e2,e4,?_⟩;rw[e1,e3];exact(show Res E (ret (Wv.bl _) om) F H β (PV Q) from R).now M _ (.bl _)
  ·rw[aE hc]at R;exact R.elim
def qt_in(ha:PE X a (tE E fa))(hb:PE X b (tE E fb))(hm:behindInMarks .In b=false:=by with_unfolding_all rfl):PT X (.Compare a [.In] [b] pos) (tT E (fB (f2 (Lh false) fa fb))):=So Gi (Fe (X:=X)) ha hb hm
def qt_nin(ha:PE X a (tE E fa))(hb:PE X b (tE E fb))(hm:behindInMarks .NotIn b=false:=by with_unfolding_all rfl):PT X (.Compare a [.NotIn] [b] pos) (tT E (fB (f2 (Lh true) fa fb))):=So MQ (Fe (X:=X)) ha hb hm
def RK.lookup{F:Hp}{β:iA}{k:Str}:∀{ps:iK} {qs:List (Str × V)},RK F β ps qs->match ps.lookup k with|some w=>∃v,qs.lookup k=some v∧RW F β w v|none=>qs.lookup k=none
 |_,_,.nil=>rfl
 |_,_,.cons (k:=k') h r=>by
  rw[aN,aN];cases (k == k') with
  |true=>exact⟨_,rfl,h⟩
  |false=>exact RK.lookup r
def RK.length{F:Hp}{β:iA}{κ:Type}:∀{ps:List (κ × Wv)} {qs:List (κ × V)},RK F β ps qs->ps.length=qs.length
 |_,_,.nil=>rfl
 |_,_,.cons _ r=>by rw[bI,bI,RK.length r]
def TY(om:iN):Wv->Option (Addr × iK)
 |.o h=>match om[h]? with
  |some (.ins C fs)=>some (C,fs)
  |_=>none
 |_=>none
def O3{F H:Hp}{β:iA}{om:iN}{w:Wv}{v:V}{C:Addr}{fs:iK}(M:MOk F H β om)(r:RW F β w v)(e:TY om w=some (C,fs)):∃h a dx jj,w=.o h∧om[h]?=some (.ins C fs)∧β[h]?=some a∧v=.ref a∧H a=some (.ins C dx jj)∧RK F β fs jj:=by
 cases r with
 |o eb=>
  rename_i h a
  have e:(match om[h]? with|some (.ins C fs)=>some (C,fs)|_=>none)=some (C,fs):=e
  match hx:om[h]?,e with
  |none,e=>exact nomatch e
  |some (.lst _),e=>exact nomatch e
  |some (.exc _),e=>exact nomatch e
  |some (.dz _),e=>exact nomatch e
  |some (.dt _),e=>exact nomatch e
  |some (.dk kvs),e=>exact nomatch e
  |some (.ins C' jj),e=>
   have e:some (C',jj)=some (C,fs):=e;cases e;obtain⟨a',ea,_,dx,nR,kt,rs⟩:=M.at hx;have ea2:=ea;rw[eb]at ea;cases ea;exact⟨h,_,dx,nR,rfl,hx,ea2,rfl,kt,rs⟩
 |_=>exact nomatch e
def ZR(C:Addr)(n:Str)(x:Wv):Mw Wv:=λom=>match TY om x with
 |some (C',fs)=>if C'=C then (match fs.lookup n with|some w=>some (.ok w,om)|none=>none) else none
 |none=>none
def qe_fld{C:Addr}{n:Str}(cl:Cls X.K C)(na:NoAttr X.K C n)(he:PE X e (tE E f))(hb:attributeBase e n X.env (eval e X.env)=eval e X.env:=by rfl):PE X (.Attribute e n pos) (tE E (f1 (ZR C n) f)):=(pe_fld he hb).weak λσ H Q h=>by
 refine Fr (r:=λx H1 Q=>∃a C dx fs v,x=.ref a∧H1 a=some (.ins C dx fs)∧Cls X.K C∧NoAttr X.K C n∧fs.lookup n=some v∧Q v H1) ?_ h;intro F H β om x v Q M rx R;unfold ZR at R
 match hx:TY om x,R with
 |none,R=>exact R.elim
 |some (C',fs),R=>
  dsimp only at R;by_cases hc:C'=C
  ·have R1:Res E (match fs.lookup n with|some w=>some (Except.ok w,om)|none=>none) F H β (PV Q):=by
    have:=R;rw[aC hc]at this;exact this
   clear R;subst hc;obtain⟨h,a,dx,jj,_,_,_,rfl,ha,rs⟩:=O3 M rx hx;have lk:=rs.lookup (k:=n)
   match hl:fs.lookup n,R1,lk with
   |none,R,_=>exact R.elim
   |some w,R,⟨v,ev,rv⟩=>exact⟨a,C',dx,jj,v,rfl,ha,cl,na,ev,(show Res E (ret w om) F H β (PV Q) from R).now M v rv⟩
  ·rw[aE hc]at R;exact R.elim
def UM(E:XK)(r:iI->Hp->VK->Prop)(k:iJ->Mw Wv):Prop:=∀{F H:Hp} {β:iA} {om:iN} {ws:iJ} {vs:iI} {Q:VK},MOk F H β om->RWs F β ws vs->Res E (k ws om) F H β (PV Q)->r vs H Q
def tA_K{r:iI->Hp->VK->Prop}{k:iJ->Mw Wv}(hk:UM E r k){σ:St}{H:Hp}{Q:VK}(h:tE E (fA k fs) σ H Q):tCB r (tA E fs) σ H Q:=by
 obtain⟨F,β,om,sl,M,V,R⟩:=h;exact⟨F,β,om,sl,M,V,R.bind λws om1 F1 H1 io g1 M1 R1 vs rs=>hk M1 rs R1⟩
def Vo{id:String}{x:Str}{p:Pos}{r:iI->Hp->VK->Prop}{k:iJ->Mw Wv}(hc:CallR X (.builtin id) r)(hk:UM E r k)(hg:Gl X x)(hm:X.mg x=none)(hv:bootBuiltins x=some (.builtin id))(ha:PA X (e::es) (tA E fs))(hn:x≠"__name__":=by decide)(jo:(x == ("__debug__":Str))=false:=by decide)(he:starEach (e::es) X.env=(false,eval e X.env)::starEach es X.env:=by rfl) (iR:(backTo pos (starEach es X.env)).any (·.1)=false:=by rfl):PE X (.Call (.Name x p) (e::es) [] pos) (tE E (fA k fs)):=(Oe hc hg hm hv ha hn jo he iR).weak λ_ _ _ h=>tA_K hk h
def Hu{T:String}{x:Str}{p:Pos}{r:iI->Hp->VK->Prop}{k:iJ->Mw Wv}(hc:CallR X (.type T) r)(hk:UM E r k)(hg:Gl X x)(hm:X.mg x=none)(hv:bootBuiltins x=some (.type T))(ha:PA X (e::es) (tA E fs))(hn:x≠"__name__":=by decide)(jo:(x == ("__debug__":Str))=false:=by decide)(he:starEach (e::es) X.env=(false,eval e X.env)::starEach es X.env:=by rfl) (iR:(backTo pos (starEach es X.env)).any (·.1)=false:=by rfl):PE X (.Call (.Name x p) (e::es) [] pos) (tE E (fA k fs)):=(RM hc hg hm hv ha hn jo he iR).weak λ_ _ _ h=>tA_K hk h
def WV(ws:iJ):Mw Wv:=λom=>match ws with
 |[x]=>match YI om x with
  |some us=>some (.ok (.int us.length),om)
  |none=>match x with
   |.o h=>match om[h]? with
    |some (.dk kvs)=>some (.ok (.int kvs.length),om)
    |_=>none
   |_=>none
 |_=>none
def Gb:UM E (λxs H Q=>(∃p ys,xs=[.ref p]∧(SqL X.K H p ys∨SqT X.K H p ys)∧Q (.int ys.length) H)∨∃a kvs,xs=[V.ref a]∧H a=some (.dK kvs)∧Q (.int kvs.length) H) WV:=by
 intro F H β om ws vs Q M rs R
 match ws,rs,R with
 |[],_,R=>exact R.elim
 |_::_::_,_,R=>exact R.elim
 |[x],.cons rx .nil,R=>
  unfold WV at R;dsimp only at R
  match hx:YI om x,R with
  |some us,R=>
   obtain⟨p,xs,rfl,hs,r2⟩:=Tm (X:=X) M rx hx;refine .inl ⟨p,xs,rfl,hs,?_⟩;rw[← r2.length];exact(show Res E (ret (Wv.int _) om) F H β (PV Q) from R).now M _ (.int _)
  |none,R=>
   cases rx with
   |@o h a eb=>
    have R:Res E (match om[h]? with|some (.dk kvs)=>some (Except.ok (Wv.int kvs.length),om)|_=>none) F H β (PV Q):=R
    match hy:om[h]?,R with
    |none,R=>exact R.elim
    |some (.ins _ _),R=>exact R.elim
    |some (.exc _),R=>exact R.elim
    |some (.dz _),R=>exact R.elim
    |some (.dt _),R=>exact R.elim
    |some (.lst _),R=>exact R.elim
    |some (.dk kvs),R=>
     obtain⟨a',ea,_,ks,hk,r2⟩:=M.at hy;rw[eb]at ea;cases ea;refine .inr ⟨_,ks,rfl,hk,?_⟩;rw[← r2.length];exact(show Res E (ret (Wv.int _) om) F H β (PV Q) from R).now M _ (.int _)
   |_=>exact R.elim
def Ux{p:Pos}(hg:Gl X "len")(hm:X.mg "len"=none)(ha:PA X [e] (tA E fs))(he:starEach [e] X.env=(false,eval e X.env)::starEach [] X.env:=by rfl)(iR:(backTo pos (starEach [] X.env)).any (·.1)=false:=by rfl):PE X (.Call (.Name "len" p) [e] [] pos) (tE E (fA WV fs)):=Vo (MX.or Gc) (Gb (X:=X)) hg hm PySem.boot_len ha (by decide) (by decide) he iR
end
section
variable{X:Cx}{E:XK}{e a b c o:Expr}{es:iF}{f fa fb fc fo:FE}{fs:FA}{pos p2 p p':Pos}
def spM(n:Nat)(g:iJ->Mw Wv):Sp:=λvs H Q E=>∃F β om ws,MOk F H β om∧RWs F β ws vs∧ws.length=n∧Res E (g ws om) F H β (PV Q)
def kN(n:Nat)(g:iJ->Mw Wv)(ws:iJ):Mw Wv:=bnd (chk (decide (ws.length=n))) λ_=>g ws
def N6{n:Nat}{g:iJ->Mw Wv}{F H:Hp}{β:iA}{om:iN}{ws:iJ}{vs:iI}{Q:VK}(M:MOk F H β om)(rs:RWs F β ws vs)(R:Res E (kN n g ws om) F H β (PV Q)):spM n g vs H Q E:=by
 obtain⟨hc,R⟩:=Res.chk R;exact⟨F,β,om,ws,M,rs,bG hc,R⟩
variable{CX:CXT}{k n:Nat}{fn C:Addr}{fd:FuncData}{ps:iE}{g:iJ->Mw Wv}{x m:Str}
def BA(G:FnOk X.prog X.w X.K X.mg X.base CX k fn fd ps (spM n g))(hr:Room k X.A)(hg:Gl X x)(hm:X.mg x=some (.ref fn))(hk:PySem.W.keepIn X.K (.ref fn)=true)(hb:Binds X.K fd ps [])(hx:XN CX X E)(ha:PA X (e::es) (tA E fs)) (jo:(x == ("__debug__":Str))=false:=by decide) (he:starEach (e::es) X.env=(false,eval e X.env)::starEach es X.env:=by rfl) (iR:(backTo pos (starEach es X.env)).any (·.1)=false:=by rfl):PE X (.Call (.Name x p) (e::es) [] pos) (tE E (fA (kN n g) fs)):=(Ci G hr hg hm hk hb .nil hx ha jo he iR).weak λσ H Q ⟨F,β,om,sl,M,V,R⟩=>by
 refine⟨F,β,om,sl,M,V,R.bind λws om1 F1 H1 io g1 M1 R1 vs rs=>?_⟩;show spM n g (vs++[]) H1 Q E;rw[cC];exact N6 M1 rs R1
def CH(C:Addr)(m:Str)(x:Wv):Mw Unit:=λom=>match TY om x with
 |some (C',fs)=>if C'=C∧fs.lookup m=none then some (.ok (),om) else none
 |none=>none
def Kk{γ:Type}{k:Unit->Mw γ}{F H:Hp}{β:iA}{om:iN}{w:Wv}{v:V}{P:γ->Hp->Hp->List Addr->Prop}(M:MOk F H β om)(r:RW F β w v)(R:Res E (bnd (CH C m w) k om) F H β P):∃a dx jj,v=.ref a∧H a=some (.ins C dx jj)∧jj.lookup m=none∧Res E (k () om) F H β P:=by
 unfold bnd CH at R
 match hx:TY om w,R with
 |none,R=>exact R.elim
 |some (C',fs),R=>
  dsimp only at R;by_cases hc:C'=C∧fs.lookup m=none
  ·have R1:Res E (k () om) F H β P:=by
    have:=R;rw[aC hc]at this;exact this
   clear R;obtain⟨h,a,dx,jj,_,_,_,rfl,ha,rs⟩:=O3 M r hx;obtain⟨rfl,hl⟩:=hc;have lk:=rs.lookup (k:=m);rw[hl]at lk;exact⟨a,dx,jj,rfl,ha,lk,R1⟩
  ·rw[aE hc]at R;exact R.elim
def Zq(C:Addr)(m:Str)(n:Nat)(g:iJ->Mw Wv)(fo:FE)(fs:FA):FE:=λsl=>bnd (fo sl) λx=>bnd (CH C m x) λ_=>bnd (fs sl) λws=>kN n g (x::ws)
def BC{dvs:iI}{σ:St}{H:Hp}{Q:VK}(h:tE E (Zq C m n g fo fs) σ H Q):Fx C m (spM n g) [] E (tE E fo) (tA E fs) σ H Q:=by
 obtain⟨F,β,om,sl,M,V,R⟩:=h;refine⟨F,β,om,sl,M,V,R.bind λx om1 F1 H1 io g1 M1 R1 v rv=>?_⟩;obtain⟨a,dx,jj,rfl,ha,hl,R2⟩:=Kk M1 rv R1;refine⟨a,dx,jj,rfl,ha,hl,F1,io,om1,sl,M1,V.mono g1.toGr,R2.bind λws jt F3 H3 jA g3 M3 R3 vs rs=>?_⟩;show spM n g (L2.V.ref a::(vs++[])) H3 Q E;rw[cC];exact N6 M3 (.cons (rv.mono g3.toGr) rs) R3
def CS{pl:Sem Bool}{iw:Pos}(ho:PE X o (tE E fo))(c:Cls X.K C)(hm:Meth X.K C m fn)(G:FnOk X.prog X.w X.K X.mg X.base CX k fn fd ps (spM n g))(hr:Room k X.A)(hb:Binds X.K fd ps [])(hx:XN CX X E)(ha:PA X (e::es) (tA E fs))(jv:starEach (e::es) X.env=(false,eval e X.env)::starEach es X.env:=by rfl) (iR:(backTo pos (starEach es X.env)).any (·.1)=false:=by rfl)(ht:eval (.Call (.Attribute o m iw) (e::es) [] pos) X.env=(do
     let ov ← eval o X.env
     standAt iw.atName
     let (f,first) ← holding [ov] (getMethod ov m pl)
     callWith pos f first (backTo pos (starEach (e::es) X.env)) (backToKw pos (keywordEach [] X.env))):=by rfl):
    PE X (.Call (.Attribute o m iw) (e::es) [] pos) (tE E (Zq C m n g fo fs)):=(CQ ho c hm G hr hb .nil hx ha jv iR ht).weak λσ H Q h=>BC (dvs:=[]) h
def DF{pl:Sem Bool}{iw:Pos}(ho:PE X o (tE E fo))(c:Cls X.K C)(hm:Meth X.K C m fn)(G:FnOk X.prog X.w X.K X.mg X.base CX k fn fd ps (spM n g))(hr:Room k X.A)(hb:Binds X.K fd ps [])(hx:XN CX X E)(ht:eval (.Call (.Attribute o m iw) [] [] pos) X.env=(do
     let ov ← eval o X.env
     standAt iw.atName
     let (f,first) ← holding [ov] (getMethod ov m pl)
     callWith pos f first (backTo pos (starEach [] X.env)) (backToKw pos (keywordEach [] X.env))):=by rfl):
    PE X (.Call (.Attribute o m iw) [] [] pos) (tE E (Zq C m n g fo Zj)):=(EM ho c hm G hr hb .nil hx (ht:=ht)).weak λσ H Q ⟨F,β,om,sl,M,V,R⟩=>by
 refine⟨F,β,om,sl,M,V,R.bind λx om1 F1 H1 io g1 M1 R1 v rv=>?_⟩;obtain⟨a,dx,jj,rfl,ha,hl,R2⟩:=Kk M1 rv R1;exact⟨a,dx,jj,rfl,ha,hl,N6 M1 (.cons rv .nil) R2⟩
def Y2(C:Addr)(n:Nat)(g:iJ->Mw Wv)(ws:iJ):Mw Wv:=λom=>bnd (kN n g (.o om.length::ws)) (λr=>match r with|.non=>ret (.o om.length)|_=>Wg) (om++[.ins C []])
def MOk.newU{F H:Hp}{β:iA}{om:iN}{p:Addr}{o:HO}(M:MOk F H β om)(hp:H p=none):MOk F (upd H p o) β om:=by
 have ne:∀(h:Nat) (a:Addr),β[h]?=some a->a≠p:=λh a e z=>by
  obtain⟨y,hy⟩:=M.there e;rw[z,hp]at hy;cases hy
 exact⟨λb u e=>by rw[Zx (ZX (M.sub _ _ e) hp)];exact M.sub b u e,M.nd,M.len,M.free,λh a x e1 e2=>(M.ob h a x e1 e2).mono (Gr.refl _ _) (Zx (ne h a e1))⟩
def make_K{F H:Hp}{β:iA}{om:iN}{ws:iJ}{vs:iI}{Q:VK}{y dx:Addr}(M:MOk F H β om)(rs:RWs F β ws vs)(R:Res E (Y2 C n g ws om) F H β (PV Q))(hx:H y=none)(m4:H dx=none)(jh:dx≠y):spM n g (.ref y::(vs++[])) (upd (upd H dx (.own y)) y (.ins C dx [])) (λv H2=>v=.non∧Q (.ref y) H2) E:=by
 have M1:=M.newU (o:=.own y) m4;have g0:=M.gxU (o:=.own y) m4;obtain⟨g2,M2,e2⟩:=M1.newOx (p:=y) (o:=.ins C dx []) (x:=.ins C []) (by rw[Zx jh.symm];exact hx) λiq _=>⟨dx,[],ZC,.nil⟩
 rw[cC];refine N6 M2 (.cons (.o e2) (rs.mono g2.toGr)) ((Res.mono (g0.trans g2) R).bind λr jt F3 H3 jA g3 M3 R3 v rv=>?_);cases rv with
 |non=>exact⟨rfl,(show Res E (ret (Wv.o om.length) jt) F3 H3 jA (PV Q) from R3).now M3 _ (.o (g3.pre _ _ e2))⟩
 |_=>exact R3.elim
def BD(nS:Mk X.K C fn)(G:FnOk X.prog X.w X.K X.mg X.base CX k fn fd ps (spM n g))(hr:Room (k+1) X.A)(hg:Gl X x)(hm:X.mg x=some (.ref C))(hb:Binds X.K fd ps [])(hx:XN CX X E)(ha:PA X (e::es) (tA E fs)) (jo:(x == ("__debug__":Str))=false:=by decide) (he:starEach (e::es) X.env=(false,eval e X.env)::starEach es X.env:=by rfl) (iR:(backTo pos (starEach es X.env)).any (·.1)=false:=by rfl):PE X (.Call (.Name x p) (e::es) [] pos) (tE E (fA (Y2 C n g) fs)):=(Bm nS G hr hg hm hb .nil hx ha jo he iR).weak λσ H Q ⟨F,β,om,sl,M,V,R⟩=>
 ⟨F,β,om,sl,M,V,R.bind λws om1 F1 H1 io g1 M1 R1 vs rs y dx h1 h2 h3=>make_K M1 rs R1 h1 h2 h3⟩
def W5(om:iN):Wv->Option (Nat × iJ)
 |.o h=>match om[h]? with
  |some (.lst ws)=>some (h,ws)
  |_=>none
 |_=>none
def Tr{F H:Hp}{β:iA}{om:iN}{w:Wv}{v:V}{h:Nat}{ws:iJ}(M:MOk F H β om)(r:RW F β w v)(e:W5 om w=some (h,ws)):∃a xs,w=.o h∧om[h]?=some (.lst ws)∧β[h]?=some a∧v=.ref a∧H a=some (.lst xs)∧RWs F β ws xs:=by
 cases r with
 |@o h' a eb=>
  have e:(match om[h']? with|some (.lst ws)=>some (h',ws)|_=>none)=some (h,ws):=e
  match hx:om[h']?,e with
  |none,e=>exact nomatch e
  |some (.ins _ _),e=>exact nomatch e
  |some (.exc _),e=>exact nomatch e
  |some (.dz _),e=>exact nomatch e
  |some (.dt _),e=>exact nomatch e
  |some (.dk kvs),e=>exact nomatch e
  |some (.lst us),e=>
   have e:some (h',us)=some (h,ws):=e;cases e;obtain⟨a',ea,_,xs,kt,rs⟩:=M.at hx;have ea2:=ea;rw[eb]at ea;cases ea;exact⟨_,xs,rfl,hx,ea2,rfl,kt,rs⟩
 |_=>exact nomatch e
def GI(x:Wv):Mw Unit:=λom=>match W5 om x with
 |some _=>some (.ok (),om)
 |none=>none
def Ku{γ:Type}{k:Unit->Mw γ}{F H:Hp}{β:iA}{om:iN}{w:Wv}{v:V}{P:γ->Hp->Hp->List Addr->Prop}(M:MOk F H β om)(r:RW F β w v)(R:Res E (bnd (GI w) k om) F H β P):tyV X.K "list" v H∧Res E (k () om) F H β P:=by
 unfold bnd GI at R
 match hx:W5 om w,R with
 |none,R=>exact R.elim
 |some (h,ws),R=>
  obtain⟨a,xs,_,_,_,rfl,ha,_⟩:=Tr M r hx;exact⟨.inl ⟨rfl,xs,SqL.of ha⟩,R⟩
def kApp(x y:Wv):Mw Wv:=λom=>match W5 om x with
 |some (h,ws)=>if ws.length<lim then some (.ok .non,om.set h (.lst (ws++[y]))) else none
 |none=>none
def Gn(fo f:FE):FE:=λsl=>bnd (fo sl) λx=>bnd (GI x) λ_=>bnd (f sl) λy=>kApp x y
def RB{iw ir:Pos}(ho:PE X o (tE E fo))(he:PE X e (tE E f))(jf:attributeBase o "append" X.env (eval o X.env)=eval o X.env:=by rfl)(jp:((backTo ir (starEach [e] X.env)).all (λx=>!x.1)&&(backToKw ir (keywordEach [] X.env)).all (λx=>x.1.isSome)
     && decide (([e]:iF).length+([]:List Keyword).length+(if ([]:List Keyword).isEmpty then 0 else 1)<30))=true:=by rfl)
    (jg:(iw.endLine == ir.line)=true:=by rfl) (hs:starEach [e] X.env=(false,eval e X.env)::starEach [] X.env:=by rfl) (ju:(backTo ir (starEach [] X.env)).any (·.1)=false:=by rfl):
    PE X (.Call (.Attribute o "append" iw) [e] [] ir) (tE E (Gn fo f)):=(Ai PySem.F.plainAttrs_list PySem.F.slot_list_append PySem.F.type_list_append Gz ho (XW he VO hs) jf jp jg hs ju).weak λσ H Q ⟨F,β,om,sl,M,V,R⟩=>by
 refine⟨F,β,om,sl,M,V,R.bind λx om1 F1 H1 io g1 M1 R1 v rv=>?_⟩;obtain⟨ty,R2⟩:=Ku (X:=X) M1 rv R1;refine⟨ty,F1,io,om1,sl,M1,V.mono g1.toGr,R2.bind λy jt F3 H3 jA g3 M3 R3 u ru=>?_⟩;show He v [u] H3 Q;unfold kApp at R3
 match hx:W5 jt x,R3 with
 |none,R3=>exact R3.elim
 |some (h,ws),R3=>
  dsimp only at R3;obtain⟨a,xs,_,_,eb,rfl,ha,rs⟩:=Tr M3 (rv.mono g3.toGr) hx;by_cases hc:ws.length<lim
  ·rw[aC hc]at R3
   have:=UB;have:=rs.length;refine⟨a,xs,u,rfl,rfl,ha,by omega,?_⟩;exact R3 F3 _ jA (M3.gxP eb (nz ha)) (M3.put eb ⟨xs++[u],ZC,rs.append (.cons ru .nil)⟩) _ .non
  ·rw[aE hc]at R3;exact R3.elim
end
def Y8:Wv->Option Key
 |.int i=>some (.inl i)
 |.str x=>some (.inr x)
 |_=>none
def W3:iJ->Option (List Key)
 |[]=>some []
 |w::r=>match Y8 w,W3 r with
  |some k,some ks=>some (k::ks)
  |_,_=>none
def Tn{F:Hp}{β:iA}{w:Wv}{v:V}{k:Key}(r:RW F β w v)(e:Y8 w=some k):v=kV k:=by
 cases r <;> first|(cases e;rfl)|exact nomatch e
def Si{F:Hp}{β:iA}:∀{ws:iJ} {vs:iI} {ks:List Key},RWs F β ws vs->W3 ws=some ks->vs=ks.map kV
 |_,_,_,.nil,e=>by unfold W3 at e;cases e;rfl
 |_,_,_,.cons (w:=w) (ws:=ws) h r,e=>by
  unfold W3 at e
  match h1:Y8 w,h2:W3 ws,e with
  |some k,some ks,e=>
   have e:some (k::ks)=some _:=e;cases e;rw[aU,← Tn h h1,← Si r h2]
  |some k,none,e=>exact nomatch e
  |none,_,e=>exact nomatch e
section
variable{κ:Type}[DecidableEq κ]
def V9(kvs:List (κ × Wv))(k:κ):Option Wv:=(kvs.find? λkv=>decide (kv.1=k)).map (·.2)
def WP(kvs:List (κ × Wv))(k:κ)(v:Wv):List (κ × Wv):=
 if (kvs.any λkv=>decide (kv.1=k))=true then kvs.map (λkv=>if kv.1=k then (kv.1,v) else kv) else kvs++[(k,v)]
variable{F:Hp}{β:iA}
def ROp(F:Hp)(β:iA)(o:Option Wv)(u:Option V):Prop:=match o with
 |some w=>∃v,u=some v∧RW F β w v
 |none=>u=none
def RK.val:∀{ps:List (κ × Wv)} {qs:List (κ × V)},RK F β ps qs->∀k,ROp F β (V9 ps k) (Rb qs k)
 |_,_,.nil,_=>rfl
 |_,_,.cons (k:=k') h r,k=>by
  unfold V9 Rb;rw[cB,cB];by_cases hk:k'=k
  ·simp only[hk,decide_true];exact⟨_,rfl,h⟩
  ·simp only[hk,decide_false];exact RK.val r k
def RK.any:∀{ps:List (κ × Wv)} {qs:List (κ × V)},RK F β ps qs->∀k,(ps.any λkv=>decide (kv.1=k))=(qs.any λkv=>decide (kv.1=k))
 |_,_,.nil,_=>rfl
 |_,_,.cons (k:=k') h r,k=>by rw[dB,dB,RK.any r k]
def RK.repl{k:κ}{w:Wv}{v:V}(h:RW F β w v):∀{ps:List (κ × Wv)} {qs:List (κ × V)},RK F β ps qs->RK F β (ps.map λkv=>if kv.1=k then (kv.1,w) else kv) (qs.map λkv=>if kv.1=k then (kv.1,v) else kv)
 |_,_,.nil=>.nil
 |_,_,.cons (k:=k') h' r=>by
  rw[aU,aU];by_cases hk:k'=k
  ·simp only[hk,if_true];exact .cons h (RK.repl h r)
  ·simp only[hk,if_false];exact .cons h' (RK.repl h r)
def RK.append:∀{ps:List (κ × Wv)} {qs:List (κ × V)} {k7:List (κ × Wv)} {m5:List (κ × V)},RK F β ps qs->RK F β k7 m5->RK F β (ps++k7) (qs++m5)
 |_,_,_,_,.nil,s=>s
 |_,_,_,_,.cons h r,s=>.cons h (RK.append r s)
def RK.put{ps:List (κ × Wv)}{qs:List (κ × V)}{k:κ}{w:Wv}{v:V}(r:RK F β ps qs)(h:RW F β w v):RK F β (WP ps k w) (SU qs k v):=by
 unfold WP SU;rw[r.any k];by_cases hc:(qs.any λkv=>decide (kv.1=k))=true
 ·rw[aC hc,aC hc];exact r.repl h
 ·rw[aE hc,aE hc];exact r.append (.cons h .nil)
end
def Wm(om:iN)(d key:Wv):Option (Option Wv):=match d with
 |.o h=>match om[h]? with
  |some (.dk kvs)=>match Y8 key with
   |some k=>some (V9 kvs k)
   |none=>none
  |some (.dz kvs)=>match Y8 key with
   |some k=>some (V9 kvs k)
   |none=>none
  |some (.dt kvs)=>match key with
   |.tup ws=>match W3 ws with
    |some ks=>some (V9 kvs ks)
    |none=>none
   |_=>none
  |_=>none
 |_=>none
def V8{F H:Hp}{β:iA}{om:iN}{d key:Wv}{vd vk:V}{r:Option Wv}(M:MOk F H β om)(rd:RW F β d vd)(rk:RW F β key vk)(e:Wm om d key=some r):∃a o,vd=.ref a∧DGet H a vk o∧ROp F β r o:=by
 cases rd with
 |@o h a eb=>
  unfold Wm at e;dsimp only at e
  match hx:om[h]?,e with
  |none,e=>exact nomatch e
  |some (.ins _ _),e=>exact nomatch e
  |some (.exc _),e=>exact nomatch e
  |some (.lst _),e=>exact nomatch e
  |some (.dk kvs),e=>
   obtain⟨a',ea,_,ks,hk,rs⟩:=M.at hx;rw[eb]at ea;cases ea;dsimp only at e
   match h1:Y8 key,e with
   |none,e=>exact nomatch e
   |some k,e=>
    have e:some (V9 kvs k)=some r:=e;cases e;rw[Tn rk h1];exact⟨_,_,rfl,DGet.k hk,rs.val k⟩
  |some (.dz kvs),e=>
   obtain⟨a',ea,_,ob,ks,hk,rs⟩:=M.at hx;rw[eb]at ea;cases ea;dsimp only at e
   match h1:Y8 key,e with
   |none,e=>exact nomatch e
   |some k,e=>
    have e:some (V9 kvs k)=some r:=e;cases e;rw[Tn rk h1];exact⟨_,_,rfl,.inl ⟨ks,k,.inr ⟨ob,hk⟩,rfl,rfl⟩,rs.val k⟩
  |some (.dt kvs),e=>
   obtain⟨a',ea,_,ks,hk,rs⟩:=M.at hx;rw[eb]at ea;cases ea;dsimp only at e;cases rk with
   |@tup b xs ws q je=>
    dsimp only at e
    match h1:W3 ws,e with
    |none,e=>exact nomatch e
    |some k,e=>
     have e:some (V9 kvs k)=some r:=e;cases e;have hb:=M.sub _ _ q;rw[Si je h1]at hb;exact⟨_,_,rfl,DGet.t hk hb,rs.val k⟩
   |_=>exact nomatch e
 |_=>unfold Wm at e;cases e
def OK(om:iN)(d key w:Wv):Option (iN):=match d with
 |.o h=>match om[h]? with
  |some (.dk kvs)=>match Y8 key with
   |some k=>if kvs.length<lim then some (om.set h (.dk (WP kvs k w))) else none
   |none=>none
  |some (.dt kvs)=>match key with
   |.tup ws=>match W3 ws with
    |some ks=>if kvs.length<lim then some (om.set h (.dt (WP kvs ks w))) else none
    |none=>none
   |_=>none
  |_=>none
 |_=>none
def Fu{F H:Hp}{β:iA}{om ij:iN}{d key w:Wv}{vd vk v:V}(M:MOk F H β om)(rd:RW F β d vd)(rk:RW F β key vk)(je:RW F β w v)(e:OK om d key w=some ij):∃a H',vd=.ref a∧DPut H a vk v H'∧Gx F F H H' β β∧MOk F H' β ij:=by
 have iQ:=UB;cases rd with
 |@o h a eb=>
  unfold OK at e;dsimp only at e
  match hx:om[h]?,e with
  |none,e=>exact nomatch e
  |some (.ins _ _),e=>exact nomatch e
  |some (.exc _),e=>exact nomatch e
  |some (.dz _),e=>exact nomatch e
  |some (.lst _),e=>exact nomatch e
  |some (.dk kvs),e=>
   obtain⟨a',ea,_,ks,hk,rs⟩:=M.at hx;have eb2:=ea;rw[eb]at ea;cases ea;dsimp only at e
   match h1:Y8 key,e with
   |none,e=>exact nomatch e
   |some k,e=>
    have e:(if kvs.length<lim then some (om.set h (.dk (WP kvs k w))) else none)=some ij:=e;by_cases hc:kvs.length<lim
    ·rw[aC hc]at e
     cases e;rw[Tn rk h1];have:=rs.length;exact⟨_,_,rfl,DPut.k hk (by omega),M.gxP eb2 (nz hk),M.put eb2 ⟨_,ZC,rs.put je⟩⟩
    ·rw[aE hc]at e;exact nomatch e
  |some (.dt kvs),e=>
   obtain⟨a',ea,_,ks,hk,rs⟩:=M.at hx;have eb2:=ea;rw[eb]at ea;cases ea;dsimp only at e;cases rk with
   |@tup b xs ws q mj=>
    dsimp only at e
    match h1:W3 ws,e with
    |none,e=>exact nomatch e
    |some k,e=>
     have e:(if kvs.length<lim then some (om.set h (.dt (WP kvs k w))) else none)=some ij:=e;by_cases hc:kvs.length<lim
     ·rw[aC hc]at e
      cases e;have hb:=M.sub _ _ q;rw[Si mj h1]at hb;have:=rs.length;exact⟨_,_,rfl,DPut.t hk hb (by omega),M.gxP eb2 (nz hk),M.put eb2 ⟨_,ZC,rs.put je⟩⟩
     ·rw[aE hc]at e;exact nomatch e
   |_=>exact nomatch e
 |_=>unfold OK at e;cases e
def Wi(d key:Wv):Mw Wv:=λom=>match Wm om d key with
 |some (some w)=>some (.ok w,om)
 |_=>none
def W9(neg:Bool)(key d:Wv):Mw Wv:=λom=>match Wm om d key with
 |some r=>some (.ok (.bl (if neg then !r.isSome else r.isSome)),om)
 |none=>none
def isD(om:iN):Wv->Bool
 |.o h=>match om[h]? with
  |some (.dk _)=>true
  |some (.dz _)=>true
  |some (.dt _)=>true
  |_=>false
 |_=>false
def OH(x:Wv):Mw Unit:=λom=>if isD om x=true then some (.ok (),om) else none
def IH(d key:Wv):Mw Wv:=λom=>match Wm om d key with
 |some r=>some (.ok (r.getD .non),om)
 |none=>none
def R0(d key z:Wv):Mw Wv:=λom=>match Wm om d key with
 |some r=>some (.ok (r.getD z),om)
 |none=>none
def KH(fd fk:FE):FE:=λsl=>bnd (fd sl) λd=>bnd (OH d) λ_=>bnd (fk sl) λk=>IH d k
def Pk(fd fk fz:FE):FE:=λsl=>bnd (fd sl) λd=>bnd (OH d) λ_=>bnd (fk sl) λk=>bnd (fz sl) λz=>R0 d k z
section
variable{X:Cx}{E:XK}{e a b c o i:Expr}{fd fk fz:FE}{pos p2 p iw ir:Pos}
def ROp.isSome{F:Hp}{β:iA}{r:Option Wv}{o:Option V}(h:ROp F β r o):r.isSome=o.isSome:=by
 match r,h with
 |some w,⟨v,e,_⟩=>rw[e];rfl
 |none,h=>rw[show o=none from h];rfl
def ROp.getD{F:Hp}{β:iA}{r:Option Wv}{o:Option V}{w:Wv}{v:V}(h:ROp F β r o)(q:RW F β w v):RW F β (r.getD w) (o.getD v):=by
 match r,h with
 |some w,⟨v,e,h⟩=>rw[e];exact h
 |none,h=>rw[show o=none from h];exact q
def VB(hu:X.A.units+64<cLine)(ho:PE X o (tE E fd))(hi:PE X i (tE E fk))(hs:NoSl i:=by intro _ _;rfl):PE X (.Subscript o i pos) (tE E (f2 Wi fd fk)):=(CP (by omega) ho hi hs).weak λσ H Q h=>by
 refine NL (r:=λx y H2 Q=>∃a v,x=.ref a∧DGet H2 a y (some v)∧Q v H2) ?_ h;intro F H β om x y v u Q M rx ry R;unfold Wi at R
 match hx:Wm om x y,R with
 |none,R=>exact R.elim
 |some none,R=>exact R.elim
 |some (some w),R=>
  obtain⟨a,o',rfl,hg,z,rfl,rz⟩:=V8 M rx ry hx;exact⟨a,z,rfl,hg,(show Res E (ret w om) F H β (PV Q) from R).now M _ rz⟩
def qe_din(hu:X.A.units+64<cLine)(hi:PE X i (tE E fk))(ho:PE X o (tE E fd))(h1:behindInMarks .In o=false:=by with_unfolding_all rfl):PE X (.Compare i [.In] [o] pos) (tE E (f2 (W9 false) fk fd)):=(EH (GX (by omega) hi ho) h1).weak λσ H Q h=>by
 refine NL (r:=λy x H2 Q=>∃a o,x=.ref a∧DGet H2 a y o∧Q (.bl o.isSome) H2) ?_ h;intro F H β om y x u v Q M ry rx R;unfold W9 at R
 match hx:Wm om x y,R with
 |none,R=>exact R.elim
 |some r,R=>
  obtain⟨a,o',rfl,hg,ro⟩:=V8 M rx ry hx;refine⟨a,o',rfl,hg,?_⟩;rw[← ro.isSome];exact(show Res E (ret (Wv.bl r.isSome) om) F H β (PV Q) from R).now M _ (.bl _)
def J1(hu:X.A.units+64<cLine)(hi:PE X i (tE E fk))(ho:PE X o (tE E fd))(h1:behindInMarks .In o=false:=by with_unfolding_all rfl):PT X (.Compare i [.In] [o] pos) (tT E (fB (f2 (W9 false) fk fd))):=(Mn (GX (by omega) hi ho) h1).weak λσ H Q h=>by
 refine NL (r:=λy x H2 Q=>∃a o,x=.ref a∧DGet H2 a y o∧Q (.bl o.isSome) H2) ?_ (Fs h);intro F H β om y x u v Q M ry rx R;unfold W9 at R
 match hx:Wm om x y,R with
 |none,R=>exact R.elim
 |some r,R=>
  obtain⟨a,o',rfl,hg,ro⟩:=V8 M rx ry hx;refine⟨a,o',rfl,hg,?_⟩;rw[← ro.isSome];exact(show Res E (ret (Wv.bl r.isSome) om) F H β (PV Q) from R).now M _ (.bl _)
def MJ(hu:X.A.units+64<cLine)(hi:PE X i (tE E fk))(ho:PE X o (tE E fd))(h1:behindInMarks .NotIn o=false:=by with_unfolding_all rfl):PT X (.Compare i [.NotIn] [o] pos) (tT E (fB (f2 (W9 true) fk fd))):=(Mn (HI (by omega) hi ho) h1).weak λσ H Q h=>by
 refine NL (r:=λy x H2 Q=>∃a o,x=.ref a∧DGet H2 a y o∧Q (.bl (!o.isSome)) H2) ?_ (Fs h);intro F H β om y x u v Q M ry rx R;unfold W9 at R
 match hx:Wm om x y,R with
 |none,R=>exact R.elim
 |some r,R=>
  obtain⟨a,o',rfl,hg,ro⟩:=V8 M rx ry hx;refine⟨a,o',rfl,hg,?_⟩;rw[← ro.isSome];exact(show Res E (ret (Wv.bl (!r.isSome)) om) F H β (PV Q) from R).now M _ (.bl _)
def LN{γ:Type}{k:Unit->Mw γ}{F H:Hp}{β:iA}{om:iN}{w:Wv}{v:V}{P:γ->Hp->Hp->List Addr->Prop}(M:MOk F H β om)(r:RW F β w v)(R:Res E (bnd (OH w) k om) F H β P):∃a,v=.ref a∧IsD H a∧Res E (k () om) F H β P:=by
 by_cases hc:isD om w=true
 ·have e1:OH w om=some (.ok (),om):=aC hc
  unfold bnd at R;rw[e1]at R;have R1:Res E (k () om) F H β P:=R;clear R;cases r with
  |@o h a eb=>
   refine⟨a,rfl,?_,R1⟩;have hc:(match om[h]? with|some (.dk _)=>true|some (.dz _)=>true|some (.dt _)=>true|_=>false)=true:=hc
   match hx:om[h]?,hc with
   |none,e=>exact nomatch e
   |some (.ins _ _),e=>exact nomatch e
   |some (.exc _),e=>exact nomatch e
   |some (.lst _),e=>exact nomatch e
   |some (.dk kvs),e=>
    obtain⟨a',ea,_,ks,hk,rs⟩:=M.at hx;rw[eb]at ea;cases ea;exact .inl ⟨ks,.inl hk⟩
   |some (.dz kvs),e=>
    obtain⟨a',ea,_,ob,ks,hk,rs⟩:=M.at hx;rw[eb]at ea;cases ea;exact .inl ⟨ks,.inr ⟨ob,hk⟩⟩
   |some (.dt kvs),e=>
    obtain⟨a',ea,_,ks,hk,rs⟩:=M.at hx;rw[eb]at ea;cases ea;exact .inr ⟨ks,.inl hk⟩
  |_=>exact nomatch hc
 ·have e1:OH w om=none:=aE hc
  unfold bnd at R;rw[e1]at R;exact R.elim
def CN(hu:X.A.units+64<cLine)(ho:PE X o (tE E fd))(he:PE X e (tE E fk))(m:M1 X o "get" iw e ir:=by exact⟨rfl,rfl,rfl,rfl⟩):PE X (.Call (.Attribute o "get" iw) [e] [] ir) (tE E (KH fd fk)):=(Eg (by omega) ho he m).weak λσ H Q ⟨F,β,om,sl,M,V,R⟩=>by
 refine⟨F,β,om,sl,M,V,R.bind λx om1 F1 H1 io g1 M1 R1 v rv=>?_⟩;obtain⟨a,rfl,hd,R2⟩:=LN M1 rv R1;refine⟨a,rfl,hd,F1,io,om1,sl,M1,V.mono g1.toGr,R2.bind λy jt F3 H3 jA g3 M3 R3 u ru=>?_⟩;unfold IH at R3
 match hx:Wm jt x y,R3 with
 |none,R=>exact R.elim
 |some r,R=>
  obtain⟨a',o',e,hg,ro⟩:=V8 M3 (rv.mono g3.toGr) ru hx;cases e;exact⟨o',hg,(show Res E (ret (r.getD Wv.non) jt) F3 H3 jA _ from R).now M3 _ (ro.getD .non)⟩
def Hd{f':Expr}(hu:X.A.units+64<cLine)(ho:PE X o (tE E fd))(he:PE X e (tE E fk))(hf:PE X f' (tE E fz))(m:M2 X o "get" iw e f' ir:=by exact⟨rfl,rfl,rfl,rfl⟩):PE X (.Call (.Attribute o "get" iw) [e,f'] [] ir) (tE E (Pk fd fk fz)):=(Df (by omega) ho he hf m).weak λσ H Q ⟨F,β,om,sl,M,V,R⟩=>by
 refine⟨F,β,om,sl,M,V,R.bind λx om1 F1 H1 io g1 M1 R1 v rv=>?_⟩;obtain⟨a,rfl,hd,R2⟩:=LN M1 rv R1;refine⟨a,rfl,hd,F1,io,om1,sl,M1,V.mono g1.toGr,R2.bind λy jt F3 H3 jA g3 M3 R3 u ru=>?_⟩;refine⟨F3,jA,jt,sl,M3,V.mono (g1.trans g3).toGr,R3.bind λz m6 F4 H4 nT g4 M4 R4 zv rz=>?_⟩;unfold R0 at R4
 match hx:Wm m6 x y,R4 with
 |none,R=>exact R.elim
 |some r,R=>
  obtain⟨a',o',e,hg,ro⟩:=V8 M4 (rv.mono (g3.trans g4).toGr) (ru.mono g4.toGr) hx;cases e;exact⟨o',hg,(show Res E (ret (r.getD z) m6) F4 H4 nT _ from R).now M4 _ (ro.getD rz)⟩
def W1:PE X (.Dict [] [] pos) (tE E λ_=>newO (.dk [])):=FN.weak λσ H Q ⟨F,β,om,sl,M,V,R⟩ p hp=>Res.newO R M hp λiq _=>⟨[],ZC,.nil⟩
def Ei:PE X (.Dict [] [] pos) (tE E λ_=>newO (.dt [])):=EY.weak λσ H Q ⟨F,β,om,sl,M,V,R⟩ p hp=>Res.newO R M hp λiq _=>⟨[],ZC,.nil⟩
end
def Yo:FS:=λsl=>ret (.nx,sl)
def H9(S:FS):Fl × Sl->Mw (Fl × Sl)
 |(.nx,sl)=>S sl
 |x=>ret x
def Zv(S1 S2:FS):FS:=λsl=>bnd (S1 sl) (H9 S2)
def ZD(i:Nat)(f:FE):FS:=λsl=>bnd (f sl) λw=>ret (.nx,sl.set i (some w))
def Z9(f:FE):FS:=λsl=>bnd (f sl) λ_=>ret (.nx,sl)
def Z8(f:FE):FS:=λsl=>bnd (f sl) λw=>ret (.rt w,sl)
def B7:FS:=λsl=>ret (.rt .non,sl)
def sIf(c:FT)(S1 S2:FS):FS:=λsl=>bnd (c sl) λb=>if b=true then S1 sl else S2 sl
section
variable{X:Cx}{E:XK}{st:Stmt}{rest:List Stmt}{e:Expr}{f fo fi fv:FE}{S S1 S2:FS}{c:FT}{pos:Pos}
def Ct:PSs X [] (tS E Yo):=Cc.weak λD σ H ⟨F,β,om,sl,M,V,R⟩=>(show Res E (ret (Fl.nx,sl) om) F H β (FlP D) from R).now M σ V
def Zg(h1:PS X st (tS E S1))(h2:PSs X rest (tS E S2)):PSs X (st::rest) (tS E (Zv S1 S2)):=(EO h1 h2).weak λD σ H ⟨F,β,om,sl,M,V,R⟩=>by
 refine⟨F,β,om,sl,M,V,R.bind λx om1 F1 H1 io g1 M1 R1=>?_⟩;obtain⟨fl,sl1⟩:=x;cases fl with
 |nx=>exact λiy V'=>⟨F1,io,om1,sl1,M1,V',R1⟩
 |bk=>exact(show Res E (ret (Fl.bk,sl1) om1) F1 H1 io (FlP D) from R1).now M1
 |ct=>exact(show Res E (ret (Fl.ct,sl1) om1) F1 H1 io (FlP D) from R1).now M1
 |rt w=>exact(show Res E (ret (Fl.rt w,sl1) om1) F1 H1 io (FlP D) from R1).now M1
def Zt(h1:PS X st (tS E S1)):PSs X [st] (tS E S1):=C7 h1
def qs_set{i:Nat}{x:Str}{iV:Pos}(hN:X.N.Nodup)(hi:X.N[i]?=some x)(hx:Loc X.env.scope x)(he:PE X e (tE E f))(hs:swapsWith e (some (.Name x iV)) pos.line X.env=pure false:=by rfl)(hf:X.fn x=true∨X.env.scope.names.lookup x=some .local:=by first|exact .inl rfl|exact .inr rfl|assumption):PS X (.Assign [.Name x iV] e pos) (tS E (ZD i f)):=(A5 hN hi hx he hs hf).weak λD σ H ⟨F,β,om,sl,M,V,R⟩=>
 ⟨F,β,om,sl,M,V,R.bind λx om1 F1 H1 io g1 M1 R1 v rv=>(show Res E (ret (Fl.nx,sl.set i (some x)) om1) F1 H1 io (FlP D) from R1).now M1 _ ((V.mono g1.toGr).set i rv)⟩
def Z2(he:PE X e (tE E f))(hs:swapsWith e none pos.line X.env=pure false:=by rfl):PS X (.Expr e pos) (tS E (Z9 f)):=(BB he hs).weak λD σ H ⟨F,β,om,sl,M,V,R⟩=>
 ⟨F,β,om,sl,M,V,R.bind λx om1 F1 H1 io g1 M1 R1 v rv=>(show Res E (ret (Fl.nx,sl) om1) F1 H1 io (FlP D) from R1).now M1 _ (V.mono g1.toGr)⟩
def qs_ret(he:PE X e (tE E f)):PS X (.Return (some e) pos) (tS E (Z8 f)):=(ps_ret he).weak λD σ H ⟨F,β,om,sl,M,V,R⟩=>
 ⟨F,β,om,sl,M,V,R.bind λx om1 F1 H1 io g1 M1 R1 v rv=>(show Res E (ret (Fl.rt x,sl) om1) F1 H1 io (FlP D) from R1).now M1 _ rv⟩
def Bl:PS X (.Return none pos) (tS E B7):=Cv.weak λD σ H ⟨F,β,om,sl,M,V,R⟩=>(show Res E (ret (Fl.rt .non,sl) om) F H β (FlP D) from R).now M _ .non
def tS_if{D:Ends}{σ:St}{H:Hp}(h:tS E (sIf c S1 S2) D σ H):tIfS (tT E c) (tS E S1) (tS E S2) D σ H:=by
 obtain⟨F,β,om,sl,M,V,R⟩:=h;refine⟨F,β,om,sl,M,V,R.bind λb om1 F1 H1 io g1 M1 R1=>?_⟩;cases b with
 |true=>rw[aC rfl]at R1 ⊢;exact⟨F1,io,om1,sl,M1,V.mono g1.toGr,R1⟩
 |false=>rw[aE aJ]at R1 ⊢;exact⟨F1,io,om1,sl,M1,V.mono g1.toGr,R1⟩
def KR{t:Expr}{a b:List Stmt}(hc:PT X t (tT E c))(ha:PSs X a (tS E S1))(hb:PSs X b (tS E S2)):PS X (.If t a b pos) (tS E (sIf c S1 S2)):=(ps_if hc ha hb).weak λD σ H h=>tS_if h
def Hj(o i v:Wv):Mw Unit:=λom=>match W5 om o,i with
 |some (h,ws),.int k=>match ixN ws.length k with
  |some j=>some (.ok (),om.set h (.lst (ws.set j v)))
  |none=>none
 |_,_=>none
def Xl(fv fo fi:FE):FS:=λsl=>bnd (fv sl) λv=>bnd (fo sl) λo=>bnd (fi sl) λi=>bnd (Hj o i v) λ_=>ret (.nx,sl)
def Bv{o i v:Expr}{p1:Pos}(hv:PE X v (tE E fv))(ho:PE X o (tE E fo))(hi:PE X i (tE E fi)){w}(hg:PG X (.Subscript o i p1) (gSub (tE E fo) (tE E fi) BU):=by exact Dy ‹_› ‹_› set_list)(hs:swapsWithSole [.Subscript o i p1] v pos.line X.env=pure false:=by rfl) (hw:swappedStores [.Subscript o i p1] v X.env=pure w:=by rfl)(h1:(assignEach [.Subscript o i p1] X.env).map (·.2)=[assign (.Subscript o i p1) X.env]:=by rfl) (mn:w=none:=by rfl):PS X (.Assign [.Subscript o i p1] v pos) (tS E (Xl fv fo fi)):=by
 subst mn;refine(ps_asg hv hg hs hw h1).weak λD σ H ⟨F,β,om,sl,M,V,R⟩=>?_
 refine⟨F,β,om,sl,M,V,R.bind λx om1 F1 H1 io g1 M1 R1 xv rx=>?_⟩;refine⟨F1,io,om1,sl,M1,V.mono g1.toGr,R1.bind λy om2 F2 H2 ja g2 M2 R2 yv ry=>?_⟩;refine⟨F2,ja,om2,sl,M2,V.mono (g1.trans g2).toGr,R2.bind λz jt F3 H3 jA g3 M3 R3 zv rz=>?_⟩;unfold bnd Hj at R3
 match hx:W5 jt y,z,rz,R3 with
 |none,_,_,R3=>exact R3.elim
 |some (h,ws),.int k,.int _,R3=>
  dsimp only at R3;obtain⟨a,xs,_,_,eb,rfl,ha,rs⟩:=Tr M3 (ry.mono g3.toGr) hx
  match hj:ixN ws.length k,R3 with
  |none,R3=>exact R3.elim
  |some j,R3=>
   refine⟨a,xs,k,j,rfl,rfl,ha,by rw[← rs.length];exact hj,?_⟩;exact(show Res E (some (Except.ok (Fl.nx,sl),jt.set h (.lst (ws.set j x)))) F3 H3 jA (FlP D) from R3) F3 _ jA (M3.gxP eb (nz ha)) (M3.put eb ⟨_,ZC,RWs.set (rx.mono (g2.trans g3).toGr) j rs⟩) σ (V.mono (g1.trans (g2.trans g3)).toGr)
def Q9(v d k:Wv):Mw Unit:=λom=>match OK om d k v with
 |some ij=>some (.ok (),ij)
 |none=>none
def YW(fv fd fk:FE):FS:=λsl=>bnd (fv sl) λv=>bnd (fd sl) λd=>bnd (fk sl) λk=>bnd (Q9 v d k) λ_=>ret (.nx,sl)
def Wf{o i v:Expr}{p1:Pos}(hu:X.A.units+64<cLine)(hv:PE X v (tE E fv))(ho:PE X o (tE E fo))(hi:PE X i (tE E fi))(hs:swapsWith v (some (.Subscript o i p1)) pos.line X.env=pure false:=by rfl):PS X (.Assign [.Subscript o i p1] v pos) (tS E (YW fv fo fi)):=by
 refine(Co (by omega) ho hi hv hs).weak λD σ H ⟨F,β,om,sl,M,V,R⟩=>?_
 refine⟨F,β,om,sl,M,V,R.bind λx om1 F1 H1 io g1 M1 R1 xv rx=>?_⟩;refine⟨F1,io,om1,sl,M1,V.mono g1.toGr,R1.bind λy om2 F2 H2 ja g2 M2 R2 yv ry=>?_⟩;refine⟨F2,ja,om2,sl,M2,V.mono (g1.trans g2).toGr,R2.bind λz jt F3 H3 jA g3 M3 R3 zv rz=>?_⟩;unfold bnd Q9 at R3
 match hx:OK jt y z x,R3 with
 |none,R3=>exact R3.elim
 |some ij,R3=>
  obtain⟨a,H',rfl,hp,gg,MM⟩:=Fu M3 (ry.mono g3.toGr) rz (rx.mono (g2.trans g3).toGr) hx;exact⟨a,H',rfl,hp,(show Res E (some (Except.ok (Fl.nx,sl),ij)) F3 H3 jA (FlP D) from R3) F3 H' jA gg MM σ (V.mono (g1.trans (g2.trans g3)).toGr)⟩
def X7(f:Str)(v:Wv):iK->List (Str × Wv)
 |[]=>[(f,v)]
 |(g,u)::r=>if g=f then (g,v)::r else (g,u)::X7 f v r
def RK.putF{F:Hp}{β:iA}{n:Str}{w:Wv}{v:V}(h:RW F β w v):∀{ps:iK} {qs:List (Str × V)},RK F β ps qs->RK F β (X7 n w ps) (L2.putF n v qs)
 |_,_,.nil=>.cons h .nil
 |_,_,.cons (k:=k') h' r=>by
  unfold X7 L2.putF;by_cases hk:k'=n
  ·rw[aC hk,aC hk];exact .cons h r
  ·rw[aE hk,aE hk];exact .cons h' (RK.putF h r)
def Nu(C:Addr)(n:Str)(v x:Wv):Mw Unit:=λom=>match x with
 |.o h=>match om[h]? with
  |some (.ins C' fs)=>if C'=C∧fs.length<900 then some (.ok (),om.set h (.ins C' (X7 n v fs))) else none
  |_=>none
 |_=>none
def Xr(C:Addr)(n:Str)(fv fo:FE):FS:=λsl=>bnd (fv sl) λv=>bnd (fo sl) λx=>bnd (Nu C n v x) λ_=>ret (.nx,sl)
def qs_fld{o v:Expr}{n:Str}{C:Addr}{p1:Pos}(cl:Cls X.K C)(na:NoAttr X.K C n)(hv:PE X v (tE E fv))(ho:PE X o (tE E fo))(hs:swapsWith v (some (.Attribute o n p1)) pos.line X.env=pure false:=by rfl):PS X (.Assign [.Attribute o n p1] v pos) (tS E (Xr C n fv fo)):=by
 refine(ps_fld ho hv hs).weak λD σ H ⟨F,β,om,sl,M,V,R⟩=>?_
 refine⟨F,β,om,sl,M,V,R.bind λx om1 F1 H1 io g1 M1 R1 xv rx=>?_⟩;refine⟨F1,io,om1,sl,M1,V.mono g1.toGr,R1.bind λy om2 F2 H2 ja g2 M2 R2 yv ry=>?_⟩;unfold bnd Nu at R2;cases ry with
 |@o h a eb=>
  dsimp only at R2
  match hx:om2[h]?,R2 with
  |none,R=>exact R.elim
  |some (.exc _),R=>exact R.elim
  |some (.dz _),R=>exact R.elim
  |some (.lst _),R=>exact R.elim
  |some (.dt _),R=>exact R.elim
  |some (.dk _),R=>exact R.elim
  |some (.ins C' fs),R=>
   obtain⟨a',ea,_,dx,jj,hf,rs⟩:=M2.at hx;have eb2:=ea;rw[eb]at ea;cases ea;dsimp only at R;by_cases hc:C'=C∧fs.length<900
   ·have R5:Res E (some (Except.ok (Fl.nx,sl),om2.set h (.ins C' (X7 n x fs)))) F2 H2 ja (FlP D):=by
     have:=R;rw[aC hc]at this;exact this
    obtain⟨rfl,hl⟩:=hc;have:=rs.length;refine⟨a,C',dx,jj,rfl,hf,cl,na,by omega,?_⟩;exact R5 F2 _ ja (M2.gxP eb2 (nz hf)) (M2.put eb2 ⟨dx,_,ZC,rs.putF (rx.mono g2.toGr)⟩) σ (V.mono (g1.trans g2).toGr)
   ·rw[aE hc]at R;exact R.elim
 |_=>exact R2.elim
end
def ItC(C:Hp->Prop)(J:It)(ws:iJ)(F:Hp)(β:iA):Prop:=∀F' iq H,Gr F F' β iq->Same F' H->C H->(∀(i:Nat) w,ws[i]?=some w->J.go i H∧∀x H',J.yld i H x H'->H'=H∧RW F' iq w x)∧∀i,ws.length<=i->J.stop i H
abbrev KP:=ItC λ_=>True
def ItC.mono{C:Hp->Prop}{J:It}{ws:iJ}{F F':Hp}{β iq:iA}(h:ItC C J ws F β)(g:Gr F F' β iq):ItC C J ws F' iq:=λF2 ja H g2 s=>h F2 ja H (g.trans g2) s
abbrev FI:=Sl->Mw (iJ)
def tI(E:XK)(f:FI):TI:=λσ H R=>∃F β om sl,MOk F H β om∧EnvOk F β σ sl∧Res E (f sl om) F H β λws F' H' iq=>∀J,KP J ws F' iq->R J H'
def PI.weak{X:Cx}{tg e:Expr}{t t':TI}(h:PI X tg e t)(w:∀σ H Q,t' σ H Q->t σ H Q):PI X tg e t':=λgV s σ H Q I q=>h gV s σ H Q I (w σ H Q q)
def ZN:Wv->Mw (iJ)
 |.lst ws=>ret ws
 |_=>Wg
def W4(n:Nat):iJ:=(List.range n).map λ(i:Nat)=>.int i
def DZ(lo:Int)(n:Nat):iJ:=(List.range n).map λ(i:Nat)=>.int (lo+i)
def Yw:Wv->Mw (iJ)
 |.int j=>bnd (chk (decide (-(2 ^ 62)<=j∧j<2 ^ 62))) λ_=>ret (W4 j.toNat)
 |_=>Wg
section
variable{X:Cx}{E:XK}{e a b tg:Expr}{es:iF}{f:FE}{fs:FA}{p pos:Pos}
def itl_ok{K:g9}{F:Hp}{β:iA}{a:Addr}{xs:iI}{ws:iJ}(q:Rd F a (.lst xs))(rs:RWs F β ws xs):KP (Itl K a) ws F β:=λF' iq H g s _=>by
 have hS:SqL K H a xs:=.inl (Rd.same s (Rd.same g.same q));refine⟨λi w e=>?_,λi hi=>⟨xs,hS,by rw[← rs.length];exact hi⟩⟩;obtain⟨v,ev,rv⟩:=rs.get e;refine⟨⟨xs,v,hS,ev⟩,λx H' ⟨e1,e2⟩=>⟨e1,?_⟩⟩;have:=e2 xs hS;rw[ev]at this;cases this;exact rv.mono g
def itr_ok{F:Hp}{β:iA}(lo:Int)(n:Nat):KP (Itr lo n) (DZ lo n) F β:=λF' iq H g s _=>by
 unfold DZ;refine⟨λi w e=>?_,λi hi=>(show n<=i by simpa using hi)⟩;have hi:i<n:=by have:=(aH.mp e).1;simpa using this
 rw[bA,ca hi]at e;cases e;exact⟨hi,λx H' ⟨e1,e2⟩=>⟨e1,by rw[e2];exact .int _⟩⟩
def Cn(n:Nat):W4 n=DZ 0 n:=by
 unfold W4 DZ;exact cq λi _=>by rw[Int.zero_add]
def Yg(hl:PE X e (tE E f)):PI X tg e (tI E λsl=>bnd (f sl) ZN):=(Cu hl).weak λσ H Q ⟨F,β,om,sl,M,V,R⟩=>by
 refine⟨F,β,om,sl,M,V,R.bind λx om1 F1 H1 io g1 M1 R1 v rv=>?_⟩;cases rv with
 |@lst a xs ws q rs=>exact⟨a,rfl,⟨xs,.inl (Rd.same M1.sub q)⟩,(show Res E (ret ws om1) F1 H1 io _ from R1).now M1 _ (itl_ok q rs)⟩
 |_=>exact R1.elim
def Yj(hg:Gl X "range")(hm:X.mg "range"=none)(ha:PE X a (tE E f))(h0:starEach [a] X.env=(false,eval a X.env)::starEach [] X.env:=by rfl)(hs:starEach [a] X.env=[(false,eval a X.env)]:=by rfl):PI X tg (.Call (.Name "range" p) [a] [] pos) (tI E λsl=>bnd (f sl) Yw):=(GL hg hm (XW ha VO h0) hs).weak λσ H Q ⟨F,β,om,sl,M,V,R⟩=>by
 refine⟨F,β,om,sl,M,V,R.bind λw om1 F1 H1 io g1 M1 R1 v rv=>?_⟩;cases rv with
 |int j=>
  obtain⟨hc,R2⟩:=Res.chk R1;obtain⟨h1,h2⟩:=bG hc;refine⟨j,rfl,h1,h2,?_⟩;have R3:Res E (ret (W4 j.toNat) om1) F1 H1 io λws F' H' iq=>∀J,KP J ws F' iq->Q J H':=R2
  exact R3.now M1 _ (by rw[Cn];exact itr_ok 0 _)
 |_=>exact R1.elim
end
abbrev TgW:=Wv->Sl->Option Sl
def Jd(g:TG)(T:TgW):Prop:=∀{F H:Hp} {β:iA} {om:iN} {σ:St} {sl iS:Sl} {w:Wv} {v:V} {Q:St->Hp->Prop},MOk F H β om->EnvOk F β σ sl->RW F β w v->T w sl=some iS->(∀iy,EnvOk F β iy iS->Q iy H)->g v σ H Q
def tgN(i:Nat):TgW:=λw sl=>some (sl.set i (some w))
def Nc(i:Nat):Jd (Ph i) (tgN i):=λM V r e q=>by
 cases e;exact q _ (V.set i r)
def QD(again:Sl->Mw (Fl × Sl)):Fl × Sl->Mw (Fl × Sl)
 |(.nx,sl)=>again sl
 |(.ct,sl)=>again sl
 |(.bk,sl)=>ret (.nx,sl)
 |(.rt w,sl)=>ret (.rt w,sl)
def VE(T:TgW)(S:FS):iJ->FS
 |[],sl=>ret (.nx,sl)
 |w::r,sl=>match T w sl with
  |none=>Wg
  |some sl1=>bnd (S sl1) (QD λiT=>VE T S r iT)
def XQ(fi:FI)(T:TgW)(S:FS):FS:=λsl=>bnd (fi sl) λws=>VE T S ws sl
section
variable{X:Cx}{E:XK}{tg il:Expr}{body:List Stmt}{fi:FI}{T:TgW}{g:TG}{S:FS}{pos:Pos}
def for_go{D:Ends}{J:It}{ws:iJ}{σ:St}{H F:Hp}{β:iA}{om:iN}{sl:Sl}(ht:Jd g T)(hJ:KP J ws F β)(M:MOk F H β om)(V:EnvOk F β σ sl)(R:Res E (VE T S ws sl om) F H β (FlP D)):∃W:Nat->Nat->St->Hp->Prop,(∃m,W 0 m σ H)∧∀i m σ H,W i m σ H -> (J.stop i H∧D.nx σ H)∨(J.go i H∧∃N:St->Hp->Prop,(∀iy H',N iy H'->∃m',m'<m∧W (i+1) m' iy H')∧∀x H',J.yld i H x H'->g x σ H' λjn H2=>tS E S {D with nx:=N,ct:=N,bk:=D.nx} jn H2):=by
 refine⟨λi m σ H=>m=ws.length-i∧i<=ws.length∧∃F β om sl,KP J ws F β∧MOk F H β om∧EnvOk F β σ sl∧Res E (VE T S (ws.drop i) sl om) F H β (FlP D),⟨ws.length,by simp,cy _,F,β,om,sl,hJ,M,V,R⟩,?_⟩;rintro i m σ H ⟨rfl,hi,F,β,om,sl,hJ,M,V,R⟩;obtain⟨j1,j2⟩:=hJ F β H (Gr.refl _ _) M.sub True.intro;by_cases iW:i<ws.length
 ·obtain⟨go,yl⟩:=j1 i ws[i] (aI iW)
  refine .inr ⟨go,λiy H'=>i+1<=ws.length∧∃F β om sl,KP J ws F β∧MOk F H' β om∧EnvOk F β iy sl∧Res E (VE T S (ws.drop (i+1)) sl om) F H' β (FlP D),λiy H' ⟨h1,h2⟩=>⟨ws.length-(i+1),by omega,rfl,h1,h2⟩,λx H' hy=>?_⟩;obtain⟨rfl,rx⟩:=yl x H' hy;rw[fh iW]at R;have R:Res E ((match T ws[i] sl with|none=>Wg|some sl1=>bnd (S sl1) (QD λiT=>VE T S (ws.drop (i+1)) iT)) om) F H' β (FlP D):=R
  match hT:T ws[i] sl,R with
  |none,R=>exact R.elim
  |some sl1,R=>
   refine ht M V rx hT λjn V2=>?_
   refine⟨F,β,om,sl1,M,V2,Res.bind R λy om1 F1 H1 io g1 M1 R1=>?_⟩;obtain⟨fl,iT⟩:=y;cases fl with
   |nx=>exact λiy V'=>⟨iW,F1,io,om1,iT,hJ.mono g1.toGr,M1,V',R1⟩
   |ct=>exact λiy V'=>⟨iW,F1,io,om1,iT,hJ.mono g1.toGr,M1,V',R1⟩
   |bk=>exact(show Res E (ret (Fl.nx,iT) om1) F1 H1 io (FlP D) from R1).now M1
   |rt w=>exact(show Res E (ret (Fl.rt w,iT) om1) F1 H1 io (FlP D) from R1).now M1
 ·have e:i=ws.length:=by omega
  subst e;rw[gJ]at R;exact .inl ⟨j2 _ (aK _),(show Res E (ret (Fl.nx,sl) om) F H β (FlP D) from R).now M σ V⟩
def Dt(hp:PassesOwn (model X.prog X.w) X.A X.env X.xe)(hc:X.calm=true)(hi:PI X tg il (tI E fi))(hg:PG X tg g)(ht:Jd g T)(hb:PSs X body (tS E S))(hs:∀x,foldedSetIterable il X.env x=pure x:=by intro _;rfl):PS X (.For tg il body [] pos) (tS E (XQ fi T S)):=(EW hp hc hi hg hb hs).weak λD σ H ⟨F,β,om,sl,M,V,R⟩=>by
 refine⟨F,β,om,sl,M,V,R.bind λws om1 F1 H1 io g1 M1 R1 J hJ=>?_⟩;exact for_go ht hJ M1 (V.mono g1.toGr) R1
end
def Xd(js:iD)(w:Wv)(sl:Sl):Sl:=some w::js.map λj=>(sl[j]?).join
def EnvOk.comp{F:Hp}{β:iA}{σ:St}{sl:Sl}{w:Wv}{v:V}(V:EnvOk F β σ sl)(js:iD)(r:RW F β w v):EnvOk F β (Sq js (some v) σ) (Xd js w sl):=by
 refine⟨by simp[Xd,Sq],λi u e=>?_⟩;cases i with
 |zero=>
  have e:some (some w)=some (some u):=e;cases e;exact⟨v,rfl,r⟩
 |succ k=>
  have e:(js.map λj=>(sl[j]?).join)[k]?=some (some u):=e;rw[bA]at e
  match hj:js[k]?,e with
  |none,e=>exact nomatch e
  |some j,e=>
   have e:some (sl[j]?).join=some (some u):=e
   have e2:sl[j]?=some (some u):=by
    cases q:sl[j]? with
    |none=>rw[q]at e;cases e
    |some o=>
     rw[q]at e;have e:some o=some (some u):=e;cases e;rfl
   obtain⟨v',h1,h2⟩:=V.get j u e2;refine⟨v',?_,h2⟩;show(js.map λj=>(σ[j]?).join)[k]?=some (some v');rw[bA,hj,eO,h1];rfl
def MK(again:Mw (iJ))(f:Mw Wv)(b:Bool):Mw (iJ):=if b=true then bnd (Yb f) λx=>bnd again λxs=>ret (x::xs) else again
def Xm(c:FT)(f:FE)(mk:Wv->Sl):iJ->Mw (iJ)
 |[]=>ret []
 |w::r=>bnd (Yb (c (mk w))) (MK (Xm c f mk r) (f (mk w)))
def Z5(k:iJ->Mw Wv)(js:iD)(fi:FI)(c:FT)(f:FE):FE:=λsl=>bnd (fi sl) λws=>bnd (chk (decide (ws.length<=lim))) λ_=>bnd (Xm c f (λw=>Xd js w sl) ws) k
def Xh:FT:=λ_=>ret true
def YU{X:Cx}{E:XK}:Td X [] (tT E Xh):=λgV s σ H Q I ⟨F,β,om,sl,M,V,R⟩=>Fa gV s σ H Q I ((show Res E (ret true om) F H β _ from R).now M)
def Xk{X:Cx}{E:XK}{e:Expr}{c:FT}(h:PT X e (tT E c)):Td X [e] (tT E c):=Ee h
def Tp{α γ δ:Type}(m:Mw α)(k:α->Mw γ)(l:γ->Mw δ):bnd (bnd m k) l=bnd m λx=>bnd (k x) l:=by
 funext om;unfold bnd
 match m om with
 |none=>rfl
 |some (.ok a,ij)=>rfl
 |some (.error c,ij)=>rfl
def wo(H:Hp)(D:Addr):Hp:=λb=>if b=D then none else H b
def Mh{H:Hp}{D:Addr}{o:HO}(e:H D=some o):upd (wo H D) D o=H:=by
 funext b;unfold upd wo;by_cases h:b=D
 ·rw[aC h,h,e]
 ·rw[aE h,aE h]
def Lq{H:Hp}{D b:Addr}(h:b≠D):wo H D b=H b:=aE h
def MR{H:Hp}{D:Addr}:wo H D D=none:=aC rfl
section
variable{X:Cx}{E:XK}{js:iD}{c:FT}{f:FE}{k:iJ->Mw Wv}
def beside{F F' Hm H':Hp}{β iq:iA}{om ij:iN}{D:Addr}{ys:iI}(hD:Hm D=none)(M:MOk F Hm β om)(g:Gx F F' (upd Hm D (.lst ys)) H' β iq)(M':MOk F' H' iq ij):H' D=some (.lst ys)∧Gx F F' Hm (wo H' D) β iq∧MOk F' (wo H' D) iq ij:=by
 have nD:D ∉ β:=λhm=>by
  obtain⟨i,hi⟩:=c8 hm;obtain⟨x,hx⟩:=M.there hi;rw[hD]at hx;cases hx
 have fD:F D=none:=M.sub.free hD;have e1:H' D=some (.lst ys):=g.keep D _ ZC nD;have nD':D ∉ iq:=λhm=>(g.new D hm).elim nD λz=>by rw[ZC]at z;cases z
 have fD':F' D=none:=by
  cases q:F' D with
  |none=>rfl
  |some o=>
   rcases g.fnew D o q with z|z
   ·rw[fD]at z;cases z
   ·rw[ZC]at z;cases z
 refine⟨e1,⟨g.toGr,λb o e hb=>?_,λb e=>?_,λb hb=>?_,λb o e=>?_,λb o u e=>?_⟩,⟨λb o e=>?_,M'.nd,M'.len,M'.free,λh a x h1 h2=>(M'.ob h a x h1 h2).mono (Gr.refl _ _) ?_⟩⟩
 ·have hbD:b≠D:=ZX e hD
  rw[Lq hbD];exact g.keep b o (by rw[Zx hbD];exact e) hb
 ·by_cases hbD:b=D
  ·rw[hbD];exact hD
  ·rw[Lq hbD]at e
   have:=g.there b e;rw[Zx hbD]at this;exact this
 ·rcases g.new b hb with h|h
  ·exact .inl h
  ·have hbD:b≠D:=λz=>nD' (z ▸ hb)
   rw[Zx hbD]at h;exact .inr h
 ·rcases g.fnew b o e with h|h
  ·exact .inl h
  ·have hbD:b≠D:=λz=>by rw[z,fD']at e;cases e
   rw[Zx hbD]at h;exact .inr h
 ·have hbD:b≠D:=ZX e hD
  rw[Lq hbD];exact g.frz b o u (by rw[Zx hbD];exact e)
 ·have hbD:b≠D:=λz=>by rw[z,fD']at e;cases e
  rw[Lq hbD];exact M'.sub b o e
 ·exact Lq λz=>nD' (z ▸ bM h1)
def Tg{C:Hp->Prop}{J:It}{ws:iJ}{σ:St}{sl:Sl}{F1 H1 F0 H0:Hp}{io jC:iA}{om1:iN}{P:Wv->Hp->Hp->List Addr->Prop}{Q:VK}{D:Addr}{mk:Wv->Sl}{K:V->Hp->(St->Hp->Prop)->Prop}(m7:Wv->Prop)(GG:Hp->Hp->List Addr->Prop)(hK:∀{F H:Hp} {β:iA} {om:iN} {w:Wv} {x:V} {P:St->Hp->Prop},MOk F H β om->EnvOk F β σ sl->RW F β w x->m7 w->(∀jn,EnvOk F β jn (mk w)->P jn H)->K x H P) (mq:∀w∈ws,m7 w)(hG:∀{F F' H H':Hp} {β iq:iA} {om:iN},MOk F H β om->GG F H β->Gx F F' H H' β iq->GG F' H' iq) (hC:∀{F H:Hp} {β:iA},GG F H β->C H) (hJ:ItC C J ws F1 io)(hk:∀{us:iJ} {vs:iI} {om:iN} {F H:Hp} {β:iA},MOk F H β om->GG F H β->RWs F β us vs->Res E (k us om) F0 H0 jC P->H D=none->Q (.ref D) (upd H D (.lst vs)))(M1:MOk F1 H1 io om1) (V0:EnvOk F1 io σ sl) (G1:GG F1 H1 io) (hD:H1 D=none) (j5:ws.length<=lim) (R1:Res E (bnd (Xm c f mk ws) k om1) F0 H0 jC P):∃W:Nat->Nat->List V->Hp->Prop,(∃m,W 0 m [] (upd H1 D (.lst [])))∧∀i m ys H2,W i m ys H2->H2 D=some (.lst ys) ∧ ((J.stop i H2∧Q (.ref D) H2)∨(J.go i H2∧∀x H',J.yld i H2 x H'->K x H' λjn H6=>tT E0 c jn H6 λb H3=>if b=true then tE E0 f jn H3 λv H4=>H4 D=some (.lst ys)∧ys.length<sizeLine∧∃m',m'<m∧W (i+1) m' (ys++[v]) (upd H4 D (.lst (ys++[v])))
      else ∃m',m'<m∧W (i+1) m' ys H3)):=by
 have iQ:=UB
 refine⟨λi m ys H2=>m=ws.length-i∧i<=ws.length∧ys.length<=i∧∃F β om Hm iz,H2=upd Hm D (.lst ys)∧Hm D=none∧ItC C J ws F β∧GG F Hm β∧MOk F Hm β om∧EnvOk F β σ sl∧RWs F β iz ys∧Res E (bnd (Xm c f mk (ws.drop i)) (λxs=>k (iz++xs)) om) F0 H0 jC P,
  ⟨ws.length,by simp,cy _,cy _,F1,io,om1,H1,[],rfl,hD,hJ,G1,M1,V0,.nil,R1⟩,?_⟩
 rintro i m ys H2 ⟨rfl,hi,hys,F,β,om,Hm,iz,rfl,hDm,hJ,G,M,V,ra,R⟩;refine⟨ZC,?_⟩;have MU:MOk F (upd Hm D (.lst ys)) β om:=M.newU hDm;obtain⟨j1,j2⟩:=hJ F β _ (Gr.refl _ _) MU.sub (hC (hG M G (M.gxU (o:=.lst ys) hDm)));by_cases iW:i<ws.length
 ·obtain⟨go,yl⟩:=j1 i ws[i] (aI iW)
  refine .inr ⟨go,λx H' hy=>?_⟩;obtain⟨rfl,rx⟩:=yl x H' hy;rw[fh iW]at R;have R:Res E (bnd (bnd (Yb (c (mk ws[i]))) (MK (Xm c f mk (ws.drop (i+1))) (f (mk ws[i])))) (λxs=>k (iz++xs)) om) F0 H0 jC P:=R;rw[Tp]at R;refine hK MU V rx (mq _ (eF iW)) λjn V2=>?_
  refine⟨F,β,om,_,MU,V2,?_⟩;have R':=R;unfold bnd Yb at R'
  match hm:c (mk ws[i]) om,R' with
  |none,R'=>exact R'.elim
  |some (.error _,_),R'=>exact R'.elim
  |some (.ok b,om1),R'=>
   clear R;intro F1 H1 io g1 M1;obtain⟨e1,nU,mr⟩:=beside hDm M g1 M1;have R1:Res E (bnd (MK (Xm c f mk (ws.drop (i+1))) (f (mk ws[i])) b) (λxs=>k (iz++xs)) om1) F0 H0 jC P:=R';have G1:=hG M G nU;cases b with
   |false=>
    rw[aE aJ];refine⟨ws.length-(i+1),by omega,rfl,iW,by omega,F1,io,om1,wo H1 D,iz,(Mh e1).symm,MR,hJ.mono g1.toGr,G1,mr,V.mono g1.toGr,ra.mono g1.toGr,R1⟩
   |true=>
    rw[aC rfl];have R2:Res E (bnd (bnd (Yb (f (mk ws[i]))) λx=>bnd (Xm c f mk (ws.drop (i+1))) λxs=>ret (x::xs)) (λxs=>k (iz++xs)) om1) F0 H0 jC P:=R1;rw[Tp]at R2;refine⟨F1,io,om1,_,M1,V2.mono g1.toGr,?_⟩;unfold bnd Yb at R2
    match jH:f (mk ws[i]) om1,R2 with
    |none,R2=>exact R2.elim
    |some (.error _,_),R2=>exact R2.elim
    |some (.ok y,om2),R2=>
     intro F2 H2 ja g2 M2 v rv;obtain⟨e2,nV,nW⟩:=beside (Hm:=wo H1 D) (ys:=ys) MR mr (by rw[Mh e1];exact g2) M2;have R3:Res E (bnd (bnd (Xm c f mk (ws.drop (i+1))) λxs=>ret (y::xs)) (λxs=>k (iz++xs)) om2) F0 H0 jC P:=R2;rw[Tp]at R3
     have R3:Res E (bnd (Xm c f mk (ws.drop (i+1))) (λxs=>k ((iz++[y])++xs)) om2) F0 H0 jC P:=by
      have e:(λxs=>k ((iz++[y])++xs))=λxs=>k (iz++y::xs):=by funext xs;rw[bS];rfl
      rw[e];exact R3
     have ra2:RWs F2 ja (iz++[y]) (ys++[v]):=(ra.mono (g1.trans g2).toGr).append (.cons rv .nil);refine⟨e2,by omega,ws.length-(i+1),by omega,rfl,iW,by rw[aT,dJ];omega,F2,ja,om2,wo H2 D,iz++[y],?_,MR,hJ.mono (g1.trans g2).toGr,hG mr G1 nV,nW,V.mono (g1.trans g2).toGr,ra2,R3⟩;rw[← Mh e2,Ik,Mh e2]
 ·have e:i=ws.length:=by omega
  subst e;rw[gJ]at R;have R:Res E (k (iz++[]) om) F0 H0 jC P:=R;rw[cC]at R;exact .inl ⟨j2 _ (aK _),hk M G ra R hDm⟩
def Hl{fi:FI}(hk:WT E k){σ:St}{H:Hp}{Q:VK}(h:tE E (Z5 k js fi c f) σ H Q):LQ (tI E fi) js (λ_ _ _ _=>tT E0 c) (λ_ _ _ _=>tE E0 f) σ H Q:=by
 obtain⟨F,β,om,sl,M,V,R⟩:=h;refine⟨F,β,om,sl,M,V,R.bind λws om1 F1 H1 io g1 M1 R1 J hJ D hD _ _ _ _=>?_⟩;obtain⟨j5,R1⟩:=Res.chk R1;exact Tg (C:=λ_=>True) (mk:=λw=>Xd js w sl) (K:=λx H' P=>P (Sq js (some x) σ) H') (λ_=>True) (λF H β=>Gx F1 F H1 H io β) (λ_ V r _ h=>h _ (V.comp js r)) (λ_ _=>True.intro) (λ_ a b=>a.trans b) (λ_=>True.intro) hJ (λM' G' rs R' ku=>(hk M' rs (Res.mono G' R')).2 ku) M1 (V.mono g1.toGr) (Gx.refl _ _ _) hD (bG j5) R1
def parts:Wv->List Wv
 |.tup ws=>ws
 |_=>[]
def Dn(n:Nat):Wv->Bool
 |.tup ws=>decide (ws.length=n)
 |_=>false
def SX(js:iD)(w:Wv)(sl:Sl):Sl:=(parts w).map some++js.map λj=>(sl[j]?).join
def Vm(k:iJ->Mw Wv)(n:Nat)(js:iD)(fi:FI)(c:FT)(f:FE):FE:=λsl=>bnd (fi sl) λws=>bnd (chk (decide (ws.length<=lim)&&ws.all (Dn n))) λ_=>bnd (Xm c f (λw=>SX js w sl) ws) k
abbrev gNs:iD->TGs
 |[]=>gNil
 |i::is=>B3 (Ph i) (gNs is)
def O7{H:Hp}{Q:St->Hp->Prop}:∀(k s:Nat) (pre k9 cap:St) (vs:iI),pre.length=s->k9.length=k->vs.length=k->Q (pre++vs.map some++cap) H->gNs (List.range' s k) vs (pre++k9++cap) H Q
 |0,s,pre,[],cap,[],_,_,_,q=>⟨rfl,q⟩
 |k+1,s,pre,a::k9,cap,v::vs,hp,h0,hv,q=>by
  refine⟨v,vs,rfl,?_⟩
  have e:(pre++a::k9++cap).set s (some v)=(pre++[some v])++k9++cap:=by
   rw[bS,bU _ _ (by omega),show s-pre.length=0 by omega];simp
  show gNs (List.range' (s+1) k) vs ((pre++a::k9++cap).set s (some v)) H Q;rw[e];refine O7 k (s+1) _ k9 cap vs (by simp[hp]) (by simpa using h0) (by simpa using hv) ?_;have e2:pre++[some v]++vs.map some++cap=pre++(v::vs).map some++cap:=by simp
  rw[e2];exact q
 |0,_,_,_::_,_,_,_,h0,_,_=>by cases h0
 |0,_,_,[],_,_::_,_,_,hv,_=>by cases hv
 |k+1,_,_,[],_,_,_,h0,_,_=>by cases h0
 |k+1,_,_,_::_,_,[],_,_,hv,_=>by cases hv
def EnvOk.compT{F:Hp}{β:iA}{σ:St}{sl:Sl}{ws:iJ}{vs:iI}(V:EnvOk F β σ sl)(js:iD)(r:RWs F β ws vs):EnvOk F β (vs.map some++Sg js σ) (ws.map some++js.map λj=>(sl[j]?).join):=by
 refine⟨by simp[Sg,r.length],λi u e=>?_⟩;by_cases hi:i<ws.length
 ·rw[aQ (by simpa using hi),bA]at e
  match hw:ws[i]?,e with
  |none,e=>exact nomatch e
  |some w,e=>
   have e:some (some w)=some (some u):=e;cases e;obtain⟨v,ev,rv⟩:=r.get hw;refine⟨v,?_,rv⟩;rw[aQ (by rw[aA,← r.length];exact hi),bA,ev];rfl
 ·have hl:=r.length
  rw[bD (by simpa using hi),aA,bA]at e
  match hj:js[i-ws.length]?,e with
  |none,e=>exact nomatch e
  |some j,e=>
   have e:some (sl[j]?).join=some (some u):=e
   have e2:sl[j]?=some (some u):=by
    cases q:sl[j]? with
    |none=>rw[q]at e;cases e
    |some o=>
     rw[q]at e;have e:some o=some (some u):=e;cases e;rfl
   obtain⟨v',h1,h2⟩:=V.get j u e2;refine⟨v',?_,h2⟩;rw[bD (by rw[aA];omega),aA,← hl];show(js.map λj=>(σ[j]?).join)[i-ws.length]?=some (some v');rw[bA,hj,eO,h1];rfl
def Ll{Kf:g9}{fi:FI}{n:Nat}(hk:WT E k){σ:St}{H:Hp}{Q:VK}(h:tE E (Vm k n js fi c f) σ H Q):Mq (tI E fi) n (Hv Kf n (gNs (List.range' 0 n))) js (λ_ _ _ _=>tT E0 c) (λ_ _ _ _=>tE E0 f) σ H Q:=by
 obtain⟨F,β,om,sl,M,V,R⟩:=h;refine⟨F,β,om,sl,M,V,R.bind λws om1 F1 H1 io g1 M1 R1 J hJ D hD _ _ _ _=>?_⟩;obtain⟨j5,R1⟩:=Res.chk R1;obtain⟨nX,nY⟩:=bQ.mp j5;refine Tg (C:=λ_=>True) (mk:=λw=>SX js w sl) (K:=λx H' P=>∀vs:St,vs.length=n->Hv Kf n (gNs (List.range' 0 n)) x (vs++Sg js σ) H' λjn H6=>(∃kJ:St,kJ.length=n∧jn=kJ++Sg js σ)∧P jn H6) (λw=>Dn n w=true) (λF H β=>Gx F1 F H1 H io β) ?_ (λw hw=>cQ.mp nY w hw) (λ_ a b=>a.trans b) (λ_=>True.intro) hJ (λM' G' rs R' ku=>(hk M' rs (Res.mono G' R')).2 ku) M1 (V.mono g1.toGr) (Gx.refl _ _ _) hD (bG nX) R1;intro F2 H2 ja om2 w x P M2 V2 mj hn hP vs mw;cases mj with
 |@tup a xs us q rs=>
  have hn:us.length=n:=bG hn;have hl:=rs.length;refine⟨a,xs,rfl,SqT.of (M2.sub _ _ q),by omega,?_⟩;refine O7 n 0 [] vs (Sg js σ) xs rfl mw (by omega) ⟨⟨xs.map some,by rw[aA];omega,by simp⟩,hP _ ?_⟩;exact V2.compT js rs
 |_=>cases hn
def Sx:Key->Wv
 |.inl i=>.int i
 |.inr x=>.str x
def JG(d:Wv):Mw (Bool × Nat × iJ):=λom=>match d with
 |.o h=>match om[h]? with
  |some (.dk kvs)=>if kvs.length<=lim then some (.ok (true,h,kvs.map λp=>Sx p.1),om.set h (.dz kvs)) else none
  |some (.dz kvs)=>if kvs.length<=lim then some (.ok (false,h,kvs.map λp=>Sx p.1),om) else none
  |_=>none
 |_=>none
def Jj(b:Bool)(h:Nat):Mw Unit:=λom=>if b=true then (match om[h]? with
 |some (.dz kvs)=>some (.ok (),om.set h (.dk kvs))
 |_=>none) else some (.ok (),om)
def Vg(k:iJ->Mw Wv)(js:iD)(fd:FE)(c:FT)(f:FE):FE:=λsl=>bnd (fd sl) λd=>bnd (JG d) λp=>bnd (Xm c f (λw=>Xd js w sl) p.2.2) λxs=>bnd (Jj p.1 p.2.1) λ_=>k xs
def M7{F:Hp}{β:iA}{d:Addr}{ob:Obj}{kvs:iM}{ks:List (Key × V)}(rs:RK F β kvs ks):ItC (λH=>H d=some (.frz ob (.dK ks))) (Itd d ob ks) (kvs.map λp=>Sx p.1) F β:=λF' iq H g s hc=>by
 have hl:=rs.length
 have key:∀{ps:iM} {qs:List (Key × V)},RK F β ps qs->∀(i:Nat) p,qs[i]?=some p->(ps.map λp=>Sx p.1)[i]?=some (Sx p.1):=by
  intro ps qs r
  induction r with
  |nil=>intro i p e;simp at e
  |cons h r ih=>
   intro i p e;cases i with
   |zero=>simp at e;subst e;rfl
   |succ i=>simpa using ih i p (by simpa using e)
 refine⟨λi w e=>?_,λi hi=>⟨hc,by rw[aA]at hi;omega⟩⟩;have hi:i<ks.length:=by have:=(aH.mp e).1;rw[aA]at this;omega
 refine⟨⟨hc,hi⟩,λx H' ⟨e1,p,e2,e3⟩=>⟨e1,?_⟩⟩;have:=key rs i p e2;rw[e]at this;cases this;subst e3;obtain⟨k',v⟩:=p;cases k' with
 |inl n=>exact .int n
 |inr y=>exact .str y
def Gx.unfrz{F F' H H':Hp}{β iq:iA}{d:Addr}{u:HO}{ob:Obj}{om:iN}{h:Nat}(hb:β[h]?=some d)(M:MOk F H β om)(hz:H d=some (.frz ob u))(hu:∀o w,u≠.frz o w)(g:Gx F F' H H' β iq):Gx F F' (upd H d u) (upd H' d u) β iq:=by
 have nd:∀b,b ∉ β->b≠d:=λb n z=>n (z ▸ bM hb)
 refine⟨g.toGr,λb o e n=>?_,λb e=>?_,λb m=>?_,λb o e=>?_,λb o w e=>?_⟩
 ·rw[Zx (nd b n)]at e ⊢;exact g.keep b o e n
 ·by_cases z:b=d
  ·rw[z,ZC]at e;cases e
  ·rw[Zx z]at e ⊢;exact g.there b e
 ·by_cases z:b=d
  ·rw[z];exact .inl (bM hb)
  ·rw[Zx z];exact g.new b m
 ·by_cases z:b=d
  ·rcases g.fnew b o e with q|q
   ·exact .inl q
   ·rw[z,hz]at q;cases q
  ·rw[Zx z];exact g.fnew b o e
 ·by_cases z:b=d
  ·rw[z,ZC]at e;cases e;exact absurd rfl (hu o w)
  ·rw[Zx z]at e ⊢;exact g.frz b o w e
def Held(h:Nat)(d:Addr)(ob:Obj)(ks:List (Key × V))(F1 H1:Hp)(io:iA):Hp->Hp->List Addr->Prop:=λF H β=>β[h]?=some d∧H d=some (.frz ob (.dK ks))∧Gx F1 F H1 (upd H d (.dK ks)) io β
def Held.go{h:Nat}{d:Addr}{ob:Obj}{ks:List (Key × V)}{F1 H1 F F' H H':Hp}{io β iq:iA}{om:iN}(M:MOk F H β om)(G:Held h d ob ks F1 H1 io F H β)(g:Gx F F' H H' β iq):Held h d ob ks F1 H1 io F' H' iq:=
 ⟨g.pre h d G.1,g.frz d _ _ G.2.1,G.2.2.trans (g.unfrz G.1 M G.2.1 (λ_ _ z=>by cases z))⟩
def Held.start{h:Nat}{d:Addr}{ob:Obj}{ks:List (Key × V)}{F1 H1:Hp}{io:iA}(eb:io[h]?=some d)(jl:H1 d=some (.dK ks)):Held h d ob ks F1 H1 io F1 (upd H1 d (.frz ob (.dK ks))) io:=by
 have back:upd (upd H1 d (.frz ob (.dK ks))) d (.dK ks)=H1:=by
  rw[Ik];funext b;by_cases z:b=d
  ·rw[z,ZC,jl]
  ·rw[Zx z]
 exact⟨eb,ZC,by rw[back];exact Gx.refl _ _ _⟩
def Held.thw{γ:Type}{k:Unit->Mw γ}{h:Nat}{d:Addr}{ob:Obj}{ks:List (Key × V)}{F1 H1 F H:Hp}{io β:iA}{om:iN}{P:γ->Hp->Hp->List Addr->Prop}(M:MOk F H β om)(G:Held h d ob ks F1 H1 io F H β)(R:Res E (bnd (Jj true h) k om) F1 H1 io P):∃kvs,MOk F (upd H d (.dK ks)) β (om.set h (.dk kvs))∧Res E (k () (om.set h (.dk kvs))) F1 H1 io P:=by
 obtain⟨jB,kx,gg⟩:=G;unfold bnd Jj at R;rw[aC rfl]at R
 match hy:om[h]?,R with
 |none,R=>exact R.elim
 |some (.ins _ _),R=>exact R.elim
 |some (.exc _),R=>exact R.elim
 |some (.lst _),R=>exact R.elim
 |some (.dt _),R=>exact R.elim
 |some (.dk _),R=>exact R.elim
 |some (.dz jc),R=>
  obtain⟨a',ea,_,nP,o8,lA,kL⟩:=M.at hy;rw[jB]at ea;cases ea;rw[kx]at lA;cases lA;exact⟨jc,M.put jB ⟨ks,ZC,kL⟩,R⟩
def Res.frz{γ:Type}{k:Bool × Nat × iJ->Mw γ}{F H:Hp}{β:iA}{om:iN}{w:Wv}{v:V}{P:γ->Hp->Hp->List Addr->Prop}(M:MOk F H β om)(r:RW F β w v)(R:Res E (bnd (JG w) k om) F H β P):∃h d ks kvs,v=.ref d∧β[h]?=some d∧RK F β kvs ks∧kvs.length<=lim∧((H d=some (.dK ks)∧(∀ob,MOk F (upd H d (.frz ob (.dK ks))) β (om.set h (.dz kvs)))∧Res E (k (true,h,kvs.map λp=>Sx p.1) (om.set h (.dz kvs))) F H β P)∨∃ob,H d=some (.frz ob (.dK ks))∧Res E (k (false,h,kvs.map λp=>Sx p.1) om) F H β P):=by
 cases r with
 |@o h d eb=>
  unfold bnd JG at R;dsimp only at R
  match hx:om[h]?,R with
  |none,R=>exact R.elim
  |some (.ins _ _),R=>exact R.elim
  |some (.exc _),R=>exact R.elim
  |some (.lst _),R=>exact R.elim
  |some (.dt _),R=>exact R.elim
  |some (.dk kvs),R=>
   obtain⟨a',ea,hF,ks,jl,rs⟩:=M.at hx;have eb2:=ea;rw[eb]at ea;cases ea;dsimp only at R;by_cases ip:kvs.length<=lim
   ·rw[aC ip]at R
    exact⟨h,d,ks,kvs,rfl,eb2,rs,ip,.inl ⟨jl,λob=>M.put eb2 ⟨ob,ks,ZC,rs⟩,R⟩⟩
   ·rw[aE ip]at R;exact R.elim
  |some (.dz kvs),R=>
   obtain⟨a',ea,hF,ob,ks,jl,rs⟩:=M.at hx;have eb2:=ea;rw[eb]at ea;cases ea;dsimp only at R;by_cases ip:kvs.length<=lim
   ·rw[aC ip]at R
    exact⟨h,d,ks,kvs,rfl,eb2,rs,ip,.inr ⟨ob,jl,R⟩⟩
   ·rw[aE ip]at R;exact R.elim
 |_=>exact R.elim
def Kj{X:Cx}{fd:FE}(hk:WT E k){σ:St}{H:Hp}{Q:VK}(h:tE E (Vg k js fd c f) σ H Q):LQ (BP X (tE E fd)) js (λ_ _ _ _=>tT E0 c) (λ_ _ _ _=>tE E0 f) σ H (λv=>Thawed X (Q v)):=by
 obtain⟨F,β,om,sl,M,V,R⟩:=h;refine⟨F,β,om,sl,M,V,R.bind λw om1 F1 H1 io g1 M1 R1 v rv=>?_⟩;obtain⟨h,d,ks,kvs,rfl,eb,rs,ip,R1⟩:=R1.frz M1 rv;rcases R1 with ⟨jl,Mz,R2⟩|⟨ob,jl,R2⟩
 ·refine⟨d,ks,rfl,.inl ⟨jl,λob nf D hD _ _ _ _=>?_⟩⟩
  refine Tg (C:=λH=>H d=some (.frz ob (.dK ks))) (Q:=λv=>Thawed X (Q v)) (mk:=λw=>Xd js w sl) (K:=λx H' P=>P (Sq js (some x) σ) H') (λ_=>True) (Held h d ob ks F1 H1 io) (λ_ V r _ h=>h _ (V.comp js r)) (λ_ _=>True.intro)
   (λM' G' g'=>Held.go M' G' g') (λG'=>G'.2.1) (M7 rs) ?_ (Mz ob) (V.mono g1.toGr) (Held.start eb jl) hD (by rw[aA];exact ip) R2
  intro us vs ij F' H' iq M' G' ra R' ku;have kx:=G'.2.1;obtain⟨jc,Mt,R'⟩:=Held.thw M' G' R';have nDd:D≠d:=λz=>by rw[z,kx]at ku;cases ku
  have q:=(hk (p:=D) Mt ra (Res.mono G'.2.2 R')).2 (by rw[Zx nDd];exact ku);refine .inl ⟨d,ob,ks,nf,by rw[Zx (cI nDd)];exact kx,?_⟩
  have e:upd (upd H' D (.lst vs)) d (.dK ks)=upd (upd H' d (.dK ks)) D (.lst vs):=by
   funext b;by_cases z1:b=d
   ·rw[z1,ZC,Zx (cI nDd),ZC]
   ·by_cases z2:b=D
    ·rw[z2,Zx nDd,ZC,ZC]
    ·rw[Zx z1,Zx z2,Zx z2,Zx z1]
  show Q (.ref D) _;rw[e];exact q
 ·refine⟨d,ks,rfl,.inr ⟨ob,jl,λD hD _ _ _ _=>?_⟩⟩
  refine Tg (C:=λH=>H d=some (.frz ob (.dK ks))) (Q:=λv=>Thawed X (Q v)) (mk:=λw=>Xd js w sl) (K:=λx H' P=>P (Sq js (some x) σ) H') (λ_=>True) (λF H β=>Gx F1 F H1 H io β) (λ_ V r _ h=>h _ (V.comp js r)) (λ_ _=>True.intro)
   (λ_ a b=>a.trans b) (λG'=>G'.frz d _ _ jl) (M7 rs) ?_ M1 (V.mono g1.toGr) (Gx.refl _ _ _) hD (by rw[aA];exact ip) R2
  intro us vs ij F' H' iq M' G' ra R' ku;have R':Res E (k us ij) F1 H1 io (PV Q):=R';exact .inr ((hk (p:=D) M' ra (Res.mono G' R')).2 ku)
section
variable{scope:Scope}{cl:hX}{x:Str}{cn:iE}{i0 il:Expr}{iZ:iF}{px pos:Pos}{fi:FI}
def D3(hk:WT E k)(O:CompOk X oc scope cl x cn js)(hc:X.calm=true)(hi:PI X (.Name x px) il (tI E fi))(ht:∀C ib ig fp,Td (XA X oc scope cl x cn C ib ig fp) iZ (tT E0 c))(he:∀C ib ig fp,PE (XA X oc scope cl x cn C ib ig fp) i0 (tE E0 f))(hs:∀v,foldedSetIterable il X.env v=pure v:=by intro _;rfl):PE X (.ListComp i0 [⟨.Name x px,il,iZ,0⟩] scope pos) (tE E (Z5 k js fi c f)):=(J5 O hc hi ht he hs).weak λσ H Q h=>Hl hk h
def E8{xs:iE}{tg:Expr}(hk:WT E k)(O:CompOkT X oc scope cl xs cn js)(hc:X.calm=true)(hg:∀C ib ig fp,PG (Yk X oc scope cl xs cn C ib ig fp) tg (Hv X.K xs.length (gNs (List.range' 0 xs.length))))(hi:PI X tg il (tI E fi))(ht:∀C ib ig fp,Td (Yk X oc scope cl xs cn C ib ig fp) iZ (tT E0 c))(he:∀C ib ig fp,PE (Yk X oc scope cl xs cn C ib ig fp) i0 (tE E0 f))(hs:∀v,foldedSetIterable il X.env v=pure v:=by intro _;rfl):PE X (.ListComp i0 [⟨tg,il,iZ,0⟩] scope pos) (tE E (Vm k xs.length js fi c f)):=(LZ O hc hg hi ht he hs).weak λσ H Q h=>Ll hk h
def Qf{xs:iE}{tg:Expr}{j:Nat}{y:Str}{py i9:Pos}(hk:WT E k)(O:CompOkT X oc scope cl xs cn js)(hc:X.calm=true)(hg:∀C ib ig fp,PG (Yk X oc scope cl xs cn C ib ig fp) tg (Hv X.K xs.length (gNs (List.range' 0 xs.length))))(hi:PI X tg il (tI E fi))(ht:∀C ib ig fp,Td (Yk X oc scope cl xs cn C ib ig fp) iZ (tT E0 c))(he:∀C ib ig fp,PE (Yk X oc scope cl xs cn C ib ig fp) i0 (tE E0 f))(hN:X.N.Nodup) (hj:X.N[j]?=some y) (hy:Loc X.env.scope y) (j0:swapsWith (.ListComp i0 [⟨tg,il,iZ,0⟩] scope pos) (some (.Name y py)) i9.line X.env=pure true)(hs:∀v,foldedSetIterable il X.env v=pure v:=by intro _;rfl) (hf:X.fn y=true∨X.env.scope.names.lookup y=some .local:=by first|exact .inl rfl|exact .inr rfl):PS X (.Assign [.Name y py] (.ListComp i0 [⟨tg,il,iZ,0⟩] scope pos) i9) (tS E (ZD j (Vm k xs.length js fi c f))):=(Qa O hc hg hi ht he hN hj hy j0 hs hf).weak λD σ H ⟨F,β,om,sl,M,V,R⟩=>by
 refine Ll hk ⟨F,β,om,sl,M,V,R.bind λw om1 F1 H1 io g1 M1 R1 v rv=>?_⟩;exact(show Res E (ret (Fl.nx,sl.set j (some w)) om1) F1 H1 io (FlP D) from R1).now M1 _ ((V.mono g1.toGr).set j rv)
def DN{fd:FE}(hk:WT E k)(O:CompOk X oc scope cl x cn js)(hc:X.calm=true)(hd:PE X il (tE E fd))(ht:∀C ib ig fp,Td (XA X oc scope cl x cn C ib ig fp) iZ (tT E0 c))(he:∀C ib ig fp,PE (XA X oc scope cl x cn C ib ig fp) i0 (tE E0 f))(hs:∀v,foldedSetIterable il X.env v=pure v:=by intro _;rfl):PE X (.ListComp i0 [⟨.Name x px,il,iZ,0⟩] scope pos) (tE E (Vg k js fd c f)):=(Cb (J5 O hc (M5 hd) ht he hs)).weak λσ H Q h=>Kj hk h
def Jp{j:Nat}{y:Str}{py i9:Pos}(hk:WT E k)(O:CompOk X oc scope cl x cn js)(hc:X.calm=true)(hi:PI X (.Name x px) il (tI E fi))(ht:∀C ib ig fp,Td (XA X oc scope cl x cn C ib ig fp) iZ (tT E0 c))(he:∀C ib ig fp,PE (XA X oc scope cl x cn C ib ig fp) i0 (tE E0 f))(hN:X.N.Nodup) (hj:X.N[j]?=some y) (hy:Loc X.env.scope y) (j0:swapsWith (.ListComp i0 [⟨.Name x px,il,iZ,0⟩] scope pos) (some (.Name y py)) i9.line X.env=pure true)(hs:∀v,foldedSetIterable il X.env v=pure v:=by intro _;rfl) (hf:X.fn y=true∨X.env.scope.names.lookup y=some .local:=by first|exact .inl rfl|exact .inr rfl):PS X (.Assign [.Name y py] (.ListComp i0 [⟨.Name x px,il,iZ,0⟩] scope pos) i9) (tS E (ZD j (Z5 k js fi c f))):=(P9 O hc hi ht he hN hj hy j0 hs hf).weak λD σ H ⟨F,β,om,sl,M,V,R⟩=>by
 refine Hl hk ⟨F,β,om,sl,M,V,R.bind λw om1 F1 H1 io g1 M1 R1 v rv=>?_⟩;exact(show Res E (ret (Fl.nx,sl.set j (some w)) om1) F1 H1 io (FlP D) from R1).now M1 _ ((V.mono g1.toGr).set j rv)
def LB{j:Nat}{y:Str}{py i9:Pos}{fd:FE}(hk:WT E k)(O:CompOk X oc scope cl x cn js)(hc:X.calm=true)(hd:PE X il (tE E fd))(ht:∀C ib ig fp,Td (XA X oc scope cl x cn C ib ig fp) iZ (tT E0 c))(he:∀C ib ig fp,PE (XA X oc scope cl x cn C ib ig fp) i0 (tE E0 f))(hN:X.N.Nodup) (hj:X.N[j]?=some y) (hy:Loc X.env.scope y) (j0:swapsWith (.ListComp i0 [⟨.Name x px,il,iZ,0⟩] scope pos) (some (.Name y py)) i9.line X.env=pure true)(hs:∀v,foldedSetIterable il X.env v=pure v:=by intro _;rfl) (hf:X.fn y=true∨X.env.scope.names.lookup y=some .local:=by first|exact .inl rfl|exact .inr rfl):PS X (.Assign [.Name y py] (.ListComp i0 [⟨.Name x px,il,iZ,0⟩] scope pos) i9) (tS E (ZD j (Vg k js fd c f))):=(J7 (P9 O hc (M5 hd) ht he hN hj hy j0 hs hf)).weak λD σ H ⟨F,β,om,sl,M,V,R⟩=>by
 refine Kj (Q:=λv H1=>D.nx (σ.set j (some v)) H1) hk ⟨F,β,om,sl,M,V,R.bind λw om1 F1 H1 io g1 M1 R1 v rv=>?_⟩;exact(show Res E (ret (Fl.nx,sl.set j (some w)) om1) F1 H1 io (FlP D) from R1).now M1 _ ((V.mono g1.toGr).set j rv)
end
end
def JL{α γ:Type}(m:Mw α)(k:α->Mw γ):Yb (bnd m k)=bnd (Yb m) λx=>Yb (k x):=by
 funext om
 match h:m om with
 |none=>simp[bnd,Yb,h]
 |some (.ok a,ij)=>simp[bnd,Yb,h]
 |some (.error c,ij)=>simp[bnd,Yb,h]
def Hc(fd:FE)(T:TgW)(S:FS):FS:=λsl=>bnd (fd sl) λd=>bnd (JG d) λp=>bnd (Yb (VE T S p.2.2 sl)) λr=>bnd (Jj p.1 p.2.1) λ_=>ret r
section
variable{X:Cx}{E:XK}{tg il:Expr}{body:List Stmt}{fd:FE}{T:TgW}{g:TG}{S:FS}{pos:Pos}
def Lj{D:Ends}{C:Hp->Prop}{J:It}{ws:iJ}{σ:St}{H F F0 H0:Hp}{β jC:iA}{om:iN}{sl:Sl}{P:Fl × Sl->Hp->Hp->List Addr->Prop}{kf:Fl × Sl->Mw (Fl × Sl)}(GG:Hp->Hp->List Addr->Prop)(hG:∀{F F' H H':Hp} {β iq:iA} {om:iN},MOk F H β om->GG F H β->Gx F F' H H' β iq->GG F' H' iq) (hC:∀{F H:Hp} {β:iA},GG F H β->C H) (ht:Jd g T) (hJ:ItC C J ws F β)(hk:∀{y:Fl × Sl} {om:iN} {F H:Hp} {β:iA},MOk F H β om->GG F H β->Res E (kf y om) F0 H0 jC P->FlP D y F H β)(M:MOk F H β om) (V:EnvOk F β σ sl) (G:GG F H β) (R:Res E (bnd (Yb (VE T S ws sl)) kf om) F0 H0 jC P):∃W:Nat->Nat->St->Hp->Prop,(∃m,W 0 m σ H)∧∀i m σ H,W i m σ H -> (J.stop i H∧D.nx σ H)∨(J.go i H∧∃N:St->Hp->Prop,(∀iy H',N iy H'->∃m',m'<m∧W (i+1) m' iy H')∧∀x H',J.yld i H x H'->g x σ H' λjn H2=>tS E S {D with nx:=N,ct:=N,bk:=D.nx} jn H2):=by
 refine⟨λi m σ H=>m=ws.length-i∧i<=ws.length∧∃F β om sl,ItC C J ws F β∧GG F H β∧MOk F H β om∧EnvOk F β σ sl∧Res E (bnd (Yb (VE T S (ws.drop i) sl)) kf om) F0 H0 jC P,⟨ws.length,by simp,cy _,F,β,om,sl,hJ,G,M,V,R⟩,?_⟩;rintro i m σ H ⟨rfl,hi,F,β,om,sl,hJ,G,M,V,R⟩;obtain⟨j1,j2⟩:=hJ F β H (Gr.refl _ _) M.sub (hC G);by_cases iW:i<ws.length
 ·obtain⟨go,yl⟩:=j1 i ws[i] (aI iW)
  refine .inr ⟨go,λiy H'=>i+1<=ws.length∧∃F β om sl,ItC C J ws F β∧GG F H' β∧MOk F H' β om∧EnvOk F β iy sl∧Res E (bnd (Yb (VE T S (ws.drop (i+1)) sl)) kf om) F0 H0 jC P,λiy H' ⟨h1,h2⟩=>⟨ws.length-(i+1),by omega,rfl,h1,h2⟩,λx H' hy=>?_⟩;obtain⟨rfl,rx⟩:=yl x H' hy;rw[fh iW]at R;have R:Res E (bnd (Yb (match T ws[i] sl with|none=>Wg|some sl1=>bnd (S sl1) (QD λiT=>VE T S (ws.drop (i+1)) iT))) kf om) F0 H0 jC P:=R
  match hT:T ws[i] sl,R with
  |none,R=>exact R.elim
  |some sl1,R=>
   refine ht M V rx hT λjn V2=>?_
   refine⟨F,β,om,sl1,M,V2,?_⟩;dsimp only at R;rw[JL,Tp]at R;have R':=R;unfold bnd Yb at R'
   match hm:S sl1 om,R' with
   |none,R'=>exact R'.elim
   |some (.error _,_),R'=>exact R'.elim
   |some (.ok y,om1),R'=>
    have R1:Res E (bnd (Yb (QD (λiT=>VE T S (ws.drop (i+1)) iT) y)) kf om1) F0 H0 jC P:=R';intro F1 H1 io g1 M1;have G1:=hG M G g1;obtain⟨fl,iT⟩:=y;cases fl with
    |nx=>exact λiy V'=>⟨iW,F1,io,om1,iT,hJ.mono g1.toGr,G1,M1,V',R1⟩
    |ct=>exact λiy V'=>⟨iW,F1,io,om1,iT,hJ.mono g1.toGr,G1,M1,V',R1⟩
    |bk=>exact hk (y:=(.nx,iT)) M1 G1 R1
    |rt w=>exact hk (y:=(.rt w,iT)) M1 G1 R1
 ·have e:i=ws.length:=by omega
  subst e;rw[gJ]at R;exact .inl ⟨j2 _ (aK _),hk (y:=(.nx,sl)) M G (show Res E (kf (.nx,sl) om) F0 H0 jC P from R) σ V⟩
def D4(hp:PassesOwn (model X.prog X.w) X.A X.env X.xe)(hc:X.calm=true)(hi:PE X il (tE E fd))(hg:PG X tg g)(ht:Jd g T)(hb:PSs X body (tS E S))(hs:∀x,foldedSetIterable il X.env x=pure x:=by intro _;rfl):PS X (.For tg il body [] pos) (tS E (Hc fd T S)):=(J7 (EW hp hc (M5 hi) hg hb hs)).weak λD σ H ⟨F,β,om,sl,M,V,R⟩=>by
 refine⟨F,β,om,sl,M,V,R.bind λw om1 F1 H1 io g1 M1 R1 v rv=>?_⟩;obtain⟨h,d,ks,kvs,rfl,eb,rs,ip,R1⟩:=R1.frz M1 rv;rcases R1 with ⟨jl,Mz,R2⟩|⟨ob,jl,R2⟩
 ·refine⟨d,ks,rfl,.inl ⟨jl,λob nf=>?_⟩⟩
  refine Lj (D:=Hh X D) (C:=λH=>H d=some (.frz ob (.dK ks))) (Held h d ob ks F1 H1 io) (λM' G' g'=>Held.go M' G' g') (λG'=>G'.2.1) ht (M7 rs) ?_ (Mz ob) (V.mono g1.toGr) (Held.start eb jl) R2;intro y ij F' H' iq M' G' R';have kx:=G'.2.1;obtain⟨jc,Mt,R'⟩:=Held.thw M' G' R';have q:FlP D y F' (upd H' d (.dK ks)) iq:=(show Res E (some (Except.ok y,ij.set h (.dk jc))) F1 H1 io (FlP D) from R') F' _ iq G'.2.2 Mt;obtain⟨fl,iT⟩:=y;cases fl with
  |nx=>exact λiy V'=>.inl ⟨d,ob,ks,nf,kx,q iy V'⟩
  |bk=>exact λiy V'=>.inl ⟨d,ob,ks,nf,kx,q iy V'⟩
  |ct=>exact λiy V'=>.inl ⟨d,ob,ks,nf,kx,q iy V'⟩
  |rt w=>exact λv r=>.inl ⟨d,ob,ks,nf,kx,q v r⟩
 ·refine⟨d,ks,rfl,.inr ⟨ob,jl,?_⟩⟩
  refine Lj (D:=Hh X D) (C:=λH=>H d=some (.frz ob (.dK ks))) (λF H β=>Gx F1 F H1 H io β) (λ_ a b=>a.trans b) (λG'=>G'.frz d _ _ jl) ht (M7 rs) ?_ M1 (V.mono g1.toGr) (Gx.refl _ _ _) R2;intro y ij F' H' iq M' G' R';have q:FlP D y F' H' iq:=(show Res E (some (Except.ok y,ij)) F1 H1 io (FlP D) from R') F' H' iq G' M';obtain⟨fl,iT⟩:=y;cases fl with
  |nx=>exact λiy V'=>.inr (q iy V')
  |bk=>exact λiy V'=>.inr (q iy V')
  |ct=>exact λiy V'=>.inr (q iy V')
  |rt w=>exact λv r=>.inr (q v r)
end
def kWh(again:Sl->Mw (Fl × Sl))(S:FS)(sl:Sl)(b:Bool):Mw (Fl × Sl):=if b=true then bnd (S sl) (QD again) else ret (.nx,sl)
def VM(c:FT)(S:FS):Nat->FS
 |0,_=>Wg
 |n+1,sl=>bnd (c sl) (kWh (λiT=>VM c S n iT) S sl)
section
variable{X:Cx}{E:XK}{t:Expr}{body:List Stmt}{c:FT}{S:FS}{pos:Pos}
def Et(n:Nat)(hp:PassesOwn (model X.prog X.w) X.A X.env X.xe)(hc:PT X t (tT E c))(hb:PSs X body (tS E S)):PS X (.While t body [] pos) (tS E (VM c S n)):=(DI hp hc hb).weak λD σ H ⟨F,β,om,sl,M,V,R⟩=>by
 refine⟨λm σ H=>∃F β om sl,MOk F H β om∧EnvOk F β σ sl∧Res E (VM c S m sl om) F H β (FlP D),⟨n,F,β,om,sl,M,V,R⟩,?_⟩;rintro m σ H ⟨F,β,om,sl,M,V,R⟩;cases m with
 |zero=>exact R.elim
 |succ m=>
  refine⟨F,β,om,sl,M,V,Res.bind (m:=c sl) (k:=kWh (λiT=>VM c S m iT) S sl) R λb om1 F1 H1 io g1 M1 R1=>?_⟩;cases b with
  |false=>
   rw[aE aJ];exact(show Res E (ret (Fl.nx,sl) om1) F1 H1 io (FlP D) from R1).now M1 σ (V.mono g1.toGr)
  |true=>
   rw[aC rfl];refine⟨λiy H'=>∃F β om sl,MOk F H' β om∧EnvOk F β iy sl∧Res E (VM c S m sl om) F H' β (FlP D),λiy H' h=>⟨m,dS m,h⟩,?_⟩;refine⟨F1,io,om1,sl,M1,V.mono g1.toGr,Res.bind (m:=S sl) (k:=QD λiT=>VM c S m iT) R1 λy om2 F2 H2 ja g2 M2 R2=>?_⟩;obtain⟨fl,iT⟩:=y;cases fl with
   |nx=>exact λiy V'=>⟨F2,ja,om2,iT,M2,V',R2⟩
   |ct=>exact λiy V'=>⟨F2,ja,om2,iT,M2,V',R2⟩
   |bk=>exact(show Res E (ret (Fl.nx,iT) om2) F2 H2 ja (FlP D) from R2).now M2
   |rt w=>exact(show Res E (ret (Fl.rt w,iT) om2) F2 H2 ja (FlP D) from R2).now M2
end
def tM(E:XK)(f:Sl->Mw Unit):TA:=λσ H Q=>∃F β om sl,MOk F H β om∧EnvOk F β σ sl∧Res E (f sl om) F H β λ_ F' H' iq=>∀vs,Q vs H'
def kFmt:Wv->Mw Unit
 |.int i=>chk (decide (i.natAbs<1000000000000))
 |_=>Wg
def L0:Sl->Mw Unit:=λ_=>ret ()
def N7(f:FE)(r:Sl->Mw Unit):Sl->Mw Unit:=λsl=>bnd (f sl) λx=>bnd (kFmt x) λ_=>r sl
def Up(C:Addr)(m:Sl->Mw Unit):FS:=λsl=>bnd (m sl) λ_=>BL C
def HE{i:Int}(h:i.natAbs<1000000000000):i.natAbs.log2<1920:=by
 by_cases h0:i.natAbs=0
 ·rw[h0];decide
 ·exact(Nat.log2_lt h0).mpr (bH (show i.natAbs<2 ^ 40 by omega) (Nat.pow_le_pow_right (by decide) (by decide)))
section
variable{X:Cx}{E:XK}{e:Expr}{es:iF}{f:FE}{m:Sl->Mw Unit}{pos:Pos}
def PJ.weak{n:Nat}{t t':TA}(h:PJ X n es t)(w:∀σ H Q,t' σ H Q->t σ H Q):PJ X n es t':=λgV s σ H iz Q I hl q=>h gV s σ H iz Q I hl (w σ H _ q)
def T7:PJ X 2000 [] (tM E L0):=A8.weak λσ H Q ⟨F,β,om,sl,M,V,R⟩=>(show Res E (ret () om) F H β _ from R).now M []
def VN{x:Str}{j p}(hr:PJ X 2000 es (tM E m))(hx:x.length<=2000:=by decide)(hs:evalEach (.Constant (.str x) j p::es) X.env=eval (.Constant (.str x) j p) X.env::evalEach es X.env:=by rfl):PJ X 2000 (.Constant (.str x) j p::es) (tM E m):=(Iv Db hr hs).weak λσ H Q h=>⟨⟨x,rfl,hx⟩,h⟩
def U4{p:Pos}(he:PE X e (tE E f))(hr:PJ X 2000 es (tM E m))(hs:evalEach (.FormattedValue e (-1) none p::es) X.env=eval (.FormattedValue e (-1) none p) X.env::evalEach es X.env:=by rfl):PJ X 2000 (.FormattedValue e (-1) none p::es) (tM E (N7 f m)):=(Iv (pe_fmt he) hr hs).weak λσ H Q ⟨F,β,om,sl,M,V,R⟩=>by
 refine⟨F,β,om,sl,M,V,R.bind λw om1 F1 H1 io g1 M1 R1 v rv=>?_⟩;cases rv with
 |int i=>
  obtain⟨hc,R2⟩:=Res.chk R1;have hl:=HE (bG hc);exact⟨i,rfl,hl,⟨_,rfl,GR hl (by decide)⟩,F1,io,om1,sl,M1,V.mono g1.toGr,R2⟩
 |_=>exact R1.elim
def EN{x:Str}{C:Addr}{kG:iB}{B jk jG:String}{iX iY:Expr}{rest:iF}{np ir p2:Pos}(FB:ExcBaseFacts B jk jG kG)(q:PySem.W.excIn X.K C kG jk=true)(hg:Gl X x)(hm:X.mg x=some (.ref C))(hc:X.calm=true)(hE:NE X E)(h:PJ X 2000 (iX::iY::rest) (tM E m)) (hn:2000 * (iX::iY::rest).length<=16000000:=by decide)(hs:evalEach (iX::iY::rest) X.env=eval iX X.env::eval iY X.env::evalEach rest X.env:=by rfl)(he:starEach [.JoinedStr (iX::iY::rest) p2] X.env=(false,eval (.JoinedStr (iX::iY::rest) p2) X.env)::starEach [] X.env:=by rfl) (iR:(backTo ir (starEach [] X.env)).any (·.1)=false:=by rfl) (jo:(x == ("__debug__":Str))=false:=by decide):PS X (.Raise (some (.Call (.Name x np) [.JoinedStr (iX::iY::rest) p2] [] ir)) none pos) (tS E (Up C m)):=(Eb (E:=E) FB q hg hm hc hE (XW (DU h hn hs) VO he) he iR jo).weak λD σ H ⟨F,β,om,sl,M,V,R⟩=>by
 refine⟨F,β,om,sl,M,V,R.bind λw om1 F1 H1 io g1 M1 R1 vs z=>⟨by show 1<=sizeLine;decide,?_⟩⟩;exact(show Res E (BL C om1) F1 H1 io (FlP D) from R1) F1 H1 io (Gx.refl _ _ _) M1
end
def K9:Fl × Sl->Mw Wv
 |(.rt w,_)=>ret w
 |(.nx,_)=>ret .non
 |_=>Wg
def Vd(n:Nat)(ws:iJ):Sl:=ws.map some++List.replicate (n-ws.length) none
def Ye(n:Nat)(S:FS)(ws:iJ):Mw Wv:=bnd (S (Vd n ws)) K9
def EnvOk.start{F:Hp}{β:iA}{ws:iJ}{vs:iI}(N:iE)(r:RWs F β ws vs):EnvOk F β (L2.start N vs) (Vd N.length ws):=by
 have hl:=r.length;refine⟨by simp[L2.start,Vd,hl],λi w e=>?_⟩;unfold Vd at e;unfold L2.start;by_cases hi:i<ws.length
 ·rw[aQ (by simpa using hi),bA]at e
  match hw:ws[i]?,e with
  |none,e=>exact nomatch e
  |some u,e=>
   have e:some (some u)=some (some w):=e;cases e;obtain⟨v,ev,rv⟩:=r.get hw;refine⟨v,?_,rv⟩;rw[aQ (by rw[aA];omega),bA,ev];rfl
 ·rw[bD (by simpa using hi)]at e
  have:=bM e;rw[List.mem_replicate]at this;exact nomatch this.2
section
variable{P:Program}{w:World}{K:g9}{mg:g8}{base:Heap}
def fn_ok{x qual:Str}{st:Stmt}{f:Addr}{fd:FuncData}{N ps:iE}{k:Nat}{S:FS}(F:Fun K x qual st f fd)(Sc:FnScope N ps (Yx st))(h:∀(jb:Value) (A:Around) (outer:List Env) (s:Shared) (H:Hp) (E:XK),Room k (A.deeper (envOfC qual (Yx st) s.heap.objs.size f jb))->PSs (Ou (CXw P w) P w K mg base N qual (Yx st) f jb A outer s H E) (UC st) (tS E S)):FnOk P w K mg base (CXw P w) (k+1) f fd ps (spM ps.length (Ye N.length S)):=by
 refine F.okX Sc (λvs H Q E h=>?_) (λjb A outer s H vs Q E hr kF=>⟨_,h jb A outer s H E hr,?_⟩)
 ·obtain⟨F,β,om,ws,M,rs,hl,R⟩:=h
  rw[← rs.length,hl]
 ·obtain⟨F,β,om,ws,M,rs,hl,R⟩:=kF
  refine⟨F,β,om,_,M,EnvOk.start N rs,Res.bind (m:=S (Vd N.length ws)) (k:=K9) R λy om1 F1 H1 io g1 M1 R1=>?_⟩;obtain⟨fl,sl⟩:=y;cases fl with
  |nx=>exact λiy V'=>(show Res E (ret Wv.non om1) F1 H1 io (PV Q) from R1).now M1 _ .non
  |bk=>exact R1.elim
  |ct=>exact R1.elim
  |rt u=>exact(show Res E (ret u om1) F1 H1 io (PV Q) from R1).now M1
end
end
open PySem PySem.W PyProof.Rows
structure Swo(lt:Nat->Nat->Bool):Prop where
 irr:∀a,lt a a=false
 tr:∀a b c,lt a b=true->lt b c=true->lt a c=true
 neg:∀a b c,lt a c=true->lt a b=true∨lt b c=true
def Hs{α:Type}(lt:Nat->Nat->Bool)(n:Nat)(Q:α->Prop):KasT α->Prop
 |.ret a=>Q a
 |.ask i j k=>i<n∧j<n∧Hs lt n Q (k (lt i j))
def Hs.bind{α γ:Type}{lt:Nat->Nat->Bool}{n:Nat}{Q:γ->Prop}{f:α->KasT γ}:∀{t:KasT α},Hs lt n (λa=>Hs lt n Q (f a)) t->Hs lt n Q (t.bind f)
 |.ret a,h=>h
 |.ask i j k,⟨h1,h2,h3⟩=>⟨h1,h2,Hs.bind h3⟩
def Hs.wp{α:Type}{lt:Nat->Nat->Bool}{n:Nat}{Q':α->Prop}{Q:α->Shared->Prop}{cmp:Nat->Nat->(Bool->Shared->Prop)->Shared->Prop}{s:Shared}(hc:∀i j C,i<n->j<n->C (lt i j) s->cmp i j C s)(hq:∀a,Q' a->Q a s):∀{t:KasT α},Hs lt n Q' t->t.kasWp cmp Q s
 |.ret a,h=>hq a h
 |.ask i j k,⟨h1,h2,h3⟩=>hc i j _ h1 h2 (Hs.wp hc hq h3)
def gN(p:Array Nat)(i:Nat):Nat:=p.getD i 0
def Ke{p q:Array Nat}{i j:Nat}(h:p[i]?=q[j]?):gN p i=gN q j:=by
 unfold gN;rw[bR,bR,h]
def P6{p:Array Nat}{i j:Nat}(hj:j<=p.size)(k:Nat):gN (kas_rev p i j) k=if i<=k∧k<j then gN p (i+j-1-k) else gN p k:=by
 have e:=getElem?_mirror_all (xs:=p) (i:=i) hj k;unfold kas_rev;split at e <;> rename_i h
 ·rw[aC h];exact Ke e
 ·rw[aE h];exact Ke e
def E3{p:Array Nat}{k d:Nat}(hs:k<p.size)(hd:d<=k)(i:Nat):gN (bubble p k d) i=if i=k-d then gN p k else if k-d<i∧i<=k then gN p (i-1) else gN p i:=by
 have e:=getElem?_bubble hs d hd i;by_cases h1:i=k-d
 ·rw[aC h1]at e ⊢;exact Ke e
 ·rw[aE h1]at e ⊢
  by_cases h2:k-d<i∧i<=k
  ·rw[aC h2]at e ⊢;exact Ke e
  ·rw[aE h2]at e ⊢;exact Ke e
structure Pm(n:Nat)(p:Array Nat):Prop where
 size:p.size=n
 perm:p.toList.Perm (List.range n)
def Pm.lt{n:Nat}{p:Array Nat}(P:Pm n p)(hn:0<n)(i:Nat):gN p i<n:=by
 unfold gN;by_cases h:i<p.size
 ·rw[bR,ce h]
  have:p[i]∈p.toList:=by simp
  have:=P.perm.mem_iff.mp this;simpa using this
 ·rw[bR,fW (by omega)]
  exact hn
def Pm.rev{n:Nat}{p:Array Nat}(P:Pm n p)(i j:Nat):Pm n (kas_rev p i j):=
 ⟨(mirror_size _ _ _ _).trans P.size,(g6.mp (mirror_perm _ _ _ _)).trans P.perm⟩
def Pm.bub{n:Nat}{p:Array Nat}(P:Pm n p)(k d:Nat):Pm n (bubble p k d):=
 ⟨(bubble_size _ _ _).trans P.size,(g6.mp (bubble_perm _ _ _)).trans P.perm⟩
section
variable{lt:Nat->Nat->Bool}(O:Swo lt){n:Nat}
def le'(lt:Nat->Nat->Bool)(a b:Nat):Prop:=lt b a=false
include O
theorem Wk{a b c:Nat}(h1:le' lt a b)(h2:le' lt b c):le' lt a c:=by
 unfold le' at *;cases h:lt c a with
 |false=>rfl
 | true => rcases O.neg c b a h with z | z
           ·rw[h2]at z;cases z
           ·rw[h1]at z;cases z
theorem MG{a b:Nat}(h:lt a b=true):le' lt a b:=by
 unfold le';cases z:lt b a with
 |false=>rfl
 |true=>have:=O.tr a b a h z;rw[O.irr]at this;cases this
theorem lt_le'{a b c:Nat}(h1:lt a b=true)(h2:le' lt b c):lt a c=true:=by
 rcases O.neg a c b h1 with z|z
 ·exact z
 ·rw[h2]at z;cases z
omit O in
def Srt(lt:Nat->Nat->Bool)(p:Array Nat)(m:Nat):Prop:=∀i j,i<=j->j<m->le' lt (gN p i) (gN p j)
omit O in
def Fal(lt:Nat->Nat->Bool)(p:Array Nat)(m:Nat):Prop:=∀i j,i<=j->j<m->le' lt (gN p j) (gN p i)
theorem Srt.more{p:Array Nat}{m:Nat}(h1:1<=m)(S:Srt lt p m)(h:le' lt (gN p (m-1)) (gN p m)):Srt lt p (m+1):=λi j jQ hj=>by
 by_cases lB:j<m
 ·exact S i j jQ lB
 ·have:j=m:=by omega
  subst this;by_cases hi:i=j
  ·subst hi;exact O.irr _
  ·exact Wk O (S i (j-1) (by omega) (by omega)) h
theorem Fal.more{p:Array Nat}{m:Nat}(h1:1<=m)(S:Fal lt p m)(h:le' lt (gN p m) (gN p (m-1))):Fal lt p (m+1):=λi j jQ hj=>by
 by_cases lB:j<m
 ·exact S i j jQ lB
 ·have:j=m:=by omega
  subst this;by_cases hi:i=j
  ·subst hi;exact O.irr _
  ·exact Wk O h (S i (j-1) (by omega) (by omega))
theorem Jx{p:Array Nat}(P:Pm n p)(hn:0<n){Q:Nat->Prop}:∀(f m:Nat),1<=m->Srt lt p m->(∀k,m<=k->k<=m+f->Srt lt p k->(k<m+f->lt (gN p k) (gN p (k-1))=true)->Q k)->Hs lt n Q (kas_asc p f m)
 |0,m,h1,S,q=>q m (aK _) (aK _) S λz=>absurd z (cS _)
 |f+1,m,h1,S,q=>by
  refine⟨P.lt hn m,P.lt hn (m-1),?_⟩;cases h:lt (p.getD m 0) (p.getD (m-1) 0) with
  |true=>dsimp only;rw[aC rfl];exact q m (aK _) (by omega) S λ_=>h
  |false=>
   dsimp only;rw[aE aJ];exact Jx P hn f (m+1) (by omega) (S.more O h1 h) λk h2 h3 S' h4=>q k (by omega) (by omega) S' λz=>h4 (by omega)
omit O in
def Eq'(lt:Nat->Nat->Bool)(a b:Nat):Prop:=le' lt a b∧le' lt b a
omit O in
def Tl(lt:Nat->Nat->Bool)(p:Array Nat)(m c:Nat):Prop:=∀i,m-c<=i->i<m->Eq' lt (gN p i) (gN p (m-1))
theorem Me{p:Array Nat}{m c:Nat}(hm:m<=p.size)(hc:c<=m)(S:Fal lt p m)(T:Tl lt p m c):Fal lt (kas_rev p (m-c) m) m∧(∀i,i<m->Eq' lt (gN (kas_rev p (m-c) m) i) (gN p i)):=by
 have e:∀i,i<m->Eq' lt (gN (kas_rev p (m-c) m) i) (gN p i):=λi hi=>by
  rw[P6 hm];by_cases h:m-c<=i∧i<m
  ·rw[aC h]
   have t1:=T (m-c+m-1-i) (by omega) (by omega);have t2:=T i h.1 h.2;exact⟨Wk O t1.1 t2.2,Wk O t2.1 t1.2⟩
  ·rw[aE h];exact⟨O.irr _,O.irr _⟩
 exact⟨λi j jQ hj=>Wk O (e j hj).1 (Wk O (S i j jQ hj) (e i (by omega)).2),e⟩
theorem QS(hn:0<n){Q:Array Nat × Nat × Nat->Prop}:∀(f:Nat) (p:Array Nat) (m q:Nat),Pm n p->1<=m->q+1<=m->m+f<=n->Fal lt p m->Tl lt p m (q+1) -> (∀p' k q',Pm n p'->m<=k->k<=m+f->q'+1<=k->Fal lt p' k->Tl lt p' k (q'+1)->Q (p',k,q'))->Hs lt n Q (kas_desc f p m q)
 |0,p,m,q,P,h1,hq,hm,S,T,k=>k p m q P (aK _) (aK _) hq S T
 |f+1,p,m,q,P,h1,hq,hm,S,T,k=>by
  refine⟨P.lt hn m,P.lt hn (m-1),?_⟩;cases h:lt (p.getD m 0) (p.getD (m-1) 0) with
  |true=>
   dsimp only;rw[aC rfl];have hl:le' lt (gN p m) (gN p (m-1)):=MG O h;by_cases hq0:q > 0
   ·rw[aC hq0]
    obtain⟨S1,E1⟩:=Me O (by rw[P.size];omega) hq S T;refine QS hn f _ (m+1) 0 (P.rev _ _) (by omega) (by omega) (by omega) (Fal.more O h1 S1 ?_) (λi hi lm=>?_) λp' k' q' P' a1 a2 a3 a4 a5=>k p' k' q' P' (by omega) (by omega) a3 a4 a5
    ·have e2:gN (kas_rev p (m-(q+1)) m) m=gN p m:=by rw[P6 (by rw[P.size];omega),aE (by omega)]
     rw[e2];exact Wk O hl (E1 (m-1) (by omega)).2
    ·have:i=m+1-1:=by omega
     rw[this];exact⟨O.irr _,O.irr _⟩
   ·rw[aE hq0]
    refine QS hn f _ (m+1) 0 P (by omega) (by omega) (by omega) (Fal.more O h1 S hl) (λi hi lm=>?_) λp' k' q' P' a1 a2 a3 a4 a5=>k p' k' q' P' (by omega) (by omega) a3 a4 a5
    have:i=m+1-1:=by omega
    rw[this];exact⟨O.irr _,O.irr _⟩
  |false=>
   dsimp only;rw[aE aJ];refine⟨P.lt hn (m-1),P.lt hn m,?_⟩;cases h2:lt (p.getD (m-1) 0) (p.getD m 0) with
   |true=>dsimp only;rw[aC rfl];exact k p m q P (aK _) (by omega) hq S T
   |false=>
    dsimp only;rw[aE aJ];have e:Eq' lt (gN p m) (gN p (m-1)):=⟨h2,h⟩;refine QS hn f p (m+1) (q+1) P (by omega) (by omega) (by omega) (Fal.more O h1 S e.1) (λi hi lm=>?_) λp' k' q' P' a1 a2 a3 a4 a5=>k p' k' q' P' (by omega) (by omega) a3 a4 a5
    show Eq' lt (gN p i) (gN p m);by_cases him:i=m
    ·rw[him];exact⟨O.irr _,O.irr _⟩
    ·have t:=T i (by omega) (by omega)
     exact⟨Wk O t.1 e.2,Wk O e.1 t.2⟩
theorem Bj{p:Array Nat}{m:Nat}(hm:m<=p.size)(S:Fal lt p m):Srt lt (kas_rev p 0 m) m:=λi j jQ hj=>by
 rw[P6 hm,P6 hm,aC (by omega),aC (by omega)];exact S _ _ (by omega) (by omega)
theorem IJ{p:Array Nat}{m:Nat}(P:Pm n p)(hn:0<n)(h1:1<=m)(hm:m<=n)(S:Fal lt p m){Q:Nat × Array Nat->Prop}(k:∀c p',Pm n p'->1<=c->c<=n->Srt lt p' c->Q (c,p')):Hs lt n Q (kas_tail3 m n p):=by
 unfold kas_tail3;refine Hs.bind (Jx O (P.rev 0 m) hn (n-m) m h1 (Bj O (by rw[P.size];exact hm) S) λc h2 h3 S' _=>?_);exact k c _ (P.rev 0 m) (by omega) (by omega) S'
theorem R9{p:Array Nat}{m:Nat}(P:Pm n p)(hn:0<n)(h1:1<=m)(hm:m+1<=n)(S:Fal lt p (m+1)){Q:Nat × Array Nat->Prop}(k:∀c p',Pm n p'->1<=c->c<=n->Srt lt p' c->Q (c,p')):Hs lt n Q (kas_descPart m n p):=by
 unfold kas_descPart;refine Hs.bind (QS O hn _ p (m+1) 0 P (by omega) (by omega) (by omega) S (λi hi lm=>?_) λp' c q P' a1 a2 a3 a4 a5=>?_)
 ·have:i=m+1-1:=by omega
  rw[this];exact⟨O.irr _,O.irr _⟩
 ·dsimp only
  by_cases hq:q > 0
  ·rw[aC hq]
   exact IJ O (P'.rev _ _) hn (by omega) (by omega) (Me O (by rw[P'.size];omega) a3 a4 a5).1 k
  ·rw[aE hq]
   exact IJ O P' hn (by omega) (by omega) a4 k
theorem Dx{p:Array Nat}(P:Pm n p)(hn:0<n){Q:Nat × Array Nat->Prop}(k:∀c p',Pm n p'->1<=c->c<=n->Srt lt p' c->Q (c,p')):Hs lt n Q (kas_count n p):=by
 unfold kas_count;refine Hs.bind (Jx O P hn (n-1) 1 (aK _) (λi j jQ hj=>?_) λm h1 h2 S h3=>?_)
 ·have:i=j:=by omega
  rw[this];exact O.irr _
 ·by_cases he:(m == n)=true
  ·rw[aC he]
   exact k m p P h1 (by have:=eq_of_beq he;omega) S
  ·rw[aE he]
   have jh:m≠n:=λz=>he (dA.mpr z)
   have iW:=h3 (by omega);by_cases hm:m > 1
   ·rw[aC hm]
    refine⟨P.lt hn 0,P.lt hn (m-1),?_⟩;cases hc:lt (p.getD 0 0) (p.getD (m-1) 0) with
    |true=>dsimp only;rw[aC rfl];exact k m p P h1 (by omega) S
    |false=>
     dsimp only;rw[aE aJ];have alike:∀i,i<m->Eq' lt (gN p i) (gN p (m-1)):=λi hi=>⟨S i (m-1) (by omega) (by omega),Wk O (show le' lt (gN p (m-1)) (gN p 0) from hc) (S 0 i (by omega) hi)⟩
     have F:Fal lt p m:=λi j jQ hj=>Wk O (alike j hj).1 (alike i (by omega)).2
     obtain⟨F1,E1⟩:=Me O (c:=m) (by rw[P.size];omega) (aK _) F λi _ hi=>alike i hi
     rw[dP]at F1 E1;refine R9 O (P.rev 0 m) hn (by omega) (by omega) (Fal.more O (by omega) F1 ?_) k;have e2:gN (kas_rev p 0 m) m=gN p m:=by rw[P6 (by rw[P.size];omega),aE (by omega)]
     rw[e2];exact Wk O (MG O iW) (E1 (m-1) (by omega)).2
   ·rw[aE hm]
    have kM:m=1:=by omega
    subst kM;refine R9 O P hn (by omega) (by omega) (Fal.more O (by omega) (λi j jQ hj=>?_) (MG O iW)) k;have:i=j:=by omega
    rw[this];exact O.irr _
theorem P5{p:Array Nat}{k:Nat}(P:Pm n p)(hn:0<n)(S:Srt lt p k){Q:Nat->Prop}:∀(f l r:Nat),l<=r->r<=k->r-l<=f->(∀i,i<l->le' lt (gN p i) (gN p k))->(∀i,r<=i->i<k->lt (gN p k) (gN p i)=true) -> (∀m,m<=k->(∀i,i<m->le' lt (gN p i) (gN p k))->(∀i,m<=i->i<k->lt (gN p k) (gN p i)=true)->Q m)->Hs lt n Q (kas_place p k f l r)
 |0,l,r,h1,h2,h3,a,b,q=>q l (by omega) a λi hi hk=>b i (by omega) hk
 |f+1,l,r,h1,h2,h3,a,b,q=>by
  unfold kas_place;by_cases hlr:l ≥ r
  ·rw[aC hlr]
   exact q l (by omega) a λi hi hk=>b i (by omega) hk
  ·rw[aE hlr]
   refine⟨P.lt hn k,P.lt hn _,?_⟩;cases hc:lt (p.getD k 0) (p.getD ((l+r) / 2) 0) with
   |true=>
    dsimp only;rw[aC rfl];refine P5 P hn S f l ((l+r) / 2) (by omega) (by omega) (by omega) a (λi hi hk=>lt_le' O hc (S _ _ hi hk)) q
   |false=>
    dsimp only;rw[aE aJ];refine P5 P hn S f ((l+r) / 2+1) r (by omega) (by omega) (by omega) (λi hi=>Wk O (S i ((l+r) / 2) (by omega) (by omega)) hc) b q
theorem C4{p:Array Nat}{k m:Nat}(hk:k<p.size)(hm:m<=k)(S:Srt lt p k)(a:∀i,i<m->le' lt (gN p i) (gN p k))(b:∀i,m<=i->i<k->lt (gN p k) (gN p i)=true):Srt lt (bubble p k (k-m)) (k+1):=λi j jQ hj=>by
 have e:k-(k-m)=m:=by omega
 rw[E3 hk (by omega),E3 hk (by omega),e];by_cases hi:i=m
 ·rw[aC hi]
  by_cases hj2:j=m
  ·rw[aC hj2];exact O.irr _
  ·rw[aE hj2,aC (by omega)];exact MG O (b _ (by omega) (by omega))
 ·rw[aE hi]
  by_cases lm:m<i∧i<=k
  ·rw[aC lm,aE (by omega),aC (by omega)];exact S _ _ (by omega) (by omega)
  ·rw[aE lm]
   by_cases hj2:j=m
   ·rw[aC hj2];exact a i (by omega)
   ·rw[aE hj2]
    by_cases hj3:m<j∧j<=k
    ·rw[aC hj3];exact S _ _ (by omega) (by omega)
    ·rw[aE hj3];exact S _ _ jQ (by omega)
theorem Ex(hn:0<n){Q:Array Nat->Prop}:∀(f:Nat) (p:Array Nat) (k:Nat),Pm n p->k+f<=n->Srt lt p k->(∀p',Pm n p'->Srt lt p' (k+f)->Q p')->Hs lt n Q (kas_bin f p k)
 |0,p,k,P,h,S,q=>q p P S
 |f+1,p,k,P,h,S,q=>by
  unfold kas_bin;refine Hs.bind (P5 O P hn S k 0 k (cy _) (aK _) (by omega) (λi hi=>absurd hi (d0 _)) (λi h1 h2=>absurd h2 (by omega)) λm hm a b=>?_);exact Ex hn f _ (k+1) (P.bub _ _) (by omega) (C4 O (by rw[P.size];omega) hm S a b) λp' P' S'=>q p' P' (by rw[show k+(f+1)=k+1+f by omega];exact S')
theorem Cr(hn:0<n):Hs lt n (λp=>Pm n p∧Srt lt p n) (kas_sort n):=by
 unfold kas_sort;have P0:Pm n (List.toArray (List.range n)):=⟨by simp,by simp⟩;refine Hs.bind (Dx O P0 hn λc p' P h1 h2 S=>?_);dsimp only;by_cases hc:c<n
 ·rw[aC hc]
  have hm:max c 1=c:=by omega
  rw[hm];refine Ex O hn (n-c) p' c P (by omega) S λp2 P2 S2=>⟨P2,?_⟩
  rw[show c+(n-c)=n by omega]at S2;exact S2
 ·rw[aE hc]
  have:c=n:=by omega
  subst this;exact⟨P,S⟩
end
end L2
namespace L2
noncomputable section
open PySem PySem.Spec PyProof.Rows
section
variable{X:Cx}{E:XK}{e a b c o:Expr}{es:iF}{f fa fb fc fo:FE}{fs:FA}{pos p2 p p':Pos}
def UK{x:Str}{i:Int}(hg:Gl X x)(h:∃t,X.mg x=some (.int i t))(hd:(x == ("__debug__":Str))=false:=by decide):PE X (.Name x pos) (tE E (fC (.int i))):=
 let ⟨_,h⟩:=h;Go (IE (v:=.int i) hg h ⟨_,rfl⟩ hd) λ_ _=>.int i
def rCatR:R2:=λx y H Q=>∃l b xs zs,x=.ref l∧y=.ref b∧Rd H l (.lst xs)∧Rd H b (.lst zs)∧xs.length+zs.length<=sizeLine∧∀p,H p=none->Q (.ref p) (upd H p (.lst (xs++zs)))
def Br:OpR X (binaryOp .Add) rCatR:=by
 intro gV s σ H x y v u Q I rx ry h;obtain⟨l,b,xs,zs,rfl,rfl,hl,hb,hz,q⟩:=h;cases rx;cases ry;obtain⟨_,ik,n,r,e1⟩:=hl.ok I.hok;obtain⟨_,lh,m,r',e2⟩:=hb.ok I.hok;have l1:=r.length;have l2:=r'.length;refine PySem.P.add_list e1 e2 ?_ (by simp only[bF];omega);have ej:ik.toArray++lh.toArray=(ik++lh).toArray:=by simp
 rw[ej];exact⟨.ref _,_,I.lnew (t':=s.toks) (r.append r') (by rw[aT];exact hz),rfl,q _ I.fresh⟩
def kCat(x y:Wv):Mw Wv:=λom=>match x,y with
 |.lst ws,.lst us=>if ws.length+us.length<=lim then some (.ok (.lst (ws++us)),om) else none
 |_,_=>none
def qe_cat(ha:PE X a (tE E fa))(hb:PE X b (tE E fb)):PE X (.BinOp a .Add b pos) (tE E (f2 kCat fa fb)):=LS Br (by
 intro F H β om x y v u Q M rx ry R;cases rx <;> first|exact R.elim|skip
 cases ry <;> first|exact R.elim|skip
 rename_i a xs ws q rs a' zs us q' kL
 have R:Res E (if ws.length+us.length<=lim then some (Except.ok (Wv.lst (ws++us)),om) else none) F H β (PV Q):=R;by_cases hc:ws.length+us.length<=lim
 ·rw[aC hc]at R
  have:=UB;have:=rs.length;have:=kL.length;refine⟨a,a',xs,zs,rfl,rfl,Rd.same M.sub q,Rd.same M.sub q',by omega,λp hp=>?_⟩;obtain⟨g,M'⟩:=M.newFx (o:=.lst (xs++zs)) hp;exact R _ _ _ g M' _ (.lst (.inl ZC) ((rs.append kL).mono g.toGr))
 ·rw[aE hc]at R;exact R.elim) ha hb
end
structure ExcAll(K:g9)(isE:Addr->Bool)(kit:Addr->Value->Bool)(Ds:iB):Prop where
 k:∀C,isE C=true->ExcK K C
 a:∀C D,isE C=true->D∈Ds->PySem.W.kitOne K (.ref C) D=some (kit C D)
mutual
def small(n:Nat):Wv->Prop
 |.o h=>h<n
 |.lst ws=>smalls n ws
 |.tup ws=>smalls n ws
 |_=>True
def smalls(n:Nat):iJ->Prop
 |[]=>True
 |w::r=>small n w∧smalls n r
end
def Tt(n:Nat):Ob->Prop
 |.ins _ fs=>∀p∈fs,small n p.2
 |.lst ws=>smalls n ws
 |.dk kvs=>∀p∈kvs,small n p.2
 |.dt kvs=>∀p∈kvs,small n p.2
 |.exc _=>True
 |.dz kvs=>∀p∈kvs,small n p.2
mutual
def RW.small{F:Hp}{β:iA}:∀{w:Wv} {v:V},RW F β w v->small β.length w
 |_,_,.non=>trivial
 |_,_,.bl _=>trivial
 |_,_,.int _=>trivial
 |_,_,.str _=>trivial
 |_,_,.lst _ r=>RWs.small r
 |_,_,.tup _ r=>RWs.small r
 |_,_,.o e=>(aH.mp e).1
 |_,_,.g _=>trivial
def RWs.small{F:Hp}{β:iA}:∀{ws:iJ} {vs:iI},RWs F β ws vs->smalls β.length ws
 |_,_,.nil=>trivial
 |_,_,.cons h r=>⟨RW.small h,RWs.small r⟩
end
def RK.small{F:Hp}{β:iA}{κ:Type}:∀{ps:List (κ × Wv)} {qs:List (κ × V)},RK F β ps qs->∀p∈ps,L2.small β.length p.2
 |_,_,.nil,_,hp=>nomatch hp
 |_,_,.cons h r,p,hp=>by
  rcases aR.mp hp with rfl|hp
  ·exact h.small
  ·exact RK.small r p hp
def MOk.small{F H:Hp}{β:iA}{om:iN}(M:MOk F H β om):∀x∈om,Tt om.length x:=λx hx=>by
 obtain⟨i,hi⟩:=c8 hx;obtain⟨a,_,_,r⟩:=M.at hi;rw[← M.len];cases x with
 |ins C fs=>obtain⟨_,_,_,r⟩:=r;exact r.small
 |lst ws=>obtain⟨_,_,r⟩:=r;exact r.small
 |dk kvs=>obtain⟨_,_,r⟩:=r;exact r.small
 |dt kvs=>obtain⟨_,_,r⟩:=r;exact r.small
 |exc C=>trivial
 |dz kvs=>obtain⟨_,_,_,r⟩:=r;exact r.small
mutual
inductive FzW (om:iN) (n:Nat):Wv->Wv->Prop
 |same {w:Wv} (h:small n w):FzW om n w w
 |own {h:Nat} {xs ys:iJ} (hn:n<=h) (e:om[h]?=some (.lst xs)) (r:FzWs om n xs ys):FzW om n (.o h) (.lst ys)
 |lst {xs ys:iJ} (r:FzWs om n xs ys):FzW om n (.lst xs) (.lst ys)
 |tup {xs ys:iJ} (r:FzWs om n xs ys):FzW om n (.tup xs) (.tup ys)
inductive FzWs (om:iN) (n:Nat):iJ->List Wv->Prop
 |nil:FzWs om n [] []
 |cons {x y:Wv} {xs ys:iJ} (h:FzW om n x y) (r:FzWs om n xs ys):FzWs om n (x::xs) (y::ys)
end
def FzWs.of_smalls{om:iN}{n:Nat}:∀{ws:iJ},smalls n ws->FzWs om n ws ws
 |[],_=>.nil
 |_::_,⟨h,r⟩=>.cons (.same h) (FzWs.of_smalls r)
section
variable{F' jw:Hp}{β iq:iA}{n:Nat}(iP:Same F' jw)(ext:∀(h:Nat),h<n->iq[h]?=β[h]?)
mutual
def RW.down(iP:Same F' jw)(ext:∀(h:Nat),h<n->iq[h]?=β[h]?):∀{w:Wv} {v:V},RW F' iq w v->L2.small n w->RW jw β w v
 |_,_,.non,_=>.non
 |_,_,.bl b,_=>.bl b
 |_,_,.int i,_=>.int i
 |_,_,.str x,_=>.str x
 |_,_,.lst e r,hs=>.lst (Rd.same iP e) (RWs.down iP ext r hs)
 |_,_,.tup e r,hs=>.tup (iP _ _ e) (RWs.down iP ext r hs)
 |_,_,.o (h:=h) e,hs=>.o ((ext h hs).symm.trans e)
 |_,_,.g a,_=>.g a
def RWs.down(iP:Same F' jw)(ext:∀(h:Nat),h<n->iq[h]?=β[h]?):∀{ws:iJ} {vs:iI},RWs F' iq ws vs->smalls n ws->RWs jw β ws vs
 |_,_,.nil,_=>.nil
 |_,_,.cons h r,hs=>.cons (RW.down iP ext h hs.1) (RWs.down iP ext r hs.2)
end
def RK.down(iP:Same F' jw)(ext:∀(h:Nat),h<n->iq[h]?=β[h]?){κ:Type}:∀{ps:List (κ × Wv)} {qs:List (κ × V)},RK F' iq ps qs->(∀p∈ps,L2.small n p.2)->RK jw β ps qs
 |_,_,.nil,_=>.nil
 |_,_,.cons h r,hs=>.cons (RW.down iP ext h (hs _ (.head _))) (RK.down iP ext r λq hq=>hs q (.tail _ hq))
variable{om:iN}
mutual
def FzW.rel(iP:Same F' jw)(ext:∀(h:Nat),h<n->iq[h]?=β[h]?)(own:∀h a xs,n<=h->iq[h]?=some a->om[h]?=some (.lst xs)->∃zs,jw a=some (.lst zs)∧RWs F' iq xs zs):∀{w w':Wv} {v:V},FzW om n w w'->RW F' iq w v->RW jw β w' v
 |_,_,_,.same h,r=>r.down iP ext h
 |_,_,_,.own hn e r,.o eb=>let ⟨_,h1,h2⟩:=own _ _ _ hn eb e;.lst (.inl h1) (FzWs.rel iP ext own r h2)
 |_,_,_,.lst r,.lst e rs=>.lst (Rd.same iP e) (FzWs.rel iP ext own r rs)
 |_,_,_,.tup r,.tup e rs=>.tup (iP _ _ e) (FzWs.rel iP ext own r rs)
def FzWs.rel(iP:Same F' jw)(ext:∀(h:Nat),h<n->iq[h]?=β[h]?)(own:∀h a xs,n<=h->iq[h]?=some a->om[h]?=some (.lst xs)->∃zs,jw a=some (.lst zs)∧RWs F' iq xs zs):∀{ws m8:iJ} {vs:iI},FzWs om n ws m8->RWs F' iq ws vs->RWs jw β m8 vs
 |_,_,_,.nil,.nil=>.nil
 |_,_,_,.cons h r,.cons h' r'=>.cons (FzW.rel iP ext own h h') (FzWs.rel iP ext own r r')
end
end
section
variable{F F' H H':Hp}{β iq:iA}{om om1 l:iN}
def Fb:Option HO->Option HO
 |some (.lst xs)=>some (.lst xs)
 |_=>none
def HY{x:Option HO}{o:HO}(h:Fb x=some o):x=some o:=by
 unfold Fb at h;split at h
 ·exact h
 ·cases h
def L5(F' H':Hp)(new:iA):Hp:=λb=>if b∈new then Fb (H' b) else F' b
def O0(M:MOk F H β om)(g:Gx F F' H H' β iq)(M':MOk F' H' iq (om1++l))(hl:om1.length=om.length)(hs:∀x∈om1,Tt om.length x):∃jw,Gx F jw H H' β β∧MOk jw H' β om1∧∀w w' v,FzW (om1++l) om.length w w'->RW F' iq w v->RW jw β w' v:=by
 have hβ:β.length=om.length:=M.len;have hβ':iq.length=om.length+l.length:=by rw[M'.len,aT,hl]
 have ext:∀(h:Nat),h<om.length->iq[h]?=β[h]?:=λh hh=>by
  have e:β[h]?=some β[h]:=aI (by omega);rw[e];exact g.pre h _ e
 have inNew:∀(h:Nat) (a:Addr),om.length<=h->iq[h]?=some a->a∈iq.drop om.length:=λh a hh e=>by
  refine bM (i:=h-om.length) ?_;rw[List.getElem?_drop];rw[show om.length+(h-om.length)=h by omega];exact e
 have ofNew:∀a,a∈iq.drop om.length->∃h,om.length<=h∧iq[h]?=some a:=λa ha=>by
  obtain⟨i,hi⟩:=c8 ha;rw[List.getElem?_drop]at hi;exact⟨_,eE _ _,hi⟩
 have oldNew:∀(h:Nat) (a:Addr),β[h]?=some a->a ∉ iq.drop om.length:=λh a e ha=>by
  obtain⟨j,hj,ej⟩:=ofNew a ha;have hh:h<om.length:=by rw[← hβ];exact(aH.mp e).1
  have:=ndx M'.nd ej (g.pre h a e);omega
 have newNone:∀a,a∈iq.drop om.length->H a=none:=λa ha=>by
  rcases g.new a (List.mem_of_mem_drop ha) with h|h
  ·obtain⟨i,hi⟩:=c8 h
   exact absurd ha (oldNew i a hi)
  ·exact h
 have iP:Same F' (L5 F' H' (iq.drop om.length)):=λb o e=>by
  unfold L5;by_cases hb:b∈iq.drop om.length
  ·obtain⟨j,_,ej⟩:=ofNew b hb
   rw[M'.free j b ej]at e;cases e
  ·rw[aE hb];exact e
 have sub':Same (L5 F' H' (iq.drop om.length)) H':=λb o e=>by
  unfold L5 at e;by_cases hb:b∈iq.drop om.length
  ·rw[aC hb]at e;exact HY e
  ·rw[aE hb]at e;exact M'.sub b o e
 refine⟨L5 F' H' (iq.drop om.length),⟨⟨g.same.trans iP,λ_ _ e=>e⟩,g.keep,g.there,λb hb=>.inl hb,λb o e=>?_,g.frz⟩,⟨sub',M.nd,by rw[hβ,hl],λh a e=>?_,λh a x e1 e2=>?_⟩,?_⟩
 ·unfold L5 at e
  by_cases hb:b∈iq.drop om.length
  ·exact .inr (newNone b hb)
  ·rw[aE hb]at e;exact g.fnew b o e
 ·unfold L5
  rw[aE (oldNew h a e)];exact M'.free h a (g.pre h a e)
 ·have hh:h<om1.length:=(aH.mp e2).1
  have hx:=M'.ob h a x (g.pre h a e1) (by rw[aQ hh];exact e2);have sx:=hs x (bM e2);cases x with
  |ins C fs=>obtain⟨dx,jj,h1,r⟩:=hx;exact⟨dx,jj,h1,r.down iP ext sx⟩
  |lst ws=>obtain⟨xs,h1,r⟩:=hx;exact⟨xs,h1,r.down iP ext sx⟩
  |dk kvs=>obtain⟨ks,h1,r⟩:=hx;exact⟨ks,h1,r.down iP ext sx⟩
  |dt kvs=>obtain⟨ks,h1,r⟩:=hx;exact⟨ks,h1,r.down iP ext sx⟩
  |exc C=>exact hx
  |dz kvs=>obtain⟨o,ks,h1,r⟩:=hx;exact⟨o,ks,h1,r.down iP ext sx⟩
 ·intro w w' v fz r
  refine FzW.rel iP ext (λh a xs hn eb e=>?_) fz r;obtain⟨a',ea,_,zs,hz,rs⟩:=M'.at e;rw[eb]at ea;cases ea;refine⟨zs,?_,rs⟩;unfold L5;rw[aC (inNew h _ hn eb),hz];rfl
end
inductive Tidy (om:iN):Option (Except Addr Wv × iN)->Option (Except Addr Wv × iN)->Prop
 |same (r:Option (Except Addr Wv × iN)):Tidy om r r
 |ok {w w':Wv} {om1 l:iN} (hl:om1.length=om.length) (hs:∀x∈om1,Tt om.length x) (fz:FzW (om1++l) om.length w w'):Tidy om (some (.ok w,om1++l)) (some (.ok w',om1))
 |err {C:Addr} {om1 l:iN} (hl:om1.length=om.length) (hs:∀x∈om1,Tt om.length x):Tidy om (some (.error C,om1++l)) (some (.error C,om1))
def FnOk.tidy{P:Program}{w:World}{K:g9}{mg:g8}{base:Heap}{k n:Nat}{f:Addr}{fd:FuncData}{ps:iE}{CX:CXT}{g g':iJ->Mw Wv}(F:FnOk P w K mg base CX k f fd ps (spM n g))(h:∀ws om,ws.length=n->(∀x∈om,Tt om.length x)->g' ws om≠none->Tidy om (g ws om) (g' ws om)):FnOk P w K mg base CX k f fd ps (spM n g'):=
 F.imp λvs H Q E ⟨F,β,om,ws,M,rs,hl,R⟩=>⟨F,β,om,ws,M,rs,hl,by
  have t:=h ws om hl M.small (λz=>by rw[z]at R;exact R);generalize g ws om=r at t;generalize g' ws om=r' at t R;cases t with
  |same=>exact R
  |ok kO hs fz=>
   intro F' H' iq g1 M' v rv;obtain⟨jw,g2,M2,rel⟩:=O0 M g1 M' kO hs;exact R jw H' β g2 M2 v (rel _ _ v fz rv)
  |err kO hs=>
   intro F' H' iq g1 M';obtain⟨jw,g2,M2,_⟩:=O0 M g1 M' kO hs;exact R jw H' β g2 M2⟩
end
end L2
namespace L2
noncomputable section
open PySem PySem.Spec PyProof.Rows PySem.W
def ltP(a b:Int × Int):Bool:=if a.1=b.1 then decide (a.2<b.2) else decide (a.1<b.1)
def Vy{a b:Int × Int}:ltP a b=true ↔ a.1<b.1∨(a.1=b.1∧a.2<b.2):=by
 unfold ltP;split
 ·rw[bX];omega
 ·rw[bX];omega
def ltR:iC->List Int->Bool
 |a::x,b::y=>if a=b then ltR x y else decide (a<b)
 |[],_::_=>true
 |_,[]=>false
def Ub{a b:Int}{x y:iC}:ltR (a::x) (b::y)=true ↔ a<b∨(a=b∧ltR x y=true):=by
 show(if a=b then ltR x y else decide (a<b))=true ↔ _;by_cases h:a=b
 ·rw[aC h];exact⟨λz=>.inr ⟨h,z⟩,λz=>z.elim (λq=>absurd q (by omega)) λq=>q.2⟩
 ·rw[aE h,bX];exact⟨.inl,λz=>z.elim id λq=>absurd q.1 h⟩
def NY:∀x,ltR x x=false
 |[]=>rfl
 |a::x=>by
  show(if a=a then ltR x x else _)=false;rw[aC rfl];exact NY x
def JM:∀{x y z:iC},ltR x y=true->ltR y z=true->ltR x z=true
 |[],_::_,_::_,_,_=>rfl
 |[],[],_,h,_=>nomatch h
 |_::_,[],_,h,_=>nomatch h
 |_,_::_,[],_,h=>nomatch h
 |a::x,b::y,c::z,h1,h2=>by
  rcases Ub.mp h1 with p|⟨p,p'⟩ <;> rcases Ub.mp h2 with q|⟨q,q'⟩
  ·exact Ub.mpr (.inl (by omega))
  ·exact Ub.mpr (.inl (by omega))
  ·exact Ub.mpr (.inl (by omega))
  ·exact Ub.mpr (.inr ⟨by omega,JM p' q'⟩)
def MB:∀{x y z:iC},ltR x z=true->ltR x y=true∨ltR y z=true
 |[],[],_::_,_=>.inr rfl
 |[],_::_,_,_=>.inl rfl
 |_::_,[],_::_,_=>.inr rfl
 |[],[],[],h=>nomatch h
 |_::_,_,[],h=>nomatch h
 |a::x,b::y,c::z,h=>by
  by_cases h1:a<b
  ·exact .inl (Ub.mpr (.inl h1))
  ·by_cases h2:b<c
   ·exact .inr (Ub.mpr (.inl h2))
   ·rcases Ub.mp h with p|⟨p,p'⟩
    ·omega
    ·rcases MB (y:=y) p' with q|q
     ·exact .inl (Ub.mpr (.inr ⟨by omega,q⟩))
     ·exact .inr (Ub.mpr (.inr ⟨by omega,q⟩))
def Hz(ps:h8)(i j:Nat):Bool:=ltR (ps.getD i []) (ps.getD j [])
def swo_at(ps:h8):Swo (Hz ps):=⟨λ_=>NY _,λ_ _ _=>JM,λ_ _ _=>MB⟩
section
variable{prog:Program}{w:World}{A:Around}{E:g7}{s:Shared}
structure RowsAt(h:Heap)(as:iA)(ps:h8):Prop where
 len:as.length=ps.length
 wid:∃m,∀p∈ps,p.length=m+1
 at':∀(i:Nat) (a:Addr) (p:iC),as[i]?=some a->ps[i]?=some p->∃o vs n,h.get? a=some o∧o.cls=.type "tuple"∧o.data=.seq vs.toArray n∧Vals (p.map V.int) vs
def RowsAt.keep{h h':Heap}{as:iA}{ps:h8}(x:RowsAt h as ps)(k:∀a∈as,∀o,h.get? a=some o->h'.get? a=some o):RowsAt h' as ps:=
 ⟨x.len,x.wid,λi a p e1 e2=>let ⟨o,vs,n,e,r⟩:=x.at' i a p e1 e2;⟨o,vs,n,k a (bM e1) _ e,r⟩⟩
def Li{C:Bool->Shared->Prop}:∀{x y:iC} {xs ys:iB} {i:Nat},Vals (x.map V.int) xs->Vals (y.map V.int) ys->x.length=y.length->C (ltR x y) s->KatLex prog w A true false C (xs.zip ys) i s
 |[],[],_,_,_,.nil,.nil,_,h=>kat_nil h
 |a::x,b::y,_,_,i,.cons h1 r1,.cons h2 r2,hl,h=>by
  obtain⟨t,rfl⟩:=(show ∃t,_=Value.int a t from h1);obtain⟨u,rfl⟩:=(show ∃u,_=Value.int b u from h2);refine kat_cons (wpAny_eqBool_int ?_);have h:C (if a=b then ltR x y else decide (a<b)) s:=h;by_cases he:a=b
  ·rw[aC he]at h
   rw[show(a == b)=true from dA.mpr he];exact kat_yes (Li r1 r2 (by simpa using hl) h)
  ·rw[aE he]at h
   rw[show(a == b)=false from aY.mpr he];cases i with
   |zero=>exact kat_no (oneLt_int h)
   |succ i=>exact kat_no (kat_one _ _ (lt_int h))
 |[],_::_,_,_,_,_,_,hl,_=>nomatch hl
 |_::_,[],_,_,_,_,_,hl,_=>nomatch hl
def GW{as:iA}{ps:h8}{Q:SortKind->Shared->Prop}(pa:RowsAt s.heap as ps)(hn:0<ps.length)(h:Q (tuples' true) s):wpAny (model prog w) A (keyKind' (as.map Value.ref).toArray) Q E s:=by
 have key:∀(as:iA) (ps:h8),RowsAt s.heap as ps->∃fs,KatTups s.heap (as.map Value.ref) fs∧fs.length=ps.length∧∀v∈fs,∃i t,v=Value.int i t:=by
  intro as
  induction as with
  |nil=>
   intro ps pa;have:ps=[]:=fR.mp pa.len.symm;subst this;exact⟨[],KatTups.nil,rfl,λv hv=>nomatch hv⟩
  |cons a as ih=>
   intro ps pa
   match ps,pa with
   |[],pa=>exact absurd pa.len (by simp)
   |p::ps,pa=>
    obtain⟨m,hw⟩:=pa.wid;obtain⟨fs,h1,h2,h3⟩:=ih ps ⟨by have:=pa.len;simpa using this,⟨m,λq hq=>hw q (.tail _ hq)⟩,λi a' p' e1 e2=>pa.at' (i+1) a' p' (by simpa using e1) (by simpa using e2)⟩;obtain⟨o,vs,n,e,ec,ed,rv⟩:=pa.at' 0 a p rfl rfl
    match p,hw p (.head _),vs,rv,ed with
    |x::p,_,_::vs,.cons hx rv,ed=>
     obtain⟨t,rfl⟩:=(show ∃t,_=Value.int x t from hx);refine⟨.int x t::fs,KatTups.cons e ec ed rfl h1,by simp[h2],λv hv=>?_⟩;rcases aR.mp hv with rfl|hv
     ·exact⟨_,_,rfl⟩
     ·exact h3 v hv
 obtain⟨fs,h1,h2,h3⟩:=key as ps pa;refine kat_kind (T:=.type "int") h1 (by omega) (λv hv=>?_) rfl h;obtain⟨i,t,rfl⟩:=h3 v hv;exact Looks.now
def Na{a:Addr}{as:iA}{ps:h8}{n:Nat}{P:PySem.Fin->Shared->Prop}(ho:s.heap.get? a=some (seqObj "list" (as.map Value.ref).toArray n))(pa:RowsAt s.heap as ps)(my:a ∉ as)(kg:as.length<64)(fin:∀h' bs qs c,(∀b o,b≠a->s.heap.get? b=some o->h'.get? b=some o)->h'.get? a=some (seqObj "list" (bs.map Value.ref).toArray c)->(∃p:iD,p.Perm (List.range as.length)∧bs=p.map (λi=>as.getD i 0)∧qs=p.map (λi=>ps.getD i []))->qs.Pairwise (λx y=>ltR y x=false)->P (.done (.ret .none)) {s with heap:=h'}):wpAny (model prog w) A (Builtin.«list.sort» ⟨[.ref a],[]⟩) P E s:=by
 have ha:a<s.heap.objs.size:=aO ho;have upd1:=cw s.heap a (Obj.mapSeq λ_=>(#[]:Array Value));obtain⟨e1,g1⟩:∃e1,(s.heap.update a (Obj.mapSeq λ_=>(#[]:Array Value))).get? a=some (seqObj "list" #[] e1):=⟨_,get?_update_seq ho λ_=>#[]⟩
 have hvl:(as.map Value.ref).toArray.size=as.length:=by simp
 rw[list_sort_plain];refine aB (listItems_at ho rfl (aB (listUpdate_at ho rfl (aB (seqEpoch_at g1 rfl (aB (wpAny_newTuple (aB (gL (cz ?_) (cy _))) (by show(as.map Value.ref).length<=_;rw[aA,cf];omega))))) (by rw[hvl,cf];omega) (cy _))));generalize hH:((s.heap.update a (Obj.mapSeq λ_=>(#[]:Array Value))).push (seqObj "tuple" (as.map Value.ref).toArray 0)).push (seqObj "list" #[] 0)=h3
 have keep3:∀b o,b≠a->s.heap.get? b=some o->h3.get? b=some o:=λb o hb e=>by
  rw[← hH];exact aF _ (aF _ ((upd1.2 b hb).trans e))
 have g3:h3.get? a=some (seqObj "list" #[] e1):=by rw[← hH];exact aF _ (aF _ g1)
 have pa3:RowsAt h3 as ps:=pa.keep λb hb o e=>keep3 b o (λz=>my (z ▸ hb)) e
 show wpAny (model prog w) A _ P E {s with heap:=h3}
 have hend : ∀ (bs : iA) (qs : h8) (st : SortSt),(arrOf st).map (·.2) = (bs.map Value.ref).toArray -> bs.length <= as.length -> failedOf st = none -> (∃ p : iD,p.Perm (List.range as.length) ∧ bs = p.map (fun i => as.getD i 0) ∧ qs = p.map (fun i => ps.getD i [])) -> qs.Pairwise (fun x y => ltR y x = false) ->
     wpAny (model prog w) A (do
      let touched:=(← seqEpoch a) != e1
      Builtin.List.listUpdate (.ref a) λ_=>(arrOf st).map (·.2)
      if let some e:=failedOf st then rule "list.sort.comparison-raised";throw e
      if touched then rule "list.sort.modified";raiseError "ValueError" "list modified during sort"
      PySem.ret .none) P E {s with heap:=h3}:=λbs qs st jy o9 hf hp hs=>by
  refine aB (seqEpoch_at g3 rfl (aB (listUpdate_at g3 rfl ?_ (cy _) (by rw[jy];simp only[bF,aA];rw[cf];omega))));rw[jy,hf];obtain⟨c2,g4⟩:∃c2,(h3.update a (Obj.mapSeq λ_=>(bs.map Value.ref).toArray)).get? a=some (seqObj "list" (bs.map Value.ref).toArray c2):=⟨_,get?_update_seq g3 λ_=>(bs.map Value.ref).toArray⟩
  have upd2:=cw h3 a (Obj.mapSeq λ_=>(bs.map Value.ref).toArray);simp only[eA,d7,if_false];exact aD (fin _ bs qs c2 (λb o hb e=>(upd2.2 b hb).trans (keep3 b o hb e)) g4 hp hs)
 by_cases h2:as.length<2
 ·have ji:(as.map Value.ref).toArray.size<2:=by omega
  dsimp only;rw[aC ji,aC ji];refine aB (aD ?_);rw[StateT.run_pure];refine aB (aD (hend as ps (SortSt.mk' general' ((as.map Value.ref).toArray.zip (as.map Value.ref).toArray) #[] 7 none) ?_ (aK _) rfl ⟨List.range as.length,cU _,?_,?_⟩ ?_))
  ·show((as.map Value.ref).toArray.zip (as.map Value.ref).toArray).map (·.2)=_
   apply gK.mp;simp only[Array.toList_map,Array.toList_zip];exact List.map_snd_zip (aK _)
  ·refine db λi=>?_
   by_cases hi:i<as.length
   ·simp[hi]
   ·simp[hi]
  ·refine db λi=>?_
   have:=pa.len;by_cases hi:i<as.length
   ·simp[hi,show i<ps.length by omega]
   ·simp[hi,show ps.length<=i by omega]
  ·have:=pa.len
   match ps,this with
   |[],_=>exact List.Pairwise.nil
   |[_],_=>exact d9 _ _
   |_::_::_,h=>simp at h;omega
 ·have ji:¬ (as.map Value.ref).toArray.size<2:=by omega
  dsimp only;rw[aE ji,aE ji];have mw:(as.map Value.ref).length=as.length:=by simp
  refine aB (GW (s:={s with heap:=h3}) pa3 (by have:=pa.len;omega) ?_);have O:=swo_at ps
  have tree:=Hs.wp (Q:=λ(p:Array Nat) km=>km={s with heap:=h3}∧Pm as.length p∧L2.Srt (Hz ps) p as.length) (cmp:=kas_ask prog w A (tuples' true) (as.map Value.ref)) (s:={s with heap:=h3})
   (λi j C hi hj hC=>by
    unfold kas_ask;have gi:(as.map Value.ref).getD i Value.none=.ref as[i]:=by simp[hi]
    have gj:(as.map Value.ref).getD j Value.none=.ref as[j]:=by simp[hj]
    rw[gi,gj];have hl:=pa.len;obtain⟨oi,vi,ni,ei,_,di,ri⟩:=pa3.at' i as[i] (ps[i]'(by omega)) (aI hi) (aI (by omega));obtain⟨oj,vj,nj,ej,_,dj,rj⟩:=pa3.at' j as[j] (ps[j]'(by omega)) (aI hj) (aI (by omega));obtain⟨wm,lR⟩:=pa.wid;have w1:=lR _ (eF (l:=ps) (n:=i) (by omega));have w2:=lR _ (eF (l:=ps) (n:=j) (by omega));have z1:=ri.length;have z2:=rj.length;rw[aA]at z1 z2;refine kat_lt ei di ej dj ?_;rw[show decide (vi.toArray.size<vj.toArray.size)=false from aL (by simp only[bF];omega)];refine Li (i:=0) ri rj (by omega) ?_;have d1:ps.getD i []=ps[i]'(by omega):=by simp[show i<ps.length by omega]
    have d2:ps.getD j []=ps[j]'(by omega):=by simp[show j<ps.length by omega]
    unfold Hz at hC;rw[d1,d2]at hC;exact hC) (λp hp=>⟨rfl,hp⟩) (Cr O (n:=as.length) (by omega))
  have tree2:(kas_sort (as.map Value.ref).length).kasWp (kas_ask prog w A (tuples' true) (as.map Value.ref)) (λ(p:Array Nat) km=>km={s with heap:=h3}∧Pm as.length p∧L2.Srt (Hz ps) p as.length) {s with heap:=h3}:=by rw[mw];exact tree
  refine aB (cx (kat_run (Q:=λjE s'=>s'={s with heap:=h3}∧∃p:Array Nat,arrOf jE=p.map (kas_item ((as.map Value.ref).toArray.zip (as.map Value.ref).toArray))∧failedOf jE=none∧Pm as.length p∧L2.Srt (Hz ps) p as.length) rfl (by omega) (by omega)
   (λp jE s' _ a2 a3 a4=>⟨a4.1,p,a2,a3,a4.2.1,a4.2.2⟩) tree2) (λr s' hr=>?_) λ_ _ e=>e)
  obtain⟨⟨⟩,jE⟩:=r;obtain⟨rfl,p,nZ,hf,lS,n4⟩:=hr;have jy:=kat_snds rfl nZ;have hall:∀i∈p.toList,i<as.length:=λi hi=>by have:=lS.perm.mem_iff.mp hi;simpa using this
  refine hend (p.toList.map λi=>as.getD i 0) (p.toList.map λi=>ps.getD i []) jE ?_ (by rw[aA,lS.perm.length_eq,bP];exact aK _) hf ⟨p.toList,lS.perm,rfl,rfl⟩ ?_
  ·rw[jy,aS]
   congr 1
   refine cq λi hi=>?_
   have:=hall i hi;simp[this]
  ·rw[bO]
   refine dv.mpr λi j hi hj jQ=>?_
   have iR:p.toList.length=as.length:=by rw[lS.perm.length_eq,bP]
   have:=n4 i j (by omega) (by omega);unfold le' gN Hz at this;have q1:p.getD i 0=p.toList[i]:=by simp[Array.getD,show i<p.size by simpa using hi]
   have q2:p.getD j 0=p.toList[j]:=by simp[Array.getD,show j<p.size by simpa using hj]
   rw[q1,q2]at this;exact this
structure PrsAt(h:Heap)(as:iA)(ps:hZ):Prop where
 len:as.length=ps.length
 at':∀(i:Nat) (a:Addr) (p:Int × Int),as[i]?=some a->ps[i]?=some p->∃o t u n,h.get? a=some o∧o.cls=.type "tuple"∧o.data=.seq #[.int p.1 t,.int p.2 u] n
def PrsAt.keep{h h':Heap}{as:iA}{ps:hZ}(x:PrsAt h as ps)(k:∀a∈as,∀o,h.get? a=some o->h'.get? a=some o):PrsAt h' as ps:=
 ⟨x.len,λi a p e1 e2=>let ⟨o,t,u,n,e,r⟩:=x.at' i a p e1 e2;⟨o,t,u,n,k a (bM e1) _ e,r⟩⟩
def l2(p:Int × Int):iC:=[p.1,p.2]
def Fh(p q:Int × Int):ltR (l2 p) (l2 q)=ltP p q:=by
 show(if p.1=q.1 then (if p.2=q.2 then false else decide (p.2<q.2)) else decide (p.1<q.1))=_;unfold ltP;by_cases h:p.1=q.1
 ·rw[aC h,aC h]
  by_cases h2:p.2=q.2
  ·rw[aC h2,aL (by omega)]
  ·rw[aE h2]
 ·rw[aE h,aE h]
def K7{a:Addr}{as:iA}{ps:hZ}{n:Nat}{P:PySem.Fin->Shared->Prop}(ho:s.heap.get? a=some (seqObj "list" (as.map Value.ref).toArray n))(pa:PrsAt s.heap as ps)(my:a ∉ as)(kg:as.length<64)(fin:∀h' bs qs c,(∀b o,b≠a->s.heap.get? b=some o->h'.get? b=some o)->h'.get? a=some (seqObj "list" (bs.map Value.ref).toArray c)->(∃p:iD,p.Perm (List.range as.length)∧bs=p.map (λi=>as.getD i 0)∧qs=p.map (λi=>ps.getD i (0,0)))->qs.Pairwise (λx y=>ltP y x=false)->P (.done (.ret .none)) {s with heap:=h'}):wpAny (model prog w) A (Builtin.«list.sort» ⟨[.ref a],[]⟩) P E s:=by
 refine Na (ps:=ps.map l2) ho ⟨by rw[aA];exact pa.len,⟨1,λp hp=>?_⟩,λi a p e1 e2=>?_⟩ my kg λh' bs qs c k g hp hs=>?_
 ·obtain⟨q,_,rfl⟩:=aZ.mp hp;rfl
 ·rw[bA]at e2
  obtain⟨q,hq,rfl⟩:=bZ.mp e2;obtain⟨o,t,u,n,r1,r2,r3⟩:=pa.at' i a q e1 hq;exact⟨o,[.int q.1 t,.int q.2 u],n,r1,r2,r3,.cons ⟨t,rfl⟩ (.cons ⟨u,rfl⟩ .nil)⟩
 ·obtain⟨p,p1,p2,p3⟩:=hp
  have e:qs=(p.map λi=>ps.getD i (0,0)).map l2:=by
   rw[p3,aS];refine cq λi hi=>?_
   have:i<ps.length:=by rw[← pa.len];exact aX.mp (p1.mem_iff.mp hi)
   simp[this]
  subst e;exact fin h' bs _ c k g ⟨p,p1,p2,rfl⟩ ((bO.mp hs).imp λh=>by rw[← Fh];exact h)
end
def Oa{α:Type}:∀{as:iA} {ps:List α} {i:Nat} {a:Addr} {p:α},as.Nodup->as[i]?=some a->ps[i]?=some p->(as.zip ps).lookup a=some p
 |[],_,_,_,_,_,e,_=>by simp at e
 |_::_,[],_,_,_,_,_,e=>by simp at e
 |b::as,q::ps,0,a,p,nd,e1,e2=>by
  simp at e1 e2;subst e1 e2;simp[aN]
 |b::as,q::ps,i+1,a,p,nd,e1,e2=>by
  have e1:as[i]?=some a:=by simpa using e1
  have e2:ps[i]?=some p:=by simpa using e2
  have hb:(a == b)=false:=aY.mpr λz=>(cL.mp nd).1 (z ▸ bM e1)
  rw[List.zip_cons_cons,aN,hb];exact Oa (cL.mp nd).2 e1 e2
def Xw{α:Type}:∀{as:iA} {ps:List α} {a:Addr} {p:α},(as.zip ps).lookup a=some p->∃i:Nat,as[i]?=some a∧ps[i]?=some p
 |[],_,_,_,e=>by simp at e
 |_::_,[],_,_,e=>by simp at e
 |b::as,q::ps,a,p,e=>by
  rw[List.zip_cons_cons,aN]at e;cases hb:(a == b) with
  |true=>rw[hb]at e;cases e;exact⟨0,by simp[eq_of_beq hb],rfl⟩
  |false=>
   rw[hb]at e;obtain⟨i,h1,h2⟩:=Xw e;exact⟨i+1,by simpa using h1,by simpa using h2⟩
def QX{α γ:Type}{R:α->γ->Prop}:∀{xs:List α} {ys:List γ} {i:Nat} {x:α} {y:γ},Paired R xs ys->xs[i]?=some x->ys[i]?=some y->R x y
 |_,_,_,_,_,.nil,e,_=>by simp at e
 |_,_,0,_,_,.cons h _,e1,e2=>by simp at e1 e2;subst e1 e2;exact h
 |_,_,i+1,_,_,.cons _ r,e1,e2=>QX (i:=i) r (by simpa using e1) (by simpa using e2)
def RA:∀bs:iA,Vals (bs.map V.ref) (bs.map Value.ref)
 |[]=>.nil
 |_::r=>.cons rfl (RA r)
def prT(p:Int × Int):HO:=.tup [.int p.1,.int p.2]
def Xq(H:Hp)(as:iA)(ps:hZ):Hp:=λb=>match (as.zip ps).lookup b with
 |some p=>some (prT p)
 |none=>H b
def KW(v d:Addr):HO:=.ext λh=>h.IsItemsView v d
section
variable{X:Cx}{E:XK}
def rItems:V->List V->Hp->VK->Prop:=λx vs H Q=>∃d kvs,x=.ref d∧vs=[]∧H d=some (.dK kvs)∧∀p,H p=none->Q (.ref p) (upd H p (KW p d))
def ER:MtM X "dict.items" rItems:=by
 intro gV s σ H x vs v us Q I rx rv h;obtain⟨d,kvs,rfl,rfl,hd,q⟩:=h;cases rx;cases rv;obtain⟨z,hS,ws,r,m⟩:=I.hok d _ hd;refine gp PySem.F.slot_dict_items m.typeIs PySem.F.entry_dict_items (PySem.F.args_dict_items_1 _) (meets_dict_items (ZT X.prog X.w) d hS) ⟨⟨ws,m⟩,?_⟩;refine⟨.ref s.heap.objs.size,_,I.laid (o:=KW s.heap.objs.size d) (t':=s.toks) (λb u e=>aF _ e) (aK _) ?_,rfl,q _ I.fresh⟩;exact⟨⟨_,aW _ rfl,rfl,rfl⟩,⟨_,aW _ rfl⟩,λh1 h2 ⟨o,e1,e2,e3⟩ k=>⟨o,k o e1,e2,e3⟩⟩
def rSortV:iI->Hp->VK->Prop:=λxs H Q=>∃v d ps,xs=[.ref v]∧H v=some (KW v d)∧H d=some (.dK (ps.map λ(p:Int × Int)=>((Sum.inl p.1:Key),V.int p.2)))∧ps.length<64 ∧
 ∀(B:Addr) (as bs:iA) (qs:hZ),as.Nodup->as.length=ps.length->(∀a∈as,H a=none)->H B=none->B ∉ as->(∃p:iD,p.Perm (List.range as.length)∧bs=p.map (λi=>as.getD i 0)∧qs=p.map (λi=>ps.getD i (0,0)))->qs.Pairwise (λx y=>ltP y x=false) ->
  Q (.ref B) (upd (Xq H as ps) B (.lst (bs.map V.ref)))
def JH(hc:X.calm=true):CallR X (.builtin "sorted") rSortV:=by
 intro gV s σ H xs us Q I r h;obtain⟨v,d,ps,rfl,hv,hd,kg,q⟩:=h;obtain⟨u,rfl,ru⟩:=SL r;cases (show u=Value.ref v from ru);obtain⟨lC,_,_⟩:=I.hok v _ hv;obtain⟨z,hS,ws,rk,m⟩:=I.hok d _ hd;obtain⟨o,es,ep,hm⟩:=m;have jN:ws.length=ps.length:=by have:=rk.length;rw[aA]at this;exact this.symm
 refine fU kind_sorted plain_sorted entry_sorted (args_sorted1 _) (show wpAny _ _ (Builtin.«sorted» _) _ _ _ from ?_);unfold Builtin.«sorted»;refine aB (m:=checkCount "sorted" 1 1 _) (aD (aB (kdx_collect (A:=X.A.in1) (knd:=ZT X.prog X.w) (kvs:=ws) (ep:=ep) (I.ok.hd hc) lC ⟨o,es,hm⟩ (by rw[cf];omega) λh' tk as hk hl hG=>?_)));have nd:as.Nodup:=hG.rise.imp λh=>bC h
 have hal:as.length=ps.length:=by omega
 have pa:PrsAt h' as ps:=⟨hal,λi a p e1 e2=>by
  obtain⟨key,k,x,f1,f2,f3⟩:=hG.pairs i a e1;have e3:(ps.map λ(p:Int × Int)=>((Sum.inl p.1:Key),V.int p.2))[i]?=some ((Sum.inl p.1:Key),V.int p.2):=by rw[bA,e2];rfl
  obtain⟨g1,g2⟩:=QX rk e3 f1;have g1:(Sum.inl p.1:Key)=k:=g1;subst g1;obtain⟨u,g2⟩:=(show ∃u,x=Value.int p.2 u from g2);subst g2;obtain⟨t,g3⟩:=fY (k:=p.1) (v:=key) f2;subst g3;exact⟨_,t,u,_,f3,rfl,rfl⟩⟩
 have hB:∀a∈as,a<h'.objs.size:=λa ha=>hG.there ha
 refine aB (gL ?_ (by rw[aA,cf];omega));generalize hH1:h'.push {cls:=.type "list",data:=.seq (as.map Value.ref).toArray}=h1;have k1:∀b o,h'.get? b=some o->h1.get? b=some o:=λb o e=>by rw[← hH1];exact aF _ e
 have lJ:h1.get? h'.objs.size=some (seqObj "list" (as.map Value.ref).toArray 0):=by rw[← hH1];exact aW _ rfl
 have hBn:h'.objs.size ∉ as:=λhm=>cS _ (hB _ hm)
 refine aB (cz (dr slot_list_sort ⟨_,lJ,rfl⟩ entry_list_sort (K7 (s:={s with heap:=h1,toks:=tk}) lJ (pa.keep λa _ o e=>k1 a o e) hBn (by omega) λh2 bs qs c k2 g2 hp hs=>⟨_,rfl,aD ⟨_,rfl,?_⟩⟩) (args_list_sort _)));have kp:∀b o,s.heap.get? b=some o->h2.get? b=some o:=λb o e=>k2 b o (bC (aO (hk b o e))) (k1 b o (hk b o e))
 have fa:∀a∈as,s.heap.get? a=none:=λa ha=>Heap.get?_none_of_le (et (hG.above a ha))
 have fH:∀a∈as,H a=none:=λa ha=>I.hok.fresh (et (hG.above a ha))
 have fB:H h'.objs.size=none:=by
  cases hh:H h'.objs.size with
  |none=>rfl
  |some ob=>
   obtain⟨x,ex⟩:=(I.hok _ _ hh).ex;exact absurd (aO (hk _ _ ex)) (cS _)
 have inA:∀{b:Addr} {p:Int × Int},(as.zip ps).lookup b=some p->b∈as:=λ{b p} e=>let ⟨i,h1,_⟩:=Xw e;bM h1
 have old:∀b o,H b=some o->upd (Xq H as ps) h'.objs.size (.lst (bs.map V.ref)) b=some o:=λb o e=>by
  rw[Zx (ZX e fB)];unfold Xq
  match hx:(as.zip ps).lookup b with
  |some p=>rw[fH b (inA hx)]at e;cases e
  |none=>exact e
 have notOld:∀b o,s.heap.get? b=some o->H b=none->upd (Xq H as ps) h'.objs.size (.lst (bs.map V.ref)) b=none:=λb o e n=>by
  rw[Zx (bC (aO (hk b o e)))];unfold Xq
  match hx:(as.zip ps).lookup b with
  |some p=>rw[fa b (inA hx)]at e;cases e
  |none=>exact n
 refine⟨.ref h'.objs.size,_,I.un (t':=tk) (H':=upd (Xq H as ps) h'.objs.size (.lst (bs.map V.ref))) ⟨λb o e n _ _=>kp b o e,λb o e n _ _=>⟨o.slots,kp b o e⟩,λb o e n _=>notOld b o e n,λb o e _=>⟨o,kp b o e⟩,λb xs e=>old b _ e,λb o u e=>old b _ e,λb xs e=>⟨#[],by rw[Array.append_empty];exact old b _ e⟩⟩ (λb o e=>?_),rfl,q _ as bs qs nd hal fH fB hBn hp hs⟩;by_cases hb:b=h'.objs.size
 ·subst hb
  rw[ZC]at e;cases e;obtain⟨p,j6,jF,j7⟩:=hp;refine⟨?_,bs.map Value.ref,c,?_,g2⟩
  ·rw[aA,jF,aA,j6.length_eq,bP,cf];omega
  ·exact RA bs
 ·rw[Zx hb]at e
  unfold Xq at e
  match hx:(as.zip ps).lookup b,e with
  |some p,e=>
   have e:some (prT p)=some o:=e;cases e;obtain⟨i,jz,ji⟩:=Xw hx;obtain⟨o',t,u,n',ho,lK,n5⟩:=pa.at' i b p jz ji;exact⟨by show 2<=sizeLine;decide,[.int p.1 t,.int p.2 u],.cons ⟨t,rfl⟩ (.cons ⟨u,rfl⟩ .nil),⟨o',k2 b _ hb (k1 b _ ho),lK,n',n5⟩⟩
  |none,e=>
   exact(I.hok b o e).stay (λc w' _ q'=>kp c w' q') (λc q'=>old c _ q') λc xs q'=>old c _ q'
def HB(p:Int × Int):hZ->List (Int × Int)
 |[]=>[p]
 |q::r=>if ltP q p=true then q::HB p r else p::q::r
def YH:hZ->List (Int × Int)
 |[]=>[]
 |p::r=>HB p (YH r)
def RP(p:Int × Int):∀l,(HB p l).Perm (p::l)
 |[]=>cU _
 |q::r=>by
  unfold HB;split
  ·exact((RP p r).cons q).trans (List.Perm.swap p q r)
  ·exact cU _
def Z4:∀l,(YH l).Perm l
 |[]=>cU _
 |p::r=>(RP p (YH r)).trans ((Z4 r).cons p)
abbrev DC(l:hZ):Prop:=l.Pairwise λx y=>ltP y x=false
def LD(p:Int × Int):∀l,DC l->DC (HB p l)
 |[],_=>d9 _ _
 |q::r,h=>by
  have h':=bJ.mp h;unfold HB;by_cases hc:ltP q p=true
  ·rw[aC hc]
   refine bJ.mpr ⟨λy hy=>?_,LD p r h'.2⟩;rcases aR.mp ((RP p r).mem_iff.mp hy) with rfl|hy
   ·cases z:ltP y q with
    |false=>rfl
    |true=>have a:=Vy.mp hc;have b:=Vy.mp z;omega
   ·exact h'.1 y hy
  ·rw[aE hc]
   refine bJ.mpr ⟨λy hy=>?_,h⟩;have kh:ltP q p=false:=by simpa using hc
   rcases aR.mp hy with rfl|hy
   ·exact kh
   ·cases z:ltP y p with
    |false=>rfl
    |true=>
     have e:=h'.1 y hy;have a:=Vy.mp z;have b:¬ _:=λw'=>hc (Vy.mpr w')
     have c:¬ _:=λw'=>absurd (Vy.mpr w') (by rw[e];exact aJ)
     omega
def Xo:∀l,DC (YH l)
 |[]=>List.Pairwise.nil
 |p::r=>LD p _ (Xo r)
def V6:∀{l m:hZ},l.Perm m->DC l->DC m->l=m
 |[],m,h,_,_=>(List.nil_perm.mp h).symm
 |x::l,[],h,_,_=>absurd h (by simp)
 |x::l,y::m,h,h1,h2=>by
  have jz:=bJ.mp h1;have ji:=bJ.mp h2
  have e:x=y:=by
   have hx:=h.mem_iff.mp (cK (a:=x) (l:=l));have hy:=h.mem_iff.mpr (cK (a:=y) (l:=m));rcases aR.mp hx with hx|hx
   ·exact hx
   ·rcases aR.mp hy with hy|hy
    ·exact hy.symm
    ·have a:=jz.1 y hy
     have b:=ji.1 x hx;have a':¬ _:=λw'=>absurd (Vy.mpr w') (by rw[a];exact aJ)
     have b':¬ _:=λw'=>absurd (Vy.mpr w') (by rw[b];exact aJ)
     exact Prod.ext (by omega) (by omega)
  subst e;rw[V6 h.cons_inv jz.2 ji.2]
def Qo:iM->Option (hZ)
 |[]=>some []
 |(.inl k,.int v)::r=>match Qo r with
  |some ps=>some ((k,v)::ps)
  |none=>none
 |_=>none
def prW(p:Int × Int):Wv:=.tup [.int p.1,.int p.2]
def QM(d:Wv):Mw (iJ):=λom=>match d with
 |.o h=>match om[h]? with
  |some (.dk kvs)=>match Qo kvs with
   |some ps=>if ps.length<64 then some (.ok ((YH ps).map prW),om) else none
   |none=>none
  |_=>none
 |_=>none
def Nw{F:Hp}{β:iA}:∀{kvs:iM} {qs:List (Key × V)} {ps:hZ},RK F β kvs qs->Qo kvs=some ps->qs=ps.map λ(p:Int × Int)=>((Sum.inl p.1:Key),V.int p.2)
 |_,_,_,.nil,e=>by cases e;rfl
 |(.inr _,_)::_,_,_,.cons _ _,e=>by cases e
 |(.inl k,w)::r,_,_,.cons h rr,e=>by
  cases h with
  |int v=>
   have e:(match Qo r with|some ps=>some ((k,v)::ps)|none=>none)=some _:=e
   match hr:Qo r,e with
   |some ps,e=>
    have e:some ((k,v)::ps)=some _:=e;cases e;rw[aU,← Nw rr hr]
   |none,e=>exact nomatch e
  |_=>exact nomatch e
def MOk.newP{F H:Hp}{β:iA}{om:iN}{as:iA}{ps:hZ}(M:MOk F H β om)(hf:∀a∈as,H a=none):Gx F (Xq F as ps) H (Xq H as ps) β β∧MOk (Xq F as ps) (Xq H as ps) β om:=by
 have inA:∀{b:Addr} {p:Int × Int},(as.zip ps).lookup b=some p->b∈as:=λ{b p} e=>let ⟨i,h1,_⟩:=Xw e;bM h1
 have oldH:∀b o,H b=some o->Xq H as ps b=some o:=λb o e=>by
  unfold Xq
  match hx:(as.zip ps).lookup b with
  |some p=>rw[hf b (inA hx)]at e;cases e
  |none=>exact e
 have oldF:∀b o,F b=some o->Xq F as ps b=some o:=λb o e=>by
  unfold Xq
  match hx:(as.zip ps).lookup b with
  |some p=>have:=M.sub b o e;rw[hf b (inA hx)]at this;cases this
  |none=>exact e
 have out:∀b,b ∉ as->Xq F as ps b=F b∧Xq H as ps b=H b:=λb hb=>by
  unfold Xq
  match hx:(as.zip ps).lookup b with
  |some p=>exact absurd (inA hx) hb
  |none=>exact⟨rfl,rfl⟩
 have nb:∀(h:Nat) (a:Addr),β[h]?=some a->a ∉ as:=λh a e ha=>by
  obtain⟨x,hx⟩:=M.there e;rw[hf a ha]at hx;cases hx
 have g:Gr F (Xq F as ps) β β:=⟨oldF,λ_ _ e=>e⟩;refine⟨⟨g,λb o e _=>oldH b o e,λb e=>?_,λb hb=>.inl hb,λb o e=>?_,λb o u e=>oldH b _ e⟩,⟨λb o e=>?_,M.nd,M.len,λh a e=>by rw[(out a (nb h a e)).1];exact M.free h a e,λh a x e1 e2=>(M.ob h a x e1 e2).mono g (out a (nb h a e1)).2⟩⟩
 ·cases hh:H b with
  |none=>rfl
  |some o=>rw[oldH b o hh]at e;cases e
 ·by_cases hb:b∈as
  ·exact .inr (hf b hb)
  ·rw[(out b hb).1]at e;exact .inl e
 ·unfold Xq at e ⊢
  match hx:(as.zip ps).lookup b,e with
  |some p,e=>exact e
  |none,e=>exact M.sub b o e
def SN(k:iJ->Mw Wv)(f:FE):FE:=λsl=>bnd (f sl) λd=>bnd (QM d) k
variable{o:Expr}{f:FE}{k:iJ->Mw Wv}{p pos iw ir:Pos}
def NA(hk:WT E k)(hc:X.calm=true)(hg:Gl X "sorted")(hm:X.mg "sorted"=none)(ho:PE X o (tE E f))(jf:attributeBase o "items" X.env (eval o X.env)=eval o X.env:=by rfl)(jg:(iw.endLine == ir.line)=true:=by rfl)(h0:starEach [.Call (.Attribute o "items" iw) [] [] ir] X.env=(false,eval (.Call (.Attribute o "items" iw) [] [] ir) X.env)::starEach [] X.env:=by rfl) (iR:(backTo pos (starEach [] X.env)).any (·.1)=false:=by rfl):PE X (.Call (.Name "sorted" p) [.Call (.Attribute o "items" iw) [] [] ir] [] pos) (tE E (SN k f)):=
 (Oe (JH hc) hg hm dC (XW (A3 fQ PySem.F.slot_dict_items PySem.F.type_dict_items ER ho jf jg) VO h0) (by decide) (by decide) h0 iR).weak λσ H Q ⟨F,β,om,sl,M,V,R⟩=>by
 refine⟨F,β,om,sl,M,V,R.bind λx om1 F1 H1 io g1 M1 R1 v rv=>?_⟩;cases rv with
 |@o h a eb=>
  unfold bnd QM at R1;dsimp only at R1
  match hx:om1[h]?,R1 with
  |none,R1=>exact R1.elim
  |some (.ins _ _),R1=>exact R1.elim
  |some (.exc _),R1=>exact R1.elim
  |some (.dz _),R1=>exact R1.elim
  |some (.lst _),R1=>exact R1.elim
  |some (.dt _),R1=>exact R1.elim
  |some (.dk kvs),R1=>
   obtain⟨a',ea,_,ks,jl,rs⟩:=M1.at hx;rw[eb]at ea;cases ea;dsimp only at R1
   match hp:Qo kvs,R1 with
   |none,R1=>exact R1.elim
   |some ps,R1=>
    dsimp only at R1;by_cases hl:ps.length<64
    ·have R2:Res E (k ((YH ps).map prW) om1) F1 H1 io (PV Q):=by
      have:=R1;rw[aC hl]at this;exact this
     have eks:=Nw rs hp;refine⟨.inr (.inr (.inl ⟨rfl,.inl ⟨ks,jl⟩⟩)),a,ks,rfl,rfl,jl,λv hv=>?_⟩;have MU:=M1.newU (o:=KW v a) hv;have gU:=M1.gxU (o:=KW v a) hv;refine⟨v,a,ps,rfl,ZC,by rw[Zx (ZX jl hv),jl,eks],hl,λB as bs qs nd hal hf hB hBa ⟨p,j6,jF,j7⟩ hs=>?_⟩;obtain⟨g3,M3⟩:=MU.newP (ps:=ps) hf
     have eqs:qs=YH ps:=by
      refine V6 ?_ hs (Xo ps);refine List.Perm.trans ?_ (Z4 ps).symm;rw[j7];refine(j6.map _).trans ?_;rw[hal]
      have:(List.range ps.length).map (λi=>ps.getD i (0,0))=ps:=db λi=>by
       by_cases hi:i<ps.length
       ·simp[hi]
       ·simp[hi]
      rw[this]
     have rws:RWs (Xq F1 as ps) io ((YH ps).map prW) (bs.map L2.V.ref):=by
      rw[← eqs,j7,jF];have hall:∀i∈p,i<as.length:=λi hi=>by have:=j6.mem_iff.mp hi;simpa using this
      clear j6 jF j7 eqs hs
      induction p with
      |nil=>exact .nil
      |cons i p ih=>
       have hi:=hall i (.head _);refine .cons ?_ (ih λj hj=>hall j (.tail _ hj));have e1:as.getD i 0=as[i]:=by simp[hi]
       have e2:ps.getD i (0,0)=ps[i]'(by omega):=by simp[show i<ps.length by omega]
       show RW (Xq F1 as ps) io (prW (ps.getD i (0,0))) (L2.V.ref (as.getD i 0));rw[e1,e2];refine .tup ?_ (.cons (.int _) (.cons (.int _) .nil));unfold Xq;rw[Oa nd (aI hi) (aI (by omega))];rfl
     exact(hk M3 rws (Res.mono (gU.trans g3) R2)).2 (by
      unfold Xq
      match hx2:(as.zip ps).lookup B with
      |some p=>exact absurd (let ⟨i,h1,_⟩:=Xw hx2;bM h1) hBa
      |none=>exact hB)
    ·rw[aE hl]at R1;exact R1.elim
 |_=>exact R1.elim
end
end
end L2
namespace L2
noncomputable section
open PySem
def T3{c:FT}{f:FE}{mk:Wv->Sl}{om:iN}(p:Wv->Bool)(g:Wv->Wv):∀{l:iJ},(∀w∈l,c (mk w) om=some (.ok (p w),om))->(∀w∈l,p w=true->f (mk w) om=some (.ok (g w),om))->Xm c f mk l om=some (.ok ((l.filter p).map g),om)
 |[],_,_=>rfl
 |w::r,hc,hf=>by
  have ih:=T3 p g (l:=r) (λx hx=>hc x (.tail _ hx)) (λx hx=>hf x (.tail _ hx));have h1:=hc w (.head _);show bnd (Yb (c (mk w))) (MK (Xm c f mk r) (f (mk w))) om=_;cases hp:p w with
  |false=>simp[bnd,Yb,h1,hp,MK,ih,cW]
  |true=>
   have h2:=hf w (.head _) hp;simp[bnd,Yb,h1,hp,MK,ih,h2,cW,ret]
def Ka(p:Wv->Bool)(n:Nat):(W4 n).filter p=((List.range n).filter λk=>p (.int (k:Nat))).map λ(k:Nat)=>Wv.int k:=by
 unfold W4;rw[List.filter_map];rfl
def Kl{n:Nat}{w:Wv}(h:w∈W4 n):∃k,k<n∧w=.int (k:Nat):=by
 obtain⟨k,hk,e⟩:=aZ.mp h;exact⟨k,aX.mp hk,e.symm⟩
def W6(n:Nat):(W4 n).length=n:=by simp[W4]
def ZH(us:hZ):iM:=us.map λp=>(.inl p.1,.int p.2)
def Tv(us:hZ)(k:Int):V9 (ZH us) (.inl k)=(us.lookup k).map Wv.int:=by
 induction us with
 |nil=>rfl
 |cons p us ih=>
  unfold V9 ZH at ih ⊢;rw[aU,cB,aN];by_cases h:p.1=k
  ·simp[h]
  ·have h':(k == p.1)=false:=aY.mpr (cI h)
   have h2:¬ (Sum.inl p.1:Key)=Sum.inl k:=λz=>h (gc z)
   simp only[h2,decide_false,h'];exact ih
def IG{us:hZ}{k:Int}(s:Int)(h:us.lookup k=none):WP (ZH us) (.inl k) (.int s)=ZH (us++[(k,s)]):=by
 have:((ZH us).any λkv=>decide (kv.1=(Sum.inl k:Key)))=false:=by
  have hv:=Tv us k;rw[h]at hv;unfold V9 at hv;cases hf:(ZH us).find? λkv=>decide (kv.1=(Sum.inl k:Key)) with
  |some x=>rw[hf]at hv;cases hv
  |none=>
   rw[fw];intro x hx;exact eW.mp hf x hx
 unfold WP;rw[this,aE aJ];simp[ZH]
def Pr:∀us:hZ,Qo (ZH us)=some us
 |[]=>rfl
 |p::us=>by
  show(match Qo (ZH us) with|some ps=>some ((p.1,p.2)::ps)|none=>none)=_;rw[Pr us]
def OR(us:hZ):(ZH us).length=us.length:=by simp[ZH]
def ZA:Option Int->Wv
 |none=>.non
 |some s=>.int s
def Qj:∀{l m:hZ},l.Pairwise (λx y=>x.1<y.1)->m.Pairwise (λx y=>x.1<y.1)->(∀p,p∈l ↔ p∈m)->l=m
 |[],[],_,_,_=>rfl
 |[],y::m,_,_,h=>absurd ((h y).mpr (.head _)) (by simp)
 |x::l,[],_,_,h=>absurd ((h x).mp (.head _)) (by simp)
 |x::l,y::m,h1,h2,h=>by
  have jz:=bJ.mp h1;have ji:=bJ.mp h2
  have e:x=y:=by
   rcases aR.mp ((h x).mp (.head _)) with hx|hx
   ·exact hx
   ·rcases aR.mp ((h y).mpr (.head _)) with hy|hy
    ·exact hy.symm
    ·have a:=jz.1 y hy
     have b:=ji.1 x hx;omega
  subst e
  congr 1
  refine Qj jz.2 ji.2 λp=>⟨λhp=>?_,λhp=>?_⟩
  ·rcases aR.mp ((h p).mp (.tail _ hp)) with rfl|hq
   ·have:=jz.1 p hp;omega
   ·exact hq
  ·rcases aR.mp ((h p).mpr (.tail _ hp)) with rfl|hq
   ·have:=ji.1 p hp;omega
   ·exact hq
def Wr{a b:String}:(Str.ofString a=Str.ofString b)=(a=b):=by
 refine propext ⟨λh=>?_,λh=>by rw[h]⟩;rw[Str.ofString_eq_toList,Str.ofString_eq_toList]at h;injection h with h
 have h:=cE Array.toList h;simp only at h
 have inj:∀{l m:List Char},l.map Char.toNat=m.map Char.toNat->l=m:=by
  intro l
  induction l with
  |nil=>intro m e;cases m with|nil=>rfl|cons _ _=>simp at e
  |cons x l ih=>
   intro m e;cases m with
   |nil=>simp at e
   |cons y m=>
    simp only[aU,List.cons.injEq]at e;rw[ih e.2,Char.ext (UInt32.toNat_inj.mp e.1)]
 exact String.toList_inj.mp (inj h)
def YZ{a b:String}:(Str.ofString a == Str.ofString b)=decide (a=b):=by
 rw[cV,dA,bX,Wr]
def X5(n:Nat)(om:iN)(h:n<=lim):Yw (.int n) om=some (.ok (W4 n),om):=by
 have hl:n<=100000:=ZQ ▸ h
 have hd:decide (-(2 ^ 62)<=(n:Int)∧(n:Int)<2 ^ 62)=true:=by
  rw[bX];exact⟨by omega,by omega⟩
 simp only[Yw,hd];rw[cj];rfl
def RO(a b:Int)(om:iN):WJ true (.int a) (.int b) om=some (.ok (.bl (!decide (a=b))),om):=by
 simp[WJ,XJ,Vh,Vj,PyData.canLay0,PyData.depth,PyData.eqv];rfl
def WI(a b:Int)(om:iN):WJ false (.int a) (.int b) om=some (.ok (.bl (decide (a=b))),om):=by
 simp[WJ,XJ,Vh,Vj,PyData.canLay0,PyData.depth,PyData.eqv];rfl
def Zh{S1 S2:FS}{sl sl1:Sl}{om om1:iN}(h:S1 sl om=some (.ok (.nx,sl1),om1)):Zv S1 S2 sl om=S2 sl1 om1:=by
 simp[Zv,bnd,h,H9]
def YA{S1 S2:FS}{sl sl1:Sl}{om om1:iN}{w:Wv}(h:S1 sl om=some (.ok (.rt w,sl1),om1)):Zv S1 S2 sl om=some (.ok (.rt w,sl1),om1):=by
 simp[Zv,bnd,h,H9,ret]
def ZF{N:Nat}{S:FS}{ws:iJ}{sl1:Sl}{om om1:iN}{w:Wv}(h:S (Vd N ws) om=some (.ok (.rt w,sl1),om1)):Ye N S ws om=some (.ok w,om1):=by
 simp[Ye,bnd,h,K9,ret]
def Vb{N:Nat}{S:FS}{ws:iJ}{sl1:Sl}{om om1:iN}(h:S (Vd N ws) om=some (.ok (.nx,sl1),om1)):Ye N S ws om=some (.ok .non,om1):=by
 simp[Ye,bnd,h,K9,ret]
def YV{fi:FI}{T:TgW}{S:FS}{sl sl1:Sl}{om om1 om2:iN}{ws:iJ}{r:Fl × Sl}(h:fi sl om=some (.ok ws,om1))(hf:VE T S ws sl om1=some (.ok r,om2)):XQ fi T S sl om=some (.ok r,om2):=by
 simp[XQ,bnd,h,hf]
def Wj{k:iJ->Mw Wv}{js:iD}{fi:FI}{c:FT}{f:FE}{sl:Sl}{om om1 om2:iN}{ws us:iJ}(h:fi sl om=some (.ok ws,om1))(hl:ws.length<=lim)(hc:Xm c f (λw=>Xd js w sl) ws om1=some (.ok us,om2)):Z5 k js fi c f sl om=k us om2:=by
 simp[Z5,bnd,h,chk,hl,hc,ret]
def Zw{i:Nat}{f:FE}{sl:Sl}{om om1:iN}{w:Wv}(h:f sl om=some (.ok w,om1)):ZD i f sl om=some (.ok (.nx,sl.set i (some w)),om1):=by
 simp[ZD,bnd,h,ret]
end
open PySem
def Zm{α β:Type}{m:Mw α}{k:α->Mw β}{om om1:iN}{a:α}(h:m om=some (.ok a,om1)):bnd m k om=k a om1:=by
 simp[bnd,h]
section
variable{sl sl1:Sl}{om om1 om2:iN}{f fa fb fo:FE}{c c1 c2:FT}{S S1 S2:FS}{fs:FA}{w x y:Wv}{ws:iJ}{b:Bool}{i j n:Nat}
def Yn(h:c sl om=some (.ok true,om1)):sIf c S1 S2 sl om=S1 sl om1:=by simp[sIf,bnd,h]
def Pp(h:c sl om=some (.ok false,om1)):sIf c S1 S2 sl om=S2 sl om1:=by simp[sIf,bnd,h]
def ZK(h:c sl om=some (.ok false,om1)):sIf c S1 Yo sl om=some (.ok (.nx,sl),om1):=(Pp h).trans rfl
def Zb(h:sl[i]?=some (some w)):Za i sl om=some (.ok w,om):=by simp[Za,h,ret]
def Zp:fC w sl om=some (.ok w,om):=rfl
def Zi:Zj sl om=some (.ok [],om):=rfl
def Ze(h:f sl om=some (.ok w,om1))(hr:fs sl om1=some (.ok ws,om2)):Zc f fs sl om=some (.ok (w::ws),om2):=by simp[Zc,bnd,h,hr,ret]
def ZB{k:iJ->Mw Wv}(h:fs sl om=some (.ok ws,om1)):fA k fs sl om=k ws om1:=by simp[fA,bnd,h]
def Wa{k:Wv->Mw Wv}(h:f sl om=some (.ok w,om1)):f1 k f sl om=k w om1:=by simp[f1,bnd,h]
def Zs{k:Wv->Wv->Mw Wv}(h:fa sl om=some (.ok x,om1))(h2:fb sl om1=some (.ok y,om2)):f2 k fa fb sl om=k x y om2:=by simp[f2,bnd,h,h2]
def YG{g:iJ->Mw Wv}(h:ws.length=n):kN n g ws om=g ws om:=by subst h;simp[kN,chk,bnd,ret]
def ZW(h:f sl om=some (.ok (.bl b),om1)):fB f sl om=some (.ok b,om1):=by simp[fB,bnd,h,kB,ret]
def XE(h:f sl om=some (.ok (.bl b),om1)):Xj f sl om=some (.ok b,om1):=by simp[Xj,bnd,h,kTru,Ie]
def NP(h:c sl om=some (.ok b,om1)):Lw c sl om=some (.ok (!b),om1):=by simp[Lw,bnd,h,ret]
def Lf(h:c1 sl om=some (.ok true,om1)):UG c1 c2 sl om=c2 sl om1:=by simp[UG,bnd,h]
def Jq(h:c1 sl om=some (.ok false,om1)):UG c1 c2 sl om=some (.ok false,om1):=by simp[UG,bnd,h,ret]
def fOr_t(h:c1 sl om=some (.ok true,om1)):fOr c1 c2 sl om=some (.ok true,om1):=by simp[fOr,bnd,h,ret]
def Es(h:c1 sl om=some (.ok false,om1)):fOr c1 c2 sl om=c2 sl om1:=by simp[fOr,bnd,h]
def NU(h:fa sl om=some (.ok (.bl true),om1)):V7 fa fb sl om=fb sl om1:=by simp[V7,bnd,h,kB,ret]
def Zu(h:f sl om=some (.ok w,om1)):Z8 f sl om=some (.ok (.rt w,sl),om1):=by simp[Z8,bnd,h,ret]
def ZY(h:f sl om=some (.ok w,om1)):Z9 f sl om=some (.ok (.nx,sl),om1):=by simp[Z9,bnd,h,ret]
def Zz{C:Addr}{m:Str}{g:iJ->Mw Wv}{k:iK}(h:fo sl om=some (.ok w,om1))(hi:TY om1 w=some (C,k))(hk:k.lookup m=none)(hs:fs sl om1=some (.ok ws,om2))(hn:ws.length+1=n):Zq C m n g fo fs sl om=g (w::ws) om2:=by
 subst hn;simp[Zq,bnd,h,CH,hi,hk,hs,kN,chk,ret]
end
def CV{K:g9}(h:A7 K=true){a:Addr}{o:Obj}(e:K.lookup a=some o):o.cls≠.type "list":=by
 intro z
 have hm:∃b,(b,o)∈K:=by
  clear h z
  induction K with
  |nil=>cases e
  |cons p K ih=>
   rw[aN]at e;split at e
   ·cases e;exact⟨p.1,.head _⟩
   ·obtain⟨b,hb⟩:=ih e;exact⟨b,.tail _ hb⟩
 obtain⟨b,hb⟩:=hm;have:=cQ.mp h _ hb;rw[show tyL ((b,o):Addr × Obj).2.cls=true by show tyL o.cls=true;rw[z];rfl]at this;cases this
def AM(K:g9):Sp:=λvs H Q _=>∃(a:Addr) (ns:iC),vs=[.ref a]∧SqL K H a (ns.map V.int)∧ns.length<=63∧∀H',Q (.bl true) H'
def KC(F:Hp)(β:iA):∀ns:iC,RWs F β (ns.map Wv.int) (ns.map V.int)
 |[]=>.nil
 |i::ns=>.cons (.int i) (KC F β ns)
def Ca{P:Program}{w:World}{K:g9}{mg:g8}{base:Heap}{CX:CXT}{k:Nat}{f:Addr}{fd:FuncData}{ps:iE}{g:iJ->Mw Wv}(hK:A7 K=true)(G:FnOk P w K mg base CX k f fd ps (spM 1 g))(h:∀ns:iC,∃om,g [.lst (ns.map .int)] []=some (.ok (.bl true),om)):FnOk P w K mg base CX k f fd ps (AM K):=G.imp λvs H Q E ⟨a,ns,e,S,_,q⟩=>by
 subst e;have r:Rd H a (.lst (ns.map V.int)):=S.resolve_right λ⟨o,ik,n,e,hc,_⟩=>CV hK e hc
 obtain⟨om,e⟩:=h ns;refine⟨λb=>if b=a then H b else none,[],[],[.lst (ns.map .int)],⟨λb u z=>?_,.nil,rfl,λh a z=>(by cases z),λh a x z _=>(by cases z)⟩,.cons (.lst ?_ (KC _ _ ns)) .nil,rfl,?_⟩
 ·by_cases hb:b=a
  ·exact(aC hb).symm.trans z
  ·have:=(aE hb).symm.trans z;cases this
 ·rcases r with r|⟨o,r⟩
  ·exact .inl ((aC rfl).trans r)
  ·exact .inr ⟨o,(aC rfl).trans r⟩
 ·rw[e]
  exact λF' H' iq _ _ v rv=>by cases rv;exact q H'
end L2
namespace L2
noncomputable section
open PySem
def fzW(om:iN)(n:Nat):Nat->Wv->Wv
 |0,w=>w
 |k+1,.o h=>if n<=h then (match om[h]? with|some (.lst xs)=>.lst (xs.map (fzW om n k))|_=>.o h) else .o h
 |k+1,.lst xs=>.lst (xs.map (fzW om n k))
 |k+1,.tup xs=>.tup (xs.map (fzW om n k))
 |_+1,w=>w
open Classical in def tidyR (om:iN):Option (Except Addr Wv × iN)->Option (Except Addr Wv × iN)
 |none=>none
 |some (.ok w,ij)=>if ij.take om.length=om∧FzW ij om.length w (fzW ij om.length 4 w) then some (.ok (fzW ij om.length 4 w),om) else none
 |some (.error C,ij)=>if ij.take om.length=om then some (.error C,om) else none
def tidyG(g:iJ->Mw Wv):iJ->Mw Wv:=λws om=>tidyR om (g ws om)
open Classical in theorem tidyR_tidy {om:iN} (hs:∀x∈om,Tt om.length x) {r:Option (Except Addr Wv × iN)} (h:tidyR om r≠none):Tidy om r (tidyR om r):=by
 match r,h with
 |none,h=>exact absurd rfl h
 |some (.ok w,ij),h=>
  have h:¬ ((if ij.take om.length=om∧FzW ij om.length w (fzW ij om.length 4 w) then some (Except.ok (fzW ij om.length 4 w),om) else none)=(none:Option (Except Addr Wv × iN))):=h;by_cases c:ij.take om.length=om∧FzW ij om.length w (fzW ij om.length 4 w)
  ·have e:ij=om++ij.drop om.length:=by
    conv=>lhs;rw[← List.take_append_drop om.length ij,c.1]
   show Tidy om (some (.ok w,ij)) (if ij.take om.length=om∧FzW ij om.length w (fzW ij om.length 4 w) then some (Except.ok (fzW ij om.length 4 w),om) else none);rw[aC c];have f:=c.2;generalize fzW ij om.length 4 w=w' at f;rw[e]at f ⊢;exact .ok rfl hs f
  ·rw[aE c]at h;exact absurd rfl h
 |some (.error C,ij),h=>
  have h:¬ ((if ij.take om.length=om then some (Except.error C,om) else none)=(none:Option (Except Addr Wv × iN))):=h;by_cases c:ij.take om.length=om
  ·have e:ij=om++ij.drop om.length:=by
    conv=>lhs;rw[← List.take_append_drop om.length ij,c]
   show Tidy om (some (.error C,ij)) (if ij.take om.length=om then some (Except.error C,om) else none);rw[aC c];rw[e];exact .err rfl hs
  ·rw[aE c]at h;exact absurd rfl h
def FnOk.tidyG{P:Program}{w:World}{K:g9}{mg:g8}{base:Heap}{k n:Nat}{f:Addr}{fd:FuncData}{ps:iE}{CX:CXT}{g:iJ->Mw Wv}(F:FnOk P w K mg base CX k f fd ps (spM n g)):FnOk P w K mg base CX k f fd ps (spM n (L2.tidyG g)):=
 FnOk.tidy F λws om _ hs h=>tidyR_tidy hs h
open Classical in theorem tidyG_ok {g:iJ->Mw Wv} {ws:iJ} {om l:iN} {w w':Wv} (h:g ws om=some (.ok w,om++l)) (f:FzW (om++l) om.length w w') (e:fzW (om++l) om.length 4 w=w'):tidyG g ws om=some (.ok w',om):=by
 unfold tidyG;rw[h];show(if (om++l).take om.length=om∧FzW (om++l) om.length w (fzW (om++l) om.length 4 w) then some (Except.ok (fzW (om++l) om.length 4 w),om) else none)=_;rw[e,aC ⟨List.take_left,f⟩]
open Classical in theorem tidyG_er {g:iJ->Mw Wv} {ws:iJ} {om l:iN} {C:Addr} (h:g ws om=some (.error C,om++l)):tidyG g ws om=some (.error C,om):=by
 unfold tidyG;rw[h];show(if (om++l).take om.length=om then some (Except.error C,om) else none)=_;rw[aC List.take_left]
end
open PySem
def ZI{om:iN}{w v:Wv}{xs:iJ}{k:Nat}(h:YI om w=some xs)(e:xs[k]?=some v):kIx w (.int k) om=some (.ok v,om):=by
 simp[kIx,h,Cm e]
def SQ{om:iN}{w:Wv}{xs:iJ}(h:YI om w=some xs):WV [w] om=some (.ok (.int xs.length),om):=by
 simp[WV,h]
def Ms{om:iN}{w:Wv}{xs:iJ}{sl:Sl}{i:Nat}(hv:sl[i]?=some (some w))(h:YI om w=some xs)(hl:xs.length<=lim):(λsl=>bnd ((fA WV (Zc (Za i) Zj)) sl) Yw) sl om=some (.ok (W4 xs.length),om):=
 (Zm ((ZB (Ze (Zb hv) Zi)).trans (SQ h))).trans (X5 _ _ hl)
def Bg{α:Type}{f:α->Wv}{xs:List α}{k:Nat}(h:k<xs.length)(d:α):(xs.map f)[k]?=some (f (xs.getD k d)):=by
 simp[h,aM]
def UO{α:Type}{f:α->Wv}{xs:List α}{om:iN}{w:Wv}{k:Nat}(h:YI om w=some (xs.map f))(hk:k<xs.length)(d:α):kIx w (.int k) om=some (.ok (f (xs.getD k d)),om):=
 ZI h (Bg hk d)
def Rt(a b:String)(ha:PyData.strOk (Str.ofString a)=true)(hb:PyData.strOk (Str.ofString b)=true)(om:iN):WJ false (.str a) (.str b) om=some (.ok (.bl (decide (a=b))),om):=by
 simp[WJ,XJ,Vh,Vj,PyData.canLay0,PyData.depth,PyData.eqv,YZ,Wr,ha,hb]
def ne_str(a b:String)(ha:PyData.strOk (Str.ofString a)=true)(hb:PyData.strOk (Str.ofString b)=true)(om:iN):WJ true (.str a) (.str b) om=some (.ok (.bl (!decide (a=b))),om):=by
 simp[WJ,XJ,Vh,Vj,PyData.canLay0,PyData.depth,PyData.eqv,YZ,Wr,ha,hb]
def Kr(a b:Option Int)(om:iN):WJ true (ZA a) (ZA b) om=some (.ok (.bl (!decide (a=b))),om):=by
 cases a <;> cases b <;> simp[ZA,WJ,XJ,Vh,Vj,PyData.canLay0,PyData.depth,PyData.eqv] <;> rfl
def Ng{T:TgW}{S:FS}(J:Nat->Sl->List Ob->Prop):∀(n s:Nat) {sl:Sl} {om:iN},(∀m,s<=m->m<s+n->∀sl om,J m sl om->∃sl1 fl iT om2,T (.int (m:Nat)) sl=some sl1∧S sl1 om=some (.ok (fl,iT),om2)∧(fl=.nx∨fl=.ct)∧J (m+1) iT om2)->J s sl om->∃iS ij,VE T S ((List.range' s n).map λ(i:Nat)=>Wv.int i) sl om=some (.ok (.nx,iS),ij)∧J (s+n) iS ij
 |0,s,sl,om,_,j=>⟨sl,om,rfl,j⟩
 |n+1,s,sl,om,h,j=>by
  obtain⟨sl1,fl,iT,om2,h1,h2,h3,h4⟩:=h s (aK _) (by omega) sl om j;obtain⟨iS,ij,e,j'⟩:=Ng J n (s+1) (λm ha hb=>h m (by omega) (by omega)) h4;refine⟨iS,ij,?_,by rw[show s+(n+1)=s+1+n by omega];exact j'⟩;rw[gI,aU];show(match T (.int (s:Nat)) sl with|none=>Wg|some sl1=>bnd (S sl1) (QD λiT=>VE T S _ iT)) om=_;rw[h1];rcases h3 with rfl|rfl
  ·simp[bnd,h2,QD,e]
  ·simp[bnd,h2,QD,e]
def XR{T:TgW}{S:FS}{n:Nat}{sl:Sl}{om:iN}(J:Nat->Sl->List Ob->Prop)(h:∀m,m<n->∀sl om,J m sl om->∃sl1 fl iT om2,T (.int (m:Nat)) sl=some sl1∧S sl1 om=some (.ok (fl,iT),om2)∧(fl=.nx∨fl=.ct)∧J (m+1) iT om2)(j:J 0 sl om):∃iS ij,VE T S (W4 n) sl om=some (.ok (.nx,iS),ij)∧J n iS ij:=by
 obtain⟨iS,ij,e,j'⟩:=Ng J n 0 (λm _ hm=>h m (by omega)) j;rw[en]at j';refine⟨iS,ij,?_,j'⟩;unfold W4;rw[List.range_eq_range'];exact e
section
variable{sl:Sl}{om:iN}{c1 c2:FT}{b1 b2:Bool}{r:Wv}
def Sv(h1:c1 sl om=some (.ok b1,om))(h2:b1=true->c2 sl om=some (.ok b2,om)):UG c1 c2 sl om=some (.ok (b1&&b2),om):=by
 cases b1 with
 |true=>exact(Lf h1).trans (h2 rfl)
 |false=>exact Jq h1
def An(h1:c1 sl om=some (.ok b1,om))(h2:b1=false->c2 sl om=some (.ok b2,om)):fOr c1 c2 sl om=some (.ok (b1 || b2),om):=by
 cases b1 with
 |true=>exact fOr_t h1
 |false=>exact(Es h1).trans (h2 rfl)
def v2{k:Wv->Wv->Mw Wv}{i j:Nat}{x y:Wv}(hi:sl[i]?=some (some x))(hj:sl[j]?=some (some y)):f2 k (Za i) (Za j) sl om=k x y om:=Zs (Zb hi) (Zb hj)
end
def Fg(a b:Nat)(om:iN):WJ true (.int a) (.int b) om=some (.ok (.bl (!decide (a=b))),om):=by
 rw[RO];by_cases h:a=b <;> simp[h] <;> omega
def eq_nat(a b:Nat)(om:iN):WJ false (.int a) (.int b) om=some (.ok (.bl (decide (a=b))),om):=by
 rw[WI];by_cases h:a=b <;> simp[h] <;> omega
def Y5{ws:iJ}{om:iN}(h:ws.length<=8):Y6 ws om=some (.ok (.tup ws),om):=by
 have:ws.length<=lim:=by have:=ZQ;omega
 simp[Y6,this,L2.ret]
def Il{om:iN}{n h k:Nat}{xs:iJ}(hn:n<=h)(e:om[h]?=some (.lst xs)):fzW om n (k+1) (.o h)=.lst (xs.map (fzW om n k)):=by
 unfold fzW;rw[aC hn,e]
def fzW_bl(om:iN)(n k:Nat)(b:Bool):fzW om n k (.bl b)=.bl b:=by cases k <;> rfl
def LG:PyData.strOk (Str.ofString "stand")=true:=by decide +kernel
def Th:PyData.strOk (Str.ofString "move")=true:=by decide +kernel
def Uy:PyData.strOk (Str.ofString "help")=true:=by decide +kernel
end L2
namespace L2
noncomputable section
open PySem PySem.Spec PyProof.Rows
def Lm:iJ->Mw Wv
 |[x,y]=>kI (λi j=>.int (if j > i then j else i)) x y
 |_=>Wg
def Lz:iJ->Mw Wv
 |[x,y]=>kI (λi j=>.int (if j<i then j else i)) x y
 |_=>Wg
def QR(k:iJ->Mw Wv)(ws:iJ):Mw Wv:=λom=>match ws with
 |[x]=>match YI om x with
  |some us=>k us om
  |none=>none
 |_=>none
abbrev kList:=QR ZL
section
variable{X:Cx}{E:XK}{e a b:Expr}{es:iF}{f fa fb:FE}{fs:FA}{pos p:Pos}
def Jb:UM E (λxs H Q=>∃i j,xs=[.int i,.int j]∧Q (.int (if j > i then j else i)) H) Lm:=by
 intro F H β om ws vs Q M rs R
 match ws,rs,R with
 |[],_,R=>exact R.elim
 |[_],_,R=>exact R.elim
 |_::_::_::_,_,R=>exact R.elim
 |[x,y],.cons rx (.cons ry .nil),R=>
  have R:Res E (kI (λi j=>.int (if j > i then j else i)) x y om) F H β (PV Q):=R;cases rx <;> first|exact R.elim|skip
  cases ry <;> first|exact R.elim|skip
  exact⟨_,_,rfl,(show Res E (ret (Wv.int _) om) F H β (PV Q) from R).now M _ (.int _)⟩
def Jf:UM E (λxs H Q=>∃i j,xs=[.int i,.int j]∧Q (.int (if j<i then j else i)) H) Lz:=by
 intro F H β om ws vs Q M rs R
 match ws,rs,R with
 |[],_,R=>exact R.elim
 |[_],_,R=>exact R.elim
 |_::_::_::_,_,R=>exact R.elim
 |[x,y],.cons rx (.cons ry .nil),R=>
  have R:Res E (kI (λi j=>.int (if j<i then j else i)) x y om) F H β (PV Q):=R;cases rx <;> first|exact R.elim|skip
  cases ry <;> first|exact R.elim|skip
  exact⟨_,_,rfl,(show Res E (ret (Wv.int _) om) F H β (PV Q) from R).now M _ (.int _)⟩
def Jw{k:iJ->Mw Wv}(lk:WT E k):UM E (λxs H Q=>∃p ys,xs=[.ref p]∧(SqL X.K H p ys∨SqT X.K H p ys)∧∀l,H l=none->Q (.ref l) (upd H l (.lst ys))) (QR k):=by
 intro F H β om ws vs Q M rs R
 match ws,rs,R with
 |[],_,R=>exact R.elim
 |_::_::_,_,R=>exact R.elim
 |[x],.cons rx .nil,R=>
  unfold QR at R;dsimp only at R
  match hx:YI om x,R with
  |none,R=>exact R.elim
  |some us,R=>
   obtain⟨p,xs,rfl,hs,r2⟩:=Tm (X:=X) M rx hx;exact⟨p,xs,rfl,hs,λl hl=>(lk M r2 R (p:=l)).2 hl⟩
def CC{k:iJ->Mw Wv}(lk:WT E k)(hg:Gl X "list")(hm:X.mg "list"=none)(hb:bootBuiltins "list"=some (.type "list"))(ha:PA X [e] (tA E fs))(he:starEach [e] X.env=(false,eval e X.env)::starEach [] X.env:=by rfl)(iR:(backTo pos (starEach [] X.env)).any (·.1)=false:=by rfl):PE X (.Call (.Name "list" p) [e] [] pos) (tE E (fA (QR k) fs)):=Hu Le (Jw (X:=X) lk) hg hm hb ha (by decide) (by decide) he iR
def Bu(hc:X.calm=true)(hg:Gl X "max")(hm:X.mg "max"=none)(hb:bootBuiltins "max"=some (.builtin "max"))(ha:PA X (e::es) (tA E fs))(he:starEach (e::es) X.env=(false,eval e X.env)::starEach es X.env:=by rfl)(iR:(backTo pos (starEach es X.env)).any (·.1)=false:=by rfl):PE X (.Call (.Name "max" p) (e::es) [] pos) (tE E (fA Lm fs)):=Vo (GJ hc) Jb hg hm hb ha (by decide) (by decide) he iR
def Bb(hc:X.calm=true)(hg:Gl X "min")(hm:X.mg "min"=none)(hb:bootBuiltins "min"=some (.builtin "min"))(ha:PA X (e::es) (tA E fs))(he:starEach (e::es) X.env=(false,eval e X.env)::starEach es X.env:=by rfl)(iR:(backTo pos (starEach es X.env)).any (·.1)=false:=by rfl):PE X (.Call (.Name "min" p) (e::es) [] pos) (tE E (fA Lz fs)):=Vo (HM hc) Jf hg hm hb ha (by decide) (by decide) he iR
end
def tgs:iD->List Wv->Sl->Option Sl
 |[],[],sl=>some sl
 |i::is,w::ws,sl=>tgs is ws (sl.set i (some w))
 |_,_,_=>none
def FV(is:iD):TgW:=λw sl=>match w with
 |.tup ws=>tgs is ws sl
 |_=>none
def G5{F H:Hp}{β:iA}{Q:St->Hp->Prop}:∀{is:iD} {ws:iJ} {vs:iI} {σ:St} {sl iS:Sl},EnvOk F β σ sl->RWs F β ws vs->tgs is ws sl=some iS->(∀iy,EnvOk F β iy iS->Q iy H)->vs.length=is.length∧gNs is vs σ H Q
 |[],[],_,σ,sl,iS,V,.nil,e,q=>by
  have e:some sl=some iS:=e;cases e;exact⟨rfl,rfl,q _ V⟩
 |i::is,w::ws,_,σ,sl,iS,V,.cons r rs,e,q=>by
  have e:tgs is ws (sl.set i (some w))=some iS:=e;obtain⟨h1,h2⟩:=G5 (V.set i r) rs e q;exact⟨cE Nat.succ h1,_,_,rfl,h2⟩
 |[],_::_,_,_,_,_,_,_,e,_=>by cases e
 |_::_,[],_,_,_,_,_,_,e,_=>by cases e
def Ix{K:g9}(is:iD):Jd (Hv K is.length (gNs is)) (FV is):=λ{F H β om σ sl iS w v Q} M V r e q=>by
 cases r with
 |@tup a xs ws q2 rs=>
  obtain⟨h1,h2⟩:=G5 V rs (show tgs is ws sl=some iS from e) q;exact⟨a,xs,rfl,.inl (.inl (M.sub _ _ q2)),h1,h2⟩
 |_=>cases e
abbrev stW:Wv:=.tup [.str "stand"]
def GTup(K:g9)(a:Addr):Prop:=∃(o:Obj) (ik:Array Value) (n:Nat),K.lookup a=some o∧o.cls=.type "tuple"∧o.data=.seq ik n∧ik.size<=sizeLine∧Vals [V.str "stand"] ik.toList
def GTup.sq{K:g9}{a:Addr}(h:GTup K a)(H:Hp):SqT K H a [.str "stand"]:=.inr h
def GTup.of{K:g9}{a:Addr}{od:Option Addr}{n:Nat}{t:Tok}{sl:Array (iH)}(h:K.lookup a=some ⟨.type "tuple",od,.seq #[.str "stand" t] n,sl⟩):GTup K a:=⟨_,_,_,h,rfl,rfl,by show 1<=sizeLine;decide,.cons ⟨t,rfl⟩ .nil⟩
def unG(s:Addr):Wv->Wv
 |.g a=>if a=s then stW else .g a
 |w=>w
def GY(s:Addr):unG s (.g s)=stW:=aC rfl
def unG_or{F:Hp}{β:iA}{s:Addr}{x:Wv}{v:V}(r:RW F β x v):unG s x=x∨(x=.g s∧v=.ref s∧unG s x=stW):=by
 cases r with
 |g a=>
  by_cases h:a=s
  ·subst h;exact .inr ⟨rfl,rfl,GY _⟩
  ·exact .inl (aE h)
 |_=>exact .inl rfl
def VP(s:Addr)(x i:Wv):Mw Wv:=kIx (unG s x) i
section
variable{X:Cx}{E:XK}{e a b:Expr}{es:iF}{f fa fb:FE}{fs:FA}{pos p p2:Pos}{s:Addr}
def N5{x:Str}(hg:Gl X x)(h:X.mg x=some (.ref s))(hd:(x == ("__debug__":Str))=false:=by decide):PE X (.Name x pos) (tE E (fC (.g s))):=Go (IE (v:=.ref s) hg h rfl hd) λ_ _=>.g s
def st_rws{F:Hp}{β:iA}:RWs F β [Wv.str "stand"] [V.str "stand"]:=.cons (.str _) .nil
def Bs(G:GTup X.K s):Op2 E (rIx X.K) (VP s):=by
 intro F H β om x y v u Q M rx ry R;unfold VP at R;rcases unG_or (s:=s) rx with h|⟨rfl,rfl,h⟩
 ·rw[h]at R;exact Ez M rx ry R
 ·rw[h]at R
  cases ry with
  |int i=>
   have R:Res E (match L2.atI [Wv.str "stand"] i with|some w=>some (Except.ok w,om)|none=>none) F H β (PV Q):=R
   match ha:L2.atI [Wv.str "stand"] i,R with
   |none,R=>exact R.elim
   |some w,R=>
    obtain⟨z,ez,rz⟩:=(st_rws (F:=F) (β:=β)).atI ha;exact .inr (.inl ⟨s,_,i,z,rfl,rfl,G.sq H,ez,(show Res E (ret w om) F H β (PV Q) from R).now M z rz⟩)
  |_=>exact R.elim
def Ur(G:GTup X.K s)(ha:PE X a (tE E fa))(hb:PE X b (tE E fb))(hs:MW b:=by intro _ _;rfl):PE X (.Subscript a b pos) (tE E (f2 (VP s) fa fb)):=(BZ F6 ha hb hs).weak λ_ _ _ h=>NL (Bs G) h
def Y4:iJ->Option (iC)
 |[]=>some []
 |.int i::r=>match Y4 r with
  |some is=>some (i::is)
  |none=>none
 |_=>none
def Ue{F:Hp}{β:iA}:∀{ws:iJ} {vs:iI} {ns:iC},RWs F β ws vs->Y4 ws=some ns->vs=ns.map V.int
 |_,_,_,.nil,e=>by cases e;rfl
 |_,_,_,.cons (ws:=r) h rr,e=>by
  cases h with
  |int i=>
   have e:(match Y4 r with|some is=>some (i::is)|none=>none)=some _:=e
   match hr:Y4 r,e with
   |some is,e=>
    have e:some (i::is)=some _:=e;cases e;rw[aU,← Ue rr hr]
   |none,e=>exact nomatch e
  |_=>exact nomatch e
def Gj(p:Int):iC->List Int
 |[]=>[p]
 |q::r=>if q<p then q::Gj p r else p::q::r
def Xi:iC->List Int
 |[]=>[]
 |p::r=>Gj p (Xi r)
def RL(p:Int):∀l,(Gj p l).Perm (p::l)
 |[]=>cU _
 |q::r=>by
  unfold Gj;split
  ·exact((RL p r).cons q).trans (List.Perm.swap p q r)
  ·exact cU _
def Yh:∀l,(Xi l).Perm l
 |[]=>cU _
 |p::r=>(RL p (Xi r)).trans ((Yh r).cons p)
def KK(p:Int):∀l:iC,l.Pairwise (·<=·)->(Gj p l).Pairwise (·<=·)
 |[],_=>d9 _ _
 |q::r,h=>by
  have h':=bJ.mp h;unfold Gj;by_cases hc:q<p
  ·rw[aC hc]
   refine bJ.mpr ⟨λy hy=>?_,KK p r h'.2⟩;rcases aR.mp ((RL p r).mem_iff.mp hy) with rfl|hy
   ·omega
   ·exact h'.1 y hy
  ·rw[aE hc]
   refine bJ.mpr ⟨λy hy=>?_,h⟩;rcases aR.mp hy with rfl|hy
   ·omega
   ·have:=h'.1 y hy;omega
def W0:∀l,(Xi l).Pairwise (·<=·)
 |[]=>List.Pairwise.nil
 |p::r=>KK p _ (W0 r)
def V1:∀{l m:iC},l.Perm m->l.Pairwise (·<=·)->m.Pairwise (·<=·)->l=m
 |[],m,h,_,_=>(List.nil_perm.mp h).symm
 |x::l,[],h,_,_=>absurd h (by simp)
 |x::l,y::m,h,h1,h2=>by
  have jz:=bJ.mp h1;have ji:=bJ.mp h2
  have e:x=y:=by
   have hx:=h.mem_iff.mp (cK (a:=x) (l:=l));have hy:=h.mem_iff.mpr (cK (a:=y) (l:=m));rcases aR.mp hx with hx|hx
   ·exact hx
   ·rcases aR.mp hy with hy|hy
    ·exact hy.symm
    ·have a:=jz.1 y hy
     have b:=ji.1 x hx;omega
  subst e;rw[V1 h.cons_inv jz.2 ji.2]
def DM(om:iN):Wv->Option (iJ)
 |.lst ws=>some ws
 |.o h=>match om[h]? with
  |some (.lst ws)=>some ws
  |_=>none
 |_=>none
def L3{F H:Hp}{β:iA}{om:iN}{w:Wv}{v:V}{ws:iJ}(M:MOk F H β om)(r:RW F β w v)(e:DM om w=some ws):∃a xs,v=.ref a∧SqL X.K H a xs∧RWs F β ws xs:=by
 cases r with
 |lst q rs=>cases e;exact⟨_,_,rfl,.inl (Rd.same M.sub q),rs⟩
 |@o h a eb=>
  have e:(match om[h]? with|some (.lst ws)=>some ws|_=>none)=some ws:=e
  match hx:om[h]?,e with
  |none,e=>exact nomatch e
  |some (.ins _ _),e=>exact nomatch e
  |some (.exc _),e=>exact nomatch e
  |some (.dk _),e=>exact nomatch e
  |some (.dt _),e=>exact nomatch e
  |some (.dz _),e=>exact nomatch e
  |some (.lst us),e=>
   have e:some us=some ws:=e;cases e;obtain⟨a',ea,_,xs,kt,rs⟩:=M.at hx;rw[eb]at ea;cases ea;exact⟨_,_,rfl,SqL.of kt,rs⟩
 |_=>cases e
def Xg(k:iJ->Mw Wv)(ws:iJ):Mw Wv:=λom=>match ws with
 |[x]=>match DM om x with
  |some us=>match Y4 us with
   |some ns=>if ns.length<64 then k ((Xi ns).map Wv.int) om else none
   |none=>none
  |none=>none
 |_=>none
def UP{F:Hp}{β:iA}:∀ns:iC,RWs F β (ns.map Wv.int) (ns.map V.int)
 |[]=>.nil
 |_::r=>.cons (.int _) (UP r)
def LR{k:iJ->Mw Wv}(lk:WT E k):UM E (Ff X.K) (Xg k):=by
 intro F H β om ws vs Q M rs R
 match ws,rs,R with
 |[],_,R=>exact R.elim
 |_::_::_,_,R=>exact R.elim
 |[x],.cons rx .nil,R=>
  unfold Xg at R;dsimp only at R
  match hx:DM om x,R with
  |none,R=>exact R.elim
  |some us,R=>
   dsimp only at R
   match hn:Y4 us,R with
   |none,R=>exact R.elim
   |some ns,R=>
    dsimp only at R;by_cases hl:ns.length<64
    ·rw[aC hl]at R
     obtain⟨p,xs,rfl,hs,r2⟩:=L3 (X:=X) M rx hx;rw[Ue r2 hn]at hs;refine⟨p,ns,rfl,hs,hl,λq ms h1 h2 hq=>?_⟩;have e:ms=Xi ns:=V1 (h1.trans (Yh ns).symm) h2 (W0 ns);rw[e];exact(lk M (UP _) R).2 hq
    ·rw[aE hl]at R;exact R.elim
def U3{k:iJ->Mw Wv}(lk:WT E k)(hg:Gl X "sorted")(hm:X.mg "sorted"=none)(ha:PA X [e] (tA E fs))(he:starEach [e] X.env=(false,eval e X.env)::starEach [] X.env:=by rfl)(iR:(backTo pos (starEach [] X.env)).any (·.1)=false:=by rfl):PE X (.Call (.Name "sorted" p) [e] [] pos) (tE E (fA (Xg k) fs)):=Vo J0 (LR (X:=X) lk) hg hm dC ha (by decide) (by decide) he iR
def VD:iJ->Option (iG)
 |[]=>some []
 |.bl b::r=>match VD r with
  |some bs=>some (b::bs)
  |none=>none
 |_=>none
def Oq{F:Hp}{β:iA}:∀{ws:iJ} {vs:iI} {bs:iG},RWs F β ws vs->VD ws=some bs->vs=bs.map V.bl
 |_,_,_,.nil,e=>by cases e;rfl
 |_,_,_,.cons (ws:=r) h rr,e=>by
  cases h with
  |bl i=>
   have e:(match VD r with|some is=>some (i::is)|none=>none)=some _:=e
   match hr:VD r,e with
   |some is,e=>
    have e:some (i::is)=some _:=e;cases e;rw[aU,← Oq rr hr]
   |none,e=>exact nomatch e
  |_=>exact nomatch e
def Dg(g:iG->Bool)(ws:iJ):Mw Wv:=λom=>match ws with
 |[x]=>match DM om x with
  |some us=>match VD us with
   |some bs=>some (.ok (.bl (g bs)),om)
   |none=>none
  |none=>none
 |_=>none
abbrev Ba:=Dg λbs=>bs.any id
def Jn{g:iG->Bool}:UM E (BS X.K g) (Dg g):=by
 intro F H β om ws vs Q M rs R
 match ws,rs,R with
 |[],_,R=>exact R.elim
 |_::_::_,_,R=>exact R.elim
 |[x],.cons rx .nil,R=>
  unfold Dg at R;dsimp only at R
  match hx:DM om x,R with
  |none,R=>exact R.elim
  |some us,R=>
   dsimp only at R
   match hn:VD us,R with
   |none,R=>exact R.elim
   |some bs,R=>
    obtain⟨p,xs,rfl,hs,r2⟩:=L3 (X:=X) M rx hx;rw[Oq r2 hn]at hs;exact⟨p,bs,rfl,hs,(show Res E (ret (Wv.bl (g bs)) om) F H β (PV Q) from R).now M _ (.bl _)⟩
def Dv(hc:X.calm=true)(hg:Gl X "any")(hm:X.mg "any"=none)(hb:bootBuiltins "any"=some (.builtin "any"))(ha:PA X [e] (tA E fs))(he:starEach [e] X.env=(false,eval e X.env)::starEach [] X.env:=by rfl)(iR:(backTo pos (starEach [] X.env)).any (·.1)=false:=by rfl):PE X (.Call (.Name "any" p) [e] [] pos) (tE E (fA Ba fs)):=Vo (HC hc) (Jn (X:=X)) hg hm hb ha (by decide) (by decide) he iR
end
section
variable{X:Cx}{E:XK}{e o:Expr}{fo f:FE}
def At:V->List V->Hp->VK->Prop:=λx vs H Q=>∃l b xs zs,x=.ref l∧vs=[.ref b]∧H l=some (.lst xs)∧Rd H b (.lst zs)∧xs.length+zs.length<=sizeLine∧Q .non (upd H l (.lst (xs++zs)))
def Cy:MtM X "list.extend" At:=by
 intro gV s σ H x vs v us Q I rx rv h;obtain⟨l,b,xs,zs,rfl,rfl,hH,hB,hz,q⟩:=h;cases rx;obtain⟨u,rfl,ru⟩:=rv.one;cases ru;obtain⟨_,ik,n,r,hl,e⟩:=I.lstM hH;obtain⟨_,lh,m,r2,e2⟩:=hB.ok I.hok;have hl2:=r2.length;have hs:ik.toArray.size+lh.toArray.size<=sizeLine:=by simp only[bF];omega
 have hn:¬ (!ik.toArray.isEmpty&&Builtin.List.listTooLong (ik.toArray.size+lh.toArray.size))=true:=λz=>by
  rw[Km hs,Bool.and_false]at z;cases z
 refine call_meets F.slot_list_extend ⟨_,e,rfl⟩ F.entry_list_extend (F.args_list_extend_2 _ _) (AutoSeq1.list_extend_list_list_0 l ik.toArray n b lh.toArray m hn (by simp only[bF];omega) (by omega)) ⟨e,e2,?_⟩;exact⟨.non,_,I.lset (its':=ik++lh) hH e (by simp) (r.append r2) (by rw[aT];omega),rfl,q⟩
def kExt(x y:Wv):Mw Wv:=λom=>match W5 om x,y with
 |some (h,ws),.lst us=>if ws.length+us.length<=lim then some (.ok .non,om.set h (.lst (ws++us))) else none
 |_,_=>none
def D9(fo f:FE):FE:=λsl=>bnd (fo sl) λx=>bnd (GI x) λ_=>bnd (f sl) λy=>kExt x y
def Hx{iw ir:Pos}(ho:PE X o (tE E fo))(he:PE X e (tE E f))(jf:attributeBase o "extend" X.env (eval o X.env)=eval o X.env:=by rfl)(jp:((backTo ir (starEach [e] X.env)).all (λx=>!x.1)&&(backToKw ir (keywordEach [] X.env)).all (λx=>x.1.isSome)
     && decide (([e]:iF).length+([]:List Keyword).length+(if ([]:List Keyword).isEmpty then 0 else 1)<30))=true:=by rfl)
    (jg:(iw.endLine == ir.line)=true:=by rfl) (hs:starEach [e] X.env=(false,eval e X.env)::starEach [] X.env:=by rfl) (ju:(backTo ir (starEach [] X.env)).any (·.1)=false:=by rfl):
    PE X (.Call (.Attribute o "extend" iw) [e] [] ir) (tE E (D9 fo f)):=(Ai PySem.F.plainAttrs_list PySem.F.slot_list_extend PySem.F.type_list_extend Cy ho (XW he VO hs) jf jp jg hs ju).weak λσ H Q ⟨F,β,om,sl,M,V,R⟩=>by
 refine⟨F,β,om,sl,M,V,R.bind λx om1 F1 H1 io g1 M1 R1 v rv=>?_⟩;obtain⟨ty,R2⟩:=Ku (X:=X) M1 rv R1;refine⟨ty,F1,io,om1,sl,M1,V.mono g1.toGr,R2.bind λy jt F3 H3 jA g3 M3 R3 u ru=>?_⟩;show At v [u] H3 Q;unfold kExt at R3
 match hx:W5 jt x,R3 with
 |none,R3=>exact R3.elim
 |some (h,ws),R3=>
  cases ru with
  |@lst b zs us q rs2=>
   dsimp only at R3;obtain⟨a,xs,_,_,eb,rfl,ha,rs⟩:=Tr M3 (rv.mono g3.toGr) hx;by_cases hc:ws.length+us.length<=lim
   ·rw[aC hc]at R3
    have:=UB;have:=rs.length;have:=rs2.length;refine⟨a,b,xs,zs,rfl,rfl,ha,Rd.same M3.sub q,by omega,?_⟩;exact R3 F3 _ jA (M3.gxP eb (nz ha)) (M3.put eb ⟨xs++zs,ZC,rs.append rs2⟩) _ .non
   ·rw[aE hc]at R3;exact R3.elim
  |_=>exact R3.elim
end
end
end L2
namespace MP
noncomputable section
open PySem L2
structure CA where
 Map:Addr
 Board:Addr
 Orders:Addr
 Turn:Addr
 OrderError:Addr
 NoPlace:Addr
 NoSide:Addr
 Crowded:Addr
 NoUnit:Addr
 OutOfReach:Addr
 STAND:Addr
 kit:Addr->Value->Bool
 caught:Addr->Addr->Bool
def Pq(c:CA):FS:=
 (Zv (sIf (fB (f2 kLt (Za 1) (fA WV (Zc (Za 0) Zj)))) (Z8 (f2 kIx (Za 0) (Za 1))) Yo)
  (Z8 (fC (.int 0))))
def Zr(c:CA):iJ->Mw Wv:=Ye 2 (Pq c)
def NZ(c:CA):FS:=
 (Zv (ZD 1 (f2 Wz (fC (.int 2)) (f2 Y9 (fA (kN 2 (Zr c)) (Zc (Za 0) (Zc (fC (.int 0)) Zj))) (fC (.int 6)))))
  (Zv (sIf (fB (f2 kEq (f2 Y9 (f2 Tx (fA (kN 2 (Zr c)) (Zc (Za 0) (Zc (fC (.int 0)) Zj))) (fC (.int 6))) (fC (.int 5))) (fC (.int 1)))) (Z8 (fA Y6 (Zc (Za 1) (Zc (f2 Y9 (f2 Tx (fA (kN 2 (Zr c)) (Zc (Za 0) (Zc (fC (.int 0)) Zj))) (fC (.int 30))) (f2 Xc (fC (.int 61)) (Za 1))) (Zc (fC (.int 60)) Zj))))) Yo)
  (Z8 (fA Y6 (Zc (Za 1) (Zc (fC (.int 0)) (Zc (Za 1) Zj)))))))
def WO(c:CA):iJ->Mw Wv:=Ye 2 (NZ c)
def TU(c:CA):FE:=
 (Cq X6 (Zc (fC (.bl false)) Zj) (Za 1))
def VH(c:CA):FS:=
 (Zv (Xl (f2 kEq (f2 Y9 (Za 2) (fC (.int 2))) (fC (.int 1))) (f2 kIx (Za 3) (Za 4)) (Za 5))
  (Zv (Xl (f2 kEq (f2 Y9 (Za 2) (fC (.int 2))) (fC (.int 1))) (f2 kIx (Za 3) (Za 5)) (Za 4))
  (ZD 2 (f2 Tx (Za 2) (fC (.int 2))))))
def VR(c:CA):FS:=
 (XQ (λsl=>bnd ((Za 4) sl) Yw) (tgN 5) (VH c))
def MT(c:CA):FS:=
 (Zv (ZD 2 (f2 Y9 (fA (kN 2 (Zr c)) (Zc (Za 0) (Zc (fC (.int 1)) Zj))) (fC (.int 2097152))))
  (Zv (sIf (fB (f2 kEq (f2 Y9 (fA (kN 2 (Zr c)) (Zc (Za 0) (Zc (fC (.int 2)) Zj))) (fC (.int 3))) (fC (.int 0)))) (ZD 2 (fC (.int 2097151))) Yo)
  (Zv (ZD 3 (Z5 X6 [1] (λsl=>bnd ((Za 1) sl) Yw) Xh (TU c)))
  (Zv (XQ (λsl=>bnd ((Za 1) sl) Yw) (tgN 4) (VR c))
  (Z8 (Za 3))))))
def Us(c:CA):iJ->Mw Wv:=Ye 6 (MT c)
def Wu(c:CA):iJ->Mw Wv:=tidyG (Us c)
def TJ(c:CA):FS:=
 (Zv (ZD 4 (fA (kN 2 (Zr c)) (Zc (Za 0) (Zc (f2 Wz (fC (.int 3)) (Za 3)) Zj))))
  (sIf (fB (f2 kEq (f2 Y9 (Za 4) (fC (.int 4))) (fC (.int 0)))) (Z9 (Gn (Za 2) (fC .non))) (sIf (fB (f2 kEq (f2 Y9 (f2 Tx (Za 4) (fC (.int 4))) (fC (.int 3))) (fC (.int 0)))) (Z9 (Gn (Za 2) (f2 Y9 (f2 Tx (Za 4) (fC (.int 12))) (fC (.int 8))))) (Z9 (Gn (Za 2) (f2 Y9 (f2 Tx (Za 4) (fC (.int 4))) (fC (.int 3))))))))
def Mm(c:CA):FS:=
 (Zv (ZD 2 (fA X6 Zj))
  (Zv (XQ (λsl=>bnd ((Za 1) sl) Yw) (tgN 3) (TJ c))
  (Z8 (Za 2))))
def WY(c:CA):iJ->Mw Wv:=Ye 5 (Mm c)
def Ud(c:CA):FT:=
 (Xj (f2 kIx (f2 kIx (Za 2) (Za 1)) (Za 0)))
def V4(c:CA):FE:=
 (Za 0)
def V3(c:CA):FT:=
 (UG (fB (f2 kNe (Za 0) (Za 1))) (UG (fB (f1 Wh (f2 kIx (Za 3) (Za 0)))) (fOr (fB (f2 kEq (Za 0) (Za 4))) (Xj (f2 kIx (f2 kIx (Za 2) (Za 0)) (Za 4))))))
def VY(c:CA):FE:=
 (Za 0)
def QB(c:CA):FS:=
 (Zv (ZD 4 (Z5 ZL [1,2] (λsl=>bnd ((fA WV (Zc (Za 3) Zj)) sl) Yw) (Ud c) (V4 c)))
  (Zv (sIf (fB (f1 Uc (f2 kIx (Za 3) (Za 1)))) (Z8 (fC .non)) Yo)
  (Zv (sIf (fOr (Lw (Xj (Za 4))) (fB (f2 kEq (f2 Y9 (Za 0) (fC (.int 4))) (fC (.int 0))))) (Z8 (fA Y6 (Zc (fC (.str "stand")) Zj))) Yo)
  (Zv (ZD 5 (f2 kIx (Za 4) (f2 Y9 (f2 Tx (Za 0) (fC (.int 4))) (fA WV (Zc (Za 4) Zj)))))
  (Zv (sIf (fB (f2 kLt (f2 Y9 (Za 0) (fC (.int 4))) (fC (.int 3)))) (Z8 (fA Y6 (Zc (fC (.str "move")) (Zc (Za 5) Zj)))) Yo)
  (Zv (ZD 6 (Z5 ZL [1,2,3,5] (λsl=>bnd ((fA WV (Zc (Za 3) Zj)) sl) Yw) (V3 c) (VY c)))
  (Zv (sIf (Lw (Xj (Za 6))) (Z8 (fA Y6 (Zc (fC (.str "stand")) Zj))) Yo)
  (Z8 (fA Y6 (Zc (fC (.str "help")) (Zc (f2 kIx (Za 6) (f2 Y9 (f2 Tx (Za 0) (fC (.int 28))) (fA WV (Zc (Za 6) Zj)))) (Zc (Za 5) Zj))))))))))))
def YX(c:CA):iJ->Mw Wv:=Ye 7 (QB c)
end
open PySem L2
inductive Od where
 |stand
 |move (g:Nat)
 |help (h g:Nat)
 deriving DecidableEq
abbrev iO:=List (Option Od)
def odW:Option Od->Wv
 |none=>.non
 |some .stand=>.tup [.str "stand"]
 |some (.move g)=>.tup [.str "move",.int g]
 |some (.help h g)=>.tup [.str "help",.int h,.int g]
abbrev at'{α:Type}(l:List (Option α))(k:Nat):Option α:=l.getD k none
structure OkT(told:iO)(f:hY):Prop where
 len:told.length=f.length
 few:told.length<=60
 both:∀k,k<told.length->((at' told k).isSome=true ↔ (at' f k).isSome=true)
 mv:∀k g,at' told k=some (.move g)->g<told.length∧g≠k
 hl:∀k h g,at' told k=some (.help h g)->h<told.length∧g<told.length∧h≠k∧g≠k∧(at' f h).isSome=true
structure Rows(om:iN)(tw sw:Wv)(told:iO)(f:hY):Prop where
 t:YI om tw=some (told.map odW)
 s:YI om sw=some (f.map ZA)
def QG(told:iO)(f:hY)(k g:Nat):Bool:=(List.range told.length).any λm=>decide (at' told m=some (.move k))&&(!decide (m=g)&&!decide (at' f m=at' f k))
def odN:Od->String
 |.stand=>"stand"
 |.move _=>"move"
 |.help _ _=>"help"
def Oc(o:Od):PyData.strOk (Str.ofString (odN o))=true:=by
 cases o with
 |stand=>exact LG
 |move g=>exact Th
 |help h g=>exact Uy
def od_0(o:Od)(om:iN):kIx (odW (some o)) (.int 0) om=some (.ok (.str (odN o)),om):=by
 cases o with
 |stand=>exact ZI (k:=0) rfl rfl
 |move g=>exact ZI (k:=0) rfl rfl
 |help h g=>exact ZI (k:=0) rfl rfl
def od_g(h g:Nat)(om:iN):kIx (odW (some (.help h g))) (.int 2) om=some (.ok (.int g),om):=ZI (k:=2) rfl rfl
def od_h(h g:Nat)(om:iN):kIx (odW (some (.help h g))) (.int 1) om=some (.ok (.int h),om):=ZI (k:=1) rfl rfl
def od_m(g:Nat)(om:iN):kIx (odW (some (.move g))) (.int 1) om=some (.ok (.int g),om):=ZI (k:=1) rfl rfl
def Xz:Option Od->Bool
 |some (.move _)=>true
 |_=>false
def isN_od(o:Option Od)(om:iN):Uc (odW o) om=some (.ok (.bl o.isNone),om):=by
 match o with
 |none=>rfl
 |some .stand=>rfl
 |some (.move g)=>rfl
 |some (.help h g)=>rfl
def Oj(o:Option Int)(om:iN):Uc (ZA o) om=some (.ok (.bl o.isNone),om):=by
 cases o <;> rfl
def RH(o:Option Int)(om:iN):Wh (ZA o) om=some (.ok (.bl o.isSome),om):=by
 cases o <;> rfl
def XH(told:iO)(f:hY)(k:Nat):Bool:=match at' told k with
 |some (.help h g)=>!QG told f k g&&(if h=g then !Xz (at' told h) else decide (at' told h=some (.move g)))
 |_=>false
def DH(told:iO)(f:hY)(k iU:Nat)(sd:Option Int)(h:Nat):Bool:=decide (at' told h=some (.help k iU))&&(XH told f h&&!decide (at' f h=sd))
def Xs(told:iO)(f:hY)(k iU:Nat)(sd:Option Int):Int:=(List.range told.length).foldl (λa h=>bif DH told f k iU sd h then a+1 else a) 1
def OX(told:iO)(f:hY)(k:Nat):Int:=bif Xz (at' told k) then 1 else Xs told f k k (some (-1))
abbrev Ym(ns:iC):Wv:=.lst (ns.map .int)
section
variable(c:CA){om:iN}
def C0(ns:iC)(k:Nat)(om:iN):Zr c [Ym ns,.int k] om=some (.ok (.int (ns.getD k 0)),om):=by
 have ip:fA WV (Zc (Za 0) Zj) [some (Ym ns),some (.int k)] om=some (.ok (.int ns.length),om):=by
  refine(ZB (Ze (Zb rfl) Zi)).trans ((SQ rfl).trans ?_);rw[aA]
 have a1:fB (f2 kLt (Za 1) (fA WV (Zc (Za 0) Zj))) [some (Ym ns),some (.int k)] om=some (.ok (decide (k<ns.length)),om):=by
  refine ZW ((Zs (Zb rfl) ip).trans ?_);simp[kI,L2.ret]
 by_cases h:k<ns.length
 ·rw[bL h]at a1
  refine ZF (YA ((Yn a1).trans (Zu ((v2 rfl rfl).trans (UO (xs:=ns) rfl h 0)))))
 ·rw[aL h]at a1
  rw[show ns.getD k 0=0 by simp[aM,bK (Nat.le_of_not_lt h)]];exact ZF ((Zh (ZK a1)).trans (Zu Zp))
def PQ{sl:Sl}{i:Nat}{fe:FE}{ns:iC}{k:Nat}(h:sl[i]?=some (some (Ym ns)))(hk:fe sl om=some (.ok (.int k),om)):fA (kN 2 (Zr c)) (Zc (Za i) (Zc fe Zj)) sl om=some (.ok (.int (ns.getD k 0)),om):=
 (ZB (Ze (Zb h) (Ze hk Zi))).trans ((YG rfl).trans (C0 c ns k om))
def WD{sl:Sl}{fa:FE}{a q:Int}(h:fa sl om=some (.ok (.int a),om))(hq:0<q):f2 Y9 fa (fC (.int q)) sl om=some (.ok (.int (a % q)),om):=(Zs h Zp).trans (by simp[kIc,L2.ret,hq])
def Sz{sl:Sl}{fa:FE}{a q:Int}(h:fa sl om=some (.ok (.int a),om))(hq:0<q∧q<1073741824):f2 Tx fa (fC (.int q)) sl om=some (.ok (.int (a / q)),om):=(Zs h Zp).trans (by simp[kIc,L2.ret,hq])
def NX{sl:Sl}{fa:FE}{a q:Int}(h:fa sl om=some (.ok (.int a),om)):f2 Wz (fC (.int q)) fa sl om=some (.ok (.int (q+a)),om):=(Zs Zp h).trans (by simp[kI,L2.ret])
def Nq{sl:Sl}{fa:FE}{a q:Int}(h:fa sl om=some (.ok (.int a),om)):fB (f2 kEq fa (fC (.int q))) sl om=some (.ok (decide (a=q)),om):=ZW ((Zs h Zp).trans (WI _ _ _))
def EA(ns:iC):∃ia off size:Nat,2<=ia∧ia<=7∧off+ia<=size∧size<=60∧(off=0∨size=60)∧∀om,WO c [Ym ns] om=some (.ok (.tup [.int ia,.int off,.int size]),om):=by
 generalize hw:ns.getD 0 0=w;have l1:0<=w % 6:=f6 _ (by omega);have l2:w % 6<6:=d6 _ (by omega);obtain⟨ia,hm⟩:∃m:Nat,2+w % 6=m:=⟨(2+w % 6).toNat,by omega⟩
 have l3:0<=(w / 30) % (61-ia):=f6 _ (by omega);have l4:(w / 30) % (61-ia)<61-ia:=d6 _ (by omega);obtain⟨off,ho⟩:∃m:Nat,(w / 30) % (61-(ia:Int))=m:=⟨((w / 30) % (61-ia)).toNat,by omega⟩
 have cell:∀(x:Option Wv) om,fA (kN 2 (Zr c)) (Zc (Za 0) (Zc (fC (.int 0)) Zj)) [some (Ym ns),x] om=some (.ok (.int w),om):=λx om=>(PQ c (k:=0) rfl Zp).trans (by rw[hw])
 have s1:∀om,ZD 1 (f2 Wz (fC (.int 2)) (f2 Y9 (fA (kN 2 (Zr c)) (Zc (Za 0) (Zc (fC (.int 0)) Zj))) (fC (.int 6)))) [some (Ym ns),none] om=some (.ok (.nx,[some (Ym ns),some (.int ia)]),om):=λom=>(Zw (NX (WD (cell _ om) (by decide)))).trans (by rw[hm];rfl)
 have t1:∀om,fB (f2 kEq (f2 Y9 (f2 Tx (fA (kN 2 (Zr c)) (Zc (Za 0) (Zc (fC (.int 0)) Zj))) (fC (.int 6))) (fC (.int 5))) (fC (.int 1))) [some (Ym ns),some (.int ia)] om=_:=λom=>Nq (WD (Sz (cell _ om) (by decide)) (by decide))
 by_cases h:w / 6 % 5=1
 ·refine⟨ia,off,60,by omega,by omega,by omega,by omega,.inr rfl,λom=>?_⟩
  have t1:=t1 om;rw[bL h]at t1;refine ZF ((Zh (s1 om)).trans (YA ((Yn t1).trans (Zu ((ZB (Ze (Zb rfl) (Ze (w:=.int off) (om1:=om) ?_ (Ze Zp Zi)))).trans (Y5 (by simp)))))));refine(Zs (Sz (cell _ om) (by decide)) (y:=.int (61-ia)) (om2:=om) ((Zs Zp (Zb rfl)).trans (by simp[kI,L2.ret]))).trans ?_;simp[kIc,L2.ret,ho,show(ia:Int)<61 by omega]
 ·refine⟨ia,0,ia,by omega,by omega,by omega,by omega,.inl rfl,λom=>?_⟩
  have t1:=t1 om;rw[aL h]at t1;exact ZF ((Zh (s1 om)).trans ((Zh (ZK t1)).trans (Zu ((ZB (Ze (Zb rfl) (Ze Zp (Ze (Zb rfl) Zi)))).trans (Y5 (by simp))))))
def VG(w:Int):Option Int:=if w % 4=0 then none else if w / 4 % 3=0 then some (w / 12 % 8) else some (w / 4 % 3)
def YK(ns:iC)(m:Nat):hY:=(List.range m).map λk=>VG (ns.getD (3+k) 0)
def Qr(ns:iC)(m:Nat):(YK ns m).length=m:=by simp[YK]
def Gv{w s:Int}(h:VG w=some s):0<=s∧s<=7:=by
 unfold VG at h;split at h
 ·cases h
 ·split at h
  ·cases h;omega
  ·cases h;omega
def Fk{sl:Sl}{i:Nat}{fe:FE}{w:Wv}{ws:iJ}{l:iN}(h:sl[i]?=some (some (.o om.length)))(hw:fe sl (om++.lst ws::l)=some (.ok w,om++.lst ws::l))(hl:ws.length<lim):Z9 (Gn (Za i) fe) sl (om++.lst ws::l)=some (.ok (.nx,sl),om++.lst (ws++[w])::l):=by
 refine ZY (w:=.non) ?_;unfold Gn;rw[Zm (Zb h)];refine(Zm (a:=()) (om1:=om++.lst ws::l) ?_).trans ((Zm hw).trans ?_)
 ·simp[GI,L2.ret,W5]
 ·simp[kApp,W5,hl]
def Tw{sl:Sl}{i m:Nat}(h:sl[i]?=some (some (.int m)))(hm:m<=lim)(om:iN):(λsl=>bnd ((Za i) sl) Yw) sl om=some (.ok (W4 m),om):=(Zm (Zb h)).trans (X5 _ _ hm)
def FK(ns:iC){m:Nat}(hm:m<=60)(om:iN):WY c [Ym ns,.int m] om=some (.ok (.o om.length),om++[.lst ((YK ns m).map ZA)]):=by
 have iQ:=ZQ
 have e1:ZD 2 (fA X6 Zj) [some (Ym ns),some (.int m),none,none,none] om=some (.ok (.nx,[some (Ym ns),some (.int m),some (.o om.length),none,none]),om++[.lst []]):=
  Zw (i:=2) ((ZB Zi).trans (by simp[X6,newO]))
 obtain⟨iS,ij,hf,rfl,x,y,rfl⟩:=XR (T:=tgN 3) (S:=TJ c) (n:=m) (λk sl ij=>ij=om++[.lst ((YK ns k).map ZA)]∧∃x y,sl=[some (Ym ns),some (.int m),some (.o om.length),x,y])
  (sl:=[some (Ym ns),some (.int m),some (.o om.length),none,none]) (om:=om++[.lst []]) (λk hk sl ij ⟨ho,x,y,hx⟩=>by
   subst ho hx;have hl:((YK ns k).map ZA).length<lim:=by rw[aA,Qr];omega
   have hs:(YK ns (k+1)).map ZA=(YK ns k).map ZA++[ZA (VG (ns.getD (3+k) 0))]:=by
    unfold YK;rw[dc,cu,cu];rfl
   generalize hw:ns.getD (3+k) 0=w at hs
   have s1:ZD 4 (fA (kN 2 (Zr c)) (Zc (Za 0) (Zc (f2 Wz (fC (.int 3)) (Za 3)) Zj))) [some (Ym ns),some (.int m),some (.o om.length),some (.int k),y] (om++[.lst ((YK ns k).map ZA)])=some (.ok (.nx,[some (Ym ns),some (.int m),some (.o om.length),some (.int k),some (.int w)]),om++[.lst ((YK ns k).map ZA)]):=
    (Zw (PQ c (k:=3+k) rfl ((NX (Zb rfl)).trans (by simp)))).trans (by rw[hw];rfl)
   have t1:fB (f2 kEq (f2 Y9 (Za 4) (fC (.int 4))) (fC (.int 0))) [some (Ym ns),some (.int m),some (.o om.length),some (.int k),some (.int w)] (om++[.lst ((YK ns k).map ZA)])=_:=Nq (WD (Zb rfl) (by decide));have t2:fB (f2 kEq (f2 Y9 (f2 Tx (Za 4) (fC (.int 4))) (fC (.int 3))) (fC (.int 0))) [some (Ym ns),some (.int m),some (.o om.length),some (.int k),some (.int w)] (om++[.lst ((YK ns k).map ZA)])=_:=Nq (WD (Sz (Zb rfl) (by decide)) (by decide));refine⟨[some (Ym ns),some (.int m),some (.o om.length),some (.int k),y],.nx,[some (Ym ns),some (.int m),some (.o om.length),some (.int k),some (.int w)],om++[.lst ((YK ns (k+1)).map ZA)],rfl,?_,.inl rfl,rfl,_,_,rfl⟩;refine(Zh s1).trans ?_;rw[hs];by_cases c1:w % 4=0
   ·rw[bL c1]at t1
    rw[show VG w=none by simp[VG,c1]];exact(Yn t1).trans (Fk rfl Zp hl)
   ·rw[aL c1]at t1
    by_cases c2:w / 4 % 3=0
    ·rw[bL c2]at t2
     rw[show VG w=some (w / 12 % 8) by simp[VG,c1,c2]];exact(Pp t1).trans ((Yn t2).trans (Fk rfl (WD (Sz (Zb rfl) (by decide)) (by decide)) hl))
    ·rw[aL c2]at t2
     rw[show VG w=some (w / 4 % 3) by simp[VG,c1,c2]];exact(Pp t1).trans ((Pp t2).trans (Fk rfl (WD (Sz (Zb rfl) (by decide)) (by decide)) hl))) ⟨rfl,_,_,rfl⟩
 have e2:=YV (sl1:=[]) (fi:=λsl=>bnd ((Za 1) sl) Yw) (sl:=[some (Ym ns),some (.int m),some (.o om.length),none,none]) (Tw rfl (by omega) _) hf;exact ZF ((Zh e1).trans ((Zh e2).trans (Zu (Zb rfl))))
end
abbrev Mx:=List (iG)
def Xa(rows:Mx)(a b:Nat):Bool:=(rows.getD a []).getD b false
def Uk(rows:Mx)(a b:Nat)(v:Bool):Mx:=rows.set a ((rows.getD a []).set b v)
def Ro(a:Nat)(s:Int × Mx)(b:Nat):Int × Mx:=(s.1 / 2,Uk (Uk s.2 a b (decide (s.1 % 2=1))) b a (decide (s.1 % 2=1)))
def IR(s:Int × Mx)(a:Nat):Int × Mx:=(List.range a).foldl (Ro a) s
def J8(ns:iC):Int:=if ns.getD 2 0 % 3=0 then 2097151 else ns.getD 1 0 % 2097152
def Vw(ns:iC)(m a:Nat):Int × Mx:=(List.range a).foldl IR (J8 ns,List.replicate m (List.replicate m false))
def XY(ns:iC)(m:Nat):Mx:=(Vw ns m m).2
structure Lk(m:Nat)(rows:Mx):Prop where
 len:rows.length=m
 row:∀a,a<m->(rows.getD a []).length=m
 sym:∀a b,Xa rows a b=Xa rows b a
 dg:∀a,Xa rows a a=false
def LV{rows:Mx}{a b i:Nat}{v:Bool}(ha:a<rows.length):(Uk rows a b v).getD i []=if i=a then (rows.getD a []).set b v else rows.getD i []:=by
 unfold Uk;rw[aM,List.getElem?_set];by_cases h:a=i
 ·subst h;simp[ha]
 ·rw[aE h,aE (cI h),aM]
def Ib{rows:Mx}{a b i j:Nat}{v:Bool}(ha:a<rows.length)(hb:b<(rows.getD a []).length):Xa (Uk rows a b v) i j=if i=a∧j=b then v else Xa rows i j:=by
 unfold Xa;rw[LV ha];by_cases h:i=a
 ·subst h
  rw[aC rfl,aM,List.getElem?_set];by_cases h2:b=j
  ·subst h2;simp only[aC rfl,aC hb];simp
  ·rw[aE h2,aE (λz=>h2 z.2.symm),← aM]
 ·rw[aE h,aE (λz=>h z.1)]
def S5(rows:Mx)(a b:Nat)(v:Bool):(Uk rows a b v).length=rows.length:=by simp[Uk]
def Vs{rows:Mx}{a b i:Nat}{v:Bool}(ha:a<rows.length):((Uk rows a b v).getD i []).length=(rows.getD i []).length:=by
 rw[LV ha];by_cases h:i=a
 ·subst h;simp
 ·rw[aE h]
def Lk.step{m:Nat}{rows:Mx}(L:Lk m rows){a b:Nat}(ha:a<m)(hb:b<a)(v:Bool):Lk m (Uk (Uk rows a b v) b a v):=by
 have h1:a<rows.length:=L.len ▸ ha
 have h2:b<(rows.getD a []).length:=by rw[L.row a ha];omega
 have h3:b<(Uk rows a b v).length:=by rw[S5,L.len];omega
 have h4:a<((Uk rows a b v).getD b []).length:=by rw[Vs h1,L.row b (by omega)];exact ha
 have at2:∀i j,Xa (Uk (Uk rows a b v) b a v) i j=if i=b∧j=a then v else if i=a∧j=b then v else Xa rows i j:=λi j=>by
  rw[Ib h3 h4,Ib h1 h2]
 refine⟨by rw[S5,S5,L.len],λi hi=>by rw[Vs h3,Vs h1,L.row i hi],λi j=>?_,λi=>?_⟩
 ·rw[at2,at2]
  by_cases e1:i=b∧j=a
  ·rw[aC e1,aE (by omega),aC ⟨e1.2,e1.1⟩]
  ·rw[aE e1]
   by_cases e2:i=a∧j=b
   ·rw[aC e2,aC ⟨e2.2,e2.1⟩]
   ·rw[aE e2,aE (by omega),aE (by omega),L.sym]
 ·rw[at2,aE (by omega),aE (by omega),L.dg]
def Lk.zero(m:Nat):Lk m (List.replicate m (List.replicate m false)):=by
 have z:∀a b,Xa (List.replicate m (List.replicate m false)) a b=false:=λa b=>by
  unfold Xa;rw[aM,aM,dE];by_cases h:a<m
  ·rw[aC h]
   show((List.replicate m false)[b]?).getD false=false;rw[dE];by_cases h2:b<m
   ·rw[aC h2];rfl
   ·rw[aE h2];rfl
  ·rw[aE h];rfl
 refine⟨by simp,λa ha=>?_,λa b=>by rw[z,z],λa=>z a a⟩;rw[aM,dE,aC ha];simp
def Lk.row_to{m:Nat}{s:Int × Mx}(L:Lk m s.2){a:Nat}(ha:a<m):∀k,k<=a->Lk m ((List.range k).foldl (Ro a) s).2
 |0,_=>L
 |k+1,h=>by
  rw[dc,dw];exact Lk.step (Lk.row_to L ha k (by omega)) ha (by omega) _
def Lk.to(ns:iC)(m:Nat):∀a,a<=m->Lk m (Vw ns m a).2
 |0,_=>Lk.zero m
 |a+1,h=>by
  unfold Vw;rw[dc,dw];exact Lk.row_to (Lk.to ns m a (by omega)) (by omega) a (aK _)
def Q4(ns:iC)(m:Nat):Lk m (XY ns m):=Lk.to ns m m (aK _)
section
variable(c:CA){om:iN}
def Nb{f:FE}{mk:Wv->Sl}{x:Ob}:∀{l:iJ} {om:iN},(∀w∈l,∀om,f (mk w) om=some (.ok (.o om.length),om++[x]))->Xm Xh f mk l om=some (.ok ((List.range l.length).map λi=>.o (om.length+i)),om++List.replicate l.length x)
 |[],om,_=>by simp[Xm,L2.ret]
 |w::l,om,h=>by
  have ih:=Nb (l:=l) (om:=om++[x]) (λy hy=>h y (.tail _ hy));have h1:=h w (.head _) om;show bnd (Yb (Xh (mk w))) (MK (Xm Xh f mk l) (f (mk w))) om=_;have c1:Yb (f (mk w)) om=some (.ok (.o om.length),om++[x]):=by simp[Yb,h1]
  have c2:bnd (Yb (Xh (mk w))) (MK (Xm Xh f mk l) (f (mk w))) om=bnd (Yb (f (mk w))) (λx=>bnd (Xm Xh f mk l) λxs=>L2.ret (x::xs)) om:=rfl;rw[c2,Zm c1,Zm ih]
  have e1:(List.range l.length).map (λi=>Wv.o ((om++[x]).length+i))=((List.range l.length).map Nat.succ).map λi=>Wv.o (om.length+i):=by
   rw[aS];refine cq λi _=>?_
   show Wv.o _=Wv.o _;rw[aT]
   congr 1
   show om.length+1+i=om.length+(i+1);omega
  rw[e1,bI,List.range_succ_eq_map,cM,bS];rfl
abbrev HA(r:iG):Ob:=.lst (r.map .bl)
abbrev Bx(n m:Nat):Ob:=.lst ((List.range m).map λi=>.o (n+i))
abbrev XT(om:iN)(m:Nat)(rows:Mx):iN:=om++(rows.map HA++[Bx om.length m])
def KS{m:Nat}{rows:Mx}(hr:rows.length=m):(XT om m rows)[om.length+m]?=some (Bx om.length m):=by
 subst hr;rw[bD (by omega),bD (by simp)];simp
def Lo{m i:Nat}{rows:Mx}(hi:i<rows.length):(XT om m rows)[om.length+i]?=some (HA (rows.getD i [])):=by
 rw[bD (by omega),aQ (by simp;omega)];simp[hi]
def EU{m i jx:Nat}{rows:Mx}{v:Bool}(hi:i<rows.length):(XT om m rows).set (om.length+i) (.lst (((rows.getD i []).map Wv.bl).set jx (.bl v)))=XT om m (Uk rows i jx v):=by
 rw[bU _ _ (by omega),List.set_append_left _ _ (by simp;omega)];unfold XT Uk;rw[fT,d8]
 congr 3
 simp[fT]
def Kn{fe:FE}{m i jx p q:Nat}{rows:Mx}{v:Bool}{sl:Sl}(hr:rows.length=m)(hi:i<m)(hj:jx<(rows.getD i []).length)(he:fe sl (XT om m rows)=some (.ok (.bl v),XT om m rows))(h3:sl[3]?=some (some (.o (om.length+m))))(hp:sl[p]?=some (some (.int i)))(hq:sl[q]?=some (some (.int jx))):Xl fe (f2 kIx (Za 3) (Za p)) (Za q) sl (XT om m rows)=some (.ok (.nx,sl),XT om m (Uk rows i jx v)):=by
 have e1:f2 kIx (Za 3) (Za p) sl (XT om m rows)=some (.ok (.o (om.length+i)),XT om m rows):=by
  refine(v2 h3 hp).trans (ZI (xs:=(List.range m).map λi=>.o (om.length+i)) ?_ (by simp[hi]));show(match (XT om m rows)[om.length+m]? with|some (.lst ws)=>some ws|_=>none)=_;rw[KS hr]
 unfold Xl;rw[Zm he,Zm e1,Zm (Zb hq)];refine(Zm (a:=()) (om1:=XT om m (Uk rows i jx v)) ?_).trans rfl
 have e2:W5 (XT om m rows) (.o (om.length+i))=some (om.length+i,(rows.getD i []).map Wv.bl):=by
  show(match (XT om m rows)[om.length+i]? with|some (.lst ws)=>some (om.length+i,ws)|_=>none)=_;rw[Lo (by omega)]
 have e3:ixN ((rows.getD i []).map Wv.bl).length (jx:Int)=some jx:=by
  rw[aA];unfold ixN;rw[aC (by omega),aC (by omega),cj]
 unfold Hj;rw[e2];show(match ixN ((rows.getD i []).map Wv.bl).length (jx:Int) with|some j=>some (Except.ok (),(XT om m rows).set (om.length+i) (.lst (((rows.getD i []).map Wv.bl).set j (.bl v))))|none=>none)=_;rw[e3];show some (Except.ok (),(XT om m rows).set (om.length+i) (.lst (((rows.getD i []).map Wv.bl).set jx (.bl v))))=_;rw[EU (by omega)]
end
section
variable(c:CA){om:iN}
def GQ(w:Wv)(n:Nat):(List.replicate n [w]).flatten=List.replicate n w:=by
 induction n with
 |zero=>rfl
 |succ n ih=>rw[cM,dy,ih];rfl
def Of{b:Bool}{om:iN}(h:b=true):chk b om=some (.ok (),om):=by subst h;rfl
def mk_rep{w:Wv}{n i:Nat}(hn:n<=60)(sl:Sl)(om:iN)(h:sl[i]?=some (some (.int n))):Cq X6 (Zc (fC w) Zj) (Za i) sl om=some (.ok (.o om.length),om++[.lst (List.replicate n w)]):=by
 have hl:=ZQ
 have e:Dk [w] (.int n) om=some (.ok (List.replicate n w),om):=by
  have hd:decide (-(2 ^ 63)<=(n:Int)∧(n:Int)<2 ^ 63∧[w].length * (n:Int).toNat<=lim)=true:=by
   rw[bX];exact⟨by omega,by omega,by show 1 * (n:Int).toNat<=lim;omega⟩
  unfold Dk;dsimp only;rw[Zm (Of hd),cj,GQ];rfl
 unfold Cq;rw[Zm (Ze Zp Zi),Zm (Of (bL (show [w].length<=lim by show 1<=lim;omega))),Zm (Zb h),Zm e];have:(List.replicate n w).length<=lim:=by rw[dL];omega
 unfold X6;rw[aC this];rfl
abbrev Q3(n m:Nat)(ns:iC)(bits:Int)(x4 x5:Option Wv):Sl:=[some (Ym ns),some (.int m),some (.int bits),some (.o (n+m)),x4,x5]
def CI{m a b:Nat}{rows:Mx}{bits:Int}(ns:iC)(L:Lk m rows)(ha:a<m)(hb:b<a):VH c (Q3 om.length m ns bits (some (.int a)) (some (.int b))) (XT om m rows)=some (.ok (.nx,Q3 om.length m ns (Ro a (bits,rows) b).1 (some (.int a)) (some (.int b))),XT om m (Ro a (bits,rows) b).2):=by
 have v1:∀rows:Mx,f2 kEq (f2 Y9 (Za 2) (fC (.int 2))) (fC (.int 1)) (Q3 om.length m ns bits (some (.int a)) (some (.int b))) (XT om m rows)=some (.ok (.bl (decide (bits % 2=1))),XT om m rows):=λrows=>(Zs (WD (Zb rfl) (by decide)) Zp).trans (WI _ _ _)
 have s1:=Kn (om:=om) (m:=m) (i:=a) (jx:=b) (p:=4) (q:=5) (rows:=rows) L.len ha (by rw[L.row a ha];omega) (v1 rows) rfl rfl rfl;have s2:=Kn (om:=om) (m:=m) (i:=b) (jx:=a) (p:=5) (q:=4) (rows:=Uk rows a b (decide (bits % 2=1))) (by rw[S5,L.len]) (by omega) (by rw[Vs (by rw[L.len];exact ha),L.row b (by omega)];exact ha) (v1 _) rfl rfl rfl;exact(Zh s1).trans ((Zh s2).trans (Zw (i:=2) (Sz (Zb rfl) (by decide))))
def lk_row{m a:Nat}{s:Int × Mx}(ns:iC)(L:Lk m s.2)(ha:a<m)(hm:m<=60)(x5:Option Wv):∃y5,VR c (Q3 om.length m ns s.1 (some (.int a)) x5) (XT om m s.2)=some (.ok (.nx,Q3 om.length m ns (IR s a).1 (some (.int a)) y5),XT om m (IR s a).2):=by
 obtain⟨iS,ij,hf,y,rfl,rfl⟩:=XR (T:=tgN 5) (S:=VH c) (n:=a) (λb sl ij=>∃y,sl=Q3 om.length m ns ((List.range b).foldl (Ro a) s).1 (some (.int a)) y∧ij=XT om m ((List.range b).foldl (Ro a) s).2)
  (sl:=Q3 om.length m ns s.1 (some (.int a)) x5) (om:=XT om m s.2) (λb hb sl ij ⟨y,h1,h2⟩=>by
   subst h1 h2;refine⟨_,.nx,_,_,rfl,CI c ns (Lk.row_to L ha b (by omega)) ha hb,.inl rfl,some (.int b),?_,?_⟩
   ·rw[dc,dw];rfl
   ·rw[dc,dw];rfl) ⟨x5,rfl,rfl⟩
 exact⟨y,YV (sl1:=[]) (Tw rfl (by have:=ZQ;omega) _) hf⟩
abbrev ZJ(r:iG):Wv:=.lst (r.map .bl)
def ED(ns:iC){m:Nat}(hm:m<=60)(om:iN):Wu c [Ym ns,.int m] om=some (.ok (.lst ((XY ns m).map ZJ)),om):=by
 have iQ:=ZQ;have cell:∀(x:Option Wv) (k:Nat),fA (kN 2 (Zr c)) (Zc (Za 0) (Zc (fC (.int k)) Zj)) [some (Ym ns),some (.int m),x,none,none,none] om=some (.ok (.int (ns.getD k 0)),om):=λx k=>PQ c rfl Zp
 have s1:ZD 2 (f2 Y9 (fA (kN 2 (Zr c)) (Zc (Za 0) (Zc (fC (.int 1)) Zj))) (fC (.int 2097152))) [some (Ym ns),some (.int m),none,none,none,none] om=some (.ok (.nx,[some (Ym ns),some (.int m),some (.int (ns.getD 1 0 % 2097152)),none,none,none]),om):=Zw (i:=2) (WD (cell none 1) (by decide));have t1:fB (f2 kEq (f2 Y9 (fA (kN 2 (Zr c)) (Zc (Za 0) (Zc (fC (.int 2)) Zj))) (fC (.int 3))) (fC (.int 0))) [some (Ym ns),some (.int m),some (.int (ns.getD 1 0 % 2097152)),none,none,none] om=_:=Nq (WD (cell _ 2) (by decide))
 have s2:sIf (fB (f2 kEq (f2 Y9 (fA (kN 2 (Zr c)) (Zc (Za 0) (Zc (fC (.int 2)) Zj))) (fC (.int 3))) (fC (.int 0)))) (ZD 2 (fC (.int 2097151))) Yo [some (Ym ns),some (.int m),some (.int (ns.getD 1 0 % 2097152)),none,none,none] om=some (.ok (.nx,[some (Ym ns),some (.int m),some (.int (J8 ns)),none,none,none]),om):=by
  unfold J8;by_cases h:ns.getD 2 0 % 3=0
  ·rw[bL h]at t1
   rw[aC h];exact(Yn t1).trans (Zw (i:=2) Zp)
  ·rw[aL h]at t1
   rw[aE h];exact ZK t1
 have hz:om++List.replicate m (Ob.lst (List.replicate m (.bl false)))++[Bx om.length m]=XT om m (Vw ns m 0).2:=by
  show _=om++((List.replicate m (List.replicate m false)).map HA++[Bx om.length m]);have e:HA (List.replicate m false)=Ob.lst (List.replicate m (.bl false)):=by unfold HA;rw[List.map_replicate]
  rw[bS,List.map_replicate,e]
 have s3:ZD 3 (Z5 X6 [1] (λsl=>bnd ((Za 1) sl) Yw) Xh (TU c)) [some (Ym ns),some (.int m),some (.int (J8 ns)),none,none,none] om=some (.ok (.nx,Q3 om.length m ns (Vw ns m 0).1 none none),XT om m (Vw ns m 0).2):=by
  refine Zw (i:=3) (w:=.o (om.length+m)) ?_;refine(Wj (ws:=W4 m) (om1:=om) (Tw rfl (by omega) om) (by rw[W6];omega) (Nb (x:=.lst (List.replicate m (.bl false))) (λw _ om=>mk_rep (i:=1) hm _ om rfl))).trans ?_;rw[W6,← hz];unfold X6;rw[aC (by rw[aA,bP];omega)];unfold newO;rw[aT,dL]
 obtain⟨iS,ij,hf,y4,y5,rfl,rfl⟩:=XR (T:=tgN 4) (S:=VR c) (n:=m) (λa sl ij=>∃y4 y5,sl=Q3 om.length m ns (Vw ns m a).1 y4 y5∧ij=XT om m (Vw ns m a).2)
  (sl:=Q3 om.length m ns (Vw ns m 0).1 none none) (om:=XT om m (Vw ns m 0).2) (λa ha sl ij ⟨y4,y5,h1,h2⟩=>by
   subst h1 h2;obtain⟨z5,e⟩:=lk_row c (om:=om) ns (Lk.to ns m a (by omega)) ha hm y5;have e2:Vw ns m (a+1)=IR (Vw ns m a) a:=by unfold Vw;rw[dc,dw];rfl
   exact⟨_,.nx,_,_,rfl,e,.inl rfl,_,z5,by rw[e2],by rw[e2]⟩) ⟨none,none,rfl,rfl⟩
 have e4:=YV (sl1:=[]) (fi:=λsl=>bnd ((Za 1) sl) Yw) (sl:=Q3 om.length m ns (Vw ns m 0).1 none none) (Tw rfl (by omega) _) hf;have hg:Us c [Ym ns,.int m] om=some (.ok (.o (om.length+m)),XT om m (XY ns m)):=ZF ((Zh s1).trans ((Zh s2).trans ((Zh s3).trans ((Zh e4).trans (Zu (Zb rfl))))));have L:=Q4 ns m;generalize XY ns m=rows at hg L ⊢;have ho:=KS (om:=om) L.len;have hrow:∀i,i<m->(XT om m rows)[om.length+i]?=some (HA (rows.getD i [])):=λi hi=>Lo (by rw[L.len];exact hi)
 have hrows:rows.map ZJ=(List.range m).map λi=>ZJ (rows.getD i []):=by
  refine db λi=>?_
  rw[bA,bA];by_cases h:i<m
  ·rw[ca h,aI (by rw[L.len];exact h)]
   simp[aM,aI (show i<rows.length by rw[L.len];exact h)]
  ·rw[bK (by rw[L.len];omega),bK (by simp;omega)]
   rfl
 have pl:∀r:iG,smalls om.length (r.map Wv.bl):=λr=>by
  induction r with
  |nil=>trivial
  |cons b r ih=>exact⟨trivial,ih⟩
 refine tidyG_ok hg (.own (eE _ _) ho ?_) ?_
 ·rw[hrows]
  have key:∀l:iD,(∀i∈l,i<m)->FzWs (XT om m rows) om.length (l.map λi=>.o (om.length+i)) (l.map λi=>ZJ (rows.getD i [])):=λl=>by
   induction l with
   |nil=>exact λ_=>.nil
   |cons i l ih=>exact λh=>.cons (.own (eE _ _) (hrow i (h i (.head _))) (FzWs.of_smalls (pl _))) (ih λj hj=>h j (.tail _ hj))
  exact key _ λi hi=>aX.mp hi
 ·refine(Il (k:=3) (eE _ _) ho).trans ?_
  rw[aS,hrows];refine cE Wv.lst (cq λi hi=>?_);refine(Il (k:=2) (eE _ _) (hrow i (aX.mp hi))).trans ?_;refine cE Wv.lst ?_;rw[aS];exact cq λb _=>fzW_bl _ _ _ b
end
def XV(l:iD):iJ:=l.map λ(k:Nat)=>Wv.int k
def V5(rows:Mx)(n k:Nat):iD:=(List.range n).filter λb=>Xa rows k b
def Ij(rows:Mx)(f:hY)(k iU h:Nat):Bool:=!decide (h=k)&&((at' f h).isSome&&(decide (h=iU) || Xa rows h iU))
def SG(rows:Mx)(f:hY)(n k iU:Nat):iD:=(List.range n).filter (Ij rows f k iU)
def T9(l:iD)(i:Int):Nat:=l.getD (i % l.length).toNat 0
def Uw(w:Int)(k:Nat)(rows:Mx)(f:hY):Option Od:=
 bif (at' f k).isNone then none
 else bif (V5 rows f.length k).isEmpty || decide (w % 4=0) then some .stand
 else bif decide (w % 4<3) then some (.move (T9 (V5 rows f.length k) (w / 4)))
 else bif (SG rows f f.length k (T9 (V5 rows f.length k) (w / 4))).isEmpty then some .stand
 else some (.help (T9 (SG rows f f.length k (T9 (V5 rows f.length k) (w / 4))) (w / 28)) (T9 (V5 rows f.length k) (w / 4)))
def GD(rows:Mx)(f:hY)(k:Nat):Option Od->Prop
 |none=>at' f k=none
 |some .stand=>(at' f k).isSome=true
 |some (.move g)=>(at' f k).isSome=true∧g<f.length∧Xa rows k g=true
 |some (.help h g)=>(at' f k).isSome=true∧h<f.length∧g<f.length∧h≠k∧(at' f h).isSome=true∧Xa rows k g=true∧(h=g∨Xa rows h g=true)
def Px{l:iD}(i:Int)(h:l.isEmpty=false):T9 l i∈l:=by
 have hl:0<l.length:=by cases l with|nil=>cases h|cons _ _=>simp
 have h1:0<=i % (l.length:Int):=f6 _ (by omega);have h2:i % (l.length:Int)<l.length:=d6 _ (by omega);have h3:(i % (l.length:Int)).toNat<l.length:=by omega
 unfold T9;rw[aM,aI h3];exact eF _
def JZ(w:Int)(k:Nat)(rows:Mx)(f:hY):GD rows f k (Uw w k rows f):=by
 unfold Uw;cases h0:(at' f k).isNone with
 |true=>exact Option.isNone_iff_eq_none.mp h0
 |false=>
  have hs:(at' f k).isSome=true:=by cases h:at' f k with|none=>rw[h]at h0;cases h0|some _=>rfl
  show GD rows f k (bif (V5 rows f.length k).isEmpty || decide (w % 4=0) then some .stand else _);cases h1:((V5 rows f.length k).isEmpty || decide (w % 4=0)) with
  |true=>exact hs
  |false=>
   have hn:(V5 rows f.length k).isEmpty=false:=(Bool.or_eq_false_iff.mp h1).1;have hm:T9 (V5 rows f.length k) (w / 4)∈List.range f.length∧Xa rows k (T9 (V5 rows f.length k) (w / 4))=true:=aG.mp (Px (w / 4) hn);show GD rows f k (bif decide (w % 4<3) then _ else _);generalize T9 (V5 rows f.length k) (w / 4)=g at hm ⊢;cases h2:decide (w % 4<3) with
   |true=>exact⟨hs,aX.mp hm.1,hm.2⟩
   |false=>
    show GD rows f k (bif (SG rows f f.length k g).isEmpty then _ else _);cases h3:(SG rows f f.length k g).isEmpty with
    |true=>exact hs
    |false=>
     have ha:T9 (SG rows f f.length k g) (w / 28)∈List.range f.length∧Ij rows f k g (T9 (SG rows f f.length k g) (w / 28))=true:=aG.mp (Px (w / 28) h3);generalize T9 (SG rows f f.length k g) (w / 28)=h at ha ⊢;have hb:=ha.2;simp only[Ij,bT,fF,decide_eq_false_iff_not,d4,decide_eq_true_eq]at hb;exact⟨hs,aX.mp ha.1,aX.mp hm.1,hb.1,hb.2.1,hm.2,hb.2.2⟩
section
variable(c:CA){om:iN}
def Ta{cT:FT}{f:FE}{mk:Wv->Sl}{om:iN}{n:Nat}(p:Nat->Bool)(g:Nat->Wv)(hc:∀k,k<n->cT (mk (.int (k:Nat))) om=some (.ok (p k),om))(hf:∀k,k<n->p k=true->f (mk (.int (k:Nat))) om=some (.ok (g k),om)):Xm cT f mk (W4 n) om=some (.ok (((List.range n).filter p).map g),om):=by
 rw[T3 (λw=>match w with|.int i=>p i.toNat|_=>false) (λw=>match w with|.int i=>g i.toNat|_=>.non)]
 ·rw[Ka,aS]
  have e:((List.range n).filter λk=>(match Wv.int (k:Nat) with|.int i=>p i.toNat|_=>false))=(List.range n).filter p:=fu λk _=>by
   show p ((k:Nat):Int).toNat=_;rw[cj]
  rw[e];refine cE (λl=>some (Except.ok l,om)) (cq λk _=>?_);show g ((k:Nat):Int).toNat=_;rw[cj]
 ·intro w hw
  obtain⟨k,hk,rfl⟩:=Kl hw;show _=some (Except.ok (p ((k:Nat):Int).toNat),om);rw[cj];exact hc k hk
 ·intro w hw hp
  obtain⟨k,hk,rfl⟩:=Kl hw;have hp:p ((k:Nat):Int).toNat=true:=hp;rw[cj]at hp;show _=some (Except.ok (g ((k:Nat):Int).toNat),om);rw[cj];exact hf k hk hp
def Iu{sl:Sl}{m a b p q r:Nat}{rows:Mx}(L:Lk m rows)(ha:a<m)(hb:b<m)(hp:sl[p]?=some (some (.lst (rows.map ZJ))))(hq:sl[q]?=some (some (.int a)))(hr:sl[r]?=some (some (.int b))):f2 kIx (f2 kIx (Za p) (Za q)) (Za r) sl om=some (.ok (.bl (Xa rows a b)),om):=
 (Zs ((v2 hp hq).trans (UO (xs:=rows) rfl (by rw[L.len];exact ha) [])) (Zb hr)).trans (UO (f:=Wv.bl) (xs:=rows.getD a []) rfl (by rw[L.row a ha];exact hb) false)
def Hi{sl:Sl}{i:Nat}{ws:iJ}(h:sl[i]?=some (some (.lst ws))):Xj (Za i) sl om=some (.ok (!ws.isEmpty),om):=by
 unfold Xj;rw[Zm (Zb h)];rfl
def Ia{sl:Sl}{i:Nat}{l:iD}{fa:FE}{q w:Int}(h:sl[i]?=some (some (.lst (XV l))))(hl:l.isEmpty=false)(ha:fa sl om=some (.ok (.int w),om)):f2 kIx (Za i) (f2 Y9 fa (fA WV (Zc (Za i) Zj))) sl om=some (.ok (.int (T9 l w)),om):=by
 have h0:0<l.length:=by cases l with|nil=>cases hl|cons _ _=>simp
 have ip:fA WV (Zc (Za i) Zj) sl om=some (.ok (.int l.length),om):=(ZB (Ze (Zb h) Zi)).trans ((SQ rfl).trans (by simp[XV]));have h1:0<=w % (l.length:Int):=f6 _ (by omega);have h2:w % (l.length:Int)<l.length:=d6 _ (by omega);have hm:f2 Y9 fa (fA WV (Zc (Za i) Zj)) sl om=some (.ok (.int (((w % l.length).toNat:Nat):Int)),om):=(Zs ha ip).trans (by rw[Int.toNat_of_nonneg h1];simp[kIc,L2.ret,show 0<l.length from h0]);refine(Zs (Zb h) hm).trans ?_;exact UO (f:=λ(k:Nat)=>Wv.int k) (xs:=l) (k:=(w % l.length).toNat) rfl (by omega) 0
def Kp(w:Int){k:Nat}{rows:Mx}{f:hY}(L:Lk f.length rows)(hk:k<f.length)(hn:f.length<=60)(om:iN){sw:Wv}(hw:YI om sw=some (f.map ZA):=by rfl):YX c [.int w,.int k,.lst (rows.map ZJ),sw] om=some (.ok (odW (Uw w k rows f)),om):=by
 have iQ:=ZQ;have ip:(f.map ZA).length<=lim:=by rw[aA];omega
 generalize hNear:V5 rows f.length k=near;have hnl:near.length<=60:=by rw[← hNear];exact cg (aV _ _) (by simpa using hn)
 have s1:ZD 4 (Z5 ZL [1,2] (λsl=>bnd ((fA WV (Zc (Za 3) Zj)) sl) Yw) (Ud c) (V4 c)) [some (.int w),some (.int k),some (.lst (rows.map ZJ)),some sw,none,none,none] om=some (.ok (.nx,[some (.int w),some (.int k),some (.lst (rows.map ZJ)),some sw,some (.lst (XV near)),none,none]),om):=by
  refine Zw (i:=4) (w:=.lst (XV near)) ?_;refine(Wj (ws:=W4 (f.map ZA).length) (om1:=om) (Ms rfl hw ip) (by rw[W6];exact ip) (Ta (λb=>Xa rows k b) (λb=>.int (b:Nat)) (λb hb=>XE (Iu (p:=2) (q:=1) (r:=0) L hk (by rw[aA]at hb;exact hb) rfl rfl rfl)) (λb hb _=>Zb rfl))).trans ?_;rw[aA];show ZL (XV (V5 rows f.length k)) om=_;rw[hNear];unfold ZL;rw[aC (by simp[XV];omega)];rfl
 have sk:=UO (k:=k) hw hk none;have t2:fB (f1 Uc (f2 kIx (Za 3) (Za 1))) [some (.int w),some (.int k),some (.lst (rows.map ZJ)),some sw,some (.lst (XV near)),none,none] om=some (.ok (at' f k).isNone,om):=ZW ((Wa ((v2 rfl rfl).trans sk)).trans (Oj _ _));unfold Uw;rw[hNear];generalize (at' f k).isNone=b2 at t2 ⊢;cases b2 with
 |true=>exact ZF ((Zh s1).trans (YA ((Yn t2).trans (Zu Zp))))
 |false=>
  have t3:fOr (Lw (Xj (Za 4))) (fB (f2 kEq (f2 Y9 (Za 0) (fC (.int 4))) (fC (.int 0)))) [some (.int w),some (.int k),some (.lst (rows.map ZJ)),some sw,some (.lst (XV near)),none,none] om=some (.ok (near.isEmpty || decide (w % 4=0)),om):=by
   refine An ((NP (Hi rfl)).trans (by simp[XV])) λ_=>Nq (WD (Zb rfl) (by decide))
  show YX c _ om=some (.ok (odW (bif near.isEmpty || decide (w % 4=0) then some .stand else _)),om);cases h3:(near.isEmpty || decide (w % 4=0)) with
  |true=>
   rw[h3]at t3;exact ZF ((Zh s1).trans ((Zh (ZK t2)).trans (YA ((Yn t3).trans (Zu ((ZB (Ze Zp Zi)).trans (Y5 (by simp))))))))
  |false=>
   rw[h3]at t3;have jh:near.isEmpty=false:=(Bool.or_eq_false_iff.mp h3).1;have ky:=Px (w / 4) jh;rw[← hNear]at ky;have jI:=aX.mp (aG.mp ky).1;rw[hNear]at jI;have s4:ZD 5 (f2 kIx (Za 4) (f2 Y9 (f2 Tx (Za 0) (fC (.int 4))) (fA WV (Zc (Za 4) Zj)))) [some (.int w),some (.int k),some (.lst (rows.map ZJ)),some sw,some (.lst (XV near)),none,none] om=_:=Zw (i:=5) (Ia (q:=0) rfl jh (Sz (Zb rfl) (by decide)));generalize T9 near (w / 4)=g at s4 jI ⊢;have t5:fB (f2 kLt (f2 Y9 (Za 0) (fC (.int 4))) (fC (.int 3))) [some (.int w),some (.int k),some (.lst (rows.map ZJ)),some sw,some (.lst (XV near)),some (.int g),none] om=some (.ok (decide (w % 4<3)),om):=ZW ((Zs (WD (Zb rfl) (by decide)) Zp).trans (by simp[kI,L2.ret]));have pre:=λ{r:Option (Except Addr (Fl × Sl) × iN)} {S:FS} (h:S [some (.int w),some (.int k),some (.lst (rows.map ZJ)),some sw,some (.lst (XV near)),some (.int g),none] om=r)=>(Zh s1).trans ((Zh (ZK (S1:=Z8 (fC .non)) t2)).trans ((Zh (ZK (S1:=Z8 (fA Y6 (Zc (fC (.str "stand")) Zj))) t3)).trans ((Zh s4).trans h)))
   show YX c _ om=some (.ok (odW (bif decide (w % 4<3) then some (.move g) else _)),om);cases h5:decide (w % 4<3) with
   |true=>
    rw[h5]at t5;exact ZF (pre (YA ((Yn t5).trans (Zu ((ZB (Ze Zp (Ze (Zb rfl) Zi))).trans (Y5 (by simp)))))))
   |false=>
    rw[h5]at t5;generalize hAble:SG rows f f.length k g=able;have hal:able.length<=60:=by rw[← hAble];exact cg (aV _ _) (by simpa using hn)
    have s6:ZD 6 (Z5 ZL [1,2,3,5] (λsl=>bnd ((fA WV (Zc (Za 3) Zj)) sl) Yw) (V3 c) (VY c)) [some (.int w),some (.int k),some (.lst (rows.map ZJ)),some sw,some (.lst (XV near)),some (.int g),none] om=some (.ok (.nx,[some (.int w),some (.int k),some (.lst (rows.map ZJ)),some sw,some (.lst (XV near)),some (.int g),some (.lst (XV able))]),om):=by
     refine Zw (i:=6) (w:=.lst (XV able)) ?_;refine(Wj (ws:=W4 (f.map ZA).length) (om1:=om) (Ms rfl hw ip) (by rw[W6];exact ip) (Ta (Ij rows f k g) (λb=>.int (b:Nat)) (λb hb=>?_) (λb hb _=>Zb rfl))).trans ?_
     ·rw[aA]at hb
      refine Sv (ZW ((v2 rfl rfl).trans (Fg _ _ _))) λ_=>Sv (ZW ((Wa ((v2 (i:=3) (j:=0) rfl rfl).trans (UO (k:=b) hw hb none))).trans (RH _ _))) λ_=>?_
      exact An (ZW ((v2 rfl rfl).trans (eq_nat _ _ _))) λ_=>XE (Iu (p:=2) (q:=0) (r:=4) L hb jI rfl rfl rfl)
     ·rw[aA]
      show ZL (XV (SG rows f f.length k g)) om=_;rw[hAble];unfold ZL;rw[aC (by simp[XV];omega)];rfl
    have t7:Lw (Xj (Za 6)) [some (.int w),some (.int k),some (.lst (rows.map ZJ)),some sw,some (.lst (XV near)),some (.int g),some (.lst (XV able))] om=some (.ok able.isEmpty,om):=(NP (Hi rfl)).trans (by simp[XV]);show YX c _ om=some (.ok (odW (bif able.isEmpty then some .stand else _)),om);cases h7:able.isEmpty with
    |true=>
     rw[h7]at t7;exact ZF (pre ((Zh (ZK t5)).trans ((Zh s6).trans (YA ((Yn t7).trans (Zu ((ZB (Ze Zp Zi)).trans (Y5 (by simp)))))))))
    |false=>
     rw[h7]at t7;exact ZF (pre ((Zh (ZK t5)).trans ((Zh s6).trans ((Zh (ZK t7)).trans (Zu ((ZB (Ze Zp (Ze (Ia (q:=0) rfl h7 (Sz (Zb rfl) (by decide))) (Ze (Zb rfl) Zi)))).trans (Y5 (by simp))))))))
end
structure Givn(rows:Mx)(f:hY)(told:iO):Prop where
 lk:Lk f.length rows
 len:told.length=f.length
 few:f.length<=60
 ok:∀k,k<f.length->GD rows f k (at' told k)
def WN{α:Type}{l:List (Option α)}{k:Nat}(h:¬ k<l.length):at' l k=none:=by
 unfold at';rw[aM,bK (by omega)];rfl
def Givn.okT{rows:Mx}{f:hY}{told:iO}(G:Givn rows f told):OkT told f:=by
 have dg:∀k g,Xa rows k g=true->g≠k:=λk g h z=>by subst z;rw[G.lk.dg]at h;cases h
 have inr:∀k o,at' told k=some o->k<f.length:=λk o e=>by
  by_cases h:k<told.length
  ·rw[← G.len];exact h
  ·rw[WN h]at e;cases e
 refine⟨G.len,by rw[G.len];exact G.few,λk hk=>?_,λk g e=>?_,λk h g e=>?_⟩
 ·have o:=G.ok k (G.len ▸ hk)
  match e:at' told k,o with
  |none,o=>have o:at' f k=none:=o;rw[o];simp
  |some .stand,o=>exact⟨λ_=>o,λ_=>rfl⟩
  |some (.move g),o=>exact⟨λ_=>o.1,λ_=>rfl⟩
  |some (.help h g),o=>exact⟨λ_=>o.1,λ_=>rfl⟩
 ·have o:=G.ok k (inr k _ e)
  rw[e]at o;exact⟨by rw[G.len];exact o.2.1,dg k g o.2.2⟩
 ·have o:=G.ok k (inr k _ e)
  rw[e]at o;exact⟨by rw[G.len];exact o.2.1,by rw[G.len];exact o.2.2.1,o.2.2.2.1,dg k g o.2.2.2.2.2.1,o.2.2.2.2.1⟩
def W8(off:Nat)(ns:iC)(rows:Mx)(f:hY):iO:=(List.range f.length).map λk=>Uw (ns.getD (off+k) 0) k rows f
def HR{off:Nat}{ns:iC}{rows:Mx}{f:hY}{k:Nat}(h:k<f.length):at' (W8 off ns rows f) k=Uw (ns.getD (off+k) 0) k rows f:=by
 unfold at' W8;rw[aM,bA,ca h];rfl
def HL(off:Nat)(ns:iC){rows:Mx}{f:hY}(L:Lk f.length rows)(hf:f.length<=60):Givn rows f (W8 off ns rows f):=
 ⟨L,by simp[W8],hf,λk hk=>by rw[HR hk];exact JZ ..⟩
end MP
namespace MP
noncomputable section
open PySem L2
def Pa(c:CA):FS:=
 (Zv (Xr c.Map "size" (Za 1) (Za 0))
  (Xr c.Map "links" (λ_=>newO (.dt [])) (Za 0)))
def X0(c:CA):iJ->Mw Wv:=Ye 2 (Pa c)
def Ri(c:CA):FS:=
 (sIf (fOr (fB (f2 kLt (Za 1) (fC (.int 0)))) (fB (f2 kGe (Za 1) (f1 (ZR c.Map "size") (Za 0))))) (Up c.NoPlace (N7 (Za 1) L0)) Yo)
def ZO(c:CA):iJ->Mw Wv:=Ye 2 (Ri c)
def JD(c:CA):FS:=
 (Zv (Z9 (Zq c.Map "need_place" 2 (ZO c) (Za 0) (Zc (Za 1) Zj)))
  (Zv (Z9 (Zq c.Map "need_place" 2 (ZO c) (Za 0) (Zc (Za 2) Zj)))
  (Zv (sIf (fB (f2 kEq (Za 1) (Za 2))) (Up c.OutOfReach (N7 (Za 1) L0)) Yo)
  (Zv (YW (fC (.bl true)) (f1 (ZR c.Map "links") (Za 0)) (fA Y6 (Zc (Za 1) (Zc (Za 2) Zj))))
  (YW (fC (.bl true)) (f1 (ZR c.Map "links") (Za 0)) (fA Y6 (Zc (Za 2) (Zc (Za 1) Zj))))))))
def Uv(c:CA):iJ->Mw Wv:=Ye 3 (JD c)
def M6(c:CA):FS:=
 (Zv (Z9 (Zq c.Map "need_place" 2 (ZO c) (Za 0) (Zc (Za 1) Zj)))
  (Zv (Z9 (Zq c.Map "need_place" 2 (ZO c) (Za 0) (Zc (Za 2) Zj)))
  (Z8 (f2 (W9 false) (fA Y6 (Zc (Za 1) (Zc (Za 2) Zj))) (f1 (ZR c.Map "links") (Za 0))))))
def Ut(c:CA):iJ->Mw Wv:=Ye 3 (M6 c)
def SS(c:CA):FS:=
 (Zv (Xr c.Board "chart" (Za 1) (Za 0))
  (Xr c.Board "units" (λ_=>newO (.dk [])) (Za 0)))
def YO(c:CA):iJ->Mw Wv:=Ye 2 (SS c)
def Mp(c:CA):FS:=
 (Zv (Z9 (Zq c.Map "need_place" 2 (ZO c) (f1 (ZR c.Board "chart") (Za 0)) (Zc (Za 1) Zj)))
  (Zv (sIf (fOr (fB (f2 kLt (Za 2) (fC (.int 0)))) (fB (f2 kGt (Za 2) (fC (.int 7))))) (Up c.NoSide (N7 (Za 2) L0)) Yo)
  (Zv (sIf (fB (f2 (W9 false) (Za 1) (f1 (ZR c.Board "units") (Za 0)))) (Up c.Crowded (N7 (Za 1) L0)) Yo)
  (YW (Za 2) (f1 (ZR c.Board "units") (Za 0)) (Za 1)))))
def X9(c:CA):iJ->Mw Wv:=Ye 3 (Mp c)
def Qz(c:CA):FS:=
 (Zv (Z9 (Zq c.Map "need_place" 2 (ZO c) (f1 (ZR c.Board "chart") (Za 0)) (Zc (Za 1) Zj)))
  (Z8 (KH (f1 (ZR c.Board "units") (Za 0)) (Za 1))))
def ZP(c:CA):iJ->Mw Wv:=Ye 2 (Qz c)
def Ra(c:CA):FS:=
 (sIf (fB (f1 Uc (Zq c.Board "side_at" 2 (ZP c) (Za 0) (Zc (Za 1) Zj)))) (Up c.NoUnit (N7 (Za 1) L0)) Yo)
def Yp(c:CA):iJ->Mw Wv:=Ye 2 (Ra c)
def Mc(c:CA):FS:=
 (Z8 (SN ZL (f1 (ZR c.Board "units") (Za 0))))
def ZU(c:CA):iJ->Mw Wv:=Ye 1 (Mc c)
def VI(c:CA):FS:=
 (sIf (Xj (f2 kIx (f2 kIx (Za 1) (Za 3)) (Za 4))) (Z9 (Zq c.Map "link" 3 (Uv c) (Za 2) (Zc (f2 Wz (f2 kIx (Za 0) (fC (.int 1))) (Za 3)) (Zc (f2 Wz (f2 kIx (Za 0) (fC (.int 1))) (Za 4)) Zj)))) Yo)
def TN(c:CA):FS:=
 (XQ (λsl=>bnd ((Za 3) sl) Yw) (tgN 4) (VI c))
def NT(c:CA):FS:=
 (Zv (ZD 2 (fA (Y2 c.Map 2 (X0 c)) (Zc (f2 kIx (Za 0) (fC (.int 2))) Zj)))
  (Zv (XQ (λsl=>bnd ((f2 kIx (Za 0) (fC (.int 0))) sl) Yw) (tgN 3) (TN c))
  (Z8 (Za 2))))
def WW(c:CA):iJ->Mw Wv:=Ye 5 (NT c)
def TF(c:CA):FS:=
 (sIf (fB (f1 Wh (f2 kIx (Za 2) (Za 4)))) (Z9 (Zq c.Board "post" 3 (X9 c) (Za 3) (Zc (f2 Wz (f2 kIx (Za 0) (fC (.int 1))) (Za 4)) (Zc (f2 kIx (Za 2) (Za 4)) Zj)))) Yo)
def Ml(c:CA):FS:=
 (Zv (ZD 3 (fA (Y2 c.Board 2 (YO c)) (Zc (fA (kN 2 (WW c)) (Zc (Za 0) (Zc (Za 1) Zj))) Zj)))
  (Zv (XQ (λsl=>bnd ((f2 kIx (Za 0) (fC (.int 0))) sl) Yw) (tgN 4) (TF c))
  (Z8 (Za 3))))
def WQ(c:CA):iJ->Mw Wv:=Ye 5 (Ml c)
end
open PySem L2
def pk(a b:Int):List Key:=[.inl a,.inl b]
def Ld{a b x y:Int}:pk a b=pk x y ↔ a=x∧b=y:=by
 unfold pk;constructor
 ·intro h;injection h with h1 h2;injection h2 with h2 _;exact⟨gc h1,gc h2⟩
 ·rintro⟨rfl,rfl⟩;rfl
def N9{κ:Type}[DecidableEq κ](kvs:List (κ × Wv))(k k':κ)(v:Wv):(kvs.map (λkv=>if kv.1=k then (kv.1,v) else kv)).find? (λkv=>decide (kv.1=k'))=(kvs.find? λkv=>decide (kv.1=k')).map (λkv=>if kv.1=k then (kv.1,v) else kv):=by
 induction kvs with
 |nil=>rfl
 |cons p kvs ih=>
  rw[aU,cB,cB];have e:(if p.1=k then (p.1,v) else p).1=p.1:=by split <;> rfl
  rw[e];cases h:decide (p.1=k') with
  |true=>rfl
  |false=>exact ih
def Lx{κ:Type}[DecidableEq κ](kvs:List (κ × Wv))(k k':κ)(v:Wv):V9 (WP kvs k v) k'=if k'=k then some v else V9 kvs k':=by
 unfold WP;by_cases ha:(kvs.any λkv=>decide (kv.1=k))=true
 ·rw[aC ha]
  unfold V9;rw[N9];by_cases h:k'=k
  ·subst h
   rw[aC rfl];obtain⟨p,hp,e⟩:=cX.mp ha;cases hf:kvs.find? λkv=>decide (kv.1=k') with
   |none=>exact absurd e (eW.mp hf p hp)
   |some q=>
    have hq:=gS hf;have hq:q.1=k':=bG hq;simp[hq]
  ·rw[aE h]
   cases hf:kvs.find? λkv=>decide (kv.1=k') with
   |none=>rfl
   |some q=>
    have hq:=gS hf;have hq:q.1=k':=bG hq;simp[show ¬ q.1=k from λz=>h (hq ▸ z)]
 ·rw[aE ha]
  unfold V9;rw[List.find?_append];have hn:(kvs.find? λkv=>decide (kv.1=k))=none:=eW.mpr λp hp z=>ha (cX.mpr ⟨p,hp,z⟩)
  by_cases h:k'=k
  ·subst h
   rw[aC rfl,hn];simp
  ·rw[aE h]
   cases hf:kvs.find? λkv=>decide (kv.1=k') with
   |none=>simp[show ¬ k=k' from λz=>h z.symm]
   |some q=>rfl
def Q6{κ:Type}[DecidableEq κ](kvs:List (κ × Wv))(k:κ)(v:Wv):(WP kvs k v).length<=kvs.length+1:=by
 unfold WP;split
 ·simp
 ·simp
abbrev Y0(c:CA)(size:Int)(hl:Nat):Ob:=.ins c.Map [("size",.int size),("links",.o hl)]
abbrev Yv(c:CA)(hm hu:Nat):Ob:=.ins c.Board [("chart",.o hm),("units",.o hu)]
section
variable(c:CA){om:iN}{h hl:Nat}{size:Int}
def Yz{C:Addr}{n:Str}{fs:iK}{w:Wv}{sl:Sl}{i:Nat}(hv:sl[i]?=some (some (.o h)))(hm:om[h]?=some (.ins C fs))(hw:fs.lookup n=some w):f1 (ZR C n) (Za i) sl om=some (.ok w,om):=by
 refine(Wa (Zb hv)).trans ?_;simp[ZR,TY,hm,hw]
def HN(size:Int)(hl:Nat):List.lookup (Str.ofString "size") [(Str.ofString "size",Wv.int size),(Str.ofString "links",Wv.o hl)]=some (.int size):=by simp[aN,YZ]
def Pn(size:Int)(hl:Nat):List.lookup (Str.ofString "links") [(Str.ofString "size",Wv.int size),(Str.ofString "links",Wv.o hl)]=some (.o hl):=by simp[aN,YZ]
def X3(m:String)(size:Int)(hl:Nat)(h1:m≠"size")(h2:m≠"links"):List.lookup (Str.ofString m) [(Str.ofString "size",Wv.int size),(Str.ofString "links",Wv.o hl)]=none:=by simp[aN,YZ,h1,h2]
def UA(hm hu:Nat):List.lookup (Str.ofString "chart") [(Str.ofString "chart",Wv.o hm),(Str.ofString "units",Wv.o hu)]=some (.o hm):=by simp[aN,YZ]
def Ug(hm hu:Nat):List.lookup (Str.ofString "units") [(Str.ofString "chart",Wv.o hm),(Str.ofString "units",Wv.o hu)]=some (.o hu):=by simp[aN,YZ]
def Yi(m:String)(hm hu:Nat)(h1:m≠"chart")(h2:m≠"units"):List.lookup (Str.ofString m) [(Str.ofString "chart",Wv.o hm),(Str.ofString "units",Wv.o hu)]=none:=by simp[aN,YZ,h1,h2]
def Zy{C:Addr}{fs:iK}(hm:om[h]?=some (.ins C fs)):TY om (.o h)=some (C,fs):=by simp[TY,hm]
def Rh(hm:om[h]?=some (Y0 c size hl)){a:Int}(h0:0<=a)(h1:a<size):ZO c [.o h,.int a] om=some (.ok .non,om):=by
 have t:fOr (fB (f2 kLt (Za 1) (fC (.int 0)))) (fB (f2 kGe (Za 1) (f1 (ZR c.Map "size") (Za 0)))) [some (.o h),some (.int a)] om=some (.ok false,om):=by
  refine(Es (ZW ((Zs (Zb rfl) Zp).trans (show kLt (.int a) (.int 0) om=some (.ok (.bl false),om) by simp[kI,L2.ret,show ¬ a<0 by omega])))).trans ?_;exact ZW ((Zs (Zb rfl) (Yz rfl hm (HN ..))).trans (by simp[kI,L2.ret];omega))
 exact Vb (ZK t)
end
section
variable(c:CA){om:iN}{h hl:Nat}{size:Int}{kvs:iL}
def Sf(kvs:iL)(a b:Int):iL:=WP (WP kvs (pk a b) (.bl true)) (pk b a) (.bl true)
def Ty(kvs:iL)(a b:Int):Bool:=(V9 kvs (pk a b)).isSome
def RN(kvs:iL)(a b x y:Int):Ty (Sf kvs a b) x y=(decide (x=a∧y=b) || (decide (x=b∧y=a) || Ty kvs x y)):=by
 unfold Ty Sf;rw[Lx,Lx];by_cases h1:pk x y=pk b a
 ·rw[aC h1];simp[Ld.mp h1]
 ·rw[aE h1]
  have jz:¬ (x=b∧y=a):=λz=>h1 (Ld.mpr z)
  by_cases h2:pk x y=pk a b
  ·rw[aC h2];simp[Ld.mp h2]
  ·rw[aE h2]
   have ji:¬ (x=a∧y=b):=λz=>h2 (Ld.mpr z)
   rw[aL jz,aL ji];simp
def Ol(kvs:iL)(a b:Int):(Sf kvs a b).length<=kvs.length+2:=by
 unfold Sf;have h1:=Q6 kvs (pk a b) (.bl true);have h2:=Q6 (WP kvs (pk a b) (.bl true)) (pk b a) (.bl true);omega
def Da{sl:Sl}{i j k:Nat}{x y:Int}(hh:h≠hl)(hv:sl[i]?=some (some (.o h)))(hm:om[h]?=some (Y0 c size hl))(hk:om[hl]?=some (.dt kvs))(hx:sl[j]?=some (some (.int x)))(hy:sl[k]?=some (some (.int y)))(ip:kvs.length<lim):YW (fC (.bl true)) (f1 (ZR c.Map "links") (Za i)) (fA Y6 (Zc (Za j) (Zc (Za k) Zj))) sl om=some (.ok (.nx,sl),om.set hl (.dt (WP kvs (pk x y) (.bl true)))):=by
 unfold YW;rw[Zm Zp,Zm (Yz hv hm (Pn ..)),Zm ((ZB (Ze (Zb hx) (Ze (Zb hy) Zi))).trans (Y5 (by simp)))];refine(Zm (a:=()) (om1:=om.set hl (.dt (WP kvs (pk x y) (.bl true)))) ?_).trans rfl;simp[Q9,OK,hk,W3,Y8,ip,pk]
def IL(hh:h≠hl)(hm:om[h]?=some (Y0 c size hl))(hk:om[hl]?=some (.dt kvs)){a b:Int}(ha:0<=a∧a<size)(hb:0<=b∧b<size)(jh:a≠b)(ip:kvs.length+1<lim):Uv c [.o h,.int a,.int b] om=some (.ok .non,om.set hl (.dt (Sf kvs a b))):=by
 have n1:Z9 (Zq c.Map "need_place" 2 (ZO c) (Za 0) (Zc (Za 1) Zj)) [some (.o h),some (.int a),some (.int b)] om=_:=ZY ((Zz (Zb rfl) (Zy hm) (X3 _ _ _ (by decide) (by decide)) (Ze (Zb rfl) Zi) rfl).trans (Rh c hm ha.1 ha.2));have n2:Z9 (Zq c.Map "need_place" 2 (ZO c) (Za 0) (Zc (Za 2) Zj)) [some (.o h),some (.int a),some (.int b)] om=_:=ZY ((Zz (Zb rfl) (Zy hm) (X3 _ _ _ (by decide) (by decide)) (Ze (Zb rfl) Zi) rfl).trans (Rh c hm hb.1 hb.2));have t:fB (f2 kEq (Za 1) (Za 2)) [some (.o h),some (.int a),some (.int b)] om=some (.ok false,om):=ZW ((v2 rfl rfl).trans ((WI _ _ _).trans (by rw[aL jh])));have iW:hl<om.length:=(aH.mp hk).1;have p1:=Da c (sl:=[some (.o h),some (.int a),some (.int b)]) (i:=0) (j:=1) (k:=2) hh rfl hm hk rfl rfl (by omega);have jH:(om.set hl (.dt (WP kvs (pk a b) (.bl true))))[h]?=some (Y0 c size hl):=by rw[bN (cI hh)];exact hm
 have jP:(om.set hl (.dt (WP kvs (pk a b) (.bl true))))[hl]?=some (.dt (WP kvs (pk a b) (.bl true))):=by rw[bV iW]
 have p2:=Da c (sl:=[some (.o h),some (.int a),some (.int b)]) (i:=0) (j:=2) (k:=1) hh rfl jH jP rfl rfl (by have:=Q6 kvs (pk a b) (.bl true);omega);rw[eS]at p2;exact Vb ((Zh n1).trans ((Zh n2).trans ((Zh (ZK t)).trans ((Zh p1).trans p2))))
def Nz(om:iN):Y2 c.Map 2 (X0 c) [.int size] om=some (.ok (.o om.length),om++[Y0 c size (om.length+1),.dt []]):=by
 simp[X0,Pa,Y2,bnd,kN,chk,L2.ret,Ye,Zv,Xr,Za,Vd,Nu,X7,H9,newO,Wr,K9]
def U8(om:iN)(hm:Nat):Y2 c.Board 2 (YO c) [.o hm] om=some (.ok (.o om.length),om++[Yv c hm (om.length+1),.dk []]):=by
 simp[YO,SS,Y2,bnd,kN,chk,L2.ret,Ye,Zv,Xr,Za,Vd,Nu,X7,H9,newO,Wr,K9]
end
abbrev Zo(ia off size:Nat):Wv:=.tup [.int ia,.int off,.int size]
def dn(a b i j:Nat):Prop:=(j<i∧(i<a∨(i=a∧j<b)))∨(i<j∧(j<a∨(j=a∧i<b)))
structure Laid(rows:Mx)(off a b:Nat)(kvs:iL):Prop where
 has:∀x y:Int,Ty kvs x y=true ↔ ∃i j:Nat,x=off+i∧y=off+j∧Xa rows i j=true∧dn a b i j
 few:kvs.length<=20 * a+2 * b
def Laid.zero(rows:Mx)(off:Nat):Laid rows off 0 0 []:=by
 refine⟨λx y=>Iff.intro (λh=>(by cases h)) (λh=>?_),by simp⟩;obtain⟨i,j,_,_,_,h⟩:=h;unfold dn at h;omega
def Laid.on{rows:Mx}{off a b m:Nat}{kvs:iL}(L:Laid rows off a b kvs)(lk:Lk m rows)(h:Xa rows a b=true)(hb:b<a):Laid rows off a (b+1) (Sf kvs ((off:Int)+a) ((off:Int)+b)):=by
 refine⟨λx y=>?_,by have:=Ol kvs ((off:Int)+a) ((off:Int)+b);have:=L.few;omega⟩;rw[RN,d4,d4,bX,bX,L.has];constructor
 ·rintro(⟨h1,h2⟩|⟨h1,h2⟩|⟨i,j,h1,h2,h3,h4⟩)
  ·exact⟨a,b,h1,h2,h,by unfold dn;omega⟩
  ·exact⟨b,a,h1,h2,(lk.sym b a).trans h,by unfold dn;omega⟩
  ·exact⟨i,j,h1,h2,h3,by unfold dn at *;omega⟩
 ·rintro⟨i,j,h1,h2,h3,h4⟩
  by_cases e1:i=a∧j=b
  ·exact .inl ⟨by rw[h1,e1.1],by rw[h2,e1.2]⟩
  ·by_cases e2:i=b∧j=a
   ·exact .inr (.inl ⟨by rw[h1,e2.1],by rw[h2,e2.2]⟩)
   ·exact .inr (.inr ⟨i,j,h1,h2,h3,by unfold dn at *;omega⟩)
def Laid.off'{rows:Mx}{off a b m:Nat}{kvs:iL}(L:Laid rows off a b kvs)(lk:Lk m rows)(h:Xa rows a b=false)(hb:b<a):Laid rows off a (b+1) kvs:=by
 refine⟨λx y=>?_,by have:=L.few;omega⟩;rw[L.has];constructor
 ·rintro⟨i,j,h1,h2,h3,h4⟩
  exact⟨i,j,h1,h2,h3,by unfold dn at *;omega⟩
 ·rintro⟨i,j,h1,h2,h3,h4⟩
  refine⟨i,j,h1,h2,h3,?_⟩;by_cases e1:i=a∧j=b
  ·rw[e1.1,e1.2,h]at h3;cases h3
  ·by_cases e2:i=b∧j=a
   ·rw[e2.1,e2.2,lk.sym,h]at h3;cases h3
   ·unfold dn at *;omega
def Laid.next{rows:Mx}{off a:Nat}{kvs:iL}(L:Laid rows off a a kvs)(ha:a<=7):Laid rows off (a+1) 0 kvs:=by
 refine⟨λx y=>?_,by have:=L.few;omega⟩;rw[L.has];constructor
 ·rintro⟨i,j,h1,h2,h3,h4⟩
  exact⟨i,j,h1,h2,h3,by unfold dn at *;omega⟩
 ·rintro⟨i,j,h1,h2,h3,h4⟩
  exact⟨i,j,h1,h2,h3,by unfold dn at *;omega⟩
def Lk.inr{m:Nat}{rows:Mx}(L:Lk m rows){i j:Nat}(h:Xa rows i j=true):i<m∧j<m∧i≠j:=by
 have hi:i<m:=by
  by_cases hi:i<m
  ·exact hi
  ·unfold Xa at h
   rw[aM (l:=rows),bK (by rw[L.len];omega)]at h;simp at h
 refine⟨hi,?_,λz=>by subst z;rw[L.dg]at h;cases h⟩;by_cases hj:j<m
 ·exact hj
 ·unfold Xa at h
  rw[aM,bK (by rw[L.row i hi];omega)]at h;cases h
def O6(rows:Mx)(off:Nat)(kvs:iL):Prop:=∀x y:Int,Ty kvs x y=true ↔ ∃i j:Nat,x=off+i∧y=off+j∧Xa rows i j=true
def Laid.done{rows:Mx}{off m:Nat}{kvs:iL}(L:Laid rows off m 0 kvs)(lk:Lk m rows):O6 rows off kvs:=λx y=>by
 rw[L.has];constructor
 ·rintro⟨i,j,h1,h2,h3,_⟩;exact⟨i,j,h1,h2,h3⟩
 ·rintro⟨i,j,h1,h2,h3⟩
  have:=lk.inr h3;exact⟨i,j,h1,h2,h3,by unfold dn;omega⟩
section
variable(c:CA){om:iN}{ia off size:Nat}{rows:Mx}
abbrev Om(om:iN)(size:Nat)(kvs:iL):iN:=om++[Y0 c size (om.length+1),.dt kvs]
abbrev MN(n ia off size:Nat)(rows:Mx)(x3 x4:Option Wv):Sl:=[some (Zo ia off size),some (.lst (rows.map ZJ)),some (.o n),x3,x4]
def EQ(kvs jc:iL):(Om c om size kvs).set (om.length+1) (.dt jc)=Om c om size jc:=by
 unfold Om;rw[bU _ _ (by omega),show om.length+1-om.length=1 by omega];rfl
def D5(lk:Lk ia rows)(h1:off+ia<=size)(hm:ia<=7){a b:Nat}(ha:a<ia)(hb:b<a){kvs:iL}(L:Laid rows off a b kvs):∃jc,VI c (MN om.length ia off size rows (some (.int a)) (some (.int b))) (Om c om size kvs)=some (.ok (.nx,MN om.length ia off size rows (some (.int a)) (some (.int b))),Om c om size jc)∧Laid rows off a (b+1) jc:=by
 have iQ:=ZQ;have t:Xj (f2 kIx (f2 kIx (Za 1) (Za 3)) (Za 4)) (MN om.length ia off size rows (some (.int a)) (some (.int b))) (Om c om size kvs)=_:=XE (Iu (p:=1) (q:=3) (r:=4) lk ha (by omega) rfl rfl rfl);cases hv:Xa rows a b with
 |false=>
  rw[hv]at t;exact⟨kvs,ZK t,L.off' lk hv hb⟩
 |true=>
  rw[hv]at t;refine⟨_,(Yn t).trans (ZY (w:=.non) ((Zz (Zb rfl) (Zy (fs:=[("size",.int (size:Int)),("links",.o (om.length+1))]) (by simp)) (X3 _ _ _ (by decide) (by decide)) (Ze ((Zs ((Zs (Zb rfl) Zp).trans (ZI (k:=1) (v:=.int off) rfl rfl)) (Zb rfl)).trans rfl) (Ze ((Zs ((Zs (Zb rfl) Zp).trans (ZI (k:=1) (v:=.int off) rfl rfl)) (Zb rfl)).trans rfl) Zi)) rfl).trans ((IL c (h:=om.length) (hl:=om.length+1) (size:=size) (kvs:=kvs) (by omega) (by simp) (by simp) ⟨by omega,by omega⟩ ⟨by omega,by omega⟩ (by omega) (by have:=L.few;omega)).trans ?_))),L.on lk hv hb⟩;rw[EQ]
def FC(lk:Lk ia rows)(h1:off+ia<=size)(hm:ia<=7)(om:iN):∃kvs,WW c [Zo ia off size,.lst (rows.map ZJ)] om=some (.ok (.o om.length),om++[Y0 c size (om.length+1),.dt kvs])∧O6 rows off kvs∧kvs.length<=140:=by
 have iQ:=ZQ;have s1:ZD 2 (fA (Y2 c.Map 2 (X0 c)) (Zc (f2 kIx (Za 0) (fC (.int 2))) Zj)) [some (Zo ia off size),some (.lst (rows.map ZJ)),none,none,none] om=some (.ok (.nx,MN om.length ia off size rows none none),Om c om size []):=Zw (i:=2) ((ZB (Ze ((Zs (Zb rfl) Zp).trans (ZI (k:=2) (v:=.int size) rfl rfl)) Zi)).trans (Nz c om))
 obtain⟨iS,ij,hf,kvs,x3,x4,rfl,rfl,L⟩:=XR (T:=tgN 3) (S:=TN c) (n:=ia) (λa sl ij=>∃kvs x3 x4,sl=MN om.length ia off size rows x3 x4∧ij=Om c om size kvs∧Laid rows off a 0 kvs)
  (sl:=MN om.length ia off size rows none none) (om:=Om c om size []) (λa ha sl ij ⟨kvs,x3,x4,e1,e2,L⟩=>by
   subst e1 e2
   obtain⟨iT,om2,lU,kz,y4,rfl,rfl,L2⟩:=XR (T:=tgN 4) (S:=VI c) (n:=a) (λb sl ij=>∃kvs y4,sl=MN om.length ia off size rows (some (.int a)) y4∧ij=Om c om size kvs∧Laid rows off a b kvs)
    (sl:=MN om.length ia off size rows (some (.int a)) x4) (om:=Om c om size kvs) (λb hb sl ij ⟨kvs,y4,e1,e2,L⟩=>by
     subst e1 e2;obtain⟨jc,e,L'⟩:=D5 c (om:=om) lk h1 hm ha hb L;exact⟨_,.nx,_,_,rfl,e,.inl rfl,jc,_,rfl,rfl,L'⟩) ⟨kvs,x4,rfl,rfl,L⟩
   exact⟨_,.nx,_,_,rfl,YV (sl1:=[]) (Tw (i:=3) (m:=a) rfl (by omega) _) lU,.inl rfl,kz,_,_,rfl,rfl,L2.next (by omega)⟩) ⟨[],none,none,rfl,rfl,Laid.zero rows off⟩
 have e4:=YV (sl1:=[]) (fi:=λsl=>bnd ((f2 kIx (Za 0) (fC (.int 0))) sl) Yw) (sl:=MN om.length ia off size rows none none) ((Zm ((Zs (Zb rfl) Zp).trans (ZI (k:=0) (v:=.int ia) rfl rfl))).trans (X5 _ _ (by omega))) hf;exact⟨kvs,ZF ((Zh s1).trans ((Zh e4).trans (Zu (Zb rfl)))),L.done lk,by have:=L.few;omega⟩
end
def Yc(off:Nat)(f:hY)(n:Nat):hZ:=(List.range n).filterMap λk=>(at' f k).map λs=>((off:Int)+k,s)
def RI(off:Nat)(f:hY)(n:Nat):Yc off f (n+1)=Yc off f n++(match at' f n with|some s=>[((off:Int)+n,s)]|none=>[]):=by
 unfold Yc;rw[dc,f8]
 congr 1
 rw[cD,List.filterMap_nil];cases at' f n <;> rfl
def Oo(off:Nat)(f:hY)(n:Nat):(Yc off f n).length<=n:=by
 unfold Yc;exact cg (List.length_filterMap_le _ _) (by simp)
def RF(off:Nat)(f:hY)(n:Nat)(x:Int):(Yc off f n).lookup x=if 0<=x-off∧x-off<n then at' f (x-off).toNat else none:=by
 induction n with
 |zero=>rw[aE (by omega)];rfl
 |succ n ih=>
  rw[RI,List.lookup_append,ih];by_cases h:0<=x-off∧x-off<n
  ·rw[aC h,aC (by omega)]
   cases ha:at' f (x-off).toNat with
   |some s=>rfl
   |none=>
    cases hb:at' f n with
    |none=>rfl
    |some s=>
     have:(x == (off:Int)+n)=false:=aY.mpr (by omega);simp[aN,this]
  ·rw[aE h]
   by_cases h2:x=(off:Int)+n
   ·rw[aC (by omega),show(x-off).toNat=n by omega]
    cases hb:at' f n with
    |none=>rfl
    |some s=>simp[aN,h2]
   ·rw[aE (by omega)]
    cases hb:at' f n with
    |none=>rfl
    |some s=>
     have:(x == (off:Int)+n)=false:=aY.mpr h2;simp[aN,this]
section
variable(c:CA){om:iN}{hb hm hu hl:Nat}{size:Int}{us:hZ}
def NW{C:Addr}{n:Str}{fs:iK}{w:Wv}{sl:Sl}{fe:FE}{h:Nat}(hv:fe sl om=some (.ok (.o h),om))(hm:om[h]?=some (.ins C fs))(hw:fs.lookup n=some w):f1 (ZR C n) fe sl om=some (.ok w,om):=by
 refine(Wa hv).trans ?_;simp[ZR,TY,hm,hw]
def Ly(h1:om[hb]?=some (Yv c hm hu))(h2:om[hm]?=some (Y0 c size hl)){a:Int}(ha:0<=a∧a<size){sl:Sl}(s0:sl[0]?=some (some (.o hb)))(s1:sl[1]?=some (some (.int a))):Z9 (Zq c.Map "need_place" 2 (ZO c) (f1 (ZR c.Board "chart") (Za 0)) (Zc (Za 1) Zj)) sl om=some (.ok (.nx,sl),om):=
 ZY ((Zz (Yz s0 h1 (UA ..)) (Zy h2) (X3 _ _ _ (by decide) (by decide)) (Ze (Zb s1) Zi) rfl).trans (Rh c h2 ha.1 ha.2))
def MA(h1:om[hb]?=some (Yv c hm hu))(h2:om[hm]?=some (Y0 c size hl))(h3:om[hu]?=some (.dk (ZH us))){a s:Int}(ha:0<=a∧a<size)(hs:0<=s∧s<=7)(hn:us.lookup a=none)(ip:us.length<lim):X9 c [.o hb,.int a,.int s] om=some (.ok .non,om.set hu (.dk (ZH (us++[(a,s)])))):=by
 have n1:=Ly c (sl:=[some (.o hb),some (.int a),some (.int s)]) h1 h2 ha rfl rfl
 have t1:fOr (fB (f2 kLt (Za 2) (fC (.int 0)))) (fB (f2 kGt (Za 2) (fC (.int 7)))) [some (.o hb),some (.int a),some (.int s)] om=some (.ok false,om):=by
  refine(Es (ZW ((Zs (Zb rfl) Zp).trans (show kLt (.int s) (.int 0) om=some (.ok (.bl false),om) by simp[kI,L2.ret];omega)))).trans ?_;exact ZW ((Zs (Zb rfl) Zp).trans (by simp[kI,L2.ret];omega))
 have t2:fB (f2 (W9 false) (Za 1) (f1 (ZR c.Board "units") (Za 0))) [some (.o hb),some (.int a),some (.int s)] om=some (.ok false,om):=by
  refine ZW ((Zs (Zb rfl) (Yz rfl h1 (Ug ..))).trans ?_);simp[W9,Wm,h3,Y8,Tv,hn]
 have p:YW (Za 2) (f1 (ZR c.Board "units") (Za 0)) (Za 1) [some (.o hb),some (.int a),some (.int s)] om=some (.ok (.nx,[some (.o hb),some (.int a),some (.int s)]),om.set hu (.dk (ZH (us++[(a,s)])))):=by
  unfold YW;rw[Zm (Zb rfl),Zm (Yz rfl h1 (Ug ..)),Zm (Zb rfl)];refine(Zm (a:=()) (om1:=om.set hu (.dk (ZH (us++[(a,s)])))) ?_).trans rfl;simp[Q9,OK,h3,Y8,OR,ip,IG s hn]
 exact Vb ((Zh n1).trans ((Zh (ZK t1)).trans ((Zh (ZK t2)).trans p)))
def CZ(h1:om[hb]?=some (Yv c hm hu))(h2:om[hm]?=some (Y0 c size hl))(h3:om[hu]?=some (.dk (ZH us))){a:Int}(ha:0<=a∧a<size):ZP c [.o hb,.int a] om=some (.ok (ZA (us.lookup a)),om):=by
 have n1:=Ly c (sl:=[some (.o hb),some (.int a)]) h1 h2 ha rfl rfl
 have p:KH (f1 (ZR c.Board "units") (Za 0)) (Za 1) [some (.o hb),some (.int a)] om=some (.ok (ZA (us.lookup a)),om):=by
  have e:=Yz (sl:=[some (.o hb),some (.int a)]) (i:=0) rfl h1 (Ug hm hu);cases hq:us.lookup a with
  |none=>simp[KH,bnd,e,OH,isD,h3,Za,IH,Wm,Y8,Tv,hq,L2.ret,ZA]
  |some s=>simp[KH,bnd,e,OH,isD,h3,Za,IH,Wm,Y8,Tv,hq,L2.ret,ZA]
 exact ZF ((Zh n1).trans (Zu p))
abbrev Z0(om:iN)(size:Nat)(kvs:iL)(us:hZ):iN:=om++[Y0 c size (om.length+1),.dt kvs,Yv c om.length (om.length+3),.dk (ZH us)]
def FP{ia off size:Nat}{rows:Mx}{f:hY}(lk:Lk ia rows)(hf:f.length=ia)(h1:off+ia<=size)(hm:ia<=7)(hs:∀k s,at' f k=some s->0<=s∧s<=7)(om:iN){sw:Wv}(hw:∀ij,(∀j,j<om.length->ij[j]?=om[j]?)->YI ij sw=some (f.map ZA):=by intro _ _;rfl):∃kvs,WQ c [Zo ia off size,.lst (rows.map ZJ),sw] om=some (.ok (.o (om.length+2)),Z0 c om size kvs (Yc off f ia))∧O6 rows off kvs∧kvs.length<=140:=by
 have iQ:=ZQ;obtain⟨kvs,ec,mo,hk⟩:=FC c lk h1 hm om;refine⟨kvs,?_,mo,hk⟩
 have s1:ZD 3 (fA (Y2 c.Board 2 (YO c)) (Zc (fA (kN 2 (WW c)) (Zc (Za 0) (Zc (Za 1) Zj))) Zj)) [some (Zo ia off size),some (.lst (rows.map ZJ)),some sw,none,none] om=some (.ok (.nx,[some (Zo ia off size),some (.lst (rows.map ZJ)),some sw,some (.o (om.length+2)),none]),Z0 c om size kvs (Yc off f 0)):=by
  refine Zw (i:=3) (w:=.o (om.length+2)) ((ZB (Ze ((ZB (Ze (Zb rfl) (Ze (Zb rfl) Zi))).trans ((YG rfl).trans ec)) Zi)).trans ((U8 c _ _).trans ?_));rw[aT,bS];rfl
 obtain⟨iS,ij,jO,x,rfl,rfl⟩:=XR (T:=tgN 4) (S:=TF c) (n:=ia) (λk sl ij=>∃x,sl=[some (Zo ia off size),some (.lst (rows.map ZJ)),some sw,some (.o (om.length+2)),x]∧ij=Z0 c om size kvs (Yc off f k))
  (sl:=[some (Zo ia off size),some (.lst (rows.map ZJ)),some sw,some (.o (om.length+2)),none]) (om:=Z0 c om size kvs (Yc off f 0)) (λk hk sl ij ⟨x,e1,e2⟩=>by
   subst e1 e2;have jP:k<f.length:=by omega
   have sk:f2 kIx (Za 2) (Za 4) [some (Zo ia off size),some (.lst (rows.map ZJ)),some sw,some (.o (om.length+2)),some (.int k)] (Z0 c om size kvs (Yc off f k))=_:=(v2 rfl rfl).trans (UO (k:=k) (hw _ λj hj=>by unfold Z0;rw[aQ hj]) jP none);have t:fB (f1 Wh (f2 kIx (Za 2) (Za 4))) [some (Zo ia off size),some (.lst (rows.map ZJ)),some sw,some (.o (om.length+2)),some (.int k)] (Z0 c om size kvs (Yc off f k))=some (.ok (at' f k).isSome,Z0 c om size kvs (Yc off f k)):=ZW ((Wa sk).trans (RH _ _));refine⟨[some (Zo ia off size),some (.lst (rows.map ZJ)),some sw,some (.o (om.length+2)),some (.int k)],.nx,_,Z0 c om size kvs (Yc off f (k+1)),rfl,?_,.inl rfl,some (.int k),rfl,rfl⟩;rw[RI];cases hq:at' f k with
   |none=>
    rw[hq]at t;rw[cC];exact ZK t
   |some s=>
    rw[hq]at t;rw[show f.getD k none=some s from hq]at sk;refine(Yn t).trans (ZY (w:=.non) ((Zz (Zb rfl) (Zy (fs:=[("chart",.o om.length),("units",.o (om.length+3))]) (by simp)) (Yi _ _ _ (by decide) (by decide)) (Ze ((Zs ((Zs (Zb rfl) Zp).trans (ZI (k:=1) (v:=.int off) rfl rfl)) (Zb rfl)).trans rfl) (Ze sk Zi)) rfl).trans ((MA c (hb:=om.length+2) (hm:=om.length) (hu:=om.length+3) (hl:=om.length+1) (size:=size) (us:=Yc off f k) (by simp) (by simp) (by simp) ⟨by omega,by omega⟩ (hs k s hq) (by rw[RF,aE (by omega)]) (by have:=Oo off f k;omega)).trans ?_)));unfold Z0;rw[bU _ _ (by omega),show om.length+3-om.length=3 by omega];rfl) ⟨none,rfl,rfl⟩
 have e4:=YV (sl1:=[]) (fi:=λsl=>bnd ((f2 kIx (Za 0) (fC (.int 0))) sl) Yw) (sl:=[some (Zo ia off size),some (.lst (rows.map ZJ)),some sw,some (.o (om.length+2)),none]) ((Zm ((Zs (Zb rfl) Zp).trans (ZI (k:=0) (v:=.int ia) rfl rfl))).trans (X5 _ _ (by omega))) jO;exact ZF ((Zh s1).trans ((Zh e4).trans (Zu (Zb rfl))))
end
def Qs(off:Nat)(f:hY)(n:Nat):(Yc off f n).Pairwise (λx y=>x.1<y.1):=by
 unfold Yc;refine List.Pairwise.filterMap (R:=(· < ·)) _ (λa b jD x hx y hy=>?_) eC;obtain⟨s,_,rfl⟩:=bZ.mp hx;obtain⟨t,_,rfl⟩:=bZ.mp hy;show(off:Int)+a<off+b;omega
def ND{us:hZ}(nd:(us.map (·.1)).Nodup):(YH us).Pairwise (λx y=>x.1<y.1):=by
 have hp:=Z4 us;have hn:((YH us).map (·.1)).Nodup:=(hp.map _).nodup_iff.mpr nd;refine((Xo us).and (bO.mp hn)).imp λ{x y} h=>?_
 have a:¬ _:=λw'=>absurd (Vy.mpr w') (by rw[h.1];exact aJ)
 have b:=h.2;omega
def JV{us vs:hZ}(nd:(us.map (·.1)).Nodup)(hv:vs.Pairwise (λx y=>x.1<y.1))(h:∀p,p∈us ↔ p∈vs):YH us=vs:=
 Qj (ND nd) hv λp=>by rw[(Z4 us).mem_iff,h]
def NJ{us:hZ}(h:us.Pairwise (λx y=>x.1<y.1)):(us.map (·.1)).Nodup:=by
 refine bO.mpr (h.imp λ{x y} lV z=>?_);have lV:x.1<y.1:=lV;have z:x.1=y.1:=z;omega
def JO{us:hZ}(h:us.Pairwise (λx y=>x.1<y.1)):YH us=us:=JV (NJ h) h λ_=>Iff.rfl
section
variable(c:CA){om:iN}{hb hm hu hl:Nat}{size:Int}{us:hZ}{kvs:iL}
def IB(h1:om[hb]?=some (Yv c hm hu))(h3:om[hu]?=some (.dk (ZH us)))(hn:us.length<64):ZU c [.o hb] om=some (.ok (.lst ((YH us).map prW)),om):=by
 have h2:(YH us).length=us.length:=(Z4 us).length_eq;have iQ:=ZQ;refine ZF (Zu ?_);unfold SN;refine(Zm (Yz (sl:=[some (.o hb)]) (i:=0) rfl h1 (Ug ..))).trans ?_;refine(Zm (a:=(YH us).map prW) (om1:=om) ?_).trans ?_
 ·simp[QM,h3,Pr,hn]
 ·unfold ZL
  rw[aC (by rw[aA];omega)];rfl
def L4(h2:om[hm]?=some (Y0 c size hl)){a:Int}(ha:0<=a∧a<size){sl:Sl}{i j:Nat}(s0:sl[i]?=some (some (.o hm)))(s1:sl[j]?=some (some (.int a))):Z9 (Zq c.Map "need_place" 2 (ZO c) (Za i) (Zc (Za j) Zj)) sl om=some (.ok (.nx,sl),om):=
 ZY ((Zz (Zb s0) (Zy h2) (X3 _ _ _ (by decide) (by decide)) (Ze (Zb s1) Zi) rfl).trans (Rh c h2 ha.1 ha.2))
def has_e{sl:Sl}{i j k:Nat}{x y:Int}(h2:om[hm]?=some (Y0 c size hl))(h3:om[hl]?=some (.dt kvs))(hi:sl[i]?=some (some (.int x)))(hj:sl[j]?=some (some (.int y)))(hk:sl[k]?=some (some (.o hm))):f2 (W9 false) (fA Y6 (Zc (Za i) (Zc (Za j) Zj))) (f1 (ZR c.Map "links") (Za k)) sl om=some (.ok (.bl (Ty kvs x y)),om):=by
 refine(Zs ((ZB (Ze (Zb hi) (Ze (Zb hj) Zi))).trans (Y5 (by simp))) (Yz hk h2 (Pn ..))).trans ?_;simp[W9,Wm,h3,W3,Y8,Ty,pk]
def HK(h2:om[hm]?=some (Y0 c size hl))(h3:om[hl]?=some (.dt kvs)){a b:Int}(ha:0<=a∧a<size)(hb:0<=b∧b<size):Ut c [.o hm,.int a,.int b] om=some (.ok (.bl (Ty kvs a b)),om):=by
 have n1:=L4 c (sl:=[some (.o hm),some (.int a),some (.int b)]) (i:=0) (j:=1) h2 ha rfl rfl;have n2:=L4 c (sl:=[some (.o hm),some (.int a),some (.int b)]) (i:=0) (j:=2) h2 hb rfl rfl;exact ZF ((Zh n1).trans ((Zh n2).trans (Zu (has_e c (i:=1) (j:=2) (k:=0) h2 h3 rfl rfl rfl))))
end
end MP
namespace MP
noncomputable section
open PySem L2
def TV(c:CA):FS:=
 (Zv (Xr c.Orders "board" (Za 1) (Za 0))
  (Xr c.Orders "given" (λ_=>newO (.dk [])) (Za 0)))
def Y3(c:CA):iJ->Mw Wv:=Ye 2 (TV c)
def PN(c:CA):FS:=
 (Zv (Z9 (Zq c.Board "need_unit" 2 (Yp c) (f1 (ZR c.Orders "board") (Za 0)) (Zc (Za 1) Zj)))
  (YW (fC (.g c.STAND)) (f1 (ZR c.Orders "given") (Za 0)) (Za 1)))
def Vi(c:CA):iJ->Mw Wv:=Ye 2 (PN c)
def X2(c:CA):FS:=
 (Z9 (Zq c.Map "need_place" 2 (ZO c) (f1 (ZR c.Board "chart") (f1 (ZR c.Orders "board") (Za 0))) (Zc (Za 3) Zj)))
def XZ(c:CA):FS:=
 (Z9 (Zq c.Board "need_unit" 2 (Yp c) (f1 (ZR c.Orders "board") (Za 0)) (Zc (Za 3) Zj)))
def SE(c:CA):FS:=
 (Zv (XQ (λsl=>bnd ((Za 1) sl) ZN) (tgN 3) (X2 c))
  (XQ (λsl=>bnd ((Za 2) sl) ZN) (tgN 3) (XZ c)))
def YJ(c:CA):iJ->Mw Wv:=Ye 4 (SE c)
def UY(c:CA):FS:=
 (sIf (Lw (Xj (Zq c.Map "beside" 3 (Ut c) (f1 (ZR c.Board "chart") (f1 (ZR c.Orders "board") (Za 0))) (Zc (Za 1) (Zc (Za 2) Zj))))) (Up c.OutOfReach (N7 (Za 2) (N7 (Za 1) L0))) Yo)
def ZZ(c:CA):iJ->Mw Wv:=Ye 3 (UY c)
def Oz(c:CA):FS:=
 (Zv (Z9 (Zq c.Orders "need_all" 3 (YJ c) (Za 0) (Zc (fA ZL (Zc (Za 1) (Zc (Za 2) Zj))) (Zc (fA ZL (Zc (Za 1) Zj)) Zj))))
  (Zv (Z9 (Zq c.Orders "need_beside" 3 (ZZ c) (Za 0) (Zc (Za 1) (Zc (Za 2) Zj))))
  (YW (fA Y6 (Zc (fC (.str "move")) (Zc (Za 2) Zj))) (f1 (ZR c.Orders "given") (Za 0)) (Za 1))))
def Ws(c:CA):iJ->Mw Wv:=Ye 3 (Oz c)
def NI(c:CA):FS:=
 (Zv (Z9 (Zq c.Orders "need_all" 3 (YJ c) (Za 0) (Zc (fA ZL (Zc (Za 1) (Zc (Za 2) (Zc (Za 3) Zj)))) (Zc (fA ZL (Zc (Za 1) (Zc (Za 2) Zj))) Zj))))
  (Zv (sIf (fB (f2 kEq (Za 2) (Za 1))) (Up c.OutOfReach (N7 (Za 1) L0)) Yo)
  (Zv (Z9 (Zq c.Orders "need_beside" 3 (ZZ c) (Za 0) (Zc (Za 1) (Zc (Za 3) Zj))))
  (Zv (sIf (fB (f2 kNe (Za 3) (Za 2))) (Z9 (Zq c.Orders "need_beside" 3 (ZZ c) (Za 0) (Zc (Za 2) (Zc (Za 3) Zj)))) Yo)
  (YW (fA Y6 (Zc (fC (.str "help")) (Zc (Za 2) (Zc (Za 3) Zj)))) (f1 (ZR c.Orders "given") (Za 0)) (Za 1))))))
def WR(c:CA):iJ->Mw Wv:=Ye 4 (NI c)
def Ow(c:CA):FS:=
 (Zv (Z9 (Zq c.Board "need_unit" 2 (Yp c) (f1 (ZR c.Orders "board") (Za 0)) (Zc (Za 1) Zj)))
  (Z8 (Pk (f1 (ZR c.Orders "given") (Za 0)) (Za 1) (fC (.g c.STAND)))))
def YC(c:CA):iJ->Mw Wv:=Ye 2 (Ow c)
def RJ(c:CA):FS:=
 (Zv (ZD 2 (Pk (f1 (ZR c.Orders "given") (Za 0)) (Za 1) (fC (.g c.STAND))))
  (Zv (sIf (fB (f2 kEq (f2 (VP c.STAND) (Za 2) (fC (.int 0))) (fC (.str "move")))) (Z8 (f2 (VP c.STAND) (Za 2) (fC (.int 1)))) Yo)
  (Z8 (fC .non))))
def Zn(c:CA):iJ->Mw Wv:=Ye 3 (RJ c)
def Rx(c:CA):FT:=
 (fB (f1 Wh (Zq c.Orders "goal_of" 2 (Zn c) (Za 1) (Zc (Za 0) Zj))))
def RT(c:CA):FE:=
 (Za 0)
def Qv(c:CA):FS:=
 (Z8 (fA (Xg ZL) (Zc (Vg ZL [0] (f1 (ZR c.Orders "given") (Za 0)) (Rx c) (RT c)) Zj)))
def ZS(c:CA):iJ->Mw Wv:=Ye 1 (Qv c)
def S6(c:CA):FT:=
 (fB (f1 Wh (Zq c.Orders "goal_of" 2 (Zn c) (Za 1) (Zc (Za 0) Zj))))
def Rg(c:CA):FE:=
 (Za 0)
def RC(c:CA):FS:=
 (Z8 (fA (Xg X6) (Zc (Vg ZL [0] (f1 (ZR c.Orders "given") (Za 0)) (S6 c) (Rg c)) Zj)))
def Rk(c:CA):iJ->Mw Wv:=Ye 1 (RC c)
def UE(c:CA):FE:=
 (fA (kN 4 (YX c)) (Zc (fA (kN 2 (Zr c)) (Zc (Za 1) (Zc (f2 Wz (fC (.int 10)) (Za 0)) Zj))) (Zc (Za 0) (Zc (Za 2) (Zc (Za 3) Zj)))))
def Pc(c:CA):FS:=
 (Z8 (Z5 X6 [0,1,2] (λsl=>bnd ((fA WV (Zc (Za 2) Zj)) sl) Yw) Xh (UE c)))
def Wc(c:CA):iJ->Mw Wv:=Ye 3 (Pc c)
def Lu(c:CA):FS:=
 (Zv (ZD 4 (f2 kIx (Za 2) (Za 3)))
  (Zv (sIf (fB (f1 Uc (Za 4))) B7 Yo)
  (sIf (fB (f2 kEq (f2 kIx (Za 4) (fC (.int 0))) (fC (.str "stand")))) (Z9 (Zq c.Orders "stand" 2 (Vi c) (Za 0) (Zc (f2 Wz (Za 1) (Za 3)) Zj))) (sIf (fB (f2 kEq (f2 kIx (Za 4) (fC (.int 0))) (fC (.str "move")))) (Z9 (Zq c.Orders "move" 3 (Ws c) (Za 0) (Zc (f2 Wz (Za 1) (Za 3)) (Zc (f2 Wz (Za 1) (f2 kIx (Za 4) (fC (.int 1)))) Zj)))) (Z9 (Zq c.Orders "aid" 4 (WR c) (Za 0) (Zc (f2 Wz (Za 1) (Za 3)) (Zc (f2 Wz (Za 1) (f2 kIx (Za 4) (fC (.int 1)))) (Zc (f2 Wz (Za 1) (f2 kIx (Za 4) (fC (.int 2)))) Zj)))))))))
def Vt(c:CA):iJ->Mw Wv:=Ye 5 (Lu c)
def TB(c:CA):FS:=
 (Z9 (fA (kN 4 (Vt c)) (Zc (Za 4) (Zc (f2 kIx (Za 0) (fC (.int 1))) (Zc (Za 3) (Zc (Za 5) Zj))))))
def NV(c:CA):FS:=
 (Zv (ZD 4 (fA (Y2 c.Orders 2 (Y3 c)) (Zc (fA (kN 3 (WQ c)) (Zc (Za 0) (Zc (Za 1) (Zc (Za 2) Zj)))) Zj)))
  (Zv (XQ (λsl=>bnd ((f2 kIx (Za 0) (fC (.int 0))) sl) Yw) (tgN 5) (TB c))
  (Z8 (Za 4))))
def X8(c:CA):iJ->Mw Wv:=Ye 6 (NV c)
end
open PySem L2
abbrev ZM(c:CA)(hb hg:Nat):Ob:=.ins c.Orders [("board",.o hb),("given",.o hg)]
def CB(hb hg:Nat):List.lookup (Str.ofString "board") [(Str.ofString "board",Wv.o hb),(Str.ofString "given",Wv.o hg)]=some (.o hb):=by simp[aN,YZ]
def QO(hb hg:Nat):List.lookup (Str.ofString "given") [(Str.ofString "board",Wv.o hb),(Str.ofString "given",Wv.o hg)]=some (.o hg):=by simp[aN,YZ]
def ZV(m:String)(hb hg:Nat)(h1:m≠"board")(h2:m≠"given"):List.lookup (Str.ofString m) [(Str.ofString "board",Wv.o hb),(Str.ofString "given",Wv.o hg)]=none:=by simp[aN,YZ,h1,h2]
def odG(c:CA)(off:Nat):Od->Wv
 |.stand=>.g c.STAND
 |.move g=>.tup [.str "move",.int ((off:Int)+g)]
 |.help h g=>.tup [.str "help",.int ((off:Int)+h),.int ((off:Int)+g)]
abbrev Gs:=List (Nat × Od)
def Yl(c:CA)(off:Nat)(gs:Gs):iM:=gs.map λp=>(.inl ((off:Int)+p.1),odG c off p.2)
def Ss(gs:Gs)(k:Nat)(o:Od):Gs:=if (gs.any λp=>decide (p.1=k))=true then gs.map (λp=>if p.1=k then (p.1,o) else p) else gs++[(k,o)]
def B1{off a k:Nat}(h:a≠k):(Sum.inl ((off:Int)+a):Key)≠Sum.inl ((off:Int)+k):=λz=>h (by have:=gc z;omega)
def MY(off a k:Nat):decide ((Sum.inl ((off:Int)+a):Key)=Sum.inl ((off:Int)+k))=decide (a=k):=by
 by_cases h:a=k
 ·subst h;simp
 ·rw[aL h,aL (B1 h)]
def Ts(c:CA)(off:Nat)(gs:Gs)(k:Nat):V9 (Yl c off gs) (.inl ((off:Int)+k))=(gs.lookup k).map (odG c off):=by
 induction gs with
 |nil=>rfl
 |cons p gs ih=>
  obtain⟨j,o⟩:=p;unfold V9 Yl at ih ⊢;rw[aU,cB,aN];dsimp only;rw[MY];by_cases h:j=k
  ·subst h;simp
  ·rw[aL h,aY.mpr (cI h)]
   exact ih
def Bt(c:CA)(off:Nat)(gs:Gs)(k:Nat)(o:Od):WP (Yl c off gs) (.inl ((off:Int)+k)) (odG c off o)=Yl c off (Ss gs k o):=by
 unfold WP Ss Yl
 have e:((gs.map λp=>((Sum.inl ((off:Int)+p.1):Key),odG c off p.2)).any λkv=>decide (kv.1=Sum.inl ((off:Int)+k)))=gs.any λp=>decide (p.1=k):=by
  rw[List.any_map];refine cE (List.any gs) (funext λp=>?_);exact MY off p.1 k
 rw[e];by_cases h:(gs.any λp=>decide (p.1=k))=true
 ·rw[aC h,aC h,aS,aS]
  refine cq λp _=>?_
  show(if (Sum.inl ((off:Int)+p.1):Key)=Sum.inl ((off:Int)+k) then (Sum.inl ((off:Int)+p.1),odG c off o) else (Sum.inl ((off:Int)+p.1),odG c off p.2))=((Sum.inl ((off:Int)+(if p.1=k then (p.1,o) else p).1):Key),odG c off (if p.1=k then (p.1,o) else p).2);by_cases hp:p.1=k
  ·rw[aC (by rw[hp]),aC hp]
  ·rw[aE (B1 hp),aE hp]
 ·rw[aE h,aE h,cu]
  rfl
def Lr(gs:Gs)(k:Nat):(gs.any λp=>decide (p.1=k))=(gs.lookup k).isSome:=by
 induction gs with
 |nil=>rfl
 |cons p gs ih=>
  obtain⟨j,o⟩:=p;rw[dB,aN];dsimp only;by_cases h:j=k
  ·subst h;simp
  ·rw[aL h,aY.mpr (cI h),fI]
   exact ih
def Gy(gs:Gs)(k j:Nat)(o:Od):(gs.map λp=>if p.1=k then (p.1,o) else p).lookup j=if j=k then (gs.lookup j).map (λ_=>o) else gs.lookup j:=by
 induction gs with
 |nil=>simp
 |cons p gs ih=>
  obtain⟨i,q⟩:=p;rw[aU];dsimp only;by_cases h:i=k
  ·rw[aC h,aN,aN]
   by_cases hj:j=i
   ·subst hj;subst h;simp
   ·rw[aY.mpr hj]
    exact ih
  ·rw[aE h,aN,aN]
   by_cases hj:j=i
   ·subst hj;simp[h]
   ·rw[aY.mpr hj]
    exact ih
def OV(gs:Gs)(k j:Nat)(o:Od):(Ss gs k o).lookup j=if j=k then some o else gs.lookup j:=by
 unfold Ss;by_cases h:(gs.any λp=>decide (p.1=k))=true
 ·rw[aC h,Gy]
  by_cases hj:j=k
  ·subst hj
   rw[aC rfl,aC rfl];rw[Lr]at h;obtain⟨x,hx⟩:=bE.mp h;rw[hx];rfl
  ·rw[aE hj,aE hj]
 ·rw[aE h,List.lookup_append]
  rw[Lr]at h;by_cases hj:j=k
  ·subst hj
   rw[aC rfl,Option.not_isSome_iff_eq_none.mp h];simp
  ·rw[aE hj,aN,aY.mpr hj]
   simp
def JQ{gs:Gs}(h:(gs.map (·.1)).Nodup)(k:Nat)(o:Od):((Ss gs k o).map (·.1)).Nodup:=by
 unfold Ss;by_cases ha:(gs.any λp=>decide (p.1=k))=true
 ·rw[aC ha,aS]
  have e:(gs.map ((·.1) ∘ λp=>if p.1=k then (p.1,o) else p))=gs.map (·.1):=cq λp _=>by
   show(if p.1=k then (p.1,o) else p).1=p.1;by_cases hp:p.1=k
   ·rw[aC hp]
   ·rw[aE hp]
  rw[e];exact h
 ·rw[aE ha,cu,cH]
  refine⟨h,by simp,λa n6 b hb z=>ha ?_⟩;have hb:b=k:=by simpa using hb
  obtain⟨p,hp,rfl⟩:=aZ.mp n6;exact cX.mpr ⟨p,hp,bL (z.trans hb)⟩
structure Tell(gs:Gs)(T:Nat->Option Od):Prop where
 nd:(gs.map (·.1)).Nodup
 get:∀k o,T k=some o->(gs.lookup k).getD .stand=o
 key:∀k o,gs.lookup k=some o->T k=some o
def Tell.put{gs:Gs}{T:Nat->Option Od}(h:Tell gs T)(k:Nat)(o:Od):Tell (Ss gs k o) (λj=>if j=k then some o else T j):=by
 refine⟨JQ h.nd k o,λj q e=>?_,λj q e=>?_⟩
 ·rw[OV]
  by_cases hj:j=k
  ·rw[aC hj]at e ⊢;cases e;rfl
  ·rw[aE hj]at e ⊢;exact h.get j q e
 ·rw[OV]at e
  by_cases hj:j=k
  ·rw[aC hj]at e;cases e;show(if j=k then some o else T j)=some o;rw[aC hj]
  ·rw[aE hj]at e;show(if j=k then some o else T j)=some q;rw[aE hj];exact h.key j q e
def Tell.start0{T:Nat->Option Od}(h:∀k o,T k=some o->o=.stand):Tell [] T:=⟨by simp,λk o e=>(h k o e).symm,λk o e=>by cases e⟩
def Qc{k:Nat}{o:Od}:∀{gs:Gs},gs.lookup k=some o->(k,o)∈gs
 |[],e=>by cases e
 |(j,q)::gs,e=>by
  rw[aN]at e;cases hb:(k == j) with
  |true=>rw[hb]at e;cases e;rw[eq_of_beq hb];exact .head _
  |false=>rw[hb]at e;exact .tail _ (Qc e)
def Vu{k:Nat}{o:Od}:∀{gs:Gs},(gs.map (·.1)).Nodup->(k,o)∈gs->gs.lookup k=some o
 |[],_,e=>nomatch e
 |(j,q)::gs,nd,e=>by
  rw[aN];rw[aU,cL]at nd;rcases aR.mp e with e|e
  ·cases e;simp
  ·have jh:k≠j:=λz=>nd.1 (aZ.mpr ⟨(k,o),e,z⟩)
   rw[aY.mpr jh];exact Vu nd.2 e
def Tu{k s:Int}:∀{us:hZ},us.lookup k=some s->(k,s)∈us
 |[],e=>by cases e
 |(j,q)::us,e=>by
  rw[aN]at e;cases hb:(k == j) with
  |true=>rw[hb]at e;cases e;rw[eq_of_beq hb];exact .head _
  |false=>rw[hb]at e;exact .tail _ (Tu e)
def Ua{k s:Int}:∀{us:hZ},(us.map (·.1)).Nodup->(k,s)∈us->us.lookup k=some s
 |[],_,e=>nomatch e
 |(j,q)::us,nd,e=>by
  rw[aN];rw[aU,cL]at nd;rcases aR.mp e with e|e
  ·cases e;simp
  ·have jh:k≠j:=λz=>nd.1 (aZ.mpr ⟨(k,s),e,z⟩)
   rw[aY.mpr jh];exact Ua nd.2 e
def K8{us vs:hZ}(p:us.Perm vs)(nd:(vs.map (·.1)).Nodup)(k:Int):us.lookup k=vs.lookup k:=by
 have nd2:(us.map (·.1)).Nodup:=(p.map (·.1)).nodup_iff.mpr nd;cases h:vs.lookup k with
 |some s=>exact Ua nd2 (p.mem_iff.mpr (Tu h))
 |none=>
  cases h2:us.lookup k with
  |none=>rfl
  |some s=>have:=Ua nd (p.mem_iff.mp (Tu h2));rw[h]at this;cases this
def Gd(off:Nat)(f:hY)(n:Nat):((Yc off f n).map (·.1)).Nodup:=bO.mpr ((Qs off f n).imp λh=>Int.ne_of_lt h)
structure Wd(c:CA)(om:iN)(hb hm hu hl size off:Nat)(f:hY)(kvs:iL):Prop where
 b:om[hb]?=some (Yv c hm hu)
 m:om[hm]?=some (Y0 c size hl)
 u:∃us:hZ,om[hu]?=some (.dk (ZH us))∧us.Perm (Yc off f f.length)
 l:om[hl]?=some (.dt kvs)
 fit:off+f.length<=size
 few:size<=60
def VZ{α:Type}{l:List (Option α)}{k:Nat}{x:α}(h:at' l k=some x):k<l.length:=by
 by_cases hk:k<l.length
 ·exact hk
 ·rw[WN hk]at h;cases h
section
variable{c:CA}{om:iN}{ho hb hm hu hl hg size off:Nat}{f:hY}{kvs:iL}{gs:Gs}
def Wd.set(W:Wd c om hb hm hu hl size off f kvs){kv:iM}{x:Ob}(h:om[hg]?=some (.dk kv))(hn:hg≠hu):Wd c (om.set hg x) hb hm hu hl size off f kvs:=by
 have nb:hg≠hb:=λz=>by subst z;rw[W.b]at h;cases h
 have nm:hg≠hm:=λz=>by subst z;rw[W.m]at h;cases h
 have nl:hg≠hl:=λz=>by subst z;rw[W.l]at h;cases h
 exact⟨by rw[bN nb];exact W.b,by rw[bN nm];exact W.m,(let ⟨us,e,p⟩:=W.u;⟨us,by rw[bN hn];exact e,p⟩),by rw[bN nl];exact W.l,W.fit,W.few⟩
def Wd.grow(W:Wd c om hb hm hu hl size off f kvs)(l:iN):Wd c (om++l) hb hm hu hl size off f kvs:=by
 have g:∀{h:Nat} {x:Ob},om[h]?=some x->(om++l)[h]?=some x:=λe=>by rw[aQ (aH.mp e).1];exact e
 exact⟨g W.b,g W.m,(let ⟨us,e,p⟩:=W.u;⟨us,g e,p⟩),g W.l,W.fit,W.few⟩
def Wd.look(W:Wd c om hb hm hu hl size off f kvs)(k:Nat):(Yc off f f.length).lookup ((off:Int)+k)=at' f k:=by
 rw[RF];by_cases h:k<f.length
 ·rw[aC (by omega),show((off:Int)+k-off).toNat=k by omega]
 ·rw[aE (by omega),WN h]
def Wd.inn(W:Wd c om hb hm hu hl size off f kvs){k:Nat}(h:k<f.length):0<=(off:Int)+k∧(off:Int)+k<(size:Nat):=by
 have:=W.fit;omega
def Mo(W:Wd c om hb hm hu hl size off f kvs){k:Nat}(h:k<f.length):ZP c [.o hb,.int ((off:Int)+k)] om=some (.ok (ZA (at' f k)),om):=by
 obtain⟨us,e,p⟩:=W.u;rw[CZ c W.b W.m e (W.inn h),K8 p (Gd off f f.length),W.look]
def Jo(W:Wd c om hb hm hu hl size off f kvs){k:Nat}{s:Int}(h:at' f k=some s):Yp c [.o hb,.int ((off:Int)+k)] om=some (.ok .non,om):=by
 have e:fB (f1 Uc (Zq c.Board "side_at" 2 (ZP c) (Za 0) (Zc (Za 1) Zj))) [some (.o hb),some (.int ((off:Int)+k))] om=some (.ok false,om):=by
  refine ZW ((Wa ((Zz (Zb rfl) (Zy W.b) (Yi _ _ _ (by decide) (by decide)) (Ze (Zb rfl) Zi) rfl).trans (Mo W (VZ h)))).trans ((Oj _ _).trans ?_));rw[h];rfl
 exact Vb (ZK e)
structure Os(c:CA)(om:iN)(ho hb hg off:Nat)(gs:Gs):Prop where
 o:om[ho]?=some (ZM c hb hg)
 g:om[hg]?=some (.dk (Yl c off gs))
def K3(c:CA)(off:Nat)(gs:Gs):(Yl c off gs).length=gs.length:=by simp[Yl]
def Os.grow(S:Os c om ho hb hg off gs)(l:iN):Os c (om++l) ho hb hg off gs:=by
 have g:∀{h:Nat} {x:Ob},om[h]?=some x->(om++l)[h]?=some x:=λe=>by rw[aQ (aH.mp e).1];exact e
 exact⟨g S.o,g S.g⟩
def G7(S:Os c om ho hb hg off gs){k:Nat}{o:Od}{sl:Sl}{fv:FE}{i j:Nat}(hv:fv sl om=some (.ok (odG c off o),om))(hi:sl[i]?=some (some (.o ho)))(hj:sl[j]?=some (some (.int ((off:Int)+k))))(hl:gs.length<100):YW fv (f1 (ZR c.Orders "given") (Za i)) (Za j) sl om=some (.ok (.nx,sl),om.set hg (.dk (Yl c off (Ss gs k o)))):=by
 have iQ:=ZQ;unfold YW;rw[Zm hv,Zm (Yz hi S.o (QO ..)),Zm (Zb hj)];refine(Zm (a:=()) (om1:=om.set hg (.dk (Yl c off (Ss gs k o)))) ?_).trans rfl;have h1:(Yl c off gs).length<lim:=by rw[K3];omega
 simp[Q9,OK,S.g,Y8,h1,Bt]
def WF(S:Os c om ho hb hg off gs){sl:Sl}{i:Nat}(hi:sl[i]?=some (some (.o ho))):f1 (ZR c.Orders "board") (Za i) sl om=some (.ok (.o hb),om):=Yz hi S.o (CB ..)
def EK(W:Wd c om hb hm hu hl size off f kvs)(S:Os c om ho hb hg off gs){k:Nat}{s:Int}(h:at' f k=some s)(hl:gs.length<100):Vi c [.o ho,.int ((off:Int)+k)] om=some (.ok .non,om.set hg (.dk (Yl c off (Ss gs k .stand)))):=by
 have e1:Z9 (Zq c.Board "need_unit" 2 (Yp c) (f1 (ZR c.Orders "board") (Za 0)) (Zc (Za 1) Zj)) [some (.o ho),some (.int ((off:Int)+k))] om=some (.ok (.nx,[some (.o ho),some (.int ((off:Int)+k))]),om):=
  ZY ((Zz (WF S rfl) (Zy W.b) (Yi _ _ _ (by decide) (by decide)) (Ze (Zb rfl) Zi) rfl).trans (Jo W h))
 exact Vb ((Zh e1).trans (G7 S (o:=.stand) Zp rfl rfl hl))
def Ck(W:Wd c om hb hm hu hl size off f kvs)(S:Os c om ho hb hg off gs){k:Nat}{s:Int}(h:at' f k=some s):YC c [.o ho,.int ((off:Int)+k)] om=some (.ok (odG c off ((gs.lookup k).getD .stand)),om):=by
 have e1:Z9 (Zq c.Board "need_unit" 2 (Yp c) (f1 (ZR c.Orders "board") (Za 0)) (Zc (Za 1) Zj)) [some (.o ho),some (.int ((off:Int)+k))] om=some (.ok (.nx,[some (.o ho),some (.int ((off:Int)+k))]),om):=
  ZY ((Zz (WF S rfl) (Zy W.b) (Yi _ _ _ (by decide) (by decide)) (Ze (Zb rfl) Zi) rfl).trans (Jo W h))
 have e2:Pk (f1 (ZR c.Orders "given") (Za 0)) (Za 1) (fC (.g c.STAND)) [some (.o ho),some (.int ((off:Int)+k))] om=some (.ok (odG c off ((gs.lookup k).getD .stand)),om):=by
  unfold Pk;rw[Zm (Yz rfl S.o (QO ..))];refine(Zm (a:=()) (om1:=om) (by simp[OH,isD,S.g])).trans ?_;rw[Zm (Zb rfl),Zm Zp];cases hq:gs.lookup k with
  |none=>simp[R0,Wm,S.g,Y8,Ts,hq,odG]
  |some o=>simp[R0,Wm,S.g,Y8,Ts,hq]
 exact ZF ((Zh e1).trans (Zu e2))
def U9(off:Nat):Od->Wv
 |.move g=>.int ((off:Int)+g)
 |_=>.non
def KJ(i7:om[ho]?=some (ZM c hb hg))(hd:om[hg]?=some (.dk (Yl c off gs))∨om[hg]?=some (.dz (Yl c off gs)))(k:Nat):Zn c [.o ho,.int ((off:Int)+k)] om=some (.ok (U9 off ((gs.lookup k).getD .stand)),om):=by
 generalize kP:(gs.lookup k).getD .stand=o
 have e1:ZD 2 (Pk (f1 (ZR c.Orders "given") (Za 0)) (Za 1) (fC (.g c.STAND))) [some (.o ho),some (.int ((off:Int)+k)),none] om=some (.ok (.nx,[some (.o ho),some (.int ((off:Int)+k)),some (odG c off o)]),om):=by
  refine Zw (i:=2) (w:=odG c off o) ?_;unfold Pk;rw[Zm (Yz rfl i7 (QO ..))];rw[← kP];rcases hd with hd|hd
  ·refine(Zm (a:=()) (om1:=om) (by simp[OH,isD,hd])).trans ?_
   rw[Zm (Zb rfl),Zm Zp];cases hq:gs.lookup k with
   |none=>simp[R0,Wm,hd,Y8,Ts,hq,odG]
   |some o=>simp[R0,Wm,hd,Y8,Ts,hq]
  ·refine(Zm (a:=()) (om1:=om) (by simp[OH,isD,hd])).trans ?_
   rw[Zm (Zb rfl),Zm Zp];cases hq:gs.lookup k with
   |none=>simp[R0,Wm,hd,Y8,Ts,hq,odG]
   |some o=>simp[R0,Wm,hd,Y8,Ts,hq]
 have e2:fB (f2 kEq (f2 (VP c.STAND) (Za 2) (fC (.int 0))) (fC (.str "move"))) [some (.o ho),some (.int ((off:Int)+k)),some (odG c off o)] om=some (.ok (decide (odN o="move")),om):=by
  refine ZW ((Zs (x:=.str (odN o)) (om1:=om) ((Zs (Zb rfl) Zp).trans ?_) Zp).trans (Rt _ _ (Oc o) Th _));unfold VP;cases o with
  |stand=>rw[show odG c off .stand=.g c.STAND from rfl,GY];exact ZI (k:=0) rfl rfl
  |move g=>exact ZI (k:=0) rfl rfl
  |help h g=>exact ZI (k:=0) rfl rfl
 refine ZF (sl1:=[some (.o ho),some (.int ((off:Int)+k)),some (odG c off o)]) ((Zh e1).trans ?_);cases o with
 |stand=>exact(Zh (ZK e2)).trans (Zu Zp)
 |help h g=>exact(Zh (ZK e2)).trans (Zu Zp)
 |move g=>exact YA ((Yn e2).trans (Zu ((Zs (Zb rfl) Zp).trans (ZI (k:=1) rfl rfl))))
def Bi(S:Os c om ho hb hg off gs)(k:Nat):Zn c [.o ho,.int ((off:Int)+k)] om=some (.ok (U9 off ((gs.lookup k).getD .stand)),om):=KJ S.o (.inl S.g) k
end
def Pl{S:FS}{i:Nat}{om:iN}{sl:Sl}(hi:i<sl.length):∀{l:iJ} (x:Option Wv),(∀w∈l,S (sl.set i (some w)) om=some (.ok (.nx,sl.set i (some w)),om))->∃y,VE (tgN i) S l (sl.set i x) om=some (.ok (.nx,sl.set i y),om)
 |[],x,_=>⟨x,rfl⟩
 |w::l,x,h=>by
  obtain⟨y,e⟩:=Pl hi (l:=l) (some w) λu hu=>h u (.tail _ hu)
  refine⟨y,?_⟩;show(match tgN i w (sl.set i x) with|none=>Wg|some sl1=>bnd (S sl1) (QD λiT=>VE (tgN i) S l iT)) om=_;have e1:tgN i w (sl.set i x)=some (sl.set i (some w)):=by unfold tgN;rw[eS]
  rw[e1];dsimp only;rw[Zm (h w (.head _))];exact e
section
variable{c:CA}{om:iN}{ho hb hm hu hl hg size off:Nat}{f:hY}{kvs:iL}{gs:Gs}
def Qq(W:Wd c om hb hm hu hl size off f kvs)(S:Os c om ho hb hg off gs)(ps us:iD)(hp:∀k∈ps,k<f.length)(n8:∀k∈us,(at' f k).isSome=true):YJ c [.o ho,.lst (ps.map λ(k:Nat)=>.int ((off:Int)+k)),.lst (us.map λ(k:Nat)=>.int ((off:Int)+k))] om=some (.ok .non,om):=by
 generalize hA:Wv.lst (ps.map λ(k:Nat)=>.int ((off:Int)+k))=A;generalize hB:Wv.lst (us.map λ(k:Nat)=>.int ((off:Int)+k))=B
 obtain⟨y,e1⟩:=Pl (S:=X2 c) (i:=3) (om:=om) (sl:=[some (.o ho),some A,some B,none]) (by simp) (l:=ps.map λ(k:Nat)=>.int ((off:Int)+k)) none (λw hw=>by
  obtain⟨k,hk,rfl⟩:=aZ.mp hw;have hk:=W.inn (hp k hk);exact ZY ((Zz (NW (WF S rfl) W.b (UA ..)) (Zy W.m) (X3 _ _ _ (by decide) (by decide)) (Ze (Zb rfl) Zi) rfl).trans (Rh c W.m hk.1 hk.2)))
 obtain⟨z,e2⟩:=Pl (S:=XZ c) (i:=3) (om:=om) (sl:=[some (.o ho),some A,some B,y]) (by simp) (l:=us.map λ(k:Nat)=>.int ((off:Int)+k)) y (λw hw=>by
  obtain⟨k,hk,rfl⟩:=aZ.mp hw;obtain⟨s,hs⟩:=bE.mp (n8 k hk);exact ZY ((Zz (WF S rfl) (Zy W.b) (Yi _ _ _ (by decide) (by decide)) (Ze (Zb rfl) Zi) rfl).trans (Jo W hs)))
 have f1:XQ (λsl=>bnd ((Za 1) sl) ZN) (tgN 3) (X2 c) [some (.o ho),some A,some B,none] om=_:=YV (sl1:=[]) ((Zm (Zb rfl)).trans (by rw[← hA];rfl)) e1;have f2:XQ (λsl=>bnd ((Za 2) sl) ZN) (tgN 3) (XZ c) [some (.o ho),some A,some B,y] om=_:=YV (sl1:=[]) ((Zm (Zb rfl)).trans (by rw[← hB];rfl)) e2;exact Vb ((Zh f1).trans f2)
def Vl(W:Wd c om hb hm hu hl size off f kvs)(S:Os c om ho hb hg off gs){a b:Nat}(ha:a<f.length)(l9:b<f.length)(hk:Ty kvs ((off:Int)+a) ((off:Int)+b)=true):ZZ c [.o ho,.int ((off:Int)+a),.int ((off:Int)+b)] om=some (.ok .non,om):=by
 refine Vb (ZK (NP (b:=true) (XE ((Zz (NW (WF S rfl) W.b (UA ..)) (Zy W.m) (X3 _ _ _ (by decide) (by decide)) (Ze (Zb rfl) (Ze (Zb rfl) Zi)) rfl).trans ((HK c W.m W.l (W.inn ha) (W.inn l9)).trans ?_)))));rw[hk]
def Py{ws:iJ}{om:iN}(h:ws.length<=8):ZL ws om=some (.ok (.lst ws),om):=by
 have:=ZQ;unfold ZL;rw[aC (by omega)];rfl
def ID(W:Wd c om hb hm hu hl size off f kvs)(S:Os c om ho hb hg off gs){k g:Nat}{s:Int}(h:at' f k=some s)(jI:g<f.length)(hk:Ty kvs ((off:Int)+k) ((off:Int)+g)=true)(ip:gs.length<100):Ws c [.o ho,.int ((off:Int)+k),.int ((off:Int)+g)] om=some (.ok .non,om.set hg (.dk (Yl c off (Ss gs k (.move g))))):=by
 have e1:Z9 (Zq c.Orders "need_all" 3 (YJ c) (Za 0) (Zc (fA ZL (Zc (Za 1) (Zc (Za 2) Zj))) (Zc (fA ZL (Zc (Za 1) Zj)) Zj))) [some (.o ho),some (.int ((off:Int)+k)),some (.int ((off:Int)+g))] om=some (.ok (.nx,[some (.o ho),some (.int ((off:Int)+k)),some (.int ((off:Int)+g))]),om):=
  ZY ((Zz (Zb rfl) (Zy S.o) (ZV _ _ _ (by decide) (by decide)) (Ze ((ZB (Ze (Zb rfl) (Ze (Zb rfl) Zi))).trans (Py (by simp))) (Ze ((ZB (Ze (Zb rfl) Zi)).trans (Py (by simp))) Zi)) rfl).trans
   (Qq W S [k,g] [k] (by intro j hj;simp at hj;rcases hj with rfl|rfl;exact VZ h;exact jI) (by intro j hj;simp at hj;subst hj;rw[h];rfl)))
 have e2:Z9 (Zq c.Orders "need_beside" 3 (ZZ c) (Za 0) (Zc (Za 1) (Zc (Za 2) Zj))) [some (.o ho),some (.int ((off:Int)+k)),some (.int ((off:Int)+g))] om=some (.ok (.nx,[some (.o ho),some (.int ((off:Int)+k)),some (.int ((off:Int)+g))]),om):=
  ZY ((Zz (Zb rfl) (Zy S.o) (ZV _ _ _ (by decide) (by decide)) (Ze (Zb rfl) (Ze (Zb rfl) Zi)) rfl).trans (Vl W S (VZ h) jI hk))
 exact Vb ((Zh e1).trans ((Zh e2).trans (G7 S (o:=.move g) ((ZB (Ze Zp (Ze (Zb rfl) Zi))).trans (Y5 (by simp))) rfl rfl ip)))
def EB(W:Wd c om hb hm hu hl size off f kvs)(S:Os c om ho hb hg off gs){k h g:Nat}{s t:Int}(hs:at' f k=some s)(ht:at' f h=some t)(jI:g<f.length)(jh:h≠k)(hk:Ty kvs ((off:Int)+k) ((off:Int)+g)=true)(hh:h=g∨Ty kvs ((off:Int)+h) ((off:Int)+g)=true)(ip:gs.length<100):WR c [.o ho,.int ((off:Int)+k),.int ((off:Int)+h),.int ((off:Int)+g)] om=some (.ok .non,om.set hg (.dk (Yl c off (Ss gs k (.help h g))))):=by
 generalize jm:([some (.o ho),some (.int ((off:Int)+k)),some (.int ((off:Int)+h)),some (.int ((off:Int)+g))]:Sl)=sl;have s0:sl[0]?=some (some (.o ho)):=by rw[← jm];rfl
 have s1:sl[1]?=some (some (.int ((off:Int)+k))):=by rw[← jm];rfl
 have s2:sl[2]?=some (some (.int ((off:Int)+h))):=by rw[← jm];rfl
 have s3:sl[3]?=some (some (.int ((off:Int)+g))):=by rw[← jm];rfl
 have e1:Z9 (Zq c.Orders "need_all" 3 (YJ c) (Za 0) (Zc (fA ZL (Zc (Za 1) (Zc (Za 2) (Zc (Za 3) Zj)))) (Zc (fA ZL (Zc (Za 1) (Zc (Za 2) Zj))) Zj))) sl om=some (.ok (.nx,sl),om):=
  ZY ((Zz (Zb s0) (Zy S.o) (ZV _ _ _ (by decide) (by decide)) (Ze ((ZB (Ze (Zb s1) (Ze (Zb s2) (Ze (Zb s3) Zi)))).trans (Py (by simp))) (Ze ((ZB (Ze (Zb s1) (Ze (Zb s2) Zi))).trans (Py (by simp))) Zi)) rfl).trans
   (Qq W S [k,h,g] [k,h] (by intro j hj;simp at hj;rcases hj with rfl|rfl|rfl;exact VZ hs;exact VZ ht;exact jI) (by intro j hj;simp at hj;rcases hj with rfl|rfl;rw[hs];rfl;rw[ht];rfl)))
 have e2:fB (f2 kEq (Za 2) (Za 1)) sl om=some (.ok false,om):=ZW ((v2 s2 s1).trans ((WI _ _ _).trans (by rw[aL (by omega)])))
 have e3:Z9 (Zq c.Orders "need_beside" 3 (ZZ c) (Za 0) (Zc (Za 1) (Zc (Za 3) Zj))) sl om=some (.ok (.nx,sl),om):=
  ZY ((Zz (Zb s0) (Zy S.o) (ZV _ _ _ (by decide) (by decide)) (Ze (Zb s1) (Ze (Zb s3) Zi)) rfl).trans (Vl W S (VZ hs) jI hk))
 have e4:sIf (fB (f2 kNe (Za 3) (Za 2))) (Z9 (Zq c.Orders "need_beside" 3 (ZZ c) (Za 0) (Zc (Za 2) (Zc (Za 3) Zj)))) Yo sl om=some (.ok (.nx,sl),om):=by
  have t:fB (f2 kNe (Za 3) (Za 2)) sl om=some (.ok (!decide ((off:Int)+g=(off:Int)+h)),om):=ZW ((v2 s3 s2).trans (RO _ _ _));by_cases hq:h=g
  ·rw[bL (by omega)]at t
   exact ZK t
  ·rw[aL (by omega)]at t
   refine(Yn t).trans (ZY ((Zz (Zb s0) (Zy S.o) (ZV _ _ _ (by decide) (by decide)) (Ze (Zb s2) (Ze (Zb s3) Zi)) rfl).trans (Vl W S (VZ ht) jI (hh.resolve_left hq))))
 refine Vb (sl1:=sl) ?_;show _=_;have st:Vd 4 [.o ho,.int ((off:Int)+k),.int ((off:Int)+h),.int ((off:Int)+g)]=sl:=by rw[← jm];rfl
 rw[st];exact(Zh e1).trans ((Zh (ZK e2)).trans ((Zh e3).trans ((Zh e4).trans (G7 S (o:=.help h g) ((ZB (Ze Zp (Ze (Zb s2) (Ze (Zb s3) Zi)))).trans (Y5 (by simp))) s0 s1 ip))))
def mvG(gs:Gs)(k:Nat):Bool:=Xz (some ((gs.lookup k).getD .stand))
def Uz:∀{l m:iC},l.Pairwise (· < ·)->m.Pairwise (· < ·)->(∀p,p∈l ↔ p∈m)->l=m
 |[],[],_,_,_=>rfl
 |[],y::m,_,_,h=>absurd ((h y).mpr (.head _)) (by simp)
 |x::l,[],_,_,h=>absurd ((h x).mp (.head _)) (by simp)
 |x::l,y::m,h1,h2,h=>by
  have jz:=bJ.mp h1;have ji:=bJ.mp h2
  have e:x=y:=by
   rcases aR.mp ((h x).mp (.head _)) with hx|hx
   ·exact hx
   ·rcases aR.mp ((h y).mpr (.head _)) with hy|hy
    ·exact hy.symm
    ·have a:=jz.1 y hy
     have b:=ji.1 x hx;omega
  subst e;rw[Uz jz.2 ji.2 λp=>⟨λhp=>?_,λhp=>?_⟩]
  ·rcases aR.mp ((h p).mp (.tail _ hp)) with z|z
   ·have:=jz.1 p hp;omega
   ·exact z
  ·rcases aR.mp ((h p).mpr (.tail _ hp)) with z|z
   ·have:=ji.1 p hp;omega
   ·exact z
def WK{l:iC}(nd:l.Nodup):(Xi l).Pairwise (· < ·):=by
 have hn:(Xi l).Nodup:=(Yh l).nodup_iff.mpr nd
 exact((W0 l).and hn).imp λ{x y} h=>by
  have:=h.1;have:=h.2;omega
def Ww(off:Nat)(T:Nat->Option Od)(n:Nat):iC:=((List.range n).filter λk=>Xz (T k)).map λ(k:Nat)=>(off:Int)+k
def Q1(off:Nat)(T:Nat->Option Od)(n:Nat):(Ww off T n).Pairwise (· < ·):=by
 unfold Ww;refine bO.mpr ((List.Pairwise.filter _ eC).imp λ{a b} h=>?_);show(off:Int)+a<off+b;omega
def Ln{gs:Gs}{T:Nat->Option Od}(h:Tell gs T)(off n:Nat)(hn:∀k o,T k=some o->k<n):Xi ((gs.filter λp=>Xz (some p.2)).map λp=>(off:Int)+p.1)=Ww off T n:=by
 refine Uz (WK ?_) (Q1 off T n) λp=>?_
 ·have nd:((gs.filter λp=>Xz (some p.2)).map (·.1)).Nodup:=h.nd.sublist (List.Sublist.map _ (bY ..))
  refine bO.mpr ((bO.mp nd).imp λ{a b} jD z=>jD ?_);have z:(off:Int)+a.1=off+b.1:=z;omega
 ·rw[(Yh _).mem_iff]
  unfold Ww;constructor
  ·intro hp
   obtain⟨q,hq,rfl⟩:=aZ.mp hp;obtain⟨n9,lD⟩:=aG.mp hq;have hk:=h.key q.1 q.2 (Vu h.nd n9);exact aZ.mpr ⟨q.1,aG.mpr ⟨aX.mpr (hn _ _ hk),by rw[hk];exact lD⟩,rfl⟩
  ·intro hp
   obtain⟨k,hk,rfl⟩:=aZ.mp hp;obtain⟨_,jP⟩:=aG.mp hk
   match hT:T k with
   |none=>rw[hT]at jP;cases jP
   |some o=>
    rw[hT]at jP;have hg:=h.get k o hT;cases hl:gs.lookup k with
    |none=>
     rw[hl]at hg;have hg:Od.stand=o:=hg;subst hg;cases jP
    |some q=>
     rw[hl]at hg;have hg:q=o:=hg;subst hg;exact aZ.mpr ⟨(k,q),aG.mpr ⟨Qc hl,jP⟩,rfl⟩
def Uo:∀ns:iC,Y4 (ns.map Wv.int)=some ns
 |[]=>rfl
 |n::r=>by
  show(match Y4 (r.map Wv.int) with|some is=>some (n::is)|none=>none)=_;rw[Uo r]
def KD(off:Nat)(o:Od)(om:iN):Wh (U9 off o) om=some (.ok (.bl (Xz (some o))),om):=by
 cases o <;> rfl
def Ip(c:CA)(off:Nat)(gs:Gs):((Yl c off gs).map λp=>Sx p.1)=(gs.map λp=>(off:Int)+p.1).map Wv.int:=by
 unfold Yl;rw[aS,aS];rfl
def Qb{k:iJ->Mw Wv}{cT:FT}{fE:FE}(oa:∀ij (w:Wv),∀j:Nat,w=.int ((off:Int)+j)->ij[ho]?=some (ZM c hb hg)->ij[hg]?=some (.dz (Yl c off gs))->cT [some w,some (.o ho)] ij=some (.ok (mvG gs j),ij))(oe:∀w ij,fE [some w,some (.o ho)] ij=some (.ok w,ij))(S:Os c om ho hb hg off gs)(nd:(gs.map (·.1)).Nodup)(ip:gs.length<100):Vg k [0] (f1 (ZR c.Orders "given") (Za 0)) cT fE [some (.o ho)] om=k (((gs.filter λp=>Xz (some p.2)).map λp=>(off:Int)+p.1).map Wv.int) om:=by
 have iQ:=ZQ;have nb:hg≠ho:=λz=>by have h:=S.g;subst z;rw[S.o]at h;cases h
 have iW:hg<om.length:=(aH.mp S.g).1;have a1:(om.set hg (.dz (Yl c off gs)))[ho]?=some (ZM c hb hg):=by rw[bN nb];exact S.o
 have a2:(om.set hg (.dz (Yl c off gs)))[hg]?=some (.dz (Yl c off gs)):=by rw[bV iW]
 unfold Vg;rw[Zm (Yz rfl S.o (QO ..))];refine(Zm (a:=(true,hg,(Yl c off gs).map λp=>Sx p.1)) (om1:=om.set hg (.dz (Yl c off gs))) ?_).trans ?_
 ·have h1:(Yl c off gs).length<=lim:=by rw[K3];omega
  simp[JG,S.g,h1]
 dsimp only;have pj:∀j:Nat,((off:Int)+j-off).toNat=j:=λj=>by omega
 have e:=T3 (c:=cT) (f:=fE) (mk:=λw=>Xd [0] w [some (.o ho)]) (om:=om.set hg (.dz (Yl c off gs))) (λw=>match w with|.int i=>mvG gs (i-off).toNat|_=>false) (λw=>w) (l:=(Yl c off gs).map λp=>Sx p.1)
  (λw hw=>by
   rw[Ip]at hw;obtain⟨i,hi,rfl⟩:=aZ.mp hw;obtain⟨p,hp,rfl⟩:=aZ.mp hi;show cT [some (.int ((off:Int)+p.1)),some (.o ho)] _=some (.ok (mvG gs ((off:Int)+p.1-off).toNat),_);rw[pj];exact oa _ _ p.1 rfl a1 a2) (λw hw _=>oe w _)
 rw[Zm e];refine(Zm (a:=()) (om1:=om) ?_).trans ?_
 ·have:(om.set hg (.dz (Yl c off gs))).set hg (.dk (Yl c off gs))=om:=by
   rw[eS]
   exact db λi=>by
    by_cases h:hg=i
    ·subst h;rw[bV iW,S.g]
    ·rw[bN h]
  simp only[Jj,a2,this,if_true]
 ·refine cE (λl=>k l om) ?_
  rw[List.map_id',Ip,aS];clear e a1 a2 iW nb
  have key:∀l:Gs,(∀p∈l,gs.lookup p.1=some p.2)->(l.map (Wv.int ∘ λp=>(off:Int)+p.1)).filter (λw=>match w with|.int i=>mvG gs (i-off).toNat|_=>false)=((l.filter λp=>Xz (some p.2)).map λp=>(off:Int)+p.1).map Wv.int:=by
   intro l
   induction l with
   |nil=>intro _;rfl
   |cons p l ih=>
    intro hp;have h1:=hp p (.head _)
    have e1:mvG gs ((off:Int)+p.1-off).toNat=Xz (some p.2):=by
     rw[pj];unfold mvG;rw[h1];rfl
    rw[aU,cW,cW];show(if mvG gs ((off:Int)+p.1-off).toNat=true then _ else _)=_;rw[e1,ih λq hq=>hp q (.tail _ hq)];cases Xz (some p.2) <;> rfl
  exact key gs λp hp=>Vu nd hp
def GH{T:Nat->Option Od}{n:Nat}(S:Os c om ho hb hg off gs)(t:Tell gs T)(hn:∀k o,T k=some o->k<n)(ip:gs.length<=60):ZS c [.o ho] om=some (.ok (.lst ((Ww off T n).map Wv.int)),om)∧Rk c [.o ho] om=some (.ok (.o om.length),om++[.lst ((Ww off T n).map Wv.int)]):=by
 have iQ:=ZQ;have hE:∀(w:Wv) (ij:iN),(Za 0) [some w,some (.o ho)] ij=some (.ok w,ij):=λw ij=>Zb rfl
 have hT:∀(ij:iN) (w:Wv),∀j:Nat,w=.int ((off:Int)+j)->ij[ho]?=some (ZM c hb hg)->ij[hg]?=some (.dz (Yl c off gs))->(fB (f1 Wh (Zq c.Orders "goal_of" 2 (Zn c) (Za 1) (Zc (Za 0) Zj)))) [some w,some (.o ho)] ij=some (.ok (mvG gs j),ij):=λij w j hw h1 h2=>by
  subst hw;exact ZW ((Wa ((Zz (Zb rfl) (Zy h1) (ZV _ _ _ (by decide) (by decide)) (Ze (Zb rfl) Zi) rfl).trans (KJ h1 (.inr h2) j))).trans (KD _ _ _))
 generalize hL:((gs.filter λp=>Xz (some p.2)).map λp=>(off:Int)+p.1)=L;have hLl:L.length<=gs.length:=by rw[← hL,aA];exact aV _ _
 have es:Xi L=Ww off T n:=by rw[← hL];exact Ln t off n hn
 have hml:((Ww off T n).map Wv.int).length<=gs.length:=by rw[aA,← es,(Yh L).length_eq];exact hLl
 have srt:∀k:iJ->Mw Wv,Xg k [.lst (L.map Wv.int)] om=k ((Ww off T n).map Wv.int) om:=λk=>by
  show(match Y4 (L.map Wv.int) with|some ns=>if ns.length<64 then k ((Xi ns).map Wv.int) om else none|none=>none)=_;rw[Uo];show(if L.length<64 then k ((Xi L).map Wv.int) om else none)=_;rw[aC (by omega),es]
 have lay:ZL (L.map Wv.int) om=some (.ok (.lst (L.map Wv.int)),om):=by
  unfold ZL;rw[aC (by rw[aA];omega)];rfl
 refine⟨ZF (Zu ((ZB (Ze ((Qb hT hE S t.nd (by omega)).trans (by rw[hL];exact lay)) Zi)).trans ((srt ZL).trans ?_))),ZF (Zu ((ZB (Ze ((Qb hT hE S t.nd (by omega)).trans (by rw[hL];exact lay)) Zi)).trans ((srt X6).trans ?_)))⟩
 ·unfold ZL
  rw[aC (by omega)];rfl
 ·unfold X6
  rw[aC (by omega)];rfl
end
def Fq:∀(n:Nat) (l:iD),l.Nodup->(∀x∈l,x<n)->l.length<=n
 |0,[],_,_=>aK _
 |0,x::_,_,h=>absurd (h x (.head _)) (by omega)
 |n+1,l,nd,h=>by
  have h1:=Fq n (l.erase n) (nd.erase n) λx hx=>by
   have q:=(List.Nodup.mem_erase_iff nd).mp hx;have:=h x q.2;have:=q.1;omega
  have h2:l.length<=(l.erase n).length+1:=by rw[List.length_erase];split <;> omega
  omega
def Tell.len{gs:Gs}{T:Nat->Option Od}{n:Nat}(h:Tell gs T)(hn:∀k o,T k=some o->k<n):gs.length<=n:=by
 rw[← aA (f:=(·.1))];refine Fq n _ h.nd λx hx=>?_
 obtain⟨p,hp,rfl⟩:=aZ.mp hx;exact hn _ _ (h.key p.1 p.2 (Vu h.nd hp))
def LH{om:iN}{i:Nat}{x:Ob}(h:om[i]?=some x):om.set i x=om:=db λj=>by
 by_cases e:i=j
 ·subst e;rw[bV (aH.mp h).1,h]
 ·rw[bN e]
section
variable{c:CA}{om:iN}{ho hb hm hu hl hg size off:Nat}{f:hY}{kvs:iL}{gs:Gs}{rows:Mx}
def Os.at(S:Os c om ho hb hg off gs)(jJ:Gs):Os c (om.set hg (.dk (Yl c off jJ))) ho hb hg off jJ:=by
 have nb:hg≠ho:=λz=>by have h:=S.g;subst z;rw[S.o]at h;cases h
 exact⟨by rw[bN nb];exact S.o,by rw[bV (aH.mp S.g).1]⟩
def gvn(gs:Gs)(k:Nat):Option Od->Gs
 |none=>gs
 |some o=>Ss gs k o
def G4(o:Od)(om:iN):WJ false (.str (odN o)) (.str "stand") om=some (.ok (.bl (decide (odN o="stand"))),om):=Rt _ _ (Oc o) LG _
def Cd{tw:Wv}{told:iO}(W:Wd c om hb hm hu hl size off f kvs)(S:Os c om ho hb hg off gs)(mo:O6 rows off kvs)(G:Givn rows f told)(ht:YI om tw=some (told.map odW)){k:Nat}(hk:k<f.length)(ip:gs.length<100):Vt c [.o ho,.int off,tw,.int k] om=some (.ok .non,om.set hg (.dk (Yl c off (gvn gs k (at' told k))))):=by
 have hkt:k<told.length:=by rw[G.len];exact hk
 have ok:=G.ok k hk
 have e0:∀{o:Option Od},at' told k=o->ZD 4 (f2 kIx (Za 2) (Za 3)) [some (.o ho),some (.int off),some tw,some (.int k),none] om=some (.ok (.nx,[some (.o ho),some (.int off),some tw,some (.int k),some (odW o)]),om):=λ{o} ho=>by
  have e:=UO (k:=k) ht hkt none;rw[show told.getD k none=o from ho]at e;exact Zw (i:=4) ((v2 rfl rfl).trans e)
 have hl2:∀{i j:Nat},Xa rows i j=true->Ty kvs ((off:Int)+i) ((off:Int)+j)=true:=λ{i j} h=>(mo _ _).mpr ⟨i,j,rfl,rfl,h⟩
 match kP:at' told k,ok with
 |none,ok=>
  have t:fB (f1 Uc (Za 4)) [some (.o ho),some (.int off),some tw,some (.int k),some (odW none)] om=some (.ok true,om):=ZW ((Wa (Zb rfl)).trans rfl);rw[show gvn gs k none=gs from rfl,LH S.g];exact ZF ((Zh (e0 kP)).trans (YA ((Yn t).trans rfl)))
 |some o,ok=>
  have t:fB (f1 Uc (Za 4)) [some (.o ho),some (.int off),some tw,some (.int k),some (odW (some o))] om=some (.ok false,om):=ZW ((Wa (Zb rfl)).trans (isN_od _ _));have t1:fB (f2 kEq (f2 kIx (Za 4) (fC (.int 0))) (fC (.str "stand"))) [some (.o ho),some (.int off),some tw,some (.int k),some (odW (some o))] om=some (.ok (decide (odN o="stand")),om):=ZW ((Zs ((Zs (Zb rfl) Zp).trans (od_0 o _)) Zp).trans (G4 _ _));have t2:fB (f2 kEq (f2 kIx (Za 4) (fC (.int 0))) (fC (.str "move"))) [some (.o ho),some (.int off),some tw,some (.int k),some (odW (some o))] om=some (.ok (decide (odN o="move")),om):=ZW ((Zs ((Zs (Zb rfl) Zp).trans (od_0 o _)) Zp).trans (Rt _ _ (Oc o) Th _));have ak:f2 Wz (Za 1) (Za 3) [some (.o ho),some (.int off),some tw,some (.int k),some (odW (some o))] om=some (.ok (.int ((off:Int)+k)),om):=(v2 rfl rfl).trans rfl;refine Vb (sl1:=[some (.o ho),some (.int off),some tw,some (.int k),some (odW (some o))]) ((Zh (e0 kP)).trans ((Zh (ZK t)).trans ?_))
  match o,ok with
  |.stand,ok=>
   obtain⟨s,hs⟩:=bE.mp ok;exact(Yn t1).trans (ZY ((Zz (Zb rfl) (Zy S.o) (ZV _ _ _ (by decide) (by decide)) (Ze ak Zi) rfl).trans (EK W S hs ip)))
  |.move g,ok=>
   obtain⟨s,hs⟩:=bE.mp ok.1;have ag:f2 Wz (Za 1) (f2 kIx (Za 4) (fC (.int 1))) [some (.o ho),some (.int off),some tw,some (.int k),some (odW (some (.move g)))] om=some (.ok (.int ((off:Int)+g)),om):=(Zs (Zb rfl) ((Zs (Zb rfl) Zp).trans (od_m g _))).trans rfl;exact(Pp t1).trans ((Yn t2).trans (ZY ((Zz (Zb rfl) (Zy S.o) (ZV _ _ _ (by decide) (by decide)) (Ze ak (Ze ag Zi)) rfl).trans (ID W S hs ok.2.1 (hl2 ok.2.2) ip))))
  |.help h g,ok=>
   obtain⟨s,hs⟩:=bE.mp ok.1;obtain⟨_,hh,jI,jh,j8,l1,l2⟩:=ok;obtain⟨s2,jV⟩:=bE.mp j8;have ah:f2 Wz (Za 1) (f2 kIx (Za 4) (fC (.int 1))) [some (.o ho),some (.int off),some tw,some (.int k),some (odW (some (.help h g)))] om=some (.ok (.int ((off:Int)+h)),om):=(Zs (Zb rfl) ((Zs (Zb rfl) Zp).trans (od_h h g _))).trans rfl;have ag:f2 Wz (Za 1) (f2 kIx (Za 4) (fC (.int 2))) [some (.o ho),some (.int off),some tw,some (.int k),some (odW (some (.help h g)))] om=some (.ok (.int ((off:Int)+g)),om):=(Zs (Zb rfl) ((Zs (Zb rfl) Zp).trans (od_g h g _))).trans rfl;exact(Pp t1).trans ((Pp t2).trans (ZY ((Zz (Zb rfl) (Zy S.o) (ZV _ _ _ (by decide) (by decide)) (Ze ak (Ze ah (Ze ag Zi))) rfl).trans (EB W S hs jV jI jh (hl2 l1) (l2.imp id hl2) ip))))
def Vq(told:iO)(T:Nat->Option Od)(k j:Nat):Option Od:=if j<k then at' told j else T j
def Ny(told:iO)(T:Nat->Option Od):Vq told T 0=T:=by funext j;unfold Vq;rw[aE (by omega)]
def O2(told:iO)(T:Nat->Option Od)(k:Nat):Vq told T (k+1)=λj=>if j=k then at' told k else Vq told T k j:=by
 funext j;unfold Vq;by_cases h:j=k
 ·subst h;rw[aC (by omega),aC rfl]
 ·rw[aE h]
  by_cases h2:j<k
  ·rw[aC h2,aC (by omega)]
  ·rw[aE h2,aE (by omega)]
def Same'(f:hY)(T:Nat->Option Od):Prop:=∀j,(T j).isSome=(at' f j).isSome
def Givn.same{told:iO}(G:Givn rows f told):Same' f (at' told):=λj=>by
 by_cases h:j<f.length
 ·have:=G.okT.both j (by rw[G.len];exact h)
  exact cV.mpr this
 ·rw[WN h,WN (by rw[G.len];exact h)];rfl
def Same'.lt{T:Nat->Option Od}(h:Same' f T):∀k o,T k=some o->k<f.length:=λk o e=>by
 have q:=h k;rw[e]at q;obtain⟨s,hs⟩:=bE.mp q.symm;exact VZ hs
def Same'.mix{told:iO}{T:Nat->Option Od}(G:Givn rows f told)(h:Same' f T)(k:Nat):Same' f (Vq told T k):=λj=>by
 unfold Vq;by_cases hj:j<k
 ·rw[aC hj];exact G.same j
 ·rw[aE hj];exact h j
def Tell.give{told:iO}{T:Nat->Option Od}{k:Nat}(G:Givn rows f told)(hs:Same' f T)(t:Tell gs (Vq told T k)):Tell (gvn gs k (at' told k)) (Vq told T (k+1)):=by
 rw[O2]
 match h:at' told k with
 |none=>
  have e:(λj=>if j=k then (none:Option Od) else Vq told T k j)=Vq told T k:=by
   funext j;by_cases hj:j=k
   ·subst hj
    rw[aC rfl];have a:=G.same j;have b:=hs j;unfold Vq;rw[aE (by omega)];rw[h]at a;rw[← a]at b;cases q:T j with
    |none=>rfl
    |some o=>rw[q]at b;cases b
   ·rw[aE hj]
  rw[e];exact t
 |some o=>exact t.put k o
def Gh{tw:Wv}{told:iO}{T:Nat->Option Od}{B:FS}{i:Nat}{sl:Sl}(W:Wd c om hb hm hu hl size off f kvs)(S:Os c om ho hb hg off gs)(jh:hg≠hu)(mo:O6 rows off kvs)(G:Givn rows f told)(t:Tell gs T)(hs:Same' f T)(ht:∀ij,(∀j,j≠hg->ij[j]?=om[j]?)->YI ij tw=some (told.map odW)) (hB:∀(k:Nat) om1 om2,Vt c [.o ho,.int off,tw,.int k] om1=some (.ok .non,om2)->(∀j,j≠hg->om1[j]?=om[j]?)->B (sl.set i (some (.int k))) om1=some (.ok (.nx,sl.set i (some (.int k))),om2)):∃jJ x,VE (tgN i) B (W4 f.length) sl om=some (.ok (.nx,sl.set i x),om.set hg (.dk (Yl c off jJ)))∧Tell jJ (at' told):=by
 have jm:∀l:Sl,l=l.set i ((l[i]?).getD none):=λl=>db λj=>by
  by_cases h:i=j
  ·subst h
   by_cases iW:i<l.length
   ·rw[bV iW];simp[iW]
   ·rw[bK (by omega),bK (by simp;omega)]
  ·rw[bN h]
 obtain⟨iS,ij,hf,jJ,x,rfl,rfl,t'⟩:=XR (T:=tgN i) (S:=B) (n:=f.length) (λk iS ij=>∃jJ x,iS=sl.set i x∧ij=om.set hg (.dk (Yl c off jJ))∧Tell jJ (Vq told T k)) (sl:=sl) (om:=om) (λk hk iS ij ⟨jJ,x,e1,e2,t'⟩=>by
  subst e1 e2;have hg1:jJ.length<=f.length:=t'.len (Same'.mix G hs k).lt;have hf:=W.few;have lU:=W.fit;have oth:∀j,j≠hg->(om.set hg (.dk (Yl c off jJ)))[j]?=om[j]?:=λj hj=>by rw[bN (cI hj)]
  have e:=Cd (W.set (x:=.dk (Yl c off jJ)) S.g jh) (S.at jJ) mo G (ht _ oth) hk (by omega);rw[eS]at e;refine⟨sl.set i (some (.int k)),.nx,_,_,?_,hB k _ _ e oth,.inl rfl,_,_,rfl,rfl,t'.give G hs⟩;unfold tgN;rw[eS]) ⟨gs,(sl[i]?).getD none,jm sl,(LH S.g).symm,by rw[Ny];exact t⟩
 refine⟨jJ,x,hf,?_⟩
 have e:Vq told T f.length=at' told:=by
  funext j;unfold Vq;by_cases h:j<f.length
  ·rw[aC h]
  ·rw[aE h,WN (by rw[G.len];exact h)]
   have:=hs j;rw[WN h]at this;cases q:T j with
   |none=>rfl
   |some o=>rw[q]at this;cases this
 rw[← e];exact t'
def Re(c:CA)(om:iN)(hb:Nat):Y2 c.Orders 2 (Y3 c) [.o hb] om=some (.ok (.o om.length),om++[ZM c hb (om.length+1),.dk []]):=by
 simp[Y3,TV,Y2,bnd,kN,chk,L2.ret,Ye,Zv,Xr,Za,Vd,Nu,X7,H9,newO,Wr,K9]
def new_Os(c:CA)(om:iN)(hb off:Nat):Os c (om++[ZM c hb (om.length+1),.dk []]) om.length hb (om.length+1) off []:=⟨by simp,by simp[Yl]⟩
def De{ia:Nat}(hf:f.length=ia)(h1:off+ia<=size)(h2:size<=60):Wd c (Z0 c om size kvs (Yc off f ia)) (om.length+2) om.length (om.length+3) (om.length+1) size off f kvs:=by
 subst hf;exact⟨by simp[Z0],by simp[Z0],⟨_,by simp[Z0],.refl _⟩,by simp[Z0],h1,h2⟩
end
end MP
namespace MP
noncomputable section
open PySem L2
def OQ(c:CA):FT:=
 (UG (fB (f2 kEq (Zq c.Orders "goal_of" 2 (Zn c) (Za 1) (Zc (Za 0) Zj)) (Za 2))) (fB (f2 kNe (Zq c.Board "side_at" 2 (ZP c) (f1 (ZR c.Orders "board") (Za 1)) (Zc (Za 0) Zj)) (Za 3))))
def Nj(c:CA):FE:=
 (Za 0)
def Rq(c:CA):FE:=
 (f2 kNe (Za 0) (f2 (VP c.STAND) (Za 1) (fC (.int 2))))
def Ef(c:CA):FS:=
 (Zv (ZD 2 (Zq c.Orders "told" 2 (YC c) (Za 0) (Zc (Za 1) Zj)))
  (Zv (sIf (fB (f2 kNe (f2 (VP c.STAND) (Za 2) (fC (.int 0))) (fC (.str "help")))) (Z8 (fC (.bl false))) Yo)
  (Zv (ZD 3 (Zq c.Board "side_at" 2 (ZP c) (f1 (ZR c.Orders "board") (Za 0)) (Zc (Za 1) Zj)))
  (Zv (ZD 4 (Z5 ZL [0,1,3] (λsl=>bnd ((Zq c.Orders "movers" 1 (ZS c) (Za 0) Zj) sl) ZN) (OQ c) (Nj c)))
  (Z8 (fA Ba (Zc (Z5 ZL [2] (λsl=>bnd ((Za 4) sl) ZN) Xh (Rq c)) Zj)))))))
def P4(c:CA):iJ->Mw Wv:=Ye 5 (Ef c)
def S_fits(c:CA):FS:=
 (Zv (sIf (fB (f2 kEq (Za 2) (Za 1))) (Z8 (f1 Uc (Zq c.Orders "goal_of" 2 (Zn c) (Za 0) (Zc (Za 1) Zj)))) Yo)
  (Z8 (f2 kEq (Zq c.Orders "goal_of" 2 (Zn c) (Za 0) (Zc (Za 1) Zj)) (Za 2))))
def JE(c:CA):iJ->Mw Wv:=Ye 3 (S_fits c)
def El(c:CA):FS:=
 (Zv (ZD 2 (Zq c.Orders "told" 2 (YC c) (Za 0) (Zc (Za 1) Zj)))
  (Z8 (V7 (f2 kEq (f2 (VP c.STAND) (Za 2) (fC (.int 0))) (fC (.str "help"))) (V7 (fA (kN 3 (JE c)) (Zc (Za 0) (Zc (f2 (VP c.STAND) (Za 2) (fC (.int 1))) (Zc (f2 (VP c.STAND) (Za 2) (fC (.int 2))) Zj)))) (f1 AG (fA (kN 2 (P4 c)) (Zc (Za 0) (Zc (Za 1) Zj))))))))
def Oi(c:CA):iJ->Mw Wv:=Ye 3 (El c)
def D8(c:CA):FS:=
 (Zv (ZD 3 (Zq c.Orders "told" 2 (YC c) (Za 0) (Zc (Za 1) Zj)))
  (Z8 (V7 (f2 kEq (f2 (VP c.STAND) (Za 3) (fC (.int 0))) (fC (.str "help"))) (V7 (f2 kEq (f2 (VP c.STAND) (Za 3) (fC (.int 1))) (Za 2)) (fA (kN 2 (Oi c)) (Zc (Za 0) (Zc (Za 1) Zj)))))))
def NH(c:CA):iJ->Mw Wv:=Ye 4 (D8 c)
def Jm(c:CA):FT:=
 (Xj (fA (kN 3 (NH c)) (Zc (Za 2) (Zc (Za 0) (Zc (Za 3) Zj)))))
def Jg(c:CA):FE:=
 (Za 1)
def Gw(c:CA):FS:=
 (Z8 (Vm ZL 2 [0,1] (λsl=>bnd ((Zq c.Board "roll" 1 (ZU c) (f1 (ZR c.Orders "board") (Za 0)) Zj) sl) ZN) (Jm c) (Jg c)))
def VX(c:CA):iJ->Mw Wv:=Ye 2 (Gw c)
def Bq(c:CA):FS:=
 (Zv (sIf (fB (f1 Uc (Zq c.Orders "goal_of" 2 (Zn c) (Za 0) (Zc (Za 1) Zj)))) (Z8 (fC (.int 0))) Yo)
  (Z8 (f2 Wz (fC (.int 1)) (fA WV (Zc (fA (kN 2 (VX c)) (Zc (Za 0) (Zc (Za 1) Zj))) Zj)))))
def N0(c:CA):iJ->Mw Wv:=Ye 2 (Bq c)
def RX(c:CA):FT:=
 (fB (f2 kNe (Za 0) (Za 1)))
def RQ(c:CA):FE:=
 (Za 0)
def Qu(c:CA):FS:=
 (Zv (sIf (fB (f1 Uc (Zq c.Orders "goal_of" 2 (Zn c) (Za 0) (Zc (Za 1) Zj)))) (Z8 (fC (.int 0))) Yo)
  (Z8 (f2 Wz (fC (.int 1)) (fA WV (Zc (Z5 ZL [2] (λsl=>bnd ((fA (kN 2 (VX c)) (Zc (Za 0) (Zc (Za 1) Zj))) sl) ZN) (RX c) (RQ c)) Zj)))))
def WG(c:CA):iJ->Mw Wv:=Ye 3 (Qu c)
def JY(c:CA):FS:=
 (Zv (sIf (fB (f1 Wh (Zq c.Orders "goal_of" 2 (Zn c) (Za 0) (Zc (Za 1) Zj)))) (Z8 (fC (.int 1))) Yo)
  (Z8 (f2 Wz (fC (.int 1)) (fA WV (Zc (fA (kN 2 (VX c)) (Zc (Za 0) (Zc (Za 1) Zj))) Zj)))))
def Uj(c:CA):iJ->Mw Wv:=Ye 2 (JY c)
end
open PySem L2
def YE{α:Type}{cT:FT}{f:FE}{mk:Wv->Sl}{om:iN}(φ:α->Wv)(p:α->Bool)(g:α->Wv):∀{l:List α},(∀a∈l,cT (mk (φ a)) om=some (.ok (p a),om))->(∀a∈l,p a=true->f (mk (φ a)) om=some (.ok (g a),om))->Xm cT f mk (l.map φ) om=some (.ok ((l.filter p).map g),om)
 |[],_,_=>rfl
 |a::l,h1,h2=>by
  have ih:=YE φ p g (l:=l) (λb hb=>h1 b (.tail _ hb)) (λb hb=>h2 b (.tail _ hb));have c1:Yb (cT (mk (φ a))) om=some (.ok (p a),om):=by simp[Yb,h1 a (.head _)]
  rw[aU];show bnd (Yb (cT (mk (φ a)))) (MK (Xm cT f mk (l.map φ)) (f (mk (φ a)))) om=_;rw[Zm c1,cW];cases hp:p a with
  |false=>exact ih
  |true=>
   have c2:Yb (f (mk (φ a))) om=some (.ok (g a),om):=by simp[Yb,h2 a (.head _) hp]
   show bnd (Yb (f (mk (φ a)))) (λx=>bnd (Xm cT f mk (l.map φ)) λxs=>L2.ret (x::xs)) om=_;rw[Zm c2,Zm ih];rfl
def Sr{α:Type}(b:α->Bool):∀l:List α,VD (l.map λa=>Wv.bl (b a))=some (l.map b)
 |[]=>rfl
 |a::l=>by
  show(match VD (l.map λa=>Wv.bl (b a)) with|some bs=>some (b a::bs)|none=>none)=_;rw[Sr b l];rfl
def Ej(c:CA)(off:Nat)(o:Od)(om:iN):VP c.STAND (odG c off o) (.int 0) om=some (.ok (.str (odN o)),om):=by
 unfold VP;cases o with
 |stand=>rw[show odG c off .stand=.g c.STAND from rfl,GY];exact ZI (k:=0) rfl rfl
 |move g=>exact ZI (k:=0) rfl rfl
 |help h g=>exact ZI (k:=0) rfl rfl
def Ag(c:CA)(off h g:Nat)(om:iN):VP c.STAND (odG c off (.help h g)) (.int 1) om=some (.ok (.int ((off:Int)+h)),om):=ZI (k:=1) rfl rfl
def Am(c:CA)(off h g:Nat)(om:iN):VP c.STAND (odG c off (.help h g)) (.int 2) om=some (.ok (.int ((off:Int)+g)),om):=ZI (k:=2) rfl rfl
def S8{fa fb:FE}{sl:Sl}{om om1:iN}(h:fa sl om=some (.ok (.bl false),om1)):V7 fa fb sl om=some (.ok (.bl false),om1):=by simp[V7,bnd,h,kB,L2.ret]
def QQ{fa fb:FE}{sl:Sl}{om:iN}{a b:Bool}(h:fa sl om=some (.ok (.bl a),om))(h2:a=true->fb sl om=some (.ok (.bl b),om)):V7 fa fb sl om=some (.ok (.bl (a&&b)),om):=by
 cases a with
 |false=>exact S8 h
 |true=>exact(NU h).trans (h2 rfl)
def QT(off a b:Nat):decide ((off:Int)+a=(off:Int)+b)=decide (a=b):=by
 by_cases h:a=b
 ·rw[bL h,bL (by omega)]
 ·rw[aL h,aL (by omega)]
def QJ(off:Nat)(o:Od)(g:Nat)(om:iN):WJ false (U9 off o) (.int ((off:Int)+g)) om=some (.ok (.bl (decide (o=.move g))),om):=by
 cases o with
 |stand=>simp[U9,WJ,XJ,Vh,Vj,PyData.canLay0,PyData.depth,PyData.eqv]
 |help a b=>simp[U9,WJ,XJ,Vh,Vj,PyData.canLay0,PyData.depth,PyData.eqv]
 |move a=>
  refine(WI _ _ _).trans ?_;rw[QT];by_cases h:a=g
  ·subst h;simp
  ·rw[aL h,aL (λz=>h (Od.move.inj z))]
def PH(off:Nat)(o:Od)(om:iN):Uc (U9 off o) om=some (.ok (.bl (!Xz (some o))),om):=by cases o <;> rfl
section
variable{c:CA}{om:iN}{ho hb hm hu hl hg size off:Nat}{f:hY}{kvs:iL}{gs:Gs}{rows:Mx}{told:iO}
def CW(told:iO)(f:hY)(k:Nat):Bool:=match at' told k with
 |some (.help _ g)=>QG told f k g
 |_=>false
def Ja(W:Wd c om hb hm hu hl size off f kvs)(S:Os c om ho hb hg off gs)(G:Givn rows f told)(t:Tell gs (at' told)){k:Nat}{o:Od}(h:at' told k=some o):YC c [.o ho,.int ((off:Int)+k)] om=some (.ok (odG c off o),om):=by
 have hs:=G.same k;rw[h]at hs;obtain⟨s,e⟩:=bE.mp hs.symm;rw[Ck W S e,t.get k o h]
def M0(S:Os c om ho hb hg off gs)(t:Tell gs (at' told)){k:Nat}{o:Od}(h:at' told k=some o):Zn c [.o ho,.int ((off:Int)+k)] om=some (.ok (U9 off o),om):=by
 rw[Bi S k,t.get k o h]
def Lp(W:Wd c om hb hm hu hl size off f kvs)(S:Os c om ho hb hg off gs)(G:Givn rows f told)(t:Tell gs (at' told)):ZS c [.o ho] om=some (.ok (.lst (((List.range f.length).filter λk=>Xz (at' told k)).map λ(k:Nat)=>Wv.int ((off:Int)+k))),om):=by
 have h1:=t.len G.same.lt;have h2:=W.fit;have h3:=W.few;rw[(GH (n:=f.length) S t G.same.lt (by omega)).1];unfold Ww;rw[aS];rfl
def Bk(G:Givn rows f told)(k g:Nat):(((List.range f.length).filter λm=>Xz (at' told m)).filter λm=>decide (at' told m=some (.move k))&&!decide (at' f m=at' f k)).any (λm=>!decide (m=g))=QG told f k g:=by
 unfold QG;rw[G.len];refine cV.mpr ?_;rw[cX,cX];constructor
 ·rintro⟨m,hm,h⟩
  obtain⟨kM,jH⟩:=aG.mp hm;obtain⟨og,_⟩:=aG.mp kM;obtain⟨a,b⟩:=bQ.mp jH;exact⟨m,og,by rw[a,h,b];rfl⟩
 ·rintro⟨m,hm,h⟩
  obtain⟨a,h2⟩:=bQ.mp h;obtain⟨b,d⟩:=bQ.mp h2;refine⟨m,aG.mpr ⟨aG.mpr ⟨hm,?_⟩,by rw[a,d];rfl⟩,b⟩;rw[bG a];rfl
def Hq(W:Wd c om hb hm hu hl size off f kvs)(S:Os c om ho hb hg off gs)(G:Givn rows f told)(t:Tell gs (at' told)){k:Nat}{o:Od}(h:at' told k=some o):P4 c [.o ho,.int ((off:Int)+k)] om=some (.ok (.bl (CW told f k)),om):=by
 have iQ:=ZQ;have hk:k<f.length:=G.same.lt k o h;have h2:=W.fit;have h3:=W.few
 have e1:ZD 2 (Zq c.Orders "told" 2 (YC c) (Za 0) (Zc (Za 1) Zj)) [some (.o ho),some (.int ((off:Int)+k)),none,none,none] om=some (.ok (.nx,[some (.o ho),some (.int ((off:Int)+k)),some (odG c off o),none,none]),om):=
  Zw (i:=2) ((Zz (Zb rfl) (Zy S.o) (ZV _ _ _ (by decide) (by decide)) (Ze (Zb rfl) Zi) rfl).trans (Ja W S G t h))
 have t1:fB (f2 kNe (f2 (VP c.STAND) (Za 2) (fC (.int 0))) (fC (.str "help"))) [some (.o ho),some (.int ((off:Int)+k)),some (odG c off o),none,none] om=some (.ok (!decide (odN o="help")),om):=ZW ((Zs ((Zs (Zb rfl) Zp).trans (Ej c off o _)) Zp).trans (ne_str _ _ (Oc o) Uy _));unfold CW;rw[h]
 match o,h with
 |.stand,h=>exact ZF ((Zh e1).trans (YA ((Yn t1).trans (Zu Zp))))
 |.move g,h=>exact ZF ((Zh e1).trans (YA ((Yn t1).trans (Zu Zp))))
 |.help q g,h=>
  have e3:ZD 3 (Zq c.Board "side_at" 2 (ZP c) (f1 (ZR c.Orders "board") (Za 0)) (Zc (Za 1) Zj)) [some (.o ho),some (.int ((off:Int)+k)),some (odG c off (.help q g)),none,none] om=some (.ok (.nx,[some (.o ho),some (.int ((off:Int)+k)),some (odG c off (.help q g)),some (ZA (at' f k)),none]),om):=
   Zw (i:=3) ((Zz (WF S rfl) (Zy W.b) (Yi _ _ _ (by decide) (by decide)) (Ze (Zb rfl) Zi) rfl).trans (Mo W hk))
  generalize hA:((List.range f.length).filter λm=>Xz (at' told m))=A
  have hAm:∀m∈A,m<f.length∧∃g',at' told m=some (.move g'):=λm hm=>by
   rw[← hA]at hm;obtain⟨a,b⟩:=aG.mp hm;refine⟨aX.mp a,?_⟩
   match e:at' told m,b with
   |some (.move g'),_=>exact⟨g',rfl⟩
  have hAl:A.length<=f.length:=by rw[← hA];exact cg (aV _ _) (by simp)
  have mv:=Lp W S G t;rw[hA]at mv;generalize hp:(λm=>decide (at' told m=some (.move k))&&!decide (at' f m=at' f k))=p
  have e4:ZD 4 (Z5 ZL [0,1,3] (λsl=>bnd ((Zq c.Orders "movers" 1 (ZS c) (Za 0) Zj) sl) ZN) (OQ c) (Nj c)) [some (.o ho),some (.int ((off:Int)+k)),some (odG c off (.help q g)),some (ZA (at' f k)),none] om=some (.ok (.nx,[some (.o ho),some (.int ((off:Int)+k)),some (odG c off (.help q g)),some (ZA (at' f k)),some (.lst ((A.filter p).map λ(m:Nat)=>Wv.int ((off:Int)+m)))]),om):=by
   refine Zw (i:=4) ((Wj (ws:=A.map λ(m:Nat)=>Wv.int ((off:Int)+m)) (om1:=om) ((Zm ((Zz (Zb rfl) (Zy S.o) (ZV _ _ _ (by decide) (by decide)) Zi rfl).trans mv)).trans rfl) (by rw[aA];omega) (YE (λ(m:Nat)=>Wv.int ((off:Int)+m)) p (λ(m:Nat)=>Wv.int ((off:Int)+m)) (λm hm=>?_) (λm hm _=>Zb rfl))).trans ?_)
   ·obtain⟨kM,g',jH⟩:=hAm m hm
    rw[← hp];refine Sv (ZW ((Zs ((Zz (Zb rfl) (Zy S.o) (ZV _ _ _ (by decide) (by decide)) (Ze (Zb rfl) Zi) rfl).trans (M0 S t jH)) (Zb rfl)).trans ((QJ _ _ _ _).trans ?_))) λ_=>?_
    ·rw[jH]
     simp
    ·exact ZW ((Zs ((Zz (WF S rfl) (Zy W.b) (Yi _ _ _ (by decide) (by decide)) (Ze (Zb rfl) Zi) rfl).trans (Mo W kM)) (Zb rfl)).trans (Kr _ _ _))
   ·unfold ZL
    have:=aV p A;rw[aC (by rw[aA];omega)];rfl
  have hfl:=aV p A
  have e5:fA Ba (Zc (Z5 ZL [2] (λsl=>bnd ((Za 4) sl) ZN) Xh (Rq c)) Zj) [some (.o ho),some (.int ((off:Int)+k)),some (odG c off (.help q g)),some (ZA (at' f k)),some (.lst ((A.filter p).map λ(m:Nat)=>Wv.int ((off:Int)+m)))] om=some (.ok (.bl (QG told f k g)),om):=by
   have c1:Z5 ZL [2] (λsl=>bnd ((Za 4) sl) ZN) Xh (Rq c) [some (.o ho),some (.int ((off:Int)+k)),some (odG c off (.help q g)),some (ZA (at' f k)),some (.lst ((A.filter p).map λ(m:Nat)=>Wv.int ((off:Int)+m)))] om=some (.ok (.lst ((A.filter p).map λm=>Wv.bl (!decide (m=g)))),om):=by
    refine(Wj (ws:=(A.filter p).map λ(m:Nat)=>Wv.int ((off:Int)+m)) (om1:=om) ((Zm (a:=.lst ((A.filter p).map λ(m:Nat)=>Wv.int ((off:Int)+m))) (om1:=om) (Zb rfl)).trans rfl) (by rw[aA];omega) (YE (λ(m:Nat)=>Wv.int ((off:Int)+m)) (λ_=>true) (λm=>Wv.bl (!decide (m=g))) (λm hm=>rfl) (λm hm _=>?_))).trans ?_
    ·refine((Zs (Zb rfl) ((Zs (Zb rfl) Zp).trans (Am c off q g _))).trans (RO _ _ _)).trans ?_
     rw[QT]
    ·rw[cb.mpr (λ_ _=>rfl)]
     unfold ZL;rw[aC (by rw[aA];omega)];rfl
   refine(ZB (Ze c1 Zi)).trans ?_;show(match VD ((A.filter p).map λm=>Wv.bl (!decide (m=g))) with|some bs=>some (Except.ok (Wv.bl (bs.any id)),om)|none=>none)=_;rw[Sr];show some (Except.ok (Wv.bl (((A.filter p).map λm=>!decide (m=g)).any id)),om)=_;rw[List.any_map,← Bk G k g,hA,hp];rfl
  exact ZF ((Zh e1).trans ((Zh (ZK t1)).trans ((Zh e3).trans ((Zh e4).trans (Zu e5)))))
def Cs(S:Os c om ho hb hg off gs)(t:Tell gs (at' told)){h g:Nat}{o:Od}(e:at' told h=some o):JE c [.o ho,.int ((off:Int)+h),.int ((off:Int)+g)] om=some (.ok (.bl (if h=g then !Xz (at' told h) else decide (at' told h=some (.move g)))),om):=by
 have t1:fB (f2 kEq (Za 2) (Za 1)) [some (.o ho),some (.int ((off:Int)+h)),some (.int ((off:Int)+g))] om=some (.ok (decide (g=h)),om):=ZW ((v2 rfl rfl).trans ((WI _ _ _).trans (by rw[QT])));have gl:Zq c.Orders "goal_of" 2 (Zn c) (Za 0) (Zc (Za 1) Zj) [some (.o ho),some (.int ((off:Int)+h)),some (.int ((off:Int)+g))] om=some (.ok (U9 off o),om):=(Zz (Zb rfl) (Zy S.o) (ZV _ _ _ (by decide) (by decide)) (Ze (Zb rfl) Zi) rfl).trans (M0 S t e);rw[e];by_cases hq:h=g
 ·rw[bL hq.symm]at t1
  rw[aC hq];exact ZF (YA ((Yn t1).trans (Zu ((Wa gl).trans (PH _ _ _)))))
 ·rw[aL (cI hq)]at t1
  rw[aE hq];refine ZF ((Zh (ZK t1)).trans (Zu ((Zs gl (Zb rfl)).trans ((QJ _ _ _ _).trans ?_))));simp
def Gu(W:Wd c om hb hm hu hl size off f kvs)(S:Os c om ho hb hg off gs)(G:Givn rows f told)(t:Tell gs (at' told)){k:Nat}{o:Od}(h:at' told k=some o):Oi c [.o ho,.int ((off:Int)+k)] om=some (.ok (.bl (XH told f k)),om):=by
 have e1:ZD 2 (Zq c.Orders "told" 2 (YC c) (Za 0) (Zc (Za 1) Zj)) [some (.o ho),some (.int ((off:Int)+k)),none] om=some (.ok (.nx,[some (.o ho),some (.int ((off:Int)+k)),some (odG c off o)]),om):=
  Zw (i:=2) ((Zz (Zb rfl) (Zy S.o) (ZV _ _ _ (by decide) (by decide)) (Ze (Zb rfl) Zi) rfl).trans (Ja W S G t h))
 have t1:f2 kEq (f2 (VP c.STAND) (Za 2) (fC (.int 0))) (fC (.str "help")) [some (.o ho),some (.int ((off:Int)+k)),some (odG c off o)] om=some (.ok (.bl (decide (odN o="help"))),om):=(Zs ((Zs (Zb rfl) Zp).trans (Ej c off o _)) Zp).trans (Rt _ _ (Oc o) Uy _);refine ZF ((Zh e1).trans (Zu ?_)) (sl1:=[some (.o ho),some (.int ((off:Int)+k)),some (odG c off o)]);unfold XH;rw[h]
 match o,h with
 |.stand,h=>exact S8 t1
 |.move g,h=>exact S8 t1
 |.help q g,h=>
  have hq:=(G.okT.hl k q g h);obtain⟨o2,e2⟩:=bE.mp ((G.same q).trans hq.2.2.2.2);have ic:=Hq W S G t h;have ei:CW told f k=QG told f k g:=by unfold CW;rw[h]
  rw[ei]at ic;refine((NU t1).trans (QQ (a:=if q=g then !Xz (at' told q) else decide (at' told q=some (.move g))) (b:=!QG told f k g) ((ZB (Ze (Zb rfl) (Ze ((Zs (Zb rfl) Zp).trans (Ag c off q g _)) (Ze ((Zs (Zb rfl) Zp).trans (Am c off q g _)) Zi)))).trans ((YG rfl).trans (Cs S t e2))) λ_=>?_)).trans ?_
  ·refine(Wa ((ZB (Ze (Zb rfl) (Ze (Zb rfl) Zi))).trans ((YG rfl).trans ic))).trans ?_
   rfl
  ·rw[Bool.and_comm]
end
def Vx(told:iO)(f:hY)(h k:Nat):Bool:=match at' told h with
 |some (.help q _)=>decide (q=k)&&XH told f h
 |_=>false
def Z6(f:hY)(n:Nat):iD:=(List.range n).filter λh=>(at' f h).isSome
def Ey(off:Nat)(f:hY)(n:Nat):Yc off f n=(Z6 f n).map λ(h:Nat)=>((off:Int)+h,(at' f h).getD 0):=by
 unfold Yc Z6;generalize List.range n=l
 induction l with
 |nil=>rfl
 |cons h l ih=>
  rw[cD,cW];cases hh:at' f h with
  |none=>simpa using ih
  |some s=>
   simp only[eO,gz,if_true,aU,hh,gH];rw[ih]
def VA{α:Type}(p:α->Bool):∀(l:List α) (a:Int),l.foldl (λa h=>bif p h then a+1 else a) a=a+(l.filter p).length
 |[],a=>by simp
 |h::l,a=>by
  rw[gR,VA p l,cW];cases p h with
  |false=>simp
  |true=>simp;omega
section
variable{c:CA}{om:iN}{ho hb hm hu hl hg size off:Nat}{f:hY}{kvs:iL}{gs:Gs}{rows:Mx}{told:iO}
def TW(told:iO)(f:hY)(k:Nat):iD:=(Z6 f f.length).filter λh=>Vx told f h k
def HX(G:Givn rows f told){h k:Nat}(e:Vx told f h k=true):∃s,at' f h=some s:=by
 unfold Vx at e;have q:=G.same h
 match kP:at' told h,e with
 |some (.help a b),_=>rw[kP]at q;exact bE.mp q.symm
def Lv(G:Givn rows f told)(k:Nat):TW told f k=(List.range f.length).filter λh=>Vx told f h k:=by
 unfold TW Z6;rw[eX];refine fu λh _=>?_
 cases e:Vx told f h k with
 |false=>simp
 |true=>
  obtain⟨s,hs⟩:=HX G e;rw[hs];rfl
def IT(h k iU:Nat)(e:at' told k=some (.move iU)):Vx told f h k=(decide (at' told h=some (.help k iU))&&XH told f h):=by
 unfold Vx XH
 match e2:at' told h with
 |none=>simp
 |some .stand=>simp
 |some (.move g)=>simp
 |some (.help q g)=>
  dsimp only;by_cases hq:q=k
  ·subst hq
   rw[e];by_cases hg:q=g
   ·subst hg
    simp[Xz]
   ·by_cases hgg:iU=g
    ·subst hgg;simp[hg]
    ·rw[aE hg]
     have:¬ (some (Od.move iU)=some (Od.move g)):=λz=>hgg (by cases z;rfl)
     rw[aL this];simp
  ·have h1:¬ (some (Od.help q g)=some (Od.help k iU)):=λz=>hq (by cases z;rfl)
   rw[aL hq,aL h1]
def D1(h k:Nat)(e:Xz (at' told k)=false):Vx told f h k=(decide (at' told h=some (.help k k))&&XH told f h):=by
 unfold Vx XH
 match e2:at' told h with
 |none=>simp
 |some .stand=>simp
 |some (.move g)=>simp
 |some (.help q g)=>
  dsimp only;by_cases hq:q=k
  ·subst hq
   by_cases hg:q=g
   ·subst hg;simp
   ·rw[aE hg]
    have h2:¬ (at' told q=some (.move g)):=λz=>by rw[z]at e;cases e
    have h1:¬ (some (Od.help q g)=some (Od.help q q)):=λz=>hg (by cases z;rfl)
    rw[aL h1,aL h2];simp
  ·have h1:¬ (some (Od.help q g)=some (Od.help k k)):=λz=>hq (by cases z;rfl)
   rw[aL hq,aL h1]
def QV(G:Givn rows f told)(k iU:Nat)(sd:Option Int)(p:Nat->Bool)(hp:∀h,h<f.length->DH told f k iU sd h=p h):Xs told f k iU sd=1+((List.range f.length).filter p).length:=by
 unfold Xs;rw[VA,G.len]
 congr 3
 exact fu λh hh=>hp h (aX.mp hh)
def RY(G:Givn rows f told)(lE:∀k s,at' f k=some s->0<=s∧s<=7){k iU:Nat}(hb:∀h,Vx told f h k=(decide (at' told h=some (.help k iU))&&XH told f h)):Xs told f k iU (some (-1))=1+(TW told f k).length:=by
 rw[Lv G];refine QV G k iU _ _ λh hh=>?_
 rw[hb h];unfold DH;cases e:decide (at' told h=some (.help k iU)) with
 |false=>rfl
 |true=>
  have e:=bG e;have q:=G.same h;rw[e]at q;obtain⟨s,hs⟩:=bE.mp q.symm;have:=lE h s hs;rw[hs,aL (λz=>by cases z;omega)];simp
def Kg(G:Givn rows f told){k iU:Nat}(sd:Int)(hb:∀h,Vx told f h k=(decide (at' told h=some (.help k iU))&&XH told f h)):Xs told f k iU (some sd)=1+((TW told f k).filter λh=>!decide ((at' f h).getD 0=sd)).length:=by
 rw[Lv G,eX];refine QV G k iU _ _ λh hh=>?_
 rw[hb h];unfold DH;cases e:decide (at' told h=some (.help k iU)) with
 |false=>simp
 |true=>
  have e:=bG e;have q:=G.same h;rw[e]at q;obtain⟨s,hs⟩:=bE.mp q.symm;rw[hs];by_cases hh:s=sd
  ·subst hh;simp
  ·rw[aL (λz=>hh (by cases z;rfl))]
   simp[hh]
def E2(W:Wd c om hb hm hu hl size off f kvs)(S:Os c om ho hb hg off gs)(G:Givn rows f told)(t:Tell gs (at' told)){h k:Nat}{o:Od}(e:at' told h=some o):NH c [.o ho,.int ((off:Int)+h),.int ((off:Int)+k)] om=some (.ok (.bl (Vx told f h k)),om):=by
 have e1:ZD 3 (Zq c.Orders "told" 2 (YC c) (Za 0) (Zc (Za 1) Zj)) [some (.o ho),some (.int ((off:Int)+h)),some (.int ((off:Int)+k)),none] om=some (.ok (.nx,[some (.o ho),some (.int ((off:Int)+h)),some (.int ((off:Int)+k)),some (odG c off o)]),om):=
  Zw (i:=3) ((Zz (Zb rfl) (Zy S.o) (ZV _ _ _ (by decide) (by decide)) (Ze (Zb rfl) Zi) rfl).trans (Ja W S G t e))
 have t1:f2 kEq (f2 (VP c.STAND) (Za 3) (fC (.int 0))) (fC (.str "help")) [some (.o ho),some (.int ((off:Int)+h)),some (.int ((off:Int)+k)),some (odG c off o)] om=some (.ok (.bl (decide (odN o="help"))),om):=(Zs ((Zs (Zb rfl) Zp).trans (Ej c off o _)) Zp).trans (Rt _ _ (Oc o) Uy _);refine ZF ((Zh e1).trans (Zu ?_)) (sl1:=[some (.o ho),some (.int ((off:Int)+h)),some (.int ((off:Int)+k)),some (odG c off o)]);unfold Vx;rw[e]
 match o,e with
 |.stand,e=>exact S8 t1
 |.move g,e=>exact S8 t1
 |.help q g,e=>
  refine(NU t1).trans (QQ (a:=decide (q=k)) ?_ λ_=>(ZB (Ze (Zb rfl) (Ze (Zb rfl) Zi))).trans ((YG rfl).trans (Gu W S G t e)));refine((Zs ((Zs (Zb rfl) Zp).trans (Ag c off q g _)) (Zb rfl)).trans (WI _ _ _)).trans ?_;rw[QT]
def DL(W:Wd c om hb hm hu hl size off f kvs):ZU c [.o hb] om=some (.ok (.lst ((Z6 f f.length).map λ(h:Nat)=>Wv.tup [.int ((off:Int)+h),.int ((at' f h).getD 0)])),om):=by
 have h1:=W.fit;have h2:=W.few;have h3:=Oo off f f.length;obtain⟨us,eu,pu⟩:=W.u;have h4:=pu.length_eq;rw[IB c W.b eu (by omega),V6 ((Z4 us).trans (pu.trans (Z4 _).symm)) (Xo us) (Xo _),JO (Qs off f f.length),Ey,aS];rfl
def Wo(f:hY)(n:Nat):(Z6 f n).length<=n:=by
 unfold Z6;exact cg (aV _ _) (by simp)
def Sy(W:Wd c om hb hm hu hl size off f kvs)(S:Os c om ho hb hg off gs)(G:Givn rows f told)(t:Tell gs (at' told))(k:Nat):VX c [.o ho,.int ((off:Int)+k)] om=some (.ok (.lst ((TW told f k).map λ(h:Nat)=>Wv.int ((at' f h).getD 0))),om):=by
 have iQ:=ZQ;have h1:=W.fit;have h2:=W.few;have h3:=Wo f f.length;have hfl:(TW told f k).length<=(Z6 f f.length).length:=aV _ _;refine ZF (Zu ?_);unfold Vm;refine(Zm (a:=(Z6 f f.length).map λ(h:Nat)=>Wv.tup [.int ((off:Int)+h),.int ((at' f h).getD 0)]) (om1:=om) ((Zm ((Zz (WF S rfl) (Zy W.b) (Yi _ _ _ (by decide) (by decide)) Zi rfl).trans (DL W))).trans rfl)).trans ?_;refine(Zm (a:=()) (om1:=om) (Of ?_)).trans ?_
 ·rw[bL (by rw[aA];omega)]
  simp[Dn]
 refine(Zm (YE (λ(h:Nat)=>Wv.tup [.int ((off:Int)+h),.int ((at' f h).getD 0)]) (λh=>Vx told f h k) (λ(h:Nat)=>Wv.int ((at' f h).getD 0)) (λh hh=>?_) (λh hh _=>Zb rfl))).trans ?_
 ·have j8:=(aG.mp hh).2
  obtain⟨o,kP⟩:=bE.mp ((G.same h).trans j8);exact XE ((ZB (Ze (Zb rfl) (Ze (Zb rfl) (Ze (Zb rfl) Zi)))).trans ((YG rfl).trans (E2 W S G t kP)))
 ·show ZL ((TW told f k).map λ(h:Nat)=>Wv.int ((at' f h).getD 0)) om=_
  unfold ZL;rw[aC (by rw[aA];omega)];rfl
def JX{α:Type}{φ:α->Wv}{l:List α}{fe:FE}{sl:Sl}(h:fe sl om=some (.ok (.lst (l.map φ)),om)):f2 Wz (fC (.int 1)) (fA WV (Zc fe Zj)) sl om=some (.ok (.int (1+l.length)),om):=by
 refine(Zs Zp ((ZB (Ze h Zi)).trans (SQ rfl))).trans ?_;rw[aA];rfl
def U7(told:iO)(f:hY)(k:Nat)(sd:Int):Int:=match at' told k with
 |some (.move g)=>Xs told f k g (some sd)
 |_=>0
def K5(S:Os c om ho hb hg off gs)(t:Tell gs (at' told)){k:Nat}{o:Od}(e:at' told k=some o){sl:Sl}(s0:sl[0]?=some (some (.o ho)))(s1:sl[1]?=some (some (.int ((off:Int)+k)))):Zq c.Orders "goal_of" 2 (Zn c) (Za 0) (Zc (Za 1) Zj) sl om=some (.ok (U9 off o),om):=(Zz (Zb s0) (Zy S.o) (ZV _ _ _ (by decide) (by decide)) (Ze (Zb s1) Zi) rfl).trans (M0 S t e)
def F7(W:Wd c om hb hm hu hl size off f kvs)(S:Os c om ho hb hg off gs)(G:Givn rows f told)(t:Tell gs (at' told))(lE:∀k s,at' f k=some s->0<=s∧s<=7){k:Nat}{o:Od}(e:at' told k=some o):N0 c [.o ho,.int ((off:Int)+k)] om=some (.ok (.int (U7 told f k (-1))),om):=by
 have t1:fB (f1 Uc (Zq c.Orders "goal_of" 2 (Zn c) (Za 0) (Zc (Za 1) Zj))) [some (.o ho),some (.int ((off:Int)+k))] om=some (.ok (!Xz (some o)),om):=ZW ((Wa (K5 S t e rfl rfl)).trans (PH _ _ _));unfold U7;rw[e]
 match o,e with
 |.stand,e=>exact ZF (YA ((Yn t1).trans (Zu Zp)))
 |.help a b,e=>exact ZF (YA ((Yn t1).trans (Zu Zp)))
 |.move g,e=>
  dsimp only;rw[RY G lE (λh=>IT h k g e)];exact ZF ((Zh (ZK t1)).trans (Zu (JX ((ZB (Ze (Zb rfl) (Ze (Zb rfl) Zi))).trans ((YG rfl).trans (Sy W S G t k))))))
def JW(W:Wd c om hb hm hu hl size off f kvs)(S:Os c om ho hb hg off gs)(G:Givn rows f told)(t:Tell gs (at' told)){k:Nat}{o:Od}(e:at' told k=some o)(sd:Int):WG c [.o ho,.int ((off:Int)+k),.int sd] om=some (.ok (.int (U7 told f k sd)),om):=by
 have iQ:=ZQ;have h1:=W.fit;have h2:=W.few;have h3:=Wo f f.length;have hfl:(TW told f k).length<=(Z6 f f.length).length:=aV _ _;have t1:fB (f1 Uc (Zq c.Orders "goal_of" 2 (Zn c) (Za 0) (Zc (Za 1) Zj))) [some (.o ho),some (.int ((off:Int)+k)),some (.int sd)] om=some (.ok (!Xz (some o)),om):=ZW ((Wa (K5 S t e rfl rfl)).trans (PH _ _ _));unfold U7;rw[e]
 match o,e with
 |.stand,e=>exact ZF (YA ((Yn t1).trans (Zu Zp)))
 |.help a b,e=>exact ZF (YA ((Yn t1).trans (Zu Zp)))
 |.move g,e=>
  dsimp only;rw[Kg G sd (λh=>IT h k g e)];have hfl2:=aV (λh=>!decide ((at' f h).getD 0=sd)) (TW told f k);refine ZF ((Zh (ZK t1)).trans (Zu (JX (φ:=λ(h:Nat)=>Wv.int ((at' f h).getD 0)) ((Wj (ws:=(TW told f k).map λ(h:Nat)=>Wv.int ((at' f h).getD 0)) (om1:=om) ((Zm ((ZB (Ze (Zb rfl) (Ze (Zb rfl) Zi))).trans ((YG rfl).trans (Sy W S G t k)))).trans rfl) (by rw[aA];omega) (YE (λ(h:Nat)=>Wv.int ((at' f h).getD 0)) (λh=>!decide ((at' f h).getD 0=sd)) (λ(h:Nat)=>Wv.int ((at' f h).getD 0)) (λh hh=>ZW ((v2 rfl rfl).trans (RO _ _ _))) (λh hh _=>Zb rfl))).trans ?_))));unfold ZL;rw[aC (by rw[aA];omega)];rfl
def Kc(W:Wd c om hb hm hu hl size off f kvs)(S:Os c om ho hb hg off gs)(G:Givn rows f told)(t:Tell gs (at' told))(lE:∀k s,at' f k=some s->0<=s∧s<=7){k:Nat}{o:Od}(e:at' told k=some o):Uj c [.o ho,.int ((off:Int)+k)] om=some (.ok (.int (OX told f k)),om):=by
 have t1:fB (f1 Wh (Zq c.Orders "goal_of" 2 (Zn c) (Za 0) (Zc (Za 1) Zj))) [some (.o ho),some (.int ((off:Int)+k))] om=some (.ok (Xz (some o)),om):=ZW ((Wa (K5 S t e rfl rfl)).trans (KD _ _ _));unfold OX;rw[e];cases hmv:Xz (some o) with
 |true=>
  rw[hmv]at t1;exact ZF (YA ((Yn t1).trans (Zu Zp)))
 |false=>
  rw[hmv]at t1;have hmv2:Xz (at' told k)=false:=by rw[e];exact hmv
  show _=some (Except.ok (Wv.int (Xs told f k k (some (-1)))),om);rw[RY G lE (λh=>D1 h k hmv2)];exact ZF ((Zh (ZK t1)).trans (Zu (JX ((ZB (Ze (Zb rfl) (Ze (Zb rfl) Zi))).trans ((YG rfl).trans (Sy W S G t k))))))
end
section
variable{c:CA}{om:iN}{ho hb hm hu hl hg size off:Nat}{f:hY}{kvs:iL}{gs:Gs}{rows:Mx}{told:iO}
def JT(c:CA)(ns:iC){rows:Mx}{f:hY}(L:Lk f.length rows)(hn:f.length<=60)(om:iN){sw:Wv}(hw:YI om sw=some (f.map ZA):=by rfl):Wc c [Ym ns,.lst (rows.map ZJ),sw] om=some (.ok (.o om.length),om++[.lst ((W8 10 ns rows f).map odW)]):=by
 have iQ:=ZQ;refine ZF (Zu ((Wj (ws:=W4 f.length) (om1:=om) (us:=(W8 10 ns rows f).map odW) (om2:=om) ?_ (by rw[W6];omega) ?_).trans ?_))
 ·have:=Ms (sl:=[some (Ym ns),some (.lst (rows.map ZJ)),some sw]) (i:=2) (om:=om) (w:=sw) (xs:=f.map ZA) rfl hw (by rw[aA];omega)
  rw[aA]at this;exact this
 ·have e:=Ta (cT:=Xh) (f:=UE c) (mk:=λw=>Xd [0,1,2] w [some (Ym ns),some (.lst (rows.map ZJ)),some sw]) (om:=om) (n:=f.length) (λ_=>true) (λk=>odW (Uw (ns.getD (10+k) 0) k rows f)) (λk hk=>rfl) (λk hk _=>(ZB (Ze (PQ c (k:=10+k) rfl ((NX (Zb rfl)).trans (by simp))) (Ze (Zb rfl) (Ze (Zb rfl) (Ze (Zb rfl) Zi))))).trans ((YG rfl).trans (Kp c _ L hk hn om hw)))
  refine e.trans ?_;rw[cb.mpr (λ_ _=>rfl)];unfold W8;rw[aS];rfl
 ·unfold X6
  rw[aC (by rw[aA];simp[W8];omega)];rfl
def Ek{ia:Nat}{tw:Wv}(lk:Lk ia rows)(hf:f.length=ia)(h1:off+ia<=size)(h2:size<=60)(oh:ia<=7)(hs:∀k s,at' f k=some s->0<=s∧s<=7)(G:Givn rows f told)(om:iN)(ht:∀ij,(∀j,j<om.length->ij[j]?=om[j]?)->YI ij tw=some (told.map odW)){sw:Wv}(hw:∀ij,(∀j,j<om.length->ij[j]?=om[j]?)->YI ij sw=some (f.map ZA):=by intro _ _;rfl):∃kvs gs,X8 c [Zo ia off size,.lst (rows.map ZJ),sw,tw] om=some (.ok (.o (om.length+4)),om++[Y0 c size (om.length+1),.dt kvs,Yv c om.length (om.length+3),.dk (ZH (Yc off f ia)),ZM c (om.length+2) (om.length+5),.dk (Yl c off gs)])∧O6 rows off kvs∧Tell gs (at' told):=by
 have iQ:=ZQ;obtain⟨kvs,eb,mo,hk⟩:=FP c lk hf h1 oh hs om hw;have W:=De (c:=c) (om:=om) (kvs:=kvs) hf h1 h2;have hl:(Z0 c om size kvs (Yc off f ia)).length=om.length+4:=by simp[Z0]
 have S:=new_Os c (Z0 c om size kvs (Yc off f ia)) (om.length+2) off;have W2:=W.grow [ZM c (om.length+2) ((Z0 c om size kvs (Yc off f ia)).length+1),.dk []]
 have s1:ZD 4 (fA (Y2 c.Orders 2 (Y3 c)) (Zc (fA (kN 3 (WQ c)) (Zc (Za 0) (Zc (Za 1) (Zc (Za 2) Zj)))) Zj)) [some (Zo ia off size),some (.lst (rows.map ZJ)),some sw,some tw,none,none] om=some (.ok (.nx,[some (Zo ia off size),some (.lst (rows.map ZJ)),some sw,some tw,some (.o (Z0 c om size kvs (Yc off f ia)).length),none]),Z0 c om size kvs (Yc off f ia)++[ZM c (om.length+2) ((Z0 c om size kvs (Yc off f ia)).length+1),.dk []]):=
  Zw (i:=4) ((ZB (Ze ((ZB (Ze (Zb rfl) (Ze (Zb rfl) (Ze (Zb rfl) Zi)))).trans ((YG rfl).trans eb)) Zi)).trans (Re c _ _))
 obtain⟨gs,x,el,t⟩:=Gh (tw:=tw) (told:=told) (T:=λk=>(at' f k).map λ_=>Od.stand) (B:=TB c) (i:=5) (sl:=[some (Zo ia off size),some (.lst (rows.map ZJ)),some sw,some tw,some (.o (Z0 c om size kvs (Yc off f ia)).length),none]) W2 S (by rw[hl];omega) mo G
  (Tell.start0 λk o e=>by
   obtain⟨_,_,rfl⟩:=bZ.mp e;rfl) (λj=>by simp) (λij h=>ht ij λj hj=>by
   rw[h j (by rw[hl];omega),aQ (by rw[hl];omega)];unfold Z0;rw[aQ hj]) (λk om1 om2 e _=>ZY ((ZB (Ze (Zb rfl) (Ze ((Zs (Zb rfl) Zp).trans (ZI (k:=1) (v:=.int off) rfl rfl)) (Ze (Zb rfl) (Ze (Zb rfl) Zi))))).trans ((YG rfl).trans e)))
 refine⟨kvs,gs,?_,mo,t⟩;rw[hf]at el;have e4:=YV (sl1:=[]) (fi:=λsl=>bnd ((f2 kIx (Za 0) (fC (.int 0))) sl) Yw) (sl:=[some (Zo ia off size),some (.lst (rows.map ZJ)),some sw,some tw,some (.o (Z0 c om size kvs (Yc off f ia)).length),none]) ((Zm ((Zs (Zb rfl) Zp).trans (ZI (k:=0) (v:=.int ia) rfl rfl))).trans (X5 _ _ (by omega))) el;have r:X8 c [Zo ia off size,.lst (rows.map ZJ),sw,tw] om=_:=ZF ((Zh s1).trans ((Zh e4).trans (Zu (Zb (i:=4) rfl))));refine r.trans ?_
 have e:(Z0 c om size kvs (Yc off f ia)++[ZM c (om.length+2) ((Z0 c om size kvs (Yc off f ia)).length+1),.dk []]).set ((Z0 c om size kvs (Yc off f ia)).length+1) (.dk (Yl c off gs))=om++[Y0 c size (om.length+1),.dt kvs,Yv c om.length (om.length+3),.dk (ZH (Yc off f ia)),ZM c (om.length+2) (om.length+5),.dk (Yl c off gs)]:=by
  rw[bU _ _ (by omega),d8,hl];unfold Z0;rw[bS];rfl
 rw[e,hl]
end
end MP
namespace MP
noncomputable section
open PySem L2
def UF(c:CA):FS:=
 (YW (fA (kN 2 (N0 c)) (Zc (Za 0) (Zc (Za 2) Zj))) (Za 1) (Za 2))
def Pb(c:CA):FS:=
 (Zv (ZD 1 (λ_=>newO (.dk [])))
  (Zv (XQ (λsl=>bnd ((Zq c.Orders "movers" 1 (ZS c) (Za 0) Zj) sl) ZN) (tgN 2) (UF c))
  (Z8 (Za 1))))
def We(c:CA):iJ->Mw Wv:=Ye 3 (Pb c)
def TL(c:CA):FT:=
 (UG (fB (f2 kNe (Za 0) (Za 2))) (fB (f2 kEq (Zq c.Orders "goal_of" 2 (Zn c) (Za 1) (Zc (Za 0) Zj)) (Za 3))))
def TC(c:CA):FE:=
 (Za 0)
def TD(c:CA):FE:=
 (f2 kGe (f2 Wi (Za 1) (Za 0)) (f2 Wi (Za 1) (Za 2)))
def Md(c:CA):FS:=
 (Zv (ZD 3 (Zq c.Orders "goal_of" 2 (Zn c) (Za 0) (Zc (Za 2) Zj)))
  (Zv (ZD 4 (Vg ZL [0,2,3] (Za 1) (TL c) (TC c)))
  (Z8 (fA Ba (Zc (Z5 ZL [1,2] (λsl=>bnd ((Za 4) sl) ZN) Xh (TD c)) Zj)))))
def WX(c:CA):iJ->Mw Wv:=Ye 5 (Md c)
def Kt(c:CA):FS:=
 (Zv (ZD 4 (Zq c.Board "side_at" 2 (ZP c) (f1 (ZR c.Orders "board") (Za 0)) (Zc (Za 2) Zj)))
  (Z8 (V7 (f2 kNe (Za 4) (Zq c.Board "side_at" 2 (ZP c) (f1 (ZR c.Orders "board") (Za 0)) (Zc (Za 1) Zj))) (f2 kGt (fA (kN 3 (WG c)) (Zc (Za 0) (Zc (Za 1) (Zc (Za 4) Zj)))) (Za 3)))))
def WA(c:CA):iJ->Mw Wv:=Ye 5 (Kt c)
def Ls(c:CA):FS:=
 (Zv (ZD 3 (Zq c.Orders "goal_of" 2 (Zn c) (Za 0) (Zc (Za 2) Zj)))
  (Zv (sIf (Xj (fA (kN 3 (WX c)) (Zc (Za 0) (Zc (Za 1) (Zc (Za 2) Zj))))) (Z8 (fC (.int 1))) Yo)
  (Zv (sIf (fB (f1 Uc (Zq c.Board "side_at" 2 (ZP c) (f1 (ZR c.Orders "board") (Za 0)) (Zc (Za 3) Zj)))) (Z8 (fC (.int 0))) Yo)
  (Zv (sIf (fB (f2 kEq (Zq c.Orders "goal_of" 2 (Zn c) (Za 0) (Zc (Za 3) Zj)) (Za 2))) (Z8 (EI (Xj (fA (kN 4 (WA c)) (Zc (Za 0) (Zc (Za 2) (Zc (Za 3) (Zc (f2 Wi (Za 1) (Za 3)) Zj)))))) (fC (.int 0)) (fC (.int 2)))) Yo)
  (Z8 (EI (Xj (fA (kN 4 (WA c)) (Zc (Za 0) (Zc (Za 2) (Zc (Za 3) (Zc (fA (kN 2 (Uj c)) (Zc (Za 0) (Zc (Za 3) Zj))) Zj)))))) (fC (.int 0)) (fC (.int 3))))))))
def UN(c:CA):iJ->Mw Wv:=Ye 4 (Ls c)
def VL(c:CA):FS:=
 (YW (fA (kN 3 (UN c)) (Zc (Za 0) (Zc (Za 1) (Zc (Za 3) Zj)))) (Za 2) (Za 3))
def Lb(c:CA):FS:=
 (Zv (ZD 1 (fA (kN 1 (We c)) (Zc (Za 0) Zj)))
  (Zv (ZD 2 (λ_=>newO (.dk [])))
  (Zv (Hc (Za 1) (tgN 3) (VL c))
  (Z8 (Za 2)))))
def WL(c:CA):iJ->Mw Wv:=Ye 4 (Lb c)
def DR(c:CA):FS:=
 (Zv (sIf (UG (fB (f2 kEq (f2 Wi (Za 1) (Za 2)) (fC (.int 3)))) (fB (f2 (Lh false) (Zq c.Orders "goal_of" 2 (Zn c) (Za 0) (Zc (Za 2) Zj)) (Za 3)))) (Z8 (fC (.int 0))) Yo)
  (Z8 (f2 Wi (Za 1) (Za 2))))
def M9(c:CA):iJ->Mw Wv:=Ye 4 (DR c)
def Pf(c:CA):FE:=
 (fA Y6 (Zc (Za 4) (Zc (Za 0) (Zc (fA (kN 4 (M9 c)) (Zc (Za 1) (Zc (Za 2) (Zc (Za 0) (Zc (Za 3) Zj))))) Zj))))
def Pe(c:CA):FT:=
 (fB (f2 kNe (f2 kIx (Za 0) (fC (.int 2))) (fC (.int 0))))
def Pi(c:CA):FE:=
 (Za 0)
def Pt(c:CA):FT:=
 (fB (f2 kEq (f2 kIx (Za 0) (fC (.int 2))) (fC (.int 0))))
def QZ(c:CA):FE:=
 (f2 kIx (Za 0) (fC (.int 1)))
def Wl(c:CA):FS:=
 (Zv (ZD 5 (Z5 ZL [0,1,2,4] (λsl=>bnd ((Za 2) sl) ZN) Xh (Pf c)))
  (Zv (ZD 6 (Z5 ZL [] (λsl=>bnd ((Za 5) sl) ZN) (Pe c) (Pi c)))
  (Zv (sIf (fB (f2 kEq (Za 6) (fA ZL Zj))) (Z8 (Za 3)) Yo)
  (Zv (Z9 (D9 (Za 3) (Za 6)))
  (Zv (ZD 2 (Z5 ZL [] (λsl=>bnd ((Za 5) sl) ZN) (Pt c) (QZ c)))
  (ZD 4 (f2 Wz (Za 4) (fC (.int 1)))))))))
def GV(c:CA):FS:=
 (Zv (ZD 1 (fA (kN 1 (WL c)) (Zc (Za 0) Zj)))
  (Zv (ZD 2 (Zq c.Orders "movers" 1 (ZS c) (Za 0) Zj))
  (Zv (ZD 3 (fA X6 Zj))
  (Zv (ZD 4 (fC (.int 1)))
  (VM (Xj (fC (.bl true))) (Wl c) 100)))))
def RG(c:CA):iJ->Mw Wv:=Ye 7 (GV c)
def Ui(c:CA):iJ->Mw Wv:=tidyG (RG c)
def PZ(c:CA):FE:=
 (f2 kIx (Za 0) (fC (.int 1)))
def Jc(c:CA):FT:=
 (fB (f2 (Lh true) (Za 0) (Za 1)))
def Ji(c:CA):FE:=
 (Za 0)
def HG(c:CA):FS:=
 (Zv (ZD 1 (Z5 ZL [] (λsl=>bnd ((fA (kN 1 (Ui c)) (Zc (Za 0) Zj)) sl) ZN) Xh (PZ c)))
  (Z8 (Z5 ZL [1] (λsl=>bnd ((Zq c.Orders "movers" 1 (ZS c) (Za 0) Zj) sl) ZN) (Jc c) (Ji c))))
def XF(c:CA):iJ->Mw Wv:=Ye 2 (HG c)
end
open PySem L2
def Yr(off:Nat)(l:iD)(v:Nat->Int):iM:=l.map λ(k:Nat)=>(.inl ((off:Int)+k),.int (v k))
def P8(off:Nat)(l:iD)(v:Nat->Int):(Yr off l v).length=l.length:=by simp[Yr]
def KA{off:Nat}{v:Nat->Int}{k:Nat}:∀{l:iD},k∈l->V9 (Yr off l v) (.inl ((off:Int)+k))=some (.int (v k))
 |[],h=>nomatch h
 |j::l,h=>by
  unfold V9 Yr;rw[aU,cB];dsimp only;rw[MY];by_cases e:j=k
  ·subst e;simp
  ·rw[aL e]
   rcases aR.mp h with z|z
   ·exact absurd z.symm e
   ·exact KA z
def Dc{off:Nat}{v:Nat->Int}{k:Nat}{l:iD}(h:k ∉ l):WP (Yr off l v) (.inl ((off:Int)+k)) (.int (v k))=Yr off (l++[k]) v:=by
 have e:((Yr off l v).any λkv=>decide (kv.1=(.inl ((off:Int)+k):Key)))=false:=by
  rw[fw];intro p hp;obtain⟨j,hj,rfl⟩:=aZ.mp hp;dsimp only;rw[MY];have:j≠k:=λz=>h (z ▸ hj)
  simp[this]
 unfold WP;rw[e,aE aJ];unfold Yr;rw[cu];rfl
def Nt(off:Nat)(l:iD)(v:Nat->Int):((Yr off l v).map λp=>Sx p.1)=l.map λ(k:Nat)=>Wv.int ((off:Int)+k):=by
 unfold Yr;rw[aS];rfl
def mvL(told:iO)(f:hY):iD:=(List.range f.length).filter λk=>Xz (at' told k)
def UT(told:iO)(f:hY):(mvL told f).Nodup:=List.Nodup.sublist bY dU
def Wt{told:iO}{f:hY}{k:Nat}:k∈mvL told f ↔ k<f.length∧∃g,at' told k=some (.move g):=by
 unfold mvL;rw[aG,aX];refine and_congr_right λ_=>?_
 match e:at' told k with
 |none=>simp[Xz]
 |some .stand=>simp[Xz]
 |some (.move g)=>simp[Xz]
 |some (.help a b)=>simp[Xz]
def XX(told:iO)(f:hY):(mvL told f).length<=f.length:=cg (aV _ _) (by simp)
def WC{α:Type}{T:TgW}{S:FS}(φ:α->Wv)(J:List α->Sl->List Ob->Prop):∀(l pre:List α) {sl:Sl} {om:iN},(∀p a q,pre++l=p++a::q->∀sl om,J p sl om->∃sl1 iT om2,T (φ a) sl=some sl1∧S sl1 om=some (.ok (.nx,iT),om2)∧J (p++[a]) iT om2)->J pre sl om->∃iS ij,VE T S (l.map φ) sl om=some (.ok (.nx,iS),ij)∧J (pre++l) iS ij
 |[],pre,sl,om,_,j=>⟨sl,om,rfl,by rw[cC];exact j⟩
 |a::l,pre,sl,om,h,j=>by
  obtain⟨sl1,iT,om2,e1,e2,j2⟩:=h pre a l rfl sl om j;have ee:pre++[a]++l=pre++a::l:=by simp
  obtain⟨iS,ij,e3,j3⟩:=WC φ J l (pre++[a]) (λp b q hq=>h p b q (by rw[← hq,ee])) j2;refine⟨iS,ij,?_,by rw[← ee];exact j3⟩;rw[aU];show(match T (φ a) sl with|none=>Wg|some sl1=>bnd (S sl1) (QD λiT=>VE T S (l.map φ) iT)) om=_;rw[e1];dsimp only;rw[Zm e2];exact e3
def Du{k:iJ->Mw Wv}{js:iD}{fd:FE}{cT:FT}{fE:FE}{sl:Sl}{om:iN}{h:Nat}{kvs:iM}{us:iJ}(hd:fd sl om=some (.ok (.o h),om))(hx:om[h]?=some (.dz kvs))(hl:kvs.length<=lim)(hc:Xm cT fE (λw=>Xd js w sl) (kvs.map λp=>Sx p.1) om=some (.ok us,om)):Vg k js fd cT fE sl om=k us om:=by
 unfold Vg;rw[Zm hd];refine(Zm (a:=(false,h,kvs.map λp=>Sx p.1)) (om1:=om) (by simp[JG,hx,hl])).trans ?_;rw[Zm hc];exact(Zm (a:=()) (om1:=om) rfl).trans rfl
def YB{ws:iJ}{om:iN}(h:ws.length<=100):ZL ws om=some (.ok (.lst ws),om):=by
 have:=ZQ;unfold ZL;rw[aC (by omega)];rfl
structure Sit(c:CA)(om:iN)(ho hb hm hu hl hg size off:Nat)(f:hY)(kvs:iL)(gs:Gs)(rows:Mx)(told:iO):Prop where
 W:Wd c om hb hm hu hl size off f kvs
 S:Os c om ho hb hg off gs
 G:Givn rows f told
 t:Tell gs (at' told)
 s7:∀k s,at' f k=some s->0<=s∧s<=7
section
variable{c:CA}{om:iN}{ho hb hm hu hl hg size off:Nat}{f:hY}{kvs:iL}{gs:Gs}{rows:Mx}{told:iO}
def Sit.grow(A:Sit c om ho hb hm hu hl hg size off f kvs gs rows told)(l:iN):Sit c (om++l) ho hb hm hu hl hg size off f kvs gs rows told:=⟨A.W.grow l,A.S.grow l,A.G,A.t,A.s7⟩
def Sit.few(A:Sit c om ho hb hm hu hl hg size off f kvs gs rows told):f.length<=60:=by have:=A.W.fit;have:=A.W.few;omega
def SW(A:Sit c om ho hb hm hu hl hg size off f kvs gs rows told):ZS c [.o ho] om=some (.ok (.lst ((mvL told f).map λ(k:Nat)=>Wv.int ((off:Int)+k))),om):=Lp A.W A.S A.G A.t
def Rm(A:Sit c om ho hb hm hu hl hg size off f kvs gs rows told){k:Nat}{o:Od}(e:at' told k=some o){sl:Sl}{i j:Nat}(s0:sl[i]?=some (some (.o ho)))(s1:sl[j]?=some (some (.int ((off:Int)+k)))):Zq c.Orders "goal_of" 2 (Zn c) (Za i) (Zc (Za j) Zj) sl om=some (.ok (U9 off o),om):=(Zz (Zb s0) (Zy A.S.o) (ZV _ _ _ (by decide) (by decide)) (Ze (Zb s1) Zi) rfl).trans (M0 A.S A.t e)
def J4(A:Sit c om ho hb hm hu hl hg size off f kvs gs rows told){k:Nat}(hk:k<f.length){sl:Sl}{i j:Nat}(s0:sl[i]?=some (some (.o ho)))(s1:sl[j]?=some (some (.int ((off:Int)+k)))):Zq c.Board "side_at" 2 (ZP c) (f1 (ZR c.Orders "board") (Za i)) (Zc (Za j) Zj) sl om=some (.ok (ZA (at' f k)),om):=(Zz (WF A.S s0) (Zy A.W.b) (Yi _ _ _ (by decide) (by decide)) (Ze (Zb s1) Zi) rfl).trans (Mo A.W hk)
abbrev fN(told:iO)(f:hY)(k:Nat):Int:=U7 told f k (-1)
def Nd{om:iN}{l:iD}{v:Nat->Int}{k:Nat}{sl:Sl}{fv:FE}{i j:Nat}(n:Nat)(om0:iN)(oo:om=om0++[.dk (Yr off l v)])(hn:n=om0.length)(hv:fv sl om=some (.ok (.int (v k)),om))(hi:sl[i]?=some (some (.o n)))(hj:sl[j]?=some (some (.int ((off:Int)+k))))(hk:k ∉ l)(ip:l.length<=60):YW fv (Za i) (Za j) sl om=some (.ok (.nx,sl),om0++[.dk (Yr off (l++[k]) v)]):=by
 have iQ:=ZQ;subst oo hn;unfold YW;rw[Zm hv,Zm (Zb hi),Zm (Zb hj)];refine(Zm (a:=()) (om1:=om0++[.dk (Yr off (l++[k]) v)]) ?_).trans rfl;have h1:(Yr off l v).length<lim:=by rw[P8];omega
 have h2:(om0++[Ob.dk (Yr off l v)])[om0.length]?=some (.dk (Yr off l v)):=by simp
 have h3:(om0++[Ob.dk (Yr off l v)]).set om0.length (.dk (Yr off (l++[k]) v))=om0++[.dk (Yr off (l++[k]) v)]:=by
  rw[bU _ _ (aK _),dP];rfl
 simp only[Q9,OK,h2,Y8];rw[aC h1,Dc hk,h3]
def Dl(A:Sit c om ho hb hm hu hl hg size off f kvs gs rows told):We c [.o ho] om=some (.ok (.o om.length),om++[.dk (Yr off (mvL told f) (fN told f))]):=by
 have iQ:=ZQ;have jp:=A.few;have hml:=XX told f;have e1:ZD 1 (λ_=>newO (.dk [])) [some (.o ho),none,none] om=some (.ok (.nx,[some (.o ho),some (.o om.length),none]),om++[.dk []]):=Zw (i:=1) rfl;have A1:=A.grow [.dk []]
 obtain⟨iS,ij,ef,i7,x,rfl⟩:=WC (T:=tgN 2) (S:=UF c) (λ(k:Nat)=>Wv.int ((off:Int)+k)) (λp sl ij=>ij=om++[.dk (Yr off p (fN told f))]∧∃x,sl=[some (.o ho),some (.o om.length),x]) (mvL told f) [] (sl:=[some (.o ho),some (.o om.length),none]) (om:=om++[.dk []]) (λp a q hq sl ij ⟨h1,x,h2⟩=>by
  subst h2;have hq:mvL told f=p++a::q:=hq;have ha:a∈mvL told f:=by rw[hq];simp
  obtain⟨_,g,lW⟩:=Wt.mp ha;have nd:=UT told f;rw[hq]at nd;have hap:a ∉ p:=λhp=>(cH.mp nd).2.2 a hp a (.head _) rfl
  have iR:p.length<=60:=by
   have:p.length<=(mvL told f).length:=by rw[hq];simp
   omega
  have A2:Sit c ij ho hb hm hu hl hg size off f kvs gs rows told:=by rw[h1];exact A.grow _
  refine⟨[some (.o ho),some (.o om.length),some (.int ((off:Int)+a))],_,_,rfl,Nd (i:=1) (j:=2) (k:=a) om.length om h1 rfl ((ZB (Ze (Zb rfl) (Ze (Zb rfl) Zi))).trans ((YG rfl).trans (F7 A2.W A2.S A2.G A2.t A2.s7 lW))) rfl rfl hap iR,rfl,_,rfl⟩) ⟨rfl,_,rfl⟩
 have e2:=YV (sl1:=[]) (fi:=λsl=>bnd ((Zq c.Orders "movers" 1 (ZS c) (Za 0) Zj) sl) ZN) (sl:=[some (.o ho),some (.o om.length),none]) ((Zm ((Zz (Zb rfl) (Zy A1.S.o) (ZV _ _ _ (by decide) (by decide)) Zi rfl).trans (SW A1))).trans rfl) ef;rw[i7]at e2;exact ZF ((Zh e1).trans ((Zh e2).trans (Zu (Zb rfl))))
def QF(told:iO)(f:hY)(k g:Nat):Bool:=((mvL told f).filter λm=>!decide (m=k)&&decide (at' told m=some (.move g))).any λm=>decide (fN told f k<=fN told f m)
def N8{h:Nat}{l:iD}{v:Nat->Int}(hx:om[h]?=some (.dk (Yr off l v))∨om[h]?=some (.dz (Yr off l v))){k:Nat}(hk:k∈l){sl:Sl}{i j:Nat}(hi:sl[i]?=some (some (.o h)))(hj:sl[j]?=some (some (.int ((off:Int)+k)))):f2 Wi (Za i) (Za j) sl om=some (.ok (.int (v k)),om):=by
 refine(v2 hi hj).trans ?_;have e:=KA (off:=off) (v:=v) hk;rcases hx with hx|hx
 ·simp only[Wi,Wm,hx,Y8,e]
 ·simp only[Wi,Wm,hx,Y8,e]
def Js(A:Sit c om ho hb hm hu hl hg size off f kvs gs rows told){hF k g:Nat}(hx:om[hF]?=some (.dz (Yr off (mvL told f) (fN told f))))(e:at' told k=some (.move g))(hk:k<f.length):WX c [.o ho,.o hF,.int ((off:Int)+k)] om=some (.ok (.bl (QF told f k g)),om):=by
 have iQ:=ZQ;have jp:=A.few;have hml:=XX told f;have hkm:k∈mvL told f:=Wt.mpr ⟨hk,g,e⟩;have e1:ZD 3 (Zq c.Orders "goal_of" 2 (Zn c) (Za 0) (Zc (Za 2) Zj)) [some (.o ho),some (.o hF),some (.int ((off:Int)+k)),none,none] om=some (.ok (.nx,[some (.o ho),some (.o hF),some (.int ((off:Int)+k)),some (.int ((off:Int)+g)),none]),om):=Zw (i:=3) (Rm A e rfl rfl);generalize hp:(λm=>!decide (m=k)&&decide (at' told m=some (.move g)))=p;have hfl:=aV p (mvL told f)
 have e2:ZD 4 (Vg ZL [0,2,3] (Za 1) (TL c) (TC c)) [some (.o ho),some (.o hF),some (.int ((off:Int)+k)),some (.int ((off:Int)+g)),none] om=some (.ok (.nx,[some (.o ho),some (.o hF),some (.int ((off:Int)+k)),some (.int ((off:Int)+g)),some (.lst (((mvL told f).filter p).map λ(m:Nat)=>Wv.int ((off:Int)+m)))]),om):=by
  refine Zw (i:=4) ((Du (us:=((mvL told f).filter p).map λ(m:Nat)=>Wv.int ((off:Int)+m)) (Zb rfl) hx (by rw[P8];omega) ?_).trans (YB (by rw[aA];omega)));rw[Nt];refine YE (λ(m:Nat)=>Wv.int ((off:Int)+m)) p (λ(m:Nat)=>Wv.int ((off:Int)+m)) (λm hm=>?_) (λm hm _=>Zb rfl);obtain⟨kM,g',jH⟩:=Wt.mp hm;rw[← hp];refine Sv (ZW ((v2 rfl rfl).trans ((RO _ _ _).trans (by rw[QT])))) λ_=>ZW ((Zs (Rm A jH rfl rfl) (Zb rfl)).trans ((QJ _ _ _ _).trans ?_))
  rw[jH];simp
 have e3:Z5 ZL [1,2] (λsl=>bnd ((Za 4) sl) ZN) Xh (TD c) [some (.o ho),some (.o hF),some (.int ((off:Int)+k)),some (.int ((off:Int)+g)),some (.lst (((mvL told f).filter p).map λ(m:Nat)=>Wv.int ((off:Int)+m)))] om=some (.ok (.lst (((mvL told f).filter p).map λm=>Wv.bl (decide (fN told f k<=fN told f m)))),om):=by
  refine(Wj (ws:=((mvL told f).filter p).map λ(m:Nat)=>Wv.int ((off:Int)+m)) (om1:=om) ((Zm (a:=.lst (((mvL told f).filter p).map λ(m:Nat)=>Wv.int ((off:Int)+m))) (om1:=om) (Zb rfl)).trans rfl) (by rw[aA];omega) (YE (λ(m:Nat)=>Wv.int ((off:Int)+m)) (λ_=>true) (λm=>Wv.bl (decide (fN told f k<=fN told f m))) (λm hm=>rfl) (λm hm _=>?_))).trans ?_
  ·have hmm:=(aG.mp hm).1
   exact(Zs (N8 (.inr hx) hmm rfl rfl) (N8 (.inr hx) hkm rfl rfl)).trans rfl
  ·rw[cb.mpr (λ_ _=>rfl)]
   exact YB (by rw[aA];omega)
 refine ZF ((Zh e1).trans ((Zh e2).trans (Zu ((ZB (Ze e3 Zi)).trans ?_))));show(match VD (((mvL told f).filter p).map λm=>Wv.bl (decide (fN told f k<=fN told f m))) with|some bs=>some (Except.ok (Wv.bl (bs.any id)),om)|none=>none)=_;rw[Sr];show some (Except.ok (Wv.bl ((((mvL told f).filter p).map λm=>decide (fN told f k<=fN told f m)).any id)),om)=_;unfold QF;rw[List.any_map,hp];rfl
def Qp(told:iO)(f:hY)(k g:Nat)(st:Int):Bool:=!decide (at' f g=at' f k)&&decide (st<Xs told f k g (at' f g))
def DQ(A:Sit c om ho hb hm hu hl hg size off f kvs gs rows told){k g:Nat}{s:Int}(e:at' told k=some (.move g))(hk:k<f.length)(mz:at' f g=some s)(st:Int):WA c [.o ho,.int ((off:Int)+k),.int ((off:Int)+g),.int st] om=some (.ok (.bl (Qp told f k g st)),om):=by
 have e1:ZD 4 (Zq c.Board "side_at" 2 (ZP c) (f1 (ZR c.Orders "board") (Za 0)) (Zc (Za 2) Zj)) [some (.o ho),some (.int ((off:Int)+k)),some (.int ((off:Int)+g)),some (.int st),none] om=some (.ok (.nx,[some (.o ho),some (.int ((off:Int)+k)),some (.int ((off:Int)+g)),some (.int st),some (.int s)]),om):=by
  have q:=J4 A (VZ mz) (sl:=[some (.o ho),some (.int ((off:Int)+k)),some (.int ((off:Int)+g)),some (.int st),none]) (i:=0) (j:=2) rfl rfl;rw[mz]at q;exact Zw (i:=4) q
 refine ZF ((Zh e1).trans (Zu ?_)) (sl1:=[some (.o ho),some (.int ((off:Int)+k)),some (.int ((off:Int)+g)),some (.int st),some (.int s)]);unfold Qp;rw[mz];refine QQ ((Zs (Zb rfl) (J4 A hk rfl rfl)).trans (Kr (some s) (at' f k) om)) λ_=>?_
 have ag:=JW A.W A.S A.G A.t e s;rw[show U7 told f k s=Xs told f k g (some s) by unfold U7;rw[e]]at ag;exact(Zs ((ZB (Ze (Zb rfl) (Ze (Zb rfl) (Ze (Zb rfl) Zi)))).trans ((YG rfl).trans ag)) (Zb rfl)).trans rfl
def WE(told:iO)(f:hY)(k g:Nat):Int:=
 bif QF told f k g then 1
 else bif (at' f g).isNone then 0
 else bif decide (at' told g=some (.move k)) then (bif Qp told f k g (fN told f g) then 0 else 2)
 else (bif Qp told f k g (OX told f g) then 0 else 3)
def BK{cT:FT}{a b:FE}{sl:Sl}{x:Bool}{m n:Int}(h:cT sl om=some (.ok x,om))(ha:a sl om=some (.ok (.int m),om))(hb:b sl om=some (.ok (.int n),om)):EI cT a b sl om=some (.ok (.int (bif x then m else n)),om):=by
 unfold EI;rw[Zm h];cases x with
 |true=>rw[aC rfl];exact ha
 |false=>rw[aE aJ];exact hb
def CO(A:Sit c om ho hb hm hu hl hg size off f kvs gs rows told){hF k g:Nat}(hx:om[hF]?=some (.dz (Yr off (mvL told f) (fN told f))))(e:at' told k=some (.move g)):UN c [.o ho,.o hF,.int ((off:Int)+k)] om=some (.ok (.int (WE told f k g)),om):=by
 have hk:k<f.length:=A.G.same.lt k _ e;have jI:g<f.length:=by have:=(A.G.okT.mv k g e).1;rw[A.G.len]at this;exact this
 have e1:ZD 3 (Zq c.Orders "goal_of" 2 (Zn c) (Za 0) (Zc (Za 2) Zj)) [some (.o ho),some (.o hF),some (.int ((off:Int)+k)),none] om=some (.ok (.nx,[some (.o ho),some (.o hF),some (.int ((off:Int)+k)),some (.int ((off:Int)+g))]),om):=Zw (i:=3) (Rm A e rfl rfl);have t1:Xj (fA (kN 3 (WX c)) (Zc (Za 0) (Zc (Za 1) (Zc (Za 2) Zj)))) [some (.o ho),some (.o hF),some (.int ((off:Int)+k)),some (.int ((off:Int)+g))] om=some (.ok (QF told f k g),om):=XE ((ZB (Ze (Zb rfl) (Ze (Zb rfl) (Ze (Zb rfl) Zi)))).trans ((YG rfl).trans (Js A hx e hk)));have t2:fB (f1 Uc (Zq c.Board "side_at" 2 (ZP c) (f1 (ZR c.Orders "board") (Za 0)) (Zc (Za 3) Zj))) [some (.o ho),some (.o hF),some (.int ((off:Int)+k)),some (.int ((off:Int)+g))] om=some (.ok (at' f g).isNone,om):=ZW ((Wa (J4 A jI rfl rfl)).trans (Oj _ _));unfold WE;cases h1:QF told f k g with
 |true=>
  rw[h1]at t1;exact ZF ((Zh e1).trans (YA ((Yn t1).trans (Zu Zp))))
 |false=>
  rw[h1]at t1
  match h2:at' f g with
  |none=>
   rw[h2]at t2;exact ZF ((Zh e1).trans ((Zh (ZK t1)).trans (YA ((Yn t2).trans (Zu Zp)))))
  |some s=>
   rw[h2]at t2;obtain⟨o,mB⟩:=bE.mp ((A.G.same g).trans (by rw[h2];rfl))
   have t3:fB (f2 kEq (Zq c.Orders "goal_of" 2 (Zn c) (Za 0) (Zc (Za 3) Zj)) (Za 2)) [some (.o ho),some (.o hF),some (.int ((off:Int)+k)),some (.int ((off:Int)+g))] om=some (.ok (decide (at' told g=some (.move k))),om):=by
    refine ZW ((Zs (Rm A mB rfl rfl) (Zb rfl)).trans ((QJ _ _ _ _).trans ?_));rw[mB];simp
   have rest:∀(st:Int) (fe:FE),fe [some (.o ho),some (.o hF),some (.int ((off:Int)+k)),some (.int ((off:Int)+g))] om=some (.ok (.int st),om)->Xj (fA (kN 4 (WA c)) (Zc (Za 0) (Zc (Za 2) (Zc (Za 3) (Zc fe Zj))))) [some (.o ho),some (.o hF),some (.int ((off:Int)+k)),some (.int ((off:Int)+g))] om=some (.ok (Qp told f k g st),om):=λst fe he=>XE ((ZB (Ze (Zb rfl) (Ze (Zb rfl) (Ze (Zb rfl) (Ze he Zi))))).trans ((YG rfl).trans (DQ A e hk h2 st)))
   by_cases h3:at' told g=some (.move k)
   ·rw[bL h3]at t3 ⊢
    have hgm:g∈mvL told f:=Wt.mpr ⟨jI,k,h3⟩;have q:=BK (a:=fC (.int 0)) (b:=fC (.int 2)) (m:=0) (n:=2) (rest _ (f2 Wi (Za 1) (Za 3)) (N8 (i:=1) (j:=3) (.inr hx) hgm rfl rfl)) Zp Zp;exact ZF ((Zh e1).trans ((Zh (ZK t1)).trans ((Zh (ZK t2)).trans (YA ((Yn t3).trans (Zu q))))))
   ·rw[aL h3]at t3 ⊢
    have q:=BK (a:=fC (.int 0)) (b:=fC (.int 3)) (m:=0) (n:=3) (rest _ (fA (kN 2 (Uj c)) (Zc (Za 0) (Zc (Za 3) Zj))) ((ZB (Ze (Zb rfl) (Ze (Zb rfl) Zi))).trans ((YG rfl).trans (Kc A.W A.S A.G A.t A.s7 mB)))) Zp Zp;exact ZF ((Zh e1).trans ((Zh (ZK t1)).trans ((Zh (ZK t2)).trans ((Zh (ZK t3)).trans (Zu q)))))
def hN(told:iO)(f:hY)(k:Nat):Int:=match at' told k with
 |some (.move g)=>WE told f k g
 |_=>0
def Dd(A:Sit c om ho hb hm hu hl hg size off f kvs gs rows told):WL c [.o ho] om=some (.ok (.o (om.length+1)),om++[.dk (Yr off (mvL told f) (fN told f)),.dk (Yr off (mvL told f) (hN told f))]):=by
 have iQ:=ZQ;have jp:=A.few;have hml:=XX told f;generalize hD:Yr off (mvL told f) (fN told f)=D;have hDl:D.length<=lim:=by rw[← hD,P8];omega
 have e1:ZD 1 (fA (kN 1 (We c)) (Zc (Za 0) Zj)) [some (.o ho),none,none,none] om=some (.ok (.nx,[some (.o ho),some (.o om.length),none,none]),om++[.dk D]):=by
  rw[← hD];exact Zw (i:=1) ((ZB (Ze (Zb rfl) Zi)).trans ((YG rfl).trans (Dl A)))
 have hl1:(om++[Ob.dk D]).length=om.length+1:=by simp
 have e2:ZD 2 (λ_=>newO (.dk [])) [some (.o ho),some (.o om.length),none,none] (om++[.dk D])=some (.ok (.nx,[some (.o ho),some (.o om.length),some (.o (om.length+1)),none]),om++[.dk D,.dk []]):=by
  refine(Zw (i:=2) (w:=.o (om++[Ob.dk D]).length) (om1:=om++[.dk D]++[.dk []]) rfl).trans ?_;rw[hl1,bS];rfl
 obtain⟨iS,ij,ef,i7,x,rfl⟩:=WC (T:=tgN 3) (S:=VL c) (λ(k:Nat)=>Wv.int ((off:Int)+k)) (λp sl ij=>ij=om++[.dz D]++[.dk (Yr off p (hN told f))]∧∃x,sl=[some (.o ho),some (.o om.length),some (.o (om.length+1)),x]) (mvL told f) [] (sl:=[some (.o ho),some (.o om.length),some (.o (om.length+1)),none]) (om:=om++[.dz D]++[.dk []]) (λp a q hq sl ij ⟨h1,x,h2⟩=>by
  subst h2;have hq:mvL told f=p++a::q:=hq;have ha:a∈mvL told f:=by rw[hq];simp
  obtain⟨_,g,lW⟩:=Wt.mp ha;have nd:=UT told f;rw[hq]at nd;have hap:a ∉ p:=λhp=>(cH.mp nd).2.2 a hp a (.head _) rfl
  have iR:p.length<=60:=by
   have:p.length<=(mvL told f).length:=by rw[hq];simp
   omega
  have A2:Sit c ij ho hb hm hu hl hg size off f kvs gs rows told:=by rw[h1,bS];exact A.grow _
  have hx:ij[om.length]?=some (.dz (Yr off (mvL told f) (fN told f))):=by rw[h1,hD];simp
  have hv:=CO A2 hx lW;rw[show WE told f a g=hN told f a by unfold hN;rw[lW]]at hv;exact⟨[some (.o ho),some (.o om.length),some (.o (om.length+1)),some (.int ((off:Int)+a))],_,_,rfl,Nd (i:=2) (j:=3) (k:=a) (om.length+1) (om++[.dz D]) h1 (by simp) ((ZB (Ze (Zb rfl) (Ze (Zb rfl) (Ze (Zb rfl) Zi)))).trans ((YG rfl).trans hv)) rfl rfl hap iR,rfl,_,rfl⟩) ⟨rfl,_,rfl⟩
 have e3:Hc (Za 1) (tgN 3) (VL c) [some (.o ho),some (.o om.length),some (.o (om.length+1)),none] (om++[.dk D,.dk []])=some (.ok (.nx,[some (.o ho),some (.o om.length),some (.o (om.length+1)),x]),om++[.dk D,.dk (Yr off (mvL told f) (hN told f))]):=by
  unfold Hc;rw[Zm (Zb rfl)];have g0:(om++[Ob.dk D,.dk []])[om.length]?=some (.dk D):=by simp
  have g1:(om++[Ob.dk D,.dk []]).set om.length (.dz D)=om++[.dz D]++[.dk []]:=by
   rw[bU _ _ (aK _),dP,bS];rfl
  refine(Zm (a:=(true,om.length,D.map λp=>Sx p.1)) (om1:=om++[.dz D]++[.dk []]) (by simp only[JG,g0,aC hDl,g1])).trans ?_;dsimp only;have hk:(D.map λp=>Sx p.1)=(mvL told f).map λ(k:Nat)=>Wv.int ((off:Int)+k):=by rw[← hD,Nt]
  rw[hk];refine(Zm (a:=(.nx,[some (.o ho),some (.o om.length),some (.o (om.length+1)),x])) (om1:=ij) (by unfold Yb;rw[ef])).trans ?_;rw[i7];have g2:(om++[Ob.dz D]++[Ob.dk (Yr off ([]++mvL told f) (hN told f))])[om.length]?=some (.dz D):=by simp
  have g3:(om++[Ob.dz D]++[Ob.dk (Yr off ([]++mvL told f) (hN told f))]).set om.length (.dk D)=om++[.dk D,.dk (Yr off (mvL told f) (hN told f))]:=by
   rw[bS,bU _ _ (aK _),dP];rfl
  have g4:Jj true om.length (om++[Ob.dz D]++[Ob.dk (Yr off ([]++mvL told f) (hN told f))])=some (.ok (),om++[.dk D,.dk (Yr off (mvL told f) (hN told f))]):=by
   unfold Jj;rw[aC rfl,g2];dsimp only;rw[g3]
  exact(Zm g4).trans rfl
 exact ZF ((Zh e1).trans ((Zh e2).trans ((Zh e3).trans (Zu (Zb rfl)))))
end
def LO(off a:Nat):∀l:iD,inV (.int ((off:Int)+a)) (l.map λ(k:Nat)=>V.int ((off:Int)+k))=l.contains a
 |[]=>rfl
 |k::l=>by
  have ih:=LO off a l;unfold inV at ih ⊢;rw[aU,dB,ih,gD]
  congr 1
  show((off:Int)+k == (off:Int)+a)=(a == k);by_cases h:a=k
  ·subst h;simp
  ·rw[aY.mpr h,aY.mpr (by omega)]
def Nr{off a:Nat}{l:iD}{om:iN}{pw:Wv}(hp:YI om pw=some (l.map λ(k:Nat)=>Wv.int ((off:Int)+k)))(neg:Bool):Lh neg (.int ((off:Int)+a)) pw om=some (.ok (.bl (if neg then !l.contains a else l.contains a)),om):=by
 unfold Lh;rw[hp];dsimp only
 have h1:(SJ (.int ((off:Int)+a))&&(l.map λ(k:Nat)=>Wv.int ((off:Int)+k)).all SJ)=true:=by
  rw[List.all_map];simp[SJ]
 rw[aC h1,aS];have h2:(l.map (toV ∘ λ(k:Nat)=>Wv.int ((off:Int)+k)))=l.map λ(k:Nat)=>V.int ((off:Int)+k):=rfl
 rw[h2];show some (Except.ok (Wv.bl (if neg=true then !inV (.int ((off:Int)+a)) (l.map λ(k:Nat)=>V.int ((off:Int)+k)) else inV (.int ((off:Int)+a)) (l.map λ(k:Nat)=>V.int ((off:Int)+k)))),om)=_;rw[LO]
section
variable{c:CA}{om:iN}{ho hb hm hu hl hg size off:Nat}{f:hY}{kvs:iL}{gs:Gs}{rows:Mx}{told:iO}
def Z7(told:iO)(f:hY)(ps:iD)(k:Nat):Int:=match at' told k with
 |some (.move g)=>bif decide (WE told f k g=3)&&ps.contains g then 0 else WE told f k g
 |_=>0
def Er(A:Sit c om ho hb hm hu hl hg size off f kvs gs rows told){lX k:Nat}{pw:Wv}{ps:iD}(hx:om[lX]?=some (.dk (Yr off (mvL told f) (hN told f))))(hk:k∈mvL told f)(hp:YI om pw=some (ps.map λ(k:Nat)=>Wv.int ((off:Int)+k))):M9 c [.o ho,.o lX,.int ((off:Int)+k),pw] om=some (.ok (.int (Z7 told f ps k)),om):=by
 obtain⟨pd,g,e⟩:=Wt.mp hk;have eh:hN told f k=WE told f k g:=by unfold hN;rw[e]
 have d1:f2 Wi (Za 1) (Za 2) [some (.o ho),some (.o lX),some (.int ((off:Int)+k)),some pw] om=some (.ok (.int (WE told f k g)),om):=by
  rw[← eh];exact N8 (.inl hx) hk rfl rfl
 have t1:UG (fB (f2 kEq (f2 Wi (Za 1) (Za 2)) (fC (.int 3)))) (fB (f2 (Lh false) (Zq c.Orders "goal_of" 2 (Zn c) (Za 0) (Zc (Za 2) Zj)) (Za 3))) [some (.o ho),some (.o lX),some (.int ((off:Int)+k)),some pw] om=some (.ok (decide (WE told f k g=3)&&ps.contains g),om):=
  Sv (ZW ((Zs d1 Zp).trans (WI _ _ _))) λ_=>ZW ((Zs (Rm A e rfl rfl) (Zb rfl)).trans (Nr hp false))
 unfold Z7;rw[e];dsimp only;cases h:(decide (WE told f k g=3)&&ps.contains g) with
 |true=>
  rw[h]at t1;exact ZF (YA ((Yn t1).trans (Zu Zp)))
 |false=>
  rw[h]at t1;exact ZF ((Zh (ZK t1)).trans (Zu d1))
end
def SD{om:iN}{x y:Wv}{d:PyData}(hx:XJ om x=some d)(hy:XJ om y=some d)(hl:Vj d=true)(neg:Bool):WJ neg x y om=some (.ok (.bl (!neg)),om):=by
 have hc:d.canLay0=true:=(bQ.mp hl).1;have he:PyData.eqv d d=true:=PySem.SeqAt.eqv_refl d hc;unfold WJ;rw[hx,hy];dsimp only;rw[hl];cases neg <;> simp[he]
def Pj(om:iN):∀ns:iC,pysOf om (ns.map Wv.int)=some (ns.map PyData.int)
 |[]=>rfl
 |n::r=>by
  show(match Vh om (.int n),pysOf om (r.map Wv.int) with|some d,some ds=>some (d::ds)|_,_=>none)=_;rw[Pj om r];rfl
def OU(ns:iC):Vj (.list (ns.map PyData.int))=true:=by
 have a:PyData.canLayAll0 (ns.map PyData.int)=true:=by
  induction ns with
  |nil=>rfl
  |cons n r ih=>simp[PyData.canLayAll0,PyData.canLay0,ih]
 have b:PyData.depthAll (ns.map PyData.int)=0:=by
  induction ns with
  |nil=>rfl
  |cons n r ih=>
   have ih:=ih (by simp[PyData.canLayAll0,PyData.canLay0]at a;simpa using a);simp[PyData.depthAll,PyData.depth,ih]
 simp[Vj,PyData.canLay0,PyData.depth,a,b]
def Bn(om:iN)(ns:iC):XJ om (.lst (ns.map Wv.int))=some (.list (ns.map PyData.int)):=by
 show(pysOf om (ns.map Wv.int)).map PyData.list=_;rw[Pj];rfl
def II(om:iN):∀l:hZ,pysOf om (l.map prW)=some (l.map λp=>PyData.tuple [.int p.1,.int p.2])
 |[]=>rfl
 |p::r=>by
  show(match Vh om (prW p),pysOf om (r.map prW) with|some d,some ds=>some (d::ds)|_,_=>none)=_;rw[II om r];rfl
def K4(l:hZ):Vj (.list (l.map λp=>PyData.tuple [.int p.1,.int p.2]))=true:=by
 have a:PyData.canLayAll0 (l.map λp=>PyData.tuple [.int p.1,.int p.2])=true∧PyData.depthAll (l.map λp=>PyData.tuple [.int p.1,.int p.2])<=1:=by
  induction l with
  |nil=>exact⟨rfl,by simp[PyData.depthAll]⟩
  |cons n r ih=>exact⟨by simp[PyData.canLayAll0,PyData.canLay0];exact ih.1,by have:=ih.2;simp[PyData.depthAll,PyData.depth];omega⟩
 have:=a.2;simp[Vj,PyData.canLay0,PyData.depth,a.1];omega
def ME(om:iN)(l:hZ):XJ om (.lst (l.map prW))=some (.list (l.map λp=>PyData.tuple [.int p.1,.int p.2])):=by
 show(pysOf om (l.map prW)).map PyData.list=_;rw[II];rfl
abbrev R3:Type:=Int × Nat × Int
def r3W(off:Nat)(r:R3):Wv:=.tup [.int r.1,.int ((off:Int)+r.2.1),.int r.2.2]
def r3P(off:Nat)(r:R3):PyData:=.tuple [.int r.1,.int ((off:Int)+r.2.1),.int r.2.2]
def EL(off:Nat)(om:iN):∀l:List R3,pysOf om (l.map (r3W off))=some (l.map (r3P off))
 |[]=>rfl
 |p::r=>by
  show(match Vh om (r3W off p),pysOf om (r.map (r3W off)) with|some d,some ds=>some (d::ds)|_,_=>none)=_;rw[EL off om r];rfl
def IS(off:Nat)(l:List R3):Vj (.list (l.map (r3P off)))=true:=by
 have a:PyData.canLayAll0 (l.map (r3P off))=true∧PyData.depthAll (l.map (r3P off))<=1:=by
  induction l with
  |nil=>exact⟨rfl,by simp[PyData.depthAll]⟩
  |cons n r ih=>exact⟨by simp[PyData.canLayAll0,PyData.canLay0,r3P];exact ih.1,by have:=ih.2;simp[PyData.depthAll,PyData.depth,r3P];omega⟩
 have:=a.2;simp[Vj,PyData.canLay0,PyData.depth,a.1];omega
def eq_r3n(off:Nat)(l:List R3)(om:iN):WJ false (.lst (l.map (r3W off))) (.lst []) om=some (.ok (.bl l.isEmpty),om):=by
 have h1:XJ om (.lst (l.map (r3W off)))=some (.list (l.map (r3P off))):=by
  show(pysOf om (l.map (r3W off))).map PyData.list=_;rw[EL];rfl
 have h2:XJ om (.lst [])=some (.list []):=rfl;have h3:Vj (.list [])=true:=IS off [];unfold WJ;rw[h1,h2];dsimp only;rw[IS off l,h3];cases l <;> rfl
def fallen(told:iO)(f:hY)(l:iD):iD:=l.filter λk=>!decide (Z7 told f l k=0)
def XD(told:iO)(f:hY)(l:iD):iD:=l.filter λk=>decide (Z7 told f l k=0)
def PY(told:iO)(f:hY):Nat->Int->List Nat->List R3
 |0,_,_=>[]
 |n+1,i,l=>((fallen told f l).map λk=>(i,k,Z7 told f l k))++PY told f n (i+1) (XD told f l)
def LC{told:iO}{f:hY}{l:iD}(h:fallen told f l=[]):XD told f l=l:=by
 refine cb.mpr λk hk=>?_
 have:=List.filter_eq_nil_iff.mp h k hk;simpa using this
def PR{told:iO}{f:hY}{l:iD}(h:fallen told f l=[]):∀(n:Nat) (i:Int),PY told f n i l=[]
 |0,_=>rfl
 |n+1,i=>by unfold PY;rw[h,LC h,PR h n];rfl
def Rp(told:iO)(f:hY)(l:iD):(fallen told f l).length+(XD told f l).length=l.length:=by
 unfold fallen XD
 have h:∀(p:Nat->Bool) (l:iD),(l.filter λk=>!p k).length+(l.filter p).length=l.length:=λp l=>by
  induction l with
  |nil=>rfl
  |cons k r ih=>cases h:p k <;> simp[h] <;> omega
 exact h (λk=>decide (Z7 told f l k=0)) l
section
variable{c:CA}{om:iN}{ho hb hm hu hl hg size off:Nat}{f:hY}{kvs:iL}{gs:Gs}{rows:Mx}{told:iO}
abbrev pW(off:Nat)(k:Nat):Wv:=Wv.int ((off:Int)+k)
def EJ(A:Sit c om ho hb hm hu hl hg size off f kvs gs rows told){hF hS:Nat}(hx:om[hF]?=some (.dk (Yr off (mvL told f) (hN told f)))){l:iD}(kO:∀k∈l,k∈mvL told f)(jL:l.length<=60)(i:Int)(x5 x6:Option Wv):ZD 5 (Z5 ZL [0,1,2,4] (λsl=>bnd ((Za 2) sl) ZN) Xh (Pf c)) [some (.o ho),some (.o hF),some (.lst (l.map (pW off))),some (.o hS),some (.int i),x5,x6] om=some (.ok (.nx,[some (.o ho),some (.o hF),some (.lst (l.map (pW off))),some (.o hS),some (.int i),some (.lst (l.map λk=>r3W off (i,k,Z7 told f l k))),x6]),om):=by
 have iQ:=ZQ;refine Zw (i:=5) ((Wj (ws:=l.map (pW off)) (om1:=om) ((Zm (a:=.lst (l.map (pW off))) (om1:=om) (Zb rfl)).trans rfl) (by rw[aA];omega) (YE (pW off) (λ_=>true) (λk=>r3W off (i,k,Z7 told f l k)) (λk hk=>rfl) (λk hk _=>?_))).trans ?_)
 ·refine(ZB (Ze (Zb rfl) (Ze (Zb rfl) (Ze ((ZB (Ze (Zb rfl) (Ze (Zb rfl) (Ze (Zb rfl) (Ze (Zb rfl) Zi))))).trans ((YG rfl).trans (Er A hx (kO k hk) rfl))) Zi)))).trans ?_
  unfold Y6;rw[aC (by simp;omega)];rfl
 ·rw[cb.mpr (λ_ _=>rfl)]
  exact YB (by rw[aA];omega)
def D0{sl:Sl}{off:Nat}{i:Int}{l:iD}{v:Nat->Int}(h5:sl[5]?=some (some (.lst (l.map λk=>r3W off (i,k,v k)))))(jL:l.length<=60):Z5 ZL [] (λsl=>bnd ((Za 5) sl) ZN) (Pe c) (Pi c) sl om=some (.ok (.lst ((l.filter λk=>!decide (v k=0)).map λk=>r3W off (i,k,v k))),om):=by
 have iQ:=ZQ;have hf:=aV (λk=>!decide (v k=0)) l;exact(Wj (ws:=l.map λk=>r3W off (i,k,v k)) (om1:=om) ((Zm (Zb h5)).trans rfl) (by rw[aA];omega) (YE (λk=>r3W off (i,k,v k)) (λk=>!decide (v k=0)) (λk=>r3W off (i,k,v k)) (λk hk=>ZW ((Zs ((Zs (Zb rfl) Zp).trans (ZI (k:=2) rfl rfl)) Zp).trans (RO _ _ _))) (λk hk _=>Zb rfl))).trans (YB (by rw[aA];omega))
def Bz{sl:Sl}{off:Nat}{i:Int}{l:iD}{v:Nat->Int}(h5:sl[5]?=some (some (.lst (l.map λk=>r3W off (i,k,v k)))))(jL:l.length<=60):Z5 ZL [] (λsl=>bnd ((Za 5) sl) ZN) (Pt c) (QZ c) sl om=some (.ok (.lst ((l.filter λk=>decide (v k=0)).map (pW off))),om):=by
 have iQ:=ZQ;have hf:=aV (λk=>decide (v k=0)) l;exact(Wj (ws:=l.map λk=>r3W off (i,k,v k)) (om1:=om) ((Zm (Zb h5)).trans rfl) (by rw[aA];omega) (YE (λk=>r3W off (i,k,v k)) (λk=>decide (v k=0)) (pW off) (λk hk=>ZW ((Zs ((Zs (Zb rfl) Zp).trans (ZI (k:=2) rfl rfl)) Zp).trans (WI _ _ _))) (λk hk _=>(Zs (Zb rfl) Zp).trans (ZI (k:=1) rfl rfl)))).trans (YB (by rw[aA];omega))
def FG{om0:iN}{ws us:iJ}{sl:Sl}(h3:sl[3]?=some (some (.o om0.length)))(h6:sl[6]?=some (some (.lst us)))(h:ws.length+us.length<=lim):Z9 (D9 (Za 3) (Za 6)) sl (om0++[.lst ws])=some (.ok (.nx,sl),om0++[.lst (ws++us)]):=by
 have e:(om0++[Ob.lst ws])[om0.length]?=some (.lst ws):=by simp
 refine ZY (w:=.non) ?_;unfold D9;rw[Zm (Zb h3)];refine(Zm (a:=()) (om1:=om0++[.lst ws]) (by simp[GI,W5,e,L2.ret])).trans ?_;rw[Zm (Zb h6)];simp[kExt,W5,e,h,bU]
def LU{om0:iN}(A:Sit c om0 ho hb hm hu hl hg size off f kvs gs rows told){hF:Nat}(hx:om0[hF]?=some (.dk (Yr off (mvL told f) (hN told f)))):∀(n:Nat) (i:Int) (l:iD) (iz:List R3) (x5 x6:Option Wv),l.length<n->iz.length+l.length<=60->(∀k∈l,k∈mvL told f) -> ∃iS,VM (Xj (fC (.bl true))) (Wl c) n [some (.o ho),some (.o hF),some (.lst (l.map (pW off))),some (.o om0.length),some (.int i),x5,x6] (om0++[.lst (iz.map (r3W off))])=some (.ok (.rt (.o om0.length),iS),om0++[.lst ((iz++PY told f n i l).map (r3W off))])
 |0,_,_,_,_,_,h,_,_=>by omega
 |n+1,i,l,iz,x5,x6,h,jL,kO=>by
  have iQ:=ZQ;have ip:=Rp told f l;have A1:=A.grow [.lst (iz.map (r3W off))]
  have hx1:(om0++[Ob.lst (iz.map (r3W off))])[hF]?=some (.dk (Yr off (mvL told f) (hN told f))):=by
   have:hF<om0.length:=by
    by_cases h:hF<om0.length
    ·exact h
    ·rw[bK (by omega)]at hx;cases hx
   rw[aQ this];exact hx
  have e1:=EJ (hS:=om0.length) A1 hx1 kO (by omega) i x5 x6;have e2:=Zw (i:=6) (D0 (c:=c) (om:=om0++[.lst (iz.map (r3W off))]) (sl:=[some (.o ho),some (.o hF),some (.lst (l.map (pW off))),some (.o om0.length),some (.int i),some (.lst (l.map λk=>r3W off (i,k,Z7 told f l k))),x6]) rfl (by omega));have em:(l.filter λk=>!decide (Z7 told f l k=0)).map (λk=>r3W off (i,k,Z7 told f l k))=((fallen told f l).map λk=>(i,k,Z7 told f l k)).map (r3W off):=by rw[aS];rfl
  rw[em]at e2
  have e3:fB (f2 kEq (Za 6) (fA ZL Zj)) [some (.o ho),some (.o hF),some (.lst (l.map (pW off))),some (.o om0.length),some (.int i),some (.lst (l.map λk=>r3W off (i,k,Z7 told f l k))),some (.lst (((fallen told f l).map λk=>(i,k,Z7 told f l k)).map (r3W off)))] (om0++[.lst (iz.map (r3W off))])=some (.ok ((fallen told f l).map λk=>(i,k,Z7 told f l k)).isEmpty,om0++[.lst (iz.map (r3W off))]):=
   ZW ((Zs (Zb rfl) ((ZB Zi).trans (Py (by simp)))).trans (eq_r3n off _ _))
  show ∃iS,bnd _ (kWh (λiT=>VM (Xj (fC (.bl true))) (Wl c) n iT) (Wl c) _) _=_
  rw[Zm (XE (b:=true) Zp)];show ∃iS,bnd (Wl c _) (QD λiT=>VM (Xj (fC (.bl true))) (Wl c) n iT) _=_
  by_cases hf:fallen told f l=[]
  ·rw[hf]at e2 e3
   refine⟨[some (.o ho),some (.o hF),some (.lst (l.map (pW off))),some (.o om0.length),some (.int i),some (.lst (l.map λk=>r3W off (i,k,Z7 told f l k))),some (.lst ((([]:iD).map λk=>(i,k,Z7 told f l k)).map (r3W off)))],(Zm ((Zh e1).trans ((Zh e2).trans (YA ((Yn e3).trans (Zu (Zb rfl))))))).trans ?_⟩;rw[PR hf,cC];rfl
  ·have jh:(fallen told f l).length≠0:=λz=>hf (gP z)
   have hie:((fallen told f l).map λk=>(i,k,Z7 told f l k)).isEmpty=false:=by
    cases hq:fallen told f l with
    |nil=>exact absurd hq hf
    |cons _ _=>rfl
   rw[hie]at e3;have e4:=FG (om0:=om0) (ws:=iz.map (r3W off)) (us:=((fallen told f l).map λk=>(i,k,Z7 told f l k)).map (r3W off)) (sl:=[some (.o ho),some (.o hF),some (.lst (l.map (pW off))),some (.o om0.length),some (.int i),some (.lst (l.map λk=>r3W off (i,k,Z7 told f l k))),some (.lst (((fallen told f l).map λk=>(i,k,Z7 told f l k)).map (r3W off)))]) rfl rfl (by simp only[aA];omega);rw[← cu]at e4;have e5:=Zw (i:=2) (Bz (c:=c) (om:=om0++[.lst ((iz++(fallen told f l).map λk=>(i,k,Z7 told f l k)).map (r3W off))]) (sl:=[some (.o ho),some (.o hF),some (.lst (l.map (pW off))),some (.o om0.length),some (.int i),some (.lst (l.map λk=>r3W off (i,k,Z7 told f l k))),some (.lst (((fallen told f l).map λk=>(i,k,Z7 told f l k)).map (r3W off)))]) rfl (by omega));obtain⟨iS,e7⟩:=LU A hx n (i+1) (XD told f l) (iz++(fallen told f l).map λk=>(i,k,Z7 told f l k)) (some (.lst (l.map λk=>r3W off (i,k,Z7 told f l k)))) (some (.lst (((fallen told f l).map λk=>(i,k,Z7 told f l k)).map (r3W off)))) (by omega) (by simp only[aT,aA];omega) (λk hk=>kO k (aG.mp hk).1);refine⟨iS,(Zm ((Zh e1).trans ((Zh e2).trans ((Zh (ZK e3)).trans ((Zh e4).trans ((Zh e5).trans (Zw (i:=4) ((Zs (Zb rfl) Zp).trans rfl)))))))).trans (e7.trans ?_)⟩;rw[bS];rfl
abbrev Xb(told:iO)(f:hY):List R3:=PY told f 100 1 (mvL told f)
def Je(A:Sit c om ho hb hm hu hl hg size off f kvs gs rows told):RG c [.o ho] om=some (.ok (.o (om.length+2)),om++[.dk (Yr off (mvL told f) (fN told f)),.dk (Yr off (mvL told f) (hN told f)),.lst ((Xb told f).map (r3W off))]):=by
 have iQ:=ZQ;have jp:=A.few;have hml:=XX told f;have A2:=A.grow [.dk (Yr off (mvL told f) (fN told f)),.dk (Yr off (mvL told f) (hN told f))];have hx:(om++[Ob.dk (Yr off (mvL told f) (fN told f)),.dk (Yr off (mvL told f) (hN told f))])[om.length+1]?=some (.dk (Yr off (mvL told f) (hN told f))):=by simp
 have hi:=Dd A;have hn:(om++[Ob.dk (Yr off (mvL told f) (fN told f)),.dk (Yr off (mvL told f) (hN told f))]).length=om.length+2:=by simp
 have hc:om++[Ob.dk (Yr off (mvL told f) (fN told f)),.dk (Yr off (mvL told f) (hN told f)),.lst ((Xb told f).map (r3W off))]=(om++[Ob.dk (Yr off (mvL told f) (fN told f)),.dk (Yr off (mvL told f) (hN told f))])++[.lst ((Xb told f).map (r3W off))]:=by simp
 rw[hc];generalize om++[Ob.dk (Yr off (mvL told f) (fN told f)),.dk (Yr off (mvL told f) (hN told f))]=om2 at A2 hx hi hn;have e1:ZD 1 (fA (kN 1 (WL c)) (Zc (Za 0) Zj)) [some (.o ho),none,none,none,none,none,none] om=some (.ok (.nx,[some (.o ho),some (.o (om.length+1)),none,none,none,none,none]),om2):=Zw (i:=1) ((ZB (Ze (Zb rfl) Zi)).trans ((YG rfl).trans hi));have e2:ZD 2 (Zq c.Orders "movers" 1 (ZS c) (Za 0) Zj) [some (.o ho),some (.o (om.length+1)),none,none,none,none,none] om2=some (.ok (.nx,[some (.o ho),some (.o (om.length+1)),some (.lst ((mvL told f).map (pW off))),none,none,none,none]),om2):=Zw (i:=2) ((Zz (Zb rfl) (Zy A2.S.o) (ZV _ _ _ (by decide) (by decide)) Zi rfl).trans (SW A2))
 have e3:ZD 3 (fA X6 Zj) [some (.o ho),some (.o (om.length+1)),some (.lst ((mvL told f).map (pW off))),none,none,none,none] om2=some (.ok (.nx,[some (.o ho),some (.o (om.length+1)),some (.lst ((mvL told f).map (pW off))),some (.o om2.length),none,none,none]),om2++[.lst []]):=Zw (i:=3) ((ZB Zi).trans (by
  show X6 [] om2=_;unfold X6;rw[aC (by simp)];rfl))
 obtain⟨iS,e5⟩:=LU A2 hx 100 1 (mvL told f) [] none none (by omega) (by simp;omega) (λ_ h=>h);rw[eQ]at e5;rw[← hn];exact ZF ((Zh e1).trans ((Zh e2).trans ((Zh e3).trans ((Zh (Zw (i:=4) Zp)).trans e5))))
def AF(off n:Nat):∀l:List R3,smalls n (l.map (r3W off))
 |[]=>trivial
 |_::r=>⟨⟨trivial,trivial,trivial,trivial⟩,AF off n r⟩
def fz_r3(off n:Nat)(om:iN)(l:List R3):(l.map (r3W off)).map (fzW om n 3)=l.map (r3W off):=by
 rw[aS];rfl
def HW(A:Sit c om ho hb hm hu hl hg size off f kvs gs rows told):Ui c [.o ho] om=some (.ok (.lst ((Xb told f).map (r3W off))),om):=by
 refine tidyG_ok (Je A) (.own (by omega) (by simp) (FzWs.of_smalls (AF _ _ _))) ?_;have e:(om++[Ob.dk (Yr off (mvL told f) (fN told f)),.dk (Yr off (mvL told f) (hN told f)),.lst ((Xb told f).map (r3W off))])[om.length+2]?=some (.lst ((Xb told f).map (r3W off))):=by simp
 generalize om++[Ob.dk (Yr off (mvL told f) (fN told f)),.dk (Yr off (mvL told f) (hN told f)),.lst ((Xb told f).map (r3W off))]=om2 at e;show(if om.length<=om.length+2 then (match om2[om.length+2]? with|some (.lst xs)=>Wv.lst (xs.map (fzW om2 om.length 3))|_=>.o (om.length+2)) else .o (om.length+2))=_;rw[aC (by omega),e];show Wv.lst (((Xb told f).map (r3W off)).map (fzW om2 om.length 3))=_;rw[fz_r3]
def WU(told:iO)(f:hY):Nat->List Nat->List Nat
 |0,l=>l
 |n+1,l=>WU told f n (XD told f l)
def KG(told:iO)(f:hY):∀(n:Nat) (i:Int) (l:iD),(PY told f n i l).length<=l.length
 |0,_,_=>by simp[PY]
 |n+1,i,l=>by
  have:=Rp told f l;have:=KG told f n (i+1) (XD told f l);unfold PY;simp only[aT,aA];omega
def Ig(told:iO)(f:hY):∀(n:Nat) (i:Int) (l:iD),l.Nodup->WU told f n l=l.filter λk=>!((PY told f n i l).map λr=>r.2.1).contains k
 |0,_,l,_=>(cb.mpr λ_ _=>rfl).symm
 |n+1,i,l,nd=>by
  have ih:=Ig told f n (i+1) (XD told f l) (nd.sublist bY);unfold WU PY;rw[ih,cu,aS]
  have hm:(fallen told f l).map ((λr:R3=>r.2.1) ∘ λk=>(i,k,Z7 told f l k))=fallen told f l:=by
   conv=>rhs;rw[← List.map_id (fallen told f l)]
   rfl
  rw[hm];generalize (PY told f n (i+1) (XD told f l)).map (λr=>r.2.1)=R;unfold XD;rw[eX];refine fu λk hk=>?_
  have hc:(fallen told f l++R).contains k=((fallen told f l).contains k || R.contains k):=by
   refine cV.mpr ?_;rw[d4,bB,bB,bB,dH]
  have hf:(fallen told f l).contains k=!decide (Z7 told f l k=0):=by
   refine cV.mpr ?_;rw[bB];unfold fallen;rw[aG];exact⟨λh=>h.2,λh=>⟨hk,h⟩⟩
  rw[hc,hf];cases decide (Z7 told f l k=0) <;> cases R.contains k <;> rfl
def Sw(A:Sit c om ho hb hm hu hl hg size off f kvs gs rows told):XF c [.o ho] om=some (.ok (.lst ((WU told f 100 (mvL told f)).map (pW off))),om):=by
 have iQ:=ZQ;have jp:=A.few;have hml:=XX told f;have jm:(Xb told f).length<=(mvL told f).length:=KG told f 100 1 (mvL told f)
 have e1:ZD 1 (Z5 ZL [] (λsl=>bnd ((fA (kN 1 (Ui c)) (Zc (Za 0) Zj)) sl) ZN) Xh (PZ c)) [some (.o ho),none] om=some (.ok (.nx,[some (.o ho),some (.lst (((Xb told f).map λr=>r.2.1).map (pW off)))]),om):=by
  refine Zw (i:=1) ((Wj (ws:=(Xb told f).map (r3W off)) (om1:=om) ((Zm ((ZB (Ze (Zb rfl) Zi)).trans ((YG rfl).trans (HW A)))).trans rfl) (by rw[aA];omega) (YE (r3W off) (λ_=>true) (λr=>pW off r.2.1) (λk hk=>rfl) (λk hk _=>(Zs (Zb rfl) Zp).trans (ZI (k:=1) rfl rfl)))).trans ?_);rw[cb.mpr (λ_ _=>rfl)];have e:(Xb told f).map (λr=>pW off r.2.1)=((Xb told f).map λr=>r.2.1).map (pW off):=by rw[aS];rfl
  rw[e];exact YB (by simp only[aA];omega)
 rw[Ig told f 100 1 (mvL told f) (UT told f)];have hfl:=aV (λk=>!((Xb told f).map λr=>r.2.1).contains k) (mvL told f);refine ZF ((Zh e1).trans (Zu ((Wj (ws:=(mvL told f).map (pW off)) (om1:=om) ((Zm ((Zz (Zb rfl) (Zy A.S.o) (ZV _ _ _ (by decide) (by decide)) Zi rfl).trans (SW A))).trans rfl) (by rw[aA];omega) (YE (pW off) (λk=>!((Xb told f).map λr=>r.2.1).contains k) (pW off) (λk hk=>?_) (λk hk _=>Zb rfl))).trans (YB (by rw[aA];omega)))));exact ZW ((v2 rfl rfl).trans (Nr (l:=(Xb told f).map λr=>r.2.1) rfl true))
end
section
variable{c:CA}{ns:iC}{ia off size:Nat}{rows:Mx}{f:hY}{kvs:iL}
def Kw{n a:Nat}{p q:iD}(h:List.range n=p++a::q):a=p.length:=by
 have h1:(List.range n)[p.length]?=some a:=by rw[h];simp
 rw[aH]at h1;obtain⟨hl,h2⟩:=h1;rw[List.getElem_range]at h2;exact h2.symm
end
def No(told:iO)(f:hY):∀(n:Nat) (l:iD),l.length<n->fallen told f (WU told f n l)=[]
 |0,_,h=>by omega
 |n+1,l,h=>by
  by_cases hf:fallen told f l=[]
  ·have:∀m,WU told f m l=l:=λm=>by
    induction m with
    |zero=>rfl
    |succ m ih=>unfold WU;rw[LC hf];exact ih
   rw[this];exact hf
  ·have:=Rp told f l
   have:(fallen told f l).length≠0:=λz=>hf (gP z)
   exact No told f n (XD told f l) (by omega)
def T8(told:iO)(f:hY):∀(n:Nat) (l:iD),(WU told f n l).Sublist l
 |0,l=>List.Sublist.refl _
 |n+1,l=>(T8 told f n (XD told f l)).trans bY
def mvL_up(told:iO)(f:hY):(mvL told f).Pairwise (· < ·):=List.Pairwise.sublist bY eC
def mO(m:Nat->Nat):Od->Od
 |.stand=>.stand
 |.move g=>.move (m g)
 |.help h g=>.help (m h) (m g)
structure Mr(n:Nat)(m:Nat->Nat)(told ie:iO)(f f':hY):Prop where
 lt:∀k,k<n->m k<n
 mm:∀k,k<n->m (m k)=k
 lT:told.length=n
 lT':ie.length=n
 lf:f.length=n
 lf':f'.length=n
 t:∀k,k<n->at' ie (m k)=(at' told k).map (mO m)
 s:∀k,k<n->at' f' (m k)=(at' f k).map λs=>7-s
 s7:∀k s,at' f k=some s->0<=s∧s<=7
 mv:∀k g,at' told k=some (.move g)->g<n
 hp:∀k h g,at' told k=some (.help h g)->h<n∧g<n
section
variable{n:Nat}{m:Nat->Nat}{told ie:iO}{f f':hY}(M:Mr n m told ie f f')
include M
theorem Mr.inj{x y:Nat}(hx:x<n)(hy:y<n):m x=m y ↔ x=y:=⟨λh=>by rw[← M.mm x hx,← M.mm y hy,h],λh=>by rw[h]⟩
theorem Mr.dn{x y:Nat}(hx:x<n)(hy:y<n):decide (m x=m y)=decide (x=y):=dR.mpr (M.inj hx hy)
theorem Mr.ds{x y:Nat}(hx:x<n)(hy:y<n):decide (at' f' (m x)=at' f' (m y))=decide (at' f x=at' f y):=by
 refine dR.mpr ?_;rw[M.s x hx,M.s y hy];cases at' f x <;> cases at' f y <;> simp
theorem Mr.dk{x:Nat}(hx:x<n):decide (at' f' (m x)=some (-1))=decide (at' f x=some (-1)):=by
 refine dR.mpr ?_;rw[M.s x hx];cases h:at' f x with
 |none=>simp
 |some s=>have:=M.s7 x s h;simp;omega
theorem Mr.no{x:Nat}(hx:x<n):(at' f' (m x)).isNone=(at' f x).isNone:=by rw[M.s x hx];cases at' f x <;> rfl
theorem Mr.dm{x g:Nat}(hx:x<n)(hg:g<n):decide (at' ie (m x)=some (.move (m g)))=decide (at' told x=some (.move g)):=by
 refine dR.mpr ?_;rw[M.t x hx];cases h:at' told x with
 |none=>simp
 |some o=>
  cases o with
  |stand=>simp[mO]
  |move g'=>simp[mO,M.inj (M.mv x g' h) hg]
  |help a b=>simp[mO]
theorem Mr.dh{x a g:Nat}(hx:x<n)(ha:a<n)(hg:g<n):decide (at' ie (m x)=some (.help (m a) (m g)))=decide (at' told x=some (.help a g)):=by
 refine dR.mpr ?_;rw[M.t x hx];cases h:at' told x with
 |none=>simp
 |some o=>
  cases o with
  |stand=>simp[mO]
  |move g'=>simp[mO]
  |help a' g'=>obtain⟨h1,h2⟩:=M.hp x a' g' h;simp[mO,M.inj h1 ha,M.inj h2 hg]
theorem Mr.im{x:Nat}(hx:x<n):Xz (at' ie (m x))=Xz (at' told x):=by
 rw[M.t x hx];cases at' told x with
 |none=>rfl
 |some o=>cases o <;> rfl
theorem Mr.any{p p':Nat->Bool}(h:∀x,x<n->p' (m x)=p x):(List.range n).any p'=(List.range n).any p:=by
 rw[cV,cX,cX];constructor
 ·rintro⟨y,hy,e⟩
  have hy:=aX.mp hy;refine⟨m y,aX.mpr (M.lt y hy),?_⟩;rw[← h (m y) (M.lt y hy),M.mm y hy];exact e
 ·rintro⟨x,hx,e⟩
  have hx:=aX.mp hx;exact⟨m x,aX.mpr (M.lt x hx),by rw[h x hx];exact e⟩
theorem Mr.cnt{p p':Nat->Bool}(h:∀x,x<n->p' (m x)=p x):((List.range n).filter p').length=((List.range n).filter p).length:=by
 have nd:(((List.range n).filter p).map m).Nodup:=bO.mpr (List.Pairwise.imp_of_mem (λ{a b} ha hb q e=>q ((M.inj (aX.mp (aG.mp ha).1) (aX.mp (aG.mp hb).1)).mp e)) (dU.sublist bY))
 have pm:((List.range n).filter p').Perm (((List.range n).filter p).map m):=(ff (dU.sublist bY) nd).mpr λy=>by
  rw[aG,aZ];constructor
  ·rintro⟨hy,e⟩
   have hy:=aX.mp hy;exact⟨m y,aG.mpr ⟨aX.mpr (M.lt y hy),by rw[← h (m y) (M.lt y hy),M.mm y hy];exact e⟩,M.mm y hy⟩
  ·rintro⟨x,hx,rfl⟩
   obtain⟨hx,e⟩:=aG.mp hx;have hx:=aX.mp hx;exact⟨aX.mpr (M.lt x hx),by rw[h x hx];exact e⟩
 rw[pm.length_eq,aA]
theorem Mr.cut{k g:Nat}(hk:k<n)(hg:g<n):QG ie f' (m k) (m g)=QG told f k g:=by
 unfold QG;rw[M.lT,M.lT'];exact M.any λx hx=>by rw[M.dm hx hk,M.dn hx hg,M.ds hx hk]
theorem Mr.counts{k:Nat}(hk:k<n):XH ie f' (m k)=XH told f k:=by
 unfold XH;rw[M.t k hk];cases h:at' told k with
 |none=>rfl
 |some o=>
  cases o with
  |stand=>rfl
  |move g=>rfl
  |help a g=>
   obtain⟨h1,h2⟩:=M.hp k a g h;show(!QG ie f' (m k) (m g)&&(if m a=m g then !Xz (at' ie (m a)) else decide (at' ie (m a)=some (.move (m g)))))=(!QG told f k g&&(if a=g then !Xz (at' told a) else decide (at' told a=some (.move g))));rw[M.cut hk h2,M.im h1,M.dm h1 h2];by_cases e:a=g
   ·rw[aC e,aC ((M.inj h1 h2).mpr e)]
   ·rw[aE e,aE λz=>e ((M.inj h1 h2).mp z)]
theorem Mr.strong{k g:Nat}{sd m9:Option Int}(hk:k<n)(hg:g<n)(hs:∀x,x<n->decide (at' f' (m x)=m9)=decide (at' f x=sd)):Xs ie f' (m k) (m g) m9=Xs told f k g sd:=by
 unfold Xs;rw[VA,VA,M.lT,M.lT',M.cnt λx hx=>?_];unfold DH;rw[M.dh hx hk hg,M.counts hx,hs x hx]
theorem Mr.str1{k g:Nat}(hk:k<n)(hg:g<n):Xs ie f' (m k) (m g) (some (-1))=Xs told f k g (some (-1)):=M.strong hk hg λx hx=>M.dk hx
theorem Mr.firm{k:Nat}(hk:k<n):OX ie f' (m k)=OX told f k:=by unfold OX;rw[M.im hk,M.str1 hk hk]
theorem Mr.force{k:Nat}(hk:k<n):fN ie f' (m k)=fN told f k:=by
 unfold fN U7;rw[M.t k hk];cases h:at' told k with
 |none=>rfl
 |some o=>
  cases o with
  |stand=>rfl
  |move g=>exact M.str1 hk (M.mv k g h)
  |help a g=>rfl
theorem Mr.mvl{x:Nat}(hx:x<n):m x∈mvL ie f' ↔ x∈mvL told f:=by
 unfold mvL;rw[M.lf,M.lf',aG,aG,aX,aX,M.im hx];exact⟨λh=>⟨hx,h.2⟩,λh=>⟨M.lt x hx,h.2⟩⟩
theorem Mr.out{k g:Nat}(hk:k<n)(hg:g<n):QF ie f' (m k) (m g)=QF told f k g:=by
 have e:∀(t:iO) (e:hY) (a b:Nat),e.length=n->QF t e a b=(List.range n).any λx=>Xz (at' t x)&&((!decide (x=a)&&decide (at' t x=some (.move b)))&&decide (fN t e a<=fN t e x)):=λt e a b he=>by
  unfold QF mvL;rw[he,eX];rw[cV,cX,cX];constructor
  ·rintro⟨x,hx,q⟩
   obtain⟨h1,h2⟩:=aG.mp hx;rw[bT]at h2;exact⟨x,h1,by rw[h2.1,h2.2,q];rfl⟩
  ·rintro⟨x,hx,q⟩
   rw[bT,bT]at q;exact⟨x,aG.mpr ⟨hx,by rw[q.1,q.2.1];rfl⟩,q.2.2⟩
 rw[e ie f' _ _ M.lf',e told f _ _ M.lf];exact M.any λx hx=>by rw[M.im hx,M.dn hx hk,M.dm hx hg,M.force hk,M.force hx]
theorem Mr.over{k g:Nat}(hk:k<n)(hg:g<n)(st:Int):Qp ie f' (m k) (m g) st=Qp told f k g st:=by
 unfold Qp;rw[M.ds hg hk,M.strong hk hg λx hx=>M.ds hx hg]
theorem Mr.hind{k g:Nat}(hk:k<n)(hg:g<n):WE ie f' (m k) (m g)=WE told f k g:=by
 unfold WE;rw[M.out hk hg,M.no hg,M.dm hg hk,M.over hk hg,M.over hk hg,M.force hg,M.firm hg]
theorem Mr.fault{k:Nat}{ps k7:iD}(hk:k<n)(h:∀x,x<n->(m x∈k7 ↔ x∈ps)):Z7 ie f' k7 (m k)=Z7 told f ps k:=by
 unfold Z7;rw[M.t k hk];cases e:at' told k with
 |none=>rfl
 |some o=>
  cases o with
  |stand=>rfl
  |help a g=>rfl
  |move g=>
   have hg:=M.mv k g e;show(bif decide (WE ie f' (m k) (m g)=3)&&k7.contains (m g) then 0 else WE ie f' (m k) (m g))=_;have c:k7.contains (m g)=ps.contains g:=by rw[cV,bB,bB];exact h g hg
   rw[M.hind hk hg,c]
theorem Mr.fin:∀(r:Nat) {l l':iD},(∀x,x<n->(m x∈l' ↔ x∈l))->∀x,x<n->(m x∈WU ie f' r l' ↔ x∈WU told f r l)
 |0,_,_,h=>h
 |r+1,l,l',h=>Mr.fin r λx hx=>by
  unfold XD;rw[aG,aG,M.fault hx h,h x hx]
end
end MP
namespace L2
open PySem
namespace Tb
def nx(m i:Nat):Nat:=(i * 5+1) % (m+1)
def it(m:Nat):Nat->Nat->Nat
 |0,i=>i
 |k+1,i=>it m k (nx m i)
def orb(m:Nat):Nat->Nat->List Nat
 |0,_=>[]
 |k+1,i=>i::orb m k (nx m i)
def My(m:Nat):∀(a b i:Nat),it m (a+b) i=it m b (it m a i)
 |0,b,i=>by rw[en];rfl
 |a+1,b,i=>by rw[gA];exact My m a b (nx m i)
def Hk(m:Nat):∀(k i e:Nat),e∈orb m k i->∃a,a<k∧it m a i=e
 |0,i,e,h=>nomatch h
 |k+1,i,e,h=>by
  rcases aR.mp h with h|h
  ·exact⟨0,er _,h.symm⟩
  ·obtain⟨a,h1,h2⟩:=Hk m k (nx m i) e h
   exact⟨a+1,by omega,h2⟩
def Gm(m:Nat):Prop:=m=7∨m=15∨m=31∨m=63∨m=127
def whl(m:Nat):Bool:=((List.range (m+1)).all λe=>(orb m (m+1) 0).contains e)&&it m (m+1) 0 == 0
def whl_of{m:Nat}(h:Gm m):whl m=true:=by
 rcases h with rfl|rfl|rfl|rfl|rfl <;> decide +kernel
def reach{m i e:Nat}(g:Gm m)(hi:i<=m)(he:e<=m):∃k,k<=m∧it m k i=e:=by
 have w:=whl_of g;unfold whl at w;rw[bT,cQ]at w;have z:it m (m+1) 0=0:=by simpa using w.2
 have f:∀e,e<=m->∃a,a<m+1∧it m a 0=e:=λe he=>Hk m _ _ _ (by simpa using w.1 e (aX.mpr (by omega)))
 obtain⟨a,ha,rfl⟩:=f i hi;obtain⟨b,hb,rfl⟩:=f e he;by_cases jD:a<=b
 ·exact⟨b-a,by omega,by rw[← My,Nat.add_sub_cancel' jD]⟩
 ·refine⟨b+(m+1)-a,by omega,?_⟩
  rw[← My,show a+(b+(m+1)-a)=(m+1)+b by omega,My,z]
def tr(m:Nat):Nat->Nat × Nat->Nat × Nat
 |0,x=>x
 |k+1,x=>tr m k (SetTable.leap m x.1 x.2)
def FM(m:Nat):∀(a b:Nat) (x:Nat × Nat),tr m (a+b) x=tr m b (tr m a x)
 |0,b,x=>by rw[en];rfl
 |a+1,b,x=>by rw[gA];exact FM m a b _
def IZ(m:Nat):∀(k i:Nat),tr m k (i,0)=(it m k i,0)
 |0,i=>rfl
 |k+1,i=>by
  have e:SetTable.leap m i 0=(nx m i,0):=by simp[SetTable.leap,nx]
  show tr m k (SetTable.leap m i 0)=_;rw[e,IZ m k];rfl
def Di(m:Nat):∀(k:Nat) (x:Nat × Nat),(tr m k x).2=x.2 / 32 ^ k
 |0,x=>by simp[tr]
 |k+1,x=>by
  show(tr m k _).2=_;rw[Di m k];show x.2 / 32 / 32 ^ k=_;rw[Nat.div_div_eq_div_mul,Nat.pow_succ,Nat.mul_comm]
def AE(m:Nat):∀(k:Nat) (x:Nat × Nat),x.1<=m->(tr m k x).1<=m
 |0,x,h=>h
 |k+1,x,h=>AE m k _ (d3.mp (eU _ (er m)))
def LX{m i p e:Nat}(g:Gm m)(hi:i<=m)(hp:p<2 ^ 64)(he:e<=m):∃k,k<=m+13∧(tr m k (i,p)).1=e:=by
 have h2:(tr m 13 (i,p)).2=0:=by rw[Di];exact Nat.div_eq_of_lt (bH hp (by decide))
 obtain⟨k,hk,h⟩:=reach g (AE m 13 (i,p) hi) he;refine⟨13+k,by omega,?_⟩;rw[FM,show tr m 13 (i,p)=((tr m 13 (i,p)).1,0) from Prod.ext rfl h2,IZ];exact h
def IQ(h:Int):SetTable.bits h<2 ^ 64:=by
 unfold SetTable.bits;have:h % (2 ^ 64:Int)<2 ^ 64:=d6 _ (by decide);omega
def OY{m:Nat}{ow:Array (Option Nat)}:∀(k fuel i p:Nat),k<fuel->(ow.getD (tr m k (i,p)).1 (some 0)).isNone=true->∃j,SetTable.layClean.free m ow fuel i p=some j∧(ow.getD j (some 0)).isNone=true
 |k,0,i,p,h,_=>absurd h (d0 _)
 |k,fuel+1,i,p,h,e=>by
  unfold SetTable.layClean.free;cases hf:(List.range (SetTable.runEnd m i+1-i)).find? λk=>(ow.getD (i+k) (some 0)).isNone with
  |some q=>exact⟨i+q,rfl,gS (p:=λk=>(ow.getD (i+k) (some 0)).isNone) hf⟩
  |none=>
   cases k with
   |zero=>
    have hr:0∈List.range (SetTable.runEnd m i+1-i):=by
     unfold SetTable.runEnd;rw[aX];split <;> omega
    exact absurd e (eW.mp hf 0 hr)
   |succ k=>exact OY k fuel _ _ (Nat.lt_of_succ_lt_succ h) e
def VW(m:Nat)(ow:Array (Option Nat)):iD:=(List.range (m+1)).filterMap λj=>ow.getD j none
def DA{α γ:Type}{f:α->Option γ}:∀{l:List α},(∀x∈l,f x≠none)->(l.filterMap f).length=l.length
 |[],_=>rfl
 |x::l,h=>by
  cases hx:f x with
  |none=>exact absurd hx (h x (.head _))
  |some y=>rw[dZ hx,bI,bI,DA λy hy=>h y (.tail _ hy)]
def SA{α γ:Type}{f g:α->Option γ}:∀{l:List α},(∀x∈l,f x=g x)->l.filterMap f=l.filterMap g
 |[],_=>rfl
 |x::l,h=>by
  have hx:=h x (.head _);have hl:=SA (l:=l) λy hy=>h y (.tail _ hy)
  cases hg:g x with
  |none=>rw[fJ (hx.trans hg),fJ hg,hl]
  |some y=>rw[dZ (hx.trans hg),dZ hg,hl]
def GM{m:Nat}{ow:Array (Option Nat)}(h:(VW m ow).length<m+1):∃e,e<=m∧ow.getD e none=none:=by
 refine fj λn=>?_
 have:=DA (l:=List.range (m+1)) (f:=λj=>ow.getD j none) λx hx z=>n ⟨x,by have:=aX.mp hx;omega,z⟩
 unfold VW at h;rw[this,bP]at h;exact cS _ h
def FY{m:Nat}{ow:Array (Option Nat)}{j k:Nat}(hs:ow.size=m+1)(hj:j<=m)(hn:ow.getD j none=none):(VW m (ow.setIfInBounds j (some k))).Perm (k::VW m ow):=by
 obtain⟨a,b,jD⟩:=List.append_of_mem (aX.mpr (show j<m+1 by omega));have nd:(a++j::b).Nodup:=jD ▸ dU
 have nd':=cH.mp nd;have ha:j ∉ a:=λh=>nd'.2.2 j h j (.head _) rfl
 have hb:j ∉ b:=(cL.mp nd'.2.1).1
 have oth:∀x,x≠j->(ow.setIfInBounds j (some k)).getD x none=ow.getD x none:=λx hx=>by
  rw[bR,bR,Array.getElem?_setIfInBounds_ne (cI hx)]
 have self:(ow.setIfInBounds j (some k)).getD j none=some k:=by
  rw[bR,Array.getElem?_setIfInBounds_self_of_lt (by omega)];rfl
 unfold VW
 rw[jD,f8,f8,dZ (f:=λj_1=>(ow.setIfInBounds j (some k)).getD j_1 none) self,fJ (f:=λj=>ow.getD j none) hn,
  SA (l:=a) (g:=λj=>ow.getD j none) (λx hx=>oth x λz=>ha (z ▸ hx)),SA (l:=b) (g:=λj=>ow.getD j none) (λx hx=>oth x λz=>hb (z ▸ hx))]
 exact List.perm_middle
abbrev layS(m:Nat)(iz:Option (Array (Option Nat) × Nat))(h:Int):Option (Array (Option Nat) × Nat):=do
 let (owner,k) ← iz
 let j ← SetTable.layClean.free m owner (SetTable.turns m) (SetTable.bits h % (m+1)) (SetTable.bits h)
 pure (owner.setIfInBounds j (some k),k+1)
def IW{m:Nat}(g:Gm m):∀(hs:iC) (ow:Array (Option Nat)) (k:Nat),ow.size=m+1->(VW m ow).Perm (List.range k)->k+hs.length<=m -> ∃lG,hs.foldl (layS m) (some (ow,k))=some (lG,k+hs.length)∧lG.size=m+1∧(VW m lG).Perm (List.range (k+hs.length))
 |[],ow,k,h1,h2,_=>⟨ow,rfl,h1,h2⟩
 |h::hs,ow,k,h1,h2,h3=>by
  have hl:(VW m ow).length=k:=by rw[h2.length_eq,bP]
  obtain⟨e,he,hn⟩:=GM (m:=m) (ow:=ow) (by rw[hl,bI]at *;omega);obtain⟨q,hq,hz⟩:=LX g (i:=SetTable.bits h % (m+1)) (d3.mp (eU _ (er m))) (IQ h) he
  have gd:∀x,(ow.getD x (some 0)).isNone=true->x<=m∧ow.getD x none=none:=λx hx=>by
   rw[bR]at hx ⊢;cases ho:ow[x]? with
   |none=>rw[ho]at hx;cases hx
   |some y=>
    rw[ho]at hx;obtain⟨iW,_⟩:=dO.mp ho;refine⟨by omega,?_⟩;cases y with
    |none=>rfl
    |some y=>cases hx
  have l0:(ow.getD e (some 0)).isNone=true:=by
   rw[bR]at hn ⊢;have iW:e<ow.size:=by omega
   rw[ce iW]at hn ⊢;simp only[gH]at hn ⊢;rw[hn];rfl
  obtain⟨j,hj,ln⟩:=OY q (SetTable.turns m) (SetTable.bits h % (m+1)) (SetTable.bits h) (by unfold SetTable.turns;omega) (by rw[hz];exact l0);obtain⟨lB,oq⟩:=gd j ln
  have st:layS m (some (ow,k)) h=some (ow.setIfInBounds j (some k),k+1):=by
   show(SetTable.layClean.free m ow (SetTable.turns m) (SetTable.bits h % (m+1)) (SetTable.bits h) >>= _)=_;rw[hj];rfl
  obtain⟨lG,e1,e2,e3⟩:=IW g hs (ow.setIfInBounds j (some k)) (k+1) (by rw[Array.size_setIfInBounds,h1]) ((FY h1 lB oq).trans (by
   rw[dc];exact(h2.cons k).trans (List.perm_append_comm (l₁:=[k])))) (by rw[bI]at h3;omega)
  refine⟨lG,?_,e2,?_⟩
  ·rw[gR,st,e1,bI,gA,Nat.add_assoc]
  ·rw[bI,show k+(hs.length+1)=k+1+hs.length by omega];exact e3
def LI{m:Nat}(g:Gm m){hs:Array Int}(h:hs.size<=m):∃ow,SetTable.layClean m hs=some ow∧ow.size=m+1∧(VW m ow).Perm (List.range hs.size):=by
 have h0:VW m (Array.replicate (m+1) none)=[]:=by
  unfold VW;rw[List.filterMap_eq_nil_iff];intro x hx;rw[bR,Array.getElem?_replicate];split <;> rfl
 obtain⟨ow,e1,e2,e3⟩:=IW g hs.toList (Array.replicate (m+1) none) 0 (Array.size_replicate) (by rw[h0];exact cU _) (by rw[aP];omega);refine⟨ow,?_,e2,by rw[en,aP]at e3;exact e3⟩;unfold SetTable.layClean;rw[← Array.foldl_toList];show Option.map _ (hs.toList.foldl (layS m) (some (Array.replicate (m+1) none,0)))=_;rw[e1];rfl
structure TG(t:SetTable)(n:Nat):Prop where
 gm:Gm t.mask
 size:t.place.size=n
 dum:t.dummies=#[]
 ris:t.place.toList.Pairwise (· < ·)
 le:∀x∈t.place.toList,x<=t.mask
 room:n * 5<t.mask * 3
 pl:t.plain=true
def MH{m f mv:Nat}{led:Bool}(g:Gm m){hs:Array Int}(h:hs.size * 5<m * 3):∃t o,SetTable.laid m f mv led true hs=some (t,o)∧o.toList.Perm (List.range hs.size)∧TG t hs.size∧t.mask=m∧t.led=led:=by
 obtain⟨ow,e1,e2,e3⟩:=LI g (hs:=hs) (by omega)
 have e4:((List.range (m+1)).filterMap λj=>(ow.getD j none).map (j,·)).map (·.2)=VW m ow:=by
  unfold VW;rw[List.map_filterMap];exact SA λx _=>by cases ow.getD x none <;> rfl
 have sub:(((List.range (m+1)).filterMap λj=>(ow.getD j none).map (j,·)).map (·.1)).Sublist (List.range (m+1)):=by
  rw[List.map_filterMap];generalize List.range (m+1)=l
  induction l with
  |nil=>exact List.Sublist.refl _
  |cons x l ih=>
   rw[cD];cases ow.getD x none with
   |none=>exact ih.cons x
   |some y=>exact ih.cons₂ x
 have hl:((List.range (m+1)).filterMap λj=>(ow.getD j none).map (j,·)).length=hs.size:=by
  have:=cE List.length e4;rw[aA,e3.length_eq,bP]at this;exact this
 refine⟨_,_,by unfold SetTable.laid;rw[e1];rfl,?_,⟨g,?_,rfl,?_,?_,h,rfl⟩,rfl,rfl⟩
 ·show(List.map _ _).Perm _
  rw[e4];exact e3
 ·show(List.map _ _).length=_
  rw[aA,hl]
 ·exact List.Pairwise.sublist sub eC
 ·intro x hx
  have:=aX.mp (sub.subset hx);exact d3.mp this
end Tb
namespace Tb
def Pw{xs:Array Nat}{j:Nat}(hr:xs.toList.Pairwise (· < ·)):∀(fuel lo hi:Nat),hi<=xs.size->hi-lo<=fuel->lo<=hi->(∀q (h:q<xs.size),q<lo->xs[q]<j)->(∀q (h:q<xs.size),hi<=q->j<=xs[q]) -> (SetTable.below.go xs j fuel lo hi<=xs.size∧(∀q (h:q<xs.size),q<SetTable.below.go xs j fuel lo hi->xs[q]<j)∧∀q (h:q<xs.size),SetTable.below.go xs j fuel lo hi<=q->j<=xs[q])
 |0,lo,hi,h1,h2,h3,a,b=>by
  have:lo=hi:=by omega
  subst this;exact⟨h1,a,b⟩
 |fuel+1,lo,hi,h1,h2,h3,a,b=>by
  have inc:∀p q (hp:p<xs.size) (hq:q<xs.size),p<q->xs[p]<xs[q]:=λp q hp hq ot=>by
   have:=dv.mp hr p q (by simpa using hp) (by simpa using hq) ot;simpa using this
  unfold SetTable.below.go;split
  ·rename_i iW
   dsimp only;have hm:(lo+hi) / 2<xs.size:=by omega
   have e:xs.getD ((lo+hi) / 2) j=xs[(lo+hi) / 2]:=by rw[bR,ce hm];rfl
   rw[e];split
   ·rename_i hc
    exact Pw hr fuel _ _ h1 (by omega) (by omega) (λq hq hl=>by
     by_cases z:q=(lo+hi) / 2
     ·subst z;exact hc
     ·exact Nat.lt_trans (inc q _ hq hm (by omega)) hc) b
   ·rename_i hc
    exact Pw hr fuel _ _ (by omega) (by omega) (by omega) a (λq hq hl=>by
     by_cases z:q=(lo+hi) / 2
     ·subst z;omega
     ·have:=inc _ q hm hq (by omega);omega)
  ·have:lo=hi:=by omega
   subst this;exact⟨h1,a,b⟩
def KL{xs:Array Nat}{j:Nat}(hr:xs.toList.Pairwise (· < ·)):SetTable.below xs j<=xs.size∧(∀q (h:q<xs.size),q<SetTable.below xs j->xs[q]<j)∧∀q (h:q<xs.size),SetTable.below xs j<=q->j<=xs[q]:=
 Pw hr xs.size 0 xs.size (aK _) (by omega) (cy _) (λq _ h=>absurd h (d0 _)) λq h h'=>absurd h (fS.mpr h')
def Iy:∀{l m:iD},l.Nodup->(∀x∈l,x∈m)->l.length<=m.length
 |[],m,_,_=>cy _
 |x::l,m,nd,h=>by
  obtain⟨a,b,rfl⟩:=List.append_of_mem (h x (.head _));have nd':=cL.mp nd
  have:=Iy (l:=l) (m:=a++b) nd'.2 λy hy=>by
   have hm:=h y (.tail _ hy);simp only[dH,aR]at hm ⊢;rcases hm with z|z|z
   ·exact .inl z
   ·exact absurd (z ▸ hy) nd'.1
   ·exact .inr z
  simp only[aT,bI]at this ⊢;omega
def QN{t:SetTable}(hd:t.dummies=#[])(j:Nat):(t.slot j=.empty∧t.place[SetTable.below t.place j]?≠some j)∨(∃i,t.slot j=.live i)∧j∈t.place.toList:=by
 unfold SetTable.slot;dsimp only;by_cases h:t.place[SetTable.below t.place j]?=some j
 ·refine .inr ⟨⟨_,aC (by rw[h];exact beq_self_eq_true _)⟩,?_⟩
  exact Array.mem_toList_iff.mpr (Array.mem_of_getElem? h)
 ·refine .inl ⟨?_,h⟩
  rw[aE (by simpa using h),aE (by rw[hd];simp[SetTable.has])]
abbrev pgo(t:SetTable)(h:Int):=SetTable.probe.go t (λ_=>h+1) h
def L9{t:SetTable}(hd:t.dummies=#[]){h:Int}:∀(more fuel:Nat) (p:SetTable.Probe),p.more=more->p.dummy=none->more<fuel -> (∃j,pgo t h fuel p=some (.empty j none)∧t.slot j=.empty)∨(t.slot p.j≠.empty∧pgo t h fuel p=pgo t h (fuel-(more+1)) {j:=(SetTable.leap t.mask p.i p.perturb).1,more:=SetTable.runEnd t.mask (SetTable.leap t.mask p.i p.perturb).1-(SetTable.leap t.mask p.i p.perturb).1,i:=(SetTable.leap t.mask p.i p.perturb).1,perturb:=(SetTable.leap t.mask p.i p.perturb).2,dummy:=none})
 |more,0,p,_,_,h=>absurd h (d0 _)
 |more,fuel+1,p,hm,hn,hf=>by
  have jh:((h+1) == h)=false:=aY.mpr (by omega);rcases QN hd p.j with ⟨he,_⟩|⟨⟨i,he⟩,_⟩
  ·refine .inl ⟨p.j,?_,he⟩
   show SetTable.probe.go t (λ_=>h+1) h (fuel+1) p=_;unfold SetTable.probe.go;rw[he,hn]
  ·have st:pgo t h (fuel+1) p=pgo t h fuel (t.advance p):=by
    show SetTable.probe.go t (λ_=>h+1) h (fuel+1) p=SetTable.probe.go t (λ_=>h+1) h fuel (t.advance p)
    conv=>lhs;unfold SetTable.probe.go
    rw[he];show(if ((h+1) == h)=true then _ else SetTable.probe.go t (λ_=>h+1) h fuel (t.advance p))=_;rw[jh];rfl
   have nz:t.slot p.j≠.empty:=by rw[he];exact λz=>nomatch z
   cases more with
   |zero=>
    refine .inr ⟨nz,st.trans ?_⟩;unfold SetTable.advance;rw[aE (by omega),hn];rfl
   |succ more=>
    have ad:t.advance p={p with j:=p.j+1,more:=p.more-1}:=by unfold SetTable.advance;rw[aC (by omega)]
    rcases L9 hd more fuel (t.advance p) (by rw[ad];show p.more-1=more;omega) (by rw[ad];exact hn) (by omega) with ⟨j,e1,e2⟩|⟨_,e⟩
    ·exact .inl ⟨j,st.trans e1,e2⟩
    ·refine .inr ⟨nz,st.trans (e.trans ?_)⟩
     rw[ad,show fuel+1-(more+1+1)=fuel-(more+1) by omega]
def pst(m i q:Nat):SetTable.Probe:={j:=i,more:=SetTable.runEnd m i-i,i:=i,perturb:=q,dummy:=none}
def Q8{t:SetTable}(hd:t.dummies=#[]){h:Int}:∀(k fuel i q:Nat),10 * k<fuel->10 * k+10<=fuel->t.slot (tr t.mask k (i,q)).1=.empty->∃j,pgo t h fuel (pst t.mask i q)=some (.empty j none)∧t.slot j=.empty
 |k,fuel,i,q,h1,h2,e=>by
  have hm:(pst t.mask i q).more<=9:=by
   show SetTable.runEnd t.mask i-i<=9;unfold SetTable.runEnd;split <;> omega
  rcases L9 hd (h:=h) (pst t.mask i q).more fuel (pst t.mask i q) rfl rfl (by omega) with z|⟨nz,z⟩
  ·exact z
  ·cases k with
   |zero=>exact absurd e nz
   |succ k=>
    obtain⟨j,e1,e2⟩:=Q8 hd (h:=h) k (fuel-((pst t.mask i q).more+1)) (SetTable.leap t.mask i q).1 (SetTable.leap t.mask i q).2 (by omega) (by omega) e;exact⟨j,z.trans e1,e2⟩
def DS{t:SetTable}{n:Nat}(T:TG t n)(h:Int):∃j,t.freeSlot h=some (j,false)∧t.place[SetTable.below t.place j]?≠some j∧t.slot j=.empty:=by
 have:∃e,e<=t.mask∧e ∉ t.place.toList:=by
  refine fj λz=>?_
  have:=Iy (l:=List.range (t.mask+1)) (m:=t.place.toList) dU λx hx=>fj λnx=>z ⟨x,by have:=aX.mp hx;omega,nx⟩
  rw[bP,aP,T.size]at this;have:=T.room;omega
 obtain⟨e,he,hn⟩:=this;obtain⟨k,hk,hz⟩:=LX T.gm (i:=SetTable.bits h % (t.mask+1)) (d3.mp (eU _ (er _))) (IQ h) he
 have hs:t.slot e=.empty:=by
  rcases QN T.dum e with z|z
  ·exact z.1
  ·exact absurd z.2 hn
 obtain⟨j,e1,e2⟩:=Q8 T.dum (h:=h) k (10 * SetTable.turns t.mask) (SetTable.bits h % (t.mask+1)) (SetTable.bits h) (by unfold SetTable.turns;omega) (by unfold SetTable.turns;omega) (by rw[hz];exact hs);refine⟨j,?_,?_,e2⟩
 ·unfold SetTable.freeSlot
  show(match pgo t h (10 * SetTable.turns t.mask) (pst t.mask _ _) with|some (.empty j dummy)=>some (dummy.getD j,dummy.isSome)|_=>none)=_;rw[e1];rfl
 ·rcases QN T.dum j with z|⟨⟨i,z⟩,_⟩
  ·exact z.2
  ·rw[e2]at z;cases z
def Iw{t:SetTable}{n:Nat}(T:TG t n)(h:Int):∀(fuel:Nat) (p:SetTable.Probe) (j:Nat) (d:Option Nat),p.i<=t.mask->p.j+p.more<=t.mask->pgo t h fuel p=some (.empty j d)->j<=t.mask
 |0,p,j,d,_,_,e=>by cases e
 |fuel+1,p,j,d,h1,h2,e=>by
  have adv:(t.advance p).i<=t.mask∧(t.advance p).j+(t.advance p).more<=t.mask:=by
   unfold SetTable.advance;split
   ·exact⟨h1,by show p.j+1+(p.more-1)<=_;omega⟩
   ·have hl:(SetTable.leap t.mask p.i p.perturb).1<=t.mask:=d3.mp (eU _ (er _))
    refine⟨hl,?_⟩;show(SetTable.leap t.mask p.i p.perturb).1+(SetTable.runEnd t.mask (SetTable.leap t.mask p.i p.perturb).1-(SetTable.leap t.mask p.i p.perturb).1)<=t.mask;unfold SetTable.runEnd;split <;> omega
  have e:SetTable.probe.go t (λ_=>h+1) h (fuel+1) p=some (.empty j d):=e;unfold SetTable.probe.go at e;rcases QN T.dum p.j with ⟨he,_⟩|⟨⟨i,he⟩,_⟩
  ·rw[he]at e
   cases e;omega
  ·rw[he]at e
   have jh:((h+1) == h)=false:=aY.mpr (by omega);have e:(if ((h+1) == h)=true then _ else SetTable.probe.go t (λ_=>h+1) h fuel (t.advance p))=some (.empty j d):=e;rw[jh]at e;exact Iw T h fuel _ j d adv.1 adv.2 e
def DV{t:SetTable}{n:Nat}(T:TG t n){h:Int}{j:Nat}(e:t.freeSlot h=some (j,false)):j<=t.mask:=by
 unfold SetTable.freeSlot at e
 match hp:t.probe (λ_=>h+1) h (t.probeStart h),e with
 |some (.empty j' none),e=>
  have e:some ((none:Option Nat).getD j',(none:Option Nat).isSome)=some (j,false):=e;have:j'=j:=by injection e with e;injection e
  subst this;refine Iw T h _ _ j' none ?_ ?_ hp
  ·exact d3.mp (eU _ (er _))
  ·show SetTable.bits h % (t.mask+1)+(SetTable.runEnd t.mask (SetTable.bits h % (t.mask+1))-SetTable.bits h % (t.mask+1))<=t.mask
   have:SetTable.bits h % (t.mask+1)<t.mask+1:=eU _ (er t.mask);unfold SetTable.runEnd;split <;> omega
 |some (.empty j' (some d)),e=>exact nomatch e
 |some (.candidate _ _ _),e=>exact nomatch e
 |none,e=>exact nomatch e
structure TH(t:SetTable)(n:Nat):Prop where
 gm:Gm t.mask
 size:t.place.size=n
 dum:t.dummies=#[]
 ris:t.place.toList.Pairwise (· < ·)
 le:∀x∈t.place.toList,x<=t.mask
 fit:n<=t.mask
 pl:t.plain=true
def put_ok{t:SetTable}{n j:Nat}(T:TG t n)(hj:j<=t.mask)(hn:t.place[SetTable.below t.place j]?≠some j):TH (t.put j).1 (n+1)∧(t.put j).1.mask=t.mask∧(t.put j).1.led=t.led:=by
 obtain⟨b1,b2,b3⟩:=KL (j:=j) T.ris
 have hl:(SetTable.insertAt t.place (SetTable.below t.place j) j).toList=t.place.toList.take (SetTable.below t.place j)++j::t.place.toList.drop (SetTable.below t.place j):=by
  rw[SetTable.toList_insertAt]
 have hd:(t.put j).1.dummies=#[]:=by
  show(if SetTable.has t.dummies j=true then _ else t.dummies)=_;rw[T.dum,aE (by simp[SetTable.has])]
 refine⟨⟨T.gm,?_,hd,?_,?_,?_,T.pl⟩,rfl,rfl⟩
 ·show(SetTable.insertAt t.place (SetTable.below t.place j) j).size=_
  rw[← aP,hl,aT,bI,fM,List.length_drop,aP,T.size];rw[T.size]at b1;omega
 ·show(SetTable.insertAt t.place (SetTable.below t.place j) j).toList.Pairwise _
  rw[hl,List.pairwise_append,bJ]
  have hlow:∀x∈t.place.toList.take (SetTable.below t.place j),x<j:=λx hx=>by
   obtain⟨q,hq,rfl⟩:=List.mem_take_iff_getElem.mp hx;have ke:q<t.place.size:=by rw[aP]at hq;omega
   have:=b2 q ke (by omega);simpa using this
  have hhi:∀x∈t.place.toList.drop (SetTable.below t.place j),j<x:=λx hx=>by
   obtain⟨q,hq,rfl⟩:=List.mem_drop_iff_getElem.mp hx;have ke:SetTable.below t.place j+q<t.place.size:=by rw[aP]at hq;omega
   have h1:=b3 _ ke (by omega);rw[eN];refine Nat.lt_of_le_of_ne h1 λz=>?_
   by_cases hz:q=0
   ·subst hz
    exact hn (by rw[ce (by omega)];exact cE some z.symm)
   ·have hb:SetTable.below t.place j<t.place.size:=by omega
    have h2:=b3 _ hb (aK _);have h3:=dv.mp T.ris (SetTable.below t.place j) (SetTable.below t.place j+q) (by simpa using hb) (by simpa using ke) (by omega);simp only[eN]at h3;omega
  exact⟨T.ris.sublist (List.take_sublist _ _),⟨hhi,T.ris.sublist (List.drop_sublist _ _)⟩,λx hx y hy=>by
   rcases aR.mp hy with rfl|hy
   ·exact hlow x hx
   ·exact Nat.lt_trans (hlow x hx) (hhi y hy)⟩
 ·intro x hx
  have hx:x∈(SetTable.insertAt t.place (SetTable.below t.place j) j).toList:=hx;rw[hl]at hx;rcases dH.mp hx with hx|hx
  ·exact T.le x (List.mem_of_mem_take hx)
  ·rcases aR.mp hx with rfl|hx
   ·exact hj
   ·exact T.le x (List.mem_of_mem_drop hx)
 ·have:=T.room;show n+1<=t.mask;omega
def TH.fits{t:SetTable}{n:Nat}(T:TH t n):t.fits n=true:=by
 unfold SetTable.fits SetTable.fill;rw[T.size,T.dum];simp[T.fit]
def TG.th{t:SetTable}{n:Nat}(T:TG t n):TH t n:=⟨T.gm,T.size,T.dum,T.ris,T.le,by have:=T.room;omega,T.pl⟩
def TG.fits{t:SetTable}{n:Nat}(T:TG t n):t.fits n=true:=T.th.fits
def Cw{n:Nat}(h:n<32):Gm (SetTable.sizeAbove (SetTable.grown n)-1)∧n * 5<(SetTable.sizeAbove (SetTable.grown n)-1) * 3:=by
 have:∀n,n<32->((λm=>m=7∨m=15∨m=31∨m=63∨m=127) (SetTable.sizeAbove (SetTable.grown n)-1))∧n * 5<(SetTable.sizeAbove (SetTable.grown n)-1) * 3:=by decide +kernel
 exact this n h
def Cf{n:Nat}(h:n<32):Gm (SetTable.sizeAbove (n * 2)-1)∧n * 5<(SetTable.sizeAbove (n * 2)-1) * 3∧SetTable.sizeAbove (n * 2)<=sizeLine:=by
 have:∀n,n<32->((λm=>m=7∨m=15∨m=31∨m=63∨m=127) (SetTable.sizeAbove (n * 2)-1))∧n * 5<(SetTable.sizeAbove (n * 2)-1) * 3∧SetTable.sizeAbove (n * 2)<=128:=by decide +kernel
 obtain⟨a,b,c⟩:=this n h;exact⟨a,b,cg c (by rw[cf];decide)⟩
def GS{t:SetTable}{es:Array (Int × Value)}(T:TG t es.size)(h:Int)(x:Value):∃jd t',layNew t es h x=(jd,t',false,false)∧TH t' jd.size∧jd.size=es.size+1∧t'.led=t.led∧t'.mask=t.mask:=by
 obtain⟨j,e1,e2,e3⟩:=DS T h;obtain⟨p1,p2,p3⟩:=put_ok T (DV T e1) e2
 have hs:(SetTable.insertAt es (t.put j).2 (h,x)).size=es.size+1:=by
  have:=(SetTable.insertAt_perm es (t.put j).2 (h,x)).length_eq;rw[aP,aP,Array.size_push]at this;exact this
 have hf:=p1.fits;refine⟨SetTable.insertAt es (t.put j).2 (h,x),(t.put j).1,?_,by rw[hs];exact p1,hs,p3,p2⟩;unfold layNew;rw[e1];show(SetTable.insertAt es (t.put j).2 (h,x),(t.put j).1.orStandIn (SetTable.insertAt es (t.put j).2 (h,x)).size,false,!(t.put j).1.fits (SetTable.insertAt es (t.put j).2 (h,x)).size)=_;rw[hs,hf];unfold SetTable.orStandIn;rw[hf];rfl
def LW{t:SetTable}{es:Array (Int × Value)}(T:TH t es.size)(h:es.size<32):∃jd t',relayAll t es (SetTable.grown es.size)=(jd,t',false)∧TG t' jd.size∧jd.size=es.size∧t'.led=t.led:=by
 obtain⟨g1,g2⟩:=Cw h;obtain⟨t',o,e1,e2,e3,e4,e5⟩:=MH (f:=t.finger) (mv:=t.movedTo (SetTable.sizeAbove (SetTable.grown es.size)-1)) (led:=t.led) g1 (hs:=es.map (·.1)) (by rw[ge];exact g2);rw[ge]at e2 e3
 have hr:t.relaid (es.map (·.1)) (SetTable.grown es.size)=some (t',o):=by
  unfold SetTable.relaid;rw[T.pl];exact e1
 have hc:coversAll o es.size=true:=by
  unfold coversAll;exact List.isPerm_iff.mpr e2
 have hp:=relayAll_perm t es (SetTable.grown es.size)
 have hsz:(o.filterMap (es[·]?)).size=es.size:=by
  rw[← aP,fV];rw[(e2.filterMap _).length_eq,eG,aP]
 refine⟨o.filterMap (es[·]?),t',?_,by rw[hsz];exact e3,hsz,e5⟩;unfold relayAll;rw[hr];dsimp only;rw[hsz,hc,e3.fits];rfl
end Tb
open PySem PyProof.Rows
namespace Tb
def EIn(e:Int × Value)(k:Int):Prop:=e.1=hashInt k∧∃t,e.2=.int k t
def SetL(bt:Bool)(h:Heap)(a:Addr)(ks:iC):Prop:=
 ∃o es ep t,h.get? a=some o∧o.ExactSet∧o.data=.set es ep t∧(∃js,Paired EIn es.toList js∧js.Perm ks)∧ks.Nodup∧TG t es.size∧(bt=false->t.led=true)
def T0{α γ:Type}{R:α->γ->Prop}:∀{xs:List α} {ys:List γ},Paired R xs ys->xs.length=ys.length
 |_,_,.nil=>rfl
 |_,_,.cons _ h=>cE (·+1) (T0 h)
def T4{α γ:Type}{R:α->γ->Prop}:∀{xs:List α} {ys:List γ} {x:α},Paired R xs ys->x∈xs->∃y∈ys,R x y
 |_,_,_,.nil,h=>nomatch h
 |_,_,_,.cons r p,h=>by
  rcases aR.mp h with rfl|h
  ·exact⟨_,.head _,r⟩
  ·obtain⟨y,h1,h2⟩:=T4 p h
   exact⟨y,.tail _ h1,h2⟩
def P1{α γ:Type}{R:α->γ->Prop}:∀{xs:List α} {ys:List γ} {y:γ},Paired R xs ys->y∈ys->∃x∈xs,R x y
 |_,_,_,.nil,h=>nomatch h
 |_,_,_,.cons r p,h=>by
  rcases aR.mp h with rfl|h
  ·exact⟨_,.head _,r⟩
  ·obtain⟨y,h1,h2⟩:=P1 p h
   exact⟨y,.tail _ h1,h2⟩
def Wy{α γ:Type}{R:α->γ->Prop}{xs nc:List α}(p:nc.Perm xs):∀{ys:List γ},Paired R xs ys->∃mC,Paired R nc mC∧mC.Perm ys:=by
 induction p with
 |nil=>intro ys h;exact⟨ys,h,.refl _⟩
 |cons x _ ih=>
  intro ys h;cases h with
  |cons r h=>
   obtain⟨mC,h1,h2⟩:=ih h;exact⟨_,.cons r h1,h2.cons _⟩
 |swap x y l=>
  intro ys h;cases h with
  |cons r1 h=>
   cases h with
   |cons r2 h=>exact⟨_,.cons r2 (.cons r1 h),List.Perm.swap _ _ _⟩
 |trans _ _ ih1 ih2=>
  intro ys h;obtain⟨y1,h1,h2⟩:=ih2 h;obtain⟨y2,h3,h4⟩:=ih1 h1;exact⟨y2,h3,h4.trans h2⟩
section
variable{prog:Program}{w:World}{A:Around}{E:g7}{s:Shared}{a:Addr}{bt:Bool}{ks:iC}
def AH{es:List (Int × Value)}{js:iC}(p:Paired EIn es js):ElemsOf (intKind prog w) es:=λe he=>by
 obtain⟨k,_,h1,t,h2⟩:=T4 p he;rw[h2];exact⟨⟨k,gh _ _ _ _,h1⟩,rfl⟩
def G8{es:List (Int × Value)}{js:iC}(p:Paired EIn es js)(k:Int):k∈js ↔ ∃e∈es,(intKind prog w).is k e.2=true:=by
 constructor
 ·intro h
  obtain⟨e,h1,_,t,h2⟩:=P1 p h;exact⟨e,h1,by rw[h2];exact gh _ _ _ _⟩
 ·rintro⟨e,h1,h2⟩
  obtain⟨j,hj,_,t,h3⟩:=T4 p h1;rw[h3]at h2;have:=(intKind prog w).inj _ k j h2 (gh _ _ _ _);rw[this];exact hj
def SetL.len{h:Heap}(S:SetL bt h a ks){o:Obj}{es:Array (Int × Value)}{ep:Nat}{t:SetTable}(ho:h.get? a=some o)(hd:o.data=.set es ep t):es.size=ks.length:=by
 obtain⟨o',jd,kd,t',h1,_,h2,⟨js,h3,h4⟩,_⟩:=S;rw[ho]at h1;cases h1;rw[hd]at h2;cases h2;rw[← aP,T0 h3,h4.length_eq]
def SetL.of{h:Heap}(S:SetL bt h a ks)(hb:ks.length<scanBound):h.SetOf (intKind prog w) a (λk=>ks.contains k) ks.length:=by
 obtain⟨o,es,ep,t,h1,h2,h3,⟨js,h4,h5⟩,nd,T,_⟩:=S;have hl:es.size=ks.length:=by rw[← aP,T0 h4,h5.length_eq]
 refine⟨o,es,ep,t,h1,h2,h3,AH h4,λk=>?_,by rw[hl];exact hb,T.fits,hl⟩;rw[← G8 h4 k,h5.mem_iff];simp
def SetL.keep{h h':Heap}(S:SetL bt h a ks)(k:∀o,h.get? a=some o->h'.get? a=some o):SetL bt h' a ks:=
 let ⟨o,es,ep,t,h1,r⟩:=S;⟨o,es,ep,t,k o h1,r⟩
def Uf{h:Heap}{o:Obj}{es jd:Array (Int × Value)}{ep:Nat}{t t':SetTable}{js:iC}(ho:h.get? a=some o)(hx:o.ExactSet)(hd:o.data=.set es ep t)(p:Paired EIn jd.toList js) (q:js.Perm ks) (nd:ks.Nodup) (T:TG t' jd.size) (hl:bt=false->t'.led=true):SetL bt (h.update a (Obj.putSet jd t')) a ks:=by
 have e:=putSet_of jd t' hd;have g:=cv (Obj.putSet jd t') ho (by rw[e];rfl);rw[e]at g;exact⟨_,jd,ep+1,t',g,hx,rfl,⟨js,p,q⟩,nd,T,hl⟩
def Sd(ks:iC)(k:Int):iC:=if ks.contains k=true then ks else ks++[k]
def Do(ks:iC)(k:Int):(Sd ks k).length<=ks.length+1:=by unfold Sd;split <;> simp
def Sh{k:Int}{tk:Tok}{Q:Bool->Shared->Prop}(S:SetL bt s.heap a ks)(hr:ks.length+1<32)(q:∀h',Heap.SameBut a s.heap h'->SetL bt h' a (Sd ks k)->Q (!ks.contains k) {s with heap:=h'}):wpAny (model prog w) A (setAddHashed a (.int k tk) (hashInt k)) Q E s:=by
 have S0:=S;obtain⟨o,es,ep,t,ho,hx,hd,⟨js,hp,hq⟩,nd,T,hl⟩:=S;have hsz:es.size=ks.length:=S0.len ho hd;have el:ElemsOf (intKind prog w) es.toList:=AH hp;have hk:(intKind prog w).is k (.int k tk)=true:=gh _ _ _ _;unfold setAddHashed setAddHashedIn;refine cz (aB (cJ ho hd T.fits ?_));dsimp only;rw[byScan_of (knd:=intKind prog w) rfl (by unfold scanBound;omega) el,aC rfl];unfold setAddByScan;refine aB (aB (wpAny_rule (aB ?_)));refine wpAny_setScan_of (knd:=intKind prog w) (k:=k) hk ho hd T.fits el ?_;cases hf:es.toList.findIdx? (λe=>(intKind prog w).is k e.2) with
 |some j=>
  obtain⟨hj,mD,_⟩:=List.findIdx?_eq_some_iff_getElem.mp hf;have hin:ks.contains k=true:=by simpa using hq.mem_iff.mp ((G8 (prog:=prog) (w:=w) hp k).mpr ⟨_,eF hj,mD⟩)
  have z:=q s.heap (Heap.SameBut.refl a s.heap) (by unfold Sd;rw[aC hin];exact S0);rw[hin]at z;exact aD (aD z)
 |none=>
  have jy:ks.contains k=false:=by
   cases hc:ks.contains k with
   |false=>rfl
   |true=>
    obtain⟨e,he,hi⟩:=(G8 (prog:=prog) (w:=w) hp k).mp (hq.mem_iff.mpr (by simpa using hc));have:=List.findIdx?_eq_none_iff.mp hf e he;rw[hi]at this;cases this
  have hadd:Sd ks k=ks++[k]:=by unfold Sd;rw[jy];rfl
  obtain⟨jR,t1,e1,T1,e2,e3,e4⟩:=GS T (hashInt k) (.int k tk);have pm:=layNew_perm t es (hashInt k) (.int k tk);rw[e1,Array.toList_push]at pm;have pm:jR.toList.Perm (es.toList++[(hashInt k,Value.int k tk)]):=pm;obtain⟨ou,p1,q1⟩:=Wy pm (Paired.snoc hp (b:=k) ⟨rfl,tk,rfl⟩);have q2:ou.Perm (ks++[k]):=q1.trans (hq.append_right [k])
  have nd2:(ks++[k]).Nodup:=by
   rw[cH];refine⟨nd,by simp,λx hx y hy=>?_⟩;rw[cP]at hy;subst hy;intro z;subst z;rw[bB.mpr hx]at jy;cases jy
  rw[e1];dsimp only;refine aB (show wpAny (model prog w) A (pure ()) _ _ _ from aD ?_);rw[T1.pl,aC rfl,hashByValue_scannable 8 (x:=.int k tk) rfl];refine aB (aD ?_);rw[aC (show plainKind (Value.int k tk)=true from rfl)];have hsz1:jR.size<=sizeLine:=by rw[cf];omega
  refine aB (eL ho hd ?_ hsz1);have sb:=cw s.heap a (Obj.putSet jR t1);by_cases hfull:t1.tooFull=true
  ·rw[aC (by rw[hfull];rfl)]
   obtain⟨ng,t2,f1,T2,f2,f3⟩:=LW T1 (by omega);have pr:=relayAll_perm t1 jR (SetTable.grown jR.size);rw[f1]at pr ⊢;have pr:ng.toList.Perm jR.toList:=pr;obtain⟨kQ,p2,q3⟩:=Wy pr p1;dsimp only;refine aB (show wpAny (model prog w) A (pure ()) _ _ _ from aD ?_);have g1:=cv (Obj.putSet jR t1) ho (by rw[putSet_of jR t1 hd];rfl);rw[putSet_of jR t1 hd]at g1;refine aB (eL g1 rfl ?_ (by rw[f2];exact hsz1));refine aD (aD ?_);have z:=q _ (sb.trans (cw _ a (Obj.putSet ng t2))) (by rw[hadd];exact Uf (o:={o with data:=.set jR (ep+1) t1}) g1 hx rfl p2 (q3.trans q2) nd2 T2 (λz=>by rw[f3,e3];exact hl z));rw[jy]at z;exact z
  ·rw[aE (by simpa using hfull)]
   have T2:TG t1 jR.size:=⟨T1.gm,T1.size,T1.dum,T1.ris,T1.le,by
    have hn:¬ (t1.fill * 5 ≥ t1.mask * 3):=λz=>hfull (by unfold SetTable.tooFull;exact bL z)
    have hfl:t1.fill=jR.size:=by unfold SetTable.fill;rw[T1.size,T1.dum];rfl
    omega,T1.pl⟩
   refine aD (aD ?_);have z:=q _ sb (by rw[hadd];exact Uf ho hx hd p1 q2 nd2 T2 (λz=>by rw[e3];exact hl z));rw[jy]at z;exact z
def Mj(bt:Bool)(h:Heap):SetL bt (h.push {cls:=.type "set",dict:=none,data:=.set #[] 0 (.fresh 0 0 (!bt))}) h.objs.size []:=
 ⟨_,#[],0,_,aW _ rfl,⟨rfl,rfl,rfl⟩,rfl,⟨[],.nil,.refl _⟩,eV,⟨.inl rfl,rfl,rfl,List.Pairwise.nil,λx hx=>(by simp[SetTable.fresh]at hx),(show 0 * 5<7 * 3 by decide),rfl⟩,λh=>by subst h;rfl⟩
abbrev XM(bt:Bool):Obj:={cls:=.type "set",dict:=none,data:=.set #[] 0 (.fresh 0 0 (!bt))}
def Pz{Q:g7}(q:Q (.ref s.heap.objs.size) {s with heap:=s.heap.push (XM (w.params.followText "set-order"))}):wpAny (model prog w) A (newSet (.type "set")) Q E s:=by
 unfold newSet setsByText;refine aB (aB (du (aD ?_)));dsimp only;simp only[newObj];exact aB (wpAny_alloc (aD q))
def R8{n:Nat}{Q:Unit->Shared->Prop}(S:SetL bt s.heap a [])(hn:n<32)(q:∀h',Heap.SameBut a s.heap h'->(∃o es ep t,h'.get? a=some o∧o.ExactSet∧o.data=.set es ep t∧es=#[]∧TG t 0∧n * 5<t.mask * 3∧(bt=false->t.led=true))->Q () {s with heap:=h'}):wpAny (model prog w) A (setRoomFor a n) Q E s:=by
 have S0:=S;obtain⟨o,es,ep,t,ho,hx,hd,⟨js,hp,hq⟩,nd,T,hl⟩:=S;have hsz:es.size=0:=S0.len ho hd;have hes:es=#[]:=dF hsz;subst hes;unfold setRoomFor;refine aB (cJ ho hd T.fits ?_);dsimp only;have hfl:t.fill=0:=by unfold SetTable.fill;rw[T.size,T.dum];rfl
 unfold SetTable.roomFor;rw[hfl,T.size];by_cases hc:(0+n) * 5 ≥ t.mask * 3
 ·rw[aC hc]
  dsimp only;unfold setRelay;refine aB (cJ ho hd T.fits ?_);dsimp only;have h0:(#[]:Array (Int × Value)).size+n=n:=en n;rw[h0];obtain⟨r1,r2,r3⟩:=Cf hn;rw[aE (fS.mpr r3)];obtain⟨t',o',e1,e2,e3,e4,e5⟩:=MH (f:=t.finger) (mv:=t.movedTo (SetTable.sizeAbove (n * 2)-1)) (led:=t.led) r1 (hs:=#[]) (by show 0 * 5<_;omega);have hr:t.relaid ((#[]:Array (Int × Value)).map (·.1)) (n * 2)=some (t',o'):=by unfold SetTable.relaid;rw[T.pl,show(#[]:Array (Int × Value)).map (·.1)=#[] from by simp];exact e1
  rw[hr];have i7:o'=#[]:=dF (by rw[← aP,e2.length_eq];rfl);subst i7;refine aB (show wpAny (model prog w) A (pure ((#[]:Array (Int × Value)),t')) _ _ _ from aD ?_);refine eL ho hd ?_ (by show 0<=sizeLine;exact cy _);have e:=putSet_of #[] t' hd;have g:=cv (Obj.putSet #[] t') ho (by rw[e];rfl);rw[e]at g;exact q _ (cw s.heap a _) ⟨_,#[],ep+1,t',g,hx,rfl,rfl,e3,by rw[e4];exact r2,λz=>by rw[e5];exact hl z⟩
 ·rw[aE hc]
  have z:=q s.heap (Heap.SameBut.refl a s.heap) ⟨o,#[],ep,t,ho,hx,hd,rfl,T,by omega,hl⟩;exact aD z
end
end Tb
namespace Tb
def PD{α:Type}:∀(l:List α) (i:Nat) (h:i<l.length),(l[i]::l.eraseIdx i).Perm l
 |[],i,h=>absurd h (d0 _)
 |x::l,0,h=>.refl _
 |x::l,i+1,h=>(List.Perm.swap x _ _).trans ((PD l i (Nat.lt_of_succ_lt_succ h)).cons x)
def J6{α:Type}(next:Nat->Nat):∀(fuel k:Nat) (left:List α) (out:Array α),left.length=fuel->(pickOrder.go next fuel k left out).toList.Perm (out.toList++left)
 |0,k,left,out,h=>by
  have:left=[]:=fR.mp h;subst this;rw[cC];exact .refl _
 |fuel+1,k,left,out,h=>by
  have hi:next k % left.length<left.length:=eU _ (by omega);unfold pickOrder.go;rw[aI hi];dsimp only;refine(J6 next fuel (k+1) _ _ (by rw[List.length_eraseIdx_of_lt hi];omega)).trans ?_;rw[Array.toList_push,bS];refine List.Perm.append_left _ ?_;show(left[next k % left.length]::left.eraseIdx (next k % left.length)).Perm left;exact PD left _ hi
def Gp{α:Type}(next:Nat->Nat)(xs:Array α):(pickOrder next xs).toList.Perm xs.toList:=by
 have:=J6 next xs.size 0 xs.toList #[] (aP);simpa [pickOrder] using this
section
variable{prog:Program}{w:World}{A:Around}{E:g7}{s:Shared}{a:Addr}{ks:iC}
abbrev byT(w:World):Bool:=w.params.followText "set-order"
def Te(w:World)(a:Addr)(ep:Nat)(es:Array (Int × Value)):Array (Int × Value):=if byT w=true then pickOrder (w.params.setOrder a ep) es else es
def Wn(w:World)(a:Addr)(ep:Nat)(es:Array (Int × Value)):(Te w a ep es).toList.Perm es.toList:=by
 unfold Te;split
 ·exact Gp _ _
 ·exact .refl _
def Sn{o:Obj}{es:Array (Int × Value)}{ep:Nat}{t:SetTable}{Q:Array (Int × Value)->Shared->Prop}(ho:s.heap.get? a=some o)(hd:o.data=.set es ep t)(T:TG t es.size)(hl:byT w=false->t.led=true)(q:Q (Te w a ep es) s):wpAny (model prog w) A (setWalk a) Q E s:=by
 unfold setWalk;refine aB (cJ ho hd T.fits ?_);dsimp only;unfold setsByText;refine aB (aB (du (aD ?_)));unfold Te at q;cases hb:byT w with
 |true=>
  rw[hb,aC rfl]at q;have hb:w.params.followText "set-order"=true:=hb;show wpAny _ _ (if w.params.followText "set-order"=true then _ else _) _ _ _;rw[hb,aC rfl];exact aB (du (aD q))
 |false=>
  rw[hb,aE aJ]at q;have jB:w.params.followText "set-order"=false:=hb;show wpAny _ _ (if w.params.followText "set-order"=true then _ else if (!t.plain&&decide (es.size > 1))=true then _ else ((if (!t.led&&decide (es.size > 1))=true then _ else pure ()) >>= _)) _ _ _;rw[jB,aE aJ,T.pl,hl hb];exact aB (aD (aD q))
def Qd{o:Obj}{es:Array (Int × Value)}{ep:Nat}{t:SetTable}{os:iA}{f:Option Addr}{Q:Array (Int × Value)->Shared->Prop}(ho:s.heap.get? a=some o)(hd:o.data=.set es ep t)(T:TG t es.size)(hl:byT w=false->t.led=true)(q:Q (Te w a ep es) s):wpAny (model prog w) A (setWalkUnseen a os f) Q E s:=by
 unfold setWalkUnseen;refine aB (cJ ho hd T.fits ?_);dsimp only;unfold setsByText;refine aB (aB (du (aD ?_)));show wpAny _ _ (if (w.params.followText "set-order" || t.led&&t.plain || decide (es.size<=1))=true then _ else _) _ _ _;rw[aC]
 ·exact Sn ho hd T hl q
 ·cases hb:byT w with
  |true=>rw[show w.params.followText "set-order"=true from hb];rfl
  |false=>rw[show w.params.followText "set-order"=false from hb,hl hb,T.pl];rfl
def Ki:Manifest.owners.lookup (String.ofList ['r','o','t','a','r','e','t','i','_','t','e','s'].reverse)=some Manifest.sig_set_iterator:=by kernel_rfl
def To:PySem.Slot "set_iterator" "__next__" "set_iterator.__next__":=
 PySem.Slot.of (owner:="set_iterator") (n:="__next__") (by rw[typeLookup_type,gx];kernel_rfl) (by decide +kernel) (by decide +kernel) (by decide +kernel)
  (by first|exact .inl (by decide +kernel)|exact .inr (by decide +kernel)) (by rw[eK];kernel_rfl)
def ES:entryFor table "set_iterator.__next__"=some Builtin.«set_iterator.__next__»:=entryFor_of_tree (by kernel_rfl)
def IU(v:Value):argsOk "set_iterator.__next__" ⟨[v],[]⟩:=by
 unfold argsOk;rw[signature?_of (id:="set_iterator.__next__") (n:=['_','_','t','x','e','n','_','_']) (o:=['r','o','t','a','r','e','t','i','_','t','e','s']) (by kernel_rfl) Ki];kernel_rfl
def EF:entryFor table "set.__iter__"=some Builtin.«frozenset.__iter__»:=
 entryFor_alias (id':="frozenset.__iter__") (by kernel_rfl) rfl (by decide +kernel) (by kernel_rfl)
def G9(w:World)(t:SetTable)(i slot:Nat):Prop:=byT w=false->∀q (h:q<t.place.size),(q<i->t.place[q]<slot)∧(i<=q->slot<=t.place[q])
def EE(w:World)(h:Heap)(I a:Addr)(o:Obj)(i:Nat):Prop:=h.get? a=some o∧∃es ep t slot oi,o.data=.set es ep t∧TG t es.size∧(byT w=false->t.led=true)∧G9 w t i slot∧h.get? I=some oi∧oi.cls=.type "set_iterator"∧oi.data=.fields #[.int slot 0,.int i 0,.ref a,.int es.size 0,.int ep 0]
def Rv{o:Obj}{es:Array (Int × Value)}{ep:Nat}{t:SetTable}{Q:g7}(ho:s.heap.get? a=some o)(hx:o.ExactSet)(hd:o.data=.set es ep t)(T:TG t es.size)(hl:byT w=false->t.led=true)(q:Q (.ref s.heap.objs.size) {s with heap:=s.heap.push {cls:=.type "set_iterator",data:=.fields #[.int 0 0,.int 0 0,.ref a,.int es.size 0,.int ep 0]}}):wpAny (model prog w) A (pyIter (.ref a)) Q E s:=by
 have hT:s.TypeIs (.ref a) "set":=⟨o,ho,hx.1⟩;refine wpAny_pyIter_slot hT PySem.F.slot_set_iter (dr PySem.F.slot_set_iter hT EF ?_ (PySem.F.args_set_iter_1 _));unfold Builtin.«frozenset.__iter__» Builtin.Frozenset.slot0 slotArgs;simp only[fO,fG,d7,↓reduceIte,bind_assoc,cA,eA];unfold Builtin.Frozenset.addrOf Builtin.Frozenset.sizeOf;refine aB (aD ?_)
 try dsimp only
 refine aB (aD ?_);refine aB (aB (fq ho hd T.fits (aD ?_)));refine aB ?_;unfold setDrawn;refine aB (cJ ho hd T.fits ?_);dsimp only;unfold setsByText;refine aB (aB (du (aD ?_)));refine aD ?_;show wpAny _ _ (if (!w.params.followText "set-order"&&(!t.plain&&decide (es.size > 1)))=true then _ else _) _ _ _;rw[T.pl,aE (by simp)];refine aB (aD ?_);refine aB (fX ho hd T.fits ?_);refine aB (dD (aD ⟨_,rfl,"set_iterator",_,⟨_,aW _ rfl,rfl⟩,To.lookup,?_⟩));exact q
def Kz{t:SetTable}{n i slot:Nat}(T:TG t n)(hi:i<=n)(hs:∀q (h:q<t.place.size),(q<i->t.place[q]<slot)∧(i<=q->slot<=t.place[q])):SetTable.below t.place slot=i:=by
 obtain⟨b1,b2,b3⟩:=KL (j:=slot) T.ris;have hz:=T.size;rcases Nat.lt_trichotomy (SetTable.below t.place slot) i with h|h|h
 ·have h1:=(hs (SetTable.below t.place slot) (by omega)).1 h
  have h2:=b3 (SetTable.below t.place slot) (by omega) (aK _);omega
 ·exact h
 ·have h1:=(hs i (by omega)).2 (aK _)
  have h2:=b2 i (by omega) h;omega
def Qy{I:Addr}{o:Obj}{i:Nat}{es:Array (Int × Value)}{ep:Nat}{t:SetTable}{e:Int × Value}{Q:iH->Shared->Prop}(jh:a≠I)(st:EE w s.heap I a o i)(hd:o.data=.set es ep t)(he:(Te w a ep es)[i]?=some e)(q:∀h',EE w h' I a o (i+1)->Heap.SameBut I s.heap h'->Q (some e.2) {s with heap:=h'}):wpAny (model prog w) A (pyNext (.ref I)) Q E s:=by
 obtain⟨ho,jd,kd,t',slot,oi,kb,T,hl,hs,hi,hc,hf⟩:=st;rw[hd]at kb;cases kb;have hT:s.TypeIs (.ref I) "set_iterator":=⟨oi,hi,hc⟩
 have iW:i<es.size:=by
  have h1:=(dO.mp he).1;have h2:=(Wn w a ep es).length_eq;rw[aP,aP]at h2;omega
 have two:∀(sl:Nat),G9 w t (i+1) sl->EE w ((s.heap.update I (Obj.mapFields (·.setIfInBounds 0 (rawInt (sl:Int))))).update I (Obj.mapFields (·.setIfInBounds 1 (rawInt ((i:Int)+1))))) I a o (i+1):=λsl jm=>by
  have g1:(s.heap.update I (Obj.mapFields (·.setIfInBounds 0 (rawInt (sl:Int))))).get? I=some _:=cv _ hi (eR (c9 hf _));have d1:=c9 hf (·.setIfInBounds 0 (rawInt (sl:Int)));have g2:=cv (Obj.mapFields (·.setIfInBounds 1 (rawInt ((i:Int)+1)))) g1 (eR (c9 d1 _));refine⟨(cN _ _ (cI jh)).trans ((cN _ _ (cI jh)).trans ho),es,ep,t,sl,_,hd,T,hl,jm,g2,(Obj.cls_mapFields ..).trans ((Obj.cls_mapFields ..).trans hc),?_⟩;rw[c9 d1];simp[rawInt]
 unfold pyNext;refine aB (wpAny_attempt (wpAny_callSpecial?_slot (name:=Str.ofString "__next__") hT To (dr To hT ES ?_ (IU _))));unfold Builtin.«set_iterator.__next__» slotArgs;simp only[fO,fG,d7,↓reduceIte,bind_assoc,cA,eA];refine aB (aD ?_);refine aB (wpAny_fieldsOf hi hf ?_);dsimp only;refine aB (fq ho hd T.fits ?_);rw[aE (by simp)];refine aB ?_;unfold setNext;refine aB (cJ ho hd T.fits ?_);dsimp only;unfold setsByText;refine aB (aB (du (aD ?_)));cases hb:byT w with
 |true=>
  have jB:w.params.followText "set-order"=true:=hb;show wpAny _ _ (if w.params.followText "set-order"=true then _ else _) _ _ _;rw[jB,aC rfl];rw[aE (by simp)];refine aB (Sn ho hd T hl (aD ?_));simp only[cj];rw[he];show wpAny _ _ (setField (.ref I) 0 (rawInt _) >>= _) _ _ _;refine aB (eJ hi hf (by simp) ?_);have g1:=cv (Obj.mapFields (·.setIfInBounds 0 (rawInt ((slot:Nat):Int)))) hi (eR (c9 hf _));have d1:=c9 hf (·.setIfInBounds 0 (rawInt ((slot:Nat):Int)));refine aB (eJ g1 d1 (by simp) ?_);refine aD ⟨_,rfl,aD (q _ (two slot λz=>?_) ?_)⟩
  ·rw[hb]at z;cases z
  ·exact(cw ..).trans (cw ..)
 |false=>
  have jB:w.params.followText "set-order"=false:=hb;have hw:Te w a ep es=es:=by unfold Te;rw[hb];rfl
  rw[hw]at he;have hbel:=Kz T (et iW) (hs hb);have iR:i<t.place.size:=by rw[T.size];exact iW
  show wpAny _ _ (if w.params.followText "set-order"=true then _ else if (!t.plain&&decide (es.size > 1))=true then _ else ((if (!t.led&&!es.isEmpty)=true then _ else pure ()) >>= _)) _ _ _;rw[jB,aE aJ,T.pl,hl hb];refine aB (aD ?_);simp only[cj];rw[hbel,he,ce iR];refine aD ?_;show wpAny _ _ (setField (.ref I) 0 (rawInt _) >>= _) _ _ _;refine aB (eJ hi hf (by simp) ?_);have g1:=cv (Obj.mapFields (·.setIfInBounds 0 (rawInt ((t.place[i]+1:Nat):Int)))) hi (eR (c9 hf _));have d1:=c9 hf (·.setIfInBounds 0 (rawInt ((t.place[i]+1:Nat):Int)));refine aB (eJ g1 d1 (by simp) ?_);refine aD ⟨_,rfl,aD (q _ (two (t.place[i]+1) λ_ p hp=>?_) ?_)⟩
  ·have inc:∀x y (hx:x<t.place.size) (hy:y<t.place.size),x<y->t.place[x]<t.place[y]:=λx y hx hy lV=>by
    have:=dv.mp T.ris x y (by simpa using hx) (by simpa using hy) lV;simpa using this
   constructor
   ·intro z
    by_cases hz:p=i
    ·subst hz;omega
    ·have:=inc p i hp iR (by omega);omega
   ·intro z
    exact inc i p iR hp (by omega)
  ·exact(cw ..).trans (cw ..)
def QU{I:Addr}{o:Obj}{es:Array (Int × Value)}{ep:Nat}{t:SetTable}{Q:iH->Shared->Prop}(hh:A.handled=none)(st:EE w s.heap I a o es.size)(hd:o.data=.set es ep t)(q:∀h',Heap.ExtBut I s.heap h'->Q none {s with heap:=h'}):wpAny (model prog w) A (pyNext (.ref I)) Q E s:=by
 obtain⟨ho,jd,kd,t',slot,oi,kb,T,hl,hs,hi,hc,hf⟩:=st;rw[hd]at kb;cases kb;have hT:s.TypeIs (.ref I) "set_iterator":=⟨oi,hi,hc⟩;unfold pyNext;refine aB (wpAny_attempt (wpAny_callSpecial?_slot (name:=Str.ofString "__next__") hT To (dr To hT ES ?_ (IU _))));unfold Builtin.«set_iterator.__next__» slotArgs;simp only[fO,fG,d7,↓reduceIte,bind_assoc,cA,eA];refine aB (aD ?_);refine aB (wpAny_fieldsOf hi hf ?_);dsimp only;refine aB (fq ho hd T.fits ?_);rw[aE (by simp)];refine aB ?_;unfold setNext;refine aB (cJ ho hd T.fits ?_);dsimp only;unfold setsByText;refine aB (aB (du (aD ?_)))
 have jN:(Te w a ep es).size=es.size:=by
  have h2:=(Wn w a ep es).length_eq;rw[aP,aP]at h2;exact h2
 cases hb:byT w with
 |true=>
  have jB:w.params.followText "set-order"=true:=hb;show wpAny _ _ (if w.params.followText "set-order"=true then _ else _) _ _ _;rw[jB,aC rfl];rw[aE (by simp)];refine aB (Sn ho hd T hl (aD ?_));simp only[cj];rw[fW (by omega)];show wpAny _ _ (setField (.ref I) 2 .none >>= _) _ _ _;refine aB (eJ hi hf (by simp) ?_);show wpAny _ _ (newExc (.type "StopIteration") [] >>= _) _ _ _;refine aB ?_;simp only[newExc,newTuple];refine aB (dD ?_ (by size_fits));refine aB (m:=firstArgMember _ _) (wpAny_of_eq (a:=Value.none) (by first|rfl|(simp only[firstArgMember];rfl)) ?_);refine dD ?_ (by size_fits);simp only[raiseNew];refine aB (wpAny_handled ?_);rw[show A.in1.handled=none from hh];refine aB (aD (wpAny_throw ?_));refine aB (dq (T:="StopIteration") (b:=true) ⟨_,aW _ rfl,rfl⟩ isSubtype_stop ?_);exact aD (q _ (((cw ..).extBut.push _).push _))
 |false=>
  have jB:w.params.followText "set-order"=false:=hb;have hbel:=Kz T (aK _) (hs hb);show wpAny _ _ (if w.params.followText "set-order"=true then _ else if (!t.plain&&decide (es.size > 1))=true then _ else ((if (!t.led&&!es.isEmpty)=true then _ else pure ()) >>= _)) _ _ _;rw[jB,aE aJ,T.pl,hl hb];refine aB (aD ?_);simp only[cj];rw[hbel,fW (aK _)];refine aD ?_;show wpAny _ _ (setField (.ref I) 2 .none >>= _) _ _ _;refine aB (eJ hi hf (by simp) ?_);show wpAny _ _ (newExc (.type "StopIteration") [] >>= _) _ _ _;refine aB ?_;simp only[newExc,newTuple];refine aB (dD ?_ (by size_fits));refine aB (m:=firstArgMember _ _) (wpAny_of_eq (a:=Value.none) (by first|rfl|(simp only[firstArgMember];rfl)) ?_);refine dD ?_ (by size_fits);simp only[raiseNew];refine aB (wpAny_handled ?_);rw[show A.in1.handled=none from hh];refine aB (aD (wpAny_throw ?_));refine aB (dq (T:="StopIteration") (b:=true) ⟨_,aW _ rfl,rfl⟩ isSubtype_stop ?_);exact aD (q _ (((cw ..).extBut.push _).push _))
end
end Tb
namespace Tb
def Ky:PySem.Slot "set_iterator" "__iter__" "set_iterator.__iter__":=
 PySem.Slot.of (owner:="set_iterator") (n:="__iter__") (by rw[typeLookup_type,gx];kernel_rfl) (by decide +kernel) (by decide +kernel) (by decide +kernel)
  (by first|exact .inl (by decide +kernel)|exact .inr (by decide +kernel)) (by rw[eK];kernel_rfl)
def Bh:entryFor table "set_iterator.__iter__"=some Builtin.«dict_keyiterator.__iter__»:=
 entryFor_alias (id':="dict_keyiterator.__iter__") (by kernel_rfl) rfl (by decide +kernel) (by kernel_rfl)
def E6(v:Value):argsOk "set_iterator.__iter__" ⟨[v],[]⟩:=by
 unfold argsOk;rw[signature?_of (id:="set_iterator.__iter__") (n:=['_','_','r','e','t','i','_','_']) (o:=['r','o','t','a','r','e','t','i','_','t','e','s']) (by kernel_rfl) Ki];kernel_rfl
section
variable{prog:Program}{w:World}{A:Around}{E:g7}{s:Shared}{a:Addr}{ks:iC}
def GA(hh:A.handled=none)(I a:Addr)(jh:a≠I)(o:Obj){es:Array (Int × Value)}{ep:Nat}{t:SetTable}(hd:o.data=.set es ep t):Walks prog w A I [I,a] [I] es.size (λi v=>∃e,(Te w a ep es)[i]?=some e∧v=e.2) (λi h=>EE w h I a o i) where
 sub:=λb hb=>by simp at hb;simp[hb]
 frame:=λi h h' st hk=>by
  obtain⟨ho,jd,kd,t',slot,oi,h1,h2,h3,h4,h5,h6,h7⟩:=st;exact⟨hk a (by simp) _ ho,jd,kd,t',slot,oi,h1,h2,h3,h4,hk I (by simp) _ h5,h6,h7⟩
 item:=λi s Q E hi st hQ=>by
  have hs:(Te w a ep es).size=es.size:=by
   have h2:=(Wn w a ep es).length_eq;rw[aP,aP]at h2;exact h2
  have he:(Te w a ep es)[i]?=some ((Te w a ep es)[i]'(by omega)):=ce _;exact Qy jh st hd he λh' jE sb=>hQ _ h' s.toks ⟨_,he,rfl⟩ jE λb o hb e=>sb.extBut b o (λh=>hb (by simp[h])) e
 done:=λs Q E st hQ=>QU hh st hd λh' eb=>hQ h' s.toks λb o hb e=>eb b o (λh=>hb (by simp[h])) e
 self:=λi s Q E st hQ=>by
  obtain⟨ho,jd,kd,t',slot,oi,h1,h2,h3,h4,h5,h6,h7⟩:=st;have hT:s.TypeIs (.ref I) "set_iterator":=⟨oi,h5,h6⟩;refine wpAny_pyIter_slot hT Ky (dr Ky hT Bh ?_ (E6 _));show wpAny _ _ (PySem.ret (.ref I)) _ _ s;exact aD ⟨_,rfl,"set_iterator",_,hT,To.lookup,hQ⟩
def Dj(hT:s.TypeIs (.ref a) "set"){Q:Bool->Shared->Prop}(h:Q false s):wpAny (model prog w) A (Builtin.List.listLengthHint (.ref a)) Q E s:=by
 unfold Builtin.List.listLengthHint;refine aB (wpAny_specialOf hT PySem.F.slot_set_len.lookup ?_);generalize hid:("set.__len__":String)=id0
 wp_delta
 rw[show splitId id0=some ("set","__len__") from by subst hid;decide +kernel];subst hid;refine aB (dq (T:="set") (b:=true) hT (by rw[eK];kernel_rfl) ?_);refine fg (λjD=>absurd jD (by decide)) (λ_=>?_);refine fg (λ_=>?_) (λjD=>absurd (by decide +kernel) jD);refine aB (gn hT ?_);exact aD h
def HS(hT:s.TypeIs (.ref a) "dict"){Q:Bool->Shared->Prop}(h:Q false s):wpAny (model prog w) A (Builtin.List.listLengthHint (.ref a)) Q E s:=by
 unfold Builtin.List.listLengthHint;refine aB (wpAny_specialOf hT (r:=some (.builtin "dict.__len__")) (by rw[typeLookup_type,gx];kernel_rfl) ?_);generalize hid:("dict.__len__":String)=id0
 wp_delta
 rw[show splitId id0=some ("dict","__len__") from by subst hid;decide +kernel];subst hid;refine aB (dq (T:="dict") (b:=true) hT (by rw[eK];kernel_rfl) ?_);refine fg (λjD=>absurd jD (by decide)) (λ_=>?_);refine fg (λ_=>?_) (λjD=>absurd (by decide +kernel) jD);refine aB (gn hT ?_);exact aD h
def Qh{T:String}{o oi:Obj}{n:Nat}{P:Nat->Value->Prop}{St:Addr->Nat->Heap->Prop}{R:iB->Shared->Prop}(hl:(Value.type T == Value.type "list")=false)(ht:(Value.type T == Value.type "tuple")=false)(ho:s.heap.get? a=some o) (hT:o.cls=.type T) (hn:n<=sizeLine)(mE:∀(s1:Shared) (Q:Bool->Shared->Prop) (E':g7),s1.TypeIs (.ref a) T->Q false s1->wpAny (model prog w) A.in1 (Builtin.List.listLengthHint (.ref a)) Q E' s1)(k6:∀(s1:Shared) (Q:g7) (E':g7),s1.heap.get? a=some o->Q (.ref s1.heap.objs.size) {s1 with heap:=s1.heap.push oi}->wpAny (model prog w) A.in1 (pyIter (.ref a)) Q E' s1)(W:∀I,a≠I->Walks prog w A.in1 I [I,a] [I] n P (St I)) (h0:∀I h,h.get? a=some o->h.get? I=some oi->St I 0 h) (hf:oi.isFreed=false)(q:∀(h':Heap) (tk:Nat) (iz:Array Value),(∀b x,s.heap.get? b=some x->h'.get? b=some x)->s.heap.objs.size<=h'.objs.size->ItemsOf P iz n->R iz.toList {s with heap:=h',toks:=tk}):wpAny (model prog w) A (collect (.ref a)) R E s:=by
 have ha:a<s.heap.objs.size:=aO ho;unfold collect;refine aB (wpAny_runValue (eD PySem.F.entry_proto_collect ?_));rw[dY PySem.F.plain_proto_collect _];show wpAny _ A.in1 (newList [] >>= λl=>again (.builtin "list.__iadd__" ⟨[l,.ref a],[]⟩)) _ _ s;refine aB (dD ?_);refine aD ⟨f7 PySem.F.plain_list_iadd _,eD PySem.F.entry_list_iadd ?_⟩;rw[dY PySem.F.plain_list_iadd _];generalize hL:s.heap.objs.size=L at ha;have g1:(s.heap.push {cls:=.type "list",data:=.seq ([]:iB).toArray}).get? L=some {cls:=.type "list",data:=.seq ([]:iB).toArray}:=by rw[← hL];exact aW _ rfl
 have k1:∀b x,s.heap.get? b=some x->(s.heap.push {cls:=.type "list",data:=.seq ([]:iB).toArray}).get? b=some x:=λb x e=>aF _ e
 have z1:(s.heap.push {cls:=.type "list",data:=.seq ([]:iB).toArray}).objs.size=L+1:=by rw[dG,hL]
 generalize s.heap.push {cls:=.type "list",data:=.seq ([]:iB).toArray}=h1 at g1 k1 z1;show wpAny _ A.in1 (Builtin.List.listExtendWith (.ref L) (.ref a) (.ref L)) _ _ {s with heap:=h1};unfold Builtin.List.listExtendWith;refine aB (gn (T:=T) ⟨o,k1 a o ho,hT⟩ ?_);have hs:Builtin.List.listSameRef (.ref L) (.ref a)=false:=by simp[Builtin.List.listSameRef];exact dQ ha
 rw[hs,hl,ht,aE (by decide)];refine aB (k6 _ _ _ (k1 a o ho) ?_);have g2:(h1.push oi).get? h1.objs.size=some oi:=aW _ hf;have k2:∀b x,h1.get? b=some x->(h1.push oi).get? b=some x:=λb x e=>aF _ e
 show wpAny _ A.in1 _ _ _ {s with heap:=h1.push oi};generalize hI:h1.objs.size=I at g2;have hIa:a≠I:=by rw[← hI,z1];exact bC (da ha)
 have hIL:L≠I:=by rw[← hI,z1];exact bC (dS L)
 show wpAny _ A.in1 (holding [.ref I] _ >>= _) _ _ _;generalize h1.push oi=h2 at g2 k2;refine aB (cz (mE _ _ _ ⟨o,k2 _ _ (k1 _ _ ho),hT⟩ ?_))
 have key : ∀ (h3 : Heap) (c : Nat),(∀ b x,b ≠ L -> h2.get? b = some x -> h3.get? b = some x) -> h3.get? L = some { cls := .type "list",data := .seq #[] c } ->
     codeAny (model prog w) A (.builtin "list.extend.loop" ⟨[.ref L,.ref I,.ref L],[]⟩) (λq' s'=>∃(h':Heap) (tk:Nat) (iz:Array Value) (c':Nat),q'=.ok (.ret (.ref L))∧s'={s with heap:=h',toks:=tk}∧(∀b x,s.heap.get? b=some x->h'.get? b=some x) ∧
      h'.get? L=some {cls:=.type "list",dict:=none,data:=.seq iz c',slots:=#[]}∧ItemsOf P iz n) {s with heap:=h3}:=λh3 c k3 g3=>by
  refine codeAny_extend_loopS ((W I hIa).toS) hn L (by simp only[aR,cP,fL,or_false,not_or];exact⟨hIL,dQ ha⟩) (.ref L) n 0 _ #[] c rfl (cy _) (h0 I h3 (k3 a o (bC ha) (k2 _ _ (k1 _ _ ho))) (k3 I oi (cI hIL) g2)) g3 (ItemsOf.nil P) λs' iz c' hm hS mH=>?_
  obtain⟨h',g',d',lY,lr⟩:=s';have eg:g'=s.gens:=hm.gens;have ed:d'=s.drawn:=hm.drawn;have eo:lr=s.os:=hm.os;subst eg;subst ed;subst eo;refine⟨h',lY,iz,c',rfl,rfl,λb x e=>?_,hS,mH⟩;have hb:b<L:=by rw[← hL];exact aO e
  exact hm.heap b x (by simp only[aR,cP,fL,or_false,not_or];exact⟨bC hb,by rw[← hI,z1];exact bC (da hb)⟩) (k3 b x (bC hb) (k2 _ _ (k1 _ _ e)))
 have fin : ∀ (q' : Result) (s' : Shared),(∃ (h' : Heap) (tk : Nat) (iz : Array Value) (c' : Nat),q' = .ok (.ret (.ref L)) ∧ s' = { s with heap:=h',toks:=tk } ∧ (∀ b x,s.heap.get? b = some x -> h'.get? b = some x) ∧
       h'.get? L=some {cls:=.type "list",dict:=none,data:=.seq iz c',slots:=#[]}∧ItemsOf P iz n)->∃h' tk iz c',q'=.ok (.ret (.ref L))∧s'={s with heap:=h',toks:=tk}∧h'.get? L=some {cls:=.type "list",dict:=none,data:=.seq iz c',slots:=#[]}∧R iz.toList {s with heap:=h',toks:=tk}:=
  λq' s' ⟨h',tk,iz,c',e1,e2,e3,e4,e5⟩=>⟨h',tk,iz,c',e1,e2,e4,q h' tk iz e3 (by rw[hL];exact et (aO e4)) e5⟩
 refine fg (λ_=>?_) (λ_=>aD ⟨f7 PySem.F.plain_extend_loop _,d5 (key h2 0 (λb x _ e=>e) (k2 _ _ g1)) λq' s' z=>?_⟩)
 ·refine aB (wpAny_rule ?_)
  refine aB ?_;show wpAny _ _ (updateSeq L (·.push .none) >>= λ_=>updateSeq L (·.pop)) _ _ _;have g3:=k2 _ _ g1;refine aB (wpAny_updateSeq g3 rfl ?_);have g4:=cv (Obj.mapSeq (·.push Value.none)) g3 rfl;refine wpAny_updateSeq (hz:=by seq_fits) g4 rfl ?_;have g5:=cv (Obj.mapSeq (·.pop)) g4 rfl;refine aD ⟨f7 PySem.F.plain_extend_loop _,d5 (key _ _ (λb x hb e=>(cN _ _ (cI hb)).trans ((cN _ _ (cI hb)).trans e)) g5) λq' s' z=>?_⟩;obtain⟨h',tk,iz,c',rfl,rfl,e4,e5⟩:=fin q' s' z;show wpAny _ A (load L >>= _) _ _ _;exact aB (wpAny_load e4 (aD e5))
 ·obtain⟨h',tk,iz,c',rfl,rfl,e4,e5⟩:=fin q' s' z
  show wpAny _ A (load L >>= _) _ _ _;exact aB (wpAny_load e4 (aD e5))
def Qm{v:Value}{ns:iC}{Q:g7}(kg:ns.length<64)(hc:∀(R:iB->Shared->Prop) (E':g7),(∀(h':Heap) (tk:Nat) (vs:iB) (ms:iC),(∀b x,s.heap.get? b=some x->h'.get? b=some x)->s.heap.objs.size<=h'.objs.size->IntsAre vs ms->ms.Perm ns->R vs {s with heap:=h',toks:=tk})->wpAny (model prog w) A.in1 (collect v) R E' s)(q:∀(h':Heap) (tk:Nat) (B:Addr) (us:iB) (ms:iC) (c:Nat),(∀b x,s.heap.get? b=some x->h'.get? b=some x)->s.heap.objs.size<=B->h'.get? B=some (seqObj "list" us.toArray c)->IntsAre us ms->ms.Perm ns->ms.Pairwise (·<=·)->Q (.ref B) {s with heap:=h',toks:=tk}):wpAny (model prog w) A (call (.builtin "sorted") [v]) Q E s:=by
 refine fU kind_sorted plain_sorted entry_sorted (args_sorted1 _) (show wpAny _ _ (Builtin.«sorted» _) _ _ _ from ?_);unfold Builtin.«sorted»;refine aB (m:=checkCount "sorted" 1 1 _) (aD (aB (hc _ _ λh' tk vs ms kk hB hI hp=>?_)));have ip:vs.length=ns.length:=by rw[IntsAre.length hI,hp.length_eq]
 refine aB (gL ?_ (by rw[cf];omega));have g1:(h'.push (seqObj "list" vs.toArray 0)).get? h'.objs.size=some (seqObj "list" vs.toArray 0):=aW _ rfl;refine aB (cz (dr slot_list_sort ⟨_,g1,rfl⟩ entry_list_sort (list_sort_tree (s:={s with heap:=h'.push (seqObj "list" vs.toArray 0),toks:=tk}) g1 hI (by omega) λout ox a1 a2 a3=>⟨_,rfl,aD ⟨_,rfl,?_⟩⟩) (args_list_sort _)));obtain⟨e,he⟩:=sortedHeap_at (out:=out) g1;refine q _ _ h'.objs.size out.toList ox e (λb x hx=>?_) hB (by rw[show out.toList.toArray=out by simp];exact he) a1 (a2.trans hp) a3;have hb:b<h'.objs.size:=aO (kk b x hx);rw[sortedHeap_old (bC hb) (by rw[dG];exact da hb)];exact aF _ (kk b x hx)
def sort_set{Q:g7}(hh:A.handled=none)(S:SetL (byT w) s.heap a ks)(hn:ks.length<64)(q:∀(h':Heap) (tk:Nat) (B:Addr) (us:iB) (ms:iC) (c:Nat),(∀b x,s.heap.get? b=some x->h'.get? b=some x)->s.heap.objs.size<=B->h'.get? B=some (seqObj "list" us.toArray c)->IntsAre us ms->ms.Perm ks->ms.Pairwise (·<=·)->Q (.ref B) {s with heap:=h',toks:=tk}):wpAny (model prog w) A (call (.builtin "sorted") [.ref a]) Q E s:=by
 have S0:=S;obtain⟨o,es,ep,t,ho,hx,hd,⟨js,hp,hq⟩,nd,T,hl⟩:=S;have hz:es.size=ks.length:=S0.len ho hd;refine Qm hn (λR E' k=>?_) q
 refine Qh (T:="set") (o:=o) (n:=es.size) (by decide) (by decide) ho hx.1 (by rw[cf];omega) (λs1 Q' E1 hT q1=>Dj hT q1)
  (λs1 Q' E1 h1 q1=>Rv h1 hx hd T hl q1) (λI hI=>GA (A:=A.in1.in1) (by simp[hh]) I a hI o hd) (λI h e1 e2=>⟨e1,es,ep,t,0,_,hd,T,hl,λ_ p hp=>⟨λz=>absurd z (d0 _),λ_=>cy _⟩,e2,rfl,rfl⟩) rfl λh' tk iz kk hB hI=>?_
 obtain⟨oy,p1,p2⟩:=Wy (Wn w a ep es) hp;refine k h' tk iz.toList oy kk hB ?_ (p2.trans hq);have jN:(Te w a ep es).toList.length=iz.toList.length:=by rw[(Wn w a ep es).length_eq,aP,aP,hI.1]
 have he:iz.toList=(Te w a ep es).toList.map (·.2):=by
  refine List.ext_getElem (by rw[aA,jN]) λi h1 h2=>?_
  obtain⟨e,e1,e2⟩:=hI.2 i iz[i] (ce (by simpa using h1));rw[List.getElem_map,eN,e2];have:=(dO.mp e1).2;rw[eN,this]
 rw[he];clear he jN hI p2;generalize (Te w a ep es).toList=l at p1
 induction p1 with
 |nil=>exact .nil
 |cons r _ ih=>
  obtain⟨_,t,e⟩:=r;rw[aU,e];exact .cons _ t ih
end
end Tb
namespace Tb
section
variable{prog:Program}{w:World}{A:Around}{E:g7}{s:Shared}{a:Addr}{ks:iC}
def C5(v:Value){Q:g7}(q:Q (.ref s.heap.objs.size) {s with heap:=s.heap.push (XM (byT w))}):codeAny (model prog w) A (.call (.builtin "set.__new__") ⟨[.type "set",v],[]⟩) (wants Q E) s:=by
 refine codeAny_of_tree ?_;show wpAny _ A.in1 (do checkBuiltinCall "set.__new__" ⟨[.type "set",v],[]⟩;again (.builtin "set.__new__" ⟨[.type "set",v],[]⟩)) _ _ s;refine aB (wpAny_of_eq (PySem.F.newCall_set_1 v) (aD ⟨f7 PySem.F.plain_set_new _,eD PySem.F.entry_set_new ?_⟩));rw[dY PySem.F.plain_set_new _];unfold Builtin.«set.__new__» Builtin.Frozenset.newClass;have hsub:=sub_set_self;obtain⟨hp,g,d,tk,os⟩:=s;dsimp only
 wp_walk
 refine du (aD ?_);dsimp only;simp only[newObj];refine aB (wpAny_alloc (aD ?_));exact aD q
def NB{v:Value}{Q:g7}(hb:∀(R:Unit->Shared->Prop) (E':g7),(∀h' tk,Q (.ref s.heap.objs.size) {s with heap:=h',toks:=tk}->R () {s with heap:=h',toks:=tk})->wpAny (model prog w) A.in1.in1 (Builtin.Frozenset.updateFrom "set.__init__" s.heap.objs.size v) R E' {s with heap:=s.heap.push (XM (byT w))}):wpAny (model prog w) A (call (.type "set") [v]) Q E s:=by
 obtain⟨c,tl,oz⟩:=cY.mro;have hmade:=cY.made;have hsub:=cY.sub;refine wpAny_call (codeAny_of_tree ?_);show wpAny _ _ (callAny (.type "set") _) _ _ _;refine aD ⟨Code.quiet_builtin _ (by decide +kernel),eD PySem.F.entry_type_call ?_⟩;rw[Around.under_plain (weight_type_call_type "set" [v] []) rfl];have h1:=cY.notType;have h2:=cY.canCreate;have hct:=PySem.F.typeCall_set_1 v
 repeat (any_goals (first|assumption|wp_step))
 refine d5 (C5 v (E:=E) (Q:=λobj iu=>obj=.ref s.heap.objs.size∧iu={s with heap:=s.heap.push (XM (byT w))}) ⟨rfl,rfl⟩) λr iu hr=>?_
 cases r with
 |error e=>exact hr
 |ok fl=>
  cases fl with
  |ret obj=>
   obtain⟨rfl,rfl⟩:=hr;have hS:(s.heap.push (XM (byT w))).get? s.heap.objs.size=some (XM (byT w)):=aW _ rfl;have hT:Shared.TypeIs {s with heap:=s.heap.push (XM (byT w))} (.ref s.heap.objs.size) "set":=⟨_,hS,rfl⟩;have hli:=cY.init.lookup;have hbi:=cY.init.bind (.ref s.heap.objs.size)
   repeat (any_goals (first|assumption|wp_step))
   refine d5 (codeAny_call_builtin (R:=wants (λr ib=>r=.none∧∃h' tk,ib={s with heap:=h',toks:=tk}∧Q (.ref s.heap.objs.size) ib) E) cY.init.plain PySem.F.entry_set_init (check_set_init_1 hT ?_)) λmJ ib j9=>?_
   ·unfold Builtin.«set.__init__» noKeywords
    have jB:=hb;generalize hU:Builtin.Frozenset.updateFrom=U at jB
    wp_walk
    exact jB _ _ λh' tk hq=>aD ⟨rfl,h',tk,rfl,hq⟩
   ·cases mJ with
    |error e=>exact j9
    |ok fl₂=>
     cases fl₂ with
     |ret r=>
      obtain⟨rfl,h',tk,rfl,hq⟩:=j9
      repeat (any_goals (first|assumption|wp_step))
     |_=>exact j9.elim
  |_=>exact hr.elim
end
end Tb
namespace Tb
def YD(ks js:iC):iC:=js.foldl Sd ks
def FW{ks:iC}{k x:Int}:x∈Sd ks k ↔ x∈ks∨x=k:=by
 unfold Sd;split
 ·rename_i h
  have h:k∈ks:=by simpa using h
  exact⟨.inl,λz=>z.elim id λe=>e ▸ h⟩
 ·simp
def VV:∀{js ks:iC} {x:Int},x∈YD ks js ↔ x∈ks∨x∈js
 |[],ks,x=>by simp[YD]
 |j::js,ks,x=>by
  show x∈YD (Sd ks j) js ↔ _;rw[VV,FW,aR,or_assoc]
def XG:∀(js ks:iC),(YD ks js).length<=ks.length+js.length
 |[],ks=>aK _
 |j::js,ks=>by
  have h1:=XG js (Sd ks j);have h2:=Do ks j;show(YD (Sd ks j) js).length<=_;rw[bI];omega
def Su(ks js:iC)(k:Int):YD ks (js++[k])=Sd (YD ks js) k:=by
 unfold YD;rw[dw];rfl
section
variable{prog:Program}{w:World}{A:Around}{E:g7}{s:Shared}{a:Addr}{ks:iC}
def FR{v:Value}{T:String}{Q:Bool->Shared->Prop}(hT:s.TypeIs v T)(h1:isSubtype (.type T) (.type "set")=pure false)(h2:isSubtype (.type T) (.type "frozenset")=pure false)(q:Q false s):wpAny (model prog w) A (Builtin.Frozenset.isAnySet v) Q E s:=by
 show wpAny _ _ (isInstance v (.type "set") >>= _) _ _ _;refine aB (dq hT h1 ?_);show wpAny _ _ (isInstance v (.type "frozenset")) _ _ _;exact dq hT h2 q
def QL{v:Value}{Q:Bool->Shared->Prop}(hT:s.TypeIs v "set")(q:Q true s):wpAny (model prog w) A (Builtin.Frozenset.isAnySet v) Q E s:=by
 show wpAny _ _ (isInstance v (.type "set") >>= _) _ _ _;refine aB (dq hT sub_set_self ?_);exact aD q
def E5{R:Result->Shared->Prop}{I l:Addr}{items:Array Value}{ns:iC}{St:Nat->Shared->Prop}(hi:IntsAre items.toList ns)(hb:ns.length<31)(W:WalksS prog w A.in1 I [I,l] [I] (λx y=>y=x) items.size (λi v=>items[i]?=some v) St)(S:Addr)(nh:S≠I)(oA:S≠l):∀(k i:Nat) (s:Shared),items.size-i=k->i<=items.size->St i s->SetL (byT w) s.heap S (YD [] (ns.take i)) -> (∀s',Moved [S,I] (λx y=>y=x) s s'->SetL (byT w) s'.heap S (YD [] ns)->R (.ok (.ret .none)) s') -> codeAny (model prog w) A (.builtin "set.update.loop" ⟨[.ref S,.ref I],[]⟩) R s:=by
 have hnl:items.size=ns.length:=by rw[← aP];exact IntsAre.length hi
 have hSw:S ∉ [I]:=by simpa using nh
 intro k
 induction k with
 |zero=>
  intro i s hk oB jv hS hR;have hin:i=items.size:=by omega
  subst hin;rw[hnl,List.take_length]at hS;refine eD gu ?_;rw[dY dX _];show wpAny _ A.in1 (pyNext (.ref I) >>= _) _ _ s;refine aB (W.done s _ _ jv λs' hm=>?_);show wpAny _ A.in1 (PySem.ret Value.none) _ _ s';exact aD (hR s' (hm.mono λb hb=>cR _ hb) (hS.keep λo e=>hm.heap S o hSw e))
 |succ k ih=>
  intro i s hk oB jv hS hR;have iW:i<items.size:=by omega
  refine eD gu ?_;rw[dY dX _];show wpAny _ A.in1 (pyNext (.ref I) >>= _) _ _ s;refine aB (W.item i s _ _ iW jv λv s' hP mK hm=>?_);obtain⟨t,hv⟩:=IntsAre.int_at hi i v (by rw[f9];exact hP);subst hv;have mM:=hS.keep λo e=>hm.heap S o hSw e
  show wpAny _ A.in1 (holding [_] (setAdd S (.int (ns.getD i 0) t)) >>= _) _ _ s';refine aB (cz ?_);unfold setAdd;refine cz (aB ((intKind prog w).pyHash (k:=ns.getD i 0) (gh _ _ _ _) ?_));have hl:=XG (ns.take i) [];rw[fM,cA]at hl;refine Sh (s:={s' with toks:=s'.toks+1}) mM (by omega) λh' sb S2=>?_
  have e:ns.take (i+1)=ns.take i++[ns.getD i 0]:=by
   rw[List.take_add_one,aI (by omega)];simp[show i<ns.length by omega]
  rw[← Su,← e]at S2;refine aD ⟨f7 dX _,ih (i+1) _ (by omega) iW (W.frame _ s' _ _ mK (cZ _) λb hb o e=>?_) S2 λkm mP mQ=>?_⟩
  ·rw[sb.2 b (λz=>by subst z;simp only[aR,cP,fL,or_false]at hb;rcases hb with z|z;exact nh z;exact oA z)];exact e
  ·refine hR km (Moved.trans W.gtrans ((hm.mono λb hb=>cR _ hb).then_heap (cZ _) λb o hb e=>?_) mP) mQ
   rw[sb.2 b (λz=>hb (by rw[z];exact cK))];exact e
def set_list{l:Addr}{items:Array Value}{ns:iC}{Q:g7}(hh:A.handled=none)(hl:s.heap.IsList l items)(hi:IntsAre items.toList ns)(hb:ns.length<31)(q:∀(h':Heap) (tk:Nat),SetL (byT w) h' s.heap.objs.size (YD [] ns)->(∀b o,s.heap.get? b=some o->h'.get? b=some o)->Q (.ref s.heap.objs.size) {s with heap:=h',toks:=tk}):wpAny (model prog w) A (call (.type "set") [.ref l]) Q E s:=by
 refine NB λR E' hR=>?_
 obtain⟨ol,mR,kZ,nl,nk⟩:=id hl;have hlS:l<s.heap.objs.size:=aO mR;have k1:∀b o,s.heap.get? b=some o->(s.heap.push (XM (byT w))).get? b=some o:=λb o e=>aF _ e
 have F0:=Mj (byT w) s.heap;have z1:(s.heap.push (XM (byT w))).objs.size=s.heap.objs.size+1:=dG ..;have hl1:(s.heap.push (XM (byT w))).IsList l items:=⟨ol,k1 _ _ mR,kZ,nl,nk⟩;have hT:Shared.TypeIs {s with heap:=s.heap.push (XM (byT w))} (.ref l) "list":=⟨ol,k1 _ _ mR,kZ⟩;unfold Builtin.Frozenset.updateFrom;refine aB (FR hT PySem.F.sub_list_set PySem.F.sub_list_frozenset ?_);rw[aE aJ];refine aB (gn hT ?_);rw[aE (by decide)];refine aB (gW hl1 ?_);refine aB (wpAny_runValue ?_);have jh:l≠(s.heap.push (XM (byT w))).objs.size:=by rw[z1];exact bC (da hlS)
 refine E5 hi hb ((Walks.list (A:=A.in1.in1.in1) (by simp[hh]) _ l jh items).toS) s.heap.objs.size (by rw[z1];exact bC (dS _)) (dQ hlS) (items.size-0) 0 _ rfl (cy _)
  ⟨⟨_,aW _ rfl,rfl,rfl⟩,hl1.push _⟩ (F0.keep λo e=>aF _ e) λs' hm mM=>?_
 obtain⟨h',g',d',lY,lr⟩:=s';have eg:g'=s.gens:=hm.gens;have ed:d'=s.drawn:=hm.drawn;have eo:lr=s.os:=hm.os;subst eg;subst ed;subst eo;refine aD (hR h' lY (q h' lY mM λb o e=>?_));have jB:b<s.heap.objs.size:=aO e;exact hm.heap b o (by simp only[aR,cP,fL,or_false,not_or,z1];exact⟨bC jB,bC (da jB)⟩) (aF _ (k1 _ _ e))
def set_dict{d:Addr}{od:Obj}{es:Array DictEntry}{ep:Nat}{ns:iC}{Q:g7}(ho:s.heap.get? d=some od)(hc:od.cls=.type "dict")(hd:od.data=.dict es ep)(hs:(d == sysModules)=false)(hk:es.toList.length=ns.length∧∀i e,es[i]?=some e->e.hash=hashInt (ns.getD i 0)∧∃t,e.key=.int (ns.getD i 0) t) (hb:ns.length<31)(q:∀(h':Heap),SetL (byT w) h' s.heap.objs.size (YD [] ns)->(∀b o,s.heap.get? b=some o->h'.get? b=some o)->Q (.ref s.heap.objs.size) {s with heap:=h'}):wpAny (model prog w) A (call (.type "set") [.ref d]) Q E s:=by
 refine NB λR E' hR=>?_
 have hlS:d<s.heap.objs.size:=aO ho;have k1:∀b o,s.heap.get? b=some o->(s.heap.push (XM (byT w))).get? b=some o:=λb o e=>aF _ e
 have F0:=Mj (byT w) s.heap;have hT:Shared.TypeIs {s with heap:=s.heap.push (XM (byT w))} (.ref d) "dict":=⟨od,k1 _ _ ho,hc⟩;have hsz:es.size=ns.length:=by rw[← aP];exact hk.1
 unfold Builtin.Frozenset.updateFrom;refine aB (FR hT (by rw[eK];kernel_rfl) (by rw[eK];kernel_rfl) ?_);rw[aE aJ];refine aB (gn hT ?_);rw[aC (by rfl)];refine aB (wpAny_rule ?_);refine aB (show wpAny (model prog w) A.in1.in1 (pure d) _ _ _ from aD ?_);rw[aE (by rw[hs];exact aJ)];refine aB (wpAny_dictEpoch (k1 _ _ ho) hd ?_);refine aB (gY (k1 _ _ ho) hd ?_);refine aB (R8 F0 (by omega) λh1 sb1 ⟨o1,e1,p1,t1,a1,a2,a3,a4,a5,a6,a7⟩=>?_);subst a4;have S1:SetL (byT w) h1 s.heap.objs.size []:=⟨o1,#[],p1,t1,a1,a2,a3,⟨[],.nil,.refl _⟩,eV,a5,a7⟩;have k2:∀b o,s.heap.get? b=some o->h1.get? b=some o:=λb o e=>(sb1.2 b (bC (aO e))).trans (k1 _ _ e)
 refine aB (gY (k2 _ _ ho) hd ?_);rw[Std.Legacy.Range.forIn_eq_forIn_range'];refine aB (wpAny_forIn_list _ (λrest _ s'=>∃h',s'={s with heap:=h'}∧(∀b o,s.heap.get? b=some o->h'.get? b=some o)∧rest.length<=es.size∧rest=List.range' (es.size-rest.length) rest.length∧SetL (byT w) h' s.heap.objs.size (YD [] (ns.take (es.size-rest.length)))) _ ?_ ?_ _ _ ?_)
 ·rintro x rest b s' ⟨h',rfl,kk,hle,hr,S⟩
  rw[bI]at hle hr S;have hx:x=es.size-(rest.length+1):=by rw[gI]at hr;exact(dI hr).1
  have hr':rest=List.range' (es.size-rest.length) rest.length:=by
   rw[gI]at hr;have:=(dI hr).2;rw[show es.size-(rest.length+1)+1=es.size-rest.length by omega]at this;exact this
  have iW:x<es.size:=by omega
  refine aB (gY (kk _ _ ho) hd ?_);obtain⟨f1,t,f2⟩:=hk.2 x es[x] (ce iW);rw[ce iW];dsimp only;rw[f1,f2];have hl:=XG (ns.take x) [];rw[fM,cA]at hl;rw[← hx]at S;refine aB (cz (Sh (s:={s with heap:=h'}) S (by omega) λh2 lH S2=>?_))
  have e:ns.take (x+1)=ns.take x++[ns.getD x 0]:=by
   rw[List.take_add_one,aI (by omega)];simp[show x<ns.length by omega]
  rw[← Su,← e]at S2;have li:∀b o,s.heap.get? b=some o->h2.get? b=some o:=λb o e=>(lH.2 b (bC (aO e))).trans (kk b o e)
  refine aB (wpAny_dictEpoch (li _ _ ho) hd ?_);rw[aE (by simp)];refine aD ⟨h2,rfl,li,by omega,hr',?_⟩;rw[show es.size-rest.length=x+1 by omega];exact S2
 ·rintro b s' ⟨h',rfl,kk,_,_,S⟩
  rw[cA,Nat.sub_zero,hsz,List.take_length]at S;exact aD (hR h' s.toks (q h' S kk))
 ·refine⟨h1,rfl,k2,?_,?_,?_⟩
  ·rw[gC];simp
  ·rw[gC];simp
  ·rw[gC];simpa [YD] using S1
end
end Tb
namespace Tb
def Cg:entryFor table "set.__sub__"=some Builtin.«frozenset.__sub__»:=
 entryFor_alias (id':="frozenset.__sub__") (by kernel_rfl) rfl (by decide +kernel) (by kernel_rfl)
section
variable{prog:Program}{w:World}{A:Around}{E:g7}{s:Shared}{a b:Addr}{ks ms:iC}
def SetL.type{h:Heap}{bt:Bool}(S:SetL bt h a ks):∃o,h.get? a=some o∧o.cls=.type "set":=let ⟨o,_,_,_,h1,h2,_⟩:=S;⟨o,h1,h2.1⟩
def SetL.lt{h:Heap}{bt:Bool}(S:SetL bt h a ks):a<h.objs.size:=let ⟨_,_,_,_,h1,_⟩:=S;aO h1
def SetL.ndp{h:Heap}{bt:Bool}(S:SetL bt h a ks):ks.Nodup:=let ⟨_,_,_,_,_,_,_,_,h,_⟩:=S;h
def Vv{bt:Bool}{Q:Nat->Shared->Prop}(S:SetL bt s.heap a ks)(q:Q ks.length s):wpAny (model prog w) A (Builtin.Frozenset.sizeOf a) Q E s:=by
 have S0:=S;obtain⟨o,es,ep,t,ho,hx,hd,hp,nd,T,hl⟩:=S;unfold Builtin.Frozenset.sizeOf;refine aB (fq ho hd T.fits (aD ?_));rw[S0.len ho hd];exact q
def Qn{bt:Bool}{Q:g7}(S:SetL bt s.heap a ks)(q:Q (.type "set") s):wpAny (model prog w) A (Builtin.Frozenset.baseOf a) Q E s:=by
 unfold Builtin.Frozenset.baseOf;refine aB (dq (T:="set") (b:=true) S.type sub_set_self (aD ?_));exact q
def KY{Q:g7}(S:SetL (byT w) s.heap a ks)(hn:ks.length<32)(q:∀h',(∀b o,s.heap.get? b=some o->h'.get? b=some o)->SetL (byT w) h' s.heap.objs.size ks->Q (.ref s.heap.objs.size) {s with heap:=h'}):wpAny (model prog w) A (Builtin.Frozenset.copyOf a) Q E s:=by
 unfold Builtin.Frozenset.copyOf;refine aB (Qn S ?_);refine aB (Pz ?_);have F0:=Mj (byT w) s.heap;have k1:∀b o,s.heap.get? b=some o->(s.heap.push (XM (byT w))).get? b=some o:=λb o e=>aF _ e
 have S1:=S.keep λo e=>k1 a o e
 refine aB (show wpAny (model prog w) A (pure s.heap.objs.size) _ _ _ from aD ?_);have iW:=S.lt;refine aB ?_;unfold setMerge;rw[aE (by simp;exact dQ iW)];have S0:=S1;obtain⟨o,es,ep,t,ho,hx,hd,⟨js,hp,hq⟩,nd,T,hl⟩:=S1;have hz:es.size=ks.length:=S0.len ho hd;refine aB (cJ ho hd T.fits ?_);dsimp only;by_cases h0:es.isEmpty=true
 ·rw[aC h0]
  have:ks=[]:=fR.mp (by rw[← hz];simpa using h0);subst this;exact aD (aD (q _ k1 F0))
 ·rw[aE h0]
  refine aB (R8 F0 (by omega) λh1 sb1 ⟨o1,e1,p1,t1,a1,a2,a3,a4,a5,a6,a7⟩=>?_);subst a4;have k2:∀b o,s.heap.get? b=some o->h1.get? b=some o:=λb o e=>(sb1.2 b (bC (aO e))).trans (k1 _ _ e)
  refine aB (cJ a1 a3 a5.fits ?_);dsimp only;have hfl:t1.fill=0:=by unfold SetTable.fill;rw[a5.size,a5.dum];rfl
  have hzl:es.size<=sizeLine:=by rw[cf];omega
  unfold SetTable.road;rw[hfl,aE (by decide)];by_cases hm:(t1.mask == t.mask&&t.dummies.isEmpty)=true
  ·rw[aC hm]
   dsimp only;refine eL a1 a3 ?_ hzl;refine aD (q _ (λb o e=>(cN _ _ (cI (bC (aO e)))).trans (k2 b o e)) (Uf a1 a2 a3 hp hq nd ⟨T.gm,T.size,T.dum,T.ris,T.le,T.room,?_⟩ λz=>?_))
   ·show(t1.plain&&t.plain)=true
    rw[a5.pl,T.pl];rfl
   ·show(t1.led&&t.led)=true
    rw[a7 z,hl z];rfl
  ·rw[aE hm]
   dsimp only;obtain⟨t2,o2,e1,e2,e3,e4,e5⟩:=MH (f:=t1.finger) (mv:=t1.moves) (led:=t1.led&&t.led) a5.gm (hs:=es.map (·.1)) (by rw[ge];exact a6);rw[ge]at e2 e3;rw[a5.pl,T.pl,show(true&&true)=true from rfl,e1]
   have hsz:(o2.filterMap (es[·]?)).size=es.size:=by
    rw[← aP,fV,(e2.filterMap _).length_eq,eG,aP]
   have ly:(o2.filterMap (es[·]?)).toList.Perm es.toList:=by
    rw[fV];refine(e2.filterMap _).trans ?_;rw[eG]
   obtain⟨kQ,p2,q2⟩:=Wy ly hp;refine aB ?_;show wpAny (model prog w) A (if ((o2.filterMap (es[·]?)).size != es.size)=true then ((unsupported _:Sem PUnit) >>= λ_=>pure (o2.filterMap (es[·]?),t2)) else pure (o2.filterMap (es[·]?),t2)) _ _ _;rw[aE (by rw[hsz];simp)];refine aD ?_;refine eL a1 a3 ?_ (by rw[hsz];exact hzl);exact aD (q _ (λb o e=>(cN _ _ (cI (bC (aO e)))).trans (k2 b o e)) (Uf a1 a2 a3 p2 (q2.trans hq) nd (by rw[hsz];exact e3) λz=>by rw[e5,a7 z,hl z];rfl))
def Fn{id:String}{Q:g7}(Sa:SetL (byT w) s.heap a ks)(Sb:SetL (byT w) s.heap b ms)(hn:ks.length<31)(hm:ms.length<31)(hq:ks.length / 4<=ms.length∨ms=[])(q:∀(h':Heap) (rs:iC),(∀b o,s.heap.get? b=some o->h'.get? b=some o)->SetL (byT w) h' s.heap.objs.size rs->(∀k,k∈rs ↔ k∈ks∧k ∉ ms)->rs.length<=ks.length->Q (.ref s.heap.objs.size) {s with heap:=h'}):wpAny (model prog w) A (Builtin.Frozenset.difference id a (.ref b)) Q E s:=by
 have ha:=Sa.lt;have hb:=Sb.lt;unfold Builtin.Frozenset.difference;dsimp only;refine aB (QL Sb.type ?_);rw[aE (by decide)];refine aB (show wpAny (model prog w) A (pure b) _ _ _ from aD ?_);rw[aE (by simp),aC rfl];refine aB (Vv Sb ?_);refine aB (Vv Sa ?_);by_cases hp:ks.length / 4 > ms.length
 ·have hms:ms=[]:=hq.resolve_left (by omega)
  subst hms;rw[aC hp];refine aB (wpAny_rule ?_);refine aB (KY Sa (by omega) λh1 k1 S1=>?_);refine aB (show wpAny (model prog w) A (pure s.heap.objs.size) _ _ _ from aD ?_);refine aB (cz ?_);unfold Builtin.Frozenset.differenceUpdate;rw[aE (by simp;exact bC hb)];have Sb1:=Sb.keep λo e=>k1 b o e
  refine aB (QL (s:={s with heap:=h1}) Sb1.type ?_);rw[aC rfl];refine aB (show wpAny (model prog w) A (pure b) _ _ _ from aD ?_);refine aB (Vv (s:={s with heap:=h1}) Sb1 ?_);refine aB (Vv (s:={s with heap:=h1}) S1 ?_);rw[aE (by simp)];have Sb0:=Sb1;obtain⟨o,es,ep,t,ho,hx,hd,mS,nd,T,hl⟩:=Sb1;have hz:es=#[]:=dF (Sb0.len ho hd);subst hz;dsimp only;refine aB (fX ho hd T.fits ?_);have hw:Te w b ep #[]=#[]:=dF (by have:=(Wn w b ep #[]).length_eq;simpa using this);refine aB (cz (aB (Qd ho hd T hl ?_)));rw[hw];refine aB (MeetsSeq2.wpAny_forIn_array _ (λrest _ s'=>rest=[]∧s'={s with heap:=h1}) _ (λx rest _ s' h=>nomatch h.1) ?_ #[] _ ⟨rfl,rfl⟩);rintro _ s' ⟨_,rfl⟩;refine aD ?_;have S1':=S1;obtain⟨o2,e2,p2,t2,c1,c2,c3,c4,c5,c6,c7⟩:=S1;unfold setTidy;refine aB (cJ c1 c3 c6.fits ?_);dsimp only;rw[aE (by unfold SetTable.tooManyDummies;rw[c6.dum];simp)];exact aD (aD (q h1 ks k1 S1' (λk=>by simp) (aK _)))
 ·rw[aE hp]
  refine aB (Qn Sa ?_);refine aB (Pz ?_);refine aB (show wpAny (model prog w) A (pure s.heap.objs.size) _ _ _ from aD ?_);have F0:=Mj (byT w) s.heap;have k1:∀b o,s.heap.get? b=some o->(s.heap.push (XM (byT w))).get? b=some o:=λb o e=>aF _ e
  have Sa0:=Sa;obtain⟨o,es,ep,t,ho,hx,hd,⟨js,mD,oC⟩,nd,T,hl⟩:=Sa;refine aB (fX (k1 _ _ ho) hd T.fits ?_);rw[aC rfl];refine aB (cz (aB (Qd (k1 _ _ ho) hd T hl ?_)));obtain⟨kQ,p2,q2⟩:=Wy (Wn w a ep es) mD;have q3:kQ.Perm ks:=q2.trans oC;have l2:kQ.length=ks.length:=q3.length_eq;refine aB (MeetsSeq2.wpAny_forIn_array _ (λrest _ s'=>∃(h':Heap) (dn jr:iC),s'={s with heap:=h'}∧(∀b o,s.heap.get? b=some o->h'.get? b=some o)∧kQ=dn++jr∧Paired EIn rest jr∧SetL (byT w) h' s.heap.objs.size (YD [] (dn.filter λk=>!ms.contains k))) _ ?_ ?_ _ _ ⟨_,[],kQ,rfl,k1,rfl,p2,F0⟩)
  ·rintro⟨hx',vx⟩ rest _ s' ⟨h',dn,jr,rfl,kk,e1,e2,S⟩
   cases e2 with
   |@cons _ j _ jr r e2=>
    obtain⟨r1,tk,r2⟩:=r;have r1:hx'=hashInt j:=r1;have r2:vx=.int j tk:=r2;subst r1 r2;have Sb1:=Sb.keep λo e=>kk b o e
    have nk:dn.length<ks.length:=by rw[← l2,e1,aT,bI];omega
    have jh:a≠s.heap.objs.size:=bC ha
    have fin : ∀ (h2 : Heap) (Q' : ForInStep PUnit -> Shared -> Prop),(∀ b o,s.heap.get? b = some o -> h2.get? b = some o) -> Q' (.yield PUnit.unit) { s with heap:=h2 } ->
        wpAny (model prog w) A (Builtin.Frozenset.unchanged id a ep >>= λ_=>pure (ForInStep.yield PUnit.unit)) Q' E {s with heap:=h2}:=λh2 Q' li z=>by
     unfold Builtin.Frozenset.unchanged;refine aB (aB (fX (s:={s with heap:=h2}) (li _ _ ho) hd T.fits ?_));rw[aE (by simp)];exact aD (aD z)
    refine aB (cz ?_);rw[aC rfl];refine aB (wpAny_setFind_of (knd:=intKind prog w) (k:=j) (gh _ _ _ _) rfl (Sb1.of (by unfold scanBound;omega)) λr hr=>?_);refine aB (aD ?_);rw[hr];cases hc:ms.contains j with
    |true=>
     rw[aE (by simp)];refine aD (fin h' _ kk ⟨h',dn++[j],jr,rfl,kk,by rw[e1];simp,e2,?_⟩);rw[eY,List.filter_cons_of_neg (by simpa using hc),gT,cC];exact S
    |false=>
     rw[aC (by rfl)];have hl:=XG (dn.filter λk=>!ms.contains k) [];have hl2:=aV (λk=>!ms.contains k) dn;rw[cA]at hl;refine aB (Sh (s:={s with heap:=h'}) S (by omega) λh2 lH S2=>?_);have li:∀b o,s.heap.get? b=some o->h2.get? b=some o:=λb o e=>(lH.2 b (bC (aO e))).trans (kk b o e)
     refine aD (fin h2 _ li ⟨h2,dn++[j],jr,rfl,li,by rw[e1];simp,e2,?_⟩);rw[eY,List.filter_cons_of_pos (by simpa using hc),gT,Su];exact S2
  ·rintro _ s' ⟨h',dn,jr,rfl,kk,e1,e2,S⟩
   cases e2;rw[cC]at e1;subst e1;refine aD (aD (q h' _ kk S (λk=>?_) ?_))
   ·rw[VV,aG,q3.mem_iff]
    simp
   ·have hl:=XG (kQ.filter λk=>!ms.contains k) []
    have hl2:=aV (λk=>!ms.contains k) kQ;rw[cA]at hl;omega
def sub_set{Q:g7}(Sa:SetL (byT w) s.heap a ks)(Sb:SetL (byT w) s.heap b ms)(hn:ks.length<31)(hm:ms.length<31)(hq:ks.length / 4<=ms.length∨ms=[])(q:∀(h':Heap) (rs:iC),(∀b o,s.heap.get? b=some o->h'.get? b=some o)->SetL (byT w) h' s.heap.objs.size rs->(∀k,k∈rs ↔ k∈ks∧k ∉ ms)->rs.length<=ks.length->Q (.ref s.heap.objs.size) {s with heap:=h'}):wpAny (model prog w) A (binaryOp .Sub (.ref a) (.ref b)) Q E s:=by
 refine wpAny_binaryOp_same Sa.type Sb.type PySem.F.fills_set_sub PySem.F.slot_set_sub (dr PySem.F.slot_set_sub Sa.type Cg ?_ (PySem.F.args_set_sub_2 _ _));show wpAny (model prog w) A.in1 (Builtin.Frozenset.slot1 "__sub__" ⟨[.ref a,.ref b],[]⟩ >>= _) _ _ _;unfold Builtin.Frozenset.slot1 slotArgs;simp only[fO,fG,d7,↓reduceIte,bind_assoc,cA,eA];refine aB (aD ?_);refine aB (aD ?_);refine aB ?_;show wpAny (model prog w) A.in1 (Builtin.Frozenset.isAnySet (.ref a) >>= _) _ _ _;refine aB (QL Sa.type ?_);show wpAny (model prog w) A.in1 (Builtin.Frozenset.isAnySet (.ref b)) _ _ _;refine QL Sb.type ?_;rw[aE (by decide)];refine aB (show wpAny (model prog w) A.in1 (pure a) _ _ _ from aD ?_);refine aB (Fn Sa Sb hn hm hq λh' rs kk S hr hl=>?_);exact aD ⟨_,rfl,(λz=>nomatch z),q h' rs kk S hr hl⟩
end
end Tb
end L2
namespace L2
noncomputable section
open PySem PySem.Spec PyProof.Rows Tb
def Rc(bt:Bool)(p:Addr)(ks:iC):HO:=.ext λh=>SetL bt h p ks
def Tz{α:Type}:List (Key × α)->Option (iC)
 |[]=>some []
 |(.inl k,_)::r=>match Tz r with
  |some ns=>some (k::ns)
  |none=>none
 |_=>none
def RV{α:Type}:∀{kvs:List (Key × α)} {ns:iC},Tz kvs=some ns->kvs.map (·.1)=ns.map Sum.inl
 |[],_,e=>by cases e;rfl
 |(.inr _,_)::_,_,e=>by cases e
 |(.inl k,v)::r,ns,e=>by
  have e:(match Tz r with|some ns=>some (k::ns)|none=>none)=some ns:=e
  match hr:Tz r,e with
  |some ms,e=>
   have e:some (k::ms)=some ns:=e;cases e;rw[aU,aU,RV hr]
  |none,e=>exact nomatch e
def MD{F:Hp}{β:iA}:∀{kvs:iM} {qs:List (Key × V)},RK F β kvs qs->qs.map (·.1)=kvs.map (·.1)
 |_,_,.nil=>rfl
 |_,_,.cons h r=>by rw[aU,aU,MD r]
section
variable{X:Cx}{E:XK}
def Ma{P:Program}{w:World}{H:Hp}{h:Heap}{bt:Bool}{p:Addr}{ks:iC}(S:SetL bt h p ks):ObjOk P w H h p (Rc bt p ks):=
 ⟨S,let ⟨o,_,_,_,e,_⟩:=S;⟨o,e⟩,λh1 h2 S1 k=>S1.keep k⟩
def NR{P:Program}{w:World}{H:Hp}{h:Heap}{bt:Bool}{p:Addr}{ks:iC}(ok:HOk P w H h)(e:H p=some (Rc bt p ks)):SetL bt h p ks:=(ok p _ e).1
def rSet(X:Cx):iI->Hp->VK->Prop:=λxs H Q=>∃l ns,xs=[.ref l]∧(SqL X.K H l (ns.map V.int)∨∃kvs,H l=some (.dK kvs)∧kvs.map (·.1)=ns.map Sum.inl)∧ns.length<31∧∀p,H p=none->Q (.ref p) (upd H p (Rc (byT X.w) p (YD [] ns)))
def BR{kvs:List (Key × V)}{vs:List (Key × Value)}{ns:iC}(r:KV kvs vs)(e:kvs.map (·.1)=ns.map Sum.inl):vs.map (·.1)=ns.map Sum.inl:=by
 rw[← e];clear e
 induction r with
 |nil=>rfl
 |cons h _ ih=>rw[aU,aU,ih,h.1]
def LA(hc:X.calm=true):CallR X (.type "set") (rSet X):=by
 intro gV s σ H xs us Q I r h;obtain⟨l,ns,rfl,hl,hb,q⟩:=h;obtain⟨u,rfl,ru⟩:=SL r;cases (show u=Value.ref l from ru);rcases hl with hl|⟨kvs,hd,hk⟩
 ·obtain⟨ik,rv,p,hz⟩:=I.list hl
  refine Tb.set_list (I.ok.hd hc) p.isList (by simpa using Q5 rfl rv) hb λh' tk S kk=>?_
  exact⟨.ref s.heap.objs.size,_,I.laid (t':=tk) kk (aK _) (Ma S),rfl,q _ (I.hok.fresh (aK _))⟩
 ·obtain⟨z,hS,ws,rk,m⟩:=(show kvs.length<=sizeLine∧(l == sysModules)=false∧∃vs,KV kvs vs∧s.heap.DictOf (ZT X.prog X.w) l vs from I.hok l _ hd)
  obtain⟨o,es,ep,ho,j4,i6,lZ,hp,hn⟩:=m;have j5:=BR rk hk;have jN:ws.length=ns.length:=by have:=cE List.length j5;simpa using this
  refine Tb.set_dict (ns:=ns) ho j4.1 i6 hS ⟨by rw[hp.length,jN],λi e he=>?_⟩ hb λh' S kk=>?_
  ·have hi:i<ns.length:=by
    have:=(dO.mp he).1;have h2:=hp.length;rw[aP]at h2;omega
   have hg:ws[i]?=some (ws[i]'(by omega)):=aI _
   have hk1:(ws[i]'(by omega)).1=Sum.inl (ns.getD i 0):=by
    have h3:(ws.map (·.1))[i]?=(ns.map Sum.inl)[i]?:=by rw[j5]
    rw[bA,bA,hg,aI hi]at h3;have h4:(ws[i]'(by omega)).1=Sum.inl ns[i]:=bW h3;rw[h4];simp[hi]
   obtain⟨g1,_⟩:=hp.get? (e:=e) (by rw[f9];exact he) hg;have g1:(ZT X.prog X.w).is (ws[i]'(by omega)).1 e.key=true:=g1;rw[hk1]at g1;obtain⟨t,ht⟩:=fY (k:=ns.getD i 0) (v:=e.key) g1;obtain⟨k',c1,c2⟩:=lZ e (Array.mem_of_getElem? he);have:k'=Sum.inl (ns.getD i 0):=(ZT X.prog X.w).inj _ _ _ c1 g1;rw[this]at c2;exact⟨c2,t,ht⟩
  ·exact⟨.ref s.heap.objs.size,_,I.laid (t':=s.toks) kk (aK _) (Ma S),rfl,q _ (I.hok.fresh (aK _))⟩
def rSubS(X:Cx):R2:=λx y H Q=>∃a b ks ms,x=.ref a∧y=.ref b∧H a=some (Rc (byT X.w) a ks)∧H b=some (Rc (byT X.w) b ms)∧ks.length<31∧ms.length<31∧(ks.length / 4<=ms.length∨ms=[]) ∧
 ∀p rs,H p=none->rs.Nodup->(∀k,k∈rs ↔ k∈ks∧k ∉ ms)->rs.length<=ks.length->Q (.ref p) (upd H p (Rc (byT X.w) p rs))
def Be:OpR X (binaryOp .Sub) (rSubS X):=by
 intro gV s σ H x y v u Q I rx ry h;obtain⟨a,b,ks,ms,rfl,rfl,ha,hb,h1,h2,h3,q⟩:=h;cases rx;cases ry;refine Tb.sub_set (NR I.hok ha) (NR I.hok hb) h1 h2 h3 λh' rs kk S hm hl=>?_
 exact⟨.ref s.heap.objs.size,_,I.laid (t':=s.toks) kk (aK _) (Ma S),rfl,q _ rs (I.hok.fresh (aK _)) S.ndp hm hl⟩
def FJ(X:Cx):iI->Hp->VK->Prop:=λxs H Q=>∃(a:Addr) (ks:iC),xs=[.ref a]∧(H a=some (Rc (byT X.w) a ks)∨∃kvs,H a=some (.dK kvs)∧kvs.map (·.1)=ks.map Sum.inl)∧ks.length<64∧∀(p:Addr) (ms:iC),ms.Perm ks->ms.Pairwise (·<=·)->H p=none->Q (.ref p) (upd H p (.lst (ms.map V.int)))
def Ot(hc:X.calm=true):CallR X (.builtin "sorted") (FJ X):=by
 intro gV s σ H xs us Q I r h;obtain⟨a,ks,rfl,ha,kg,q⟩:=h;obtain⟨u,rfl,ru⟩:=SL r;cases (show u=Value.ref a from ru)
 have fin:∀(h':Heap) (tk:Nat) (B:Addr) (us:iB) (ms:iC) (c:Nat),(∀b x,s.heap.get? b=some x->h'.get? b=some x)->s.heap.objs.size<=B->h'.get? B=some (seqObj "list" us.toArray c)->IntsAre us ms->ms.Perm ks->ms.Pairwise (·<=·)->EP X gV σ Q (.ref B) {s with heap:=h',toks:=tk}:=λh' tk B us ms c kk hB e1 e2 e3 e4=>by
  have hl:ms.length=ks.length:=e3.length_eq;exact⟨.ref B,_,I.laid (o:=.lst (ms.map V.int)) (t':=tk) kk hB ⟨by rw[aA,cf];omega,us,c,N3 e2,e1⟩,rfl,q B ms e3 e4 (I.hok.fresh hB)⟩
 rcases ha with ha|⟨kvs,hd,hk⟩
 ·exact Tb.sort_set (I.ok.hd hc) (NR I.hok ha) kg fin
 ·obtain⟨z,hS,ws,rk,m⟩:=(show kvs.length<=sizeLine∧(a == sysModules)=false∧∃vs,KV kvs vs∧s.heap.DictOf (ZT X.prog X.w) a vs from I.hok a _ hd)
  have j5:=BR rk hk;have jN:ws.length=ks.length:=by have:=cE List.length j5;simpa using this
  obtain⟨o,es,ep,ho,j4,i6,lZ,hp,hn⟩:=m;refine Qm kg (λR E' k=>?_) fin
  refine Qh (T:="dict") (o:=o) (oi:={cls:=.type "dict_keyiterator",data:=.fields #[.ref a,.int 0 0,.int ws.length 0,.int ep 0]}) (n:=ws.length) (by decide) (by decide) ho j4.1 (by rw[cf];omega) (λs1 Q' E1 hT q1=>HS hT q1)
   (λs1 Q' E1 h1 q1=>gX (knd:=ZT X.prog X.w) (kvs:=ws) (ep:=ep) hS ⟨o,es,h1,j4,i6,lZ,hp,hn⟩ q1)
   (λI' hI=>Walks.dictKeys (knd:=ZT X.prog X.w) (A:=X.A.in1.in1) (by simp[I.ok.hd hc]) I' a hI ws ep) (λI' h e1 e2=>⟨⟨_,e2,rfl,rfl⟩,⟨o,es,e1,j4,i6,lZ,hp,hn⟩⟩) rfl λh' tk iz kk hB hI=>?_
  refine k h' tk iz.toList ks kk hB ?_ (.refl _);have hal:iz.toList.length=ks.length:=by rw[aP,hI.1,jN]
  have kR:∀i (h1:i<iz.toList.length) (h2:i<ks.length),∃t,iz.toList[i]=.int ks[i] t:=λi h1 h2=>by
   obtain⟨k',x,e1,e2⟩:=hI.2 i iz.toList[i] (by rw[← f9];exact aI h1);have h3:(ws.map (·.1))[i]?=(ks.map Sum.inl)[i]?:=by rw[j5]
   rw[bA,bA,e1,aI h2]at h3;have h4:k'=Sum.inl ks[i]:=bW h3;rw[h4]at e2;exact fY (k:=ks[i]) e2
  clear hI k j5 jN hp rk hk;generalize iz.toList=l at hal kR;clear hB kk fin q kg
  induction l generalizing ks with
  |nil=>
   cases ks with
   |nil=>exact .nil
   |cons _ _=>cases hal
  |cons y l ih=>
   cases ks with
   |nil=>cases hal
   |cons k0 ks=>
    obtain⟨t,e⟩:=kR 0 (by simp) (by simp);have e:y=.int k0 t:=e;rw[e];exact .cons k0 t (ih ks (by simpa using hal) λi h1 h2=>kR (i+1) (by simpa using h1) (by simpa using h2))
def sdL(ns ks:iC):iC:=Xi ((YD [] ns).filter λk=>!ks.contains k)
def MC(x:Wv):Mw (iC):=λom=>match x with
 |.lst ws=>match Y4 ws with
  |some ns=>if ns.length<31 then some (.ok ns,om) else none
  |none=>none
 |_=>none
def SF(ns:iC)(y:Wv):Mw (iJ):=λom=>match y with
 |.o h=>match om[h]? with
  |some (.dk kvs)=>match Tz kvs with
   |some ks=>if ks.length<31∧((YD [] ns).length / 4<=(YD [] ks).length∨ks=[]) then some (.ok ((sdL ns ks).map Wv.int),om) else none
   |none=>none
  |_=>none
 |_=>none
def UW(k:iJ->Mw Wv)(fa fb:FE):FE:=λsl=>bnd (fa sl) λx=>bnd (MC x) λns=>bnd (fb sl) λy=>bnd (SF ns y) k
variable{e a b:Expr}{es:iF}{fa fb:FE}{fs:FA}{k:iJ->Mw Wv}{p p1 p2 p3 pos kA kC:Pos}
def U2:∀(js ks:iC),ks.Nodup->(YD ks js).Nodup
 |[],ks,h=>h
 |j::js,ks,h=>U2 js (Sd ks j) (by
  unfold Sd;split
  ·exact h
  ·rename_i hc
   rw[cH];refine⟨h,by simp,λx hx y hy z=>hc ?_⟩;rw[cP]at hy;rw[← hy,← z];simpa using hx)
def RS(l:iC)(x:Int):x∈Xi l ↔ x∈l:=(Yh l).mem_iff
def Jr(hk:WT E k)(hc:X.calm=true)(hg:Gl X "sorted")(hm:X.mg "sorted"=none)(nq:Gl X "set")(jH:X.mg "set"=none)(ha:PE X a (tE E fa))(hb:PE X b (tE E fb))(ea:starEach [a] X.env=(false,eval a X.env)::starEach [] X.env:=by rfl) (eb:starEach [b] X.env=(false,eval b X.env)::starEach [] X.env:=by rfl)(h0:starEach [.BinOp (.Call (.Name "set" p1) [a] [] kA) .Sub (.Call (.Name "set" p2) [b] [] kC) p3] X.env=(false,eval (.BinOp (.Call (.Name "set" p1) [a] [] kA) .Sub (.Call (.Name "set" p2) [b] [] kC) p3) X.env)::starEach [] X.env:=by rfl)(l1:(backTo kA (starEach [] X.env)).any (·.1)=false:=by rfl) (l2:(backTo kC (starEach [] X.env)).any (·.1)=false:=by rfl) (l3:(backTo pos (starEach [] X.env)).any (·.1)=false:=by rfl):PE X (.Call (.Name "sorted" p) [.BinOp (.Call (.Name "set" p1) [a] [] kA) .Sub (.Call (.Name "set" p2) [b] [] kC) p3] [] pos) (tE E (UW k fa fb)):=
 (Oe (Ot hc) hg hm dC (XW (Fp Be (RM (LA hc) nq jH (by rfl) (XW ha VO ea) (by decide) (by decide) ea l1) (RM (LA hc) nq jH (by rfl) (XW hb VO eb) (by decide) (by decide) eb l2)) VO h0) (by decide) (by decide) h0 l3).weak λσ H Q ⟨F,β,om,sl,M,V,R⟩=>by
 refine⟨F,β,om,sl,M,V,R.bind λx om1 F1 H1 io g1 M1 R1 v rv=>?_⟩;cases rv with
 |@lst pl xs ws hl rs=>
  unfold bnd MC at R1;dsimp only at R1
  match hn:Y4 ws,R1 with
  |none,R1=>exact R1.elim
  |some ns,R1=>
   dsimp only at R1;by_cases ip:ns.length<31
   ·have R2:Res E ((bnd (fb sl) λy=>bnd (SF ns y) k) om1) F1 H1 io (PV Q):=by
     rw[aC ip]at R1;exact R1
    have exs:=Ue rs hn;subst exs;refine⟨pl,ns,rfl,.inl (.inl (Rd.same M1.sub hl)),ip,λp hp=>?_⟩;have MU:=M1.newU (o:=Rc (byT X.w) p (YD [] ns)) hp;have gU:=M1.gxU (o:=Rc (byT X.w) p (YD [] ns)) hp;refine⟨F1,io,om1,sl,MU,V.mono g1.toGr,(Res.mono gU R2).bind λy om2 F2 H2 ja g2 M2 R3 u ru=>?_⟩
    have hpb:p ∉ io:=λhb=>by
     obtain⟨i,hi⟩:=c8 hb;obtain⟨z,hz⟩:=M1.there hi;rw[hp]at hz;cases hz
    have mS:H2 p=some (Rc (byT X.w) p (YD [] ns)):=g2.keep p _ ZC hpb;cases ru with
    |@o hh d ed=>
     unfold bnd SF at R3;dsimp only at R3
     match hx:om2[hh]?,R3 with
     |none,R3=>exact R3.elim
     |some (.ins _ _),R3=>exact R3.elim
     |some (.exc _),R3=>exact R3.elim
     |some (.dz _),R3=>exact R3.elim
     |some (.lst _),R3=>exact R3.elim
     |some (.dt _),R3=>exact R3.elim
     |some (.dk kvs),R3=>
      obtain⟨d',lI,_,qs,mU,rq⟩:=M2.at hx;rw[ed]at lI;cases lI;dsimp only at R3
      match jl:Tz kvs,R3 with
      |none,R3=>exact R3.elim
      |some ks,R3=>
       dsimp only at R3;by_cases hcond:ks.length<31∧((YD [] ns).length / 4<=(YD [] ks).length∨ks=[])
       ·have R4:Res E (k ((sdL ns ks).map Wv.int) om2) F2 H2 ja (PV Q):=by
         rw[aC hcond]at R3;exact R3
        obtain⟨c1,c2⟩:=hcond;have la:=XG ns [];have lb:=XG ks [];rw[cA]at la lb;refine⟨d,ks,rfl,.inr ⟨qs,mU,by rw[MD rq,RV jl]⟩,c1,λp2 jF=>?_⟩;have M3:=M2.newU (o:=Rc (byT X.w) p2 (YD [] ks)) jF;have g3:=M2.gxU (o:=Rc (byT X.w) p2 (YD [] ks)) jF;refine⟨p,p2,YD [] ns,YD [] ks,rfl,rfl,by rw[Zx (ZX mS jF)];exact mS,ZC,by omega,by omega,c2.imp id (λz=>by rw[z];rfl),λp3 kL j7 nd ky pe=>?_⟩;have M4:=M3.newU (o:=Rc (byT X.w) p3 kL) j7;have g4:=M3.gxU (o:=Rc (byT X.w) p3 kL) j7;refine⟨p3,kL,rfl,.inl ZC,by omega,λp4 ms ly oE oF=>?_⟩
        have ems:ms=sdL ns ks:=by
         refine V1 (ly.trans (List.Perm.trans ?_ (Yh _).symm)) oE (W0 _);have ndA:(YD [] ns).Nodup:=U2 _ _ eV;refine(ff nd (ndA.filter _)).mpr λz=>?_
         rw[ky z,aG,VV (js:=ks)];simp
        rw[ems];exact(hk M4 (UP _) (Res.mono (g3.trans g4) R4)).2 oF
       ·rw[aE hcond]at R3;exact R3.elim
    |_=>exact R3.elim
   ·rw[aE ip]at R1;exact R1.elim
 |_=>exact R1.elim
def WZ(k:iJ->Mw Wv)(ws:iJ):Mw Wv:=λom=>match ws with
 |[x]=>match x with
  |.o h=>match om[h]? with
   |some (.dk kvs)=>match Tz kvs with
    |some ns=>if ns.length<64 then k ((Xi ns).map Wv.int) om else none
    |none=>none
   |_=>none
  |_=>none
 |_=>none
def LY(lk:WT E k):UM E (FJ X) (WZ k):=by
 intro F H β om ws vs Q M rs R
 match ws,rs,R with
 |[],_,R=>exact R.elim
 |_::_::_,_,R=>exact R.elim
 |[x],.cons rx .nil,R=>
  cases rx with
  |@o hh d ed=>
   unfold WZ at R;dsimp only at R
   match hx:om[hh]?,R with
   |none,R=>exact R.elim
   |some (.ins _ _),R=>exact R.elim
   |some (.exc _),R=>exact R.elim
   |some (.dz _),R=>exact R.elim
   |some (.lst _),R=>exact R.elim
   |some (.dt _),R=>exact R.elim
   |some (.dk kvs),R=>
    obtain⟨d',lI,_,qs,mU,rq⟩:=M.at hx;rw[ed]at lI;cases lI;dsimp only at R
    match jl:Tz kvs,R with
    |none,R=>exact R.elim
    |some ns,R=>
     dsimp only at R;by_cases hl:ns.length<64
     ·rw[aC hl]at R
      refine⟨d,ns,rfl,.inr ⟨qs,mU,by rw[MD rq,RV jl]⟩,hl,λq ms h1 h2 hq=>?_⟩;have e:ms=Xi ns:=V1 (h1.trans (Yh ns).symm) h2 (W0 ns);rw[e];exact(lk M (UP _) R).2 hq
     ·rw[aE hl]at R;exact R.elim
  |_=>exact R.elim
def Kd(lk:WT E k)(hc:X.calm=true)(hg:Gl X "sorted")(hm:X.mg "sorted"=none)(ha:PA X [e] (tA E fs))(he:starEach [e] X.env=(false,eval e X.env)::starEach [] X.env:=by rfl)(iR:(backTo pos (starEach [] X.env)).any (·.1)=false:=by rfl):PE X (.Call (.Name "sorted" p) [e] [] pos) (tE E (fA (WZ k) fs)):=Vo (Ot hc) (LY (X:=X) lk) hg hm dC ha (by decide) (by decide) he iR
end
end
end L2
namespace L2
noncomputable section
open PySem PySem.Spec PyProof.Rows PySem.W
section
variable{X:Cx}{E:XK}{e o:Expr}{es:iF}{fo:FE}{fs:FA}{k:iJ->Mw Wv}{p pos:Pos}
def GU(p:iC):h8->List (iC)
 |[]=>[p]
 |q::r=>if ltR q p=true then q::GU p r else p::q::r
def TK:h8->List (iC)
 |[]=>[]
 |p::r=>GU p (TK r)
def Rr(p:iC):∀l,(GU p l).Perm (p::l)
 |[]=>cU _
 |q::r=>by
  unfold GU;split
  ·exact((Rr p r).cons q).trans (List.Perm.swap p q r)
  ·exact cU _
def Vf:∀l,(TK l).Perm l
 |[]=>cU _
 |p::r=>(Rr p (TK r)).trans ((Vf r).cons p)
abbrev Em(l:h8):Prop:=l.Pairwise λx y=>ltR y x=false
def DX{x y:iC}(h:ltR x y=true):ltR y x=false:=by
 cases z:ltR y x with
 |false=>rfl
 |true=>have:=JM h z;rw[NY]at this;cases this
def LP(p:iC):∀l,Em l->Em (GU p l)
 |[],_=>d9 _ _
 |q::r,h=>by
  have h':=bJ.mp h;unfold GU;by_cases hc:ltR q p=true
  ·rw[aC hc]
   refine bJ.mpr ⟨λy hy=>?_,LP p r h'.2⟩;rcases aR.mp ((Rr p r).mem_iff.mp hy) with rfl|hy
   ·exact DX hc
   ·exact h'.1 y hy
  ·rw[aE hc]
   refine bJ.mpr ⟨λy hy=>?_,h⟩;have kh:ltR q p=false:=by simpa using hc
   rcases aR.mp hy with rfl|hy
   ·exact kh
   ·cases z:ltR y p with
    |false=>rfl
    | true => rcases MB (y:=q) z with w | w
              ·rw[h'.1 y hy]at w;cases w
              ·exact absurd w hc
def Tj:∀l,Em (TK l)
 |[]=>List.Pairwise.nil
 |p::r=>LP p _ (Tj r)
def Fc:∀{x y:iC},ltR x y=false->ltR y x=false->x=y
 |[],[],_,_=>rfl
 |[],_::_,h,_=>nomatch h
 |_::_,[],_,h=>nomatch h
 |a::x,b::y,h1,h2=>by
  have n1:¬ (a<b∨(a=b∧ltR x y=true)):=λz=>by rw[Ub.mpr z]at h1;cases h1
  have n2:¬ (b<a∨(b=a∧ltR y x=true)):=λz=>by rw[Ub.mpr z]at h2;cases h2
  have e:a=b:=by omega
  rw[e,Fc (x:=x) (y:=y) (by simpa using λz=>n1 (.inr ⟨e,z⟩)) (by simpa using λz=>n2 (.inr ⟨e.symm,z⟩))]
def Tq:∀{l m:h8},l.Perm m->Em l->Em m->l=m
 |[],m,h,_,_=>(List.nil_perm.mp h).symm
 |x::l,[],h,_,_=>absurd h (by simp)
 |x::l,y::m,h,h1,h2=>by
  have jz:=bJ.mp h1;have ji:=bJ.mp h2
  have e:x=y:=by
   rcases aR.mp (h.mem_iff.mp (cK (a:=x) (l:=l))) with hx|hx
   ·exact hx
   ·rcases aR.mp (h.mem_iff.mpr (cK (a:=y) (l:=m))) with hy|hy
    ·exact hy.symm
    ·exact Fc (ji.1 x hx) (jz.1 y hy)
  subst e;rw[Tq h.cons_inv jz.2 ji.2]
def EG(X:Cx):iI->Hp->VK->Prop:=λxs H Q=>∃(l:Addr) (as:iA) (ps:h8),xs=[.ref l]∧SqL X.K H l (as.map V.ref)∧as.length=ps.length∧(∃m,∀p∈ps,p.length=m+1)∧(∀(i:Nat) (a:Addr) (p:iC),as[i]?=some a->ps[i]?=some p->H a=some (.tup (p.map V.int)))∧ps.length<64 ∧
 ∀(B:Addr) (bs:iA) (qs:h8),H B=none->(∃p:iD,p.Perm (List.range as.length)∧bs=p.map (λi=>as.getD i 0)∧qs=p.map (λi=>ps.getD i []))->qs.Pairwise (λx y=>ltR y x=false)->Q (.ref B) (upd H B (.lst (bs.map V.ref)))
def IN:∀{as:iA} {us:iB},Vals (as.map V.ref) us->us=as.map Value.ref
 |[],_,.nil=>rfl
 |a::as,_,.cons h r=>by rw[aU,IN r,show _=Value.ref a from h]
def JN:CallR X (.builtin "sorted") (EG X):=by
 intro gV s σ H xs us Q I r h;obtain⟨l,as,ps,rfl,hl,ip,lR,kR,kg,q⟩:=h;obtain⟨u,rfl,ru⟩:=SL r;cases (show u=Value.ref l from ru);obtain⟨ik,rv,pl,hz⟩:=I.list hl;have hits:=IN rv;subst hits
 have pa:RowsAt s.heap as ps:=⟨ip,lR,λi a p e1 e2=>by
  obtain⟨_,ik,rt,o,ho,hc,n,hd⟩:=I.hok a _ (kR i a p e1 e2);exact⟨o,ik,n,ho,hc,hd,rt⟩⟩
 refine fU kind_sorted plain_sorted entry_sorted (args_sorted1 _) (show wpAny _ _ (Builtin.«sorted» _) _ _ _ from ?_);unfold Builtin.«sorted»;refine aB (m:=checkCount "sorted" 1 1 _) (aD (aB (collect_list (vs:=as.map Value.ref) pl.isList ?_ (by rw[aA,cf];omega))));have sz1:((s.heap.push (seqObj "list" #[] 0)).update s.heap.objs.size (Obj.mapSeq (·++(as.map Value.ref).toArray))).objs.size=s.heap.objs.size+1:=by rw[Heap.size_update,size_push']
 have k1:∀b o,s.heap.get? b=some o->((s.heap.push (seqObj "list" #[] 0)).update s.heap.objs.size (Obj.mapSeq (·++(as.map Value.ref).toArray))).get? b=some o:=λb o e=>by
  rw[Heap.get?_update_ne _ _ _ _ (bC (aO e))];exact aF _ e
 generalize (s.heap.push (seqObj "list" #[] 0)).update s.heap.objs.size (Obj.mapSeq (·++(as.map Value.ref).toArray))=h1 at sz1 k1;refine aB (gL ?_ (by rw[aA,cf];omega));have g2:(h1.push (seqObj "list" (as.map Value.ref).toArray 0)).get? h1.objs.size=some (seqObj "list" (as.map Value.ref).toArray 0):=aW _ rfl;have k2:∀b o,s.heap.get? b=some o->(h1.push (seqObj "list" (as.map Value.ref).toArray 0)).get? b=some o:=λb o e=>aF _ (k1 b o e)
 have lt:∀a∈as,a<s.heap.objs.size:=λa ha=>by
  obtain⟨i,hi⟩:=c8 ha;have hil:i<ps.length:=by rw[← ip];exact(aH.mp hi).1
  obtain⟨o,_,_,ho,_⟩:=pa.at' i a ps[i] hi (aI hil);exact aO ho
 have hB:h1.objs.size ∉ as:=λhm=>absurd (lt _ hm) (by rw[sz1];exact fS.mpr (cZ _))
 refine aB (cz (dr slot_list_sort ⟨_,g2,rfl⟩ entry_list_sort (Na (s:={s with heap:=h1.push (seqObj "list" (as.map Value.ref).toArray 0)}) g2 (pa.keep λa _ o e=>k2 a o e) hB (by omega) λh2 bs qs c kk g3 hp hs=>⟨_,rfl,aD ⟨_,rfl,?_⟩⟩) (args_list_sort _)));have hle:s.heap.objs.size<=h1.objs.size:=by rw[sz1];exact cZ _
 refine⟨.ref h1.objs.size,_,I.laid (o:=.lst (bs.map V.ref)) (t':=s.toks) (λb o e=>kk b o (bC (bH (aO e) hle)) (k2 b o e)) hle ⟨?_,bs.map Value.ref,c,RA bs,g3⟩,rfl,q _ bs qs (I.hok.fresh hle) hp hs⟩;obtain⟨p,j6,jF,_⟩:=hp;rw[aA,jF,aA,j6.length_eq,bP,cf];omega
def UH(p:iC):Wv:=.tup (p.map Wv.int)
def R6:iJ->Option (h8)
 |[]=>some []
 |.tup ws::r=>match Y4 ws,R6 r with
  |some p,some ps=>some (p::ps)
  |_,_=>none
 |_=>none
def Pu:∀ns:iC,Y4 (ns.map Wv.int)=some ns
 |[]=>rfl
 |n::ns=>by
  show(match Y4 (ns.map Wv.int) with|some is=>some (n::is)|none=>none)=_;rw[Pu ns]
def Ni:∀{ws:iJ} {p:iC},Y4 ws=some p->ws=p.map Wv.int
 |[],_,h=>by cases h;rfl
 |w::ws,p,h=>by
  unfold Y4 at h;split at h
  ·rename_i hh;cases hh
  ·rename_i k r hh
   cases hh
   match h3:Y4 ws,h with
   |some is,h=>
    have h:some (k::is)=some p:=h;cases h;rw[Ni h3];rfl
   |none,h=>exact nomatch h
  ·cases h
def Rw:∀ps:h8,R6 (ps.map UH)=some ps
 |[]=>rfl
 |p::ps=>by
  show(match Y4 (p.map Wv.int),R6 (ps.map UH) with|some p,some ps=>some (p::ps)|_,_=>none)=_;rw[Pu,Rw ps]
def Ks{F:Hp}{β:iA}:∀{us:iJ} {ps:h8} {vs:iI},R6 us=some ps->RWs F β us vs->us.length=ps.length∧∃as:iA,vs=as.map V.ref∧as.length=ps.length∧∀(i:Nat) (a:Addr) (p:iC),as[i]?=some a->ps[i]?=some p->F a=some (.tup (p.map V.int))∧us[i]?=some (UH p)
 |[],ps,_,h,.nil=>by cases h;exact⟨rfl,[],rfl,rfl,λi a p e=>by simp at e⟩
 |u::us,ps,_,h,.cons hu r=>by
  cases hu with
  |@tup a xs ws e je=>
   have h:(match Y4 ws,R6 us with|some p,some ps=>some (p::ps)|_,_=>none)=some ps:=h
   match h1:Y4 ws,h2:R6 us,h with
   |some p,some qs,h=>
    cases h;obtain⟨e0,as,e1,e2,e3⟩:=Ks h2 r;refine⟨by simp[e0],a::as,by rw[e1];rfl,by simp[e2],λi b q q1 q2=>?_⟩;cases i with
    |zero=>
     simp at q1 q2;subst q1 q2;refine⟨by rw[← Ue je h1];exact e,?_⟩;rw[Ni h1];rfl
    |succ i=>exact e3 i b q (by simpa using q1) (by simpa using q2)
   |none,_,h=>exact nomatch h
   |some _,none,h=>exact nomatch h
  |_=>exact nomatch h
def T5(ps:h8):Bool:=decide (ps.length<64)&&ps.all λp=>decide (p.length=((ps.headD []).length-1)+1)
def YL(k:iJ->Mw Wv)(ws:iJ):Mw Wv:=λom=>match ws with
 |[x]=>match x with
  |.lst us=>match R6 us with
   |some ps=>if T5 ps=true then k ((TK ps).map UH) om else none
   |none=>none
  |_=>none
 |_=>none
def KU(lk:WT E k):UM E (EG X) (YL k):=by
 intro F H β om ws vs Q M rs R
 match ws,rs,R with
 |[],_,R=>exact R.elim
 |_::_::_,_,R=>exact R.elim
 |[x],.cons rx .nil,R=>
  cases rx with
  |@lst l xs us hl rs=>
   unfold YL at R;dsimp only at R
   match hp:R6 us,R with
   |none,R=>exact R.elim
   |some ps,R=>
    dsimp only at R;by_cases hok:T5 ps=true
    ·rw[aC hok]at R
     unfold T5 at hok;rw[bT,bX,cQ]at hok;obtain⟨_,as,rfl,ip,kR⟩:=Ks hp rs;refine⟨l,as,ps,rfl,.inl (Rd.same M.sub hl),ip,⟨_,λp hp=>bG (hok.2 p hp)⟩,λi a p e1 e2=>M.sub a _ (kR i a p e1 e2).1,hok.1,λB bs qs hB ⟨p,j6,jF,j7⟩ hs=>?_⟩
     have eqs:qs=TK ps:=by
      refine Tq ?_ hs (Tj ps);refine List.Perm.trans ?_ (Vf ps).symm;rw[j7];refine(j6.map _).trans ?_;rw[ip]
      have:(List.range ps.length).map (λi=>ps.getD i [])=ps:=db λi=>by
       by_cases hi:i<ps.length
       ·simp[hi]
       ·simp[hi]
      rw[this]
     have rws:RWs F β ((TK ps).map UH) (bs.map L2.V.ref):=by
      rw[← eqs,j7,jF];have hall:∀i∈p,i<as.length:=λi hi=>by have:=j6.mem_iff.mp hi;simpa using this
      clear j6 jF j7 eqs hs
      induction p with
      |nil=>exact .nil
      |cons i p ih=>
       have hi:=hall i (.head _);refine .cons ?_ (ih λj hj=>hall j (.tail _ hj));have e1:as.getD i 0=as[i]:=by simp[hi]
       have e2:ps.getD i []=ps[i]'(by omega):=by simp[show i<ps.length by omega]
       show RW F β (UH (ps.getD i [])) (L2.V.ref (as.getD i 0));rw[e1,e2];exact .tup (kR i _ _ (aI hi) (aI (by omega))).1 (UP _)
     exact(lk M rws R).2 hB
    ·rw[aE hok]at R;exact R.elim
  |_=>exact R.elim
def UX(lk:WT E k)(hg:Gl X "sorted")(hm:X.mg "sorted"=none)(ha:PA X [e] (tA E fs))(he:starEach [e] X.env=(false,eval e X.env)::starEach [] X.env:=by rfl)(iR:(backTo pos (starEach [] X.env)).any (·.1)=false:=by rfl):PE X (.Call (.Name "sorted" p) [e] [] pos) (tE E (fA (YL k) fs)):=Vo JN (KU (X:=X) lk) hg hm dC ha (by decide) (by decide) he iR
def FF(ps:hZ):TK (ps.map l2)=(YH ps).map l2:=by
 refine Tq ((Vf _).trans ((Z4 ps).symm.map l2)) (Tj _) (bO.mpr ((Xo ps).imp λh=>by rw[Fh];exact h))
def Mb{k:iJ->Mw Wv}{ps:hZ}{om:iN}(h:ps.length<64):YL k [.lst (ps.map prW)] om=k ((YH ps).map prW) om:=by
 have e:ps.map prW=(ps.map l2).map UH:=by rw[aS];rfl
 have ok:T5 (ps.map l2)=true:=by
  unfold T5;rw[aA,bL h,Bool.true_and,cQ];intro p hp;obtain⟨q,hq,rfl⟩:=aZ.mp hp;cases ps with
  |nil=>cases hq
  |cons a ps=>rfl
 unfold YL;dsimp only;rw[e,Rw];dsimp only;rw[aC ok,FF,aS];rfl
end
end
end L2
namespace L2
noncomputable section
open PySem PySem.Spec PyProof.Rows
def ItrD(hi:Int)(n:Nat):It:=⟨λi _=>i<n,λi H x H'=>H'=H∧x=.int (hi-i),λi _=>n<=i⟩
def Kh{P:Program}{w:World}{K:g9}{tg:Expr}(it:Addr)(hi:Int)(n:Nat):Turn P w K tg (ItrD hi n) [it] it (λi h=>IsRangeIter h it (hi+(i:Nat) * (-1)) ((n:Int)-(i:Nat)) (-1)) where
 mem:=by simp
 obj:=λi h st b hb=>by
  have e:b=it:=by simpa using hb
  subst e;exact⟨_,st,λv z=>nomatch (show Data.fields _=Data.cell v from z)⟩
 keep:=λi h h' st k=>k it (by simp) _ st
 item:=by
  intro X hP hw hK hc i gV s σ H E I hf st hg;subst hP hw hK;obtain⟨f0,f1,f2,f3,f4,f5⟩:=hf it (by simp);refine(Walks.range (prog:=X.prog) (w:=X.w) (I.ok.hd hc) it hi (-1) n).item i s _ _ hg st λv h' tk hv jE kk=>?_
  obtain⟨t,rfl⟩:=hv;have I1:Inv X gV σ H {s with heap:=h',toks:=tk}:=I.turned (λb o hb e=>kk b o (by simpa using hb) e) f0 f1 f3 f4 f5;refine⟨_,rfl,IF (s:={s with heap:=h',toks:=tk}) (n:="range_iterator") jE rfl rfl (by decide) ⟨.int (hi-i),H,I1,⟨t,?_⟩,⟨rfl,rfl⟩,jE,λb hb=>(hf b hb).1⟩⟩;rw[show hi+(i:Int) * (-1)=hi-i by omega]
 done:=by
  intro X hP hw hK hc i gV s σ H E I hf st hg;subst hP hw hK;obtain⟨f0,f1,f2,f3,f4,f5⟩:=hf it (by simp);exact wpAny_pyNext_range_end (I.ok.hd hc) st (by have:n<=i:=hg;omega) λh' eb=>⟨rfl,I.turned (t':=s.toks) (λb o hb e=>eb b o hb e) f0 f1 f3 f4 f5⟩
 self:=λ_ _ _ _ _ st h=>wpAny_pyIter_rangeiter st h
def UV{a b:Int}:Builtin.Range.rangeSize a b (-1)=((a-b).toNat:Nat):=by
 unfold Builtin.Range.rangeSize;rw[aE (by decide)];by_cases h:a > b
 ·rw[aC h,show -(-1:Int)=1 from rfl,Int.ediv_one];omega
 ·rw[aE h];omega
section
variable{X:Cx}{E:XK}{a b d tg:Expr}{f f' nr:FE}{p pos:Pos}
def OW:Wv->Wv->Wv->Mw (iJ)
 |.int i,.int j,.int m=>bnd (chk (decide (-1000<=i∧i<=1000∧-1000<=j∧j<=1000∧m=-1))) λ_=>ret ((List.range (i-j).toNat).map λ(k:Nat)=>.int (i-k))
 |_,_,_=>Wg
def iRngD(ta:TA):TI:=λσ H R=>ta σ H λvs H1=>∃i j:Int,vs=[.int i,.int j,.int (-1)]∧(-1000<=i∧i<=1000∧-1000<=j∧j<=1000)∧R (ItrD i (i-j).toNat) H1
def HD{ta:TA}(hg:Gl X "range")(hm:X.mg "range"=none)(ha:PA X [a,b,d] ta)(hs:starEach [a,b,d] X.env=[(false,eval a X.env),(false,eval b X.env),(false,eval d X.env)])(jV:starEach [b,d] X.env=[(false,eval b X.env),(false,eval d X.env)]):PI X tg (.Call (.Name "range" p) [a,b,d] [] pos) (iRngD ta):=by
 intro gV s σ H R I h;refine Call_ (Lc I hg hm boot_range (eT (thn (ha pos gV s σ H _ I h) λus s1 ⟨vs,H1,I1,r1,q1⟩=>?_) (by rw[hs,jV]) (by rw[jV];rfl)));obtain⟨i,j,e,⟨q1,q2,q3,q4⟩,q⟩:=q1;subst e;cases r1 with
 |cons r rr=>
  cases rr with
  |cons r' rr=>
   cases rr with
   |cons r'' rr=>
    cases rr;obtain⟨t,rfl⟩:=r;obtain⟨u,rfl⟩:=r';obtain⟨v,rfl⟩:=r'';refine call_range_3 (by decide) ?_ (Or.inl (PyProof.noPylong_small (by omega)));have I2:Inv X gV σ H1 {s1 with heap:=s1.heap.push {cls:=.type "range",data:=.fields #[.int i t,.int j u,.int (-1) v]},toks:=s1.toks}:=I1.kept λb o e=>aF _ e
    refine wpAny_pyIter_range (IsRange.new ..) ?_ ?_
    ·unfold Builtin.Range.small
     rw[UV];simp only[Builtin.Range.rangeFitsLong,bT,d4,decide_eq_true_eq,dA,show ¬ ((-1:Int) > 0) by decide,if_false];omega
    ·refine⟨_,[_],_,_,H1,rfl,I2.kept (t':=s1.toks) λb o e=>aF _ e,Kh _ i (i-j).toNat,?_,λb hb=>?_,q⟩
     ·show IsRangeIter _ _ (i+((0:Nat):Int) * (-1)) ((((i-j).toNat:Nat):Int)-((0:Nat):Int)) (-1)
      rw[show i+((0:Nat):Int) * (-1)=i by omega,show(((i-j).toNat:Nat):Int)-((0:Nat):Int)=Builtin.Range.rangeSize i j (-1) by rw[UV];omega];exact aW _ rfl
     ·rw[cP.mp hb]
      exact I2.fpOk (aK _) (I2.hok.fresh (aK _))
def Nh(hg:Gl X "range")(hm:X.mg "range"=none)(ha:PE X a (tE E f))(hb:PE X b (tE E f'))(hd:PE X d (tE E nr))(h0:starEach [a,b,d] X.env=(false,eval a X.env)::starEach [b,d] X.env:=by rfl)(h1:starEach [b,d] X.env=(false,eval b X.env)::starEach [d] X.env:=by rfl)(h2:starEach [d] X.env=(false,eval d X.env)::starEach [] X.env:=by rfl)(hs:starEach [a,b,d] X.env=[(false,eval a X.env),(false,eval b X.env),(false,eval d X.env)]:=by rfl) (jV:starEach [b,d] X.env=[(false,eval b X.env),(false,eval d X.env)]:=by rfl):PI X tg (.Call (.Name "range" p) [a,b,d] [] pos) (tI E λsl=>bnd (f sl) λx=>bnd (f' sl) λy=>bnd (nr sl) λz=>OW x y z):=(HD hg hm (XW ha (XW hb (XW hd VO h2) h1) h0) hs jV).weak λσ H Q ⟨F,β,om,sl,M,V,R⟩=>by
 refine⟨F,β,om,sl,M,V,R.bind λw om1 F1 H1 io g1 M1 R1 v rv=>?_⟩;refine⟨F1,io,om1,sl,M1,V.mono g1.toGr,R1.bind λy om2 F2 H2 ja g2 M2 R2 yv ry=>?_⟩;refine⟨F2,ja,om2,sl,M2,V.mono (g1.trans g2).toGr,R2.bind λz jt F3 H3 jA g3 M3 R3 zv rz=>?_⟩;cases rv with
 |int i=>
  cases ry with
  |int j=>
   cases rz with
   |int m=>
    obtain⟨hc,R4⟩:=Res.chk R3;obtain⟨q1,q2,q3,q4,rfl⟩:=bG hc;refine⟨i,j,rfl,⟨q1,q2,q3,q4⟩,?_⟩;have R4:Res E (ret ((List.range (i-j).toNat).map λ(k:Nat)=>Wv.int (i-k)) jt) F3 H3 jA λws F' H' iq=>∀J,KP J ws F' iq->Q J H':=R4
    refine R4.now M3 _ λF' iq H g s _=>⟨λk w e=>?_,λk hk=>(show(i-j).toNat<=k by simpa using hk)⟩
    have hk:k<(i-j).toNat:=by have:=(aH.mp e).1;simpa using this
    rw[bA,ca hk]at e;cases e;exact⟨hk,λx H' ⟨e1,e2⟩=>⟨e1,by rw[e2];exact .int _⟩⟩
   |_=>exact R3.elim
  |_=>exact R3.elim
 |_=>exact R3.elim
end
end
open PySem PySem.Spec PyProof.Rows
def GF(K:g9)(mg:g8)(x:Str)(st:Stmt)(ps:iE):Prop:=∃f fd,Fun K x x st f fd∧Binds K fd ps []∧mg x=some (.ref f)∧PySem.W.keepIn K (.ref f)=true
def MF(K:g9)(C:Addr)(x q:Str)(st:Stmt)(ps:iE):Prop:=∃f fd,Fun K x q st f fd∧Binds K fd ps []∧Meth K C x f
def NF(K:g9)(C:Addr)(q:Str)(st:Stmt)(ps:iE):Prop:=∃f fd,Fun K "__init__" q st f fd∧Binds K fd ps []∧Mk K C f
abbrev FnO(K:g9)(mg:g8)(k:Nat)(f:Addr)(fd:FuncData)(ps:iE)(n:Nat)(g:iJ->Mw Wv):Prop:=∀(P:Program) (w:World) (base:Heap),FnOk P w K mg base (CXw P w) k f fd ps (spM n g)
def GO(K:g9)(mg:g8)(k:Nat)(x:Str)(n:Nat)(g:iJ->Mw Wv):Prop:=∃f fd ps,mg x=some (.ref f)∧PySem.W.keepIn K (.ref f)=true∧Binds K fd ps []∧FnO K mg k f fd ps n g
def MO(K:g9)(mg:g8)(k:Nat)(C:Addr)(x:Str)(n:Nat)(g:iJ->Mw Wv):Prop:=∃f fd ps,Meth K C x f∧Binds K fd ps []∧FnO K mg k f fd ps n g
def NO(K:g9)(mg:g8)(k:Nat)(C:Addr)(n:Nat)(g:iJ->Mw Wv):Prop:=∃f fd ps,Mk K C f∧Binds K fd ps []∧FnO K mg k f fd ps n g
structure AtC(K:g9)(mg:g8)(C:Addr)(x:Str)(fs:iE):Prop where
 cl:Cls K C
 at_:mg x=some (.ref C)
 na:∀f∈fs,NoAttr K C f
structure ExF(K:g9)(mg:g8)(C:Addr)(x:Str):Prop where
 q:PySem.W.excIn K C [.type "ValueError",.type "Exception",.type "BaseException",.type "object"] "ValueError.__new__"=true
 at_:mg x=some (.ref C)
section
variable{K:g9}{mg:g8}{k:Nat}{S:FS}{st:Stmt}{x q:Str}{ps:iE}{C:Addr}{g:iJ->Mw Wv}{n:Nat}
abbrev Bd(K:g9)(mg:g8)(k:Nat)(q:Str)(st:Stmt)(N ps:iE)(S:FS):Prop:=∀{P:Program} {w:World} {base:Heap} {f:Addr} {jb:Value} {A:Around} {outer:List Env} {s:Shared} {H:Hp} {E:XK},Room k (A.deeper (envOfC q (Yx st) s.heap.objs.size f jb))->(A.deeper (envOfC q (Yx st) s.heap.objs.size f jb)).units+64<cLine->FnScope N ps (Yx st)->PSs (Ou (CXw P w) P w K mg base N q (Yx st) f jb A outer s H E) (UC st) (tS E S)
def Hg{N:iE}{f:Addr}{fd:FuncData}(F:Fun K x q st f fd)(Sc:FnScope N ps (Yx st))(h:Bd K mg k q st N ps S):FnO K mg (k+1) f fd ps ps.length (Ye N.length S):=λP w base=>fn_ok F Sc λ_ _ _ _ _ _ hr=>h hr hr.units Sc
def gOk(F:GF K mg x st ps)(N:iE)(h:Bd K mg k x st N ps S)(Sc:FnScope N ps (Yx st):=by exact⟨rfl,rfl,rfl,by decide +kernel,rfl,by decide +kernel,by decide +kernel⟩):GO K mg (k+1) x ps.length (Ye N.length S):=by
 obtain⟨f,fd,F,b,m,kp⟩:=F;exact⟨f,fd,ps,m,kp,b,Hg F Sc h⟩
def mOk(F:MF K C x q st ps)(N:iE)(h:Bd K mg k q st N ps S)(Sc:FnScope N ps (Yx st):=by exact⟨rfl,rfl,rfl,by decide +kernel,rfl,by decide +kernel,by decide +kernel⟩):MO K mg (k+1) C x ps.length (Ye N.length S):=by
 obtain⟨f,fd,F,b,m⟩:=F;exact⟨f,fd,ps,m,b,Hg F Sc h⟩
def nOk(F:NF K C q st ps)(N:iE)(h:Bd K mg k q st N ps S)(Sc:FnScope N ps (Yx st):=by exact⟨rfl,rfl,rfl,by decide +kernel,rfl,by decide +kernel,by decide +kernel⟩):NO K mg (k+1) C ps.length (Ye N.length S):=by
 obtain⟨f,fd,F,b,m⟩:=F;exact⟨f,fd,ps,m,b,Hg F Sc h⟩
def GO.tidy(G:GO K mg k x n g):GO K mg k x n (tidyG g):=by
 obtain⟨f,fd,ps,m,kp,b,F⟩:=G;exact⟨f,fd,ps,m,kp,b,λP w base=>FnOk.tidyG (F P w base)⟩
end
section
variable{X:Cx}{E:XK}{k n:Nat}{g:iJ->Mw Wv}{x m:Str}{p pos:Pos}{e o:Expr}{es:iF}{fs:FA}{fo:FE}{C:Addr}{fl:iE}
def Yd(G:GO X.K X.mg k x n g)(ha:PA X (e::es) (tA E fs))(hx:XN (CXw X.prog X.w) X E:=by first|exact Ic|exact Ih)(hr:Room k X.A:=by exact Room.mono ‹_› (by decide))(hg:Gl X x:=by rfl)(jo:(x == ("__debug__":Str))=false:=by decide) (he:starEach (e::es) X.env=(false,eval e X.env)::starEach es X.env:=by rfl) (iR:(backTo pos (starEach es X.env)).any (·.1)=false:=by rfl):PE X (.Call (.Name x p) (e::es) [] pos) (tE E (fA (kN n g) fs)):=by
 obtain⟨f,fd,ps,m,kp,b,F⟩:=G;exact BA (F _ _ _) hr hg m kp b hx ha jo he iR
def Z3{iw:Pos}{pl:Sem Bool}(A:AtC X.K X.mg C x fl)(G:MO X.K X.mg k C m n g)(ho:PE X o (tE E fo))(ha:PA X (e::es) (tA E fs))(hx:XN (CXw X.prog X.w) X E:=by first|exact Ic|exact Ih)(hr:Room k X.A:=by exact Room.mono ‹_› (by decide))(jv:starEach (e::es) X.env=(false,eval e X.env)::starEach es X.env:=by rfl) (iR:(backTo pos (starEach es X.env)).any (·.1)=false:=by rfl)(ht:eval (.Call (.Attribute o m iw) (e::es) [] pos) X.env=(do
     let ov ← eval o X.env
     standAt iw.atName
     let (f,first) ← holding [ov] (getMethod ov m pl)
     callWith pos f first (backTo pos (starEach (e::es) X.env)) (backToKw pos (keywordEach [] X.env))):=by rfl):
    PE X (.Call (.Attribute o m iw) (e::es) [] pos) (tE E (Zq C m n g fo fs)):=by
 obtain⟨f,fd,ps,m,b,F⟩:=G;exact CS ho A.cl m (F _ _ _) hr b hx ha jv iR ht
def XC{iw:Pos}{pl:Sem Bool}(A:AtC X.K X.mg C x fl)(G:MO X.K X.mg k C m n g)(ho:PE X o (tE E fo))(hx:XN (CXw X.prog X.w) X E:=by first|exact Ic|exact Ih)(hr:Room k X.A:=by exact Room.mono ‹_› (by decide))(ht:eval (.Call (.Attribute o m iw) [] [] pos) X.env=(do
     let ov ← eval o X.env
     standAt iw.atName
     let (f,first) ← holding [ov] (getMethod ov m pl)
     callWith pos f first (backTo pos (starEach [] X.env)) (backToKw pos (keywordEach [] X.env))):=by rfl):
    PE X (.Call (.Attribute o m iw) [] [] pos) (tE E (Zq C m n g fo Zj)):=by
 obtain⟨f,fd,ps,m,b,F⟩:=G;exact DF ho A.cl m (F _ _ _) hr b hx ht
def SH(A:AtC X.K X.mg C x fl)(G:NO X.K X.mg k C n g)(ha:PA X (e::es) (tA E fs))(hx:XN (CXw X.prog X.w) X E:=by first|exact Ic|exact Ih)(hr:Room (k+1) X.A:=by exact Room.mono ‹_› (by decide))(hg:Gl X x:=by rfl)(jo:(x == ("__debug__":Str))=false:=by decide) (he:starEach (e::es) X.env=(false,eval e X.env)::starEach es X.env:=by rfl) (iR:(backTo pos (starEach es X.env)).any (·.1)=false:=by rfl):PE X (.Call (.Name x p) (e::es) [] pos) (tE E (fA (Y2 C n g) fs)):=by
 obtain⟨f,fd,ps,m,b,F⟩:=G;exact BD m (F _ _ _) hr hg A.at_ b hx ha jo he iR
def YR{f:FE}{at_:Str}(A:AtC X.K X.mg C at_ fl)(he:PE X e (tE E f))(hf:x∈fl:=by decide)(hb:attributeBase e x X.env (eval e X.env)=eval e X.env:=by rfl):PE X (.Attribute e x pos) (tE E (f1 (ZR C x) f)):=qe_fld A.cl (A.na _ hf) he hb
def UQ{fv:FE}{v:Expr}{at_:Str}(A:AtC X.K X.mg C at_ fl)(hv:PE X v (tE E fv))(ho:PE X o (tE E fo))(hf:x∈fl:=by decide)(hs:swapsWith v (some (.Attribute o x p)) pos.line X.env=pure false:=by rfl):PS X (.Assign [.Attribute o x p] v pos) (tS E (Xr C x fv fo)):=qs_fld A.cl (A.na _ hf) hv ho hs
def Sk{iX iY:Expr}{rest:iF}{np ir p2:Pos}{mm:Sl->Mw Unit}(A:ExF X.K X.mg C x)(h:PJ X 2000 (iX::iY::rest) (tM E mm))(hE:NE X E:=by exact A0)(hg:Gl X x:=by rfl)(hc:X.calm=true:=by rfl)(hn:2000 * (iX::iY::rest).length<=16000000:=by decide)(hs:evalEach (iX::iY::rest) X.env=eval iX X.env::eval iY X.env::evalEach rest X.env:=by rfl)(he:starEach [.JoinedStr (iX::iY::rest) p2] X.env=(false,eval (.JoinedStr (iX::iY::rest) p2) X.env)::starEach [] X.env:=by rfl) (iR:(backTo ir (starEach [] X.env)).any (·.1)=false:=by rfl) (jo:(x == ("__debug__":Str))=false:=by decide):PS X (.Raise (some (.Call (.Name x np) [.JoinedStr (iX::iY::rest) p2] [] ir)) none pos) (tS E (Up C mm)):=EN PySem.F.excBase_ValueError A.q hg A.at_ hc hE h hn hs he iR jo
def YT(i:Nat){f:FE}{iV:Pos}(he:PE X e (tE E f))(hN:X.N.Nodup:=by exact FnScope.nd ‹_›)(hi:X.N[i]?=some x:=by rfl)(hx:Loc X.env.scope x:=by first|exact .inl rfl|exact .inr rfl)(hs:swapsWith e (some (.Name x iV)) pos.line X.env=pure false:=by rfl)(hf:X.fn x=true∨X.env.scope.names.lookup x=some .local:=by first|exact .inl rfl|exact .inr rfl):PS X (.Assign [.Name x iV] e pos) (tS E (ZD i f)):=qs_set hN hi hx he hs hf
def qpg(i:Nat){x:Str}(hN:X.N.Nodup:=by exact FnScope.nd ‹_›)(hi:X.N[i]?=some x:=by rfl)(hx:Loc X.env.scope x:=by first|exact .inl rfl|exact .inr rfl)(hf:X.fn x=true∨X.env.scope.names.lookup x=some .local:=by first|exact .inl rfl|exact .inr rfl):PG X (.Name x pos) (Ph i):=Wx hN hi hx hf
def Ys{f:FE}(he:PE X e (tE E f)):PSs X [.Return (some e) pos] (tS E (Z8 f)):=Zt (qs_ret he)
def Y1{c:FT}{S:FS}{t:Expr}{a:List Stmt}(hc:PT X t (tT E c))(ha:PSs X a (tS E S)):PS X (.If t a [] pos) (tS E (sIf c S Yo)):=KR hc ha Ct
def qfor{fi:FI}{T:TgW}{S:FS}{tg il:Expr}{g:TG}{body:List Stmt}(hi:PI X tg il (tI E fi))(hg:PG X tg g)(ht:Jd g T)(hb:PSs X body (tS E S))(hp:PassesOwn (model X.prog X.w) X.A X.env X.xe:=by exact fZ)(hc:X.calm=true:=by rfl)(hs:∀x,foldedSetIterable il X.env x=pure x:=by intro _;rfl):PS X (.For tg il body [] pos) (tS E (XQ fi T S)):=Dt hp hc hi hg ht hb hs
def WB(i:Nat){fi:FI}{S:FS}{il:Expr}{body:List Stmt}(hi:PI X (.Name x p) il (tI E fi))(hb:PSs X body (tS E S))(hN:X.N.Nodup:=by exact FnScope.nd ‹_›)(hj:X.N[i]?=some x:=by rfl)(hx:Loc X.env.scope x:=by first|exact .inl rfl|exact .inr rfl)(hf:X.fn x=true∨X.env.scope.names.lookup x=some .local:=by first|exact .inl rfl|exact .inr rfl)(hp:PassesOwn (model X.prog X.w) X.A X.env X.xe:=by exact fZ)(hc:X.calm=true:=by rfl)(hs:∀x,foldedSetIterable il X.env x=pure x:=by intro _;rfl):PS X (.For (.Name x p) il body [] pos) (tS E (XQ fi (tgN i) S)):=Dt hp hc hi (Wx hN hj hx hf) (Nc i) hb hs
def UZ{o i v:Expr}{p1:Pos}{fv fo fi:FE}(hv:PE X v (tE E fv))(ho:PE X o (tE E fo))(hi:PE X i (tE E fi)){w}(ha:∀v,assign (.Subscript o i p1) X.env v=(do
      let ov ← holding [v] (eval o X.env)
      let iv ← holding [v,ov] (eval i X.env)
      standAt p1
      holding [v,ov,iv] (setItem ov iv v)
      release [v,ov,iv] []):=by intro _;rfl)
    (hs:swapsWithSole [.Subscript o i p1] v pos.line X.env=pure false:=by rfl) (hw:swappedStores [.Subscript o i p1] v X.env=pure w:=by rfl)
    (h1:(assignEach [.Subscript o i p1] X.env).map (·.2)=[assign (.Subscript o i p1) X.env]:=by rfl) (mn:w=none:=by rfl):PS X (.Assign [.Subscript o i p1] v pos) (tS E (Xl fv fo fi)):=Bv hv ho hi (Dy ho hi L2.set_list ha) hs hw h1 mn
end
section
variable{X:Cx}{scope:Scope}{js:iD}
def cOk{x:Str}(cn:iE)(clos:closureFor scope X.env=pure (Xu scope.names X.env):=by with_unfolding_all rfl)(i8:∀y∈scope.names,y.2≠.cell:=by decide +kernel)(kind:scope.kind=.function:=by rfl)(names:∀y∈scope.names,y.2=.local->scope.names.lookup y.1=some .local:=by decide +kernel) (hx:scope.names.lookup x=some .local:=by rfl)(has:((relabel scope X.env).names.all λp=>!(WS (some p.2)) || (decide ((none:Option Str)=some p.1) || ((Xu scope.names X.env).lookup p.1).isSome))=true:=by with_unfolding_all rfl) (len:js.length=cn.length:=by rfl)(cap:((cn.zip js).all λp=>(X.N[p.2]? == some p.1)&&WS (X.env.scope.names.lookup p.1)&&WS ((relabel scope X.env).names.lookup p.1))=true:=by with_unfolding_all rfl)(nd:(x::cn).Nodup:=by decide +kernel):CompOk X none scope (Xu scope.names X.env) x cn js:=Hw clos i8 kind names hx has len cap nd
def cOkO{x:Str}(cn:iE)(clos:closureFor scope X.env=pure (Xu scope.names X.env):=by with_unfolding_all rfl)(cs:∀n,cellsFrom n scope.names (Xu scope.names X.env)=Vp (some x) n (Xu scope.names X.env):=by intro _;with_unfolding_all rfl)(pc:∀h,pushCells h scope.names=KB (some x) h:=by intro _;with_unfolding_all rfl)(kind:scope.kind=.function:=by rfl)(names:∀y∈scope.names,y.2=.local->scope.names.lookup y.1=some .local:=by decide +kernel) (hx:(relabel scope X.env).names.lookup x=some .cell:=by with_unfolding_all rfl)(has:((relabel scope X.env).names.all λp=>!(WS (some p.2)) || (decide (some x=some p.1) || ((Xu scope.names X.env).lookup p.1).isSome))=true:=by with_unfolding_all rfl) (len:js.length=cn.length:=by rfl)(cap:((cn.zip js).all λp=>(X.N[p.2]? == some p.1)&&WS (X.env.scope.names.lookup p.1)&&WS ((relabel scope X.env).names.lookup p.1))=true:=by with_unfolding_all rfl)(nd:(x::cn).Nodup:=by decide +kernel):CompOk X (some x) scope (Xu scope.names X.env) x cn js:=J2 clos cs pc kind names hx has len cap nd
def cOkT(xs cn:iE)(clos:closureFor scope X.env=pure (Xu scope.names X.env):=by with_unfolding_all rfl)(i8:∀y∈scope.names,y.2≠.cell:=by decide +kernel)(kind:scope.kind=.function:=by rfl)(names:∀y∈scope.names,y.2=.local->scope.names.lookup y.1=some .local:=by decide +kernel)(has:((relabel scope X.env).names.all λp=>!(WS (some p.2)) || (decide ((none:Option Str)=some p.1) || ((Xu scope.names X.env).lookup p.1).isSome))=true:=by with_unfolding_all rfl) (len:js.length=cn.length:=by rfl)(cap:((cn.zip js).all λp=>(X.N[p.2]? == some p.1)&&WS (X.env.scope.names.lookup p.1)&&WS ((relabel scope X.env).names.lookup p.1))=true:=by with_unfolding_all rfl)(nd:(xs++cn).Nodup:=by decide +kernel):CompOkT X none scope (Xu scope.names X.env) xs cn js:=QW clos i8 kind names has len cap nd
end
section
variable{X:Cx}{E:XK}{oc:Option Str}{scope:Scope}{cl:hX}{x:Str}{cn:iE}{js:iD}{i0 il:Expr}{iZ:iF}{px pos:Pos}{fi:FI}{k:iJ->Mw Wv}{c:FT}{f:FE}
def Vz(O:CompOk X oc scope cl x cn js)(hi:PI X (.Name x px) il (tI E fi))(ht:∀{C ib ig fp},Td (XA X oc scope cl x cn C ib ig fp) iZ (tT E0 c))(he:∀{C ib ig fp},PE (XA X oc scope cl x cn C ib ig fp) i0 (tE E0 f))(hk:WT E k:=by first|exact Yy|exact Ru)(hc:X.calm=true:=by rfl)(hs:∀v,foldedSetIterable il X.env v=pure v:=by intro _;rfl):PE X (.ListComp i0 [⟨.Name x px,il,iZ,0⟩] scope pos) (tE E (Z5 k js fi c f)):=D3 hk O hc hi (λ_ _ _ _=>ht) (λ_ _ _ _=>he) hs
def U1(j:Nat){y:Str}{py i9:Pos}(O:CompOk X oc scope cl x cn js)(hi:PI X (.Name x px) il (tI E fi))(ht:∀{C ib ig fp},Td (XA X oc scope cl x cn C ib ig fp) iZ (tT E0 c))(he:∀{C ib ig fp},PE (XA X oc scope cl x cn C ib ig fp) i0 (tE E0 f))(hk:WT E k:=by first|exact Yy|exact Ru)(hc:X.calm=true:=by rfl)(hN:X.N.Nodup:=by exact FnScope.nd ‹_›) (hj:X.N[j]?=some y:=by rfl) (hy:Loc X.env.scope y:=by first|exact .inl rfl|exact .inr rfl) (j0:swapsWith (.ListComp i0 [⟨.Name x px,il,iZ,0⟩] scope pos) (some (.Name y py)) i9.line X.env=pure true:=by with_unfolding_all rfl)(hs:∀v,foldedSetIterable il X.env v=pure v:=by intro _;rfl) (hf:X.fn y=true∨X.env.scope.names.lookup y=some .local:=by first|exact .inl rfl|exact .inr rfl):PS X (.Assign [.Name y py] (.ListComp i0 [⟨.Name x px,il,iZ,0⟩] scope pos) i9) (tS E (ZD j (Z5 k js fi c f))):=Jp hk O hc hi (λ_ _ _ _=>ht) (λ_ _ _ _=>he) hN hj hy j0 hs hf
end
end L2
namespace MP
noncomputable section
open PySem L2
def TX(c:CA):FE:=
 (f2 kNe (Za 1) (Za 0))
def Wq(c:CA):FE:=
 (Z5 ZL [0] (λsl=>bnd ((f2 kIx (Za 1) (fC (.int 0))) sl) Yw) Xh (TX c))
def VF(c:CA):FS:=
 (Xl (f2 Y9 (Za 6) (fC (.int 2))) (Za 3) (Za 6))
def VU(c:CA):FS:=
 (Xl (f2 Y9 (Za 6) (fC (.int 2))) (Za 3) (f2 Wz (fC (.int 3)) (Za 6)))
def ML(c:CA):FS:=
 (Zv (ZD 1 (fA (kN 1 (WO c)) (Zc (Za 0) Zj)))
  (Zv (sIf (fB (f2 kEq (f2 Y9 (fA (kN 2 (Zr c)) (Zc (Za 0) (Zc (fC (.int 24)) Zj))) (fC (.int 4))) (fC (.int 1)))) (ZD 1 (fA Y6 (Zc (fC (.int 7)) (Zc (fA Lz (Zc (f2 kIx (Za 1) (fC (.int 1))) (Zc (fC (.int 53)) Zj))) (Zc (fA Lm (Zc (f2 kIx (Za 1) (fC (.int 2))) (Zc (fC (.int 7)) Zj))) Zj))))) Yo)
  (Zv (ZD 2 (fA (kN 2 (Wu c)) (Zc (Za 0) (Zc (f2 kIx (Za 1) (fC (.int 0))) Zj))))
  (Zv (ZD 3 (fA (kN 2 (WY c)) (Zc (Za 0) (Zc (f2 kIx (Za 1) (fC (.int 0))) Zj))))
  (Zv (ZD 4 (f2 kEq (f2 Y9 (fA (kN 2 (Zr c)) (Zc (Za 0) (Zc (fC (.int 24)) Zj))) (fC (.int 4))) (fC (.int 1))))
  (Zv (ZD 5 (V7 (f2 kGt (f2 kIx (Za 1) (fC (.int 0))) (fC (.int 3))) (f2 kEq (f2 Y9 (fA (kN 2 (Zr c)) (Zc (Za 0) (Zc (fC (.int 24)) Zj))) (fC (.int 2))) (fC (.int 1)))))
  (Zv (sIf (Xj (Za 5)) (Zv (ZD 2 (Z5 ZL [1] (λsl=>bnd ((f2 kIx (Za 1) (fC (.int 0))) sl) Yw) Xh (Wq c)))
  (XQ (λsl=>bnd ((fC (.int 3)) sl) Yw) (tgN 6) (VF c))) Yo)
  (Zv (sIf (Xj (Za 4)) (Zv (XQ (λsl=>bnd ((fC (.int 3)) sl) Yw) (tgN 6) (VU c))
  (Xl (fC .non) (Za 3) (fC (.int 6)))) Yo)
  (Zv (ZD 7 (fA (kN 3 (Wc c)) (Zc (Za 0) (Zc (Za 2) (Zc (Za 3) Zj)))))
  (Zv (sIf (Xj (Za 5)) (Zv (Xl (fA Y6 (Zc (fC (.str "move")) (Zc (fC (.int 1)) Zj))) (Za 7) (fC (.int 0)))
  (Zv (Xl (fA Y6 (Zc (fC (.str "help")) (Zc (fC (.int 0)) (Zc (fC (.int 1)) Zj)))) (Za 7) (fC (.int 2)))
  (sIf (fB (f2 kGt (f2 Y9 (f2 Tx (fA (kN 2 (Zr c)) (Zc (Za 0) (Zc (fC (.int 24)) Zj))) (fC (.int 4))) (fC (.int 3))) (fC (.int 0)))) (Xl (fA Y6 (Zc (fC (.str "stand")) Zj)) (Za 7) (fC (.int 1))) Yo))) Yo)
  (Zv (sIf (Xj (Za 4)) (Zv (Xl (fA Y6 (Zc (fC (.str "move")) (Zc (fC (.int 4)) Zj))) (Za 7) (fC (.int 3)))
  (Zv (Xl (fA Y6 (Zc (fC (.str "stand")) Zj)) (Za 7) (fC (.int 4)))
  (Xl (fA Y6 (Zc (fC (.str "help")) (Zc (fC (.int 3)) (Zc (fC (.int 4)) Zj)))) (Za 7) (fC (.int 5))))) Yo)
  (Z8 (fA Y6 (Zc (Za 1) (Zc (Za 2) (Zc (Za 3) (Zc (Za 7) Zj)))))))))))))))))
def WM(c:CA):iJ->Mw Wv:=Ye 8 (ML c)
def TR(c:CA):FS:=
 (sIf (Xj (f2 kIx (f2 kIx (Za 1) (Za 7)) (Za 8))) (Z9 (Zq c.Map "link" 3 (Uv c) (Za 4) (Zc (f2 Xc (Za 5) (Za 8)) (Zc (f2 Xc (Za 5) (Za 7)) Zj)))) Yo)
def VS(c:CA):FS:=
 (XQ (λsl=>bnd ((Za 7) sl) Yw) (tgN 8) (TR c))
def VJ(c:CA):FS:=
 (sIf (fB (f1 Wh (f2 kIx (Za 2) (Za 9)))) (Z9 (Zq c.Board "post" 3 (X9 c) (Za 6) (Zc (f2 Xc (Za 5) (Za 9)) (Zc (f2 Xc (fC (.int 7)) (f2 kIx (Za 2) (Za 9))) Zj)))) Yo)
def VC(c:CA):FS:=
 (Zv (sIf (UG (fB (f1 Wh (f2 kIx (Za 3) (Za 9)))) (fB (f2 kEq (f2 kIx (f2 kIx (Za 3) (Za 9)) (fC (.int 0))) (fC (.str "move"))))) (Z9 (Zq c.Orders "move" 3 (Ws c) (Za 10) (Zc (f2 Xc (Za 5) (Za 9)) (Zc (f2 Xc (Za 5) (f2 kIx (f2 kIx (Za 3) (Za 9)) (fC (.int 1)))) Zj)))) Yo)
  (sIf (UG (fB (f1 Wh (f2 kIx (Za 3) (Za 9)))) (fB (f2 kEq (f2 kIx (f2 kIx (Za 3) (Za 9)) (fC (.int 0))) (fC (.str "help"))))) (Z9 (Zq c.Orders "aid" 4 (WR c) (Za 10) (Zc (f2 Xc (Za 5) (Za 9)) (Zc (f2 Xc (Za 5) (f2 kIx (f2 kIx (Za 3) (Za 9)) (fC (.int 1)))) (Zc (f2 Xc (Za 5) (f2 kIx (f2 kIx (Za 3) (Za 9)) (fC (.int 2)))) Zj))))) Yo))
def M8(c:CA):FS:=
 (Zv (ZD 4 (fA (Y2 c.Map 2 (X0 c)) (Zc (f2 kIx (Za 0) (fC (.int 2))) Zj)))
  (Zv (ZD 5 (f2 Xc (f2 Xc (f2 kIx (Za 0) (fC (.int 2))) (fC (.int 1))) (f2 kIx (Za 0) (fC (.int 1)))))
  (Zv (ZD 6 (fA (Y2 c.Board 2 (YO c)) (Zc (Za 4) Zj)))
  (Zv (XQ (λsl=>bnd ((f2 kIx (Za 0) (fC (.int 0))) sl) Yw) (tgN 7) (VS c))
  (Zv (XQ (λsl=>bnd ((f2 Xc (f2 kIx (Za 0) (fC (.int 0))) (fC (.int 1))) sl) λx=>bnd ((f1 QH (fC (.int 1))) sl) λy=>bnd ((f1 QH (fC (.int 1))) sl) λz=>OW x y z) (tgN 9) (VJ c))
  (Zv (ZD 10 (fA (Y2 c.Orders 2 (Y3 c)) (Zc (Za 6) Zj)))
  (Zv (XQ (λsl=>bnd ((f2 Xc (f2 kIx (Za 0) (fC (.int 0))) (fC (.int 1))) sl) λx=>bnd ((f1 QH (fC (.int 1))) sl) λy=>bnd ((f1 QH (fC (.int 1))) sl) λz=>OW x y z) (tgN 9) (VC c))
  (Z8 (Za 10)))))))))
def Wb(c:CA):iJ->Mw Wv:=Ye 11 (M8 c)
def Vc(c:CA):FT:=
 (fB (f2 (W9 false) (Za 0) (Za 2)))
def Ve(c:CA):FE:=
 (fA Y6 (Zc (f2 Wi (Za 2) (Za 0)) (Zc (Za 1) Zj)))
def W7(c:CA):FT:=
 (UG (fB (f2 (W9 true) (Za 0) (Za 2))) (fB (f2 (W9 true) (Za 0) (Za 3))))
def Vk(c:CA):FE:=
 (fA Y6 (Zc (Za 0) (Zc (Za 1) Zj)))
def Ov(c:CA):FS:=
 (Zv (ZD 3 (Vm ZL 2 [1] (λsl=>bnd ((Zq c.Board "roll" 1 (ZU c) (Za 0) Zj) sl) ZN) (Vc c) (Ve c)))
  (Zv (ZD 4 (Vm ZL 2 [1,2] (λsl=>bnd ((Zq c.Board "roll" 1 (ZU c) (Za 0) Zj) sl) ZN) (W7 c) (Vk c)))
  (Z8 (f2 kCat (Za 3) (Za 4)))))
def Wp(c:CA):iJ->Mw Wv:=Ye 5 (Ov c)
def UD(c:CA):FS:=
 (Z9 (Zq c.Board "post" 3 (X9 c) (Za 2) (Zc (Za 3) (Zc (Za 4) Zj))))
def Ps(c:CA):FS:=
 (Zv (ZD 2 (fA (Y2 c.Board 2 (YO c)) (Zc (Za 0) Zj)))
  (Zv (XQ (λsl=>bnd ((Za 1) sl) ZN) (FV [3,4]) (UD c))
  (Z8 (Za 2))))
def XB(c:CA):iJ->Mw Wv:=Ye 5 (Ps c)
def SV(c:CA):FS:=
 (Zv (YW (Zq c.Orders "goal_of" 2 (Zn c) (Za 1) (Zc (Za 2) Zj)) (f1 (ZR c.Turn "goals") (Za 0)) (Za 2))
  (YW (Za 2) (f1 (ZR c.Turn "comers") (Za 0)) (Zq c.Orders "goal_of" 2 (Zn c) (Za 1) (Zc (Za 2) Zj))))
def SY(c:CA):FS:=
 (sIf (UG (fB (f2 (W9 false) (Za 2) (f1 (ZR c.Turn "comers") (Za 0)))) (fB (f2 (W9 true) (Za 2) (f1 (ZR c.Turn "goals") (Za 0))))) (YW (Za 3) (f1 (ZR c.Turn "pushed") (Za 0)) (Za 2)) Yo)
def SR(c:CA):FE:=
 (Zq c.Orders "goal_of" 2 (Zn c) (Za 1) (Zc (Za 0) Zj))
def LF(c:CA):FS:=
 (Zv (Xr c.Turn "goals" (λ_=>newO (.dk [])) (Za 0))
  (Zv (Xr c.Turn "comers" (λ_=>newO (.dk [])) (Za 0))
  (Zv (XQ (λsl=>bnd ((fA (kN 1 (XF c)) (Zc (Za 1) Zj)) sl) ZN) (tgN 2) (SV c))
  (Zv (Xr c.Turn "pushed" (λ_=>newO (.dk [])) (Za 0))
  (Zv (XQ (λsl=>bnd ((Zq c.Board "roll" 1 (ZU c) (f1 (ZR c.Orders "board") (Za 1)) Zj) sl) ZN) (FV [2,3]) (SY c))
  (Zv (ZD 4 (Z5 ZL [1] (λsl=>bnd ((Zq c.Orders "movers" 1 (ZS c) (Za 1) Zj) sl) ZN) Xh (SR c)))
  (Zv (Xr c.Turn "closed" (UW ZL (Za 4) (f1 (ZR c.Turn "comers") (Za 0))) (Za 0))
  (Xr c.Turn "board" (fA (kN 2 (XB c)) (Zc (f1 (ZR c.Board "chart") (f1 (ZR c.Orders "board") (Za 1))) (Zc (fA (kN 3 (Wp c)) (Zc (f1 (ZR c.Orders "board") (Za 1)) (Zc (f1 (ZR c.Turn "goals") (Za 0)) (Zc (f1 (ZR c.Turn "comers") (Za 0)) Zj)))) Zj))) (Za 0)))))))))
def Xv(c:CA):iJ->Mw Wv:=Ye 5 (LF c)
def Kv(c:CA):FS:=
 (Z8 (SN ZL (f1 (ZR c.Turn "goals") (Za 0))))
def Xx(c:CA):iJ->Mw Wv:=Ye 1 (Kv c)
def OD(c:CA):FE:=
 (fA Y6 (Zc (Za 0) (Zc (f2 Wi (f1 (ZR c.Turn "pushed") (Za 1)) (Za 0)) (Zc (f2 Wi (f1 (ZR c.Turn "comers") (Za 1)) (Za 0)) Zj))))
def Mu(c:CA):FS:=
 (Z8 (Z5 ZL [0] (λsl=>bnd ((fA (WZ ZL) (Zc (f1 (ZR c.Turn "pushed") (Za 0)) Zj)) sl) ZN) Xh (OD c)))
def YY(c:CA):iJ->Mw Wv:=Ye 1 (Mu c)
def KM(c:CA):FS:=
 (Z8 (fA kList (Zc (f1 (ZR c.Turn "closed") (Za 0)) Zj)))
def X4(c:CA):iJ->Mw Wv:=Ye 1 (KM c)
def JJ(c:CA):FE:=
 (f2 Xc (Za 1) (Za 0))
def JA(c:CA):FE:=
 (fA Y6 (Zc (f2 Xc (Za 1) (f2 kIx (Za 0) (fC (.int 0)))) (Zc (f2 Xc (Za 1) (f2 kIx (Za 0) (fC (.int 1)))) Zj)))
def JK(c:CA):FE:=
 (fA Y6 (Zc (f2 Xc (Za 1) (f2 kIx (Za 0) (fC (.int 0)))) (Zc (f2 Xc (fC (.int 7)) (f2 kIx (Za 0) (fC (.int 1)))) (Zc (f2 Xc (Za 1) (f2 kIx (Za 0) (fC (.int 2)))) Zj))))
def JC(c:CA):FE:=
 (f2 Xc (Za 1) (Za 0))
def Jz(c:CA):FE:=
 (fA Y6 (Zc (f2 Xc (Za 1) (f2 kIx (Za 0) (fC (.int 0)))) (Zc (f2 Xc (fC (.int 7)) (f2 kIx (Za 0) (fC (.int 1)))) Zj)))
def S_law(c:CA):FS:=
 (Zv (ZD 1 (fA (kN 1 (WM c)) (Zc (Za 0) Zj)))
  (Zv (ZD 2 (f2 Xc (f2 kIx (f2 kIx (Za 1) (fC (.int 0))) (fC (.int 2))) (fC (.int 1))))
  (Zv (ZD 3 (fA (kN 4 (X8 c)) (Zc (f2 kIx (Za 1) (fC (.int 0))) (Zc (f2 kIx (Za 1) (fC (.int 1))) (Zc (f2 kIx (Za 1) (fC (.int 2))) (Zc (f2 kIx (Za 1) (fC (.int 3))) Zj))))))
  (Zv (ZD 4 (fA (kN 4 (Wb c)) (Zc (f2 kIx (Za 1) (fC (.int 0))) (Zc (f2 kIx (Za 1) (fC (.int 1))) (Zc (f2 kIx (Za 1) (fC (.int 2))) (Zc (f2 kIx (Za 1) (fC (.int 3))) Zj))))))
  (Zv (sIf (fB (f2 kNe (fA (Xg ZL) (Zc (Z5 ZL [2] (λsl=>bnd ((fA (kN 1 (XF c)) (Zc (Za 4) Zj)) sl) ZN) Xh (JJ c)) Zj)) (fA (kN 1 (XF c)) (Zc (Za 3) Zj)))) (Z8 (fC (.bl false))) Yo)
  (Zv (ZD 5 (fA (Y2 c.Turn 2 (Xv c)) (Zc (Za 3) Zj)))
  (Zv (ZD 6 (fA (Y2 c.Turn 2 (Xv c)) (Zc (Za 4) Zj)))
  (Zv (sIf (fB (f2 kNe (fA (YL ZL) (Zc (Z5 ZL [2] (λsl=>bnd ((Zq c.Turn "done" 1 (Xx c) (Za 6) Zj) sl) ZN) Xh (JA c)) Zj)) (Zq c.Turn "done" 1 (Xx c) (Za 5) Zj))) (Z8 (fC (.bl false))) Yo)
  (Zv (sIf (fB (f2 kNe (fA (YL ZL) (Zc (Z5 ZL [2] (λsl=>bnd ((Zq c.Turn "aside" 1 (YY c) (Za 6) Zj) sl) ZN) Xh (JK c)) Zj)) (Zq c.Turn "aside" 1 (YY c) (Za 5) Zj))) (Z8 (fC (.bl false))) Yo)
  (Zv (sIf (fB (f2 kNe (fA (Xg ZL) (Zc (Z5 ZL [2] (λsl=>bnd ((Zq c.Turn "shut" 1 (X4 c) (Za 6) Zj) sl) ZN) Xh (JC c)) Zj)) (Zq c.Turn "shut" 1 (X4 c) (Za 5) Zj))) (Z8 (fC (.bl false))) Yo)
  (Z8 (f2 kEq (fA (YL ZL) (Zc (Z5 ZL [2] (λsl=>bnd ((Zq c.Board "roll" 1 (ZU c) (f1 (ZR c.Turn "board") (Za 6)) Zj) sl) ZN) Xh (Jz c)) Zj)) (Zq c.Board "roll" 1 (ZU c) (f1 (ZR c.Turn "board") (Za 5)) Zj)))))))))))))
def BE(c:CA):iJ->Mw Wv:=Ye 7 (S_law c)
end
open PySem L2
def NN{om:iN}{h k:Nat}{ws:iJ}{w:Wv}{sl:Sl}{fv fo fi:FE}(hv:fv sl om=some (.ok w,om))(ho:fo sl om=some (.ok (.o h),om))(hi:fi sl om=some (.ok (.int (k:Nat)),om))(hx:om[h]?=some (.lst ws))(hk:k<ws.length):Xl fv fo fi sl om=some (.ok (.nx,sl),om.set h (.lst (ws.set k w))):=by
 unfold Xl;rw[Zm hv,Zm ho,Zm hi];refine(Zm (a:=()) (om1:=om.set h (.lst (ws.set k w))) ?_).trans rfl
 have l2:ixN ws.length (k:Int)=some k:=by
  unfold ixN;rw[aC (by omega),aC (by omega),cj]
 unfold Hj;simp only[W5,hx];rw[l2]
def U0(n:Nat):Mx:=(List.range n).map λi=>(List.range n).map λj=>!decide (i=j)
def QK(n i j:Nat):Xa (U0 n) i j=(decide (i<n)&&(decide (j<n)&&!decide (i=j))):=by
 have row:(U0 n).getD i []=if i<n then (List.range n).map (λj=>!decide (i=j)) else []:=by
  unfold U0;rw[aM,bA];by_cases h:i<n
  ·rw[ca h,aC h];rfl
  ·rw[bK (by rw[bP];omega),aE h];rfl
 unfold Xa;rw[row];by_cases h:i<n
 ·rw[aC h,aM,bA]
  by_cases h2:j<n
  ·rw[ca h2]
   simp[h,h2]
  ·rw[bK (by rw[bP];omega)]
   simp[h2]
 ·rw[aE h]
  simp[h]
def CK(n:Nat):Lk n (U0 n):=by
 refine⟨by simp[U0],λa ha=>?_,λa b=>?_,λa=>?_⟩
 ·unfold U0
  rw[aM,bA,ca ha];simp
 ·rw[QK,QK]
  have:decide (a=b)=decide (b=a):=dR.mpr eq_comm;rw[this];cases decide (a<n) <;> cases decide (b<n) <;> rfl
 ·rw[QK];simp
def Tf{n i j:Nat}(hi:i<n)(hj:j<n)(h:i≠j):Xa (U0 n) i j=true:=by rw[QK];simp[hi,hj,h]
def Tc{α:Type}(l:List (Option α)){k:Nat}(hk:k<l.length)(x:Option α)(j:Nat):at' (l.set k x) j=if j=k then x else at' l j:=by
 unfold at';rw[aM,aM];by_cases h:j=k
 ·subst h;rw[aC rfl,bV hk];rfl
 ·rw[aE h,bN λz=>h z.symm]
def Givn.put{rows:Mx}{f:hY}{told:iO}(G:Givn rows f told){k:Nat}(hk:k<f.length){o:Od}(h:GD rows f k (some o)):Givn rows f (told.set k (some o)):=by
 refine⟨G.lk,by rw[de];exact G.len,G.few,λj hj=>?_⟩;rw[Tc _ (by rw[G.len];exact hk)];by_cases e:j=k
 ·subst e;rw[aC rfl];exact h
 ·rw[aE e];exact G.ok j hj
def pF(f:hY):hY:=((f.set 0 (some 0)).set 1 (some 1)).set 2 (some 0)
def tF(f:hY):hY:=(((f.set 3 (some 0)).set 4 (some 1)).set 5 (some 0)).set 6 none
def pT(b:Bool)(t:iO):iO:=bif b then ((t.set 0 (some (.move 1))).set 2 (some (.help 0 1))).set 1 (some .stand) else (t.set 0 (some (.move 1))).set 2 (some (.help 0 1))
def tT(t:iO):iO:=((t.set 3 (some (.move 4))).set 4 (some .stand)).set 5 (some (.help 3 4))
def pF_at{f:hY}(h:3<f.length)(j:Nat):at' (pF f) j=if j=2 then some 0 else if j=1 then some 1 else if j=0 then some 0 else at' f j:=by
 unfold pF;rw[Tc _ (by simp;omega),Tc _ (by simp;omega),Tc _ (by omega)]
def tF_at{f:hY}(h:6<f.length)(j:Nat):at' (tF f) j=if j=6 then none else if j=5 then some 0 else if j=4 then some 1 else if j=3 then some 0 else at' f j:=by
 unfold tF;rw[Tc _ (by simp;omega),Tc _ (by simp;omega),Tc _ (by simp;omega),Tc _ (by omega)]
def pT_ok{n:Nat}{f:hY}{t:iO}(G:Givn (U0 n) f t)(hf:f.length=n)(h3:3<n)(a:∀j,j<3->(at' f j).isSome=true)(b:Bool):Givn (U0 n) f (pT b t):=by
 have g1:=G.put (k:=0) (o:=.move 1) (by omega) ⟨a 0 (by omega),by omega,Tf (by omega) (by omega) (by omega)⟩;have g2:=g1.put (k:=2) (o:=.help 0 1) (by omega) ⟨a 2 (by omega),by omega,by omega,by omega,a 0 (by omega),Tf (by omega) (by omega) (by omega),.inr (Tf (by omega) (by omega) (by omega))⟩;cases b with
 |false=>exact g2
 |true=>exact g2.put (k:=1) (o:=.stand) (by omega) (a 1 (by omega))
def tT_ok{n:Nat}{f:hY}{t:iO}(G:Givn (U0 n) f t)(hf:f.length=n)(h6:6<n)(a:∀j,3<=j->j<6->(at' f j).isSome=true):Givn (U0 n) f (tT t):=by
 have g1:=G.put (k:=3) (o:=.move 4) (by omega) ⟨a 3 (by omega) (by omega),by omega,Tf (by omega) (by omega) (by omega)⟩;have g2:=g1.put (k:=4) (o:=.stand) (by omega) (a 4 (by omega) (by omega));exact g2.put (k:=5) (o:=.help 3 4) (by omega) ⟨a 5 (by omega) (by omega),by omega,by omega,by omega,a 3 (by omega) (by omega),Tf (by omega) (by omega) (by omega),.inr (Tf (by omega) (by omega) (by omega))⟩
abbrev slW(ns:iC)(x1 x2 x3 x4 x5 x6 x7:Option Wv):Sl:=[some (Ym ns),x1,x2,x3,x4,x5,x6,x7]
def SZ(o:Nat)(f:hY)(m:Nat):hY:=(List.range m).foldl (λf k=>f.set (o+k) (some ((k % 2:Nat):Int))) f
def GZ(o:Nat)(f:hY)(m:Nat):SZ o f (m+1)=(SZ o f m).set (o+m) (some ((m % 2:Nat):Int)):=by
 unfold SZ;rw[dc,dw];rfl
def PL(o:Nat)(f:hY):∀m,(SZ o f m).length=f.length
 |0=>rfl
 |m+1=>by rw[GZ,de,PL o f m]
section
variable(c:CA){ns:iC}{ia off size:Nat}
def AV{sl:Sl}{om:iN}(h:sl[0]?=some (some (Ym ns))):fA (kN 2 (Zr c)) (Zc (Za 0) (Zc (fC (.int 24)) Zj)) sl om=some (.ok (.int (ns.getD 24 0)),om):=PQ c (om:=om) (ns:=ns) (k:=24) (i:=0) (fe:=fC (.int 24)) h Zp
def Fj{o:Nat}{B:FS}{f:hY}{sl:Sl}(h6:6<sl.length)(ho:o+3<=f.length)(hB:∀(m:Nat) (om:iN) (ws:iJ),om=[.lst ws]->o+m<ws.length->B (sl.set 6 (some (.int (m:Nat)))) om=some (.ok (.nx,sl.set 6 (some (.int (m:Nat)))),[.lst (ws.set (o+m) (.int ((m % 2:Nat):Int)))]))(x:Option Wv):∃y,XQ (λsl=>bnd ((fC (.int 3)) sl) Yw) (tgN 6) B (sl.set 6 x) [.lst (f.map ZA)]=some (.ok (.nx,sl.set 6 y),[.lst ((SZ o f 3).map ZA)]):=by
 have iQ:=ZQ
 obtain⟨iS,ij,hf,y,rfl,rfl⟩:=XR (T:=tgN 6) (S:=B) (n:=3) (λm iS ij=>∃y,iS=sl.set 6 y∧ij=[.lst ((SZ o f m).map ZA)]) (sl:=sl.set 6 x) (om:=[.lst (f.map ZA)]) (λm hm iS ij ⟨y,h1,h2⟩=>by
  subst h1 h2;have e:=hB m [.lst ((SZ o f m).map ZA)] ((SZ o f m).map ZA) rfl (by rw[aA,PL];omega);have e2:((SZ o f m).map ZA).set (o+m) (.int ((m % 2:Nat):Int))=(SZ o f (m+1)).map ZA:=by rw[GZ,fT];rfl
  rw[e2]at e;exact⟨_,.nx,_,_,by show some ((sl.set 6 y).set 6 _)=_;rw[eS],e,.inl rfl,_,rfl,rfl⟩) ⟨x,rfl,rfl⟩
 exact⟨y,YV (sl1:=[]) ((Zm Zp).trans (X5 3 _ (by omega))) hf⟩
def Bf{rows:Mx}{f:hY}{b4 b5:Bool}(h5:b5=true->3<ia)(h7:ia<=7)(L:Lk ia rows)(hf:f.length=ia)(hs:∀k s,at' f k=some s->0<=s∧s<=7):∃ka f' x6,Lk ia ka∧f'.length=ia∧(∀k s,at' f' k=some s->0<=s∧s<=7)∧(b5=true->ka=U0 ia∧∀j,j<3->(at' f' j).isSome=true) ∧ sIf (Xj (Za 5)) (Zv (ZD 2 (Z5 ZL [1] (λsl=>bnd ((f2 kIx (Za 1) (fC (.int 0))) sl) Yw) Xh (Wq c))) (XQ (λsl=>bnd ((fC (.int 3)) sl) Yw) (tgN 6) (VF c))) Yo (slW ns (some (Zo ia off size)) (some (.lst (rows.map ZJ))) (some (.o 0)) (some (.bl b4)) (some (.bl b5)) none none) [.lst (f.map ZA)]=some (.ok (.nx,slW ns (some (Zo ia off size)) (some (.lst (ka.map ZJ))) (some (.o 0)) (some (.bl b4)) (some (.bl b5)) x6 none),[.lst (f'.map ZA)]):=by
 have iQ:=ZQ;have tr:Xj (Za 5) (slW ns (some (Zo ia off size)) (some (.lst (rows.map ZJ))) (some (.o 0)) (some (.bl b4)) (some (.bl b5)) none none) [.lst (f.map ZA)]=some (.ok b5,[.lst (f.map ZA)]):=XE (Zb rfl);cases b5 with
 |false=>exact⟨rows,f,none,L,hf,hs,(λz=>(nomatch z)),ZK tr⟩
 |true=>
  have h3:=h5 rfl;have rg:∀(sl:Sl) (om:iN),sl[1]?=some (some (Zo ia off size))->(λsl=>bnd ((f2 kIx (Za 1) (fC (.int 0))) sl) Yw) sl om=some (.ok (W4 ia),om):=λsl om h=>(Zm ((Zs (Zb h) Zp).trans (ZI (k:=0) (v:=.int ia) rfl rfl))).trans (X5 _ _ (by omega))
  have a1:ZD 2 (Z5 ZL [1] (λsl=>bnd ((f2 kIx (Za 1) (fC (.int 0))) sl) Yw) Xh (Wq c)) (slW ns (some (Zo ia off size)) (some (.lst (rows.map ZJ))) (some (.o 0)) (some (.bl b4)) (some (.bl true)) none none) [.lst (f.map ZA)]=some (.ok (.nx,slW ns (some (Zo ia off size)) (some (.lst ((U0 ia).map ZJ))) (some (.o 0)) (some (.bl b4)) (some (.bl true)) none none),[.lst (f.map ZA)]):=by
   generalize [Ob.lst (f.map ZA)]=om
   have cr:=Ta (cT:=Xh) (f:=Wq c) (mk:=λw=>Xd [1] w (slW ns (some (Zo ia off size)) (some (.lst (rows.map ZJ))) (some (.o 0)) (some (.bl b4)) (some (.bl true)) none none)) (om:=om) (n:=ia) (λ_=>true) (λa=>ZJ ((List.range ia).map λj=>!decide (a=j))) (λ_ _=>rfl) (λa ha _=>by
    have ci:=Ta (cT:=Xh) (f:=TX c) (mk:=λw=>Xd [0] w (Xd [1] (.int (a:Nat)) (slW ns (some (Zo ia off size)) (some (.lst (rows.map ZJ))) (some (.o 0)) (some (.bl b4)) (some (.bl true)) none none))) (om:=om) (n:=ia) (λ_=>true) (λb=>Wv.bl (!decide (a=b))) (λ_ _=>rfl) (λb hb _=>(v2 rfl rfl).trans (Fg _ _ _));refine(Wj (ws:=W4 ia) (om1:=om) (rg _ _ rfl) (by rw[W6];omega) ci).trans ?_;rw[cb.mpr (λ_ _=>rfl)];refine(YB (by rw[aA,bP];omega)).trans ?_;show _=some (Except.ok (Wv.lst (((List.range ia).map λj=>!decide (a=j)).map Wv.bl)),om);rw[aS];rfl)
   refine Zw (i:=2) ((Wj (ws:=W4 ia) (om1:=om) (rg _ _ rfl) (by rw[W6];omega) cr).trans ?_);rw[cb.mpr (λ_ _=>rfl)];refine(YB (by rw[aA,bP];omega)).trans ?_;unfold U0;rw[aS];rfl
  obtain⟨y,a2⟩:=Fj (o:=0) (B:=VF c) (f:=f) (sl:=slW ns (some (Zo ia off size)) (some (.lst ((U0 ia).map ZJ))) (some (.o 0)) (some (.bl b4)) (some (.bl true)) none none) (by simp) (by omega) (λm om ws h hl=>by
   subst h;rw[en]at hl ⊢;exact NN (om:=[.lst ws]) (h:=0) (ws:=ws) (WD (q:=2) (a:=(m:Int)) (Zb rfl) (by decide)) (Zb rfl) (Zb rfl) rfl hl) none
  have at3:=pF_at (f:=f) (by omega);refine⟨U0 ia,pF f,y,CK ia,by simp[pF,hf],λk s h=>?_,λ_=>⟨rfl,λj hj=>?_⟩,(Yn tr).trans ((Zh a1).trans a2)⟩
  ·rw[at3]at h
   split at h
   ·cases h;omega
   ·split at h
    ·cases h;omega
    ·split at h
     ·cases h;omega
     ·exact hs k s h
  ·rw[at3]
   split
   ·rfl
   ·split
    ·rfl
    ·rw[aC (by omega)];rfl
def Fy{rows:Mx}{f:hY}{b4 b5:Bool}{x6:Option Wv}(h4:b4=true->ia=7)(hf:f.length=ia)(hs:∀k s,at' f k=some s->0<=s∧s<=7)(h3:b5=true->∀j,j<3->(at' f j).isSome=true):∃f' oG,f'.length=ia∧(∀k s,at' f' k=some s->0<=s∧s<=7)∧(b5=true->∀j,j<3->(at' f' j).isSome=true)∧(b4=true->∀j,3<=j->j<6->(at' f' j).isSome=true) ∧ sIf (Xj (Za 4)) (Zv (XQ (λsl=>bnd ((fC (.int 3)) sl) Yw) (tgN 6) (VU c)) (Xl (fC .non) (Za 3) (fC (.int 6)))) Yo (slW ns (some (Zo ia off size)) (some (.lst (rows.map ZJ))) (some (.o 0)) (some (.bl b4)) (some (.bl b5)) x6 none) [.lst (f.map ZA)]=some (.ok (.nx,slW ns (some (Zo ia off size)) (some (.lst (rows.map ZJ))) (some (.o 0)) (some (.bl b4)) (some (.bl b5)) oG none),[.lst (f'.map ZA)]):=by
 have tr:Xj (Za 4) (slW ns (some (Zo ia off size)) (some (.lst (rows.map ZJ))) (some (.o 0)) (some (.bl b4)) (some (.bl b5)) x6 none) [.lst (f.map ZA)]=some (.ok b4,[.lst (f.map ZA)]):=XE (Zb rfl);cases b4 with
 |false=>exact⟨f,x6,hf,hs,h3,(λz=>(nomatch z)),ZK tr⟩
 |true=>
  have h7:=h4 rfl
  obtain⟨y,a2⟩:=Fj (o:=3) (B:=VU c) (f:=f) (sl:=slW ns (some (Zo ia off size)) (some (.lst (rows.map ZJ))) (some (.o 0)) (some (.bl true)) (some (.bl b5)) none none) (by simp) (by omega) (λm om ws h hl=>by
   subst h;exact NN (om:=[.lst ws]) (h:=0) (ws:=ws) (WD (q:=2) (a:=(m:Int)) (Zb rfl) (by decide)) (Zb rfl) ((NX (q:=3) (Zb rfl)).trans (by rw[show(3:Int)+(m:Int)=((3+m:Nat):Int) by omega])) rfl hl) x6
  have a3:=NN (sl:=slW ns (some (Zo ia off size)) (some (.lst (rows.map ZJ))) (some (.o 0)) (some (.bl true)) (some (.bl b5)) y none) (om:=[.lst ((SZ 3 f 3).map ZA)]) (h:=0) (k:=6) (ws:=(SZ 3 f 3).map ZA) (w:=.non) (fv:=fC .non) (fo:=Za 3) (fi:=fC (.int 6)) Zp (Zb rfl) Zp rfl (by rw[aA,PL];omega)
  have e:((SZ 3 f 3).map ZA).set 6 .non=(tF f).map ZA:=by
   show _=(((SZ 3 f 3)).set 6 none).map ZA;rw[fT];rfl
  rw[e]at a3;have at6:=tF_at (f:=f) (by omega);refine⟨tF f,y,by simp[tF,hf],λk s h=>?_,λhb j hj=>?_,λ_ j pf h6=>?_,(Yn tr).trans ((Zh a2).trans a3)⟩
  ·rw[at6]at h
   split at h
   ·cases h
   ·split at h
    ·cases h;omega
    ·split at h
     ·cases h;omega
     ·split at h
      ·cases h;omega
      ·exact hs k s h
  ·rw[at6,aE (by omega),aE (by omega),aE (by omega),aE (by omega)]
   exact h3 hb j hj
  ·rw[at6,aE (by omega)]
   split
   ·rfl
   ·split
    ·rfl
    ·rw[aC (by omega)];rfl
end
def puT{sl:Sl}{fv:FE}{t:iO}{k:Nat}{o:Option Od}{s:iJ}(hv:fv sl [.lst s,.lst (t.map odW)]=some (.ok (odW o),[.lst s,.lst (t.map odW)]))(h7:sl[7]?=some (some (.o 1)))(hk:k<t.length):Xl fv (Za 7) (fC (.int (k:Nat))) sl [.lst s,.lst (t.map odW)]=some (.ok (.nx,sl),[.lst s,.lst ((t.set k o).map odW)]):=by
 have:=NN (om:=[.lst s,.lst (t.map odW)]) (h:=1) (k:=k) (ws:=t.map odW) (fo:=Za 7) (fi:=fC (.int (k:Nat))) hv (Zb h7) Zp rfl (by rw[aA];exact hk);rw[this,fT];rfl
section
variable(c:CA){ns:iC}{ia off size:Nat}
def Ay{sl:Sl}{om:iN}(g:Nat):fA Y6 (Zc (fC (.str "move")) (Zc (fC (.int (g:Nat))) Zj)) sl om=some (.ok (odW (some (.move g))),om):=(ZB (Ze Zp (Ze Zp Zi))).trans (Y5 (by simp))
def BQ{sl:Sl}{om:iN}(h g:Nat):fA Y6 (Zc (fC (.str "help")) (Zc (fC (.int (h:Nat))) (Zc (fC (.int (g:Nat))) Zj))) sl om=some (.ok (odW (some (.help h g))),om):=(ZB (Ze Zp (Ze Zp (Ze Zp Zi)))).trans (Y5 (by simp))
def Ew{sl:Sl}{om:iN}:fA Y6 (Zc (fC (.str "stand")) Zj) sl om=some (.ok (odW (some .stand)),om):=(ZB (Ze Zp Zi)).trans (Y5 (by simp))
def Ev(ns:iC):∃(ia off size:Nat) (rows:Mx) (f:hY) (told:iO),2<=ia∧ia<=7∧off+ia<=size∧size<=60∧Lk ia rows∧f.length=ia∧(∀k s,at' f k=some s->0<=s∧s<=7)∧Givn rows f told∧WM c [Ym ns] []=some (.ok (.tup [Zo ia off size,.lst (rows.map ZJ),.o 0,.o 1]),[.lst (f.map ZA),.lst (told.map odW)]):=by
 have iQ:=ZQ;obtain⟨m0,o0,z0,p1,p2,p3,p4,p5,ef⟩:=EA c ns;generalize hw:ns.getD 24 0=w;have cl:∀(sl:Sl) (om:iN),sl[0]?=some (some (Ym ns))->fA (kN 2 (Zr c)) (Zc (Za 0) (Zc (fC (.int 24)) Zj)) sl om=some (.ok (.int w),om):=λsl om h=>(AV c h).trans (by rw[hw])
 have s1:ZD 1 (fA (kN 1 (WO c)) (Zc (Za 0) Zj)) (slW ns none none none none none none none) []=some (.ok (.nx,slW ns (some (Zo m0 o0 z0)) none none none none none none),[]):=Zw (i:=1) ((ZB (Ze (Zb rfl) Zi)).trans ((YG rfl).trans (ef [])))
 obtain⟨ia,off,size,q1,q2,q3,q4,q7,s2⟩:∃ia off size:Nat,2<=ia∧ia<=7∧off+ia<=size∧size<=60∧(w % 4=1->ia=7)∧sIf (fB (f2 kEq (f2 Y9 (fA (kN 2 (Zr c)) (Zc (Za 0) (Zc (fC (.int 24)) Zj))) (fC (.int 4))) (fC (.int 1)))) (ZD 1 (fA Y6 (Zc (fC (.int 7)) (Zc (fA Lz (Zc (f2 kIx (Za 1) (fC (.int 1))) (Zc (fC (.int 53)) Zj))) (Zc (fA Lm (Zc (f2 kIx (Za 1) (fC (.int 2))) (Zc (fC (.int 7)) Zj))) Zj))))) Yo (slW ns (some (Zo m0 o0 z0)) none none none none none none) []=some (.ok (.nx,slW ns (some (Zo ia off size)) none none none none none none),[]):=by
  have t:fB (f2 kEq (f2 Y9 (fA (kN 2 (Zr c)) (Zc (Za 0) (Zc (fC (.int 24)) Zj))) (fC (.int 4))) (fC (.int 1))) (slW ns (some (Zo m0 o0 z0)) none none none none none none) []=some (.ok (decide (w % 4=1)),[]):=Nq (WD (cl _ _ rfl) (by decide));by_cases h:w % 4=1
  ·rw[bL h]at t
   have i1:f2 kIx (Za 1) (fC (.int 1)) (slW ns (some (Zo m0 o0 z0)) none none none none none none) []=some (.ok (.int (o0:Nat)),[]):=(Zs (Zb rfl) Zp).trans (ZI (k:=1) rfl rfl);have i2:f2 kIx (Za 1) (fC (.int 2)) (slW ns (some (Zo m0 o0 z0)) none none none none none none) []=some (.ok (.int (z0:Nat)),[]):=(Zs (Zb rfl) Zp).trans (ZI (k:=2) rfl rfl)
   have e1:fA Lz (Zc (f2 kIx (Za 1) (fC (.int 1))) (Zc (fC (.int 53)) Zj)) (slW ns (some (Zo m0 o0 z0)) none none none none none none) []=some (.ok (.int (min o0 53:Nat)),[]):=(ZB (Ze i1 (Ze Zp Zi))).trans (by
    show some (Except.ok (Wv.int (if (53:Int)<(o0:Int) then 53 else (o0:Int))),[])=_;rw[show(if (53:Int)<(o0:Int) then 53 else (o0:Int))=((min o0 53:Nat):Int) by split <;> omega])
   have e2:fA Lm (Zc (f2 kIx (Za 1) (fC (.int 2))) (Zc (fC (.int 7)) Zj)) (slW ns (some (Zo m0 o0 z0)) none none none none none none) []=some (.ok (.int (max z0 7:Nat)),[]):=(ZB (Ze i2 (Ze Zp Zi))).trans (by
    show some (Except.ok (Wv.int (if (7:Int) > (z0:Int) then 7 else (z0:Int))),[])=_;rw[show(if (7:Int) > (z0:Int) then 7 else (z0:Int))=((max z0 7:Nat):Int) by split <;> omega])
   exact⟨7,min o0 53,max z0 7,by omega,by omega,by omega,by omega,λ_=>rfl,(Yn t).trans (Zw (i:=1) ((ZB (Ze Zp (Ze e1 (Ze e2 Zi)))).trans (Y5 (by simp))))⟩
  ·rw[aL h]at t
   exact⟨m0,o0,z0,p1,p2,p3,p4,λz=>absurd z h,ZK t⟩
 have s3:ZD 2 (fA (kN 2 (Wu c)) (Zc (Za 0) (Zc (f2 kIx (Za 1) (fC (.int 0))) Zj))) (slW ns (some (Zo ia off size)) none none none none none none) []=some (.ok (.nx,slW ns (some (Zo ia off size)) (some (.lst ((XY ns ia).map ZJ))) none none none none none),[]):=Zw (i:=2) ((ZB (Ze (Zb rfl) (Ze ((Zs (Zb rfl) Zp).trans (ZI (k:=0) (v:=.int ia) rfl rfl)) Zi))).trans ((YG rfl).trans (ED c ns (by omega) [])));have s4:ZD 3 (fA (kN 2 (WY c)) (Zc (Za 0) (Zc (f2 kIx (Za 1) (fC (.int 0))) Zj))) (slW ns (some (Zo ia off size)) (some (.lst ((XY ns ia).map ZJ))) none none none none none) []=some (.ok (.nx,slW ns (some (Zo ia off size)) (some (.lst ((XY ns ia).map ZJ))) (some (.o 0)) none none none none),[.lst ((YK ns ia).map ZA)]):=Zw (i:=3) ((ZB (Ze (Zb rfl) (Ze ((Zs (Zb rfl) Zp).trans (ZI (k:=0) (v:=.int ia) rfl rfl)) Zi))).trans ((YG rfl).trans (FK c ns (by omega) [])));generalize hb4:decide (w % 4=1)=b4;generalize hb5:(decide ((ia:Int) > 3)&&decide (w % 2=1))=b5
 have s5:ZD 4 (f2 kEq (f2 Y9 (fA (kN 2 (Zr c)) (Zc (Za 0) (Zc (fC (.int 24)) Zj))) (fC (.int 4))) (fC (.int 1))) (slW ns (some (Zo ia off size)) (some (.lst ((XY ns ia).map ZJ))) (some (.o 0)) none none none none) [.lst ((YK ns ia).map ZA)]=some (.ok (.nx,slW ns (some (Zo ia off size)) (some (.lst ((XY ns ia).map ZJ))) (some (.o 0)) (some (.bl b4)) none none none),[.lst ((YK ns ia).map ZA)]):=by
  rw[← hb4];exact Zw (i:=4) ((Zs (WD (cl _ _ rfl) (by decide)) Zp).trans (WI _ 1 _))
 have s6:ZD 5 (V7 (f2 kGt (f2 kIx (Za 1) (fC (.int 0))) (fC (.int 3))) (f2 kEq (f2 Y9 (fA (kN 2 (Zr c)) (Zc (Za 0) (Zc (fC (.int 24)) Zj))) (fC (.int 2))) (fC (.int 1)))) (slW ns (some (Zo ia off size)) (some (.lst ((XY ns ia).map ZJ))) (some (.o 0)) (some (.bl b4)) none none none) [.lst ((YK ns ia).map ZA)]=some (.ok (.nx,slW ns (some (Zo ia off size)) (some (.lst ((XY ns ia).map ZJ))) (some (.o 0)) (some (.bl b4)) (some (.bl b5)) none none),[.lst ((YK ns ia).map ZA)]):=by
  rw[← hb5];exact Zw (i:=5) (QQ ((Zs ((Zs (Zb rfl) Zp).trans (ZI (k:=0) (v:=.int ia) rfl rfl)) Zp).trans rfl) λ_=>(Zs (WD (cl _ _ rfl) (by decide)) Zp).trans (WI _ 1 _))
 have h5:b5=true->3<ia:=λz=>by rw[← hb5,bT,bX]at z;omega
 have h4:b4=true->ia=7:=λz=>q7 (by rw[← hb4]at z;exact bG z)
 have h45:b4=true->b5=true:=λz=>by
  have z':=h4 z;rw[← hb4,bX]at z;rw[← hb5,bT,bX,bX];omega
 obtain⟨rows,f1,x6,L,oH,oI,mV,s7⟩:=Bf c (ns:=ns) (off:=off) (size:=size) (b4:=b4) (rows:=XY ns ia) (f:=YK ns ia) h5 q2 (Q4 ns ia) (Qr ns ia) (λk s h=>by
  unfold at' at h;rw[aM]at h;unfold YK at h;rw[bA]at h;by_cases hk:k<ia
  ·rw[ca hk]at h;exact Gv h
  ·rw[bK (by simp;omega)]at h;cases h)
 obtain⟨f,y6,fl,fs,fp,ft,s8⟩:=Fy c (ns:=ns) (off:=off) (size:=size) (rows:=rows) (x6:=x6) h4 oH oI (λz=>(mV z).2);have s9:ZD 7 (fA (kN 3 (Wc c)) (Zc (Za 0) (Zc (Za 2) (Zc (Za 3) Zj)))) (slW ns (some (Zo ia off size)) (some (.lst (rows.map ZJ))) (some (.o 0)) (some (.bl b4)) (some (.bl b5)) y6 none) [.lst (f.map ZA)]=some (.ok (.nx,slW ns (some (Zo ia off size)) (some (.lst (rows.map ZJ))) (some (.o 0)) (some (.bl b4)) (some (.bl b5)) y6 (some (.o 1))),[.lst (f.map ZA),.lst ((W8 10 ns rows f).map odW)]):=Zw (i:=7) ((ZB (Ze (Zb rfl) (Ze (Zb rfl) (Ze (Zb rfl) Zi)))).trans ((YG rfl).trans (JT c ns (by rw[fl];exact L) (by omega) [.lst (f.map ZA)] (sw:=.o 0) rfl)));have G0:Givn rows f (W8 10 ns rows f):=HL 10 ns (by rw[fl];exact L) (by omega);generalize W8 10 ns rows f=t0 at s9 G0;have tl:=G0.len
 obtain⟨t1,G1,s10⟩:∃t1,Givn rows f t1∧sIf (Xj (Za 5)) (Zv (Xl (fA Y6 (Zc (fC (.str "move")) (Zc (fC (.int 1)) Zj))) (Za 7) (fC (.int 0))) (Zv (Xl (fA Y6 (Zc (fC (.str "help")) (Zc (fC (.int 0)) (Zc (fC (.int 1)) Zj)))) (Za 7) (fC (.int 2))) (sIf (fB (f2 kGt (f2 Y9 (f2 Tx (fA (kN 2 (Zr c)) (Zc (Za 0) (Zc (fC (.int 24)) Zj))) (fC (.int 4))) (fC (.int 3))) (fC (.int 0)))) (Xl (fA Y6 (Zc (fC (.str "stand")) Zj)) (Za 7) (fC (.int 1))) Yo))) Yo (slW ns (some (Zo ia off size)) (some (.lst (rows.map ZJ))) (some (.o 0)) (some (.bl b4)) (some (.bl b5)) y6 (some (.o 1))) [.lst (f.map ZA),.lst (t0.map odW)]=some (.ok (.nx,slW ns (some (Zo ia off size)) (some (.lst (rows.map ZJ))) (some (.o 0)) (some (.bl b4)) (some (.bl b5)) y6 (some (.o 1))),[.lst (f.map ZA),.lst (t1.map odW)]):=by
  have tr:∀om,Xj (Za 5) (slW ns (some (Zo ia off size)) (some (.lst (rows.map ZJ))) (some (.o 0)) (some (.bl b4)) (some (.bl b5)) y6 (some (.o 1))) om=some (.ok b5,om):=λom=>XE (Zb rfl)
  cases b5 with
  |false=>exact⟨t0,G0,ZK (tr _)⟩
  |true=>
   have h3:=h5 rfl;obtain⟨rfl,_⟩:=mV rfl;refine⟨pT (decide (w / 4 % 3 > 0)) t0,pT_ok G0 fl h3 (fp rfl) _,(Yn (tr _)).trans ((Zh (puT (k:=0) (Ay 1) rfl (by omega))).trans ((Zh (puT (k:=2) (BQ 0 1) rfl (by rw[de];omega))).trans ?_))⟩;have g:∀om,fB (f2 kGt (f2 Y9 (f2 Tx (fA (kN 2 (Zr c)) (Zc (Za 0) (Zc (fC (.int 24)) Zj))) (fC (.int 4))) (fC (.int 3))) (fC (.int 0))) (slW ns (some (Zo ia off size)) (some (.lst ((U0 ia).map ZJ))) (some (.o 0)) (some (.bl b4)) (some (.bl true)) y6 (some (.o 1))) om=some (.ok (decide (w / 4 % 3 > 0)),om):=λom=>ZW ((Zs (WD (Sz (cl _ _ rfl) (by decide)) (by decide)) Zp).trans rfl)
   generalize decide (w / 4 % 3 > 0)=b at g;cases b with
   |false=>exact ZK (g _)
   |true=>exact(Yn (g _)).trans (puT (k:=1) Ew rfl (by rw[de,de];omega))
 have tl1:=G1.len
 obtain⟨t2,G2,s11⟩:∃t2,Givn rows f t2∧sIf (Xj (Za 4)) (Zv (Xl (fA Y6 (Zc (fC (.str "move")) (Zc (fC (.int 4)) Zj))) (Za 7) (fC (.int 3))) (Zv (Xl (fA Y6 (Zc (fC (.str "stand")) Zj)) (Za 7) (fC (.int 4))) (Xl (fA Y6 (Zc (fC (.str "help")) (Zc (fC (.int 3)) (Zc (fC (.int 4)) Zj)))) (Za 7) (fC (.int 5))))) Yo (slW ns (some (Zo ia off size)) (some (.lst (rows.map ZJ))) (some (.o 0)) (some (.bl b4)) (some (.bl b5)) y6 (some (.o 1))) [.lst (f.map ZA),.lst (t1.map odW)]=some (.ok (.nx,slW ns (some (Zo ia off size)) (some (.lst (rows.map ZJ))) (some (.o 0)) (some (.bl b4)) (some (.bl b5)) y6 (some (.o 1))),[.lst (f.map ZA),.lst (t2.map odW)]):=by
  have tr:∀om,Xj (Za 4) (slW ns (some (Zo ia off size)) (some (.lst (rows.map ZJ))) (some (.o 0)) (some (.bl b4)) (some (.bl b5)) y6 (some (.o 1))) om=some (.ok b4,om):=λom=>XE (Zb rfl)
  cases b4 with
  |false=>exact⟨t1,G1,ZK (tr _)⟩
  |true=>
   have h7:=h4 rfl;obtain⟨rfl,_⟩:=mV (h45 rfl);exact⟨tT t1,tT_ok G1 fl (by omega) (ft rfl),(Yn (tr _)).trans ((Zh (puT (k:=3) (Ay 4) rfl (by omega))).trans ((Zh (puT (k:=4) Ew rfl (by rw[de];omega))).trans (puT (k:=5) (BQ 3 4) rfl (by rw[de,de];omega))))⟩
 exact⟨ia,off,size,rows,f,t2,q1,q2,q3,q4,L,fl,fs,G2,ZF ((Zh s1).trans ((Zh s2).trans ((Zh s3).trans ((Zh s4).trans ((Zh s5).trans ((Zh s6).trans ((Zh s7).trans ((Zh s8).trans ((Zh s9).trans ((Zh s10).trans ((Zh s11).trans (Zu ((ZB (Ze (Zb rfl) (Ze (Zb rfl) (Ze (Zb rfl) (Ze (Zb rfl) Zi))))).trans (Y5 (by simp)))))))))))))))⟩
end
def RU{α:Type}(g:Nat->Option α)(n j:Nat):at' ((List.range n).map g) j=if j<n then g j else none:=by
 unfold at';rw[aM,bA];by_cases h:j<n
 ·rw[ca h,aC h];rfl
 ·rw[bK (by rw[bP];omega),aE h];rfl
def mI(n k:Nat):Nat:=n-1-k
def mF(n:Nat)(f:hY):hY:=(List.range n).map λi=>(at' f (mI n i)).map λs=>7-s
def mT(n:Nat)(t:iO):iO:=(List.range n).map λi=>(at' t (mI n i)).map (mO (mI n))
def mL(n:Nat)(rows:Mx):Mx:=(List.range n).map λi=>(List.range n).map λj=>Xa rows (mI n i) (mI n j)
def XI{n k:Nat}(h:k<n):mI n k<n:=by unfold mI;omega
def YM{n k:Nat}(h:k<n):mI n (mI n k)=k:=by unfold mI;omega
def IC(n i j:Nat)(rows:Mx):Xa (mL n rows) i j=(decide (i<n)&&(decide (j<n)&&Xa rows (mI n i) (mI n j))):=by
 have row:(mL n rows).getD i []=if i<n then (List.range n).map (λj=>Xa rows (mI n i) (mI n j)) else []:=by
  unfold mL;rw[aM,bA];by_cases h:i<n
  ·rw[ca h,aC h];rfl
  ·rw[bK (by rw[bP];omega),aE h];rfl
 rw[show Xa (mL n rows) i j=((mL n rows).getD i []).getD j false from rfl,row];by_cases h:i<n
 ·rw[aC h,aM,bA]
  by_cases h2:j<n
  ·rw[ca h2]
   simp[h,h2]
  ·rw[bK (by rw[bP];omega)]
   simp[h2]
 ·rw[aE h]
  simp[h]
section
variable{n:Nat}{rows:Mx}{f:hY}{told:iO}
def mL_lk(L:Lk n rows):Lk n (mL n rows):=by
 refine⟨by simp[mL],λa ha=>?_,λa b=>?_,λa=>?_⟩
 ·unfold mL
  rw[aM,bA,ca ha];simp
 ·rw[IC,IC,L.sym (mI n a)]
  cases decide (a<n) <;> cases decide (b<n) <;> rfl
 ·rw[IC,L.dg];simp
def mr_of(G:Givn rows f told)(hf:f.length=n)(hs:∀k s,at' f k=some s->0<=s∧s<=7):Mr n (mI n) told (mT n told) f (mF n f):=by
 refine⟨λk h=>XI h,λk h=>YM h,by rw[G.len,hf],by simp[mT],hf,by simp[mF],λk h=>?_,λk h=>?_,hs,λk g e=>?_,λk a g e=>?_⟩
 ·unfold mT;rw[RU,aC (XI h),YM h]
 ·unfold mF;rw[RU,aC (XI h),YM h]
 ·have:=G.ok k (by rw[← G.len];exact VZ e)
  rw[e]at this;rw[← hf];exact this.2.1
 ·have:=G.ok k (by rw[← G.len];exact VZ e)
  rw[e]at this;rw[← hf];exact⟨this.2.1,this.2.2.1⟩
def mG(G:Givn rows f told)(L:Lk n rows)(hf:f.length=n)(jL:n<=60):Givn (mL n rows) (mF n f) (mT n told):=by
 have lf:(mF n f).length=n:=by simp[mF]
 have lt:(mT n told).length=n:=by simp[mT]
 refine⟨by rw[lf];exact mL_lk L,by rw[lf,lt],by rw[lf];exact jL,λi hi=>?_⟩;rw[lf]at hi;have ok:=G.ok (mI n i) (by rw[hf];exact XI hi);have ef:∀j,j<n->at' (mF n f) j=(at' f (mI n j)).map λs=>7-s:=λj hj=>by unfold mF;rw[RU,aC hj]
 have es:∀j,j<n->(at' f (mI n j)).isSome=true->(at' (mF n f) j).isSome=true:=λj hj h=>by rw[ef j hj];cases q:at' f (mI n j) with|none=>rw[q]at h;cases h|some _=>rfl
 have jd:∀j,j<n->(at' f j).isSome=true->(at' (mF n f) (mI n j)).isSome=true:=λj hj h=>es _ (XI hj) (by rw[YM hj];exact h)
 have ek:∀a b,a<n->b<n->Xa rows a b=true->Xa (mL n rows) (mI n a) (mI n b)=true:=λa b ha hb h=>by rw[IC,YM ha,YM hb,h,bL (XI ha),bL (XI hb)];rfl
 rw[show at' (mT n told) i=(at' told (mI n i)).map (mO (mI n)) from by unfold mT;rw[RU,aC hi]];have ii:=YM hi;cases e:at' told (mI n i) with
 |none=>
  rw[e]at ok;show at' (mF n f) i=none;rw[ef i hi,show at' f (mI n i)=none from ok];rfl
 |some o=>
  rw[e]at ok;cases o with
  |stand=>exact es i hi ok
  |move g=>
   obtain⟨o1,o2,o3⟩:=ok;rw[hf]at o2;refine⟨es i hi o1,by rw[lf];exact XI o2,?_⟩;have:=ek _ _ (XI hi) o2 o3;rw[ii]at this;exact this
  |help a g=>
   obtain⟨o1,o2,o3,o4,o5,o6,o7⟩:=ok;rw[hf]at o2 o3;refine⟨es i hi o1,by rw[lf];exact XI o2,by rw[lf];exact XI o3,λz=>o4 ?_,jd a o2 o5,?_,?_⟩
   ·rw[← YM o2,z]
   ·have:=ek _ _ (XI hi) o3 o6
    rw[ii]at this;exact this
   ·exact o7.imp (λz=>by rw[z]) λz=>ek _ _ o2 o3 z
end
structure LnO(rows:Mx)(E a b:Nat)(kvs:iL):Prop where
 has:∀i j,j<i->(i<a∨(i=a∧j<b))->Xa rows i j=true->Ty kvs ((E:Int)-i) ((E:Int)-j)=true∧Ty kvs ((E:Int)-j) ((E:Int)-i)=true
 len:kvs.length<=14 * a+2 * b
section
variable{rows:Mx}{E a b:Nat}{kvs:iL}
def LnO.on(L:LnO rows E a b kvs):LnO rows E a (b+1) (Sf kvs ((E:Int)-b) ((E:Int)-a)):=by
 refine⟨λi j hj h hl=>?_,by have:=L.len;have:=Ol kvs ((E:Int)-b) ((E:Int)-a);omega⟩;rw[RN,RN];by_cases e:i=a∧j=b
 ·obtain⟨rfl,rfl⟩:=e;simp
 ·obtain⟨h1,h2⟩:=L.has i j hj (by omega) hl
  rw[h1,h2];simp
def LnO.no(L:LnO rows E a b kvs)(h0:Xa rows a b=false):LnO rows E a (b+1) kvs:=by
 refine⟨λi j hj h hl=>?_,by have:=L.len;omega⟩;by_cases e:i=a∧j=b
 ·obtain⟨rfl,rfl⟩:=e;rw[h0]at hl;cases hl
 ·exact L.has i j hj (by omega) hl
def LnO.next(L:LnO rows E a a kvs)(ha:a<=7):LnO rows E (a+1) 0 kvs:=⟨λi j hj h hl=>L.has i j hj (by omega) hl,by have:=L.len;omega⟩
end
abbrev slO(fr lk sw tw:Wv)(x4 x5 x6 x7 x8 x9 mX:Option Wv):Sl:=[some fr,some lk,some sw,some tw,x4,x5,x6,x7,x8,x9,mX]
section
variable{c:CA}{om:iN}{ia off size:Nat}{rows:Mx}{f:hY}{told:iO}{kvs:iL}{sw tw:Wv}
def CL(us:hZ)(jc:iL):(Z0 c om size kvs us).set (om.length+1) (.dt jc)=Z0 c om size jc us:=by
 unfold Z0;rw[bU _ _ (by omega),show om.length+1-om.length=1 by omega];rfl
def C9(us nt:hZ):(Z0 c om size kvs us).set (om.length+3) (.dk (ZH nt))=Z0 c om size kvs nt:=by
 unfold Z0;rw[bU _ _ (by omega),show om.length+3-om.length=3 by omega];rfl
def IP{sl:Sl}{om:iN}{E k i j:Nat}(hi:sl[i]?=some (some (.int (E:Nat))))(hj:sl[j]?=some (some (.int (k:Nat)))):f2 Xc (Za i) (Za j) sl om=some (.ok (.int ((E:Int)-k)),om):=(v2 hi hj).trans rfl
def CJ(lk:Lk ia rows)(h7:ia<=7)(h1:off+ia<=size)(h2:2<=ia):∃kvs x7 x8,LnO rows (size-1-off) ia 0 kvs∧XQ (λsl=>bnd ((f2 kIx (Za 0) (fC (.int 0))) sl) Yw) (tgN 7) (VS c) (slO (Zo ia off size) (.lst (rows.map ZJ)) sw tw (some (.o om.length)) (some (.int (size-1-off:Nat))) (some (.o (om.length+2))) none none none none) (Z0 c om size [] [])=some (.ok (.nx,slO (Zo ia off size) (.lst (rows.map ZJ)) sw tw (some (.o om.length)) (some (.int (size-1-off:Nat))) (some (.o (om.length+2))) x7 x8 none none),Z0 c om size kvs []):=by
 have iQ:=ZQ;generalize hE:size-1-off=E
 obtain⟨iS,ij,hf,kvs,x7,x8,rfl,rfl,L⟩:=XR (T:=tgN 7) (S:=VS c) (n:=ia) (λa sl ij=>∃kvs x7 x8,sl=slO (Zo ia off size) (.lst (rows.map ZJ)) sw tw (some (.o om.length)) (some (.int (E:Nat))) (some (.o (om.length+2))) x7 x8 none none∧ij=Z0 c om size kvs []∧LnO rows E a 0 kvs)
  (sl:=slO (Zo ia off size) (.lst (rows.map ZJ)) sw tw (some (.o om.length)) (some (.int (E:Nat))) (some (.o (om.length+2))) none none none none) (om:=Z0 c om size [] []) (λa ha sl ij ⟨kvs,x7,x8,e1,e2,L⟩=>by
   subst e1 e2
   obtain⟨iT,om2,lU,kz,y8,rfl,rfl,L2⟩:=XR (T:=tgN 8) (S:=TR c) (n:=a) (λb sl ij=>∃kvs y8,sl=slO (Zo ia off size) (.lst (rows.map ZJ)) sw tw (some (.o om.length)) (some (.int (E:Nat))) (some (.o (om.length+2))) (some (.int (a:Nat))) y8 none none∧ij=Z0 c om size kvs []∧LnO rows E a b kvs)
    (sl:=slO (Zo ia off size) (.lst (rows.map ZJ)) sw tw (some (.o om.length)) (some (.int (E:Nat))) (some (.o (om.length+2))) (some (.int (a:Nat))) x8 none none) (om:=Z0 c om size kvs []) (λb hb sl ij ⟨kvs,y8,e1,e2,L⟩=>by
     subst e1 e2;have hl:=L.len;have t:Xj (f2 kIx (f2 kIx (Za 1) (Za 7)) (Za 8)) (slO (Zo ia off size) (.lst (rows.map ZJ)) sw tw (some (.o om.length)) (some (.int (E:Nat))) (some (.o (om.length+2))) (some (.int (a:Nat))) (some (.int (b:Nat))) none none) (Z0 c om size kvs [])=_:=XE (Iu (p:=1) (q:=7) (r:=8) lk ha (by omega) rfl rfl rfl);cases hv:Xa rows a b with
     |false=>
      rw[hv]at t;exact⟨_,.nx,_,_,rfl,ZK t,.inl rfl,kvs,_,rfl,rfl,L.no hv⟩
     |true=>
      rw[hv]at t;have e:=IL c (om:=Z0 c om size kvs []) (h:=om.length) (hl:=om.length+1) (size:=size) (kvs:=kvs) (a:=(E:Int)-b) (b:=(E:Int)-a) (by omega) (by simp) (by simp) ⟨by omega,by omega⟩ ⟨by omega,by omega⟩ (by omega) (by omega);rw[CL]at e;exact⟨_,.nx,_,_,rfl,(Yn t).trans (ZY (w:=.non) ((Zz (Zb rfl) (Zy (fs:=[("size",.int (size:Int)),("links",.o (om.length+1))]) (by simp)) (X3 _ _ _ (by decide) (by decide)) (Ze (IP rfl rfl) (Ze (IP rfl rfl) Zi)) rfl).trans e)),.inl rfl,_,_,rfl,rfl,L.on⟩) ⟨kvs,x8,rfl,rfl,L⟩
   exact⟨_,.nx,_,_,rfl,YV (sl1:=[]) (Tw (i:=7) (m:=a) rfl (by omega) _) lU,.inl rfl,kz,_,_,rfl,rfl,L2.next (by omega)⟩) ⟨[],none,none,rfl,rfl,⟨λi j _ h=>by omega,by simp⟩⟩
 exact⟨kvs,x7,x8,L,YV (sl1:=[]) ((Zm ((Zs (Zb rfl) Zp).trans (ZI (k:=0) (v:=.int ia) rfl rfl))).trans (X5 _ _ (by omega))) hf⟩
def Ea{sl:Sl}{om:iN}(h:sl[0]?=some (some (Zo ia off size)))(h7:ia<=7)(h2:2<=ia):(λsl=>bnd ((f2 Xc (f2 kIx (Za 0) (fC (.int 0))) (fC (.int 1))) sl) λx=>bnd ((f1 QH (fC (.int 1))) sl) λy=>bnd ((f1 QH (fC (.int 1))) sl) λz=>OW x y z) sl om=some (.ok ((List.range ia).map λ(i:Nat)=>Wv.int ((mI ia i:Nat):Int)),om):=by
 have e1:f2 Xc (f2 kIx (Za 0) (fC (.int 0))) (fC (.int 1)) sl om=some (.ok (.int ((ia:Int)-1)),om):=(Zs ((Zs (Zb h) Zp).trans (ZI (k:=0) (v:=.int ia) rfl rfl)) Zp).trans rfl;have e2:f1 QH (fC (.int 1)) sl om=some (.ok (.int (-1)),om):=(Wa Zp).trans rfl;refine(Zm e1).trans ((Zm e2).trans ((Zm e2).trans ?_));show bnd (chk (decide (-1000<=(ia:Int)-1∧(ia:Int)-1<=1000∧(-1000:Int)<=-1∧(-1:Int)<=1000∧(-1:Int)=-1))) (λ_=>L2.ret ((List.range ((ia:Int)-1 - -1).toNat).map λ(k:Nat)=>Wv.int ((ia:Int)-1-k))) om=_;rw[Zm (Of (bL (by omega))),show((ia:Int)-1 - -1).toNat=ia by omega];show some (Except.ok _,om)=_
 congr 3
 refine cq λk hk=>?_
 have hk:=aX.mp hk;rw[show(ia:Int)-1-k=((mI ia k:Nat):Int) by unfold mI;omega]
end
section
variable{c:CA}{om:iN}{ia off size:Nat}{rows:Mx}{f:hY}{told:iO}{kvs:iL}{sw tw:Wv}
def L1{n:Nat}{f:hY}{i:Nat}(h:i<n):at' (mF n f) i=(at' f (mI n i)).map λs=>7-s:=by unfold mF;rw[RU,aC h]
def mT_at{n:Nat}{t:iO}{i:Nat}(h:i<n):at' (mT n t) i=(at' t (mI n i)).map (mO (mI n)):=by unfold mT;rw[RU,aC h]
def Cz(h7:ia<=7)(h1:off+ia<=size)(h2:2<=ia)(hf:f.length=ia)(hs:∀k s,at' f k=some s->0<=s∧s<=7)(hw:∀ij,(∀j,j<om.length->ij[j]?=om[j]?)->YI ij sw=some (f.map ZA))(x7 x8:Option Wv):∃x9,XQ (λsl=>bnd ((f2 Xc (f2 kIx (Za 0) (fC (.int 0))) (fC (.int 1))) sl) λx=>bnd ((f1 QH (fC (.int 1))) sl) λy=>bnd ((f1 QH (fC (.int 1))) sl) λz=>OW x y z) (tgN 9) (VJ c) (slO (Zo ia off size) (.lst (rows.map ZJ)) sw tw (some (.o om.length)) (some (.int (size-1-off:Nat))) (some (.o (om.length+2))) x7 x8 none none) (Z0 c om size kvs [])=some (.ok (.nx,slO (Zo ia off size) (.lst (rows.map ZJ)) sw tw (some (.o om.length)) (some (.int (size-1-off:Nat))) (some (.o (om.length+2))) x7 x8 x9 none),Z0 c om size kvs (Yc (size-off-ia) (mF ia f) ia)):=by
 have iQ:=ZQ
 obtain⟨iS,ij,jO,x9,rfl,rfl⟩:=WC (T:=tgN 9) (S:=VJ c) (λ(i:Nat)=>Wv.int ((mI ia i:Nat):Int)) (λpre sl ij=>∃x9,sl=slO (Zo ia off size) (.lst (rows.map ZJ)) sw tw (some (.o om.length)) (some (.int (size-1-off:Nat))) (some (.o (om.length+2))) x7 x8 x9 none∧ij=Z0 c om size kvs (Yc (size-off-ia) (mF ia f) pre.length)) (List.range ia) [] (sl:=slO (Zo ia off size) (.lst (rows.map ZJ)) sw tw (some (.o om.length)) (some (.int (size-1-off:Nat))) (some (.o (om.length+2))) x7 x8 none none) (om:=Z0 c om size kvs []) (λpre i post hq sl ij ⟨x9,e1,e2⟩=>by
  subst e1 e2;have hi:=Kw hq;have hil:i<ia:=aX.mp (by rw[show List.range ia=pre++i::post from hq];simp);rw[aT,dJ,← hi];have hk:=XI hil;have jv:=hw (Z0 c om size kvs (Yc (size-off-ia) (mF ia f) i)) λj hj=>by unfold Z0;rw[aQ hj]
  have sk:f2 kIx (Za 2) (Za 9) (slO (Zo ia off size) (.lst (rows.map ZJ)) sw tw (some (.o om.length)) (some (.int (size-1-off:Nat))) (some (.o (om.length+2))) x7 x8 (some (.int ((mI ia i:Nat):Int))) none) (Z0 c om size kvs (Yc (size-off-ia) (mF ia f) i))=some (.ok (ZA (at' f (mI ia i))),Z0 c om size kvs (Yc (size-off-ia) (mF ia f) i)):=(v2 rfl rfl).trans (UO jv (by omega) none);have t:fB (f1 Wh (f2 kIx (Za 2) (Za 9))) (slO (Zo ia off size) (.lst (rows.map ZJ)) sw tw (some (.o om.length)) (some (.int (size-1-off:Nat))) (some (.o (om.length+2))) x7 x8 (some (.int ((mI ia i:Nat):Int))) none) (Z0 c om size kvs (Yc (size-off-ia) (mF ia f) i))=some (.ok (at' f (mI ia i)).isSome,Z0 c om size kvs (Yc (size-off-ia) (mF ia f) i)):=ZW ((Wa sk).trans (RH _ _));refine⟨_,_,_,rfl,?_,some (.int ((mI ia i:Nat):Int)),rfl,rfl⟩;rw[RI,L1 hil];cases lD:at' f (mI ia i) with
  |none=>
   rw[lD]at t;refine(ZK t).trans ?_;show _=some (Except.ok (Fl.nx,_),Z0 c om size kvs (Yc (size-off-ia) (mF ia f) i++[]));rw[cC]
  |some s=>
   rw[lD]at t sk;have ul:=Oo (size-off-ia) (mF ia f) i;have s7:=hs _ s lD;have ea:((size-1-off:Nat):Int)-((mI ia i:Nat):Int)=((size-off-ia:Nat):Int)+(i:Int):=by unfold mI;omega
   have p:=MA c (om:=Z0 c om size kvs (Yc (size-off-ia) (mF ia f) i)) (hb:=om.length+2) (hm:=om.length) (hu:=om.length+3) (hl:=om.length+1) (size:=size) (us:=Yc (size-off-ia) (mF ia f) i) (a:=((size-off-ia:Nat):Int)+(i:Int)) (s:=7-s) (by simp) (by simp) (by simp) ⟨by omega,by omega⟩ (by omega) (by rw[RF,aE (by omega)]) (by omega);rw[C9]at p;refine(Yn t).trans (ZY (w:=.non) ((Zz (Zb rfl) (Zy (fs:=[("chart",.o om.length),("units",.o (om.length+3))]) (by simp)) (Yi _ _ _ (by decide) (by decide)) (Ze ((IP rfl rfl).trans (by rw[ea])) (Ze ((Zs Zp sk).trans rfl) Zi)) rfl).trans p))) ⟨none,rfl,rfl⟩
 rw[eQ,bP]at jO;exact⟨x9,YV (sl1:=[]) (Ea rfl h7 h2) jO⟩
def Gk{sl:Sl}{om:iN}{fe:FE}{o:Od}{b:String}(he:fe sl om=some (.ok (odW (some o)),om))(hb:PyData.strOk (Str.ofString b)=true):fB (f2 kEq (f2 kIx fe (fC (.int 0))) (fC (.str b))) sl om=some (.ok (decide (odN o=b)),om):=by
 have e:f2 kIx fe (fC (.int 0)) sl om=some (.ok (.str (odN o)),om):=by
  refine(Zs he Zp).trans ?_;cases o <;> exact ZI (k:=0) rfl rfl
 exact ZW ((Zs e Zp).trans (Rt _ _ (Oc o) hb _))
def Bp(h7:ia<=7)(h1:off+ia<=size)(jL:size<=60)(h2:2<=ia)(lk:Lk ia rows)(hf:f.length=ia)(G:Givn rows f told)(L:LnO rows (size-1-off) ia 0 kvs)(ht:∀ij,(∀j,j<om.length->ij[j]?=om[j]?)->YI ij tw=some (told.map odW))(x7 x8 x9:Option Wv):∃gs y9,Tell gs (at' (mT ia told))∧XQ (λsl=>bnd ((f2 Xc (f2 kIx (Za 0) (fC (.int 0))) (fC (.int 1))) sl) λx=>bnd ((f1 QH (fC (.int 1))) sl) λy=>bnd ((f1 QH (fC (.int 1))) sl) λz=>OW x y z) (tgN 9) (VC c) (slO (Zo ia off size) (.lst (rows.map ZJ)) sw tw (some (.o om.length)) (some (.int (size-1-off:Nat))) (some (.o (om.length+2))) x7 x8 x9 (some (.o (om.length+4)))) (Z0 c om size kvs (Yc (size-off-ia) (mF ia f) ia)++[ZM c (om.length+2) (om.length+5),.dk (Yl c (size-off-ia) [])])=some (.ok (.nx,slO (Zo ia off size) (.lst (rows.map ZJ)) sw tw (some (.o om.length)) (some (.int (size-1-off:Nat))) (some (.o (om.length+2))) x7 x8 y9 (some (.o (om.length+4)))),Z0 c om size kvs (Yc (size-off-ia) (mF ia f) ia)++[ZM c (om.length+2) (om.length+5),.dk (Yl c (size-off-ia) gs)]):=by
 have iQ:=ZQ;generalize ho:size-off-ia=of;have lf:(mF ia f).length=ia:=by simp[mF]
 have hl:(Z0 c om size kvs (Yc of (mF ia f) ia)).length=om.length+4:=by simp[Z0]
 have W:∀g,Wd c (Z0 c om size kvs (Yc of (mF ia f) ia)++[ZM c (om.length+2) (om.length+5),.dk (Yl c of g)]) (om.length+2) om.length (om.length+3) (om.length+1) size of (mF ia f) kvs:=λg=>(De (c:=c) (om:=om) (kvs:=kvs) lf (by omega) jL).grow _
 have S:∀g,Os c (Z0 c om size kvs (Yc of (mF ia f) ia)++[ZM c (om.length+2) (om.length+5),.dk (Yl c of g)]) (om.length+4) (om.length+2) (om.length+5) of g:=λg=>⟨by rw[bD (by rw[hl];omega),hl,dP];rfl,by rw[bD (by rw[hl];omega),hl,show om.length+5-(om.length+4)=1 by omega];rfl⟩
 have st:∀g g',(Z0 c om size kvs (Yc of (mF ia f) ia)++[ZM c (om.length+2) (om.length+5),.dk (Yl c of g)]).set (om.length+5) (.dk (Yl c of g'))=Z0 c om size kvs (Yc of (mF ia f) ia)++[ZM c (om.length+2) (om.length+5),.dk (Yl c of g')]:=λg g'=>by rw[bU _ _ (by rw[hl];omega),hl,show om.length+5-(om.length+4)=1 by omega];rfl
 have hK:∀a b,a<ia->b<ia->Xa rows a b=true->Ty kvs ((of:Int)+((mI ia a:Nat):Int)) ((of:Int)+((mI ia b:Nat):Int))=true:=λa b ha hb h=>by
  have e:∀k,k<ia->(of:Int)+((mI ia k:Nat):Int)=((size-1-off:Nat):Int)-k:=λk hk=>by unfold mI;omega
  rw[e a ha,e b hb];by_cases z:b<a
  ·exact(L.has a b z (.inl ha) h).1
  ·by_cases z2:a<b
   ·exact(L.has b a z2 (.inl hb) (by rw[lk.sym];exact h)).2
   ·have:a=b:=by omega
    subst this;rw[lk.dg]at h;cases h
 have hm:∀k,k<ia->mI ia k<ia:=λk h=>XI h
 obtain⟨iS,ij,jO,gs,y9,rfl,rfl,t⟩:=WC (T:=tgN 9) (S:=VC c) (λ(i:Nat)=>Wv.int ((mI ia i:Nat):Int)) (λpre sl ij=>∃gs x9,sl=slO (Zo ia off size) (.lst (rows.map ZJ)) sw tw (some (.o om.length)) (some (.int (size-1-off:Nat))) (some (.o (om.length+2))) x7 x8 x9 (some (.o (om.length+4)))∧ij=Z0 c om size kvs (Yc of (mF ia f) ia)++[ZM c (om.length+2) (om.length+5),.dk (Yl c of gs)]∧Tell gs (Vq (mT ia told) (λk=>(at' (mF ia f) k).map λ_=>Od.stand) pre.length)) (List.range ia) [] (sl:=slO (Zo ia off size) (.lst (rows.map ZJ)) sw tw (some (.o om.length)) (some (.int (size-1-off:Nat))) (some (.o (om.length+2))) x7 x8 x9 (some (.o (om.length+4)))) (om:=Z0 c om size kvs (Yc of (mF ia f) ia)++[ZM c (om.length+2) (om.length+5),.dk (Yl c of [])]) (λpre i post hq sl ij ⟨gs,x9,e1,e2,t⟩=>by
  subst e1 e2;have hi:=Kw hq;have hil:i<ia:=aX.mp (by rw[show List.range ia=pre++i::post from hq];simp);rw[aT,dJ,← hi];rw[← hi]at t;have hk:=XI hil
  have gl:gs.length<=ia:=t.len λk o h=>by
   unfold Vq at h;split at h
   ·omega
   ·obtain⟨s,e,_⟩:=bZ.mp h
    have:=VZ e;omega
  generalize jv:Z0 c om size kvs (Yc of (mF ia f) ia)++[ZM c (om.length+2) (om.length+5),.dk (Yl c of gs)]=om1;have jm:∃sl1,sl1=slO (Zo ia off size) (.lst (rows.map ZJ)) sw tw (some (.o om.length)) (some (.int (size-1-off:Nat))) (some (.o (om.length+2))) x7 x8 (some (.int ((mI ia i:Nat):Int))) (some (.o (om.length+4))):=⟨_,rfl⟩
  obtain⟨sl1,jm⟩:=jm;have v5:sl1[5]?=some (some (.int (size-1-off:Nat))):=by rw[jm];rfl
  have v9:sl1[9]?=some (some (.int ((mI ia i:Nat):Int))):=by rw[jm];rfl
  have v10:sl1[10]?=some (some (.o (om.length+4))):=by rw[jm];rfl
  have ho1:om1[om.length+4]?=some (ZM c (om.length+2) (om.length+5)):=by rw[← jv];exact(S gs).o
  have hseq:YI om1 tw=some (told.map odW):=ht om1 λj hj=>by rw[← jv,aQ (by rw[hl];omega)];unfold Z0;rw[aQ hj]
  have tk:f2 kIx (Za 3) (Za 9) sl1 om1=some (.ok (odW (at' told (mI ia i))),om1):=(v2 (by rw[jm];rfl) v9).trans (UO hseq (by rw[G.len];omega) none);have n0:fB (f1 Wh (f2 kIx (Za 3) (Za 9))) sl1 om1=some (.ok (at' told (mI ia i)).isSome,om1):=ZW ((Wa tk).trans (by cases at' told (mI ia i) with|none=>rfl|some o=>cases o <;> rfl));have eP:∀k,k<ia->((size-1-off:Nat):Int)-(k:Int)=(of:Int)+((mI ia k:Nat):Int):=λk hk=>by unfold mI;omega
  have e9:f2 Xc (Za 5) (Za 9) sl1 om1=some (.ok (.int ((of:Int)+i)),om1):=(IP v5 v9).trans (by rw[eP _ hk,YM hil]);have mx:=O2 (mT ia told) (λk=>(at' (mF ia f) k).map λ_=>Od.stand) i;have ok:=G.ok (mI ia i) (by omega);have am:=mT_at (t:=told) hil
  have fs:(at' f (mI ia i)).isSome=true->∃s,at' (mF ia f) i=some s:=λh=>by
   rw[L1 hil];cases q:at' f (mI ia i) with|none=>rw[q]at h;cases h|some s=>exact⟨_,rfl⟩
  have stay:(∀o,at' (mT ia told) i=some o->o=.stand)->Vq (mT ia told) (λk=>(at' (mF ia f) k).map λ_=>Od.stand) (i+1)=Vq (mT ia told) (λk=>(at' (mF ia f) k).map λ_=>Od.stand) i:=λh=>by
   rw[mx];funext j;by_cases e:j=i
   ·subst e
    rw[aC rfl];unfold Vq;rw[aE (by omega)];show _=Option.map (λ_=>Od.stand) (at' (mF ia f) j);rw[L1 hil];cases q:at' (mT ia told) j with
    |none=>
     rw[am]at q;have q:at' told (mI ia j)=none:=by cases q':at' told (mI ia j) with|none=>rfl|some _=>rw[q']at q;cases q
     rw[q]at ok;rw[show at' f (mI ia j)=none from ok];rfl
    |some o=>
     rw[h o q];rw[am]at q;obtain⟨o',q',_⟩:=bZ.mp q;have:(at' f (mI ia j)).isSome=true:=by rw[q']at ok;cases o' with|stand=>exact ok|move g=>exact ok.1|help a g=>exact ok.1
     cases z:at' f (mI ia j) with|none=>rw[z]at this;cases this|some _=>rfl
   ·rw[aE e]
  refine⟨sl1,sl1,?_⟩;cases q:at' told (mI ia i) with
  |none=>
   rw[q]at n0;refine⟨om1,by rw[jm];rfl,(Zh (ZK (Jq n0))).trans (ZK (Jq n0)),gs,_,jm,jv.symm,?_⟩;rw[stay λo h=>by rw[am,q]at h;cases h];exact t
  |some o=>
   rw[q]at n0 tk ok am;have cm:=Lf n0 (c2:=fB (f2 kEq (f2 kIx (f2 kIx (Za 3) (Za 9)) (fC (.int 0))) (fC (.str "move"))));have ch:=Lf n0 (c2:=fB (f2 kEq (f2 kIx (f2 kIx (Za 3) (Za 9)) (fC (.int 0))) (fC (.str "help"))));cases o with
   |stand=>
    refine⟨om1,by rw[jm];rfl,(Zh (ZK (cm.trans (Gk tk Th)))).trans (ZK (ch.trans (Gk tk Uy))),gs,_,jm,jv.symm,?_⟩;rw[stay λo h=>by rw[am]at h;cases h;rfl];exact t
   |move g=>
    obtain⟨o1,o2,o3⟩:=ok;rw[hf]at o2;obtain⟨s,es⟩:=fs o1;have e:=ID (W gs) (S gs) (k:=i) (g:=mI ia g) es (by rw[lf];exact hm g o2) (by have:=hK _ _ hk o2 o3;rw[YM hil]at this;exact this) (by omega);rw[st,jv]at e
    have g1:f2 Xc (Za 5) (f2 kIx (f2 kIx (Za 3) (Za 9)) (fC (.int 1))) sl1 om1=some (.ok (.int ((of:Int)+((mI ia g:Nat):Int))),om1):=(Zs (Zb v5) ((Zs tk Zp).trans (ZI (k:=1) (v:=.int (g:Nat)) rfl rfl))).trans (by
     show some (Except.ok (Wv.int (((size-1-off:Nat):Int)-(g:Int))),om1)=_;rw[eP g o2])
    have b1:=(Yn (S2:=Yo) (cm.trans (Gk tk Th))).trans (ZY (w:=.non) ((Zz (Zb v10) (Zy ho1) (ZV "move" _ _ (by decide) (by decide)) (Ze e9 (Ze g1 Zi)) rfl).trans e));have om2n:YI (Z0 c om size kvs (Yc of (mF ia f) ia)++[ZM c (om.length+2) (om.length+5),.dk (Yl c of (Ss gs i (.move (mI ia g))))]) tw=some (told.map odW):=ht _ λj hj=>by rw[aQ (by rw[hl];omega)];unfold Z0;rw[aQ hj]
    have tk2:f2 kIx (Za 3) (Za 9) sl1 (Z0 c om size kvs (Yc of (mF ia f) ia)++[ZM c (om.length+2) (om.length+5),.dk (Yl c of (Ss gs i (.move (mI ia g))))])=some (.ok (odW (some (.move g))),_):=((v2 (by rw[jm];rfl) v9).trans (UO om2n (by rw[G.len];omega) none)).trans (by rw[show told.getD (mI ia i) none=some (.move g) from q]);have n2:fB (f1 Wh (f2 kIx (Za 3) (Za 9))) sl1 _=some (.ok true,_):=ZW ((Wa tk2).trans rfl);refine⟨_,by rw[jm];rfl,(Zh b1).trans (ZK ((Lf n2).trans (Gk tk2 Uy))),_,_,jm,rfl,?_⟩;rw[mx,am];exact t.put i (.move (mI ia g))
   |help a g=>
    obtain⟨o1,o2,o3,o4,o5,o6,o7⟩:=ok;rw[hf]at o2 o3;obtain⟨s,es⟩:=fs o1
    obtain⟨s',jd⟩:∃s',at' (mF ia f) (mI ia a)=some s':=by
     rw[L1 (hm a o2),YM o2];cases z:at' f a with|none=>rw[z]at o5;cases o5|some s=>exact⟨_,rfl⟩
    have e:=EB (W gs) (S gs) (k:=i) (h:=mI ia a) (g:=mI ia g) es jd (by rw[lf];exact hm g o3) (λz=>o4 (by rw[← YM o2,z])) (by have:=hK _ _ hk o3 o6;rw[YM hil]at this;exact this) (o7.imp (λz=>by rw[z]) λz=>hK _ _ o2 o3 z) (by omega);rw[st,jv]at e
    have gk:∀j x,x<ia->[Wv.str "help",.int (a:Nat),.int (g:Nat)][j]?=some (.int (x:Nat))->f2 Xc (Za 5) (f2 kIx (f2 kIx (Za 3) (Za 9)) (fC (.int (j:Nat)))) sl1 om1=some (.ok (.int ((of:Int)+((mI ia x:Nat):Int))),om1):=λj x hx hj=>(Zs (Zb v5) ((Zs tk Zp).trans (ZI (k:=j) rfl hj))).trans (by
     show some (Except.ok (Wv.int (((size-1-off:Nat):Int)-(x:Int))),om1)=_;rw[eP x hx])
    have b2:=(Yn (S2:=Yo) (ch.trans (Gk tk Uy))).trans (ZY (w:=.non) ((Zz (Zb v10) (Zy ho1) (ZV "aid" _ _ (by decide) (by decide)) (Ze e9 (Ze (gk 1 a o2 rfl) (Ze (gk 2 g o3 rfl) Zi))) rfl).trans e));refine⟨_,by rw[jm];rfl,(Zh (ZK (cm.trans (Gk tk Th)))).trans b2,_,_,jm,rfl,?_⟩;rw[mx,am];exact t.put i (.help (mI ia a) (mI ia g))) ⟨[],x9,rfl,rfl,by rw[cA,Ny];exact Tell.start0 λk o e=>by obtain⟨_,_,rfl⟩:=bZ.mp e;rfl⟩
 rw[eQ,bP]at t;refine⟨gs,y9,?_,YV (sl1:=[]) (Ea rfl h7 h2) jO⟩
 have:Vq (mT ia told) (λk=>(at' (mF ia f) k).map λ_=>Od.stand) ia=at' (mT ia told):=by
  funext j;unfold Vq;by_cases h:j<ia
  ·rw[aC h]
  ·rw[aE h]
   show Option.map (λ_=>Od.stand) (at' (mF ia f) j)=_;rw[WN (l:=mF ia f) (by rw[lf];omega),WN (l:=mT ia told) (by simp[mT];omega)];rfl
 rw[← this];exact t
end
section
variable{c:CA}{ia off size:Nat}{rows:Mx}{f:hY}{told:iO}{sw tw:Wv}
def Dp(h2:2<=ia)(h7:ia<=7)(h1:off+ia<=size)(jL:size<=60)(lk:Lk ia rows)(hf:f.length=ia)(hs:∀k s,at' f k=some s->0<=s∧s<=7)(G:Givn rows f told)(om:iN)(hw:∀ij,(∀j,j<om.length->ij[j]?=om[j]?)->YI ij sw=some (f.map ZA))(ht:∀ij,(∀j,j<om.length->ij[j]?=om[j]?)->YI ij tw=some (told.map odW)):∃l kvs gs,Wb c [Zo ia off size,.lst (rows.map ZJ),sw,tw] om=some (.ok (.o (om.length+4)),om++l)∧l.length=6∧Sit c (om++l) (om.length+4) (om.length+2) om.length (om.length+3) (om.length+1) (om.length+5) size (size-off-ia) (mF ia f) kvs gs (mL ia rows) (mT ia told):=by
 have iQ:=ZQ;have lf:(mF ia f).length=ia:=by simp[mF]
 have s1:ZD 4 (fA (Y2 c.Map 2 (X0 c)) (Zc (f2 kIx (Za 0) (fC (.int 2))) Zj)) (slO (Zo ia off size) (.lst (rows.map ZJ)) sw tw none none none none none none none) om=some (.ok (.nx,slO (Zo ia off size) (.lst (rows.map ZJ)) sw tw (some (.o om.length)) none none none none none none),om++[Y0 c size (om.length+1),.dt []]):=Zw (i:=4) ((ZB (Ze ((Zs (Zb rfl) Zp).trans (ZI (k:=2) (v:=.int size) rfl rfl)) Zi)).trans (Nz c om))
 have s2:ZD 5 (f2 Xc (f2 Xc (f2 kIx (Za 0) (fC (.int 2))) (fC (.int 1))) (f2 kIx (Za 0) (fC (.int 1)))) (slO (Zo ia off size) (.lst (rows.map ZJ)) sw tw (some (.o om.length)) none none none none none none) (om++[Y0 c size (om.length+1),.dt []])=some (.ok (.nx,slO (Zo ia off size) (.lst (rows.map ZJ)) sw tw (some (.o om.length)) (some (.int (size-1-off:Nat))) none none none none none),om++[Y0 c size (om.length+1),.dt []]):=by
  have e:f2 Xc (f2 Xc (f2 kIx (Za 0) (fC (.int 2))) (fC (.int 1))) (f2 kIx (Za 0) (fC (.int 1))) (slO (Zo ia off size) (.lst (rows.map ZJ)) sw tw (some (.o om.length)) none none none none none none) (om++[Y0 c size (om.length+1),.dt []])=some (.ok (.int ((size:Int)-1-off)),om++[Y0 c size (om.length+1),.dt []]):=(Zs ((Zs ((Zs (Zb rfl) Zp).trans (ZI (k:=2) (v:=.int size) rfl rfl)) Zp).trans rfl) ((Zs (Zb rfl) Zp).trans (ZI (k:=1) (v:=.int off) rfl rfl))).trans rfl;rw[show((size:Int)-1-off)=((size-1-off:Nat):Int) by omega]at e;exact Zw (i:=5) e
 have s3:ZD 6 (fA (Y2 c.Board 2 (YO c)) (Zc (Za 4) Zj)) (slO (Zo ia off size) (.lst (rows.map ZJ)) sw tw (some (.o om.length)) (some (.int (size-1-off:Nat))) none none none none none) (om++[Y0 c size (om.length+1),.dt []])=some (.ok (.nx,slO (Zo ia off size) (.lst (rows.map ZJ)) sw tw (some (.o om.length)) (some (.int (size-1-off:Nat))) (some (.o (om.length+2))) none none none none),Z0 c om size [] []):=by
  refine(Zw (i:=6) ((ZB (Ze (Zb rfl) Zi)).trans (U8 c _ _))).trans ?_;rw[aT,bS];rfl
 obtain⟨kvs,x7,x8,L,s4⟩:=CJ (c:=c) (om:=om) (sw:=sw) (tw:=tw) lk h7 h1 h2;obtain⟨x9,s5⟩:=Cz (c:=c) (rows:=rows) (kvs:=kvs) (tw:=tw) h7 h1 h2 hf hs hw x7 x8;have hl:(Z0 c om size kvs (Yc (size-off-ia) (mF ia f) ia)).length=om.length+4:=by simp[Z0]
 have s6:ZD 10 (fA (Y2 c.Orders 2 (Y3 c)) (Zc (Za 6) Zj)) (slO (Zo ia off size) (.lst (rows.map ZJ)) sw tw (some (.o om.length)) (some (.int (size-1-off:Nat))) (some (.o (om.length+2))) x7 x8 x9 none) (Z0 c om size kvs (Yc (size-off-ia) (mF ia f) ia))=some (.ok (.nx,slO (Zo ia off size) (.lst (rows.map ZJ)) sw tw (some (.o om.length)) (some (.int (size-1-off:Nat))) (some (.o (om.length+2))) x7 x8 x9 (some (.o (om.length+4)))),Z0 c om size kvs (Yc (size-off-ia) (mF ia f) ia)++[ZM c (om.length+2) (om.length+5),.dk (Yl c (size-off-ia) [])]):=by
  refine(Zw (i:=10) ((ZB (Ze (Zb rfl) Zi)).trans (Re c _ _))).trans ?_;rw[hl];rfl
 obtain⟨gs,y9,t,s7⟩:=Bp (c:=c) (sw:=sw) h7 h1 jL h2 lk hf G L ht x7 x8 x9;have e:Wb c [Zo ia off size,.lst (rows.map ZJ),sw,tw] om=some (.ok (.o (om.length+4)),Z0 c om size kvs (Yc (size-off-ia) (mF ia f) ia)++[ZM c (om.length+2) (om.length+5),.dk (Yl c (size-off-ia) gs)]):=ZF ((Zh s1).trans ((Zh s2).trans ((Zh s3).trans ((Zh s4).trans ((Zh s5).trans ((Zh s6).trans ((Zh s7).trans (Zu (Zb (i:=10) rfl)))))))));have W:=(De (c:=c) (om:=om) (kvs:=kvs) (f:=mF ia f) (off:=size-off-ia) (size:=size) lf (by omega) jL).grow [ZM c (om.length+2) (om.length+5),.dk (Yl c (size-off-ia) gs)];have S:Os c (Z0 c om size kvs (Yc (size-off-ia) (mF ia f) ia)++[ZM c (om.length+2) (om.length+5),.dk (Yl c (size-off-ia) gs)]) (om.length+4) (om.length+2) (om.length+5) (size-off-ia) gs:=⟨by rw[bD (by rw[hl];omega),hl,dP];rfl,by rw[bD (by rw[hl];omega),hl,show om.length+5-(om.length+4)=1 by omega];rfl⟩;have A:Sit c _ _ _ _ _ _ _ _ _ _ _ _ _ _:=⟨W,S,mG G lk hf (by omega),t,λk s h=>?_⟩
 ·unfold Z0 at e A
  rw[bS]at e A;exact⟨_,kvs,gs,e,rfl,A⟩
 ·have hk:k<ia:=by rw[← lf];exact VZ h
  rw[L1 hk]at h;obtain⟨s',q,rfl⟩:=bZ.mp h;have:=hs _ s' q;omega
end
def gO(told:iO)(k:Nat):Nat:=match at' told k with
 |some (.move g)=>g
 |_=>0
section
variable{rows:Mx}{f:hY}{told:iO}
def Dw(hf:f.length<=60){k:Nat}(h:k∈WU told f 100 (mvL told f)):Z7 told f (WU told f 100 (mvL told f)) k=0:=by
 have hl:=XX told f;have e:=No told f 100 (mvL told f) (by omega);unfold fallen at e;rw[List.filter_eq_nil_iff]at e;have:=e k h;simpa using this
def CF(hf:f.length<=60){k g:Nat}(h:k∈WU told f 100 (mvL told f))(e:at' told k=some (.move g)):QF told f k g=false:=by
 have z:=Dw hf h;unfold Z7 at z;rw[e]at z;dsimp only at z;cases o:QF told f k g with
 |false=>rfl
 |true=>
  have:WE told f k g=1:=by unfold WE;rw[o];rfl
  rw[this]at z;simp at z
def Hb(hf:f.length<=60){i j g:Nat}(hi:i∈WU told f 100 (mvL told f))(hj:j∈WU told f 100 (mvL told f))(ei:at' told i=some (.move g))(ej:at' told j=some (.move g)):i=j:=by
 have sub:=T8 told f 100 (mvL told f)
 have one:∀{a b:Nat},a∈WU told f 100 (mvL told f)->b∈WU told f 100 (mvL told f)->at' told a=some (.move g)->at' told b=some (.move g)->a≠b->¬ fN told f a<=fN told f b:=λ{a b} ha hb ea eb jD hle=>by
  have o:=CF hf ha ea;unfold QF at o;rw[fw]at o;exact o b (aG.mpr ⟨sub.subset hb,by rw[bL eb,aL λz=>jD z.symm];rfl⟩) (bL hle)
 by_cases h:i=j
 ·exact h
 ·have a:=one hi hj ei ej h
  have b:=one hj hi ej ei λz=>h z.symm
  omega
def Nl{k:Nat}(h:k∈mvL told f):at' told k=some (.move (gO told k)):=by
 obtain⟨_,g,e⟩:=Wt.mp h;unfold gO;rw[e]
end
open PySem L2 Tb
def Yt(om l:iN)(i:Nat):(om++l)[om.length+i]?=l[i]?:=by rw[bD (by omega),d8]
def S3(om l:iN)(i:Nat)(x:Ob):(om++l).set (om.length+i) x=om++l.set i x:=by rw[bU _ _ (by omega),d8]
def UR{om l:iN}{i:Nat}{x:Ob}(h:om[i]?=some x):(om++l)[i]?=some x:=by rw[aQ (aH.mp h).1,h]
section
variable{sl:Sl}{om om1:iN}{us:hZ}{fv fd fk fo:FE}{h:Nat}{a s:Int}
def JU{C:Addr}{n:Str}{fs:iK}{v:Wv}(hv:fv sl om=some (.ok v,om1))(ho:fo sl om1=some (.ok (.o h),om1))(hi:om1[h]?=some (.ins C fs))(hl:fs.length<900):Xr C n fv fo sl om=some (.ok (.nx,sl),om1.set h (.ins C (X7 n v fs))):=by
 unfold Xr;rw[Zm hv,Zm ho];refine(Zm (a:=()) (om1:=om1.set h (.ins C (X7 n v fs))) ?_).trans rfl;simp[Nu,hi,hl]
def NQ(hv:fv sl om=some (.ok (.int s),om))(hd:fd sl om=some (.ok (.o h),om))(hk:fk sl om=some (.ok (.int a),om))(hx:om[h]?=some (.dk (ZH us)))(hn:us.lookup a=none)(hl:us.length<=60):YW fv fd fk sl om=some (.ok (.nx,sl),om.set h (.dk (ZH (us++[(a,s)])))):=by
 have iQ:=ZQ;have ip:us.length<lim:=by omega
 unfold YW;rw[Zm hv,Zm hd,Zm hk];refine(Zm (a:=()) (om1:=om.set h (.dk (ZH (us++[(a,s)])))) ?_).trans rfl;simp[Q9,OK,hx,Y8,OR,ip,IG s hn]
def NK(hx:om[h]?=some (.dk (ZH us)))(neg:Bool):W9 neg (.int a) (.o h) om=some (.ok (.bl (if neg then !(us.lookup a).isSome else (us.lookup a).isSome)),om):=by
 simp[W9,Wm,hx,Y8,Tv]
def NC(hx:om[h]?=some (.dk (ZH us)))(e:us.lookup a=some s):Wi (.o h) (.int a) om=some (.ok (.int s),om):=by
 simp[Wi,Wm,hx,Y8,Tv,e]
def Dr{k:iJ->Mw Wv}{n:Nat}{js:iD}{fi:FI}{c:FT}{f:FE}{ws us:iJ}(h:fi sl om=some (.ok ws,om))(hl:ws.length<=lim)(ht:ws.all (Dn n)=true)(hc:Xm c f (λw=>SX js w sl) ws om=some (.ok us,om)):Vm k n js fi c f sl om=k us om:=by
 unfold Vm;rw[Zm h];refine(Zm (a:=()) (om1:=om) (Of ?_)).trans ?_
 ·rw[bL hl,ht];rfl
 ·exact Zm hc
end
def Nx{us:hZ}{k:Int}(h:∀s,(k,s) ∉ us):us.lookup k=none:=by
 cases e:us.lookup k with
 |none=>rfl
 |some s=>exact absurd (Tu e) (h s)
abbrev goP(off:Nat)(g:Nat->Nat)(F:iD):hZ:=F.map λ(k:Nat)=>((off:Int)+k,(off:Int)+g k)
abbrev coP(off:Nat)(g:Nat->Nat)(F:iD):hZ:=F.map λ(k:Nat)=>((off:Int)+g k,(off:Int)+k)
abbrev sN(f:hY)(k:Nat):Int:=(at' f k).getD 0
abbrev unP(off:Nat)(f:hY)(l:iD):hZ:=l.map λ(k:Nat)=>((off:Int)+k,sN f k)
abbrev gnP(off:Nat)(f:hY)(g:Nat->Nat)(l:iD):hZ:=l.map λ(k:Nat)=>((off:Int)+g k,sN f k)
def J9(off a b:Nat):((off:Int)+a == (off:Int)+b)=decide (a=b):=by
 by_cases h:a=b
 ·subst h;simp
 ·rw[aL h,aY];omega
def Qg(off:Nat)(v:Nat->Int)(x:Nat):∀F:iD,(F.map λ(k:Nat)=>((off:Int)+k,v k)).lookup ((off:Int)+x)=if F.contains x=true then some (v x) else none
 |[]=>rfl
 |k::F=>by
  rw[aU,aN,J9,gD];by_cases e:x=k
  ·subst e;simp
  ·rw[aL e,aY.mpr e,fI]
   exact Qg off v x F
def Dm(off:Nat)(g:Nat->Nat)(v:Nat->Int)(x:Nat):∀F:iD,((F.map λ(k:Nat)=>((off:Int)+g k,v k)).lookup ((off:Int)+x)).isSome=(F.map g).contains x
 |[]=>rfl
 |k::F=>by
  rw[aU,aN,J9,aU,gD];by_cases e:x=g k
  ·subst e;simp
  ·rw[aL e,aY.mpr e,fI]
   exact Dm off g v x F
structure Trn(off:Nat)(f:hY)(told:iO)(g:Nat->Nat)(F:iD):Prop where
 fin:WU told f 100 (mvL told f)=F
 mv:∀k∈mvL told f,at' told k=some (.move (g k))
 sub:∀k∈F,k∈mvL told f
 nd:F.Nodup
 inj:∀i∈F,∀j∈F,g i=g j->i=j
 few:(mvL told f).length<=30
 gap:(YD [] ((mvL told f).map λ(k:Nat)=>(off:Int)+g k)).length / 4<=(YD [] (F.map λ(k:Nat)=>(off:Int)+g k)).length∨F=[]
abbrev tn1(a:Wv):iK:=[("goals",a)]
abbrev tn2(a b:Wv):iK:=[("goals",a),("comers",b)]
abbrev tn3(a b d:Wv):iK:=[("goals",a),("comers",b),("pushed",d)]
abbrev tn4(a b d e:Wv):iK:=[("goals",a),("comers",b),("pushed",d),("closed",e)]
abbrev tn5(a b d e g:Wv):iK:=[("goals",a),("comers",b),("pushed",d),("closed",e),("board",g)]
def pf2(a b:Wv):X7 (Str.ofString "comers") b (tn1 a)=tn2 a b:=by simp[X7,Wr]
def pf3(a b d:Wv):X7 (Str.ofString "pushed") d (tn2 a b)=tn3 a b d:=by simp[X7,Wr]
def pf4(a b d e:Wv):X7 (Str.ofString "closed") e (tn3 a b d)=tn4 a b d e:=by simp[X7,Wr]
def pf5(a b d e g:Wv):X7 (Str.ofString "board") g (tn4 a b d e)=tn5 a b d e g:=by simp[X7,Wr]
def lg(a:Wv)(r:iK):List.lookup (Str.ofString "goals") ((Str.ofString "goals",a)::r)=some a:=by simp[aN,YZ]
def lc(a b:Wv)(r:iK):List.lookup (Str.ofString "comers") ((Str.ofString "goals",a)::(Str.ofString "comers",b)::r)=some b:=by simp[aN,YZ]
def lp(a b d:Wv)(r:iK):List.lookup (Str.ofString "pushed") ((Str.ofString "goals",a)::(Str.ofString "comers",b)::(Str.ofString "pushed",d)::r)=some d:=by simp[aN,YZ]
section
variable{c:CA}{om:iN}{ho hb hm hu hl hg size off:Nat}{f:hY}{kvs:iL}{gs:Gs}{rows:Mx}{told:iO}{g:Nat->Nat}{F:iD}
def E9(A:Sit c om ho hb hm hu hl hg size off f kvs gs rows told){k gg:Nat}(e:at' told k=some (.move gg)){sl:Sl}{i j:Nat}(s0:sl[i]?=some (some (.o ho)))(s1:sl[j]?=some (some (.int ((off:Int)+k)))):Zq c.Orders "goal_of" 2 (Zn c) (Za i) (Zc (Za j) Zj) sl om=some (.ok (.int ((off:Int)+gg)),om):=Rm A e s0 s1
def KZ(off:Nat)(f:hY)(l:iD):(unP off f l).map prW=l.map λ(k:Nat)=>prW ((off:Int)+k,sN f k):=by rw[unP,aS];rfl
def gnP_W(off:Nat)(f:hY)(g:Nat->Nat)(l:iD):(gnP off f g l).map prW=l.map λ(k:Nat)=>prW ((off:Int)+g k,sN f k):=by rw[gnP,aS];rfl
def DP(A:Sit c om ho hb hm hu hl hg size off f kvs gs rows told){sl:Sl}{fo:FE}(h:fo sl om=some (.ok (.o hb),om)):(λsl=>bnd ((Zq c.Board "roll" 1 (ZU c) fo Zj) sl) ZN) sl om=some (.ok ((unP off f (Z6 f f.length)).map prW),om):=by
 refine(Zm ((Zz h (Zy A.W.b) (Yi _ _ _ (by decide) (by decide)) Zi rfl).trans (DL A.W))).trans ?_;rw[KZ];rfl
def Ti{k:Nat}(h:k∈Z6 f f.length):k<f.length∧at' f k=some (sN f k):=by
 obtain⟨h1,h2⟩:=aG.mp h;obtain⟨s,e⟩:=bE.mp h2;exact⟨aX.mp h1,by unfold sN;rw[e];rfl⟩
def UU(f:hY):(Z6 f f.length).Nodup:=dU.sublist bY
def Ii(l:hZ):(l.map prW).all (Dn 2)=true:=by
 rw[cQ];intro w hw;obtain⟨x,_,rfl⟩:=aZ.mp hw;rfl
abbrev WH(f:hY)(F:iD):iD:=(Z6 f f.length).filter λx=>F.contains x
abbrev kept(f:hY)(g:Nat->Nat)(F:iD):iD:=(Z6 f f.length).filter λx=>!F.contains x&&!(F.map g).contains x
abbrev push(f:hY)(g:Nat->Nat)(F:iD):iD:=(Z6 f f.length).filter λx=>(F.map g).contains x&&!F.contains x
def UL(f:hY)(g:Nat->Nat)(F:iD):(WH f F).length+(kept f g F).length<=(Z6 f f.length).length:=by
 unfold WH kept
 induction Z6 f f.length with
 |nil=>simp
 |cons x l ih=>
  rw[cW,cW];cases F.contains x
  ·cases (F.map g).contains x <;> simp at ih ⊢ <;> omega
  ·simp at ih ⊢;omega
def PX:∀{l m:iD},l.Nodup->(∀x∈l,x∈m)->l.length<=m.length
 |[],_,_,_=>cy _
 |x::l,m,nd,h=>by
  have hx:=h x (.head _);have nd:=cL.mp nd;have:=PX (l:=l) (m:=m.erase x) nd.2 λy hy=>(List.mem_erase_of_ne λz:y=x=>nd.1 (z ▸ hy)).mpr (h y (.tail _ hy))
  have e:=List.length_erase_of_mem hx;have p:0<m.length:=List.length_pos_of_mem hx;show l.length+1<=m.length;omega
def Po(A:Sit c om ho hb hm hu hl hg size off f kvs gs rows told){hG hC:Nat}(e1:om[hG]?=some (.dk (ZH (goP off g F))))(e2:om[hC]?=some (.dk (ZH (coP off g F)))):Wp c [.o hb,.o hG,.o hC] om=some (.ok (.lst ((gnP off f g (WH f F)++unP off f (kept f g F)).map prW)),om):=by
 have iQ:=ZQ;have jp:=A.few;have hu:=Wo f f.length;have l1:(WH f F).length<=(Z6 f f.length).length:=aV _ _;have l2:(kept f g F).length<=(Z6 f f.length).length:=aV _ _
 have i1:∀(x:Nat) (neg:Bool),W9 neg (.int ((off:Int)+x)) (.o hG) om=some (.ok (.bl (if neg then !F.contains x else F.contains x)),om):=λx neg=>by
  rw[NK e1,Qg];cases F.contains x <;> cases neg <;> rfl
 have i2:∀(x:Nat) (neg:Bool),W9 neg (.int ((off:Int)+x)) (.o hC) om=some (.ok (.bl (if neg then !(F.map g).contains x else (F.map g).contains x)),om):=λx neg=>by
  rw[NK e2,Dm]
 have a1:ZD 3 (Vm ZL 2 [1] (λsl=>bnd ((Zq c.Board "roll" 1 (ZU c) (Za 0) Zj) sl) ZN) (Vc c) (Ve c)) [some (.o hb),some (.o hG),some (.o hC),none,none] om=some (.ok (.nx,[some (.o hb),some (.o hG),some (.o hC),some (.lst ((gnP off f g (WH f F)).map prW)),none]),om):=by
  have cm:=YE (cT:=Vc c) (f:=Ve c) (mk:=λw=>SX [1] w [some (.o hb),some (.o hG),some (.o hC),none,none]) (om:=om) (λ(k:Nat)=>prW ((off:Int)+k,sN f k)) (λk=>F.contains k) (λk=>prW ((off:Int)+g k,sN f k)) (l:=Z6 f f.length) (λk hk=>ZW ((v2 rfl rfl).trans (i1 k false))) (λk hk hc=>(ZB (Ze ((v2 rfl rfl).trans (NC e1 (by rw[Qg,aC hc]))) (Ze (Zb rfl) Zi))).trans (Y5 (by simp)));refine Zw (i:=3) ((Dr (ws:=(unP off f (Z6 f f.length)).map prW) (DP A (Zb rfl)) (by simp only[aA];omega) (Ii _) (us:=(gnP off f g (WH f F)).map prW) ?_).trans (YB (by simp only[aA];omega)));rw[← KZ off f (Z6 f f.length),← gnP_W off f g (WH f F)]at cm;exact cm
 have a2:ZD 4 (Vm ZL 2 [1,2] (λsl=>bnd ((Zq c.Board "roll" 1 (ZU c) (Za 0) Zj) sl) ZN) (W7 c) (Vk c)) [some (.o hb),some (.o hG),some (.o hC),some (.lst ((gnP off f g (WH f F)).map prW)),none] om=some (.ok (.nx,[some (.o hb),some (.o hG),some (.o hC),some (.lst ((gnP off f g (WH f F)).map prW)),some (.lst ((unP off f (kept f g F)).map prW))]),om):=by
  have cm:=YE (cT:=W7 c) (f:=Vk c) (mk:=λw=>SX [1,2] w [some (.o hb),some (.o hG),some (.o hC),some (.lst ((gnP off f g (WH f F)).map prW)),none]) (om:=om) (λ(k:Nat)=>prW ((off:Int)+k,sN f k)) (λx=>!F.contains x&&!(F.map g).contains x) (λk=>prW ((off:Int)+k,sN f k)) (l:=Z6 f f.length) (λk hk=>Sv (ZW ((v2 rfl rfl).trans (i1 k true))) λ_=>ZW ((v2 rfl rfl).trans (i2 k true))) (λk hk hc=>(ZB (Ze (Zb rfl) (Ze (Zb rfl) Zi))).trans (Y5 (by simp)));refine Zw (i:=4) ((Dr (ws:=(unP off f (Z6 f f.length)).map prW) (DP A (Zb rfl)) (by simp only[aA];omega) (Ii _) (us:=(unP off f (kept f g F)).map prW) ?_).trans (YB (by simp only[aA];omega)));rw[← KZ off f (Z6 f f.length),← KZ off f (kept f g F)]at cm;exact cm
 refine ZF ((Zh a1).trans ((Zh a2).trans (Zu ((v2 rfl rfl).trans ?_))));unfold kCat;dsimp only;rw[aC (by simp only[aA];omega),cu]
def GP{om:iN}{hm hl:Nat}{us:hZ}(h2:om[hm]?=some (Y0 c (size:Nat) hl))(nd:(us.map (·.1)).Nodup)(hr:∀x∈us,(0<=x.1∧x.1<(size:Nat))∧0<=x.2∧x.2<=7)(mW:us.length<=60):XB c [.o hm,.lst (us.map prW)] om=some (.ok (.o om.length),om++[Yv c hm (om.length+1),.dk (ZH us)]):=by
 have iQ:=ZQ;have a1:ZD 2 (fA (Y2 c.Board 2 (YO c)) (Zc (Za 0) Zj)) [some (.o hm),some (.lst (us.map prW)),none,none,none] om=some (.ok (.nx,[some (.o hm),some (.lst (us.map prW)),some (.o om.length),none,none]),om++[Yv c hm (om.length+1),.dk (ZH [])]):=Zw (i:=2) ((ZB (Ze (Zb rfl) Zi)).trans (U8 (c:=c) om hm))
 obtain⟨iS,ij,a2,x3,x4,rfl,rfl⟩:=WC (T:=FV [3,4]) (S:=UD c) prW (λpre sl ij=>∃x3 x4,sl=[some (.o hm),some (.lst (us.map prW)),some (.o om.length),x3,x4]∧ij=om++[Yv c hm (om.length+1),.dk (ZH pre)]) us [] (sl:=[some (.o hm),some (.lst (us.map prW)),some (.o om.length),none,none]) (om:=om++[Yv c hm (om.length+1),.dk (ZH [])]) (λpre x post hq sl ij ⟨x3,x4,h1,ji⟩=>by
  subst h1 ji;have hq:us=pre++x::post:=hq;have hx:=hr x (by rw[hq];simp);have hln:pre.length<=60:=by rw[hq,aT]at mW;omega
  have hn:pre.lookup x.1=none:=Nx λs hs=>by
   rw[hq,cu,aU]at nd;have:=(cH.mp nd).2.2 x.1 (aZ.mpr ⟨_,hs,rfl⟩) x.1 (.head _);exact this rfl
  have e:=MA (c:=c) (om:=om++[Yv c hm (om.length+1),.dk (ZH pre)]) (hb:=om.length) (hm:=hm) (hu:=om.length+1) (hl:=hl) (size:=(size:Nat)) (us:=pre) (Yt om _ 0) (UR h2) (Yt om _ 1) (a:=x.1) (s:=x.2) hx.1 hx.2 hn (by omega);rw[S3]at e;refine⟨_,_,_,rfl,ZY ((Zz (Zb rfl) (Zy (Yt om _ 0)) (Yi _ _ _ (by decide) (by decide)) (Ze (Zb rfl) (Ze (Zb rfl) Zi)) rfl).trans e),_,_,rfl,rfl⟩) ⟨none,none,rfl,rfl⟩
 exact ZF ((Zh a1).trans ((Zh (YV (sl1:=[]) ((Zm (Zb (i:=1) (w:=.lst (us.map prW)) rfl)).trans rfl) a2)).trans (Zu (Zb rfl))))
end
def Og(om l:iN)(x:Ob):(om++l).set om.length x=om++l.set 0 x:=S3 om l 0 x
def newO_e(om l:iN)(x:Ob)(sl:Sl):(λ(_:Sl)=>newO x) sl (om++l)=some (.ok (.o (om.length+l.length)),om++(l++[x])):=by
 show some (Except.ok (Wv.o (om++l).length),om++l++[x])=_;rw[aT,bS]
def Q2{C:Addr}{n:Str}{fs:iK}(om l:iN)(sl:Sl)(h0:sl[0]?=some (some (.o om.length)))(hi:l[0]?=some (.ins C fs))(hl:fs.length<900):Xr C n (λ_=>newO (.dk [])) (Za 0) sl (om++l)=some (.ok (.nx,sl),om++(l++[Ob.dk []]).set 0 (.ins C (X7 n (.o (om.length+l.length)) fs))):=by
 have:=JU (n:=n) (fv:=λ_=>newO (.dk [])) (fo:=Za 0) (sl:=sl) (om:=om++l) (h:=om.length) (newO_e om l (.dk []) sl) (Zb h0) ((Yt om (l++[.dk []]) 0).trans (UR hi)) hl;rw[Og]at this;exact this
def Oh:∀us:hZ,Tz (ZH us)=some (us.map (·.1))
 |[]=>rfl
 |x::us=>by
  have:=Oh us;show(match Tz (ZH us) with|some ns=>some (x.1::ns)|none=>none)=_;rw[this];rfl
def NM(ns ks:iC):(sdL ns ks).length<=ns.length:=by
 unfold sdL;rw[(Yh _).length_eq];refine cg (aV _ _) ?_;have:=XG ns [];simpa using this
def HU{sl:Sl}{om:iN}{fa fb:FE}{ns:iC}{us:hZ}{h:Nat}(ha:fa sl om=some (.ok (.lst (ns.map Wv.int)),om))(hb:fb sl om=some (.ok (.o h),om))(hx:om[h]?=some (.dk (ZH us)))(h1:ns.length<31)(h2:us.length<31)(gap:(YD [] ns).length / 4<=(YD [] (us.map (·.1))).length∨us.map (·.1)=[]):UW ZL fa fb sl om=some (.ok (.lst ((sdL ns (us.map (·.1))).map Wv.int)),om):=by
 have hl:=NM ns (us.map (·.1));unfold UW;rw[Zm ha];refine(Zm (a:=ns) (om1:=om) ?_).trans ?_
 ·simp[MC,Uo,h1]
 rw[Zm hb];refine(Zm (a:=(sdL ns (us.map (·.1))).map Wv.int) (om1:=om) ?_).trans (YB (by rw[aA];omega));unfold SF;dsimp only;rw[hx];dsimp only;rw[Oh];dsimp only;rw[aC ⟨by rw[aA];exact h2,gap⟩]
section
variable{c:CA}{om:iN}{ho hb hm hu hl hg size off:Nat}{f:hY}{kvs:iL}{gs:Gs}{rows:Mx}{told:iO}{g:Nat->Nat}{F:iD}
def Trn.lt(A:Sit c om ho hb hm hu hl hg size off f kvs gs rows told)(T:Trn off f told g F){k:Nat}(h:k∈mvL told f):g k<f.length:=by
 have h1:=(Wt.mp h).1;have:=A.G.ok k h1;rw[T.mv k h]at this;exact this.2.1
def E4(T:Trn off f told g F):((gnP off f g (WH f F)++unP off f (kept f g F)).map (·.1)).Nodup:=by
 rw[cu,aS,aS,cH];refine⟨?_,?_,?_⟩
 ·refine bO.mpr (List.Pairwise.imp_of_mem (λ{a b} ha hb h e=>?_) ((UU f).sublist bY))
  have ha:=bB.mp (aG.mp ha).2;have hb:=bB.mp (aG.mp hb).2;have e:(off:Int)+g a=(off:Int)+g b:=e;exact h (T.inj a ha b hb (by omega))
 ·refine bO.mpr (((UU f).sublist bY).imp λ{a b} h e=>?_)
  have e:(off:Int)+a=(off:Int)+b:=e;exact h (by omega)
 ·intro a ha b hb e
  obtain⟨i,hi,rfl⟩:=aZ.mp ha;obtain⟨j,hj,rfl⟩:=aZ.mp hb;have e:(off:Int)+g i=(off:Int)+j:=e;have hi:=bB.mp (aG.mp hi).2;have hj:=(aG.mp hj).2;rw[bT,fF,fF]at hj;have:j∈F.map g:=aZ.mpr ⟨i,hi,by omega⟩;rw[bB.mpr this]at hj;exact nomatch hj.2
def Dh(A:Sit c om ho hb hm hu hl hg size off f kvs gs rows told)(T:Trn off f told g F):∀x∈gnP off f g (WH f F)++unP off f (kept f g F),(0<=x.1∧x.1<(size:Nat))∧0<=x.2∧x.2<=7:=λx hx=>by
 have hfit:=A.W.fit;rcases dH.mp hx with hx|hx
 ·obtain⟨k,hk,rfl⟩:=aZ.mp hx
  obtain⟨h1,h2⟩:=aG.mp hk;have h3:=T.lt A (T.sub k (bB.mp h2));exact⟨⟨by show(0:Int)<=(off:Int)+g k;omega,by show(off:Int)+g k<_;omega⟩,A.s7 k _ (Ti h1).2⟩
 ·obtain⟨k,hk,rfl⟩:=aZ.mp hx
  obtain⟨h1,h2⟩:=aG.mp hk;have h3:=(Ti h1).1;exact⟨⟨by show(0:Int)<=(off:Int)+k;omega,by show(off:Int)+k<_;omega⟩,A.s7 k _ (Ti h1).2⟩
abbrev tOf(c:CA)(N:Nat)(cl:iC):Ob:=.ins c.Turn (tn5 (.o (N+1)) (.o (N+2)) (.o (N+3)) (.lst (cl.map Wv.int)) (.o (N+4)))
abbrev clL(off:Nat)(told:iO)(f:hY)(g:Nat->Nat)(F:iD):iC:=sdL ((mvL told f).map λ(k:Nat)=>(off:Int)+g k) (F.map λ(k:Nat)=>(off:Int)+g k)
abbrev t2(c:CA)(om:iN)(a b:hZ):iN:=om++[.ins c.Turn (tn2 (.o (om.length+1)) (.o (om.length+2))),.dk (ZH a),.dk (ZH b)]
abbrev t3(c:CA)(om:iN)(a b d:hZ):iN:=om++[.ins c.Turn (tn3 (.o (om.length+1)) (.o (om.length+2)) (.o (om.length+3))),.dk (ZH a),.dk (ZH b),.dk (ZH d)]
abbrev sT(om:iN)(ho:Nat)(x y z:Option Wv):Sl:=[some (.o om.length),some (.o ho),x,y,z]
def CT(A:Sit c om ho hb hm hu hl hg size off f kvs gs rows told)(T:Trn off f told g F):Y2 c.Turn 2 (Xv c) [.o ho] om=some (.ok (.o om.length),om++[tOf c om.length (clL off told f g F),.dk (ZH (goP off g F)),.dk (ZH (coP off g F)),.dk (ZH (unP off f (push f g F))),Yv c hm (om.length+5),.dk (ZH (gnP off f g (WH f F)++unP off f (kept f g F)))]):=by
 have iQ:=ZQ;have jp:=A.few;have hml:=XX told f;have hul:=Wo f f.length;have hmf:=T.few;have hFl:F.length<=30:=cg (PX T.nd T.sub) hmf;have s1:Xr c.Turn "goals" (λ_=>newO (.dk [])) (Za 0) (sT om ho none none none) (om++[.ins c.Turn []])=some (.ok (.nx,(sT om ho none none none)),om++[.ins c.Turn (tn1 (.o (om.length+1))),.dk []]):=(Q2 om [.ins c.Turn []] _ rfl rfl (by simp)).trans rfl;have s2:Xr c.Turn "comers" (λ_=>newO (.dk [])) (Za 0) (sT om ho none none none) (om++[.ins c.Turn (tn1 (.o (om.length+1))),.dk []])=some (.ok (.nx,(sT om ho none none none)),t2 c om (goP off g []) (coP off g [])):=(Q2 om [.ins c.Turn (tn1 (.o (om.length+1))),.dk []] _ rfl rfl (by simp)).trans (by rw[pf2];rfl)
 have i3:(λsl=>bnd ((fA (kN 1 (XF c)) (Zc (Za 1) Zj)) sl) ZN) (sT om ho none none none) (t2 c om (goP off g []) (coP off g []))=some (.ok (F.map λ(k:Nat)=>Wv.int ((off:Int)+k)),t2 c om (goP off g []) (coP off g [])):=by
  have:=Sw (A.grow [.ins c.Turn (tn2 (.o (om.length+1)) (.o (om.length+2))),.dk (ZH (goP off g [])),.dk (ZH (coP off g []))]);rw[T.fin]at this;refine(Zm ((ZB (Ze (Zb rfl) Zi)).trans ((YG rfl).trans this))).trans ?_;rfl
 obtain⟨iS,ij,s3,x2,rfl,rfl⟩:=WC (T:=tgN 2) (S:=SV c) (λ(k:Nat)=>Wv.int ((off:Int)+k)) (λpre sl ij=>∃x,sl=(sT om ho x none none)∧ij=t2 c om (goP off g pre) (coP off g pre)) F [] (sl:=(sT om ho none none none)) (om:=t2 c om (goP off g []) (coP off g [])) (λpre k post hq sl ij ⟨x,h1,h2⟩=>by
  subst h1 h2;have hq:F=pre++k::post:=hq;have hkF:k∈F:=by rw[hq];simp
  have hmk:=T.mv k (T.sub k hkF);have iR:pre.length<=30:=by rw[hq,aT]at hFl;omega
  have hkn:k ∉ pre:=λz=>by
   have:=T.nd;rw[hq]at this;exact(cH.mp this).2.2 k z k (.head _) rfl
  have n1:(goP off g pre).lookup ((off:Int)+k)=none:=by
   rw[Qg,aE λz=>hkn (bB.mp z)]
  have n2:(coP off g pre).lookup ((off:Int)+g k)=none:=Nx λs hs=>by
   obtain⟨j,hj,e⟩:=aZ.mp hs;have e:(off:Int)+g j=(off:Int)+g k:=cE Prod.fst e;have:=T.inj j (by rw[hq];exact gf _ hj) k hkF (by omega);exact hkn (this ▸ hj)
  have e1:=NQ (om:=t2 c om (goP off g pre) (coP off g pre)) (sl:=(sT om ho (some (.int ((off:Int)+k))) none none)) (us:=goP off g pre) (a:=((off:Int)+k)) (s:=((off:Int)+g k)) (h:=om.length+1) (fd:=f1 (ZR c.Turn "goals") (Za 0)) (fk:=Za 2) (E9 (A.grow _) hmk (i:=1) (j:=2) rfl rfl) (Yz rfl (Yt om _ 0) (lg ..)) (Zb rfl) (Yt om _ 1) n1 (by rw[aA];omega);rw[S3,show goP off g pre++[(((off:Int)+k),((off:Int)+g k))]=goP off g (pre++[k]) by rw[goP,goP,cu];rfl]at e1;have e2:=NQ (om:=t2 c om (goP off g (pre++[k])) (coP off g pre)) (sl:=(sT om ho (some (.int ((off:Int)+k))) none none)) (us:=coP off g pre) (a:=((off:Int)+g k)) (s:=((off:Int)+k)) (h:=om.length+2) (fv:=Za 2) (fd:=f1 (ZR c.Turn "comers") (Za 0)) (Zb rfl) (Yz rfl (Yt om _ 0) (lc ..)) (E9 (A.grow _) hmk (i:=1) (j:=2) rfl rfl) (Yt om _ 2) n2 (by rw[aA];omega);rw[S3,show coP off g pre++[(((off:Int)+g k),((off:Int)+k))]=coP off g (pre++[k]) by rw[coP,coP,cu];rfl]at e2;exact⟨_,_,_,rfl,(Zh e1).trans e2,_,rfl,rfl⟩) ⟨none,rfl,rfl⟩
 have s4:Xr c.Turn "pushed" (λ_=>newO (.dk [])) (Za 0) (sT om ho x2 none none) (t2 c om (goP off g ([]++F)) (coP off g ([]++F)))=some (.ok (.nx,(sT om ho x2 none none)),t3 c om (goP off g F) (coP off g F) (unP off f [])):=(Q2 om [.ins c.Turn (tn2 (.o (om.length+1)) (.o (om.length+2))),.dk (ZH (goP off g ([]++F))),.dk (ZH (coP off g ([]++F)))] _ rfl rfl (by simp)).trans (by rw[pf3];rfl);have i5:=DP (A.grow [.ins c.Turn (tn3 (.o (om.length+1)) (.o (om.length+2)) (.o (om.length+3))),.dk (ZH (goP off g F)),.dk (ZH (coP off g F)),.dk (ZH (unP off f []))]) (sl:=(sT om ho x2 none none)) (fo:=f1 (ZR c.Orders "board") (Za 1)) (WF (A.grow _).S rfl);rw[KZ]at i5
 obtain⟨iS,ij,s5,y2,y3,rfl,rfl⟩:=WC (T:=FV [2,3]) (S:=SY c) (λ(k:Nat)=>prW ((off:Int)+k,sN f k)) (λpre sl ij=>∃y2 y3,sl=(sT om ho y2 y3 none)∧ij=t3 c om (goP off g F) (coP off g F) (unP off f (pre.filter λx=>(F.map g).contains x&&!F.contains x))) (Z6 f f.length) [] (sl:=(sT om ho x2 none none)) (om:=t3 c om (goP off g F) (coP off g F) (unP off f [])) (λpre k post hq sl ij ⟨y2,y3,h1,h2⟩=>by
  subst h1 h2;have hq:Z6 f f.length=pre++k::post:=hq
  have hkn:k ∉ pre:=λz=>by
   have:=UU f;rw[hq]at this;exact(cH.mp this).2.2 k z k (.head _) rfl
  have iR:pre.length<=60:=by rw[hq,aT]at hul;omega
  have hpf:=aV (λx=>(F.map g).contains x&&!F.contains x) pre
  have cc:∀P:hZ,UG (fB (f2 (W9 false) (Za 2) (f1 (ZR c.Turn "comers") (Za 0)))) (fB (f2 (W9 true) (Za 2) (f1 (ZR c.Turn "goals") (Za 0)))) (sT om ho (some (.int ((off:Int)+k))) (some (.int (sN f k))) none) (t3 c om (goP off g F) (coP off g F) P)=some (.ok ((F.map g).contains k&&!F.contains k),t3 c om (goP off g F) (coP off g F) P):=λP=>by
   refine Sv (ZW ((Zs (Zb rfl) (Yz rfl (Yt om _ 0) (lc ..))).trans ((NK (Yt om _ 2) false).trans ?_))) λ_=>ZW ((Zs (Zb rfl) (Yz rfl (Yt om _ 0) (lg ..))).trans ((NK (Yt om _ 1) true).trans ?_))
   ·rw[Dm];rfl
   ·rw[Qg]
    cases F.contains k <;> rfl
  by_cases hp:((F.map g).contains k&&!F.contains k)=true
  ·rw[hp]at cc
   have n1:(unP off f (pre.filter λx=>(F.map g).contains x&&!F.contains x)).lookup ((off:Int)+k)=none:=by
    rw[Qg,aE λz=>hkn (aG.mp (bB.mp z)).1]
   have e1:=NQ (om:=t3 c om (goP off g F) (coP off g F) (unP off f (pre.filter λx=>(F.map g).contains x&&!F.contains x))) (sl:=(sT om ho (some (.int ((off:Int)+k))) (some (.int (sN f k))) none)) (us:=unP off f (pre.filter λx=>(F.map g).contains x&&!F.contains x)) (a:=((off:Int)+k)) (s:=sN f k) (h:=om.length+3) (fv:=Za 3) (fd:=f1 (ZR c.Turn "pushed") (Za 0)) (fk:=Za 2) (Zb rfl) (Yz rfl (Yt om _ 0) (lp ..)) (Zb rfl) (Yt om _ 3) n1 (by rw[aA];omega);rw[S3,show unP off f (pre.filter λx=>(F.map g).contains x&&!F.contains x)++[(((off:Int)+k),sN f k)]=unP off f ((pre++[k]).filter λx=>(F.map g).contains x&&!F.contains x) by rw[eY,unP,unP,cu,List.filter_cons_of_pos (p:=λx=>(F.map g).contains x&&!F.contains x) hp];rfl]at e1;exact⟨_,_,_,rfl,(Yn (cc _)).trans e1,_,_,rfl,rfl⟩
  ·rw[Bool.not_eq_true]at hp
   rw[hp]at cc;refine⟨_,_,_,rfl,ZK (cc _),_,_,rfl,?_⟩;rw[eY,List.filter_cons_of_neg (p:=λx=>(F.map g).contains x&&!F.contains x) (by rw[hp];exact aJ),gT,cC]) ⟨x2,none,rfl,rfl⟩
 have s5':=YV (fi:=λsl=>bnd ((Zq c.Board "roll" 1 (ZU c) (f1 (ZR c.Orders "board") (Za 1)) Zj) sl) ZN) (sl1:=[]) i5 s5;rw[eQ]at s5';generalize hP:(Z6 f f.length).filter (λx=>(F.map g).contains x&&!F.contains x)=P at s5'
 have s6:ZD 4 (Z5 ZL [1] (λsl=>bnd ((Zq c.Orders "movers" 1 (ZS c) (Za 1) Zj) sl) ZN) Xh (SR c)) (sT om ho y2 y3 none) (t3 c om (goP off g F) (coP off g F) (unP off f P))=some (.ok (.nx,(sT om ho y2 y3 (some (.lst (((mvL told f).map λ(k:Nat)=>(off:Int)+g k).map Wv.int))))),t3 c om (goP off g F) (coP off g F) (unP off f P)):=by
  have AA:Sit c (t3 c om (goP off g F) (coP off g F) (unP off f P)) ho hb hm hu hl hg size off f kvs gs rows told:=A.grow _;generalize t3 c om (goP off g F) (coP off g F) (unP off f P)=st at AA;have mv:=SW AA;refine Zw (i:=4) ((Wj (ws:=(mvL told f).map λ(k:Nat)=>Wv.int ((off:Int)+k)) (om1:=st) ((Zm ((Zz (Zb rfl) (Zy AA.S.o) (ZV _ _ _ (by decide) (by decide)) Zi rfl).trans mv)).trans rfl) (by rw[aA];omega) (YE (λ(k:Nat)=>Wv.int ((off:Int)+k)) (λ_=>true) (λk=>Wv.int ((off:Int)+g k)) (λk hk=>rfl) (λk hk _=>E9 AA (T.mv k hk) rfl rfl))).trans ?_);rw[cb.mpr (λ_ _=>rfl),aS];exact YB (by rw[aA];omega)
 have s7:Xr c.Turn "closed" (UW ZL (Za 4) (f1 (ZR c.Turn "comers") (Za 0))) (Za 0) (sT om ho y2 y3 (some (.lst (((mvL told f).map λ(k:Nat)=>(off:Int)+g k).map Wv.int)))) (t3 c om (goP off g F) (coP off g F) (unP off f P))=some (.ok (.nx,(sT om ho y2 y3 (some (.lst (((mvL told f).map λ(k:Nat)=>(off:Int)+g k).map Wv.int))))),om++[.ins c.Turn (tn4 (.o (om.length+1)) (.o (om.length+2)) (.o (om.length+3)) (.lst ((clL off told f g F).map Wv.int))),.dk (ZH (goP off g F)),.dk (ZH (coP off g F)),.dk (ZH (unP off f P))]):=by
  have ek:(coP off g F).map (·.1)=F.map λ(k:Nat)=>(off:Int)+g k:=by rw[aS];rfl
  have sd:=HU (sl:=(sT om ho y2 y3 (some (.lst (((mvL told f).map λ(k:Nat)=>(off:Int)+g k).map Wv.int))))) (om:=t3 c om (goP off g F) (coP off g F) (unP off f P)) (fa:=Za 4) (fb:=f1 (ZR c.Turn "comers") (Za 0)) (ns:=(mvL told f).map λ(k:Nat)=>(off:Int)+g k) (us:=coP off g F) (h:=om.length+2) (Zb rfl) (Yz rfl (Yt om _ 0) (lc ..)) (Yt om _ 2) (by rw[aA];omega) (by rw[aA];omega) (by
   rw[ek];exact T.gap.imp id λh=>by rw[h];rfl)
  rw[ek]at sd;exact(JU (h:=om.length) sd (Zb rfl) (Yt om _ 0) (by simp)).trans (by rw[Og,pf4];rfl)
 generalize hC:clL off told f g F=cl at s7 ⊢
 have s8:Xr c.Turn "board" (fA (kN 2 (XB c)) (Zc (f1 (ZR c.Board "chart") (f1 (ZR c.Orders "board") (Za 1))) (Zc (fA (kN 3 (Wp c)) (Zc (f1 (ZR c.Orders "board") (Za 1)) (Zc (f1 (ZR c.Turn "goals") (Za 0)) (Zc (f1 (ZR c.Turn "comers") (Za 0)) Zj)))) Zj))) (Za 0) (sT om ho y2 y3 (some (.lst (((mvL told f).map λ(k:Nat)=>(off:Int)+g k).map Wv.int)))) (om++[.ins c.Turn (tn4 (.o (om.length+1)) (.o (om.length+2)) (.o (om.length+3)) (.lst (cl.map Wv.int))),.dk (ZH (goP off g F)),.dk (ZH (coP off g F)),.dk (ZH (unP off f P))])=some (.ok (.nx,(sT om ho y2 y3 (some (.lst (((mvL told f).map λ(k:Nat)=>(off:Int)+g k).map Wv.int))))),om++[tOf c om.length cl,.dk (ZH (goP off g F)),.dk (ZH (coP off g F)),.dk (ZH (unP off f P)),Yv c hm (om.length+5),.dk (ZH (gnP off f g (WH f F)++unP off f (kept f g F)))]):=by
  have AA:=A.grow [.ins c.Turn (tn4 (.o (om.length+1)) (.o (om.length+2)) (.o (om.length+3)) (.lst (cl.map Wv.int))),.dk (ZH (goP off g F)),.dk (ZH (coP off g F)),.dk (ZH (unP off f P))];have l1:(WH f F).length<=(Z6 f f.length).length:=aV _ _;have l2:=UL f g F;have ua:=Po (g:=g) (F:=F) AA (hG:=om.length+1) (hC:=om.length+2) (Yt om _ 1) (Yt om _ 2);have pb:=GP (c:=c) (size:=size) AA.W.m (E4 T) (Dh A T) (by rw[aT,aA,aA];omega);rw[aT,bS]at pb;have e:=(ZB (k:=kN 2 (XB c)) (Ze (NW (WF AA.S (sl:=(sT om ho y2 y3 (some (.lst (((mvL told f).map λ(k:Nat)=>(off:Int)+g k).map Wv.int))))) (i:=1) rfl) AA.W.b (UA ..)) (Ze ((ZB (Ze (WF AA.S (i:=1) rfl) (Ze (Yz (i:=0) (h:=om.length) rfl (Yt om _ 0) (lg ..)) (Ze (Yz (i:=0) (h:=om.length) rfl (Yt om _ 0) (lc ..)) Zi)))).trans ((YG rfl).trans ua)) Zi))).trans ((YG rfl).trans pb);exact(JU (h:=om.length) e (Zb rfl) (Yt om _ 0) (by simp)).trans (by rw[Og,pf5];rfl)
 have hPP:unP off f P=unP off f (push f g F):=by rw[← hP]
 rw[← hPP];exact(Zm ((YG rfl).trans (Vb ((Zh s1).trans ((Zh s2).trans ((Zh (YV (sl1:=[]) i3 s3)).trans ((Zh s4).trans ((Zh s5').trans ((Zh s6).trans ((Zh s7).trans s8)))))))))).trans rfl
def Cl{om:iN}{h hG:Nat}{r:iK}{us:hZ}(e0:om[h]?=some (.ins c.Turn ((Str.ofString "goals",.o hG)::r)))(e1:om[hG]?=some (.dk (ZH us)))(hl:us.length<64):Xx c [.o h] om=some (.ok (.lst ((YH us).map prW)),om):=by
 have hls:(YH us).length=us.length:=(Z4 us).length_eq;refine ZF (Zu ?_);unfold SN;refine(Zm (Yz rfl e0 (lg ..))).trans ?_;refine(Zm (a:=(YH us).map prW) (om1:=om) ?_).trans (YB (by rw[aA];omega));simp[QM,e1,Pr,hl]
def FL{om:iN}{h hP hC:Nat}{a:Wv}{r:iK}{us co:hZ}{v:Int->Int}(e0:om[h]?=some (.ins c.Turn ((Str.ofString "goals",a)::(Str.ofString "comers",.o hC)::(Str.ofString "pushed",.o hP)::r)))(e1:om[hP]?=some (.dk (ZH us)))(e2:om[hC]?=some (.dk (ZH co)))(hl:us.length<64)(nd:(us.map (·.1)).Nodup)(hv:∀x∈us,co.lookup x.1=some (v x.1)):YY c [.o h] om=some (.ok (.lst ((Xi (us.map (·.1))).map λx=>Wv.tup [.int x,.int ((us.lookup x).getD 0),.int (v x)])),om):=by
 have iQ:=ZQ;have hls:(Xi (us.map (·.1))).length=us.length:=by rw[(Yh _).length_eq,aA]
 have ek:fA (WZ ZL) (Zc (f1 (ZR c.Turn "pushed") (Za 0)) Zj) [some (.o h)] om=some (.ok (.lst ((Xi (us.map (·.1))).map Wv.int)),om):=by
  refine(ZB (Ze (Yz rfl e0 (lp ..)) Zi)).trans ?_;unfold WZ;dsimp only;rw[e1];dsimp only;rw[Oh];dsimp only;rw[aC (by rw[aA];exact hl)];exact YB (by rw[aA];omega)
 refine ZF (Zu ((Wj (ws:=(Xi (us.map (·.1))).map Wv.int) (om1:=om) ((Zm ek).trans rfl) (by rw[aA];omega) (YE Wv.int (λ_=>true) (λx=>Wv.tup [.int x,.int ((us.lookup x).getD 0),.int (v x)]) (λ_ _=>rfl) (λx hx _=>?_))).trans ?_))
 ·obtain⟨y,hy,rfl⟩:=aZ.mp ((RS _ _).mp hx)
  have q1:us.lookup y.1=some ((us.lookup y.1).getD 0):=by rw[Ua nd (k:=y.1) (s:=y.2) hy];rfl
  exact(ZB (Ze (Zb rfl) (Ze ((Zs (Yz rfl e0 (lp ..)) (Zb rfl)).trans (NC e1 q1)) (Ze ((Zs (Yz rfl e0 (lc ..)) (Zb rfl)).trans (NC e2 (hv y hy))) Zi)))).trans (Y5 (by simp))
 ·rw[cb.mpr (λ_ _=>rfl)]
  exact YB (by rw[aA];omega)
end
structure Pic(n:Nat)(l l':iD):Prop where
 nd:l.Nodup
 nd':l'.Nodup
 lt:∀x∈l,x<n
 lt':∀x∈l',x<n
 mem:∀x,x<n->(mI n x∈l' ↔ x∈l)
def Pic.perm{n:Nat}{l l':iD}(P:Pic n l l'):l'.Perm (l.map (mI n)):=by
 refine(ff P.nd' (bO.mpr (P.nd.imp_of_mem λ{a b} ha hb h e=>h ?_))).mpr λy=>?_
 rotate_left
 ·rw[← YM (P.lt a ha),← YM (P.lt b hb),e]
 ·rw[aZ]
  constructor
  ·intro h
   have hy:=P.lt' y h;exact⟨mI n y,(P.mem _ (XI hy)).mp (by rw[YM hy];exact h),YM hy⟩
  ·rintro⟨x,hx,rfl⟩
   exact(P.mem x (P.lt x hx)).mpr hx
def Pic.map{α:Type}{n:Nat}{l l':iD}(P:Pic n l l'){φ:Nat->α}{ψ:Nat->α}(h:∀x∈l,φ (mI n x)=ψ x):(l'.map φ).Perm (l.map ψ):=by
 refine(P.perm.map φ).trans ?_;rw[aS];exact .of_eq (cq h)
def Pic.filter{n:Nat}{l l':iD}(P:Pic n l l'){p p':Nat->Bool}(h:∀x∈l,p' (mI n x)=p x):Pic n (l.filter p) (l'.filter p'):=by
 refine⟨P.nd.sublist bY,P.nd'.sublist bY,λx hx=>P.lt x (aG.mp hx).1,λx hx=>P.lt' x (aG.mp hx).1,λx hx=>?_⟩;rw[aG,aG,P.mem x hx];exact⟨λ⟨a,b⟩=>⟨a,by rw[← h x a];exact b⟩,λ⟨a,b⟩=>⟨a,by rw[h x a];exact b⟩⟩
def MS{ns ks:iC}{x:Int}:x∈sdL ns ks ↔ x∈ns∧x ∉ ks:=by
 unfold sdL;rw[RS,aG,VV];simp
def Fi(ns ks:iC):(sdL ns ks).Pairwise (· < ·):=WK ((U2 ns [] eV).sublist bY)
structure Two(n off of top:Nat)(f f':hY)(told ie:iO)(F F':iD):Prop where
 M:Mr n (mI n) told ie f f'
 pl:∀x,x<n->(top:Int)-((of:Int)+(mI n x:Nat))=(off:Int)+x
 PF:Pic n F F'
 PM:Pic n (mvL told f) (mvL ie f')
 PU:Pic n (Z6 f f.length) (Z6 f' f'.length)
 sub:∀x∈F,x∈mvL told f
 inj:∀i∈F,∀j∈F,gO told i=gO told j->i=j
section
variable{n off of top:Nat}{f f':hY}{told ie:iO}{F F':iD}(T:Two n off of top f f' told ie F F')
include T
theorem Two.g{x:Nat}(h:x∈mvL told f):gO told x<n∧gO ie (mI n x)=mI n (gO told x):=by
 have e:=Nl h;have hx:=T.PM.lt x h;have hg:=T.M.mv x _ e;refine⟨hg,?_⟩;have e':=T.M.t x hx;rw[e]at e';show(match at' ie (mI n x) with|some (.move g)=>g|_=>0)=_;rw[e'];rfl
theorem Two.gF{x:Nat}(h:x∈F):gO told x<n∧gO ie (mI n x)=mI n (gO told x):=T.g (T.sub x h)
theorem Two.sn{x:Nat}(h:x∈Z6 f f.length):sN f' (mI n x)=7-sN f x:=by
 obtain⟨_,e⟩:=Ti h;unfold sN;rw[T.M.s x (T.PU.lt x h),e];rfl
theorem Two.cF{x:Nat}(hx:x<n):F'.contains (mI n x)=F.contains x:=by
 rw[cV,bB,bB];exact T.PF.mem x hx
theorem Two.cG{x:Nat}(hx:x<n):(F'.map (gO ie)).contains (mI n x)=(F.map (gO told)).contains x:=by
 rw[cV,bB,bB,aZ,aZ];constructor
 ·rintro⟨y,hy,e⟩
  have hyn:=T.PF.lt' y hy;have hk:mI n y∈F:=(T.PF.mem _ (XI hyn)).mp (by rw[YM hyn];exact hy);obtain⟨g1,g2⟩:=T.gF hk;rw[YM hyn,e]at g2;exact⟨mI n y,hk,by rw[← YM hx,g2,YM g1]⟩
 ·rintro⟨k,hk,rfl⟩
  exact⟨mI n k,(T.PF.mem k (T.PF.lt k hk)).mpr hk,(T.gF hk).2⟩
theorem Two.PG:Pic n (WH f F) (WH f' F'):=T.PU.filter λx hx=>T.cF (T.PU.lt x hx)
theorem Two.PK:Pic n (kept f (gO told) F) (kept f' (gO ie) F'):=T.PU.filter λx hx=>by rw[T.cF (T.PU.lt x hx),T.cG (T.PU.lt x hx)]
theorem Two.PP:Pic n (push f (gO told) F) (push f' (gO ie) F'):=T.PU.filter λx hx=>by rw[T.cF (T.PU.lt x hx),T.cG (T.PU.lt x hx)]
theorem Two.set_eq(up:F.Pairwise (· < ·)):Xi ((F'.map λ(y:Nat)=>(of:Int)+y).map λa=>(top:Int)-a)=F.map λ(x:Nat)=>(off:Int)+x:=by
 rw[aS];refine V1 ((Yh _).trans (T.PF.map λx hx=>T.pl x (T.PF.lt x hx))) (W0 _) (bO.mpr (up.imp λh=>?_));omega
theorem Two.done_eq:YH ((YH (goP of (gO ie) F')).map λp=>((top:Int)-p.1,(top:Int)-p.2))=YH (goP off (gO told) F):=by
 refine V6 ((Z4 _).trans (((Z4 _).map _).trans (List.Perm.trans ?_ (Z4 _).symm))) (Xo _) (Xo _);rw[aS];refine T.PF.map λx hx=>?_
 obtain⟨g1,g2⟩:=T.gF hx;show((top:Int)-((of:Int)+(mI n x:Nat)),(top:Int)-((of:Int)+(gO ie (mI n x):Nat)))=((off:Int)+x,(off:Int)+(gO told x:Nat));rw[g2,T.pl x (T.PF.lt x hx),T.pl _ g1]
theorem Two.roll_eq:YH ((YH (gnP of f' (gO ie) (WH f' F')++unP of f' (kept f' (gO ie) F'))).map λp=>((top:Int)-p.1,(7:Int)-p.2))=YH (gnP off f (gO told) (WH f F)++unP off f (kept f (gO told) F)):=by
 refine V6 ((Z4 _).trans (((Z4 _).map _).trans (List.Perm.trans ?_ (Z4 _).symm))) (Xo _) (Xo _);rw[cu,aS,aS];refine List.Perm.append (T.PG.map λx hx=>?_) (T.PK.map λx hx=>?_)
 ·obtain⟨hu,hF⟩:=aG.mp hx
  obtain⟨g1,g2⟩:=T.gF (bB.mp hF);show((top:Int)-((of:Int)+(gO ie (mI n x):Nat)),(7:Int)-sN f' (mI n x))=((off:Int)+(gO told x:Nat),sN f x);rw[g2,T.pl _ g1,T.sn hu,show(7:Int)-(7-sN f x)=sN f x by omega]
 ·obtain⟨hu,_⟩:=aG.mp hx
  show((top:Int)-((of:Int)+(mI n x:Nat)),(7:Int)-sN f' (mI n x))=((off:Int)+x,sN f x);rw[T.pl x (T.PU.lt x hu),T.sn hu,show(7:Int)-(7-sN f x)=sN f x by omega]
theorem Two.shut_eq:Xi ((clL of ie f' (gO ie) F').map λa=>(top:Int)-a)=clL off told f (gO told) F:=by
 refine Uz (WK (bO.mpr ((Fi _ _).imp λh e=>by omega))) (Fi _ _) λz=>?_
 rw[RS,MS,aZ];have pg:∀x,x∈mvL told f->(top:Int)-((of:Int)+(gO ie (mI n x):Nat))=(off:Int)+(gO told x:Nat):=λx hx=>by obtain⟨g1,g2⟩:=T.g hx;rw[g2,T.pl _ g1]
 constructor
 ·rintro⟨a,ha,rfl⟩
  obtain⟨h1,h2⟩:=MS.mp ha;obtain⟨y,hy,rfl⟩:=aZ.mp h1;have hyn:=T.PM.lt' y hy;have hk:mI n y∈mvL told f:=(T.PM.mem _ (XI hyn)).mp (by rw[YM hyn];exact hy);have e:=pg _ hk;rw[YM hyn]at e;rw[e];refine⟨aZ.mpr ⟨_,hk,rfl⟩,λq=>h2 ?_⟩;obtain⟨j,hj,ej⟩:=aZ.mp q;have e2:=pg j (T.sub j hj);exact aZ.mpr ⟨mI n j,(T.PF.mem j (T.PF.lt j hj)).mpr hj,by show(of:Int)+(gO ie (mI n j):Nat)=(of:Int)+(gO ie y:Nat);have ej:(off:Int)+(gO told j:Nat)=(off:Int)+(gO told (mI n y):Nat):=ej;omega⟩
 ·rintro⟨h1,h2⟩
  obtain⟨x,hx,rfl⟩:=aZ.mp h1;have e:=pg x hx;refine⟨(of:Int)+(gO ie (mI n x):Nat),MS.mpr ⟨aZ.mpr ⟨mI n x,(T.PM.mem x (T.PM.lt x hx)).mpr hx,rfl⟩,λq=>h2 ?_⟩,e⟩;obtain⟨y,hy,ey⟩:=aZ.mp q;have hyn:=T.PF.lt' y hy;have hk:mI n y∈F:=(T.PF.mem _ (XI hyn)).mp (by rw[YM hyn];exact hy);have e2:=pg _ (T.sub _ hk);rw[YM hyn]at e2;exact aZ.mpr ⟨mI n y,hk,by show(off:Int)+(gO told (mI n y):Nat)=(off:Int)+(gO told x:Nat);have ey:(of:Int)+(gO ie y:Nat)=(of:Int)+(gO ie (mI n x):Nat):=ey;omega⟩
end
def aKy(off:Nat)(f:hY)(g:Nat->Nat)(F:iD):iC:=Xi ((unP off f (push f g F)).map (·.1))
def aSy(off:Nat)(f:hY)(g:Nat->Nat)(F:iD)(x:Int):Int:=((unP off f (push f g F)).lookup x).getD 0
def aCy(off:Nat)(g:Nat->Nat)(F:iD)(x:Int):Int:=((coP off g F).lookup x).getD 0
def co_nd(off:Nat){g:Nat->Nat}{F:iD}(nd:F.Nodup)(inj:∀i∈F,∀j∈F,g i=g j->i=j):((coP off g F).map (·.1)).Nodup:=by
 rw[aS];refine bO.mpr (nd.imp_of_mem λ{a b} ha hb h e=>h (inj a ha b hb ?_));have e:(off:Int)+(g a:Nat)=(off:Int)+(g b:Nat):=e;omega
def DJ(off:Nat)(f:hY){l:iD}(nd:l.Nodup):((unP off f l).map (·.1)).Nodup:=by
 rw[aS];refine bO.mpr (nd.imp λ{a b} h e=>h ?_);have e:(off:Int)+(a:Nat)=(off:Int)+(b:Nat):=e;omega
def JS(off:Nat){g:Nat->Nat}{F:iD}(nd:F.Nodup)(inj:∀i∈F,∀j∈F,g i=g j->i=j){k:Nat}(h:k∈F):(coP off g F).lookup ((off:Int)+(g k:Nat))=some ((off:Int)+k):=Ua (co_nd off nd inj) (aZ.mpr ⟨k,h,rfl⟩)
section
variable{n off of top:Nat}{f f':hY}{told ie:iO}{F F':iD}(T:Two n off of top f f' told ie F F')
include T
theorem Two.inj':∀i∈F',∀j∈F',gO ie i=gO ie j->i=j:=λi hi j hj e=>by
 have hin:=T.PF.lt' i hi;have ln:=T.PF.lt' j hj;have ki:mI n i∈F:=(T.PF.mem _ (XI hin)).mp (by rw[YM hin];exact hi);have kj:mI n j∈F:=(T.PF.mem _ (XI ln)).mp (by rw[YM ln];exact hj);obtain⟨a1,a2⟩:=T.gF ki;obtain⟨b1,b2⟩:=T.gF kj;rw[YM hin]at a2;rw[YM ln]at b2;have:=T.inj _ ki _ kj (by rw[← YM a1,← YM b1,← a2,← b2,e]);rw[← YM hin,← YM ln,this]
theorem Two.as_eq:TK ((aKy of f' (gO ie) F').map λx=>[(top:Int)-x,(7:Int)-aSy of f' (gO ie) F' x,(top:Int)-aCy of (gO ie) F' x])=(aKy off f (gO told) F).map λx=>[x,aSy off f (gO told) F x,aCy off (gO told) F x]:=by
 have nd:=T.PP.nd;refine Tq ((Vf _).trans (((Yh _).map _).trans (List.Perm.trans ?_ ((Yh _).map _).symm))) (Tj _) (bO.mpr ((WK (DJ off f nd)).imp λ{a b} h=>?_))
 ·rw[aS,aS,aS,aS]
  refine T.PP.map λx hx=>?_
  obtain⟨hu,hc⟩:=aG.mp hx;have hxn:=T.PU.lt x hu;have hx':=(T.PP.mem x hxn).mpr hx;rw[bT]at hc;obtain⟨k,hk,ek⟩:=aZ.mp (bB.mp hc.1);have kn:=T.PF.lt k hk;obtain⟨g1,g2⟩:=T.gF hk;have l1:(unP off f (push f (gO told) F)).lookup ((off:Int)+x)=some (sN f x):=by rw[Qg,aC (bB.mpr hx)]
  have l2:(unP of f' (push f' (gO ie) F')).lookup ((of:Int)+(mI n x:Nat))=some (sN f' (mI n x)):=by rw[Qg,aC (bB.mpr hx')]
  have c1:=JS off T.PF.nd T.inj hk;have c2:=JS of T.PF.nd' T.inj' ((T.PF.mem k kn).mpr hk);rw[ek]at c1;rw[g2,ek]at c2;show [(top:Int)-((of:Int)+(mI n x:Nat)),(7:Int)-aSy of f' (gO ie) F' ((of:Int)+(mI n x:Nat)),(top:Int)-aCy of (gO ie) F' ((of:Int)+(mI n x:Nat))]=[(off:Int)+x,aSy off f (gO told) F ((off:Int)+x),aCy off (gO told) F ((off:Int)+x)];unfold aSy aCy;rw[l1,l2,c1,c2,T.sn hu];show [(top:Int)-((of:Int)+(mI n x:Nat)),(7:Int)-(7-sN f x),(top:Int)-((of:Int)+(mI n k:Nat))]=[(off:Int)+x,sN f x,(off:Int)+k];rw[T.pl x hxn,T.pl k kn,show(7:Int)-(7-sN f x)=sN f x by omega]
 ·show(if b=a then _ else decide (b<a))=false
  rw[aE (by omega),aL (by omega)]
end
section
variable{c:CA}
def two_of{n off size:Nat}{rows:Mx}{f:hY}{told:iO}(G:Givn rows f told)(hf:f.length=n)(h7:n<=7)(h1:off+n<=size)(hs:∀k s,at' f k=some s->0<=s∧s<=7):Two n off (size-off-n) (size-1) f (mF n f) told (mT n told) (WU told f 100 (mvL told f)) (WU (mT n told) (mF n f) 100 (mvL (mT n told) (mF n f))):=by
 have M:=mr_of G hf hs;have lf:(mF n f).length=n:=by simp[mF]
 have s1:=T8 told f 100 (mvL told f);have s2:=T8 (mT n told) (mF n f) 100 (mvL (mT n told) (mF n f));have ml:∀x∈mvL told f,x<n:=λx h=>by rw[← hf];exact(Wt.mp h).1
 have ml':∀x∈mvL (mT n told) (mF n f),x<n:=λx h=>by rw[← lf];exact(Wt.mp h).1
 refine⟨M,λx hx=>by unfold mI;omega,⟨(UT _ _).sublist s1,(UT _ _).sublist s2,λx h=>ml x (s1.subset h),λx h=>ml' x (s2.subset h),M.fin 100 λx hx=>M.mvl hx⟩,⟨UT _ _,UT _ _,ml,ml',λx hx=>M.mvl hx⟩,⟨UU _,UU _,λx h=>by rw[← hf];exact(Ti h).1,λx h=>by rw[← lf];exact(Ti h).1,λx hx=>?_⟩,λx h=>s1.subset h,λi hi j hj e=>?_⟩
 ·unfold Z6
  rw[aG,aG,aX,aX,lf,hf,M.s x hx];have:((at' f x).map λs=>7-s).isSome=(at' f x).isSome:=by cases at' f x <;> rfl
  rw[this];exact⟨λh=>⟨hx,h.2⟩,λh=>⟨XI hx,h.2⟩⟩
 ·have ei:=Nl (s1.subset hi)
  have ej:=Nl (s1.subset hj);rw[← e]at ej;exact Hb (by omega) hi hj ei ej
def DG{rows:Mx}{f:hY}{told:iO}(off:Nat)(G:Givn rows f told)(h7:f.length<=7):Trn off f told (gO told) (WU told f 100 (mvL told f)):=by
 have s1:=T8 told f 100 (mvL told f);have ml:=XX told f;refine⟨rfl,λk h=>Nl h,λk h=>s1.subset h,(UT _ _).sublist s1,λi hi j hj e=>?_,by omega,?_⟩
 ·have ei:=Nl (s1.subset hi)
  have ej:=Nl (s1.subset hj);rw[← e]at ej;exact Hb (by omega) hi hj ei ej
 ·generalize WU told f 100 (mvL told f)=F
  cases F with
  |nil=>exact .inr rfl
  |cons a F=>
   left
   have l1:=XG ((mvL told f).map λ(k:Nat)=>(off:Int)+(gO told k:Nat)) [];have l2:0<(YD [] ((a::F).map λ(k:Nat)=>(off:Int)+(gO told k:Nat))).length:=List.length_pos_of_mem (VV.mpr (.inr (.head _)));rw[aA,cA]at l1;omega
end
structure Tk(c:CA)(om:iN)(N:Nat)(cl:iC)(go co pu af:hZ)(hm:Nat):Prop where
 t:om[N]?=some (tOf c N cl)
 g:om[N+1]?=some (.dk (ZH go))
 k:om[N+2]?=some (.dk (ZH co))
 p:om[N+3]?=some (.dk (ZH pu))
 b:om[N+4]?=some (Yv c hm (N+5))
 u:om[N+5]?=some (.dk (ZH af))
def N4(m:String)(a b d e g:Wv)(h1:m≠"goals")(h2:m≠"comers")(h3:m≠"pushed")(h4:m≠"closed")(h5:m≠"board"):List.lookup (Str.ofString m) (tn5 a b d e g)=none:=by simp[aN,YZ,h1,h2,h3,h4,h5]
def lk_cl(a b d e g:Wv):List.lookup (Str.ofString "closed") (tn5 a b d e g)=some e:=by simp[aN,YZ]
def lk_bd(a b d e g:Wv):List.lookup (Str.ofString "board") (tn5 a b d e g)=some g:=by simp[aN,YZ]
section
variable{c:CA}{om:iN}{N hm i:Nat}{cl:iC}{go co pu af:hZ}{sl:Sl}
def Tk.grow(K:Tk c om N cl go co pu af hm)(l:iN):Tk c (om++l) N cl go co pu af hm:=⟨UR K.t,UR K.g,UR K.k,UR K.p,UR K.b,UR K.u⟩
def F5(K:Tk c om N cl go co pu af hm)(hv:sl[i]?=some (some (.o N)))(hl:go.length<64):Zq c.Turn "done" 1 (Xx c) (Za i) Zj sl om=some (.ok (.lst ((YH go).map prW)),om):=(Zz (Zb hv) (Zy K.t) (N4 "done" _ _ _ _ _ (by decide) (by decide) (by decide) (by decide) (by decide)) Zi rfl).trans (Cl K.t K.g hl)
def Iq{v:Int->Int}(K:Tk c om N cl go co pu af hm)(hv:sl[i]?=some (some (.o N)))(hl:pu.length<64)(nd:(pu.map (·.1)).Nodup)(hc:∀x∈pu,co.lookup x.1=some (v x.1)):Zq c.Turn "aside" 1 (YY c) (Za i) Zj sl om=some (.ok (.lst ((Xi (pu.map (·.1))).map λx=>Wv.tup [.int x,.int ((pu.lookup x).getD 0),.int (v x)])),om):=(Zz (Zb hv) (Zy K.t) (N4 "aside" _ _ _ _ _ (by decide) (by decide) (by decide) (by decide) (by decide)) Zi rfl).trans (FL K.t K.p K.k hl nd hc)
def F9(K:Tk c om N cl go co pu af hm)(hv:sl[i]?=some (some (.o N)))(hl:cl.length<=60):Zq c.Turn "shut" 1 (X4 c) (Za i) Zj sl om=some (.ok (.lst (cl.map Wv.int)),om):=by
 refine(Zz (Zb hv) (Zy K.t) (N4 "shut" _ _ _ _ _ (by decide) (by decide) (by decide) (by decide) (by decide)) Zi rfl).trans (ZF (Zu ((ZB (Ze (Yz rfl K.t (lk_cl ..)) Zi)).trans ?_)));show ZL (cl.map Wv.int) om=_;exact YB (by rw[aA];omega)
def E7(K:Tk c om N cl go co pu af hm)(hv:sl[i]?=some (some (.o N)))(hl:af.length<64):Zq c.Board "roll" 1 (ZU c) (f1 (ZR c.Turn "board") (Za i)) Zj sl om=some (.ok (.lst ((YH af).map prW)),om):=(Zz (Yz hv K.t (lk_bd ..)) (Zy K.b) (Yi _ _ _ (by decide) (by decide)) Zi rfl).trans (IB c K.b K.u hl)
def DE{ho hb hu hl hg size off:Nat}{f:hY}{kvs:iL}{gs:Gs}{rows:Mx}{told:iO}{g:Nat->Nat}{F:iD}(A:Sit c om ho hb hm hu hl hg size off f kvs gs rows told)(T:Trn off f told g F):∃l,Y2 c.Turn 2 (Xv c) [.o ho] om=some (.ok (.o om.length),om++l)∧Tk c (om++l) om.length (clL off told f g F) (goP off g F) (coP off g F) (unP off f (push f g F)) (gnP off f g (WH f F)++unP off f (kept f g F)) hm:=
 ⟨_,CT A T,⟨Yt om _ 0,Yt om _ 1,Yt om _ 2,Yt om _ 3,Yt om _ 4,Yt om _ 5⟩⟩
def PB{α:Type}{fm E:FE}{φ:α->Wv}{l:List α}{r:α->Wv}(oJ:fm sl om=some (.ok (.lst (l.map φ)),om))(hE:∀a∈l,E (Xd [2] (φ a) sl) om=some (.ok (r a),om))(hl:l.length<=60):Z5 ZL [2] (λsl=>bnd (fm sl) ZN) Xh E sl om=some (.ok (.lst (l.map r)),om):=by
 have iQ:=ZQ;refine(Wj (ws:=l.map φ) (om1:=om) ((Zm oJ).trans rfl) (by rw[aA];omega) (YE φ (λ_=>true) r (λ_ _=>rfl) (λa ha _=>hE a ha))).trans ?_;rw[cb.mpr (λ_ _=>rfl)];exact YB (by rw[aA];omega)
def LJ{fe:FE}{ns:iC}(h:fe sl om=some (.ok (.lst (ns.map Wv.int)),om))(hl:ns.length<64):fA (Xg ZL) (Zc fe Zj) sl om=some (.ok (.lst ((Xi ns).map Wv.int)),om):=by
 refine(ZB (Ze h Zi)).trans ?_;show(match Y4 (ns.map Wv.int) with|some ns=>if ns.length<64 then ZL ((Xi ns).map Wv.int) om else none|none=>none)=_;rw[Uo];dsimp only;rw[aC hl];exact YB (by rw[aA,(Yh _).length_eq];omega)
def Hf{fe:FE}{ps:hZ}(h:fe sl om=some (.ok (.lst (ps.map prW)),om))(hl:ps.length<64):fA (YL ZL) (Zc fe Zj) sl om=some (.ok (.lst ((YH ps).map prW)),om):=(ZB (Ze h Zi)).trans ((Mb hl).trans (YB (by rw[aA,(Z4 _).length_eq];omega)))
def CG{fe:FE}{ps:h8}(h:fe sl om=some (.ok (.lst (ps.map UH)),om))(h3:∀p∈ps,p.length=3)(hl:ps.length<64):fA (YL ZL) (Zc fe Zj) sl om=some (.ok (.lst ((TK ps).map UH)),om):=by
 refine(ZB (Ze h Zi)).trans ?_
 have ok:T5 ps=true:=by
  unfold T5;rw[bL hl,Bool.true_and,cQ];intro p hp;cases ps with
  |nil=>cases hp
  |cons a ps=>rw[h3 p hp];show decide (3=a.length-1+1)=true;rw[h3 a (.head _)];rfl
 unfold YL;dsimp only;rw[Rw];dsimp only;rw[aC ok];exact YB (by rw[aA,(Vf _).length_eq];omega)
def Ir(om:iN):∀l:h8,pysOf om (l.map UH)=some (l.map λr=>PyData.tuple (r.map PyData.int))
 |[]=>rfl
 |r::l=>by
  show(match Vh om (UH r),pysOf om (l.map UH) with|some d,some ds=>some (d::ds)|_,_=>none)=_;rw[Ir om l];show(match (pysOf om (r.map Wv.int)).map PyData.tuple,some (l.map λr=>PyData.tuple (r.map PyData.int)) with|some d,some ds=>some (d::ds)|_,_=>none)=_;rw[Pj];rfl
def ET(om:iN)(l:h8):XJ om (.lst (l.map UH))=some (.list (l.map λr=>PyData.tuple (r.map PyData.int))):=by
 show(pysOf om (l.map UH)).map PyData.list=_;rw[Ir];rfl
def DK(l:h8):Vj (.list (l.map λr=>PyData.tuple (r.map PyData.int)))=true:=by
 have b:∀r:iC,PyData.canLayAll0 (r.map PyData.int)=true∧PyData.depthAll (r.map PyData.int)=0:=λr=>by
  induction r with
  |nil=>exact⟨rfl,by simp[PyData.depthAll]⟩
  |cons n r ih=>exact⟨by simp[PyData.canLayAll0,PyData.canLay0];exact ih.1,by have:=ih.2;simp[PyData.depthAll,PyData.depth];omega⟩
 have a:PyData.canLayAll0 (l.map λr=>PyData.tuple (r.map PyData.int))=true∧PyData.depthAll (l.map λr=>PyData.tuple (r.map PyData.int))<=1:=by
  induction l with
  |nil=>exact⟨rfl,by simp[PyData.depthAll]⟩
  |cons n r ih=>exact⟨by simp[PyData.canLayAll0,PyData.canLay0,(b n).1];exact ih.1,by have:=ih.2;have:=(b n).2;simp[PyData.depthAll,PyData.depth];omega⟩
 have:=a.2;simp[Vj,PyData.canLay0,PyData.depth,a.1];omega
end
abbrev sl3(ns:iC)(x1 x2 x3 x4 x5 x6:Option Wv):Sl:=[some (Ym ns),x1,x2,x3,x4,x5,x6]
def SI{om ij:iN}{i:Nat}{ws:iJ}(h:om[i]?=some (.lst ws))(hk:∀j,j<om.length->ij[j]?=om[j]?):YI ij (.o i)=some ws:=by
 show(match ij[i]? with|some (.lst ws)=>some ws|_=>none)=_;rw[hk i (aH.mp h).1,h]
def Iz{off:Nat}{f:hY}{g:Nat->Nat}{F:iD}(nd:F.Nodup)(inj:∀i∈F,∀j∈F,g i=g j->i=j):∀x∈unP off f (push f g F),(coP off g F).lookup x.1=some (aCy off g F x.1):=λx hx=>by
 obtain⟨y,hy,rfl⟩:=aZ.mp hx;have hc:=(aG.mp hy).2;rw[bT]at hc;obtain⟨k,hk,rfl⟩:=aZ.mp (bB.mp hc.1);unfold aCy;show(coP off g F).lookup ((off:Int)+(g k:Nat))=some (((coP off g F).lookup ((off:Int)+(g k:Nat))).getD 0);rw[JS off nd inj hk];rfl
section
variable{c:CA}{ns:iC}
def asks13{sl:Sl}{om:iN}{n off of top N1 N2 kM jH:Nat}{f f':hY}{told ie:iO}{F F':iD}(T:Two n off of top f f' told ie F F')(h7:n<=7)(lf:f.length=n)(lf':f'.length=n)(K1:Tk c om N1 (clL off told f (gO told) F) (goP off (gO told) F) (coP off (gO told) F) (unP off f (push f (gO told) F)) (gnP off f (gO told) (WH f F)++unP off f (kept f (gO told) F)) kM)(K2:Tk c om N2 (clL of ie f' (gO ie) F') (goP of (gO ie) F') (coP of (gO ie) F') (unP of f' (push f' (gO ie) F')) (gnP of f' (gO ie) (WH f' F')++unP of f' (kept f' (gO ie) F')) jH)(lF:F.length<=7) (ph:F'.length<=7) (v2:sl[2]?=some (some (.int (top:Nat)))) (v5:sl[5]?=some (some (.o N1))) (v6:sl[6]?=some (some (.o N2))):Zv (sIf (fB (f2 kNe (fA (YL ZL) (Zc (Z5 ZL [2] (λsl=>bnd ((Zq c.Turn "done" 1 (Xx c) (Za 6) Zj) sl) ZN) Xh (JA c)) Zj)) (Zq c.Turn "done" 1 (Xx c) (Za 5) Zj))) (Z8 (fC (.bl false))) Yo) (Zv (sIf (fB (f2 kNe (fA (YL ZL) (Zc (Z5 ZL [2] (λsl=>bnd ((Zq c.Turn "aside" 1 (YY c) (Za 6) Zj) sl) ZN) Xh (JK c)) Zj)) (Zq c.Turn "aside" 1 (YY c) (Za 5) Zj))) (Z8 (fC (.bl false))) Yo)
    (Zv (sIf (fB (f2 kNe (fA (Xg ZL) (Zc (Z5 ZL [2] (λsl=>bnd ((Zq c.Turn "shut" 1 (X4 c) (Za 6) Zj) sl) ZN) Xh (JC c)) Zj)) (Zq c.Turn "shut" 1 (X4 c) (Za 5) Zj))) (Z8 (fC (.bl false))) Yo)
    (Z8 (f2 kEq (fA (YL ZL) (Zc (Z5 ZL [2] (λsl=>bnd ((Zq c.Board "roll" 1 (ZU c) (f1 (ZR c.Turn "board") (Za 6)) Zj) sl) ZN) Xh (Jz c)) Zj)) (Zq c.Board "roll" 1 (ZU c) (f1 (ZR c.Turn "board") (Za 5)) Zj)))))
    sl om=some (.ok (.rt (.bl true),sl),om):=by
 have ul:=Wo f f.length;have ul':=Wo f' f'.length;have ml:=XX told f;have ml':=XX ie f';have p1:(push f (gO told) F).length<=(Z6 f f.length).length:=aV _ _;have p2:(push f' (gO ie) F').length<=(Z6 f' f'.length).length:=aV _ _;have a1:=UL f (gO told) F;have a2:=UL f' (gO ie) F';have c1:(clL off told f (gO told) F).length<=(mvL told f).length:=by have:=NM ((mvL told f).map λ(k:Nat)=>(off:Int)+(gO told k:Nat)) (F.map λ(k:Nat)=>(off:Int)+(gO told k:Nat));rw[aA]at this;exact this
 have c2:(clL of ie f' (gO ie) F').length<=(mvL ie f').length:=by have:=NM ((mvL ie f').map λ(k:Nat)=>(of:Int)+(gO ie k:Nat)) (F'.map λ(k:Nat)=>(of:Int)+(gO ie k:Nat));rw[aA]at this;exact this
 have t1:∀w,(Xd [2] w sl)[1]?=some (some (.int (top:Nat))):=λw=>by unfold Xd;show some ((sl[2]?).join)=_;rw[v2];rfl
 have ix:∀(w:Wv) (ws:iJ) (k:Nat) (x:Int),w=.tup ws->ws[k]?=some (.int x)->f2 kIx (Za 0) (fC (.int (k:Nat))) (Xd [2] w sl) om=some (.ok (.int x),om):=λw ws k x e h=>(Zs (Zb rfl) Zp).trans (ZI (k:=k) (by rw[e];rfl) h)
 have tp:∀(w:Wv) (ws:iJ) (k:Nat) (x:Int),w=.tup ws->ws[k]?=some (.int x)->f2 Xc (Za 1) (f2 kIx (Za 0) (fC (.int (k:Nat)))) (Xd [2] w sl) om=some (.ok (.int ((top:Int)-x)),om):=λw ws k x e h=>(Zs (Zb (t1 w)) (ix w ws k x e h)).trans rfl
 have sv:∀(w:Wv) (ws:iJ) (k:Nat) (x:Int),w=.tup ws->ws[k]?=some (.int x)->f2 Xc (fC (.int 7)) (f2 kIx (Za 0) (fC (.int (k:Nat)))) (Xd [2] w sl) om=some (.ok (.int ((7:Int)-x)),om):=λw ws k x e h=>(Zs Zp (ix w ws k x e h)).trans rfl
 have d2:=F5 K2 v6 (by rw[aA];omega);have d1:=F5 K1 v5 (by rw[aA];omega);have ls2:(YH (goP of (gO ie) F')).length=F'.length:=by rw[(Z4 _).length_eq,aA]
 have x1:=PB (E:=JA c) (r:=λp=>prW ((top:Int)-p.1,(top:Int)-p.2)) d2 (λp _=>(ZB (Ze (tp _ _ 0 p.1 rfl rfl) (Ze (tp _ _ 1 p.2 rfl rfl) Zi))).trans (Y5 (by simp))) (by omega);rw[show(YH (goP of (gO ie) F')).map (λp=>prW ((top:Int)-p.1,(top:Int)-p.2))=((YH (goP of (gO ie) F')).map λp=>((top:Int)-p.1,(top:Int)-p.2)).map prW by rw[aS];rfl]at x1;have y1:=Hf x1 (by rw[aA];omega);rw[T.done_eq]at y1;have q1:=ZW ((Zs y1 d1).trans (SD (ME om _) (ME om _) (K4 _) true));have s2:=Iq (v:=aCy of (gO ie) F') K2 v6 (by rw[aA];omega) (DJ of f' T.PP.nd') (Iz T.PF.nd' T.inj');have s1:=Iq (v:=aCy off (gO told) F) K1 v5 (by rw[aA];omega) (DJ off f T.PP.nd) (Iz T.PF.nd T.inj);have lk2:(aKy of f' (gO ie) F').length=(push f' (gO ie) F').length:=by unfold aKy;rw[(Yh _).length_eq,aA,aA]
 have x2:=PB (E:=JK c) (l:=aKy of f' (gO ie) F') (φ:=λx=>Wv.tup [.int x,.int (aSy of f' (gO ie) F' x),.int (aCy of (gO ie) F' x)]) (r:=λx=>UH [(top:Int)-x,(7:Int)-aSy of f' (gO ie) F' x,(top:Int)-aCy of (gO ie) F' x]) s2 (λx _=>(ZB (Ze (tp _ _ 0 x rfl rfl) (Ze (sv _ _ 1 (aSy of f' (gO ie) F' x) rfl rfl) (Ze (tp _ _ 2 (aCy of (gO ie) F' x) rfl rfl) Zi)))).trans (Y5 (by simp))) (by omega);rw[show(aKy of f' (gO ie) F').map (λx=>UH [(top:Int)-x,(7:Int)-aSy of f' (gO ie) F' x,(top:Int)-aCy of (gO ie) F' x])=((aKy of f' (gO ie) F').map λx=>[(top:Int)-x,(7:Int)-aSy of f' (gO ie) F' x,(top:Int)-aCy of (gO ie) F' x]).map UH by rw[aS];rfl]at x2;have y2:=CG x2 (λp hp=>by obtain⟨x,_,rfl⟩:=aZ.mp hp;rfl) (by rw[aA];omega);rw[T.as_eq]at y2;have s1':Zq c.Turn "aside" 1 (YY c) (Za 5) Zj sl om=some (.ok (.lst (((aKy off f (gO told) F).map λx=>[x,aSy off f (gO told) F x,aCy off (gO told) F x]).map UH)),om):=by rw[aS];exact s1
 have q2:=ZW ((Zs y2 s1').trans (SD (ET om _) (ET om _) (DK _) true));have u2:=F9 K2 v6 (by omega);have u1:=F9 K1 v5 (by omega);have x3:=PB (E:=JC c) (r:=λa=>Wv.int ((top:Int)-a)) u2 (λa _=>(Zs (Zb (t1 _)) (Zb rfl)).trans rfl) (by omega);rw[show(clL of ie f' (gO ie) F').map (λa=>Wv.int ((top:Int)-a))=((clL of ie f' (gO ie) F').map λa=>(top:Int)-a).map Wv.int by rw[aS];rfl]at x3;have y3:=LJ x3 (by rw[aA];omega);rw[T.shut_eq]at y3;have q3:=ZW ((Zs y3 u1).trans (SD (Bn om _) (Bn om _) (OU _) true));have r2:=E7 K2 v6 (by rw[aT,aA,aA];omega);have r1:=E7 K1 v5 (by rw[aT,aA,aA];omega);have lr2:(YH (gnP of f' (gO ie) (WH f' F')++unP of f' (kept f' (gO ie) F'))).length<=7:=by rw[(Z4 _).length_eq,aT,aA,aA];omega
 have x4:=PB (E:=Jz c) (r:=λp=>prW ((top:Int)-p.1,(7:Int)-p.2)) r2 (λp _=>(ZB (Ze (tp _ _ 0 p.1 rfl rfl) (Ze (sv _ _ 1 p.2 rfl rfl) Zi))).trans (Y5 (by simp))) (by omega);rw[show(YH (gnP of f' (gO ie) (WH f' F')++unP of f' (kept f' (gO ie) F'))).map (λp=>prW ((top:Int)-p.1,(7:Int)-p.2))=((YH (gnP of f' (gO ie) (WH f' F')++unP of f' (kept f' (gO ie) F'))).map λp=>((top:Int)-p.1,(7:Int)-p.2)).map prW by rw[aS];rfl]at x4;have y4:=Hf x4 (by rw[aA];omega);rw[T.roll_eq]at y4;exact(Zh (ZK q1)).trans ((Zh (ZK q2)).trans ((Zh (ZK q3)).trans (Zu ((Zs y4 r1).trans (SD (ME om _) (ME om _) (K4 _) false)))))
end
def Fz(c:CA)(ns:iC):∃om,BE c [Ym ns] []=some (.ok (.bl true),om):=by
 have iQ:=ZQ;obtain⟨ia,off,size,rows,f,told,h2,h7,h1,jL,lk,hf,hs,G,ew⟩:=Ev c ns;have s1:ZD 1 (fA (kN 1 (WM c)) (Zc (Za 0) Zj)) (sl3 ns none none none none none none) []=some (.ok (.nx,sl3 ns (some (.tup [Zo ia off size,.lst (rows.map ZJ),.o 0,.o 1])) none none none none none),[.lst (f.map ZA),.lst (told.map odW)]):=Zw (i:=1) ((ZB (Ze (Zb rfl) Zi)).trans ((YG rfl).trans ew));have wk:∀(om:iN) (sl:Sl) (k:Nat) (v:Wv),sl[1]?=some (some (.tup [Zo ia off size,.lst (rows.map ZJ),.o 0,.o 1]))->[Zo ia off size,.lst (rows.map ZJ),.o 0,.o 1][k]?=some v->f2 kIx (Za 1) (fC (.int (k:Nat))) sl om=some (.ok v,om):=λom sl k v h1 h2=>(Zs (Zb h1) Zp).trans (ZI (k:=k) rfl h2)
 have s2:ZD 2 (f2 Xc (f2 kIx (f2 kIx (Za 1) (fC (.int 0))) (fC (.int 2))) (fC (.int 1))) (sl3 ns (some (.tup [Zo ia off size,.lst (rows.map ZJ),.o 0,.o 1])) none none none none none) [.lst (f.map ZA),.lst (told.map odW)]=some (.ok (.nx,sl3 ns (some (.tup [Zo ia off size,.lst (rows.map ZJ),.o 0,.o 1])) (some (.int (size-1:Nat))) none none none none),[.lst (f.map ZA),.lst (told.map odW)]):=by
  have e:f2 Xc (f2 kIx (f2 kIx (Za 1) (fC (.int 0))) (fC (.int 2))) (fC (.int 1)) (sl3 ns (some (.tup [Zo ia off size,.lst (rows.map ZJ),.o 0,.o 1])) none none none none none) [.lst (f.map ZA),.lst (told.map odW)]=some (.ok (.int ((size:Int)-1)),[.lst (f.map ZA),.lst (told.map odW)]):=(Zs ((Zs (wk _ _ 0 _ rfl rfl) Zp).trans (ZI (k:=2) (v:=.int size) rfl rfl)) Zp).trans rfl;rw[show((size:Int)-1)=((size-1:Nat):Int) by omega]at e;exact Zw (i:=2) e
 obtain⟨kvs,gs,eg,mo,t⟩:=Ek (c:=c) lk hf h1 jL h7 hs G [.lst (f.map ZA),.lst (told.map odW)] (tw:=.o 1) (λij h=>SI rfl h) (sw:=.o 0) (λij h=>SI rfl h);have A1:Sit c ([.lst (f.map ZA),.lst (told.map odW)]++[Y0 c size 3,.dt kvs,Yv c 2 5,.dk (ZH (Yc off f ia)),ZM c 4 7,.dk (Yl c off gs)]) 6 4 2 5 3 7 size off f kvs gs rows told:=⟨⟨rfl,rfl,⟨Yc off f ia,rfl,by rw[hf]⟩,rfl,by omega,jL⟩,⟨rfl,rfl⟩,G,t,hs⟩;have k0:([.lst (f.map ZA),.lst (told.map odW)]++[Y0 c size 3,.dt kvs,Yv c 2 5,.dk (ZH (Yc off f ia)),ZM c 4 7,.dk (Yl c off gs)]:iN)[0]?=some (.lst (f.map ZA)):=rfl;have k1:([.lst (f.map ZA),.lst (told.map odW)]++[Y0 c size 3,.dt kvs,Yv c 2 5,.dk (ZH (Yc off f ia)),ZM c 4 7,.dk (Yl c off gs)]:iN)[1]?=some (.lst (told.map odW)):=rfl;have s3:ZD 3 (fA (kN 4 (X8 c)) (Zc (f2 kIx (Za 1) (fC (.int 0))) (Zc (f2 kIx (Za 1) (fC (.int 1))) (Zc (f2 kIx (Za 1) (fC (.int 2))) (Zc (f2 kIx (Za 1) (fC (.int 3))) Zj))))) (sl3 ns (some (.tup [Zo ia off size,.lst (rows.map ZJ),.o 0,.o 1])) (some (.int (size-1:Nat))) none none none none) [.lst (f.map ZA),.lst (told.map odW)]=some (.ok (.nx,sl3 ns (some (.tup [Zo ia off size,.lst (rows.map ZJ),.o 0,.o 1])) (some (.int (size-1:Nat))) (some (.o 6)) none none none),[.lst (f.map ZA),.lst (told.map odW)]++[Y0 c size 3,.dt kvs,Yv c 2 5,.dk (ZH (Yc off f ia)),ZM c 4 7,.dk (Yl c off gs)]):=Zw (i:=3) ((ZB (Ze (wk _ _ 0 _ rfl rfl) (Ze (wk _ _ 1 _ rfl rfl) (Ze (wk _ _ 2 _ rfl rfl) (Ze (wk _ _ 3 _ rfl rfl) Zi))))).trans ((YG rfl).trans eg));generalize [.lst (f.map ZA),.lst (told.map odW)]++[Y0 c size 3,.dt kvs,Yv c 2 5,.dk (ZH (Yc off f ia)),ZM c 4 7,.dk (Yl c off gs)]=om1 at s3 A1 k0 k1;obtain⟨l,kz,pi,eo,_,A2⟩:=Dp (c:=c) (sw:=.o 0) (tw:=.o 1) h2 h7 h1 jL lk hf hs G om1 (λij h=>SI k0 h) (λij h=>SI k1 h);have A1:=A1.grow l;have s4:ZD 4 (fA (kN 4 (Wb c)) (Zc (f2 kIx (Za 1) (fC (.int 0))) (Zc (f2 kIx (Za 1) (fC (.int 1))) (Zc (f2 kIx (Za 1) (fC (.int 2))) (Zc (f2 kIx (Za 1) (fC (.int 3))) Zj))))) (sl3 ns (some (.tup [Zo ia off size,.lst (rows.map ZJ),.o 0,.o 1])) (some (.int (size-1:Nat))) (some (.o 6)) none none none) om1=some (.ok (.nx,sl3 ns (some (.tup [Zo ia off size,.lst (rows.map ZJ),.o 0,.o 1])) (some (.int (size-1:Nat))) (some (.o 6)) (some (.o (om1.length+4))) none none),om1++l):=Zw (i:=4) ((ZB (Ze (wk _ _ 0 _ rfl rfl) (Ze (wk _ _ 1 _ rfl rfl) (Ze (wk _ _ 2 _ rfl rfl) (Ze (wk _ _ 3 _ rfl rfl) Zi))))).trans ((YG rfl).trans eo));generalize om1++l=om2 at s4 A1 A2;generalize om1.length+4=h4 at s4 A2;have lf':(mF ia f).length=ia:=by simp[mF]
 have T:=two_of (off:=off) (size:=size) G hf h7 h1 hs;have T1:=DG off G (by omega);have T2:=DG (size-off-ia) A2.G (by omega);have q1:=Sw A1;have q2:=Sw A2;have sb1:=T8 told f 100 (mvL told f);have lH:=T8 (mT ia told) (mF ia f) 100 (mvL (mT ia told) (mF ia f));have m1:=XX told f;have m2:=XX (mT ia told) (mF ia f);have up:=(mvL_up told f).sublist sb1;have n1:=sb1.length_le;have n2:=lH.length_le;generalize WU told f 100 (mvL told f)=F at T T1 q1 up n1;generalize WU (mT ia told) (mF ia f) 100 (mvL (mT ia told) (mF ia f))=F' at T T2 q2 n2
 have c5:fB (f2 kNe (fA (Xg ZL) (Zc (Z5 ZL [2] (λsl=>bnd ((fA (kN 1 (XF c)) (Zc (Za 4) Zj)) sl) ZN) Xh (JJ c)) Zj)) (fA (kN 1 (XF c)) (Zc (Za 3) Zj))) (sl3 ns (some (.tup [Zo ia off size,.lst (rows.map ZJ),.o 0,.o 1])) (some (.int (size-1:Nat))) (some (.o 6)) (some (.o h4)) none none) om2=some (.ok false,om2):=by
  have x:=PB (sl:=sl3 ns (some (.tup [Zo ia off size,.lst (rows.map ZJ),.o 0,.o 1])) (some (.int (size-1:Nat))) (some (.o 6)) (some (.o h4)) none none) (om:=om2) (fm:=fA (kN 1 (XF c)) (Zc (Za 4) Zj)) (E:=JJ c) (l:=F') (φ:=pW (size-off-ia)) (r:=λy=>Wv.int (((size-1:Nat):Int)-(((size-off-ia:Nat):Int)+y))) ((ZB (Ze (Zb rfl) Zi)).trans ((YG rfl).trans q2)) (λy _=>(v2 rfl rfl).trans rfl) (by omega);rw[show F'.map (λ(y:Nat)=>Wv.int (((size-1:Nat):Int)-(((size-off-ia:Nat):Int)+y)))=((F'.map λ(y:Nat)=>((size-off-ia:Nat):Int)+y).map λa=>((size-1:Nat):Int)-a).map Wv.int by rw[aS,aS];rfl]at x;have y:=LJ x (by rw[aA,aA];omega);rw[T.set_eq up]at y;have z:F.map (pW off)=(F.map λ(x:Nat)=>(off:Int)+x).map Wv.int:=by rw[aS];rfl
  rw[z]at q1;exact ZW ((Zs y ((ZB (Ze (Zb rfl) Zi)).trans ((YG rfl).trans q1))).trans (SD (Bn om2 _) (Bn om2 _) (OU _) true))
 obtain⟨l1,e6,K1⟩:=DE A1 T1;have s6:ZD 5 (fA (Y2 c.Turn 2 (Xv c)) (Zc (Za 3) Zj)) (sl3 ns (some (.tup [Zo ia off size,.lst (rows.map ZJ),.o 0,.o 1])) (some (.int (size-1:Nat))) (some (.o 6)) (some (.o h4)) none none) om2=some (.ok (.nx,sl3 ns (some (.tup [Zo ia off size,.lst (rows.map ZJ),.o 0,.o 1])) (some (.int (size-1:Nat))) (some (.o 6)) (some (.o h4)) (some (.o om2.length)) none),om2++l1):=Zw (i:=5) ((ZB (Ze (Zb rfl) Zi)).trans e6);have A2:=A2.grow l1;generalize om2++l1=jt at s6 A2 K1;obtain⟨l2,e7,K2⟩:=DE A2 T2;have s7:ZD 6 (fA (Y2 c.Turn 2 (Xv c)) (Zc (Za 4) Zj)) (sl3 ns (some (.tup [Zo ia off size,.lst (rows.map ZJ),.o 0,.o 1])) (some (.int (size-1:Nat))) (some (.o 6)) (some (.o h4)) (some (.o om2.length)) none) jt=some (.ok (.nx,sl3 ns (some (.tup [Zo ia off size,.lst (rows.map ZJ),.o 0,.o 1])) (some (.int (size-1:Nat))) (some (.o 6)) (some (.o h4)) (some (.o om2.length)) (some (.o jt.length))),jt++l2):=Zw (i:=6) ((ZB (Ze (Zb rfl) Zi)).trans e7);have fin:=asks13 (sl:=sl3 ns (some (.tup [Zo ia off size,.lst (rows.map ZJ),.o 0,.o 1])) (some (.int (size-1:Nat))) (some (.o 6)) (some (.o h4)) (some (.o om2.length)) (some (.o jt.length))) T h7 hf lf' (K1.grow l2) K2 (by omega) (by omega) rfl rfl rfl;exact⟨_,ZF ((Zh s1).trans ((Zh s2).trans ((Zh s3).trans ((Zh s4).trans ((Zh (ZK c5)).trans ((Zh s6).trans ((Zh s7).trans fin)))))))⟩
open PySem L2 PyProof.Rows
def GB:bootBuiltins "list"=some (.type "list"):=by decide +kernel
def L6:bootBuiltins "any"=some (.builtin "any"):=by decide +kernel
def Fm:bootBuiltins "min"=some (.builtin "min"):=by decide +kernel
def DB:bootBuiltins "max"=some (.builtin "max"):=by decide +kernel
structure All(K:W.Frag)(mg:g8)(c:CA):Prop where
 a0:AtC K mg c.Board "Board" ["chart","units"]
 a1:AtC K mg c.Map "Map" ["links","size"]
 a2:AtC K mg c.Orders "Orders" ["board","given"]
 a3:AtC K mg c.Turn "Turn" ["board","closed","comers","goals","pushed"]
 a4:ExF K mg c.Crowded "Crowded"
 a5:ExF K mg c.NoPlace "NoPlace"
 a6:ExF K mg c.NoSide "NoSide"
 a7:ExF K mg c.NoUnit "NoUnit"
 a8:ExF K mg c.OutOfReach "OutOfReach"
 a9:∃t,mg "FACED"=some (.int 2 t)
 aa:∃t,mg "FREE"=some (.int 0 t)
 ab:∃t,mg "HELD"=some (.int 3 t)
 ac:∃t,mg "LAST_SIDE"=some (.int 7 t)
 ad:∃t,mg "RIVAL"=some (.int 1 t)
 ae:mg "STAND"=some (.ref c.STAND)
 af:GTup K c.STAND
 ag:mg "any"=none
 ah:mg "len"=none
 ai:mg "list"=none
 aj:mg "max"=none
 ak:mg "min"=none
 al:mg "range"=none
 am:mg "set"=none
 an:mg "sorted"=none
 ao:GF K mg "_law_cell_at" st_0 ["script","k"]
 ap:GF K mg "_law_frame" st_1 ["script"]
 aq:GF K mg "_law_links" st_2 ["script","many"]
 ar:GF K mg "_law_sides" st_3 ["script","many"]
 au:GF K mg "_law_order_by" st_4 ["cell","k","links","sides"]
 av:GF K mg "_law_orders" st_5 ["script","links","sides"]
 aw:GF K mg "_law_world" st_6 ["script"]
 ax:NF K c.Map "Map.__init__" st_7 ["self","size"]
 ay:MF K c.Map "need_place" "Map.need_place" st_8 ["self","at"]
 az:MF K c.Map "link" "Map.link" st_9 ["self","a","b"]
 b0:GF K mg "_law_chart" BN ["frame","links"]
 b1:NF K c.Board "Board.__init__" B6 ["self","chart"]
 b2:MF K c.Board "post" "Board.post" AC ["self","at","side"]
 b3:GF K mg "_law_board" BM ["frame","links","sides"]
 b4:NF K c.Orders "Orders.__init__" BJ ["self","board"]
 b5:MF K c.Board "side_at" "Board.side_at" AD ["self","at"]
 b6:MF K c.Board "need_unit" "Board.need_unit" As ["self","at"]
 b7:MF K c.Orders "stand" "Orders.stand" AO ["self","at"]
 b8:MF K c.Orders "need_all" "Orders.need_all" AT ["self","places","units"]
 b9:MF K c.Map "beside" "Map.beside" AS ["self","a","b"]
 ba:MF K c.Orders "need_beside" "Orders.need_beside" Ax ["self","at","goal"]
 bb:MF K c.Orders "move" "Orders.move" Av ["self","at","goal"]
 bc:MF K c.Orders "aid" "Orders.aid" B0 ["self","at","helped","goal"]
 bd:GF K mg "_law_give" Ah ["orders","off","told","k"]
 be:GF K mg "_law_given" Aw ["frame","links","sides","told"]
 bf:GF K mg "_law_other" BF ["frame","links","sides","told"]
 bg:MF K c.Orders "goal_of" "Orders.goal_of" Ak ["self","at"]
 bh:MF K c.Orders "movers" "Orders.movers" BI ["self"]
 bi:MF K c.Board "roll" "Board.roll" AQ ["self"]
 bj:MF K c.Orders "told" "Orders.told" Af ["self","at"]
 bk:GF K mg "is_cut" B2 ["orders","at"]
 bl:GF K mg "fits" AL ["orders","helped","goal"]
 bm:GF K mg "counts" B8 ["orders","at"]
 bn:GF K mg "backs" B9 ["orders","helper","at"]
 bo:GF K mg "backing" Ap ["orders","at"]
 bp:GF K mg "force" BG ["orders","at"]
 bq:GF K mg "weigh_movers" AR ["orders"]
 br:GF K mg "is_outdone" Ac ["orders","forces","at"]
 bs:GF K mg "force_against" Aq ["orders","at","side"]
 bt:GF K mg "overcomes" BW ["orders","at","goal","strength"]
 bu:GF K mg "firmness" Az ["orders","at"]
 bv:GF K mg "hindrance" AB ["orders","forces","at"]
 bw:GF K mg "hindrances" AK ["orders"]
 bx:GF K mg "fault" Al ["orders","found","at","places"]
 bz:GF K mg "strikes" Ao ["orders"]
 c0:GF K mg "settled" B4 ["orders"]
 c1:GF K mg "units_after" BY ["board","goals","comers"]
 c2:GF K mg "posted_board" BH ["chart","units"]
 c3:NF K c.Turn "Turn.__init__" B5 ["self","orders"]
 c4:MF K c.Turn "done" "Turn.done" BO ["self"]
 c5:MF K c.Turn "aside" "Turn.aside" Au ["self"]
 c6:MF K c.Turn "shut" "Turn.shut" AI ["self"]
 c7:GF K mg "law" EZ ["script"]
section
variable{K:W.Frag}{mg:g8}{c:CA}(T:All K mg c)
def Z1:GO K mg 1 "_law_cell_at" 2 (Zr c):=gOk T.ao ["script","k"] λhr hu Sc=>(Zg (Y1 (IA (Zf 1) (Ux rfl T.ah (Zd (Zf 0) Zk))) (Ys (ZG (Zf 0) (Zf 1))))
      (Ys Zl))
def OG:GO K mg 2 "_law_frame" 1 (WO c):=gOk T.ap ["script","many"] λhr hu Sc=>(Zg (YT 1 (Xy Zl (Y7 (Yd (Z1 T) (Zd (Zf 0) (Zd Zl Zk))) Zl)))
      (Zg (Y1 (XS hu (Y7 (Uh (Yd (Z1 T) (Zd (Zf 0) (Zd Zl Zk))) Zl) Zl) Zl) (Ys (YF (Zd (Zf 1) (Zd (Y7 (Uh (Yd (Z1 T) (Zd (Zf 0) (Zd Zl Zk))) Zl) (YN Zl (Zf 1))) (Zd Zl Zk))))))
      (Ys (YF (Zd (Zf 1) (Zd Zl (Zd (Zf 1) Zk)))))))
def OI:GO K mg 2 "_law_links" 2 (Us c):=gOk T.aq ["script","many","bits","links","a","b"] λhr hu Sc=>(Zg (YT 2 (Y7 (Yd (Z1 T) (Zd (Zf 0) (Zd Zl Zk))) Zl))
      (Zg (Y1 (XS hu (Y7 (Yd (Z1 T) (Zd (Zf 0) (Zd Zl Zk))) Zl) Zl) (Zt (YT 2 Zl)))
      (Zg (U1 3 (cOk ["many"]) (Yj rfl T.al (Zf 1)) YU (qe_rep Ru (Zd SC Zk) (Zf 1)))
      (Zg (WB 4 (Yj rfl T.al (Zf 1)) (Zt (WB 5 (Yj rfl T.al (Zf 4)) (Zg (UZ (SO hu (Y7 (Zf 2) Zl) Zl) (ZG (Zf 3) (Zf 4)) (Zf 5))
      (Zg (UZ (SO hu (Y7 (Zf 2) Zl) Zl) (ZG (Zf 3) (Zf 5)) (Zf 4))
      (Zt (YT 2 (Uh (Zf 2) Zl))))))))
      (Ys (Zf 3))))))
def Pg:GO K mg 2 "_law_links" 2 (Wu c):=GO.tidy (OI T)
def Oy:GO K mg 2 "_law_sides" 2 (WY c):=gOk T.ar ["script","many","sides","k","cell"] λhr hu Sc=>(Zg (YT 2 (I0 Zk))
      (Zg (WB 3 (Yj rfl T.al (Zf 1)) (Zg (YT 4 (Yd (Z1 T) (Zd (Zf 0) (Zd (Xy Zl (Zf 3)) Zk))))
      (Zt (KR (XS hu (Y7 (Zf 4) Zl) Zl) (Zt (Z2 (RB (Zf 2) Mv))) (Zt (KR (XS hu (Y7 (Uh (Zf 4) Zl) Zl) Zl) (Zt (Z2 (RB (Zf 2) (Y7 (Uh (Zf 4) Zl) Zl)))) (Zt (Z2 (RB (Zf 2) (Y7 (Uh (Zf 4) Zl) Zl))))))))))
      (Ys (Zf 2))))
def Rl:GO K mg 1 "_law_order_by" 4 (YX c):=gOk T.au ["cell","k","links","sides","near","goal","able"] λhr hu Sc=>(Zg (U1 4 (cOk ["k","links"]) (Yj rfl T.al (Ux rfl T.ah (Zd (Zf 3) Zk))) (Xk (XO (ZG (ZG (Zf 2) (Zf 1)) (Zf 0)))) (Zf 0))
      (Zg (Y1 (Rz (ZG (Zf 3) (Zf 1))) (Ys Mv))
      (Zg (Y1 (PW.pt (IV (Jt (XO (Zf 4))) (MI (XS hu (Y7 (Zf 0) Zl) Zl)))) (Ys (YF (Zd Xf Zk))))
      (Zg (YT 5 (ZG (Zf 4) (Y7 (Uh (Zf 0) Zl) (Ux rfl T.ah (Zd (Zf 4) Zk)))))
      (Zg (Y1 (IA (Y7 (Zf 0) Zl) Zl) (Ys (YF (Zd Xf (Zd (Zf 5) Zk)))))
      (Zg (U1 6 (cOk ["k","links","sides","goal"]) (Yj rfl T.al (Ux rfl T.ah (Zd (Zf 3) Zk))) (Xk (PW.pt (Uq (U5 hu (Zf 0) (Zf 1)) (Uq (Ul (ZG (Zf 3) (Zf 0))) (Vr (PW.pt (IV (XS hu (Zf 0) (Zf 4)) (MI (XO (ZG (ZG (Zf 2) (Zf 0)) (Zf 4))))))))))) (Zf 0))
      (Zg (Y1 (Jt (XO (Zf 6))) (Ys (YF (Zd Xf Zk))))
      (Ys (YF (Zd Xf (Zd (ZG (Zf 6) (Y7 (Uh (Zf 0) Zl) (Ux rfl T.ah (Zd (Zf 6) Zk)))) (Zd (Zf 5) Zk))))))))))))
def Qw:GO K mg 2 "_law_orders" 3 (Wc c):=gOk T.av ["script","links","sides"] λhr hu Sc=>(Ys (Vz (cOk ["script","links","sides"]) (Yj rfl T.al (Ux rfl T.ah (Zd (Zf 2) Zk))) YU (Yd (Rl T) (Zd (Yd (Z1 T) (Zd (Zf 1) (Zd (Xy Zl (Zf 0)) Zk))) (Zd (Zf 0) (Zd (Zf 2) (Zd (Zf 3) Zk)))))))
def Ox:GO K mg 3 "_law_world" 1 (WM c):=gOk T.aw ["script","frame","links","sides","twice","pushed","k","told"] λhr hu Sc=>(Zg (YT 1 (Yd (OG T) (Zd (Zf 0) Zk)))
      (Zg (Y1 (XS hu (Y7 (Yd (Z1 T) (Zd (Zf 0) (Zd Zl Zk))) Zl) Zl) (Zt (YT 1 (YF (Zd Zl (Zd (Bb rfl rfl T.ak Fm (Zd (ZG (Zf 1) Zl) (Zd Zl Zk))) (Zd (Bu rfl rfl T.aj DB (Zd (ZG (Zf 1) Zl) (Zd Zl Zk))) Zk)))))))
      (Zg (YT 2 (Yd (Pg T) (Zd (Zf 0) (Zd (ZG (Zf 1) Zl) Zk))))
      (Zg (YT 3 (Yd (Oy T) (Zd (Zf 0) (Zd (ZG (Zf 1) Zl) Zk))))
      (Zg (YT 4 (SO hu (Y7 (Yd (Z1 T) (Zd (Zf 0) (Zd Zl Zk))) Zl) Zl))
      (Zg (YT 5 (Ry (Ar (ZG (Zf 1) Zl) Zl) (Mf (SO hu (Y7 (Yd (Z1 T) (Zd (Zf 0) (Zd Zl Zk))) Zl) Zl))))
      (Zg (Y1 (XO (Zf 5)) (Zg (U1 2 (cOkO ["frame"]) (Yj rfl T.al (ZG (Zf 1) Zl)) YU (Vz (cOk ["a"]) (Yj rfl T.al (ZG (Zf 1) Zl)) YU (Ft hu (Zf 1) (Zf 0))))
      (Zt (WB 6 (Yj rfl T.al Zl) (Zt (UZ (Y7 (Zf 6) Zl) (Zf 3) (Zf 6)))))))
      (Zg (Y1 (XO (Zf 4)) (Zg (WB 6 (Yj rfl T.al Zl) (Zt (UZ (Y7 (Zf 6) Zl) (Zf 3) (Xy Zl (Zf 6)))))
      (Zt (UZ Mv (Zf 3) Zl))))
      (Zg (YT 7 (Yd (Qw T) (Zd (Zf 0) (Zd (Zf 2) (Zd (Zf 3) Zk)))))
      (Zg (Y1 (XO (Zf 5)) (Zg (UZ (YF (Zd Xf (Zd Zl Zk))) (Zf 7) Zl)
      (Zg (UZ (YF (Zd Xf (Zd Zl (Zd Zl Zk)))) (Zf 7) Zl)
      (Zt (Y1 (AJ (Y7 (Uh (Yd (Z1 T) (Zd (Zf 0) (Zd Zl Zk))) Zl) Zl) Zl) (Zt (UZ (YF (Zd Xf Zk)) (Zf 7) Zl)))))))
      (Zg (Y1 (XO (Zf 4)) (Zg (UZ (YF (Zd Xf (Zd Zl Zk))) (Zf 7) Zl)
      (Zg (UZ (YF (Zd Xf Zk)) (Zf 7) Zl)
      (Zt (UZ (YF (Zd Xf (Zd Zl (Zd Zl Zk)))) (Zf 7) Zl)))))
      (Ys (YF (Zd (Zf 1) (Zd (Zf 2) (Zd (Zf 3) (Zd (Zf 7) Zk)))))))))))))))))
def Qt:NO K mg 1 c.Map 2 (X0 c):=nOk T.ax ["self","size"] λhr hu Sc=>(Zg (UQ T.a1 (Zf 1) (Zf 0))
      (Zt (UQ T.a1 Ei (Zf 0))))
def Yq:MO K mg 1 c.Map "need_place" 2 (ZO c):=mOk T.ay ["self","at"] λhr hu Sc=>(Zt (Y1 (PW.pt (IV (IA (Zf 1) Zl) (MI (qt_ge (Zf 1) (YR T.a1 (Zf 0)))))) (Zt (Sk T.a5 (U4 (Zf 1) (VN T7))))))
def R7:MO K mg 2 c.Map "link" 3 (Uv c):=mOk T.az ["self","a","b"] λhr hu Sc=>(Zg (Z2 (Z3 T.a1 (Yq T) (Zf 0) (Zd (Zf 1) Zk)))
      (Zg (Z2 (Z3 T.a1 (Yq T) (Zf 0) (Zd (Zf 2) Zk)))
      (Zg (Y1 (XS hu (Zf 1) (Zf 2)) (Zt (Sk T.a8 (VN (U4 (Zf 1) (VN T7))))))
      (Zg (Wf hu SC (YR T.a1 (Zf 0)) (YF (Zd (Zf 1) (Zd (Zf 2) Zk))))
      (Zt (Wf hu SC (YR T.a1 (Zf 0)) (YF (Zd (Zf 2) (Zd (Zf 1) Zk)))))))))
def OC:GO K mg 3 "_law_chart" 2 (WW c):=gOk T.b0 ["frame","links","chart","a","b"] λhr hu Sc=>(Zg (YT 2 (SH T.a1 (Qt T) (Zd (ZG (Zf 0) Zl) Zk)))
      (Zg (WB 3 (Yj rfl T.al (ZG (Zf 0) Zl)) (Zt (WB 4 (Yj rfl T.al (Zf 3)) (Zt (Y1 (XO (ZG (ZG (Zf 1) (Zf 3)) (Zf 4))) (Zt (Z2 (Z3 T.a1 (R7 T) (Zf 2) (Zd (Xy (ZG (Zf 0) Zl) (Zf 3)) (Zd (Xy (ZG (Zf 0) Zl) (Zf 4)) Zk))))))))))
      (Ys (Zf 2))))
def VT:NO K mg 1 c.Board 2 (YO c):=nOk T.b1 ["self","chart"] λhr hu Sc=>(Zg (UQ T.a0 (Zf 1) (Zf 0))
      (Zt (UQ T.a0 W1 (Zf 0))))
def VQ:MO K mg 2 c.Board "post" 3 (X9 c):=mOk T.b2 ["self","at","side"] λhr hu Sc=>(Zg (Z2 (Z3 T.a1 (Yq T) (YR T.a0 (Zf 0)) (Zd (Zf 1) Zk)))
      (Zg (Y1 (PW.pt (IV (IA (Zf 2) Zl) (MI (AJ (Zf 2) (UK rfl T.ac))))) (Zt (Sk T.a6 (U4 (Zf 2) (VN T7)))))
      (Zg (Y1 (J1 hu (Zf 1) (YR T.a0 (Zf 0))) (Zt (Sk T.a4 (VN (U4 (Zf 1) T7)))))
      (Zt (Wf hu (Zf 2) (YR T.a0 (Zf 0)) (Zf 1))))))
def OJ:GO K mg 4 "_law_board" 3 (WQ c):=gOk T.b3 ["frame","links","sides","board","k"] λhr hu Sc=>(Zg (YT 3 (SH T.a0 (VT T) (Zd (Yd (OC T) (Zd (Zf 0) (Zd (Zf 1) Zk))) Zk)))
      (Zg (WB 4 (Yj rfl T.al (ZG (Zf 0) Zl)) (Zt (Y1 (Ul (ZG (Zf 2) (Zf 4))) (Zt (Z2 (Z3 T.a0 (VQ T) (Zf 3) (Zd (Xy (ZG (Zf 0) Zl) (Zf 4)) (Zd (ZG (Zf 2) (Zf 4)) Zk))))))))
      (Ys (Zf 3))))
def UI:NO K mg 1 c.Orders 2 (Y3 c):=nOk T.b4 ["self","board"] λhr hu Sc=>(Zg (UQ T.a2 (Zf 1) (Zf 0))
      (Zt (UQ T.a2 W1 (Zf 0))))
def YS:MO K mg 2 c.Board "side_at" 2 (ZP c):=mOk T.b5 ["self","at"] λhr hu Sc=>(Zg (Z2 (Z3 T.a1 (Yq T) (YR T.a0 (Zf 0)) (Zd (Zf 1) Zk)))
      (Ys (CN hu (YR T.a0 (Zf 0)) (Zf 1))))
def X1:MO K mg 3 c.Board "need_unit" 2 (Yp c):=mOk T.b6 ["self","at"] λhr hu Sc=>(Zt (Y1 (Rz (Z3 T.a0 (YS T) (Zf 0) (Zd (Zf 1) Zk))) (Zt (Sk T.a7 (VN (U4 (Zf 1) T7))))))
def QA:MO K mg 4 c.Orders "stand" 2 (Vi c):=mOk T.b7 ["self","at"] λhr hu Sc=>(Zg (Z2 (Z3 T.a0 (X1 T) (YR T.a2 (Zf 0)) (Zd (Zf 1) Zk)))
      (Zt (Wf hu (N5 rfl T.ae) (YR T.a2 (Zf 0)) (Zf 1))))
def Vn:MO K mg 4 c.Orders "need_all" 3 (YJ c):=mOk T.b8 ["self","places","units","at"] λhr hu Sc=>(Zg (WB 3 (Yg (Zf 1)) (Zt (Z2 (Z3 T.a1 (Yq T) (YR T.a0 (YR T.a2 (Zf 0))) (Zd (Zf 3) Zk)))))
      (Zt (WB 3 (Yg (Zf 2)) (Zt (Z2 (Z3 T.a0 (X1 T) (YR T.a2 (Zf 0)) (Zd (Zf 3) Zk)))))))
def OL:MO K mg 2 c.Map "beside" 3 (Ut c):=mOk T.b9 ["self","a","b"] λhr hu Sc=>(Zg (Z2 (Z3 T.a1 (Yq T) (Zf 0) (Zd (Zf 1) Zk)))
      (Zg (Z2 (Z3 T.a1 (Yq T) (Zf 0) (Zd (Zf 2) Zk)))
      (Ys (qe_din hu (YF (Zd (Zf 1) (Zd (Zf 2) Zk))) (YR T.a1 (Zf 0))))))
def Xp:MO K mg 3 c.Orders "need_beside" 3 (ZZ c):=mOk T.ba ["self","at","goal"] λhr hu Sc=>(Zt (Y1 (Jt (XO (Z3 T.a1 (OL T) (YR T.a0 (YR T.a2 (Zf 0))) (Zd (Zf 1) (Zd (Zf 2) Zk))))) (Zt (Sk T.a8 (VN (U4 (Zf 2) (VN (U4 (Zf 1) T7))))))))
def US:MO K mg 5 c.Orders "move" 3 (Ws c):=mOk T.bb ["self","at","goal"] λhr hu Sc=>(Zg (Z2 (Z3 T.a2 (Vn T) (Zf 0) (Zd (On (Zd (Zf 1) (Zd (Zf 2) Zk))) (Zd (On (Zd (Zf 1) Zk)) Zk))))
      (Zg (Z2 (Z3 T.a2 (Xp T) (Zf 0) (Zd (Zf 1) (Zd (Zf 2) Zk))))
      (Zt (Wf hu (YF (Zd Xf (Zd (Zf 2) Zk))) (YR T.a2 (Zf 0)) (Zf 1)))))
def TM:MO K mg 5 c.Orders "aid" 4 (WR c):=mOk T.bc ["self","at","helped","goal"] λhr hu Sc=>(Zg (Z2 (Z3 T.a2 (Vn T) (Zf 0) (Zd (On (Zd (Zf 1) (Zd (Zf 2) (Zd (Zf 3) Zk)))) (Zd (On (Zd (Zf 1) (Zd (Zf 2) Zk))) Zk))))
      (Zg (Y1 (XS hu (Zf 2) (Zf 1)) (Zt (Sk T.a8 (VN (U4 (Zf 1) (VN T7))))))
      (Zg (Z2 (Z3 T.a2 (Xp T) (Zf 0) (Zd (Zf 1) (Zd (Zf 3) Zk))))
      (Zg (Y1 (U5 hu (Zf 3) (Zf 2)) (Zt (Z2 (Z3 T.a2 (Xp T) (Zf 0) (Zd (Zf 2) (Zd (Zf 3) Zk))))))
      (Zt (Wf hu (YF (Zd Xf (Zd (Zf 2) (Zd (Zf 3) Zk)))) (YR T.a2 (Zf 0)) (Zf 1)))))))
def MV:GO K mg 6 "_law_give" 4 (Vt c):=gOk T.bd ["orders","off","told","k","order"] λhr hu Sc=>(Zg (YT 4 (ZG (Zf 2) (Zf 3)))
      (Zg (Y1 (Rz (Zf 4)) (Zt Bl))
      (Zt (KR (XS hu (ZG (Zf 4) Zl) Xf) (Zt (Z2 (Z3 T.a2 (QA T) (Zf 0) (Zd (Xy (Zf 1) (Zf 3)) Zk)))) (Zt (KR (XS hu (ZG (Zf 4) Zl) Xf) (Zt (Z2 (Z3 T.a2 (US T) (Zf 0) (Zd (Xy (Zf 1) (Zf 3)) (Zd (Xy (Zf 1) (ZG (Zf 4) Zl)) Zk))))) (Zt (Z2 (Z3 T.a2 (TM T) (Zf 0) (Zd (Xy (Zf 1) (Zf 3)) (Zd (Xy (Zf 1) (ZG (Zf 4) Zl)) (Zd (Xy (Zf 1) (ZG (Zf 4) Zl)) Zk))))))))))))
def OA:GO K mg 7 "_law_given" 4 (X8 c):=gOk T.be ["frame","links","sides","told","orders","k"] λhr hu Sc=>(Zg (YT 4 (SH T.a2 (UI T) (Zd (Yd (OJ T) (Zd (Zf 0) (Zd (Zf 1) (Zd (Zf 2) Zk)))) Zk)))
      (Zg (WB 5 (Yj rfl T.al (ZG (Zf 0) Zl)) (Zt (Z2 (Yd (MV T) (Zd (Zf 4) (Zd (ZG (Zf 0) Zl) (Zd (Zf 3) (Zd (Zf 5) Zk))))))))
      (Ys (Zf 4))))
def OE:GO K mg 6 "_law_other" 4 (Wb c):=gOk T.bf ["frame","links","sides","told","chart","end","board","a","b","k","orders"] λhr hu Sc=>(Zg (YT 4 (SH T.a1 (Qt T) (Zd (ZG (Zf 0) Zl) Zk)))
      (Zg (YT 5 (YN (YN (ZG (Zf 0) Zl) Zl) (ZG (Zf 0) Zl)))
      (Zg (YT 6 (SH T.a0 (VT T) (Zd (Zf 4) Zk)))
      (Zg (WB 7 (Yj rfl T.al (ZG (Zf 0) Zl)) (Zt (WB 8 (Yj rfl T.al (Zf 7)) (Zt (Y1 (XO (ZG (ZG (Zf 1) (Zf 7)) (Zf 8))) (Zt (Z2 (Z3 T.a1 (R7 T) (Zf 4) (Zd (YN (Zf 5) (Zf 8)) (Zd (YN (Zf 5) (Zf 7)) Zk))))))))))
      (Zg (WB 9 (Nh rfl T.al (YN (ZG (Zf 0) Zl) Zl) (NS Zl) (NS Zl)) (Zt (Y1 (Ul (ZG (Zf 2) (Zf 9))) (Zt (Z2 (Z3 T.a0 (VQ T) (Zf 6) (Zd (YN (Zf 5) (Zf 9)) (Zd (YN Zl (ZG (Zf 2) (Zf 9))) Zk))))))))
      (Zg (YT 10 (SH T.a2 (UI T) (Zd (Zf 6) Zk)))
      (Zg (WB 9 (Nh rfl T.al (YN (ZG (Zf 0) Zl) Zl) (NS Zl) (NS Zl)) (Zg (Y1 (PW.pt (Uq (Ul (ZG (Zf 3) (Zf 9))) (Vr (XS hu (ZG (ZG (Zf 3) (Zf 9)) Zl) Xf)))) (Zt (Z2 (Z3 T.a2 (US T) (Zf 10) (Zd (YN (Zf 5) (Zf 9)) (Zd (YN (Zf 5) (ZG (ZG (Zf 3) (Zf 9)) Zl)) Zk))))))
      (Zt (Y1 (PW.pt (Uq (Ul (ZG (Zf 3) (Zf 9))) (Vr (XS hu (ZG (ZG (Zf 3) (Zf 9)) Zl) Xf)))) (Zt (Z2 (Z3 T.a2 (TM T) (Zf 10) (Zd (YN (Zf 5) (Zf 9)) (Zd (YN (Zf 5) (ZG (ZG (Zf 3) (Zf 9)) Zl)) (Zd (YN (Zf 5) (ZG (ZG (Zf 3) (Zf 9)) Zl)) Zk))))))))))
      (Ys (Zf 10)))))))))
def ZE:MO K mg 1 c.Orders "goal_of" 2 (Zn c):=mOk T.bg ["self","at","order"] λhr hu Sc=>(Zg (YT 2 (Hd hu (YR T.a2 (Zf 0)) (Zf 1) (N5 rfl T.ae)))
      (Zg (Y1 (XS hu (Ur T.af (Zf 2) Zl) Xf) (Ys (Ur T.af (Zf 2) Zl)))
      (Ys Mv)))
def Xe:MO K mg 2 c.Orders "movers" 1 (ZS c):=mOk T.bh ["self"] λhr hu Sc=>(Ys (U3 Yy rfl T.an (Zd (DN Yy (cOk ["self"]) rfl (YR T.a2 (Zf 0)) (λ_ _ _ _=>(Xk (Ul (Z3 T.a2 (ZE T) (Zf 1) (Zd (Zf 0) Zk))))) (λ_ _ _ _=>(Zf 0))) Zk)))
def Xn:MO K mg 1 c.Board "roll" 1 (ZU c):=mOk T.bi ["self"] λhr hu Sc=>(Ys (NA Yy rfl rfl T.an (YR T.a0 (Zf 0))))
def Va:MO K mg 4 c.Orders "told" 2 (YC c):=mOk T.bj ["self","at"] λhr hu Sc=>(Zg (Z2 (Z3 T.a0 (X1 T) (YR T.a2 (Zf 0)) (Zd (Zf 1) Zk)))
      (Ys (Hd hu (YR T.a2 (Zf 0)) (Zf 1) (N5 rfl T.ae))))
def HV:GO K mg 5 "is_cut" 2 (P4 c):=gOk T.bk ["orders","at","order","own","comers"] λhr hu Sc=>(Zg (YT 2 (Z3 T.a2 (Va T) (Zf 0) (Zd (Zf 1) Zk)))
      (Zg (Y1 (U5 hu (Ur T.af (Zf 2) Zl) Xf) (Ys SC))
      (Zg (YT 3 (Z3 T.a0 (YS T) (YR T.a2 (Zf 0)) (Zd (Zf 1) Zk)))
      (Zg (U1 4 (cOk ["orders","at","own"]) (Yg (XC T.a2 (Xe T) (Zf 0))) (Xk (PW.pt (Uq (XS hu (Z3 T.a2 (ZE T) (Zf 1) (Zd (Zf 0) Zk)) (Zf 2)) (Vr (U5 hu (Z3 T.a0 (YS T) (YR T.a2 (Zf 1)) (Zd (Zf 0) Zk)) (Zf 3)))))) (Zf 0))
      (Ys (Dv rfl rfl T.ag L6 (Zd (Vz (cOk ["order"]) (Yg (Zf 4)) YU (Ft hu (Zf 0) (Ur T.af (Zf 1) Zl))) Zk)))))))
def Bc:GO K mg 2 "fits" 3 (JE c):=gOk T.bl ["orders","helped","goal"] λhr hu Sc=>(Zg (Y1 (XS hu (Zf 2) (Zf 1)) (Ys (qe_isN (Z3 T.a2 (ZE T) (Zf 0) (Zd (Zf 1) Zk)))))
      (Ys (SO hu (Z3 T.a2 (ZE T) (Zf 0) (Zd (Zf 1) Zk)) (Zf 2))))
def GC:GO K mg 6 "counts" 2 (Oi c):=gOk T.bm ["orders","at","order"] λhr hu Sc=>(Zg (YT 2 (Z3 T.a2 (Va T) (Zf 0) (Zd (Zf 1) Zk)))
      (Ys (Ry (SO hu (Ur T.af (Zf 2) Zl) Xf) (Ry (Yd (Bc T) (Zd (Zf 0) (Zd (Ur T.af (Zf 2) Zl) (Zd (Ur T.af (Zf 2) Zl) Zk)))) (Mf (AU (Yd (HV T) (Zd (Zf 0) (Zd (Zf 1) Zk)))))))))
def DO:GO K mg 7 "backs" 3 (NH c):=gOk T.bn ["orders","helper","at","order"] λhr hu Sc=>(Zg (YT 3 (Z3 T.a2 (Va T) (Zf 0) (Zd (Zf 1) Zk)))
      (Ys (Ry (SO hu (Ur T.af (Zf 3) Zl) Xf) (Ry (SO hu (Ur T.af (Zf 3) Zl) (Zf 2)) (Mf (Yd (GC T) (Zd (Zf 0) (Zd (Zf 1) Zk))))))))
def Se:GO K mg 8 "backing" 2 (VX c):=gOk T.bo ["orders","at"] λhr hu Sc=>(Ys (E8 Yy (cOkT ["helper","side"] ["orders","at"]) rfl (λ_ _ _ _=>Q7 rfl (XU (Wx (i:=0) (show(["helper","side","orders","at"]:iE).Nodup by decide +kernel) rfl (Or.inl rfl)) (XU (Wx (i:=1) (show(["helper","side","orders","at"]:iE).Nodup by decide +kernel) rfl (Or.inl rfl)) SB))) (Yg (XC T.a0 (Xn T) (YR T.a2 (Zf 0)))) (λ_ _ _ _=>(Xk (XO (Yd (DO T) (Zd (Zf 2) (Zd (Zf 0) (Zd (Zf 3) Zk))))))) (λ_ _ _ _=>(Zf 1))))
def Fv:GO K mg 9 "force" 2 (N0 c):=gOk T.bp ["orders","at"] λhr hu Sc=>(Zg (Y1 (Rz (Z3 T.a2 (ZE T) (Zf 0) (Zd (Zf 1) Zk))) (Ys Zl))
      (Ys (Xy Zl (Ux rfl T.ah (Zd (Yd (Se T) (Zd (Zf 0) (Zd (Zf 1) Zk))) Zk)))))
def Qx:GO K mg 10 "weigh_movers" 1 (We c):=gOk T.bq ["orders","forces","at"] λhr hu Sc=>(Zg (YT 1 W1)
      (Zg (WB 2 (Yg (XC T.a2 (Xe T) (Zf 0))) (Zt (Wf hu (Yd (Fv T) (Zd (Zf 0) (Zd (Zf 2) Zk))) (Zf 1) (Zf 2))))
      (Ys (Zf 1))))
def OF:GO K mg 2 "is_outdone" 3 (WX c):=gOk T.br ["orders","forces","at","goal","rivals"] λhr hu Sc=>(Zg (YT 3 (Z3 T.a2 (ZE T) (Zf 0) (Zd (Zf 2) Zk)))
      (Zg (LB (j:=4) Yy (cOk ["orders","at","goal"]) rfl (Zf 1) (λ_ _ _ _=>(Xk (PW.pt (Uq (U5 hu (Zf 0) (Zf 2)) (Vr (XS hu (Z3 T.a2 (ZE T) (Zf 1) (Zd (Zf 0) Zk)) (Zf 3))))))) (λ_ _ _ _=>(Zf 0)) Sc.nd rfl (Or.inl rfl) (by with_unfolding_all rfl))
      (Ys (Dv rfl rfl T.ag L6 (Zd (Vz (cOk ["forces","at"]) (Yg (Zf 4)) YU (qe_ge (VB hu (Zf 1) (Zf 0)) (VB hu (Zf 1) (Zf 2)))) Zk)))))
def RD:GO K mg 9 "force_against" 3 (WG c):=gOk T.bs ["orders","at","side"] λhr hu Sc=>(Zg (Y1 (Rz (Z3 T.a2 (ZE T) (Zf 0) (Zd (Zf 1) Zk))) (Ys Zl))
      (Ys (Xy Zl (Ux rfl T.ah (Zd (Vz (cOk ["side"]) (Yg (Yd (Se T) (Zd (Zf 0) (Zd (Zf 1) Zk)))) (Xk (U5 hu (Zf 0) (Zf 1))) (Zf 0)) Zk)))))
def S7:GO K mg 10 "overcomes" 4 (WA c):=gOk T.bt ["orders","at","goal","strength","side"] λhr hu Sc=>(Zg (YT 4 (Z3 T.a0 (YS T) (YR T.a2 (Zf 0)) (Zd (Zf 2) Zk)))
      (Ys (Ry (Ft hu (Zf 4) (Z3 T.a0 (YS T) (YR T.a2 (Zf 0)) (Zd (Zf 1) Zk))) (Mf (Ar (Yd (RD T) (Zd (Zf 0) (Zd (Zf 1) (Zd (Zf 4) Zk)))) (Zf 3))))))
def KO:GO K mg 9 "firmness" 2 (Uj c):=gOk T.bu ["orders","at"] λhr hu Sc=>(Zg (Y1 (Ul (Z3 T.a2 (ZE T) (Zf 0) (Zd (Zf 1) Zk))) (Ys Zl))
      (Ys (Xy Zl (Ux rfl T.ah (Zd (Yd (Se T) (Zd (Zf 0) (Zd (Zf 1) Zk))) Zk)))))
def Mg:GO K mg 11 "hindrance" 3 (UN c):=gOk T.bv ["orders","forces","at","goal"] λhr hu Sc=>(Zg (YT 3 (Z3 T.a2 (ZE T) (Zf 0) (Zd (Zf 2) Zk)))
      (Zg (Y1 (XO (Yd (OF T) (Zd (Zf 0) (Zd (Zf 1) (Zd (Zf 2) Zk))))) (Ys (UK rfl T.ad)))
      (Zg (Y1 (Rz (Z3 T.a0 (YS T) (YR T.a2 (Zf 0)) (Zd (Zf 3) Zk))) (Ys (UK rfl T.aa)))
      (Zg (Y1 (XS hu (Z3 T.a2 (ZE T) (Zf 0) (Zd (Zf 3) Zk)) (Zf 2)) (Ys (Dq (XO (Yd (S7 T) (Zd (Zf 0) (Zd (Zf 2) (Zd (Zf 3) (Zd (VB hu (Zf 1) (Zf 3)) Zk)))))) (UK rfl T.aa) (UK rfl T.a9))))
      (Ys (Dq (XO (Yd (S7 T) (Zd (Zf 0) (Zd (Zf 2) (Zd (Zf 3) (Zd (Yd (KO T) (Zd (Zf 0) (Zd (Zf 3) Zk))) Zk)))))) (UK rfl T.aa) (UK rfl T.ab)))))))
def OB:GO K mg 12 "hindrances" 1 (WL c):=gOk T.bw ["orders","forces","found","at"] λhr hu Sc=>(Zg (YT 1 (Yd (Qx T) (Zd (Zf 0) Zk)))
      (Zg (YT 2 W1)
      (Zg (D4 fZ rfl (Zf 1) (qpg 3) (Nc 3) (Zt (Wf hu (Yd (Mg T) (Zd (Zf 0) (Zd (Zf 1) (Zd (Zf 3) Zk)))) (Zf 2) (Zf 3))))
      (Ys (Zf 2)))))
def FH:GO K mg 2 "fault" 4 (M9 c):=gOk T.bx ["orders","found","at","places"] λhr hu Sc=>(Zg (Y1 (PW.pt (Uq (XS hu (VB hu (Zf 1) (Zf 2)) (UK rfl T.ab)) (Vr (qt_in (Z3 T.a2 (ZE T) (Zf 0) (Zd (Zf 2) Zk)) (Zf 3))))) (Ys (UK rfl T.aa)))
      (Ys (VB hu (Zf 1) (Zf 2))))
def JR:GO K mg 13 "strikes" 1 (RG c):=gOk T.bz ["orders","found","left","struck","count","faults","fallen"] λhr hu Sc=>(Zg (YT 1 (Yd (OB T) (Zd (Zf 0) Zk)))
      (Zg (YT 2 (XC T.a2 (Xe T) (Zf 0)))
      (Zg (YT 3 (I0 Zk))
      (Zg (YT 4 Zl)
      (Zt (Et 100 fZ (XO SC) (Zg (U1 5 (cOk ["orders","found","left","count"]) (Yg (Zf 2)) YU (YF (Zd (Zf 4) (Zd (Zf 0) (Zd (Yd (FH T) (Zd (Zf 1) (Zd (Zf 2) (Zd (Zf 0) (Zd (Zf 3) Zk))))) Zk)))))
      (Zg (U1 6 (cOk []) (Yg (Zf 5)) (Xk (U5 hu (ZG (Zf 0) Zl) (UK rfl T.aa))) (Zf 0))
      (Zg (Y1 (XS hu (Zf 6) (On Zk)) (Ys (Zf 3)))
      (Zg (Z2 (Hx (Zf 3) (Zf 6)))
      (Zg (YT 2 (Vz (cOk []) (Yg (Zf 5)) (Xk (XS hu (ZG (Zf 0) Zl) (UK rfl T.aa))) (ZG (Zf 0) Zl)))
      (Zt (YT 4 (Xy (Zf 4) Zl))))))))))))))
def KN:GO K mg 13 "strikes" 1 (Ui c):=GO.tidy (JR T)
def Sm:GO K mg 14 "settled" 1 (XF c):=gOk T.c0 ["orders","struck"] λhr hu Sc=>(Zg (YT 1 (Vz (cOk []) (Yg (Yd (KN T) (Zd (Zf 0) Zk))) YU (ZG (Zf 0) Zl)))
      (Ys (Vz (cOk ["struck"]) (Yg (XC T.a2 (Xe T) (Zf 0))) (Xk (qt_nin (Zf 0) (Zf 1))) (Zf 0))))
def Pv:GO K mg 2 "units_after" 3 (Wp c):=gOk T.c1 ["board","goals","comers","moved","stayed"] λhr hu Sc=>(Zg (Qf (j:=3) Yy (cOkT ["at","side"] ["goals"]) rfl (λ_ _ _ _=>Q7 rfl (XU (Wx (i:=0) (show(["at","side","goals"]:iE).Nodup by decide +kernel) rfl (Or.inl rfl)) (XU (Wx (i:=1) (show(["at","side","goals"]:iE).Nodup by decide +kernel) rfl (Or.inl rfl)) SB))) (Yg (XC T.a0 (Xn T) (Zf 0))) (λ_ _ _ _=>(Xk (J1 hu (Zf 0) (Zf 2)))) (λ_ _ _ _=>(YF (Zd (VB hu (Zf 2) (Zf 0)) (Zd (Zf 1) Zk)))) Sc.nd rfl (Or.inl rfl) (by with_unfolding_all rfl))
      (Zg (Qf (j:=4) Yy (cOkT ["at","side"] ["goals","comers"]) rfl (λ_ _ _ _=>Q7 rfl (XU (Wx (i:=0) (show(["at","side","goals","comers"]:iE).Nodup by decide +kernel) rfl (Or.inl rfl)) (XU (Wx (i:=1) (show(["at","side","goals","comers"]:iE).Nodup by decide +kernel) rfl (Or.inl rfl)) SB))) (Yg (XC T.a0 (Xn T) (Zf 0))) (λ_ _ _ _=>(Xk (PW.pt (Uq (MJ hu (Zf 0) (Zf 2)) (Vr (MJ hu (Zf 0) (Zf 3))))))) (λ_ _ _ _=>(YF (Zd (Zf 0) (Zd (Zf 1) Zk)))) Sc.nd rfl (Or.inl rfl) (by with_unfolding_all rfl))
      (Ys (qe_cat (Zf 3) (Zf 4)))))
def QE:GO K mg 3 "posted_board" 2 (XB c):=gOk T.c2 ["chart","units","board","at","side"] λhr hu Sc=>(Zg (YT 2 (SH T.a0 (VT T) (Zd (Zf 0) Zk)))
      (Zg (qfor (Yg (Zf 1)) (Q7 rfl (XU (qpg 3) (XU (qpg 4) SB))) (Ix [3,4]) (Zt (Z2 (Z3 T.a0 (VQ T) (Zf 2) (Zd (Zf 3) (Zd (Zf 4) Zk))))))
      (Ys (Zf 2))))
def S4:NO K mg 15 c.Turn 2 (Xv c):=nOk T.c3 ["self","orders","at","side","wanted"] λhr hu Sc=>(Zg (UQ T.a3 W1 (Zf 0))
      (Zg (UQ T.a3 W1 (Zf 0))
      (Zg (WB 2 (Yg (Yd (Sm T) (Zd (Zf 1) Zk))) (Zg (Wf hu (Z3 T.a2 (ZE T) (Zf 1) (Zd (Zf 2) Zk)) (YR T.a3 (Zf 0)) (Zf 2))
      (Zt (Wf hu (Zf 2) (YR T.a3 (Zf 0)) (Z3 T.a2 (ZE T) (Zf 1) (Zd (Zf 2) Zk))))))
      (Zg (UQ T.a3 W1 (Zf 0))
      (Zg (qfor (Yg (XC T.a0 (Xn T) (YR T.a2 (Zf 1)))) (Q7 rfl (XU (qpg 2) (XU (qpg 3) SB))) (Ix [2,3]) (Zt (Y1 (PW.pt (Uq (J1 hu (Zf 2) (YR T.a3 (Zf 0))) (Vr (MJ hu (Zf 2) (YR T.a3 (Zf 0)))))) (Zt (Wf hu (Zf 3) (YR T.a3 (Zf 0)) (Zf 2))))))
      (Zg (U1 4 (cOk ["orders"]) (Yg (XC T.a2 (Xe T) (Zf 1))) YU (Z3 T.a2 (ZE T) (Zf 1) (Zd (Zf 0) Zk)))
      (Zg (UQ T.a3 (Jr Yy rfl rfl T.an rfl T.am (Zf 4) (YR T.a3 (Zf 0))) (Zf 0))
      (Zt (UQ T.a3 (Yd (QE T) (Zd (YR T.a0 (YR T.a2 (Zf 1))) (Zd (Yd (Pv T) (Zd (YR T.a2 (Zf 1)) (Zd (YR T.a3 (Zf 0)) (Zd (YR T.a3 (Zf 0)) Zk)))) Zk))) (Zf 0))))))))))
def Rf:MO K mg 1 c.Turn "done" 1 (Xx c):=mOk T.c4 ["self"] λhr hu Sc=>(Ys (NA Yy rfl rfl T.an (YR T.a3 (Zf 0))))
def TZ:MO K mg 1 c.Turn "aside" 1 (YY c):=mOk T.c5 ["self"] λhr hu Sc=>(Ys (Vz (cOk ["self"]) (Yg (Kd Yy rfl rfl T.an (Zd (YR T.a3 (Zf 0)) Zk))) YU (YF (Zd (Zf 0) (Zd (VB hu (YR T.a3 (Zf 1)) (Zf 0)) (Zd (VB hu (YR T.a3 (Zf 1)) (Zf 0)) Zk))))))
def S9:MO K mg 1 c.Turn "shut" 1 (X4 c):=mOk T.c6 ["self"] λhr hu Sc=>(Ys (CC Yy rfl T.ai GB (Zd (YR T.a3 (Zf 0)) Zk)))
def ok_law{f:Addr}{fd:FuncData}(F:Fun K "law" "law" EZ f fd):FnO K mg 17 f fd ["script"] 1 (BE c):=Hg (N:=["script","world","top","here","there","one","two"]) F ⟨rfl,rfl,rfl,by decide +kernel,rfl,by decide +kernel,by decide +kernel⟩ λhr hu Sc=>(Zg (YT 1 (Yd (Ox T) (Zd (Zf 0) Zk)))
      (Zg (YT 2 (YN (ZG (ZG (Zf 1) Zl) Zl) Zl))
      (Zg (YT 3 (Yd (OA T) (Zd (ZG (Zf 1) Zl) (Zd (ZG (Zf 1) Zl) (Zd (ZG (Zf 1) Zl) (Zd (ZG (Zf 1) Zl) Zk))))))
      (Zg (YT 4 (Yd (OE T) (Zd (ZG (Zf 1) Zl) (Zd (ZG (Zf 1) Zl) (Zd (ZG (Zf 1) Zl) (Zd (ZG (Zf 1) Zl) Zk))))))
      (Zg (Y1 (U5 hu (U3 Yy rfl T.an (Zd (Vz (cOk ["top"]) (Yg (Yd (Sm T) (Zd (Zf 4) Zk))) YU (YN (Zf 1) (Zf 0))) Zk)) (Yd (Sm T) (Zd (Zf 3) Zk))) (Ys SC))
      (Zg (YT 5 (SH T.a3 (S4 T) (Zd (Zf 3) Zk)))
      (Zg (YT 6 (SH T.a3 (S4 T) (Zd (Zf 4) Zk)))
      (Zg (Y1 (U5 hu (UX Yy rfl T.an (Zd (Vz (cOk ["top"]) (Yg (XC T.a3 (Rf T) (Zf 6))) YU (YF (Zd (YN (Zf 1) (ZG (Zf 0) Zl)) (Zd (YN (Zf 1) (ZG (Zf 0) Zl)) Zk)))) Zk)) (XC T.a3 (Rf T) (Zf 5))) (Ys SC))
      (Zg (Y1 (U5 hu (UX Yy rfl T.an (Zd (Vz (cOk ["top"]) (Yg (XC T.a3 (TZ T) (Zf 6))) YU (YF (Zd (YN (Zf 1) (ZG (Zf 0) Zl)) (Zd (YN Zl (ZG (Zf 0) Zl)) (Zd (YN (Zf 1) (ZG (Zf 0) Zl)) Zk))))) Zk)) (XC T.a3 (TZ T) (Zf 5))) (Ys SC))
      (Zg (Y1 (U5 hu (U3 Yy rfl T.an (Zd (Vz (cOk ["top"]) (Yg (XC T.a3 (S9 T) (Zf 6))) YU (YN (Zf 1) (Zf 0))) Zk)) (XC T.a3 (S9 T) (Zf 5))) (Ys SC))
      (Ys (SO hu (UX Yy rfl T.an (Zd (Vz (cOk ["top"]) (Yg (XC T.a0 (Xn T) (YR T.a3 (Zf 6)))) YU (YF (Zd (YN (Zf 1) (ZG (Zf 0) Zl)) (Zd (YN Zl (ZG (Zf 0) Zl)) Zk)))) Zk)) (XC T.a0 (Xn T) (YR T.a3 (Zf 5)))))))))))))))
end
def ypkF{K:W.Frag}:∀{l:List yRF},Jy K l=l.map JP->∀(i:Nat) {C:Option Addr} {n q:Str} {f:Addr} {s:Stmt},nth l i=some (C,n,f,q,s)->(ylk K C n,W.isFn K (.ref f)&&W.keepIn K (.ref f),fnV K f q)=JP (C,n,f,q,s)
 |_::_,h,0,_,_,_,_,_,e=>by cases e;exact(dI h).1
 |_::_,h,i+1,_,_,_,_,_,e=>ypkF (dI h).2 i e
def Eo{K:W.Frag}:∀{l:List yRN},G3 K l=l.map (λr=>some r.2.2)->∀(i:Nat) {C:Option Addr} {n:Str} {v:iH},nth l i=some (C,n,v)->ylk K C n=some v
 |_::_,h,0,_,_,_,e=>by cases e;exact(dI h).1
 |_::_,h,i+1,_,_,_,e=>Eo (dI h).2 i e
def ypkI{K:W.Frag}:∀{l:List (Str × Int)},D6 K l=l.map (λr=>some r.2)->∀(i:Nat) {n:Str} {v:Int},nth l i=some (n,v)->C2 (W.nsIn K mainGlobals n)=some v
 |_::_,h,0,_,_,e=>by cases e;exact(dI h).1
 |_::_,h,i+1,_,_,e=>ypkI (dI h).2 i e
section
variable{K:W.Frag}{h:Heap}{mg:g8}{n q:Str}{f C:Addr}{s:Stmt}{ps:iE}
abbrev yBg(n q:Str)(s:Stmt)(ps:iE):Prop:=∀(kV doc pm:Value) (an:Option Addr) (jb ct:Value) (us:iB),us.length=ps.length->bindArgs (W.fnOf n q (QI s) (UC s) (Yx s) .none kV doc pm an jb ct) ⟨us,[]⟩=pure (ps.zip us)
def yfF{o:Option Addr}(g:Jy K ytF=ytF.map JP)(i:Nat)(e:nth ytF i=some (o,n,f,q,s))(b:yBg n q s ps):ylk K o n=some (some (.ref f))∧W.isFn K (.ref f)=true∧W.keepIn K (.ref f)=true∧∃fd,Fun K n q s f fd∧Binds K fd ps []:=by
 obtain⟨h1,h2⟩:=eI (ypkF g i e);obtain⟨h2,h3⟩:=eI h2;obtain⟨h2,h4⟩:=bQ.mp h2;obtain⟨h5,h6⟩:=D7 h3;have F:Fun K n q s f _:=⟨⟨_,_,_,_,_,_,_,_,_,rfl,h5,h6⟩,h4⟩;exact⟨h1,h2,h4,_,F,F.binds b⟩
def ygF(X:K.In h)(G:h.Ns mainGlobals mg)(g:Jy K ytF=ytF.map JP)(i:Nat)(e:nth ytF i=some (none,n,f,n,s))(b:yBg n n s ps:=by first|exact(λ_ _ _ _ _ _ us hl=>match us,hl with|[_,_],_=>rfl)|exact(λ_ _ _ _ _ _ us hl=>match us,hl with|[_,_,_],_=>rfl)|exact(λ_ _ _ _ _ _ us hl=>match us,hl with|[_],_=>rfl)|exact(λ_ _ _ _ _ _ us hl=>match us,hl with|[_,_,_,_],_=>rfl)):GF K mg n s ps:=by
 obtain⟨a,_,c,fd,F,B⟩:=yfF g i e b;exact⟨f,fd,F,B,W.mg_of X G a,c⟩
def ymF(g:Jy K ytF=ytF.map JP)(i:Nat)(e:nth ytF i=some (some C,n,f,q,s))(b:yBg n q s ps:=by first|exact(λ_ _ _ _ _ _ us hl=>match us,hl with|[_,_],_=>rfl)|exact(λ_ _ _ _ _ _ us hl=>match us,hl with|[_,_,_],_=>rfl)|exact(λ_ _ _ _ _ _ us hl=>match us,hl with|[_],_=>rfl)|exact(λ_ _ _ _ _ _ us hl=>match us,hl with|[_,_,_,_],_=>rfl)):MF K C n q s ps:=by
 obtain⟨a,b,c,fd,F,B⟩:=yfF g i e b;exact⟨f,fd,F,B,⟨a,b,c⟩⟩
abbrev yCC(K:W.Frag)(C:Addr):Prop:=W.plainGet K C Str.empty=true∧W.hasDictIn K C=true∧W.plainOver K C=true∧W.makesIn K C=true∧W.keepIn K (.ref C)=true
def ynF(g:Jy K ytF=ytF.map JP)(i:Nat)(c:yCC K C)(e:nth ytF i=some (yrM C "__init__" f q s))(b:yBg "__init__" q s ps:=by exact(λ_ _ _ _ _ _ us hl=>match us,hl with|[_,_],_=>rfl)):NF K C q s ps:=by
 obtain⟨a,b,_,fd,F,B⟩:=yfF g i e b;exact⟨f,fd,F,B,⟨c.2.2.2.1,a,b,c.2.2.2.2⟩⟩
def ymN(X:K.In h)(G:h.Ns mainGlobals mg)(g:G3 K ytN=ytN.map λr=>some r.2.2)(i:Nat){v:iH}(e:nth ytN i=some (none,n,v)):mg n=v:=by
 cases v with
 |none=>exact W.mg_none_of X G (Eo g i e)
 |some v=>exact W.mg_of X G (Eo g i e)
def ymI(X:K.In h)(G:h.Ns mainGlobals mg)(g:D6 K ytI=ytI.map λr=>some r.2)(i:Nat){v:Int}(e:nth ytI i=some (n,v)):∃t,mg n=some (.int v t):=by
 obtain⟨t,a⟩:=int_l (ypkI g i e);exact⟨t,W.mg_of X G a⟩
def yaC(X:K.In h)(G:h.Ns mainGlobals mg)(g:G3 K ytN=ytN.map λr=>some r.2.2)(i:Nat)(c:yCC K C){fs:iE}(e:nth ytN i=some (ynC n C):=by rfl)(e2:nth ytN (i+1)=some (ynS C):=by rfl)(a:fs.foldr (λf (p:Nat->Prop) j=>nth ytN j=some (some C,f,none)∧p (j+1)) (λ_=>True) (i+2):=by repeat (first|trivial|refine⟨rfl,?_⟩)):AtC K mg C n fs:=
 ⟨⟨c.1,c.2.1,c.2.2.1,Eo g _ e2⟩,ymN X G g i e,by
  clear e e2;revert a;generalize i+2=k;intro a
  induction fs generalizing k with
  |nil=>intro f m;cases m
  |cons y fs ih=>intro f m;cases m with
   |head=>exact Eo g k a.1
   |tail _ m=>exact ih _ a.2 f m⟩
end
def gk_F{l:W.OpenLaw}{w:World}{K:W.Frag}{h:Heap}{mg:g8}{fa:Addr}(g:GK K)(X:K.In h)(G:h.Ns mainGlobals mg)(oK:mg "law"=some (.ref fa)):∃fd:FuncData,(∀(s:Shared) (v:Value),BindsTo s fd ⟨[v],[]⟩ [("script",v)])∧∀base:Heap,K.In base->base.Ns mainGlobals mg->FnOk l.prog w K mg base (CXw l.prog w) 17 fa fd ["script"] (AM K):=by
 obtain⟨g0,g⟩:=eI g;obtain⟨g1,g⟩:=eI g;obtain⟨g2,g⟩:=eI g;obtain⟨g3,g⟩:=eI g;obtain⟨_,_,_,_,g4⟩:=tup_l g;unfold yobB at g2;simp only[bT,cQ]at g2;have T:All K mg ⟨357,146,433,310,31,44,56,68,80,92,362,λC D=>(W.kitOne K (.ref C) D).getD false,λO C=>decide (W.exmOne K (.ref C) (.ref O)=some true)⟩:=⟨yaC X G g1 0 (g2.1 _ (.head _)),yaC X G g1 4 (g2.1 _ (.tail _ (.head _))),yaC X G g1 8 (g2.1 _ (.tail _ (.tail _ (.head _)))),yaC X G g1 12 (g2.1 _ (.tail _ (.tail _ (.tail _ (.head _))))),⟨g2.2.1 _ (.head _),ymN X G g1 19 rfl⟩,⟨g2.2.1 _ (.tail _ (.head _)),ymN X G g1 20 rfl⟩,⟨g2.2.1 _ (.tail _ (.tail _ (.head _))),ymN X G g1 21 rfl⟩,⟨g2.2.1 _ (.tail _ (.tail _ (.tail _ (.head _)))),ymN X G g1 22 rfl⟩,⟨g2.2.1 _ (.tail _ (.tail _ (.tail _ (.tail _ (.head _))))),ymN X G g1 23 rfl⟩,ymI X G g3 0 rfl,ymI X G g3 1 rfl,ymI X G g3 2 rfl,ymI X G g3 3 rfl,ymI X G g3 4 rfl,ymN X G g1 24 rfl,GTup.of g4,ymN X G g1 25 rfl,ymN X G g1 26 rfl,ymN X G g1 27 rfl,ymN X G g1 28 rfl,ymN X G g1 29 rfl,ymN X G g1 30 rfl,ymN X G g1 31 rfl,ymN X G g1 32 rfl,ygF X G g0 0 rfl,ygF X G g0 1 rfl,ygF X G g0 2 rfl,ygF X G g0 3 rfl,ygF X G g0 4 rfl,ygF X G g0 5 rfl,ygF X G g0 6 rfl,ynF g0 7 (g2.1 _ (.tail _ (.head _))) rfl,ymF g0 8 rfl,ymF g0 9 rfl,ygF X G g0 10 rfl,ynF g0 11 (g2.1 _ (.head _)) rfl,ymF g0 12 rfl,ygF X G g0 13 rfl,ynF g0 14 (g2.1 _ (.tail _ (.tail _ (.head _)))) rfl,ymF g0 15 rfl,ymF g0 16 rfl,ymF g0 17 rfl,ymF g0 18 rfl,ymF g0 19 rfl,ymF g0 20 rfl,ymF g0 21 rfl,ymF g0 22 rfl,ygF X G g0 23 rfl,ygF X G g0 24 rfl,ygF X G g0 25 rfl,ymF g0 26 rfl,ymF g0 27 rfl,ymF g0 28 rfl,ymF g0 29 rfl,ygF X G g0 30 rfl,ygF X G g0 31 rfl,ygF X G g0 32 rfl,ygF X G g0 33 rfl,ygF X G g0 34 rfl,ygF X G g0 35 rfl,ygF X G g0 36 rfl,ygF X G g0 37 rfl,ygF X G g0 38 rfl,ygF X G g0 39 rfl,ygF X G g0 40 rfl,ygF X G g0 41 rfl,ygF X G g0 42 rfl,ygF X G g0 43 rfl,ygF X G g0 44 rfl,ygF X G g0 45 rfl,ygF X G g0 46 rfl,ygF X G g0 47 rfl,ynF g0 48 (g2.1 _ (.tail _ (.tail _ (.tail _ (.head _))))) rfl,ymF g0 49 rfl,ymF g0 50 rfl,ymF g0 51 rfl,ygF X G g0 52 rfl⟩;obtain⟨f,fd,F,B,e,_⟩:=T.c7;obtain rfl:f=fa:=by rw[oK]at e;cases e;rfl
 refine⟨fd,?_,λbase _ _=>Ca g2.2.2 (ok_law T F _ _ base) (Fz _)⟩;obtain⟨oc,od,kV,doc,pm,an,jb,ct,ll,rfl,_⟩:=F.ex;exact λs v=>.of_eq rfl
def walk{l:W.OpenLaw}{q:Program}{loose:iE}{XP:(g8)->Heap->Prop}{d:DefRec}(hn:l.most=some 63)(l8:d.params.defaults=[])(hd:d.name="law"):W.WalkO q loose XP (W.Hook.says hook) l.row.toRowW d [] (λf vs=>PySem.call f vs):=by
 refine Att.attach_call hn l8 λw s₀ iu mg mb fa o pm cd doc a vs ns G Y ho kb jS lO kW jY ip hg=>?_
 obtain⟨K,KX,g⟩:=Y;rw[hd]at lO;obtain⟨fd,hb,hF⟩:=gk_F (l:=l) (w:=w) g KX G.T.g lO;exact Dz KX G.T.g G.T.b G.T.builtins G.T.nolimit hg kW jY (cg ip (by decide)) ⟨rfl,by decide,by decide⟩ hF hb (λH hO hS=>⟨a,ns,rfl,hS,ip,λ_=>rfl⟩) λH e s' ⟨_,_,_,_,_,z⟩=>z
end MP
open PySem PySem.W PyProof.Rows
set_option maxRecDepth 100000 in
set_option maxHeartbeats 0 in
theorem PySem.Challenge.cw_atonce_k13_whole_no_order_of_looking_holds : PySem.Challenge.rw_atonce_k13_whole_no_order_of_looking.Holds := by
 w_on; o_law
 refine PySem.W.holds_open (q:=MP.view) (loose:=[]) (XP:=PySem.W.XL MP.view []) MP.run (PySem.W.Hook.of MP.hook) (PySem.W.Hook.keeps MP.hook) (λs e=>PySem.W.xl_of s (bQ.mp e).1) PySem.W.XL.keeps (by rfl) (by rfl) (by rfl) (λs e=>PySem.W.recFacts_of (bQ.mp e).2) (by rfl) (by first|assumption|decide +kernel) (by decide +kernel) ⟨rfl,rfl,rfl,rfl,rfl,by decide +kernel⟩ ?hw ?hc
 case hw=>w_witness2
 case hc=>exact MP.walk (l:=PySem.Challenge.rw_atonce_k13_whole_no_order_of_looking) rfl rfl rfl
