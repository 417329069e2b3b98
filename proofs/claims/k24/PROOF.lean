import PyProof.Rows.All
import Lean
import KE.KDictList
import KE.KIntText
import KE.IntTextLaws
import KE.KLam
import KE.KRevSl
import KE.KSortTup
import KE.KTryMore
import OpenK.KEqL
import OpenK.XOpen
import Wide.Once
import Wide.Txt2
import KE.IntTextText
import PySem.Challenge.RW_formkin_k24_tables_as_lines
set_option Elab.async false
set_option linter.all false
set_option maxRecDepth 1000000
set_option maxHeartbeats 0
set_option genSizeOf false
set_option compiler.extract_closed false
theorem O{α:Sort u}{a:α}:a=a:=rfl
open Option renaming some->Y,none->S
open Bool renaming true->Z,false->ge
open List renaming length_map->Ay,getElem?_eq_getElem->AI,mem_of_getElem?->AN,getElem?_eq_some_iff->AO,getElem?_map->AQ,length_append->AS,map_cons->AV,mem_map->Bb,mem_singleton->Bc,mem_cons->Bf,mem_cons_self->Bi,size_toArray->Bj,map_append->Bl,mem_cons_of_mem->Bq,map_map->Br,getD_eq_getElem?_getD->Bx,all_eq_true->Bz,mem_append->BE,length_cons->BJ,range->BN,length_take->Cb,length_range->Ce,mem_append_right->Cj,not_mem_nil->Cm,getElem?_append_right->Cv,mem_append_left->CC,append_nil->CI,mem_iff_getElem?->CP,take_length->Dj,mem_of_mem_take->Dz,length_drop->DD,getElem?_append_left->DK,take_of_length_le->Eo,lookup->Ew,drop_eq_getElem_cons->EA,mem_filter->Fb,lookup_cons->Fn,filter_append->FF,getLast?_eq_getElem?->FN,mem_of_mem_drop->FW,filterMap_cons->Go,filter_cons_of_neg->GC,mem_range->HG,map_nil->HV,getElem_mem->HW,pairwise_iff_getElem->Ig,map_eq_nil_iff->Ik,map_congr_left->Il,length_pos_iff->Im,map->IK,length_set->IM,find?_cons->IN,length_eq_zero_iff->IW,filter_cons_of_pos->IX,pairwise_map->JH,nodup_append->JI,append_assoc->JJ,any_cons->Kp,nodup_cons->Lh,mem_filterMap->MP,contains_cons->MQ,mem_or_eq_of_mem_set->NB,flatten_cons->NW,append->NX,getElem?_take_of_lt->Of,all_cons->Og,getElem?_replicate->Po,length_singleton->Rb,length_replicate->Rc,replicate->SM,mem_iff_getElem->SN,map_id->SO,getElem?_set_ne->SQ,length_reverse->Ud,find?_eq_none->Ve,take_add_one->Yl,map_set->Ym,mem_reverse->ZH,isEmpty_iff->ZI,getElem_map->ZJ,drop_length->ZK
open Bool renaming and_eq_true->AA,false_ne_true->Bo,true_and->BL,false_and->BR,noConfusion->BU,and_false->Dg,not_eq_true'->Do,and_eq_true_iff->Eb,and_eq_false_iff->Hq,eq_iff_iff->IP,true_or->JK,false_or->Kq,false_eq_true->Vf,or_true->Yu
open PySem.W renaming Frag->AB,kitOne->BC,emptyDict->CF,findIn->CG,instObj->CS,findIn->CV,kia_one->DA,kia_tup->DP,kitAny->Em,InstAt->En,Frag->Fo,boot_heap->Ft,keepIn->FE,behindTheImports->FT,keepIn->FZ,callWith_K->GS,hideAll->Hi,SharedT->Hk,methodCall_KW->Ho,kitOne->HE,topFrame->HS,clsIn->IJ,kla_obj->IL,looks_findIn->Ld,looks_clsIn->LJ,hideAll_get->LK,callWith_K0->LL,fnOf->Me,CodeHd->MO,makesIn->MS,specialIn->NR,kitx_list->NS,kitx_dict->NT,hasDictIn->NU,mroIn->Ob,plainGet->Pm,any_some->Pn,makesIn->QH,tabObj->SD,lookIn->SE,kitCls->SH,hideAll_none->SI,plainGet_of->Ua,check_slot->Vc,set_plain->Yg,nsIn->Yh,methodObj->Yi,isFn->Yj,makes_of->ZD,handedIn->ZE
open PySem renaming Value->AC,wpAny_bind->AG,Addr->AH,Shared->AK,Str->AT,wpAny_pure->Bm,Program->Bn,starEach->Bs,wpAny->By,World->BP,mainGlobals->BY,bootBuiltins->Cf,wpAny_holding->Cw,Around->CA,Heap->CB,wpAny_Call_Name_kw->CQ,compareOp->Dh,eval->Dw,wpAny_truthy_bool->DR,FuncData->Ea,wpAny_mono->Ee,backTo->Ef,assignEach->EW,OsState->Fa,mem_of_lookup->Ff,codeAny_mono->Gy,codeAny_call_builtin->Gz,wpAny_standAt->GG,wpAny_call->GH,sysModules->GJ,sizeLine_eq->Ht,keywordEach->Hv,wpAny_execs_nil->HD,attributeBase->HJ,codeAny->Ie,Stmt->Ih,Pos->Ij,wpAny_field->II,behindInMarks->JD,Arguments->JW,KeyKind->Ko,wpAny_setField->KY,wpAny_pyIter_list->KZ,wpAny_newObj_type->La,wpAny_loadPart_at->Lb,foldedSetIterable->Lc,wpAny_execs_cons->LZ,call_meets->Ma,sliceBounds->ML,backToKw->MM,wpAny_passesOwn->Ny,rawInt->Nz,letOwnedTupleGo->NA,treeTable->Oj,swapsWith->Ol,typeIs_str->Pg,tupleKind_room_in1->Ph,isInstance->Pj,builtinsNs->Pk,binaryOp->Pl,holding->QF,excClassObj->QG,assignInOrder->QY,getMethod->SB,cLine->SC,callerA->TY,codeAny_builtin->UD,wpAny_loadPart->Yc,recursionLimit->Yd,valueAt->Yy,tupleKind->Yz,standAt->YA,scanBound->YB,noteFrame->YC,Keyword->YD,wpAny_attempt->bg,Env->bo
open Option.some renaming inj->AE,injEq->JE
open PySem.Heap renaming get?_push_of_some->AF,lt_size->Be,get?_push_size->Bu,get?_update_other->CO,get?_update_self->FY,size_push->Le,get?_none_of_le->Yo,ExtBut->Yp
open Nat renaming le_trans->AU,le_refl->Bh,ne_of_lt->BD,lt_of_lt_of_le->BK,zero_le->Cu,lt_irrefl->EQ,le_succ->ER,le_of_lt->GU,lt_succ_self->HU,lt_of_le_of_lt->IT,sub_self->JG,ne_of_gt->Mf,lt_trans->Mg,lt_succ_of_lt->NV,toDigits->Qd,not_lt_zero->QI,add_le_add_left->Uc,le_of_eq->Yk,succ_le_succ->ZG
open PySem.F renaming plainAttrs_list->Bg,type_list_append->BF,slot_list_append->BG,plainAttrs_str->Cr,type_str_join->EF,slot_str_join->EG,type_list_insert->Oc,slot_list_insert->Od,type_str_split->Qb,slot_str_split->Qc,slot_dict_get->Ra
open Option renaming map_eq_some_iff->Bp,isSome_iff_exists->Oe,bind_some->ZF
open PySem.Challenge renaming pw_formkin_k24_tables_as_lines->BS
open PySem.Str renaming ofString->BV,empty->Md
open PySem.PyData renaming strOk->BW,canLayAll0->EH,depthAll->Fm,eqv->FU,str->GK,depth->IS,eqvAll->bi
open PySem.Txt renaming split->Ca,slice->El,join->FD,slice_le->TZ
open False renaming elim->Cc
open Or renaming inl->Ci,inr->DN
open Ne renaming symm->CL
open PySem.PassesOwn renaming never->Dn
open True renaming intro->Dx
open PySem.SeqAt renaming shaped->Dy
open PySem.Value renaming type->DO,none->Eg,bool->Hz,str->Mb,int->Mc,float->Ye
open PySem.Builtin.Str renaming occurrences->Ep,strSliceIndices->Oh,partsBetween->Re
open Int renaming toNat_natCast->EZ,emod_lt_of_pos->FG,le_refl->FX,emod_nonneg->Hj,toNat_of_nonneg->LM,zero_add->Qe,le_trans->Yn
open List.cons renaming inj->Fi
open PySem.Builtin.Int renaming intBits->FH
open PyProof.Rows renaming envOfC->FI,callWith_type1->Hw,callWith_builtin1->Kj,AllBare->Vg
open Prod.mk renaming injEq->Gb
open Array renaming length_toList->Gp,toList_append->LN
open Pure renaming pure->Ic
open PyProof.Rows.F renaming plain_set_update_loop->Ii,entry_set_update_loop->Ub
open PySem.BindsTo renaming of_defaults->Jk
open PySem.Obj renaming mapFields->JF
open PySem.Calls renaming spliced_cons->JS,spliced_nil->QK,evalArgs_plain->Yt
open Except renaming ok->Pq,error->Yr
open ToString renaming toString->QE
open ForInStep renaming yield->QJ
open PySem.W.excIn renaming match_6->QZ
open PySem.Builtin.List renaming listTooLong->Rf
open PySem.W.R renaming mapR->SJ
open Prod renaming snd->SK
open PySem.Data renaming dict->SR
open PySem.W.WData renaming weight->Vb,int->bh
open PySem.W.Looks renaming here->Vd
open Classical renaming not_and_iff_not_or_not->Ys
open PySem.Paired renaming length->bj
open PySem.NameKind renaming cell->bn
noncomputable section
abbrev Ac:List AT:=["thing","least","most"]
abbrev Ad:List AT:=["kind","default"]
abbrev Ae:List AT:=["kind","ahead"]
abbrev Af:List AT:=["form","weights"]
abbrev Ag:List AT:=["kind","places"]
abbrev Ah:List AT:=["field"]
abbrev Ai:List AT:=["code","bound","places"]
abbrev Aj:List AT:=["_law_script","_law_k"]
abbrev Ak:List AT:=["_law_thing"]
abbrev Al:List AT:=["_law_kind_here"]
abbrev Am:List AT:=["_law_forms_here","_law_k"]
abbrev An:List AT:=["_law_script"]
abbrev Ao:List AT:=["_law_forms_here","_law_kind_here"]
abbrev Ap:List AT:=["_law_word"]
abbrev Aq:List AT:=["_law_number","_law_least","_law_most"]
abbrev Ar:List AT:=["_law_lines_here"]
abbrev As:List AT:=["self"]
abbrev At:List AT:=["self","value"]
abbrev Au:List AT:=["self","most"]
abbrev Av:List AT:=["self","number","name","kind","must","default"]
abbrev Aw:List AT:=["self","name","fields","gone"]
abbrev Ax:List AT:=["self","row"]
def A1K{p:Prop}[inst:Decidable p](h:p):decide p=true:=decide_eq_true h
def A1L{p:Prop}[inst:Decidable p](h:¬p):decide p=false:=decide_eq_false h
def A1M{p:Prop}[inst:Decidable p](h:decide p=Z):p:=of_decide_eq_true h
def A1N{c:Prop}[h:Decidable c](n:¬c){α:Sort u}{t e:α}:ite c t e=e:=if_neg n
def A1O{c:Prop}[h:Decidable c](n:c){α:Sort u}{t e:α}:ite c t e=t:=if_pos n
def A1P{α:Sort u}{β:Sort v}{a b:α}(f:α->β)(h:a=b):f a=f b:=congrArg f h
def A1Q{a:Prop}{b:Sort v}(h:a)(n:¬a):b:=absurd h n
def Ab{p:Prop}[i:Decidable p](h:decide p=true:=by kernel_rfl):p:=of_decide_eq_true h
def Aa{p:Prop}[i:Decidable p](h:decide p=true:=by exact Eq.refl Z):p:=of_decide_eq_true h
def dI{a b:Bool}(h:a=Z)(k:b=Z): (a&&b)=true:=by rw[h,k];rfl
def k24.ws:PySem.Challenge.rw_formkin_k24_tables_as_lines.wellSaid=true:=by
 unfold PySem.W.OpenLaw.wellSaid;refine dI (dI (dI (dI (dI (dI (dI (dI (dI (dI (dI (dI (dI (dI (dI (dI (dI (dI ?_ ?_) ?_) ?_) ?_) ?_) ?_) ?_) ?_) ?_) ?_) ?_) ?_) ?_) ?_) ?_) ?_) ?_) ?_
 all_goals decide+kernel
def k24.law_of(h:PySem.Challenge.rw_formkin_k24_tables_as_lines.row.wellSaid=Z->PySem.Challenge.rw_formkin_k24_tables_as_lines.row.Holds):PySem.Challenge.rw_formkin_k24_tables_as_lines.Holds:=PySem.W.holds_law k24.ws h
set_option hygiene false
local macro_rules|`(tactic|show $e)=>`(tactic|refine $e)
local macro_rules|`(let $d:letDecl;$b)=>if d.raw[0].isOfKind `Lean.Parser.Term.letIdDecl then `(have $d:letDecl;$b)else Lean.Macro.throwUnsupported
def cv_:Nat->Lean.Syntax->Lean.MacroM Lean.Syntax
 |0,_=>Lean.Macro.throwUnsupported
 |n+1,s=>do
  if s.isIdent then return<-`(rcasesPat|$(if s.getId== `O then Lean.mkIdent `rfl else ⟨s⟩):ident)
  if s.isOfKind `Lean.Parser.Term.hole then return<-`(rcasesPat|_)
  let a<-(s[1].getArgs[:1]++s[1][2].getSepArgs).mapM (cv_ n)
  let a:=a.map λx=>(⟨x⟩:Lean.TSyntax `Lean.Parser.Tactic.rcasesPatLo)
  `(rcasesPat|⟨$a,*⟩)
local macro_rules|`(tactic|let $d:letDecl)=>do
  let p:=d.raw[0]
  if p.isOfKind `Lean.Parser.Term.letPatDecl then
   let q:Lean.TSyntax `rcasesPat:=⟨<-cv_ 9 p[0]⟩
   `(tactic|obtain $q:rcasesPat:=$(⟨p[4]⟩):term)
  else `(tactic|have $d:letDecl)
local macro_rules|`(tactic|have $d:letDecl)=>do
  let p:=d.raw[0]
  if p.isOfKind `Lean.Parser.Term.letPatDecl then
   let q:Lean.TSyntax `rcasesPat:=⟨<-cv_ 9 p[0]⟩
   `(tactic|(refine HZ fun U_ g_=>?_;obtain $q:rcasesPat:=$(⟨p[4]⟩):term;refine g_ ?_;clear g_ U_))
  else Lean.Macro.throwUnsupported
def zr_(_:0=0:=by rfl):=0
def zd_(_:0=0:=by decide):=0
local macro_rules|`(~~~$x)=>`(autoParam $x zr_._auto_1)
local macro_rules|`(↑($x))=>`(autoParam $x zd_._auto_1)
local macro_rules|`(⋯)=>`(by decide+kernel)
local macro_rules|`(())=>`(by lia)
local macro_rules|`(↑$x:ident)=>`(($x).heap.objs.size)
local macro_rules|`(∅)=>`(HL.Ez P w K mg base)
local macro_rules|`(tactic|intro 0 $x*)=>`(tactic|intro pZ s σ H $x*)
local macro_rules|`(tactic|intro 1 $x*)=>`(tactic|intro _ _ _ _ H _ Q _ $x* _ _)
local macro_rules (kind:=«term{_}»)|s=>`(⟨$(Lean.Syntax.TSepArray.mk (sep:=",") (ks:= `term) s[1].getArgs),*⟩)
set_option bootstrap.genMatcherCode false
local macro_rules (kind:=Lean.Parser.Command.declaration)|s=>do
  if (s[1].isOfKind `Lean.Parser.Command.definition||s[1].isOfKind `Lean.Parser.Command.abbrev)&&s[0].getArgs.all (·.getArgs.isEmpty) then return s.setArg 0 (<-`(command|noncomputable def x:=0)).raw[0]
  Lean.Macro.throwUnsupported
namespace HL
open PySem PySem.W PyProof.Rows
abbrev ii:String->Option Builtin:=PySem.W.Fast.tw14364793385576792824
abbrev VR:=PySem.W.Fast.tw15667345088766844465
abbrev RE:=PySem.W.Fast.tw14374325043358763698
abbrev sJ:=PySem.W.Fast.tw10110043849684766642
abbrev Sl:=PySem.W.Fast.tw11892475500146522536
abbrev Hx:Ij:={0,0,0,0}
abbrev MJ:Option AC:=Y<|.ref 6
noncomputable def env(p:Bn):bo:={scope:=p.main.scope,locals:=mainNs,globals:=mainNs,cells:=[],code:=.ref 13,frame:=Y 14}
noncomputable def code(p:Bn):Code:=.body (FT p)<|env p
noncomputable def qs(l:List Nat):AT:={{(l)}}
noncomputable def S3:AT:=qs [60,109,111,100,117,108,101,62]
noncomputable def S6:AT:=qs [47,99,108,97,105,109,47,99,117,116,46,112,121]
noncomputable def S4:AT:=qs [95,95,109,97,105,110,95,95]
noncomputable def o11:Obj:={cls:=.type PySem.W.SL.s2766695959194262286x5,data:=.seq #[]}
noncomputable def o12:Obj:={cls:=.none,data:=.fields #[]}
noncomputable def o13:Obj:={cls:=.type PySem.W.SL.s5856160107412720595x4,data:=.fields #[.str S3 182,.str S3 183,.str S6 184,.int 1 0,.int 0 0,.int 0 0,.int 0 0,.int 0 0,.ref 11,.bool ge,.int 181 0,.ref 12,.none,.none,.none,.none,.int 185 0,.int 1 0,.str S6 186]}
noncomputable def o14:Obj:={cls:=.type PySem.W.SL.s658472552662922059x5,slots:=#[Y (.ref 13),Y<|.ref 3,Y<|.ref 3,S,Y<|.str S4 164,S,Y<|.ref 0]}
abbrev lf(o:Obj):BT:=.node o .nil .nil
noncomputable def Q3(P:Params):BT:=.node (boot_o_0 P) (.node (boot_o_1 P) (.node (boot_o_3 P) (lf<|boot_o_7 P)<|lf o11)<|.node (boot_o_5 P) (lf<|boot_o_9 P) (lf o13))<|.node (boot_o_2 P) (.node (boot_o_4 P) (lf<|boot_o_8 P)<|lf o12) (.node (boot_o_6 P) (lf<|boot_o_10 P)<|lf o14)
noncomputable def S0(w:BP)(os:Fa):Hk:={Q3 w.params,15,{},#[],{},187,os}
noncomputable def mJ(w:BP)(os:Fa):AK:={Ft w.params,#[],boot_drawn,boot_toks,os}
noncomputable def T0(p:Bn):Thread:=piecesOf (FT p) (env p) (code p) Hx [HS Hx]
noncomputable def R(p:Bn)(n:Nat)(w:BP)(os:Fa):Option (Flow×Hk×Code×Ij):=sJ ii p w 11 MJ 1 n (S0 w os)<|T0 p
abbrev zJ(p:Bn):=PySem.W.Fast.tw5923862056798008813 p.main.body
abbrev zG(q:Bn):=PySem.W.Fast.tw3399658132070893891 q
abbrev cJ(q:Bn)(lo:List AT):=PySem.W.Fast.tw821141287760084731 q lo
abbrev ve(q:Bn):=PySem.W.Fast.tw3247288618530077131 q
noncomputable def U6(p:Bn)(P:Params)(s:AK):Bool:=staticsOk (zJ p) (Ft P) s.heap&&namesBound p s.heap&&gensDone s&&laidKept (Ft P) s.heap
noncomputable def U5(q:Bn)(s:AK):=PySem.W.Fast.tw5160383126252970620 (SJ (λx=>x.name)<|zG q) (PySem.W.Fast.tw5991557255702980513 q) [] {s with gens:=#[]}
noncomputable def U4(p q:Bn)(lo:List AT)(s:AK):Bool:=PySem.W.Fast.tw10880121769531294198 s.heap (cJ q lo) (SJ (λx=>x.name)<|zG q) (SJ (λx=>x.fst)<|PySem.W.Fast.tw7409074990110511671 q) (SJ (λx=>x.name)<|PySem.W.Fast.tw13664370479719496447 q (cJ q lo))
  &&PySem.W.Fast.tw14722251495701143533 s.heap (zJ p) &&s.heap.isNs BY&&s.heap.isNs Pk&&PySem.W.Fast.tw10994771534591457954 q s.heap&& (xlAt q [] s&&recOk [] s) && (s.gens.size==0)
noncomputable def Uy(p q:Bn)(lo:List AT)(P:Params)(s:AK):=(U6 p P s,U5 q s,s.heap.bltView,U4 p q lo s,PySem.W.Fast.tw479339242167458305 q s,PySem.W.Fast.tw16090120013241838585 q (ve q) s,PySem.W.Fast.tw2386780881361962483 q (cJ q lo) s,PySem.W.Fast.tw11698064438423848299 q lo s,PySem.W.Fast.tw7317090234206586261 q s,PySem.W.Fast.tw7369524293546568484 q lo s)
noncomputable def aL(q:Bn)(lo:List AT):=(Z,expectedOf q,bltViewBooted,Z,Z,pinGoodD<|ve q,plainGoodE q<|cJ q lo,plainGoodD q lo,wideGood q,clsGoodW q lo)
open PySem.W.Fast in
def sD{p:Bn}{w:BP}{os:Fa}(h:VR ii p w 11 MJ 12 (mJ w os) (topStub p)=Y ((S0 w os).abs,{Sl ii<|code p,code p,Hx,[HS Hx]})):
  topGo Oj p w 11 MJ 12 (mJ w os) (topStub p)=Y ((S0 w os).abs,{denote Oj<|code p,code p,Hx,[HS Hx]}):=by rw[te15667345088766844465,te14364793385576792824,te11892475500146522536];show h
open PySem.W.Fast in
def iS{p:Bn}{w:BP}{s:AK}(h:RE ii p w 11 MJ 1 1 s (blockOf (FT p) (env p) (code p) Hx [HS Hx])=Y (.next,s,code p,Hx)):
  segRun Oj p w 11 MJ 1 1 s (blockOf (FT p) (env p) (code p) Hx [HS Hx])=Y (.next,s,code p,Hx):=by rw[te14374325043358763698,te14364793385576792824];show h
open PySem.W.Fast in
def sC{p:Bn}{n:Nat}{w:BP}{os:Fa}{x:Flow×Hk×Code×Ij}(h:R p n w os=Y x):segRunT Oj p w 11 MJ 1 n (S0 w os) (T0 p)=Y x:=by rw[te10110043849684766642,te14364793385576792824];show h
def yC{p:Bn}{w:BP}{c:Code}{q:Ij}:∀s:AK,topRun Oj p w 11 MJ 2 s {doneF .next,c,q,[HS Hx]}=Y s:=λj=>by
 let(_,_,_,_,_):=j;show O
def mT{p:Bn}{n:Nat}{w:BP}{os:Fa}{s:Hk}{q:Ij}(Sg:VR ii p w 11 MJ 12 (mJ w os) (topStub p)=Y ((S0 w os).abs,{Sl ii<|code p,code p,Hx,[HS Hx]}))(jI:∀s,RE ii p w 11 MJ 1 1 s (blockOf (FT p) (env p) (code p) Hx [HS Hx])=Y (.next,s,code p,Hx))(h:R p n w os=Y (.next,s,code p,q)):topRun Oj p w 11 MJ (12+ (1+ (n+2))) (mJ w os) (topStub p)=Y s.abs:=by show go_top (sD Sg)<|piece_block (iS<|jI _) ?_;let e:=piece_app (rest:=[]) (segRun_of<|sC h)<|piece_nil (yC (q:=q) s.abs);rw[CI]at e;show e
open PySem.W.Fast in
def iR{p q:Bn}{lo:List AT}{P:Params}{s:AK}(h:Uy p q lo P s=aL q lo): (staticsOk (importedModules p.main.body) (Ft P) s.heap&&namesBound p s.heap&&gensDone s&&laidKept (Ft P) s.heap)=Z/\openSeen q lo (importedModules p.main.body) (λs=>xlAt q [] s&&recOk [] s) Z s=openGood q lo:=by
 simp only[Uy,aL,Gb]at h;let(a,b,c,d,e,f,g,i,j,k):=h;show{?_,?_};·rw[te5923862056798008813];show a
 unfold openSeen openGood;simp only[Gb];show{?_,c,?_,?_,?_,?_,?_,?_,?_};·rw[PySem.W.R.mapR_eq,te5160383126252970620,te3399658132070893891,te5991557255702980513];show b
 ·rw[PySem.W.R.mapR_eq,te10880121769531294198,te821141287760084731,te3399658132070893891,te7409074990110511671,te13664370479719496447,te14722251495701143533,te5923862056798008813,te10994771534591457954];show d
 ·rw[te479339242167458305];show e
 ·rw[te16090120013241838585,te3247288618530077131];show f
 ·rw[te2386780881361962483,te821141287760084731];show g
 ·rw[te11698064438423848299];show i
 ·rw[te7317090234206586261];show j
 rw[te7369524293546568484];show k
noncomputable def lk{j:Type}(p q:Bn)(lo:List AT)(Yf:AK->j)(w:BP)(s:Hk):=(Uy p q lo w.params s.abs,Yf s.abs)
def some_of{F D j:Type}{o:Option (Flow×F×D)}{f:F->j}{y:Flow}{z:D}{g:j}(h:o.map (λx=>(x.1,x.2.2,f x.2.1))=Y (y,z,g)):∃s,o=Y (y,s,z)/\f s=g:=by
 cases o with
 |none=>cases h
 |some x=>
  let(a,b,c):=x;let e:=AE h;simp only[Gb]at e;let(O,O,O):=e;show{(b),O,O}
def yf{p q:Bn}{lo:List AT}{n N:Nat}{pos:Ij}{U:Type}{Yf:AK->U}{Ya:BP->U}(h1:opening p=plainProg p.main.scope.names)(h2:∀s,fenceModules? p s=Y s)(Sg:∀w os,VR ii p w 11 MJ 12 (mJ w os) (topStub p)=Y ((S0 w os).abs,{Sl ii<|code p,code p,Hx,[HS Hx]}))(jI:∀w s,RE ii p w 11 MJ 1 1 s (blockOf (FT p) (env p) (code p) Hx [HS Hx])=Y (.next,s,code p,Hx))(j:∀w os,(R p n w os).map (λx=>(x.1,x.2.2,lk p q lo Yf w x.2.1))=Y (.next,(code p,pos),(aL q lo,Ya w)))(hsz:∀P:Params,(Ft P).isNs BY=Z/\(Ft P).objs.size=11/\(Ft P).nsMap BY "__annotations__"=MJ)(hN:Nat.ble 600 N=Z)(hM:12+ (1+ (n+2))<=N):LeftO p q lo (λs=>xlAt q [] s&&recOk [] s) Yf Ya N:=by
 intro w;let((hp,gs,d,k,os),e,e'):=Bp.mp<|boot_open h1 hN h2 w;simp only[Gb]at e';let(O,O,O,O):=e';let(s,hs,hf):=some_of (f:=lk p q lo Yf w)<|j w os;let F:Uy p q lo w.params s.abs=aL q lo:=A1P Prod.fst hf;let D:Yf s.abs=Ya w:=A1P SK hf;let(l1,l2):=iR F;let r:=topRun_mono (N - (12+ (1+ (n+2)))) _ _ _ _<|mT (Sg w os) (jI w) hs;rw[Nat.add_sub_cancel' hM]at r;let(z1,z2,z3):=hsz w.params;let t:topFrom Oj p w N (mJ w os)=Y s.abs:=by
  unfold topFrom;let z: ((mJ w os).heap.isNs BY&& (mJ w os).gens.size==0)=true:=by change((Ft w.params).isNs BY&&_)=Z;rw[z1];rfl
  rw[z]
  dsimp only
  rw[show(mJ w os).heap.objs.size=11 from z2,show(mJ w os).heap.nsMap BY "__annotations__"=MJ from z3,r]
  dsimp only[Option.bind]
  rw[show(mJ w os).heap=Ft w.params from O,l1]
 unfold openEnds;rw[e];change((topFrom Oj p w N<|mJ w os).map _)=_;rw[t];show A1P Y<|Prod.ext l2 D
end HL
namespace L2
open PySem PySem.Spec PyProof.Rows
abbrev Hn:=Sum Int AT
def aG:Hn->AC->Bool|.inl k,v=>Value.isInt k v|.inr x,v=>Value.isStrOf x v
def G7(w:BP):Hn->Int|.inl k=>hashInt k|.inr x=>hashStr w x
def EY:∀{k:Hn} {v:AC},aG k v=Z->(∃i t,k=Sum.inl i/\v=Mc i t)\/(∃x t,k=Sum.inr x/\v=Mb x t)
 |.inl i,v,h=>by
  let(t,e):=Value.isInt_shape (k:=i) (v:=v) h;show .inl {(i),t,O,e}
 |.inr x,v,h=>by
  let(t,e):=Value.isStrOf_shape (x:=x) (v:=v) h;show .inr {(x),t,O,e}
def pb(i:Int)(t:Tok):aG (.inl i) (.int i t)=true:=by simp[aG,Value.isInt]
def oZ(x:AT)(t:Tok):aG (.inr x) (.str x t)=true:=by simp[aG,Value.isStrOf]
def G6(a b:Int):decide ((Sum.inl a:Hn)=Sum.inl b)=(a==b):=by
 by_cases e:a=b;·subst e;simp
 let h:¬ (Sum.inl a:Hn)=Sum.inl b:=λq=>e<|Sum.inl.inj q;rw[A1L h];show(beq_eq_false_iff_ne.mpr e).symm
def G3(a b:AT):decide ((Sum.inr a:Hn)=Sum.inr b)=decide (a=b):=by
 by_cases e:a=b;·subst e;simp
 let h:¬ (Sum.inr a:Hn)=Sum.inr b:=λq=>e<|Sum.inr.inj q;rw[A1L h,A1L e]
def G5(a:Int)(b:AT):decide ((Sum.inl a:Hn)=Sum.inr b)=false:=A1L λq=>nomatch q
def G4(a:AT)(b:Int):decide ((Sum.inr a:Hn)=Sum.inl b)=false:=A1L λq=>nomatch q
noncomputable def DX(prog:Bn)(w:BP):Ko prog w Hn where
 is:=aG
 hash:=G7 w
 inj:=λv a b ha F=>by
  rcases EY ha with⟨i,t,rfl,rfl⟩|⟨x,t,rfl,rfl⟩
  ·rcases EY F with⟨j,u,rfl,e⟩|⟨y,u,rfl,e⟩
   ·injection e with z _;rw[z]
   show nomatch e
  rcases EY F with⟨j,u,rfl,e⟩|⟨y,u,rfl,e⟩;·show nomatch e
  injection e with z _;rw[z]
 byValue:=λk v h=>by
  rcases EY h with⟨i,t,rfl,rfl⟩|⟨x,t,rfl,rfl⟩ <;> rfl
 pyHash:=λD h=>by
  rcases EY D with⟨i,t,rfl,rfl⟩|⟨x,t,rfl,rfl⟩;·show wpAny_pyHash_int h
  show wpAny_pyHash_str h
 eqBool:=λU D h=>by
  rcases EY U with⟨i,t,rfl,rfl⟩|⟨x,t,rfl,rfl⟩
  ·rcases EY D with⟨j,u,rfl,rfl⟩|⟨y,u,rfl,rfl⟩
   ·rw[G6]at h;show wpAny_eqBool_int h
   rw[G5]at h;show SeqAt.EqAt.int_str i t y u _ _ _ _ h
  rcases EY D with⟨j,u,rfl,rfl⟩|⟨y,u,rfl,rfl⟩;·rw[G4]at h;show SeqAt.EqAt.str_int x t j u _ _ _ _ h
  rw[G3]at h;show wpAny_eqBool_str h
 «strs»:=λk x t v h=>by
  rcases EY h with⟨i,u,rfl,e⟩|⟨y,u,rfl,e⟩;·show nomatch e
  injection e with z _;subst z;cases v <;> rfl
def gg(prog:Bn)(w:BP)(i:Int)(t:Tok): (DX prog w).is (.inl i) (.int i t)=true:=pb i t
def OT(prog:Bn)(w:BP)(x:AT)(t:Tok): (DX prog w).is (.inr x) (.str x t)=true:=oZ x t
inductive V where
 |non|bl (b:Bool)|int (i:Int)|str (x:AT)|byt (b:Array UInt8)|flt (b:UInt64)|ref (a:AH)|ty (n:String)
 deriving DecidableEq
def CK:V->AC->Prop|.non,u=>u=Eg|.bl b,u=>u=Hz b|.int i,u=>∃t,u=Mc i t|.str x,u=>∃t,u=Mb x t|.byt b,u=>∃t,u=Value.bytes b t|.flt b,u=>∃t,u=Ye b t|.ref a,u=>u=Value.ref a|.ty n,u=>u=DO n
abbrev Co:List V->List AC->Prop:=Paired CK
def Co.length{xs:List V}{us:List AC}(r:Co xs us):xs.length=us.length:=bj r
def Co.get:∀{xs:List V} {us:List AC} {i:Nat} {x:V},Co xs us->xs[i]?=Y x->∃u,us[i]?=Y u/\CK x u
 |_,_,_,_,.nil,e=>by simp at e|_,_,0,_,.cons r _,e=>by simp at e;subst e;show{(_),O,r}
 |_,_,i+1,x,.cons _ t,e=>by
  let(u,h1,h2):=Co.get (i:=i) (x:=x) t (by simpa using e);show{u,by simpa using h1,h2}
def Co.set{x:V}{u:AC}(r:CK x u):∀{xs:List V} {us:List AC} (i:Nat),Co xs us->Co (xs.set i x) (us.set i u)|_,_,_,.nil=>.nil|_,_,0,.cons _ t=>.cons r t|_,_,i+1,.cons q t=>.cons q<|Co.set r i t
def Co.append:∀{xs ys:List V} {us ws:List AC},Co xs us->Co ys ws->Co (xs++ys) (us++ws)|_,_,_,_,.nil,s=>s|_,_,_,_,.cons r t,s=>.cons r<|Co.append t s
def Co.take:∀{xs:List V} {us:List AC} (n:Nat),Co xs us->Co (xs.take n) (us.take n)|_,_,0,_=>.nil|_,_,_+1,.nil=>.nil|_,_,n+1,.cons r t=>.cons r<|Co.take n t
def Co.drop:∀{xs:List V} {us:List AC} (n:Nat),Co xs us->Co (xs.drop n) (us.drop n)|_,_,0,r=>r|_,_,_+1,.nil=>.nil|_,_,n+1,.cons _ t=>Co.drop n t
def KS:Option V->Option AC->Prop|some v,some u=>CK v u|none,none=>True|_,_=>False
def KV{κ:Type}:List (κ×V)->List (κ×AC)->Prop:=Paired λ(p:κ×V) (q:κ×AC)=>p.1=q.1/\CK p.2 q.2
def kV:Hn->V|.inl i=>.int i|.inr x=>.str x
inductive HO where
 |lst (xs:List V)|tup (xs:List V)|dK (kvs:List (Hn×V))|dT (kvs:List (List Hn×V))|set (Sq:Int->Bool) (n:Nat)|ins (C dx:AH) (fs:List (AT×V))|own (x:AH)|xd (fs:List (AT×V))|met (f x:AH)|rng (lo hi:Int)|frz (o:Obj) (u:HO)|tbl (ps:Array AC)|ext (φ:CB->Prop)
abbrev Hp:=AH->Option HO
def upd(H:Hp)(a:AH)(o:HO):Hp:=λb=>if b=a then Y o else H b
def Az{H:Hp}{a:AH}{o:HO}:upd H a o a=Y o:=by unfold upd;rw[A1O O]
def AM{H:Hp}{a b:AH}{o:HO}(h:b≠a):upd H a o b=H b:=by unfold upd;rw[A1N h]
def Pu{H:Hp}{a:AH}{o u:HO}:upd (upd H a o) a u=upd H a u:=by funext b;unfold upd;split <;> rfl
def gc{H:Hp}{a b:AH}{o u:HO}(h:H a=Y o)(h':H b=Y u)(d:o≠u):a≠b:=by intro e;subst e;rw[h]at h';show d<|AE h'
def BB{H:Hp}{a b:AH}{o:HO}(h:H a=Y o)(h':H b=S):a≠b:=by intro e;subst e;rw[h]at h';cases h'
section
variable(P:Bn)(w:BP)
def Dd(H:Hp)(h:CB)(a:AH):HO->Prop|.lst xs=>xs.length<=sizeLine/\∃(j:List AC) (n:Nat),Co xs j/\h.get? a=Y {cls:=.type "list",data:=.seq j.toArray n}|.tup xs=>xs.length<=sizeLine/\∃j:List AC,Co xs j/\IsTup h a j.toArray|.dK kvs=>kvs.length<=sizeLine/\(a==GJ)=ge/\∃vs,KV kvs vs/\h.DictOf (DX P w) a vs|.dT kvs=>kvs.length<=sizeLine/\(a==GJ)=ge/\∃xs:List (List Hn×AH×AC),Paired (λ(p:List Hn×V) (q:List Hn×AH×AC)=>p.1=q.1/\H q.2.1=Y (.tup<|p.1.map kV)/\CK p.2 q.2.2) kvs xs/\∃o es ep,h.get? a=Y o/\o.ExactDict/\o.data= .dict es ep/\es.toList=xs.map (entryOfKey<|Yz (DX P w))/\(xs.map (·.1)).Nodup|.set Sq n=>h.SetOf (intKind P w) a Sq n|.ins C dx fs=>H dx=Y (.own a)/\fs.length<=1000/\dx≠a/\h.get? a=Y (CS C dx)/\∃mA,h.Ns1 dx mA/\(∀f,KS (fs.lookup f)<|mA f)/\PySem.Within mA (fs.map (·.1))|.own _=>∃o,h.get? a=Y o|.xd fs=>∃mA,h.Ns1 a mA/\∀f,KS (fs.lookup f)<|mA f|.rng lo hi=>∃t u v,h.get? a=Y {cls:=.type "range",data:=.fields #[.int lo t,.int hi u,.int 1 v]}|.frz o u=>h.get? a=Y o/\Dd H h a u|.tbl ps=>h.get? a=Y {cls:=.none,data:=.fields ps}|.met f x=>h.get? a=Y (Yi (.ref f)<|.ref x)|.ext φ=>φ h/\(∃o,h.get? a=Y o)/\∀h1 h2:CB,φ h1->(∀o,h1.get? a=Y o->h2.get? a=Y o)->φ h2
def Jv(H:Hp)(h:CB):Prop:=∀a o,H a=Y o->Dd P w H h a o
end
section
variable{P:Bn}{w:BP}{H H':Hp}{h h':CB}{a:AH}{o:HO}
def Dd.lt(x:Dd P w H h a o):a<h.objs.size:=by cases o with|lst xs=>let(_,_,_,_,e):=x;show Be e|tup xs=>let(_,_,_,p):=x;show p.lt|dK kvs=>let(_,_,_,_,o,_,_,e,_):=x;show Be e|dT kvs=>let(_,_,_,_,o,_,_,e,_):=x;show Be e|set Sq n=>let(o,_,_,_,e,_):=x;show Be e|ins C dx fs=>let(_,_,_,e,_):=x;show Be e|own y=>let(_,e):=x;show Be e|xd fs=>let(_,(_,_,_,e,_),_):=x;show Be e|rng lo hi=>let(_,_,_,e):=x;show Be e|frz ob u=>let(e,_):=x;show Be e|tbl ps=>show Be<|show h.get? a=Y _ from x|met f y=>show Be<|show h.get? a=Y _ from x|ext φ=>let(_,(_,e),_):=x;show Be e
def Paired.mapP{U D:Type}{F G:U->D->Prop}:∀{z:List U} {j:List D},Paired F z j->(∀a b,F a b->G a b)->Paired G z j|_,_,.nil,_=>.nil|_,_,.cons r t,f=>.cons (f _ _ r)<|Paired.mapP t f
def Paired.imp'{U D:Type}{F G:U->D->Prop}(f:∀a b,F a b->G a b){z:List U}{j:List D}(r:Paired F z j):Paired G z j:=Paired.mapP r f
def Dd.stay(x:Dd P w H h a o)(k:∀b u,(b=a\/H b=Y (.own a))->h.get? b=Y u->h'.get? b=Y u)(U:∀b,H b=Y (.own a)->H' b=Y (.own a))(F:∀b xs,H b=Y (.tup xs)->H' b=Y (.tup xs)):Dd P w H' h' a o:=by
 induction o with
 |lst xs=>let(z,j,n,r,e):=x;show{z,j,n,r,k _ _ (.inl O) e}|tup xs=>let(z,j,r,ob,e,c):=x;show{z,j,r,ob,k _ _ (.inl O) e,c}|dK kvs=>let(z,y,vs,r,ob,es,ep,e,c):=x;show{z,y,vs,r,ob,es,ep,k _ _ (.inl O) e,c}
 |dT kvs=>
  let(z,y,xs,r,ob,es,ep,e,c):=x;show{z,y,xs,Paired.mapP r λp q z=>{z.1,F _ _ z.2.1,z.2.2},ob,es,ep,k _ _ (.inl O) e,c}
 |set Sq n=>let(ob,es,ep,t,e,c):=x;show{ob,es,ep,t,k _ _ (.inl O) e,c}
 |ins C dx fs=>
  let(d,z,ne,e,mA,(od,es,ep,e2,c),r):=x;show{U _ d,z,ne,k _ _ (.inl O) e,mA,{od,es,ep,k _ _ (.inr d) e2,c},r}
 |own y=>let(ob,e):=x;show{ob,k _ _ (.inl O) e}|xd fs=>let(mA,(od,es,ep,e,c),r):=x;show{mA,{od,es,ep,k _ _ (.inl O) e,c},r}|rng lo hi=>let(t,u,v,e):=x;show{t,u,v,k _ _ (.inl O) e}|frz ob u D=>let(e,q):=x;show{k _ _ (.inl O) e,D q}
 |tbl ps=>
  let e:h.get? a=Y {cls:=.none,data:=.fields ps}:=x;change h'.get? a=Y {cls:=.none,data:=.fields ps};show k a _ (.inl O) e
 |met f y=>
  let e:h.get? a=Y (Yi (.ref f)<|.ref y):=x;change h'.get? a=Y (Yi (.ref f)<|.ref y);show k a _ (.inl O) e
 |ext φ=>let(p,(o,e),st):=x;show{st _ _ p λo q=>k _ _ (.inl O) q,{o,k _ _ (.inl O) e},st}
def Jv.lt(x:Jv P w H h)(e:H a=Y o):a<h.objs.size:=(x a o e).lt
def Jv.fresh(x:Jv P w H h)(e:h.objs.size<=a):H a=none:=by cases q:H a with|none=>rfl|some u=>show A1Q (BK (x.lt q) e)<|EQ _
def Jv.kept(x:Jv P w H h)(k:∀b u,h.get? b=Y u->h'.get? b=Y u):Jv P w H h':=λa o e=>
 (x a o e).stay (λb u _ q=>k b u q) (λ_ q=>q) λ_ _ q=>q
def Jv.laid(x:Jv P w H h)(k:∀b u,h.get? b=Y u->h'.get? b=Y u)(z:h.objs.size<=a)(new:Dd P w (upd H a o) h' a o):Jv P w (upd H a o) h':=λb u e=>by
 let hn:=x.fresh z;by_cases j:b=a;·subst j;rw[Az]at e;cases e;show new
 rw[AM j]at e;show(x b u e).stay (λc v _ q=>k c v q) (λc q=>by rw[AM (BB q hn)];show q) λc xs q=>by rw[AM (BB q hn)];show q
end
def Rd(H:Hp)(a:AH)(u:HO):Prop:=H a=Y u\/∃o,H a=Y (.frz o u)
def Rd.ok{P:Bn}{w:BP}{H:Hp}{h:CB}{a:AH}{u:HO}(r:Rd H a u)(x:Jv P w H h):Dd P w H h a u:=by
 rcases r with r|⟨o,r⟩;·show x a u r
 let(_,q):=x a _ r;show q
def Y2:Option HO->Prop|some (.lst _)=>True|some (.dK _)=>True|some (.dT _)=>True|some (.set _ _)=>True|some (.ins _ _ _)=>True|some (.xd _)=>True|some (.ext _)=>True|_=>False
section
variable{P:Bn}{w:BP}{H:Hp}{h h':CB}{x e:AH}{o':HO}
def Jv.write(ok:Jv P w H h)(U:Y2 (H x))(he:e=x\/H e=Y (.own x))(k:∀b u,b≠e->h.get? b=Y u->h'.get? b=Y u)(a2:∃u,h'.get? e=Y u)(new:Dd P w (upd H x o') h' x o'):Jv P w (upd H x o') h':=λb u q=>by
 let D:∀c y,H c=Y (.own y)->c≠x:=λc y r z=>by subst z;rw[r]at U;show U
 let F:∀c xs,H c=Y (.tup xs)->c≠x:=λc xs r z=>by subst z;rw[r]at U;show U
 by_cases hb:b=x;·subst hb;rw[Az]at q;cases q;show new
 rw[AM hb]at q;by_cases j:b=e
 ·let q':H b=Y (.own x):=by
   rcases he with z|z;·show A1Q (j.trans z) hb
   rw[j];show z
  rw[q]at q';cases q';let(v,hv):=a2;show{v,by rw[j];show hv}
 show(ok b u q).stay (λc v hc r=>k c v ?_ r) (λc r=>by rw[AM (D c b r)];show r) λc xs r=>by rw[AM (F c xs r)];show r
 rcases hc with rfl|hc;·show j
 rintro rfl;rcases he with z|z;·show D c b hc z
 rw[hc]at z;cases z;show hb O
end
structure Un(fs ex:List AH)(H H':Hp)(h h':CB):Prop where
 keep:∀b o,h.get? b=Y o->H b=S->b∉fs->b∉ex->h'.get? b=Y o
 slot:∀b o,h.get? b=Y o->H b=S->b∈fs->b∉ex->∃sl,h'.get? b=Y {o with slots:=sl}
 free:∀b o,h.get? b=Y o->H b=S->b∉ex->H' b=S
 there:∀b o,h.get? b=Y o->b∉ex->∃o',h'.get? b=Y o'
 tups:∀b xs,H b=Y (.tup xs)->H' b=Y (.tup xs)
 frzs:∀b o u,H b=Y (.frz o u)->H' b=Y (.frz o u)
 tbls:∀b ps,H b=Y (.tbl ps)->∃more,H' b=Y (.tbl<|ps++more)
section
variable{fs fs' ex ex':List AH}{H H1 H2:Hp}{h h1 h2 h':CB}{a x e:AH}{o:HO}
def Un.any(u:Un fs ex H H1 h h1){b:AH}{ob:Obj}(q:h.get? b=Y ob)(n:H b=S)(j:b∉ex):∃sl,h1.get? b=Y {ob with slots:=sl}:=by
 by_cases z:b∈fs;·show u.slot b ob q n z j
 show{ob.slots,u.keep b ob q n z j}
def Un.kept(k:∀b u,h.get? b=Y u->h'.get? b=Y u):Un fs ex H H h h':={λb ob q _ _ _=>k b ob q,λb ob q _ _ _=>{ob.slots,k b ob q},λ_ _ _ n _=>n,λb ob q _=>{ob,k b ob q},λ_ _ q=>q,λ_ _ _ q=>q,λ_ ps q=>{#[],by rw[q];simp}}
def Un.refl:Un fs ex H H h h:=Un.kept λ_ _ q=>q
def Un.laid(k:∀b u,h.get? b=Y u->h'.get? b=Y u)(j:h.objs.size<=a)(hn:H a=S):Un fs ex H (upd H a o) h h' where
 keep:=λb u q _ _ _=>k b u q
 slot:=λb u q _ _ _=>{u.slots,k b u q}
 free:=λb u q n _=>by rw[AM (BD<|BK (Be q) j)];show n
 there:=λb u q _=>{u,k b u q}
 tups:=λb xs q=>by rw[AM (BB q hn)];show q
 frzs:=λb u xs q=>by rw[AM (BB q hn)];show q
 tbls:=λb ps q=>{#[],by rw[AM (BB q hn),q];simp}
def Un.write(D:Y2 (H x))(he:e=x\/H e=Y (.own x))(k:∀b u,b≠e->h.get? b=Y u->h'.get? b=Y u)(F:∃u,h'.get? e=Y u):Un fs ex H (upd H x o) h h':=by
 let U:∀b,H b=S->b≠x:=λb n z=>by subst z;rw[n]at D;show D
 let hb:∀b,H b=S->b≠e:=λb n z=>by
  subst z;rcases he with r|r;·show U b n r
  rw[n]at r;cases r
 let hm:∀b u,H b=Y u->¬Y2 (Y u)->b≠x:=λb u q nm z=>by subst z;rw[q]at D;show nm D
 show{λb u q n _ _=>k b u (hb b n) q,λb u q n _ _=>{u.slots,k b u (hb b n) q},λb u q n _=>by rw[AM (U b n)];show n,λb u q _=>?_,λb xs q=>by rw[AM (hm b _ q λz=>z)];show q,λb u xs q=>by rw[AM (hm b _ q λz=>z)];show q,λb ps q=>{#[],by rw[AM (hm b _ q λz=>z),q];simp}};by_cases j:b=e;·subst j;show F
 show{u,k b u j q}
end
def n6(h:CB)(H:Hp):List AH:=(BN h.objs.size).filter λa=>(H a).isSome
def cR(h:CB)(H:Hp):CB:=Hi h<|n6 h H
def pj(h:CB)(H:Hp): (cR h H).objs.size=h.objs.size:=PySem.W.hideAll_size _ _
def uF{h:CB}{H:Hp}{b:AH}{o:Obj}(e:h.get? b=Y o)(n:H b=S): (cR h H).get? b=Y o:=LK _ e λhm=>by
  let q: (H b).isSome=true:=(Fb.mp hm).2;rw[n]at q;simp at q
def xR{h:CB}{H:Hp}{b:AH}{o:Obj}(e: (cR h H).get? b=Y o):h.get? b=Y o/\H b=none:=by
 let j:h.get? b=Y o:=PySem.W.of_hideAll (n6 h H) e;show{j,?_};cases q:H b with
 |none=>rfl
 |some x=>
  let hm:b∈n6 h H:=Fb.mpr {HG.mpr<|Be j,by simp[q]};let z: (cR h H).get? b=none:=SI (n6 h H) hm;rw[z]at e;cases e
def yT(g h:CB)(L:AH):List (AH×Obj):=(BN h.objs.size).filterMap λa=>if a=L\/(g.get? a).isSome=Z then S else (h.get? a).map λo=>(a,o)
def rest(g h:CB)(L d:AH):List (AH×Obj):=(yT g h L).filter λp=>decide (p.1≠d)
structure Mod(K:AB)(mg:AT->Option AC)(base:CB):Prop where
 kin:K.In base
 glob:base.Ns BY mg
 blt:∃mb,base.Ns Pk mb/\∀x:AT,x≠ "__name__" ->mb x=Cf x
 nolimit:base.NoLimit
abbrev Jy(cls:AC)(dx:Option AH)(a0 tb:AC):Obj:={cls:=cls,dict:=dx,data:=.fields #[a0,tb,.none,.none,.bool ge,.none]}
def qW(e:AH)(ob:Obj):HO:=.frz ob<|.ext λh=>h.get? e=Y ob
def Hd(A:CA)(H:Hp):Prop:=∃e cls dx a0 tb,A.handled=Y (.ref e)/\H e=Y (qW e<|Jy cls dx a0 tb)
structure Cx where
 prog:Bn
 w:BP
 K:AB
 mg:AT->Option AC
 base:CB
 A:CA
 N:List AT
 s_:AK
 H_:Hp
 env:bo
 outer:List bo
 stack:List bo
 ex:List AH
 fn:AT->Bool
 calm:Bool
 suit:Bool
 pn:List (AH×Obj)
 xe:AC->AK->Prop
def Oi(l:List bo):List AH:=l.filterMap (·.frame)
abbrev Cx.fs(X:Cx):List AH:=Oi X.outer
def r9(sc:Scope)(x:AT):Prop:=sc.names.lookup x=Y .local\/sc.names.lookup x=Y .cell\/sc.names.lookup x=Y .free
def P1(sc:Scope)(x:AT):Prop:=sc.names.lookup x=Y .local\/sc.names.lookup x=Y .cell
def A0I(env:bo)(h:CB)(m:AT->Option AC)(x:AT)(u:AC):Prop:=(env.kindOf x=Y .local/\m x=Y u)\/((env.kindOf x=Y .cell\/env.kindOf x=Y .free)/\∃c,env.cells.lookup x=Y c/\h.IsCell c (Y u))
structure Cx.Ok(X:Cx):Prop where
 mod:Mod X.K X.mg X.base
 kind:X.env.scope.kind= .function
 glob:X.env.globals=BY
 blt:X.env.builtins=Pk
 above:X.s_.heap.objs.size<=X.env.locals
 inj:∀x y c,X.env.cells.lookup x=Y c->X.env.cells.lookup y=Y c->x=y
 has:∀x,(X.env.kindOf x=Y .cell\/X.env.kindOf x=Y .free)->∃c,X.env.cells.lookup x=Y c
 cab:∀x c,X.fn x=Z->X.env.cells.lookup x=Y c->X.s_.heap.objs.size<=c
 hd:X.calm=Z->X.A.handled=S
 frames:X.A.frames=Y X.stack
 stk:X.stack=X.outer\/(X.stack=X.env::X.outer/\X.env.frame=Y X.env.locals)
 exf:∀b∈X.ex,b≠X.env.locals/\∀x c,X.env.cells.lookup x=Y c->c≠b
 bs:∀b o,X.base.get? b=Y o->X.s_.heap.get? b=Y o/\X.H_ b=S
 bsz:X.base.objs.size<=X.s_.heap.objs.size
 noex:∀b o,X.base.get? b=Y o->b∉X.ex
 exfs:∀b∈X.ex,b∉X.fs
 funs:X.s_.heap.FunFrames X.base X.outer
 frf:∀b∈X.fs,X.H_ b=S
 hs:X.suit=Z->Hd X.A X.H_
structure Ch(X:Cx)(pZ:List (AH×Obj))(σ:List (Option V))(H:Hp)(s:AK):Prop where
 ok:X.Ok
 os:s.os=X.s_.os
 bare:Vg s.gens
 base:Un X.fs X.ex X.H_ H X.s_.heap s.heap
 loc:∃m,s.heap.Ns X.env.locals m/\∀(i:Nat) (x:AT) (v:V),X.N[i]?=Y x->σ[i]?=Y (Y v)->r9 X.env.scope x->∃u,CK v u/\A0I X.env s.heap m x u
 cell:∀x c,X.env.cells.lookup x=Y c->∃v,s.heap.IsCell c v
 free:H X.env.locals=S
 freeC:∀x c,X.env.cells.lookup x=Y c->H c=S
 pin:∀p∈X.pn++pZ,s.heap.get? p.1=Y p.2/\H p.1=S/\p.1≠X.env.locals/\p.1∉X.fs/\∀v,p.2.data≠ .cell v
 hok:Jv X.prog X.w H s.heap
 len:σ.length=X.N.length
section
variable{X:Cx}{pZ:List (AH×Obj)}{σ:List (Option V)}{H H':Hp}{s:AK}{h':CB}
def Cx.Ok.nofr(ok:X.Ok){b:AH}{o:Obj}(e:X.base.get? b=Y o):b∉X.fs:=λj=>by
 have:=(ok.funs.mem j).1;rw[e]at this;cases this
def Ch.bs(I:Ch X pZ σ H s):∀b o,X.base.get? b=Y o->s.heap.get? b=Y o/\H b=none:=λb o e=>
 {I.base.keep b o (I.ok.bs b o e).1 (I.ok.bs b o e).2 (I.ok.nofr e)<|I.ok.noex b o e,I.base.free b o (I.ok.bs b o e).1 (I.ok.bs b o e).2<|I.ok.noex b o e}
def Ch.bk(I:Ch X pZ σ H s):∀b o,X.base.get? b=Y o->s.heap.get? b=Y o:=λb o e=>(I.bs b o e).1
def Ch.mod(I:Ch X pZ σ H s):Mod X.K X.mg X.base:=I.ok.mod
def Ch.kIn(I:Ch X pZ σ H s):X.K.In s.heap:=I.ok.mod.kin.keeps I.bk
def Ch.lt(I:Ch X pZ σ H s):X.env.locals<↑s:=let ⟨_,hn,_⟩:=I.loc;hn.lt
def Ch.sz(I:Ch X pZ σ H s):X.s_.heap.objs.size<=↑s:=AU I.ok.above<|GU I.lt
def Ch.nofs(I:Ch X pZ σ H s){a:AH}(h:↑s<=a):a∉X.fs:=λz=>by
 let(_,o,j,_):=I.ok.funs.mem z;show A1Q (BK (Be j)<|AU I.sz h)<|EQ _
def Ch.cne(I:Ch X pZ σ H s):∀x c,X.env.cells.lookup x=Y c->c≠X.env.locals:=λx c e z=>by
 let(v,o,F,hd):=I.cell x c e;let(m,(o',es,ep,j,D,_),_):=I.loc;rw[z,j]at F;cases F;rw[D]at hd;cases hd
def Ch.funs(I:Ch X pZ σ H s):s.heap.FunFrames X.base X.outer:=by
 let all:∀(l:List bo),(∀b∈Oi l,b∈X.fs)->X.s_.heap.FunFrames X.base l->s.heap.FunFrames X.base l:=by
  intro l;induction l with
  |nil=>intro _ _;trivial
  |cons env r D=>
   intro hs U;let(hk,(L,o,hf,hn,F,hd),hr):=U;let hL:L∈X.fs:=hs L (by unfold Oi;rw[Go,hf];show Bi);let(sl,e):=I.base.slot L o F (I.ok.frf L hL) hL λz=>I.ok.exfs L z hL;show{hk,{(L),_,hf,hn,e,hd},D (λb j=>hs b<|by unfold Oi;rw[Go,hf];show Bq _ j) hr}
 show all X.outer (λ_ j=>j) I.ok.funs
def Ch.stack(I:Ch X pZ σ H s):s.heap.FunFrames X.base X.stack:=by
 rcases I.ok.stk with e|⟨e,hf⟩;·rw[e];show I.funs
 rw[e];let(m,hn,_):=I.loc;show .cons (by rw[I.ok.kind];decide) hf hn ?_ I.funs;show Yo<|AU I.ok.bsz I.ok.above
def Ch.stkSub(I:Ch X pZ σ H s):∀b∈Oi X.stack,b∈X.env.locals::X.fs:=λb j=>by
 rcases I.ok.stk with e|⟨e,hf⟩;·rw[e]at j;show Bq _ j
 rw[e]at j;unfold Oi at j;rw[Go,hf]at j;show j
def Ch.stkFree(I:Ch X pZ σ H s):∀b∈Oi X.stack,H b=none:=λb j=>by
 rcases Bf.mp (I.stkSub b j)with e|j;·rw[e];show I.free
 let(_,o,D,_):=I.ok.funs.mem j;show I.base.free b o D (I.ok.frf b j) λz=>I.ok.exfs b z j
def Ch.step{g':Array GenState}{t':Nat}{d':Drawn}{ch:List AH}(I:Ch X pZ σ H s)(F:∀b∈ch,(b∈X.ex\/X.s_.heap.objs.size<=b)/\b≠X.env.locals/\(∀x c,X.env.cells.lookup x=Y c->c≠b)/\∀p∈X.pn++pZ,p.1≠b)(keep:∀b o,b≠X.env.locals->b∉X.fs->b∉ch->s.heap.get? b=Y o->H b=S->h'.get? b=Y o)(slot:∀b o,b≠X.env.locals->b∈X.fs->b∉ch->s.heap.get? b=Y o->H b=S->∃sl,h'.get? b=Y {o with slots:=sl})(free:∀b o,b∉ch->s.heap.get? b=Y o->H b=S->H' b=S)(there:∀b o,b∉ch->s.heap.get? b=Y o->∃o',h'.get? b=Y o')(tups:∀b xs,H b=Y (.tup xs)->H' b=Y (.tup xs))(frzs:∀b o u,H b=Y (.frz o u)->H' b=Y (.frz o u))(tbls:∀b ps,H b=Y (.tbl ps)->∃more,H' b=Y (.tbl<|ps++more))(ns:∀m,s.heap.Ns X.env.locals m->h'.Ns X.env.locals m)(hok:Jv X.prog X.w H' h')(hg:Vg g'):
  Ch X pZ σ H' {s with heap:=h',gens:=g',drawn:=d',toks:=t'}:=by
 let a5:∀b o,X.s_.heap.get? b=Y o->b≠X.env.locals:=λb o e=>BD<|BK (Be e) I.ok.above;let a1:∀b o,X.s_.heap.get? b=Y o->b∉X.ex->b∉ch:=λb o e j hb=>by
  rcases(F b hb).1 with z|z;·show j z
  show A1Q (BK (Be e) z)<|EQ _
 let U:∀x c,X.env.cells.lookup x=Y c->∀v,s.heap.IsCell c v->h'.IsCell c v:=λx c e v a6=>by
  let(o,ho,hd):=a6;let D:c∉ch:=λz=>(F c z).2.2.1 x c e O;by_cases hc:c∈X.fs;·let(sl,q):=slot c o (I.cne x c e) hc D ho<|I.freeC x c e;show{(_),q,hd}
  show{o,keep c o (I.cne x c e) hc D ho<|I.freeC x c e,hd}
 show{I.ok,I.os,hg,{λb o e n hb j=>?_,λb o e n hb j=>?_,λb o e n j=>?_,λb o e j=>?_,λb xs e=>tups b xs<|I.base.tups b xs e,λb o xs e=>frzs b o xs<|I.base.frzs b o xs e,λb ps e=>?_},?_,λx c e=>?_,?_,λx c e=>?_,λp hp=>?_,hok,I.len};·show keep b o (a5 b o e) hb (a1 b o e j) (I.base.keep b o e n hb j)<|I.base.free b o e n j
 ·let(sl,e1):=I.base.slot b o e n hb j;let(a8,e2):=slot b _ (a5 b o e) hb (a1 b o e j) e1<|I.base.free b o e n j;show{(a8),e2}
 ·let(o',e1):=I.base.there b o e j;show free b o' (a1 b o e j) e1<|I.base.free b o e n j
 ·let(o',e1):=I.base.there b o e j;show there b o' (a1 b o e j) e1
 ·let(m1,e1):=I.base.tbls b ps e;let(m2,e2):=tbls b _ e1;show{m1++m2,by rw[e2,Array.append_assoc]}
 ·let(m,hn,hl):=I.loc;show{m,ns m hn,λi x v e1 e2 e3=>?_};let(u,r,l):=hl i x v e1 e2 e3;show{u,r,?_};rcases l with l|⟨k,c,e,z⟩
  ·show .inl l
  show .inr {k,c,e,U x c e _ z}
 ·let(v,z):=I.cell x c e;show{v,U x c e v z}
 ·let(m,(o,_,_,ho,_),_):=I.loc;show free _ o (λz=>(F _ z).2.1 O) ho I.free
 ·let(v,o,ho,hd):=I.cell x c e;show free c o (λz=>(F c z).2.2.1 x c e O) ho<|I.freeC x c e
 let(e,n,ne,nf,d):=I.pin p hp;let D:p.1∉ch:=λz=>(F p.1 z).2.2.2 p hp O;show{keep p.1 p.2 ne nf D e n,free p.1 p.2 D e n,ne,nf,d}
def Ch.un{t':Nat}(I:Ch X pZ σ H s)(u:Un X.fs [] H H' s.heap h')(hok:Jv X.prog X.w H' h'):Ch X pZ σ H' {s with heap:=h',toks:=t'}:=by
 let(m,(o,es,ep,U,r),_):=id I.loc;let(sl,hL):=u.any U I.free (by simp);show I.step (g':=s.gens) (d':=s.drawn) (ch:=[]) (λ_ z=>nomatch z) (λb o _ D _ e n=>u.keep b o e n D<|by simp) (λb o _ D _ e n=>u.slot b o e n D<|by simp) (λb o _ e n=>u.free b o e n<|by simp) (λb o _ e=>u.there b o e<|by simp) u.tups u.frzs u.tbls (λm' hm=>by
  let(o',es',F,j,r'):=hm;rw[U]at j;cases j;show{(_),es',F,hL,r'}) hok I.bare
def Ch.call{g':Array GenState}{t':Nat}{d':Drawn}{ch:List AH}(I:Ch X pZ σ H s)(u:Un (Oi X.stack) ch H H' s.heap h')(hok:Jv X.prog X.w H' h')(hg:Vg g')(D:∀b∈ch,(b∈X.ex\/X.s_.heap.objs.size<=b)/\b≠X.env.locals/\(∀x c,X.env.cells.lookup x=Y c->c≠b)/\∀p∈X.pn++pZ,p.1≠b):
  Ch X pZ σ H' {s with heap:=h',gens:=g',drawn:=d',toks:=t'}:=by
 let(m,(o,es,ep,U,r),_):=id I.loc;let(sl,hL):=u.any U I.free λz=>(D _ z).2.1 O;show I.step (ch:=ch) D (λb o hL hb hc e n=>u.keep b o e n (λz=>(Bf.mp<|I.stkSub b z).elim hL hb) hc) (λb o _ _ hc e n=>u.any e n hc) (λb o hc e n=>u.free b o e n hc) (λb o hc e=>u.there b o e hc) u.tups u.frzs u.tbls (λm' hm=>by
  let(o',es',F,j,r'):=hm;rw[U]at j;cases j;show{(_),es',F,hL,r'}) hok hg
def Ch.turned{t':Nat}{it:AH}(I:Ch X pZ σ H s)(k:∀b o,b≠it->s.heap.get? b=Y o->h'.get? b=Y o)(hn:H it=S)(hL:it≠X.env.locals)(h1:it∈X.ex\/X.s_.heap.objs.size<=it)(h2:∀x c,X.env.cells.lookup x=Y c->c≠it)(h3:∀p∈X.pn++pZ,p.1≠it):Ch X pZ σ H {s with heap:=h',toks:=t'}:=by
 let j:∀b u,H b=Y u->b≠it:=λb u e z=>by rw[z,hn]at e;cases e
 show I.step (g':=s.gens) (d':=s.drawn) (ch:=[it]) (λb F=>?_) (λb o _ _ hc e _=>k b o (λz=>hc<|by simp[z]) e) (λb o _ _ hc e _=>{o.slots,k b o (λz=>hc<|by simp[z]) e}) (λ_ _ _ _ n=>n) (λb o hc e=>{o,k b o (λz=>hc<|by simp[z]) e}) (λ_ _ e=>e) (λ_ _ _ e=>e) (λb ps e=>{#[],by rw[e];simp}) (λm hm=>?_) (λb u e=>?_) I.bare
 ·let e:b=it:=by simpa using F
  subst e;show{(h1),hL,h2,h3}
 ·let(o,es,ep,D,r):=hm;show{o,es,ep,k _ o (CL hL) D,r}
 show(I.hok b u e).stay (λc v hc q=>k c v ?_ q) (λ_ q=>q) λ_ _ q=>q;rcases hc with z|z;·rw[z];show j b u e
 show j c _ z
def Ch.tok(I:Ch X pZ σ H s)(t:Nat):Ch X pZ σ H {s with toks:=t}:=I.un (h':=s.heap) (t':=t) Un.refl I.hok
def Ch.kept{t':Nat}(I:Ch X pZ σ H s)(k:∀b u,s.heap.get? b=Y u->h'.get? b=Y u):Ch X pZ σ H {s with heap:=h',toks:=t'}:=I.un (Un.kept k)<|I.hok.kept k
def Ch.laid{a:AH}{o:HO}{t':Nat}(I:Ch X pZ σ H s)(k:∀b u,s.heap.get? b=Y u->h'.get? b=Y u)(j:↑s<=a)(new:Dd X.prog X.w (upd H a o) h' a o):
  Ch X pZ σ (upd H a o) {s with heap:=h',toks:=t'}:=I.un (Un.laid k j<|I.hok.fresh j)<|I.hok.laid k j new
def Ch.write{x e:AH}{o:HO}{t':Nat}(I:Ch X pZ σ H s)(z:Y2 (H x))(D:e=x\/H e=Y (.own x))(k:∀b u,b≠e->s.heap.get? b=Y u->h'.get? b=Y u)(j:∃u,h'.get? e=Y u)(new:Dd X.prog X.w (upd H x o) h' x o):Ch X pZ σ (upd H x o) {s with heap:=h',toks:=t'}:=I.un (Un.write z D k j)<|I.hok.write z D k j new
def Ch.weak{σ':List (Option V)}(I:Ch X pZ σ H s)(z:σ'.length=σ.length)(w:∀(i:Nat) v,σ'[i]?=Y (Y v)->σ[i]?=Y (Y v)):Ch X pZ σ' H s:={I.ok,I.os,I.bare,I.base,let ⟨m,hn,j⟩:=I.loc;{m,hn,λi x v U F D=>j i x v U (w i v F) D},I.cell,I.free,I.freeC,I.pin,I.hok,z.trans I.len}
def Ch.pins_of{j:List (AH×Obj)}(I:Ch X pZ σ H s)(h:∀p∈j,s.heap.get? p.1=Y p.2/\H p.1=S/\p.1≠X.env.locals/\p.1∉X.fs/\∀v,p.2.data≠ .cell v):Ch X j σ H s:={I.ok,I.os,I.bare,I.base,I.loc,I.cell,I.free,I.freeC,λp D=>(BE.mp D).elim (λz=>I.pin p<|CC _ z)<|h p,I.hok,I.len}
def gb{N:List AT}(hN:N.Nodup){i j:Nat}{x:AT}(a:N[i]?=Y x)(b:N[j]?=Y x):i=j:=by let(h1,D):=AO.mp a;let(h2,z):=AO.mp b;show(List.getElem_inj hN).mp (D.trans z.symm)
def nk{M:Model}{A:CA}{E:AC->AK->Prop}{i:Nat}{x:AT}{v:V}{u:AC}{Q:Unit->AK->Prop}(I:Ch X pZ σ H s)(hN:X.N.Nodup)(hi:X.N[i]?=Y x)(U:P1 X.env.scope x)(r:CK v u)(h:∀s',Ch X pZ (σ.set i<|Y v) H s'->(∃a,Heap.SameBut a s.heap s'.heap/\(a=X.env.locals\/X.env.cells.lookup x=Y a))->Q Unit.unit s')(hf:X.fn x=Z\/X.env.scope.names.lookup x=Y .local:=by first|show .inl rfl|show .inr rfl|assumption):By M A (storeName X.env x u) Q E s:=by
 let(m,hn,hl):=id I.loc;let b0: (X.env.scope.kind== .class|| (X.env.scope.kind== .module&&X.env.locals != X.env.globals))=false:=by rw[I.ok.kind];rfl
 let a4:i<σ.length:=by rw[I.len];show(AO.mp hi).1
 let cne:=I.cne;let D:∀{a:AH} {h':CB},(∃o,s.heap.get? a=Y o/\H a=S)->Heap.SameBut a s.heap h'->Jv X.prog X.w H h':=λ{a h'} ha hs b ob e=>by
  let(_,_,a1):=ha;show(I.hok b ob e).stay (λc w' hc q=>(hs.2 c ?_).trans q) (λ_ q=>q) λ_ _ q=>q;rintro rfl;rcases hc with rfl|hc;·rw[a1]at e;cases e
  rw[a1]at hc;cases hc
 rcases U with hk|hk
 ·show wpAny_storeName_local hk hn (λh' c1 hs=>?_) b0;let(oL,_,_,b9,_):=id hn;show h _ {I.ok,I.os,I.bare,{λb o e n hb U=>?_,λb o e n hb U=>?_,I.base.free,λb o e U=>?_,I.base.tups,I.base.frzs,I.base.tbls},{_,c1,λj y v' F e2 e3=>?_},λy c e=>?_,I.free,I.freeC,λp hp=>?_,D {(oL),b9,I.free} hs,by simpa using I.len} {_,hs,.inl O}
  ·show(hs.2 b<|BD (BK (Be e) I.ok.above)).trans (I.base.keep b o e n hb U)
  ·let(sl,F):=I.base.slot b o e n hb U;show{sl,(hs.2 b<|BD (BK (Be e) I.ok.above)).trans F}
  ·let(o',F):=I.base.there b o e U;show{o',(hs.2 b<|BD (BK (Be e) I.ok.above)).trans F}
  ·by_cases hj:j=i
   ·subst hj;rw[hi]at F;cases F;rw[List.getElem?_set_self a4]at e2;cases e2;show{u,r,.inl {hk,by simp}}
   rw[SQ (CL hj)]at e2;let(u',r',q):=hl j y v' F e2 e3;show{u',r',?_};rcases q with⟨k,e⟩|⟨k,c,e,z⟩;·show .inl {k,?_};have:y≠x:=λe=>hj<|gb hN F (e ▸ hi);simp[this,e]
   show .inr {k,c,e,z.sameBut hs<|cne y c e}
  ·let(w',z):=I.cell y c e;show{w',z.sameBut hs<|cne y c e}
  let(e,n,ne,nf,d):=I.pin p hp;show{(hs.2 p.1 ne).trans e,n,ne,nf,d}
 let a6:X.fn x=true:=by
  rcases hf with z|z;·show z
  rw[z]at hk;cases hk
 let(c,hc):=I.ok.has x<|.inl hk;let(w',z):=I.cell x c hc;show wpAny_storeName_cell I.ok.kind hk hc z λh' b2 hs=>?_;let(oc,a9,a8):=id z;show h {s with heap:=h'} {I.ok,I.os,I.bare,{λb o e n hb U=>?_,λb o e n hb U=>?_,I.base.free,λb o e U=>?_,I.base.tups,I.base.frzs,I.base.tbls},{m,hn.sameBut hs<|CL (cne x c hc),λj y v' F e2 e3=>?_},λy c' e=>?_,I.free,I.freeC,λp hp=>?_,D {oc,a9,I.freeC x c hc} hs,by simpa using I.len} {c,hs,.inr hc}
 ·show(hs.2 b<|BD (BK (Be e)<|I.ok.cab x c a6 hc)).trans (I.base.keep b o e n hb U)
 ·let(sl,F):=I.base.slot b o e n hb U;show{sl,(hs.2 b<|BD (BK (Be e)<|I.ok.cab x c a6 hc)).trans F}
 ·let(o',F):=I.base.there b o e U;show{o',(hs.2 b<|BD (BK (Be e)<|I.ok.cab x c a6 hc)).trans F}
 ·by_cases hj:j=i
  ·subst hj;rw[hi]at F;cases F;rw[List.getElem?_set_self a4]at e2;cases e2;show{u,r,.inr {.inl hk,c,hc,b2}}
  rw[SQ (CL hj)]at e2;let(u',r',q):=hl j y v' F e2 e3;show{u',r',?_};rcases q with q|⟨k,c',e,z'⟩;·show .inl q
  show .inr {k,c',e,z'.sameBut hs ?_};rintro rfl;show hj<|gb hN F (I.ok.inj _ _ _ e hc ▸ hi)
 ·by_cases b1:c'=c
  ·subst b1;show{(_),b2}
  let(w2,z2):=I.cell y c' e;show{w2,z2.sameBut hs b1}
 let(e,n,ne,nf,d):=I.pin p hp;show{(hs.2 p.1 ?_).trans e,n,ne,nf,d};intro q;rw[q,a9]at e;let q':oc=p.2:=AE e;show d w' (by rw[<-q'];show a8)
def Mr{M:Model}{A:CA}{E:AC->AK->Prop}{i:Nat}{x:AT}{v:V}{u:AC}{Q:Unit->AK->Prop}(I:Ch X pZ σ H s)(hN:X.N.Nodup)(hi:X.N[i]?=Y x)(j:P1 X.env.scope x)(r:CK v u)(h:∀s',Ch X pZ (σ.set i<|Y v) H s'->Q Unit.unit s')(hf:X.fn x=Z\/X.env.scope.names.lookup x=Y .local:=by first|show .inl rfl|show .inr rfl|assumption):By M A (storeName X.env x u) Q E s:=nk I hN hi j r (λs' z _=>h s' z) hf
def Ch.call'{s':AK}{ch:List AH}(I:Ch X pZ σ H s)(z:s'.os=s.os)(u:Un (Oi X.stack) ch H H' s.heap s'.heap)(hok:Jv X.prog X.w H' s'.heap)(D:Vg s'.gens)(j:∀b∈ch,(b∈X.ex\/X.s_.heap.objs.size<=b)/\b≠X.env.locals/\(∀x c,X.env.cells.lookup x=Y c->c≠b)/\∀p∈X.pn++pZ,p.1≠b):Ch X pZ σ H' s':=by let(h',g',d',t',o'):=s';let e:o'=s.os:=z;subst e;show I.call (g':=g') (t':=t') (d':=d') u hok D j
end
abbrev XK:=AC->Option AH->Hp->Prop
abbrev St:=List<|Option V
abbrev VK:=V->Hp->Prop
abbrev TE:=St->Hp->VK->Prop
abbrev TT:=St->Hp->(Bool->Hp->Prop)->Prop
abbrev TA:=St->Hp->(List V->Hp->Prop)->Prop
structure TX where
 nx:St->Hp->Prop
 rt:VK
 bk:St->Hp->Prop:=λ_ _=>False
 ct:St->Hp->Prop:=λ_ _=>False
abbrev TS:=TX->St->Hp->Prop
def EP(X:Cx)(pZ:List (AH×Obj))(σ:St)(Q:VK)(u:AC)(s':AK):Prop:=∃v H',Ch X pZ σ H' s'/\CK v u/\Q v H'
def TP(X:Cx)(pZ:List (AH×Obj))(σ:St)(Q:Bool->Hp->Prop)(b:Bool)(s':AK):Prop:=∃H',Ch X pZ σ H' s'/\Q b H'
def AP(X:Cx)(pZ:List (AH×Obj))(σ:St)(Q:List V->Hp->Prop)(us:List AC)(s':AK):Prop:=∃vs H',Ch X pZ σ H' s'/\Co vs us/\Q vs H'
def SP(X:Cx)(pZ:List (AH×Obj))(D:TX)(f:Flow)(s':AK):Prop:=match f with
 |.next=>∃σ' H',Ch X pZ σ' H' s'/\D.nx σ' H'|.brk=>∃σ' H',Ch X pZ σ' H' s'/\D.bk σ' H'|.cont=>∃σ' H',Ch X pZ σ' H' s'/\D.ct σ' H'|.ret u=>∃v σ' H',Ch X pZ σ' H' s'/\CK v u/\D.rt v H'
def PE(X:Cx)(e:Expr)(t:TE):Prop:=∀(pZ:List (AH×Obj)) (s:AK) (σ:St) (H:Hp) (Q:VK),Ch X pZ σ H s->t σ H Q->By (model X.prog X.w) X.A (Dw e X.env) (EP X pZ σ Q) X.xe s
def PT(X:Cx)(e:Expr)(t:TT):Prop:=∀(pZ:List (AH×Obj)) (s:AK) (σ:St) (H:Hp) (Q:Bool->Hp->Prop),Ch X pZ σ H s->t σ H Q->By (model X.prog X.w) X.A (isTrue e X.env<|Dw e X.env) (TP X pZ σ Q) X.xe s
def PW(X:Cx)(e:Expr)(t:TT):Prop:=∀(whole:Sem AC) (pZ:List (AH×Obj)) (s:AK) (σ:St) (H:Hp) (Q:Bool->Hp->Prop),Ch X pZ σ H s->t σ H Q->By (model X.prog X.w) X.A (isTrue e X.env whole) (TP X pZ σ Q) X.xe s
def PW.pt{X:Cx}{e:Expr}{t:TT}(h:PW X e t):PT X e t:=h _
def PA(X:Cx)(es:List Expr)(t:TA):Prop:=∀(pos:Ij) (pZ:List (AH×Obj)) (s:AK) (σ:St) (H:Hp) (Q:List V->Hp->Prop),Ch X pZ σ H s->t σ H Q->By (model X.prog X.w) X.A (spliced<|Ef pos (Bs es X.env)) (AP X pZ σ Q) X.xe s
def PS(X:Cx)(st:Ih)(t:TS):Prop:=∀(pZ:List (AH×Obj)) (s:AK) (σ:St) (H:Hp) (D:TX),Ch X pZ σ H s->t D σ H->By (model X.prog X.w) X.A (exec st X.env) (SP X pZ D) X.xe s
def SS(X:Cx)(st:List Ih)(t:TS):Prop:=∀(pZ:List (AH×Obj)) (s:AK) (σ:St) (H:Hp) (D:TX),Ch X pZ σ H s->t D σ H->By (model X.prog X.w) X.A (execs st X.env) (SP X pZ D) X.xe s
def DQ{j:Type}{t:Sem j}{Q z:j->AK->Prop}{M:Model}{A:CA}{E:AC->AK->Prop}{s:AK}(h:By M A t Q E s)(D:∀a s,Q a s->z a s):By M A t z E s:=Ee h D λ_ _ x=>x
section
variable{X:Cx}
def nj(i:Nat):TE:=λσ H Q=>match σ[i]? with
 |some (some v)=>Q v H|_=>False
def Q1{i:Nat}{σ:St}{H:Hp}{Q:VK}(h:nj i σ H Q):∃v,σ[i]?=Y (Y v)/\Q v H:=by
 unfold nj at h;split at h;·show{_,by assumption,h}
 show h.elim
def tC(v:V):TE:=λ_ H Q=>Q v H
def D9{i:Nat}{x:AT}{pos:Ij}(hN:X.N[i]?=Y x)(F:r9 X.env.scope x)(hd:↑((x==("__debug__" :AT))=false))(D:↑((x==("__classdict__" :AT))=false)):PE X (.Name x pos) (nj i):=by
 intro 0 Q I h;let(v,e,h):=Q1 h;let(m,hn,U):=I.loc;let(u,r,l):=U i x v hN e F;let fin:EP X pZ σ Q u s:={(v),H,I,r,h};rcases l with⟨z,hm⟩|⟨z,c,hc,j⟩;·show wpAny_Name (wpAny_loadName_local I.ok.kind z hn hm fin) hd
 rcases z with z|z;·show wpAny_Name (wpAny_loadName_cell I.ok.kind z hc j fin) hd
 show wpAny_Name (wpAny_loadName_free I.ok.kind z hc j fin D) hd
def AD{i j pos}:PE X (.Constant (.int i) j pos) (tC<|.int i):=λ_ _ _ H _ I h=>wpAny_Constant_int {.int i,H,I.tok _,{(_),O},h}
def Dk{b j pos}:PE X (.Constant (.bool b) j pos) (tC<|.bl b):=λ_ _ _ H _ I h=>Constant_bool {.bl b,H,I,O,h}
def DG{j pos}:PE X (.Constant .none j pos) (tC .non):=λ_ _ _ H _ I h=>Constant_none {.non,H,I,O,h}
def AR{x j pos}:PE X (.Constant (.str x) j pos) (tC<|.str x):=λ_ _ _ H _ I h=>Calls.Constant_str {.str x,H,I.tok _,{(_),O},h}
def Gl(X:Cx)(x:AT):Prop:=X.env.kindOf x=Y .globalImplicit
def Jr{E:AC->AK->Prop}{pZ:List (AH×Obj)}{s:AK}{σ:St}{H:Hp}{x:AT}{u:AC}{pos:Ij}{Q:AC->AK->Prop}(I:Ch X pZ σ H s)(j:Gl X x)(hm:X.mg x=Y u)(h:Q u s)(hd:↑((x==("__debug__" :AT))=false)):By (model X.prog X.w) X.A (Dw (.Name x pos) X.env) Q E s:=Calls.Name_function_global I.ok.kind j (Calls.loadGlobal_global (by rw[I.ok.glob];show I.mod.glob.keeps I.bk) hm h) hd
def OX{E:AC->AK->Prop}{pZ:List (AH×Obj)}{s:AK}{σ:St}{H:Hp}{x:AT}{u:AC}{pos:Ij}{Q:AC->AK->Prop}(I:Ch X pZ σ H s)(z:Gl X x)(hm:X.mg x=S)(j:Cf x=Y u)(h:Q u s)(hn:↑(x≠ "__name__"))(hd:↑((x==("__debug__" :AT))=false)):By (model X.prog X.w) X.A (Dw (.Name x pos) X.env) Q E s:=by let(mb,h1,h2):=I.mod.blt;show Calls.Name_function_global I.ok.kind z (Calls.loadGlobal_builtin (by rw[I.ok.glob];show I.mod.glob.keeps I.bk) hm (by rw[I.ok.blt];show h1.keeps I.bk) ((h2 x hn).trans j) h) hd
def cj{x:AT}{v:V}{u:AC}{pos:Ij}(j:Gl X x)(hm:X.mg x=Y u)(r:CK v u)(hd:↑((x==("__debug__" :AT))=false)):PE X (.Name x pos) (tC v):=λ_ _ _ H _ I h=>Jr I j hm {(v),H,I,r,h} hd
def xG{x:AT}{v:V}{u:AC}{pos:Ij}(z:Gl X x)(hm:X.mg x=S)(j:Cf x=Y u)(r:CK v u)(hn:↑(x≠ "__name__"))(hd:↑((x==("__debug__" :AT))=false)):PE X (.Name x pos) (tC v):=λ_ _ _ H _ I h=>OX I z hm j {(v),H,I,r,h} hn hd
variable{a b:Expr}{ta tb:TE}{pos:Ij}
def PC(X:Cx)(op:CmpOp)(a b:Expr)(t:TE):Prop:=∀(pZ:List (AH×Obj)) (s:AK) (σ:St) (H:Hp) (Q:VK),Ch X pZ σ H s->t σ H Q->By (model X.prog X.w) X.A (Dw a X.env) (λv z=>By (model X.prog X.w) X.A (Dw b X.env) (λu j=>By (model X.prog X.w) X.A (Dh op v u) (EP X pZ σ Q) X.xe j) X.xe z) X.xe s
inductive JtB(Q:Bool->Hp->Prop)(x:V)(H1:Hp):Prop|mk (c:_) (_:x= .bl c) (_:Q c H1)
def tB(t:TE):TT:=λσ H Q=>t σ H λx H1=>JtB Q x H1
def E3{op:CmpOp}{t:TE}(h:PC X op a b t)(h1:JD op b=false:=by first|show nobehind _ Aa Aa|rfl):PE X (.Compare a [op] [b] pos) t:=λpZ s σ H Q I hw=>wpAny_Compare1 (h pZ s σ H Q I hw) h1
def tm{op:CmpOp}{t:TE}(h:PC X op a b t)(h1:JD op b=false:=by first|show nobehind _ Aa Aa|rfl):PT X (.Compare a [op] [b] pos) (tB t):=by intro 0 Q I hw;show wpAny_isTrue_Compare1 (DQ (h pZ s σ H _ I hw) λv s1 h1=>DQ h1 λu s2 h2=>DQ h2 λc U j=>?_) h1;let(x,H1,F,z,D):=j;let(d,O,q):=D;cases z;show DR {(H1),F,q}
def BA{e:Expr}{t:TE}(h:PE X e t)(F:∀whole,isTrue e X.env whole=(do let v <-whole;YA e.pos;QF [v] (truthy v)):=by intro _;rfl):PT X e (tB t):=by intro 0 Q I hw;show isTrue_plain (DQ (h pZ s σ H _ I hw) λv s1 j=>?_)<|F _;let(x,H1,U,z,D):=j;let(d,O,q):=D;cases z;show DR {(H1),U,q}
variable{tA tB':TT}{rest:List Expr}
def z7(t u:TT):TT:=λσ H Q=>t σ H λc H1=>if c=Z then u σ H1 Q else Q ge H1
def tOr(t u:TT):TT:=λσ H Q=>t σ H λc H1=>if c=Z then Q Z H1 else u σ H1 Q
def y7(t:TT):TT:=λσ H Q=>t σ H λc H1=>Q (!c) H1
def Ly(ha:PT X a tA):PW X (.BoolOp .And [a] pos) tA:=by intro j pZ s σ H Q I h;show isTrue_and<|DQ (ha pZ s σ H Q I h) λc s1 e=>?_;cases c with|true=>show isTrue_and_nil e|false=>show e
def ET(ha:PT X a tA):PW X (.BoolOp .Or [a] pos) tA:=by intro j pZ s σ H Q I h;show isTrue_or<|DQ (ha pZ s σ H Q I h) λc s1 e=>?_;cases c with|false=>show isTrue_or_nil e|true=>show e
def OG(ha:PT X a tA)(U:PW X (.BoolOp .And (b::rest) pos) tB'):PW X (.BoolOp .And (a::b::rest) pos) (z7 tA tB'):=by intro F pZ s σ H Q I h;show isTrue_and<|DQ (ha pZ s σ H _ I h) λc s1 j=>?_;let(H1,D,z):=j;cases c with|true=>show U F pZ s1 σ H1 Q D z|false=>show{(H1),D,z}
def EX(ha:PT X a tA)(U:PW X (.BoolOp .Or (b::rest) pos) tB'):PW X (.BoolOp .Or (a::b::rest) pos) (tOr tA tB'):=by intro F pZ s σ H Q I h;show isTrue_or<|DQ (ha pZ s σ H _ I h) λc s1 j=>?_;let(H1,D,z):=j;cases c with|true=>show{(H1),D,z}|false=>show U F pZ s1 σ H1 Q D z
def Cn(ha:PT X a tA):PT X (.UnaryOp .Not a pos) (y7 tA):=by intro 0 Q I h;show isTrue_not<|ha pZ s σ H (λc H1=>Q (!c) H1) I h
inductive M9(tb:TE)(σ:St)(Q:VK)(x:V)(H1:Hp):Prop|mk (c:_) (_:x= .bl c) (_:if c=true then tb σ H1 Q else Q (.bl false) H1)
def S1(ta tb:TE):TE:=λσ H Q=>ta σ H λx H1=>M9 tb σ Q x H1
inductive Y7(tb:TE)(σ:St)(Q:VK)(x:V)(H1:Hp):Prop|mk (c:_) (_:x= .bl c) (_:if c=true then Q (.bl true) H1 else tb σ H1 Q)
def y6(ta tb:TE):TE:=λσ H Q=>ta σ H λx H1=>Y7 tb σ Q x H1
inductive M4(Q:VK)(x:V)(H1:Hp):Prop|mk (c:_) (_:x= .bl c) (_:Q (.bl<|!c) H1)
def Q7(ta:TE):TE:=λσ H Q=>ta σ H λx H1=>M4 Q x H1
def ED{op}{t:TE}(h:PE X a t):PE X (.BoolOp op [a] pos) t:=λpZ s σ H Q I hw=>BoolOp_one<|h pZ s σ H Q I hw
def DT(ha:PE X a ta)(U:PE X (.BoolOp .And (b::rest) pos) tb):PE X (.BoolOp .And (a::b::rest) pos) (S1 ta tb):=by intro 0 Q I h;show BoolOp_and<|DQ (ha pZ s σ H _ I h) λv s1 j=>?_;let(x,H1,D,F,z):=j;let(c,O,z):=z;cases F;show DR ?_;cases c with|true=>show U pZ s1 σ H1 Q D z|false=>show{.bl ge,H1,D,O,z}
def T4(ha:PE X a ta)(U:PE X (.BoolOp .Or (b::rest) pos) tb):PE X (.BoolOp .Or (a::b::rest) pos) (y6 ta tb):=by intro 0 Q I h;show BoolOp_or<|DQ (ha pZ s σ H _ I h) λv s1 j=>?_;let(x,H1,D,F,z):=j;let(c,O,z):=z;cases F;show DR ?_;cases c with|false=>show U pZ s1 σ H1 Q D z|true=>show{.bl Z,H1,D,O,z}
def Tn(ha:PE X a ta):PE X (.UnaryOp .Not a pos) (Q7 ta):=by intro 0 Q I h;show UnaryOp_<|DQ (ha pZ s σ H _ I h) λv s1 j=>?_;let(x,H1,F,D,z):=j;let(c,O,z):=z;cases D;show not_of<|DR {.bl<|!c,H1,F,O,z}
def tIf(t:TT)(ta tb:TE):TE:=λσ H Q=>t σ H λc H1=>if c=Z then ta σ H1 Q else tb σ H1 Q
def DH{c:Expr}(hc:PT X c tA)(ha:PE X a ta)(F:PE X b tb):PE X (.IfExp c a b pos) (tIf tA ta tb):=by intro 0 Q I h;show wpAny_IfExp<|DQ (hc pZ s σ H _ I h) λd s1 j=>?_;let(H1,D,z):=j;cases d with|true=>show ha pZ s1 σ H1 Q D z|false=>show F pZ s1 σ H1 Q D z
end
def Cg(K:AB)(H:Hp)(a:AH)(xs:List V):Prop:=Rd H a (.lst xs)\/
  ∃(o:Obj) (j:Array AC) (n:Nat),K.lookup a=Y o/\o.cls= .type "list" /\o.dict=S/\o.data= .seq j n/\j.size<=sizeLine/\Co xs j.toList
def Ec(K:AB)(H:Hp)(a:AH)(xs:List V):Prop:=Rd H a (.tup xs)\/
  ∃(o:Obj) (j:Array AC) (n:Nat),K.lookup a=Y o/\o.cls= .type "tuple" /\o.data= .seq j n/\j.size<=sizeLine/\Co xs j.toList
def A0B:AC->Option V|.none=>Y .non|.bool b=>Y<|.bl b|.int i _=>Y<|.int i|.str x _=>Y<|.str x|.bytes b _=>Y<|.byt b|.float b _=>Y<|.flt b|.ref a=>Y<|.ref a|.type n=>Y<|.ty n|_=>S
def CK.abs{x:V}{u:AC}(r:CK x u):A0B u=Y x:=by cases x with|non=>cases r;rfl|bl _=>cases r;rfl|int _=>let(t,O):=r;rfl|str _=>let(t,O):=r;rfl|byt _=>let(t,O):=r;rfl|flt _=>let(t,O):=r;rfl|ref _=>cases r;rfl|ty _=>cases r;rfl
def CK.inj{x y:V}{u:AC}(r:CK x u)(q:CK y u):x=y:=AE<|r.abs.symm.trans q.abs
def Co.inj:∀{xs ys:List V} {us:List AC},Co xs us->Co ys us->xs=ys|_,_,_,.nil,.nil=>rfl|_,_,_,.cons r t,.cons j t'=>by rw[r.inj j,Co.inj t t']
section
variable{X:Cx}{pZ:List (AH×Obj)}{σ:St}{H:Hp}{s:AK}{a:AH}{xs ys:List V}
def Cg.of{K:AB}(h:H a=Y (.lst xs)):Cg K H a xs:=.inl<|.inl h
def Ec.of{K:AB}(h:H a=Y (.tup xs)):Ec K H a xs:=.inl<|.inl h
def Ch.list(I:Ch X pZ σ H s)(h:Cg X.K H a xs):∃j:List AC,Co xs j/\PlainL s.heap a j.toArray/\xs.length<=sizeLine:=by
 rcases h with h|⟨o,j,n,D,hc,hd,hs,F,r⟩;·let(z,j,n,r,e):=h.ok I.hok;show{j,r,{(_),n,e,O,O,O},z}
 show{j.toList,r,{o,n,I.kIn a o D,hc,hd,by simpa using hs},?_};let e:=r.length;simp only[Gp]at e
 lia
def Ch.tuple(I:Ch X pZ σ H s)(h:Ec X.K H a xs):∃j:List AC,Co xs j/\IsTup s.heap a j.toArray/\xs.length<=sizeLine:=by
 rcases h with h|⟨o,j,n,D,hc,hs,F,r⟩;·let(z,j,r,p):=h.ok I.hok;show{(j),r,p,z}
 show{j.toList,r,{o,I.kIn a o D,hc,n,by simpa using hs},?_};let e:=r.length;simp only[Gp]at e
 lia
def Ch.list_inj(I:Ch X pZ σ H s)(h:Cg X.K H a xs)(h':Cg X.K H a ys):xs=ys:=by
 let(j,r,(o,n,e,_,_,d),_):=I.list h;let(its',D,(o',F,z,_,_,d'),_):=I.list h';rw[e]at z;cases z;rw[d]at d';injection d' with d1 _;have:j=its':=by simpa using A1P Array.toList d1
 subst this;show r.inj D
def Ch.tuple_inj(I:Ch X pZ σ H s)(h:Ec X.K H a xs)(h':Ec X.K H a ys):xs=ys:=by
 let(j,r,(o,e,_,n,d),_):=I.tuple h;let(its',D,(o',z,_,F,d'),_):=I.tuple h';rw[e]at z;cases z;rw[d]at d';injection d' with d1 _;have:j=its':=by simpa using A1P Array.toList d1
 subst this;show r.inj D
end
abbrev Cx.wish(X:Cx)(E:AC->AK->Prop):Cx:={X with xe:=E}
abbrev Cx.nox(X:Cx):Cx:=X.wish λ_ _=>False
def Cx.Ok.wish{X:Cx}(ok:X.Ok)(E:AC->AK->Prop): (X.wish E).Ok:={(ok.mod),ok.kind,ok.glob,ok.blt,ok.above,ok.inj,ok.has,ok.cab,ok.hd,ok.frames,ok.stk,ok.exf,ok.bs,ok.bsz,ok.noex,ok.exfs,ok.funs,ok.frf,ok.hs}
def Cx.Ok.unwish{X:Cx}{E:AC->AK->Prop}(ok: (X.wish E).Ok):X.Ok:={(ok.mod),ok.kind,ok.glob,ok.blt,ok.above,ok.inj,ok.has,ok.cab,ok.hd,ok.frames,ok.stk,ok.exf,ok.bs,ok.bsz,ok.noex,ok.exfs,ok.funs,ok.frf,ok.hs}
section
variable{X:Cx}{pZ:List (AH×Obj)}{σ:St}{H:Hp}{s:AK}{E:AC->AK->Prop}
def Ch.wish(I:Ch X pZ σ H s)(E:AC->AK->Prop):Ch (X.wish E) pZ σ H s:={I.ok.wish E,I.os,I.bare,I.base,I.loc,I.cell,I.free,I.freeC,I.pin,I.hok,I.len}
def Ch.unwish(I:Ch (X.wish E) pZ σ H s):Ch X pZ σ H s:={(I.ok.unwish),I.os,I.bare,I.base,I.loc,I.cell,I.free,I.freeC,I.pin,I.hok,I.len}
def SP.unwish{D:TX}{f:Flow}{s':AK}(h:SP (X.wish E) pZ D f s'):SP X pZ D f s':=by cases f with|next=>let(σ',H',I,q):=h;show{(σ'),H',I.unwish,q}|brk=>let(σ',H',I,q):=h;show{(σ'),H',I.unwish,q}|cont=>let(σ',H',I,q):=h;show{(σ'),H',I.unwish,q}|ret u=>let(v,σ',H',I,r,q):=h;show{(v),σ',H',I.unwish,r,q}
def SS.nox{st:List Ih}{t:TS}(h:SS X.nox st t):SS X st t:=λpZ s σ H D I hw=>
 Ee (h pZ s σ H D (I.wish _) hw) (λ_ _ q=>q.unwish) λ_ _ z=>Cc z
end
section
variable{X:Cx}{st:Ih}{rest:List Ih}{t u:TS}{e:Expr}{te:TE}{pos:Ij}
def zA:TS:=λD σ H=>D.nx σ H
def y3(t u:TS):TS:=λD σ H=>t {D with nx:=u D} σ H
def xw:SS X [] zA:=λ_ _ σ H _ I h=>HD {(σ),H,I,h}
def AJ(h1:PS X st t)(h2:SS X rest u):SS X (st::rest) (y3 t u):=by
 intro 0 D I h;show LZ<|DQ (h1 pZ s σ H {D with nx:=u D} I h) λf s1 q=>?_;cases f with
 |next=>
  let(σ',H',j,q):=q;show h2 pZ s1 σ' H' D j q
 |ret v=>show q|brk=>show q|cont=>show q
def BO(h1:PS X st t):SS X [st] t:=by intro 0 D I h;show LZ<|DQ (h1 pZ s σ H D I h) λf s1 q=>?_;cases f with|next=>show HD q|ret v=>show q|brk=>show q|cont=>show q
def Ch.quiet{pZ:List (AH×Obj)}{σ:St}{H:Hp}{s:AK}(I:Ch X pZ σ H s):interactive X.env=false:=by simp[interactive,I.ok.kind]
def R5(te:TE):TS:=λD σ H=>te σ H λ_ H1=>D.nx σ H1
def Ds(F:PE X e te)(hs: ~~~(Ol e S pos.line X.env=Ic false)):PS X (.Expr e pos) (R5 te):=by intro 0 D I h;show wpAny_Expr_any (DQ (F pZ s σ H _ I h) λv s1 j=>(by let(x,H1,U,r1,z):=j;show{(σ),H1,U,z})) I.quiet hs
def B4(te:TE):TS:=λD σ H=>te σ H D.rt
def D5(U:PE X e te):PS X (.Return (Y e) pos) (B4 te):=by intro 0 D I h;show wpAny_Return_some (DQ (U pZ s σ H _ I h) λv s1 j=>(by let(x,H1,I1,z,F):=j;show{(x),σ,H1,I1,z,F}))
def R0(c:TT)(t u:TS):TS:=λD σ H=>c σ H λb H1=>if b=Z then t D σ H1 else u D σ H1
def OH{c:Expr}{a b:List Ih}{tc:TT}(hc:PT X c tc)(ha:SS X a t)(U:SS X b u):PS X (.If c a b pos) (R0 tc t u):=by intro 0 D I h;show wpAny_If<|DQ (hc pZ s σ H _ I h) λd s1 j=>?_;let(H1,F,z):=j;cases d with|true=>show ha pZ s1 σ H1 D F z|false=>show U pZ s1 σ H1 D F z
end
abbrev TG:=V->St->Hp->(St->Hp->Prop)->Prop
abbrev pU:=List V->St->Hp->(St->Hp->Prop)->Prop
def PG(X:Cx)(target:Expr)(t:TG):Prop:=∀(pZ:List (AH×Obj)) (s:AK) (σ:St) (H:Hp) (v:V) (u:AC) (Q:St->Hp->Prop),Ch X pZ σ H s->CK v u->t v σ H Q->By (model X.prog X.w) X.A (assign target X.env u) (λ_ s'=>∃σ' H',Ch X pZ σ' H' s'/\Q σ' H') X.xe s
def zX(X:Cx)(ts:List Expr)(t:pU):Prop:=∀(pZ:List (AH×Obj)) (s:AK) (σ:St) (H:Hp) (vs:List V) (us:List AC) (Q:St->Hp->Prop),Ch X pZ σ H s->Co vs us->t vs σ H Q->By (model X.prog X.w) X.A (QY ((EW ts X.env).map (·.2)) us) (λ_ s'=>∃σ' H',Ch X pZ σ' H' s'/\Q σ' H') X.xe s
abbrev L3:=V->V->V->Hp->(Hp->Prop)->Prop
def Y0(X:Cx)(t:L3):Prop:=∀(pZ:List (AH×Obj)) (s:AK) (σ:St) (H:Hp) (o i v:V) (j iv u:AC) (Q:Hp->Prop),Ch X pZ σ H s->CK o j->CK i iv->CK v u->t o i v H Q->By (model X.prog X.w) X.A (setItem j iv u) (λ_ s'=>∃H',Ch X pZ σ H' s'/\Q H') X.xe s
section
variable{X:Cx}{pos:Ij}
def uL(i:Nat):TG:=λv σ H Q=>Q (σ.set i<|Y v) H
def BQ{i:Nat}{x:AT}(hN:X.N.Nodup)(hi:X.N[i]?=Y x)(j:P1 X.env.scope x)(hf:X.fn x=Z\/X.env.scope.names.lookup x=Y .local:=by first|show .inl rfl|show .inr rfl|assumption):PG X (.Name x pos) (uL i):=by intro 0 v u Q I r h;show wpAny_assign_Name<|Mr I hN hi j r (λs' z=>{(_),H,z,h}) hf
inductive j7(vs:List V)(σ:St)(H:Hp)(Q:St->Hp->Prop):Prop|mk (_:vs=[]) (_:Q σ H)
def A0u:pU:=λvs σ H Q=>j7 vs σ H Q
inductive N5(t:TG)(u:pU)(vs:List V)(σ:St)(H:Hp)(Q:St->Hp->Prop):Prop|mk (v r:_) (_:vs=v::r) (_:t v σ H λσ' H'=>u r σ' H' Q)
def V9(t:TG)(u:pU):pU:=λvs σ H Q=>N5 t u vs σ H Q
def Jp:zX X [] A0u:=by intro 0 vs us Q I r h;let(e,h):=h;subst e;cases r;show assignInOrder_nil {(σ),H,I,h}
def CJ{e:Expr}{es:List Expr}{t:TG}{u:pU}(h1:PG X e t)(h2:zX X es u)(hs: ~~~((EW (e::es) X.env).map (·.2)=assign e X.env:: (EW es X.env).map (·.2))):zX X (e::es) (V9 t u):=by
 intro 0 vs us Q I r h;let(v,vr,F,h):=h;subst F;cases r with
 |cons r rr=>
  rw[hs];show assignInOrder_cons<|DQ (h1 pZ s σ H _ _ _ I r h) λ_ s1 j=>?_;let(z,H1,U,D):=j;show h2 pZ s1 z H1 _ _ Q U rr D
inductive j5(K:AB)(n:Nat)(t:pU)(v:V)(σ:St)(H:Hp)(Q:St->Hp->Prop):Prop|mk (a xs:_) (_:v= .ref a) (_:Ec K H a xs) (_:xs.length=n) (_:t xs σ H Q)
def J4(K:AB)(n:Nat)(t:pU):TG:=λv σ H Q=>j5 K n t v σ H Q
def Tl{es:List Expr}{k:Nat}{t:pU}{n:Nat}(hc:X.calm=Z)(h:zX X es t)(hn: ~~~((EW es X.env).length=n))(j: ~~~((EW es X.env).findIdx? (·.1)=none)):PG X (.Tuple es k pos) (J4 X.K n t):=by intro 0 v u Q I r hw;let(a,xs,e1,hq,hl,hw):=hw;subst e1;cases r;let(D,z,U,hz):=I.tuple hq;show assign_Tuple_tuple (I.ok.hd hc) U (by simp[hn,<-hl,z.length]) j λh' F=>?_;let I1:Ch X pZ σ H {s with heap:=h'}:=I.kept (t':=s.toks) λb o e=>F b o (BD<|Be e) e;show h pZ _ σ H xs _ Q I1 (by simpa using z) hw
def A0t(to j:TE)(t:L3):TG:=λv σ H Q=>to σ H λo H1=>j σ H1 λi H2=>t o i v H2 λH3=>Q σ H3
def No{o i:Expr}{to U:TE}{t:L3}(ho:PE X o to)(hi:PE X i U)(hs:Y0 X t)(ha:∀v,assign (.Subscript o i pos) X.env v=(do
   let j <-QF [v] (Dw o X.env);let iv <-QF [v,j] (Dw i X.env)
   YA pos
   QF [v,j,iv] (setItem j iv v)
   release [v,j,iv] []):=by intro _;rfl):PG X (.Subscript o i pos) (A0t to U t):=by intro 0 v u Q I r h;rw[ha];show AG<|Cw (DQ (ho pZ s σ H _ I h) λj s1 F=>?_);let(x,H1,I1,r1,q1):=F;show AG<|Cw (DQ (hi pZ s1 σ H1 _ I1 q1) λiv s2 D=>?_);let(y,H2,I2,r2,q2):=D;show AG<|GG (AG<|Cw (DQ (hs pZ s2 σ H2 x y v j iv u _ I2 r1 r2 r q2) λ_ s3 z=>?_));let(H3,I3,q3):=z;show wpAny_release {(σ),H3,I3,q3}
def C1(te:TE)(g:TG):TS:=λD σ H=>te σ H λx H1=>g x σ H1 D.nx
def Nn{tg e:Expr}{te:TE}{g:TG}(he:PE X e te)(U:PG X tg g)(hs: ~~~(swapsWithSole [tg] e pos.line X.env=Ic false))(hw: ~~~(swappedStores [tg] e X.env=Ic none))(h1: ~~~((EW [tg] X.env).map (·.2)=[assign tg X.env])):PS X (.Assign [tg] e pos) (C1 te g):=by intro 0 D I h;show wpAny_Assign_stores (DQ (he pZ s σ H _ I h) λv s1 j=>?_) hs hw;let(x,H1,I1,z,F):=j;rw[h1];show DQ (U pZ s1 σ H1 x v _ I1 z F) λ_ s2 q=>q
def D4{i:Nat}{x:AT}{e:Expr}{te:TE}{pos':Ij}(hN:X.N.Nodup)(hi:X.N[i]?=Y x)(U:P1 X.env.scope x)(he:PE X e te)(hs: ~~~(Ol e (Y<|.Name x pos') pos.line X.env=Ic false))(hf:X.fn x=Z\/X.env.scope.names.lookup x=Y .local:=by first|show .inl rfl|show .inr rfl|assumption):
  PS X (.Assign [.Name x pos'] e pos) (C1 te<|uL i):=by intro 0 D I h;show wpAny_Assign_Name (DQ (he pZ s σ H _ I h) λv s1 j=>?_) hs;let(y,H1,I1,z,F):=j;show Mr I1 hN hi U z (λs2 I2=>{(_),H1,I2,F}) hf
inductive Y6(i:Nat)(j:Nat)(D:TX)(σ:St)(vs:List V)(H1:Hp):Prop|mk (v w:_) (_:vs=[v,w]) (_:D.nx ((σ.set i<|some v).set j<|some w) H1)
def y4(i j:Nat)(ta:TA):TS:=λD σ H=>ta σ H λvs H1=>Y6 i j D σ vs H1
def D6{i j:Nat}{x y:AT}{a b:Expr}{ta:TA}{px py pt:Ij}{kt k2 z}(hc:X.calm=Z)(hN:X.N.Nodup)(hi:X.N[i]?=Y x)(hj:X.N[j]?=Y y)(a6:i≠j)(hx:X.env.scope.names.lookup x=Y .local)(hy:X.env.scope.names.lookup y=Y .local)(ha:PA X [a,b] ta)(hw:swappedStores [.Tuple [.Name x px,.Name y py] kt pt] (.Tuple [a,b] k2 z) X.env=Ic (Y [x,y]))(hs: ~~~(swapsWithSole [.Tuple [.Name x px,.Name y py] kt pt] (.Tuple [a,b] k2 z) pos.line X.env=Ic false)):
  PS X (.Assign [.Tuple [.Name x px,.Name y py] kt pt] (.Tuple [a,b] k2 z) pos) (y4 i j ta):=by
 intro 0 D I h;rw[exec_Assign_arm];show AG<|GG ?_;rw[hs];show AG<|Bm ?_;rw[A1N Aa];show AG<|Tuple_ (DQ (ha _ pZ s σ H _ I h) λus s1 a1=>?_);let(vs,H1,I1,r1,q1):=a1;let(v,w,e1,q1):=q1;subst e1;obtain⟨U,F,rfl,rv,a2⟩:∃U F,us=[U,F]/\CK v U/\CK w F:=by
  cases r1 with
  |cons p q=>
   cases q with
   |cons p' q'=>
    cases q';show{(_),_,O,p,p'}
 show La ?_ (by change 2<=sizeLine;decide);let I2:Ch X pZ σ H1 {s1 with heap:=s1.heap.push {cls:=.type "tuple",data:=.seq [U,F].toArray}}:=I1.kept (t':=s1.toks) λb o e=>AF _ e;rw[hw];show AG<|Bm ?_;change By (model X.prog X.w) X.A (do rule "assign.swapped-stores";let items <-unpackItems (.ref ↑s1) 2 S;QY [λv=>bindName X.env y v,λv=>bindName X.env x v] items.reverse;Ic Flow.next) _ _ _;show AG<|wpAny_rule (AG<|unpackItems_tuple (items:=#[U,F]) (I.ok.hd hc) (IsTup.new s1.heap _) λh' a5=>?_);change By _ _ (QY [λv=>bindName X.env y v,λv=>bindName X.env x v] [F,U] >>= λ_=>Ic Flow.next) _ _ _;show AG<|assignInOrder_cons (wpAny_bindName<|Mr (I2.kept (h':=h') (t':=s1.toks) λb o e=>a5 b o (BD<|Be e) e) hN hj (.inl hy) a2 (λs2 I4=>?_) (.inr hy));show assignInOrder_cons<|wpAny_bindName (Mr I4 hN hi (.inl hx) rv (λs3 I5=>assignInOrder_nil<|Bm ?_)<|.inr hx);rw[List.set_comm _ _ (CL a6)]at I5;show{(_),H1,I5,q1}
end
section
variable{X:Cx}{pos:Ij}
end
structure It where
 go:Nat->Hp->Prop
 yld:Nat->Hp->V->Hp->Prop
 stop:Nat->Hp->Prop
 sok:Bool
def Va(X:Cx)(pZ:List (AH×Obj))(H:Hp)(b:AH):Prop:=H b=S/\b≠X.env.locals/\b∉X.fs/\(b∈X.ex\/X.s_.heap.objs.size<=b)/\(∀x c,X.env.cells.lookup x=Y c->c≠b)/\∀p∈X.pn++pZ,p.1≠b
def Ch.fpOk{X:Cx}{pZ:List (AH×Obj)}{σ:St}{H H':Hp}{s:AK}{b:AH}(I:Ch X pZ σ H s)(j:↑s<=b)(hn:H' b=S):Va X pZ H' b:=by
 show{hn,Mf<|BK I.lt j,I.nofs j,.inr<|AU I.sz j,λx c e z=>?_,λp D z=>?_};·let(v,q):=I.cell x c e;show A1Q (BK q.lt<|by rw[z];show j)<|EQ _
 show A1Q (BK (Be (I.pin p D).1)<|by rw[z];show j)<|EQ _
structure pT(P:Bn)(w:BP)(K:AB)(tg:Expr)(J:It)(fp:List AH)(it:AH)(tn:Nat->CB->Prop):Prop where
 mem:it∈fp
 obj:∀i h,tn i h->∀b∈fp,∃o,h.get? b=Y o/\∀v,o.data≠ .cell v
 keep:∀i h h',tn i h->(∀b∈fp,∀o,h.get? b=Y o->h'.get? b=Y o)->tn i h'
 item:∀(X:Cx),X.prog=P->X.w=w->X.K=K->(X.calm=Z\/J.sok=Z/\X.suit=Z)->∀(i:Nat) (pZ:List (AH×Obj)) (s:AK) (σ:St) (H:Hp) (E:AC->AK->Prop),Ch X pZ σ H s->(∀b∈fp,Va X pZ H b)->tn i s.heap->J.go i H->By (model P w) X.A (pyNext<|.ref it) (λr s1=>∃u,r=Y u/\By (model P w) X.A (NA tg (.ref it) u) (λ_ s2=>∃x H',Ch X pZ σ H' s2/\CK x u/\J.yld i H x H'/\tn (i+1) s2.heap/\∀b∈fp,H' b=S) E s1) E s
 done:∀(X:Cx),X.prog=P->X.w=w->X.K=K->(X.calm=Z\/J.sok=Z/\X.suit=Z)->∀(i:Nat) (pZ:List (AH×Obj)) (s:AK) (σ:St) (H:Hp) (E:AC->AK->Prop),Ch X pZ σ H s->(∀b∈fp,Va X pZ H b)->tn i s.heap->J.stop i H->By (model P w) X.A (pyNext<|.ref it) (λr s1=>r=S/\Ch X pZ σ H s1) E s
 self:∀(A:CA) (i:Nat) (s:AK) (Q:AC->AK->Prop) (E:AC->AK->Prop),tn i s.heap->Q (.ref it) s->By (model P w) A (pyIter<|.ref it) Q E s
abbrev TI:=St->Hp->(It->Hp->Prop)->Prop
def zW(X:Cx)(pZ:List (AH×Obj))(σ:St)(tg:Expr)(R:It->Hp->Prop)(j:AC)(s2:AK):Prop:=∃(it:AH) (fp:List AH) (tn:Nat->CB->Prop) (J:It) (H':Hp),j= .ref it/\Ch X pZ σ H' s2/\pT X.prog X.w X.K tg J fp it tn/\tn 0 s2.heap/\(∀b∈fp,Va X pZ H' b)/\R J H'
def PI(X:Cx)(tg iter:Expr)(wi:TI):Prop:=∀(pZ:List (AH×Obj)) (s:AK) (σ:St) (H:Hp) (R:It->Hp->Prop),Ch X pZ σ H s->wi σ H R->By (model X.prog X.w) X.A (Dw iter X.env) (λv s1=>By (model X.prog X.w) X.A (pyIter v) (zW X pZ σ tg R) X.xe s1) X.xe s
def lW{M:Model}{A:CA}{E:AC->AK->Prop}{s:AK}{tg:Expr}{it:AH}{u:AC}{o:Obj}{n:String}{vs:Array AC}{Q:Unit->AK->Prop}(z:s.heap.get? it=Y o)(hc:o.cls= .type n)(hd:o.data= .fields vs)(hn: ["enumerate","zip","dict_itemiterator","dict_reverseitemiterator","odict_iterator","itertools.zip_longest","itertools.pairwise"].contains n=ge)(j:Q Unit.unit s):By M A (NA tg (.ref it) u) Q E s:=by
 unfold NA;cases tg <;> first
  |show Bm j
  |(cases u <;> first
    |show Bm j
    |(show AG<|wpAny_load z ?_
      rw[hc,hd];change By M A (if (["enumerate","zip","dict_itemiterator","dict_reverseitemiterator","odict_iterator","itertools.zip_longest","itertools.pairwise"].contains n&&vs[0]?==Y (Nz _))=Z then _ else _) Q E s
      rw[A1N (by intro h;rw[hn,BR]at h;cases h)];show Bm j))
section
variable{prog:Bn}{w:BP}{A:CA}{E:AC->AK->Prop}{s:AK}
def Zw:entryFor table "proto.unchain"=Y Builtin.«proto.unchain»:=entryFor_of_tree (by kernel_rfl)
def jd{j:Type}{e x:AH}{D oe:Obj}{xs es:Array AC}{Q:j->AK->Prop}(hA:A.handled=Y (.ref x))(U:s.heap.get? x=Y D)(dx:D.data= .fields xs)(F:xs[2]?=Y .none)(ne:x≠e)(he:s.heap.get? e=Y oe)(de:oe.data= .fields es)(z:2<es.size)(k:E (.ref e) {s with heap:=s.heap.update e (JF (·.setIfInBounds 2 (.ref x)))}):By (model prog w) A (raiseNew (.ref e):Sem j) Q E s:=by
 unfold raiseNew;show AG<|wpAny_handled ?_;rw[hA]
 dsimp only
 rw[A1O (show(Value.ref x != Value.ref e)=Z from by simp[ne])];show AG<|Cw (wpAny_runValue<|UD Zw ?_);unfold Builtin.«proto.unchain»
 dsimp only
 show AG<|II U dx F ?_;rw[A1O Aa];show Bm ?_;change By _ _ (setField (.ref e) 2 (.ref x) >>= λ_=>throw<|Value.ref e) _ _ _;show AG<|KY he de z (wpAny_throw k)
def rH{D:Type}{x it:AH}{j:Obj}{xs:Array AC}{z:CB}{Q:Option AC->AK->Prop}{R:D->AK->Prop}(hA:A.handled=Y (.ref x))(U:s.heap.get? x=Y j)(dx:j.data= .fields xs)(x2:xs[2]?=Y .none)(kp:∀b o,b≠it->s.heap.get? b=Y o->z.get? b=Y o)(ne:x≠it)(k:∀h',Yp it s.heap h'->Q S {s with heap:=h'}):
  By (model prog w) A.in1 (newExc (.type "StopIteration") [] >>= λe=>(raiseNew e:Sem D)) R (λe s'=>By (model prog w) A (do if <-Pj e (.type "StopIteration")then Ic S else throw e) Q E s') {s with heap:=z}:=by
 show AG ?_;simp only[newExc,newTuple];show AG (La ?_<|by size_fits);show AG (m:=firstArgMember _ _) (wpAny_of_eq (a:=Eg) (by simp only[firstArgMember];rfl) ?_);show La ?_ (by size_fits)
 dsimp only
 let hz: (z.push {cls:=.type "tuple",data:=.seq ([]:List AC).toArray}).objs.size≠x:=Mf<|Be (AF _<|kp x j ne U);show jd (x:=x) hA (AF _<|AF _ (kp x j ne U)) dx x2 (CL hz) (Bu _ O) O (by change 2<6;decide) ?_;show AG<|wpAny_isInstance (T:="StopIteration") (b:=Z) ⟨_,FY _ (Bu _ O) O,O⟩ isSubtype_stop ?_;show Bm<|k _ λb o hb q=>?_;let F:=AF {cls:=.type "tuple",data:=.seq ([]:List AC).toArray}<|kp b o hb q
 dsimp only
 rw[CO _ _ (Mf<|Be F)];show AF _ F
def Xc{x it l:AH}{i:Nat}{items:Array AC}{F:Obj}{xs:Array AC}{Q:Option AC->AK->Prop}(hA:A.handled=Y (.ref x))(hx:s.heap.get? x=Y F)(dx:F.data= .fields xs)(U:xs[2]?=Y .none)(hit:s.heap.IsListIter it l i)(hl:s.heap.IsList l items)(hi:items[i]?=S)(ne:x≠it)(k:∀h',Yp it s.heap h'->Q S {s with heap:=h'}):By (model prog w) A (pyNext<|.ref it) Q E s:=by let(oi,j,_,D):=id hit;let(ol,el,_,nl,dl):=hl;unfold pyNext;show AG<|bg (wpAny_callSpecial?_slot (name:="__next__") hit.typeIs slot_listiter_next<|wpAny_call_entry slot_listiter_next hit.typeIs entry_listiter_next ?_ (args_listiter_next _));show AG (m:=field (.ref it) 0)<|II j D (x:=.ref l) O ?_;rw[A1N (by intro z;cases z)];show AG (m:=field (.ref it) 1)<|II j D (x:=.int i 0) O ?_;show AG (m:=seqItems?<|.ref l)<|wpAny_seqItems el dl ?_;simp only[EZ,hi];show AG (wpAny_rule<|AG (KY j D (by simp) ?_));show rH hA hx dx U (λb o hb q=>(CO _ _<|CL hb).trans q) ne k
def Zp{x it t:AH}{i:Nat}{items:Array AC}{F:Obj}{xs:Array AC}{Q:Option AC->AK->Prop}(hA:A.handled=Y (.ref x))(hx:s.heap.get? x=Y F)(dx:F.data= .fields xs)(U:xs[2]?=Y .none)(hit:IsTupIter s.heap it t i)(ht:IsTup s.heap t items)(hi:items[i]?=S)(ne:x≠it)(k:∀h',Yp it s.heap h'->Q S {s with heap:=h'}):By (model prog w) A (pyNext<|.ref it) Q E s:=by let(oi,j,_,D):=id hit;let(ol,el,_,nl,dl):=ht;unfold pyNext;show AG<|bg (wpAny_callSpecial?_slot (name:="__next__") hit.typeIs slot_tupleiter_next<|wpAny_call_entry slot_tupleiter_next hit.typeIs entry_tupleiter_next ?_ (args_tupleiter_next _));show AG (m:=field (.ref it) 0)<|II j D (x:=.ref t) O ?_;rw[A1N (by intro z;cases z)];show AG (m:=field (.ref it) 1)<|II j D (x:=.int i 0) O ?_;show AG (m:=seqItems?<|.ref t)<|wpAny_seqItems el dl ?_;simp only[EZ,hi];show AG (wpAny_rule<|AG (KY j D (by simp) ?_));show rH hA hx dx U (λb o hb q=>(CO _ _<|CL hb).trans q) ne k
def gW{env:bo}{j:List Expr}{x1}{pos:Ij}{x t:AH}{items:Array AC}{ox:Obj}{xs:Array AC}{Q:Unit->AK->Prop}(hA:A.handled=Y (.ref x))(hx:s.heap.get? x=Y ox)(dx:ox.data= .fields xs)(x2:xs[2]?=Y .none)(U:IsTup s.heap t items)(hn: (EW j env).length=items.size)(F: (EW j env).findIdx? (·.1)=S)(k:∀h',Yp ↑s s.heap h'->By (model prog w) A (QY ((EW j env).map (·.2)) items.toList) Q E {s with heap:=h'}):
  By (model prog w) A (assign (.Tuple j x1 pos) env<|.ref t) Q E s:=by
 let a1:t≠↑s:=by let(o,e,_):=U;show BD<|Be e
 let z:x≠↑s:=BD<|Be hx;rw[assign_Tuple];show AG<|GG ?_;unfold unpack;rw[hn,F];show AG<|Cw ?_;unfold unpackItems notIterableAtAll;show AG<|AG (wpAny_specialOf U.typeIs slot_tuple_iter.lookup<|Bm ?_);simp only[Vf,if_false];show AG<|Cw (iter_tuple U ?_);show AG (Cw<|draw_tuple a1 items.size 0 _ _ {_,Bu _ O,O,O} (U.push _) () λh1 a2 D=>?_);let all:List.take items.size (List.drop 0 items.toList)=items.toList:=by rw[List.drop_zero];show Eo (by simp)
 rw[all,A1N (by simp)];let a3:IsTup h1 t items:=(U.push _).extBut D.extBut a1;show AG (Cw<|Zp hA ((D.2 x z).trans<|AF _ hx) dx x2 a2 a3 (by simp) z λh2 a4=>?_);simp only[Option.isSome_none,Vf,if_false];show Bm<|k h2 λb o hb e=>a4 b o hb<|D.extBut b o hb (AF _ e)
end
def P2(K:AB)(a:AH):It:={λi H=>∃xs x,Cg K H a xs/\xs[i]?=Y x,λi H x H'=>H'=H/\∀xs,Cg K H a xs->xs[i]?=Y x,λi H=>∃xs,Cg K H a xs/\xs.length<=i,Z}
def Itt(K:AB)(a:AH):It:={λi H=>∃xs x,Ec K H a xs/\xs[i]?=Y x,λi H x H'=>H'=H/\∀xs,Ec K H a xs->xs[i]?=Y x,λi H=>∃xs,Ec K H a xs/\xs.length<=i,ge}
def N6(lo:Int)(n:Nat):It:={λi _=>i<n,λi H x H'=>H'=H/\x= .int (lo+i),λi _=>n<=i,ge}
def mZ{P:Bn}{w:BP}{K:AB}{tg:Expr}(a it:AH):pT P w K tg (P2 K a) [it] it (λi h=>h.IsListIter it a i) where
 mem:=by simp
 obj:=λi h st b j=>by
  let e:b=it:=by simpa using j
  subst e;let(o,e,c,d):=st;show{o,e,λv z=>by rw[d]at z;cases z}
 keep:=λi h h' st k=>st.at λo e=>k it (by simp) o e
 item:=by intro X hP hw hK hc i pZ s σ H E I hf st hg;subst hP hw hK;let(xs,x,U,hx):=hg;let(a3,rv,p,hz):=I.list U;let(u,hu,ru):=rv.get hx;let(f0,f1,f2,f3,f4,f5):=hf it (by simp);show wpAny_pyNext_list_item st p.isList (x:=u) (by simpa using hu) λh' F sb=>?_;let I1:Ch X pZ σ H {s with heap:=h'}:=I.turned (t':=s.toks) (λb o j e=>(sb.2 b j).trans e) f0 f1 f3 f4 f5;let(o,e,c,d):=id F;show{u,O,lW (s:={s with heap:=h'}) e c d Aa {x,H,I1,ru,{O,λys hy=>by rw[I.list_inj hy U];show hx},F,λb j=>(hf b j).1}}
 done:=by
  intro X hP hw hK hc i pZ s σ H E I hf st hg;subst hP hw hK;let(xs,U,hx):=hg;let(a3,rv,p,hz):=I.list U;let(f0,f1,f2,f3,f4,f5):=hf it (by simp);let hl:=rv.length;rcases hc with hc|⟨_,hc⟩
  rotate_left;·let(e,cls,dx,a0,tb,hA,hE):=I.ok.hs hc;let D:=I.base.frzs e _ _ hE;let(he,_):=I.hok e _ D;show Xc hA he O O st p.isList (by simp;lia) (λz=>by rw[z,f0]at D;cases D) λh' eb=>{O,I.turned (t':=s.toks) (λb o j e=>eb b o j e) f0 f1 f3 f4 f5}
  show wpAny_pyNext_list_end (I.ok.hd hc) st p.isList (by simp;lia) λh' eb=>{O,I.turned (t':=s.toks) (λb o j e=>eb b o j e) f0 f1 f3 f4 f5}
 self:=λ_ _ _ _ _ st h=>wpAny_pyIter_listiter st h
def iy{P:Bn}{w:BP}{K:AB}{tg:Expr}(a it:AH):pT P w K tg (Itt K a) [it] it (λi h=>h.IsTupleIter it a i) where
 mem:=by simp
 obj:=λi h st b D=>by
  let e:b=it:=by simpa using D
  subst e;let(o,e,c,d):=st;show{o,e,λv z=>by rw[d]at z;cases z}
 keep:=λi h h' st k=>st.at λo e=>k it (by simp) o e
 item:=by intro X hP hw hK hc i pZ s σ H E I hf st hg;subst hP hw hK;let(xs,x,U,hx):=hg;let(j,rv,p,hz):=I.tuple U;let(u,hu,ru):=rv.get hx;let(f0,f1,f2,f3,f4,f5):=hf it (by simp);show wpAny_pyNext_tuple_item st (show s.heap.IsTuple a j.toArray from p) (x:=u) (by simpa using hu) λh' F sb=>?_;let I1:Ch X pZ σ H {s with heap:=h'}:=I.turned (t':=s.toks) (λb o D e=>(sb.2 b D).trans e) f0 f1 f3 f4 f5;let(o,e,c,d):=id F;show{u,O,lW (s:={s with heap:=h'}) e c d Aa {x,H,I1,ru,{O,λys hy=>by rw[I.tuple_inj hy U];show hx},F,λb D=>(hf b D).1}}
 done:=by intro X hP hw hK hc i pZ s σ H E I hf st hg;subst hP hw hK;let(xs,U,hx):=hg;let(j,rv,p,hz):=I.tuple U;let(f0,f1,f2,f3,f4,f5):=hf it (by simp);let hl:=rv.length;show wpAny_pyNext_tuple_end (I.ok.hd<|hc.resolve_right λz=>BU<|show ge=Z from z.1) st (show s.heap.IsTuple a j.toArray from p) (by simp;lia) λh' eb=>{O,I.turned (t':=s.toks) (λb o D e=>eb b o D e) f0 f1 f3 f4 f5}
 self:=λ_ _ _ _ _ st h=>wpAny_pyIter_tupleiter st h
def iz{P:Bn}{w:BP}{K:AB}{tg:Expr}(it:AH)(lo:Int)(n:Nat):pT P w K tg (N6 lo n) [it] it (λi h=>IsRangeIter h it (lo+ (i:Nat) *1) ((n:Int) - (i:Nat)) 1) where
 mem:=by simp
 obj:=λi h st b j=>by
  let e:b=it:=by simpa using j
  subst e;show⟨_,st,λv z=>by
   let z':Data.fields _=Data.cell v:=z;cases z'⟩
 keep:=λi h h' st k=>k it (by simp) _ st
 item:=by intro X U hw hK hc i pZ s σ H E I hf st F;subst U hw hK;let(f0,f1,f2,f3,f4,f5):=hf it (by simp);let hc:=hc.resolve_right λz=>BU<|show ge=Z from z.1;show(Walks.range (prog:=X.prog) (w:=X.w) (I.ok.hd hc) it lo 1 n).item i s _ _ F st λv h' tk hv D kk=>?_;let(t,O):=hv;let I1:Ch X pZ σ H {s with heap:=h',toks:=tk}:=I.turned (λb o j e=>kk b o (by simpa using j) e) f0 f1 f3 f4 f5;show{_,O,lW (s:={s with heap:=h',toks:=tk}) (n:="range_iterator") D O O Aa {.int<|lo+i,H,I1,{t,?_},{(O),O},D,λb j=>(hf b j).1}};rw[Int.mul_one]
 done:=by intro X U hw hK hc i pZ s σ H E I hf st F;subst U hw hK;let(f0,f1,f2,f3,f4,f5):=hf it (by simp);let hc:=hc.resolve_right λz=>BU<|show ge=Z from z.1;show wpAny_pyNext_range_end (I.ok.hd hc) st (by have:n<=i:=F;lia) λh' eb=>{O,I.turned (t':=s.toks) (λb o j e=>eb b o j e) f0 f1 f3 f4 f5}
 self:=λ_ _ _ _ _ st h=>wpAny_pyIter_rangeiter st h
section
variable{X:Cx}{tg:Expr}
inductive N3(K:AB)(R:It->Hp->Prop)(x:V)(H1:Hp):Prop|mk (a:_) (_:x= .ref a) (_: (∃xs,Cg K H1 a xs)) (_:R (P2 K a) H1)
def zO(K:AB)(tl:TE):TI:=λσ H R=>tl σ H λx H1=>N3 K R x H1
inductive Z9(K:AB)(R:It->Hp->Prop)(x:V)(H1:Hp):Prop|mk (a:_) (_:x= .ref a) (_: (∃xs,Ec K H1 a xs)) (_:R (Itt K a) H1)
def A0r(K:AB)(tl:TE):TI:=λσ H R=>tl σ H λx H1=>Z9 K R x H1
def DS{l:Expr}{tl:TE}(hl:PE X l tl):PI X tg l (zO X.K tl):=by
 intro 0 R I h;show DQ (hl pZ s σ H _ I h) λv s1 j=>?_;let(x,H1,z,D,F):=j;let(a,e,(xs,hq),q):=F;subst e;cases D;let(U,rv,p,hz):=z.list hq;show KZ p.isList ?_;show{↑s1,[↑s1],_,_,H1,O,z.kept (t':=s1.toks) λb o e=>AF _ e,mZ a _,{_,Bu _ O,O,O},λb hb=>?_,q};let e:b=↑s1:=by simpa using hb
 subst e;show z.fpOk (Bh _)<|z.hok.fresh (Bh _)
def jf{l:Expr}{tl:TE}(hl:PE X l tl):PI X tg l (A0r X.K tl):=by
 intro 0 R I h;show DQ (hl pZ s σ H _ I h) λv s1 j=>?_;let(x,H1,z,F,U):=j;let(a,e,(xs,hq),q):=U;subst e;cases F;let(D,rv,p,hz):=z.tuple hq;show wpAny_pyIter_tuple (show s1.heap.IsTuple a D.toArray from p) ?_;show{↑s1,[↑s1],_,_,H1,O,z.kept (t':=s1.toks) λb o e=>AF _ e,iy a _,{_,Bu _ O,O,O},λb hb=>?_,q};let e:b=↑s1:=by simpa using hb
 subst e;show z.fpOk (Bh _)<|z.hok.fresh (Bh _)
def sW{pZ:List (AH×Obj)}{σ:St}{H:Hp}{s:AK}{R:It->Hp->Prop}{E:AC->AK->Prop}{lo hi:Int}{t u v:Tok}{tk:Nat}(I:Ch X pZ σ H s)(h1: -(2 ^ 62)<=lo)(h2:lo<2 ^ 62)(h3: -(2 ^ 62)<=hi)(D:hi<2 ^ 62)(q:R (N6 lo (hi - lo).toNat) H):By (model X.prog X.w) X.A (pyIter<|.ref ↑s) (zW X pZ σ tg R) E {s with heap:=s.heap.push {cls:=.type "range",data:=.fields #[.int lo t,.int hi u,.int 1 v]},toks:=tk}:=by
 show wpAny_pyIter_range (IsRange.new ..) (small_one h1 h2 h3 D) ?_;let j:Ch X pZ σ H {s with heap:=s.heap.push {cls:=.type "range",data:=.fields #[.int lo t,.int hi u,.int 1 v]},toks:=tk}:=I.kept λb o e=>AF _ e;show{(s.heap.push {cls:=.type "range",data:=.fields #[.int lo t,.int hi u,.int 1 v]}).objs.size,[(s.heap.push {cls:=.type "range",data:=.fields #[.int lo t,.int hi u,.int 1 v]}).objs.size],_,_,H,O,j.kept (t':=tk) λb o e=>AF _ e,iz _ lo (hi - lo).toNat,?_,λb z=>?_,q}
 ·let U:lo+ ((0:Nat):Int) *1=lo:=by simp
  let F: (((hi - lo).toNat:Nat):Int) - ((0:Nat):Int)=Builtin.Range.rangeSize lo hi 1:=by rw[rangeSize_one];split <;> lia
  change IsRangeIter _ _ (lo+ ((0:Nat):Int) *1) ((((hi - lo).toNat:Nat):Int) - ((0:Nat):Int)) 1;rw[U,F];show Bu _ O
 let e:b=(s.heap.push {cls:=.type "range",data:=.fields #[.int lo t,.int hi u,.int 1 v]}).objs.size:=by simpa using z
 subst e;show j.fpOk (Bh _)<|j.hok.fresh (Bh _)
inductive N2(R:It->Hp->Prop)(vs:List V)(H1:Hp):Prop|mk (j:Int) (_:vs=[.int j]) (_: -(2 ^ 62)<=j) (_:j<2 ^ 62) (_:R (N6 0 j.toNat) H1)
def V6(ta:TA):TI:=λσ H R=>ta σ H λvs H1=>N2 R vs H1
def HY{a:Expr}{ta:TA}{p pos:Ij}(hg:Gl X "range")(hm:X.mg "range"=S)(ha:PA X [a] ta)(hs: ~~~(Bs [a] X.env=[(ge,Dw a X.env)])):PI X tg (.Call (.Name "range" p) [a] [] pos) (V6 ta):=by
 intro 0 R I h;show Call_<|OX I hg hm boot_range (Hw (DQ (ha pos pZ s σ H _ I h) λus s1 z=>?_) hs O);let(vs,H1,I1,F,D):=z;let(j,e,D,U,q):=D;subst e;cases F with
 |cons r rr=>
  cases rr;let(t,O):=r;show call_range_1 (sW I1 () () D U<|by simpa using q)
def y9(wi:TI)(g:TG)(tb:TS):TS:=λD σ H=>wi σ H λJ H1=>∃W:Nat->Nat->St->Hp->Prop,(∃m,W 0 m σ H1)/\∀i m σ H,W i m σ H->(J.stop i H/\D.nx σ H)\/(J.go i H/\∃N:St->Hp->Prop,(∀σ' H',N σ' H'->∃z,z<m/\W (i+1) z σ' H')/\∀x H',J.yld i H x H'->g x σ H' λj H2=>tb {D with nx:=N,ct:=N,bk:=D.nx} j H2)
def Tk(fp:List AH)(h:CB):List (AH×Obj):=fp.filterMap λb=>(h.get? b).map λo=>(b,o)
def Nr{fp:List AH}{h:CB}{b:AH}{o:Obj}(j:b∈fp)(e:h.get? b=Y o): (b,o)∈Tk fp h:=MP.mpr {b,j,by rw[e];rfl}
def oJ{fp:List AH}{h:CB}{p:AH×Obj}(j:p∈Tk fp h):p.1∈fp/\h.get? p.1=Y p.2:=by
 let(b,z,e):=MP.mp j;cases q:h.get? b with
 |none=>rw[q]at e;cases e
 |some o=>
  rw[q]at e;let D: (b,o)=p:=AE e;subst D;show{(z),q}
def Ch.pinned{pZ:List (AH×Obj)}{σ:St}{H:Hp}{s:AK}{fp:List AH}(I:Ch X pZ σ H s)(hf:∀b∈fp,Va X pZ H b)(U:∀b∈fp,∃o,s.heap.get? b=Y o/\∀v,o.data≠ .cell v):Ch X (pZ++Tk fp s.heap) σ H s:=I.pins_of λp F=>(BE.mp F).elim (λz=>I.pin p<|Cj _ z) λz=>by
  let(j,e):=oJ z;let(f0,f1,f2,_):=hf p.1 j;let(o,D,d):=U p.1 j;rw[e]at D;cases D;show{(e),f0,f1,f2,d}
def Ch.unpinned{pZ pl:List (AH×Obj)}{σ:St}{H:Hp}{s:AK}(I:Ch X (pZ++pl) σ H s):Ch X pZ σ H s:=I.pins_of λp j=>I.pin p<|Cj _ (CC _ j)
def HM{iter:Expr}{body:List Ih}{wi:TI}{g:TG}{tb:TS}{pos:Ij}(hp:PassesOwn (model X.prog X.w) X.A X.env X.xe)(hc:X.calm=Z)(hi:PI X tg iter wi)(hg:PG X tg g)(U:SS X body tb)(hs:∀x,Lc iter X.env x=Ic x:=by intro _;rfl):PS X (.For tg iter body [] pos) (y9 wi g tb):=by
 intro 0 D I h;show wpAny_For (DQ (hi pZ s σ H _ I h) λv s1 h1=>DQ h1 λe2 s2 h2=>?_) hs;let(it,fp,tn,J,H2,e,I2,T,b9,f2,W,(m0,w0),a6):=h2;subst e;let F:∀{H':Hp},(∀b∈fp,H' b=S)->∀b∈fp,Va X pZ H' b:=λhn b U=>{hn b U,(f2 b U).2};show codeAny_forLoop_any (λn s'=>∃i σ' H',Ch X pZ σ' H' s'/\tn i s'.heap/\(∀b∈fp,H' b=S)/\W i n σ' H') ?_ m0 {0,σ,H2,I2,b9,λb U=>(f2 b U).1,w0};rintro n s3 ⟨i,z,H3,I3,a7,b5,w3⟩;rcases a6 i n z H3 w3 with⟨stop,qn⟩|⟨go,N,hN,step⟩;·show Ny hp<|DQ (T.done X O O O (.inl hc) i pZ s3 z H3 X.xe I3 (F b5) a7 stop) λr s4 b4=>?_;let(hr,I4):=b4;subst hr;show HD {(z),H3,I4,qn}
 show Ny hp<|DQ (T.item X O O O (.inl hc) i pZ s3 z H3 X.xe I3 (F b5) a7 go) λr s4 b3=>?_;let(u,hr,h4):=b3;subst hr;show Ny hp<|DQ h4 λ_ s5 b2=>?_;let(x,H5,I5,r5,y5,a5,c2):=b2;show Ny hp<|DQ (hg _ s5 z H5 x u _ (I5.pinned (F c2)<|T.obj _ _ a5) r5<|step x H5 y5) λ_ s6 b1=>?_;let(b6,H6,I6,q6):=b1;show Ny hp<|DQ (U _ s6 b6 H6 _ I6 q6) λf s7 q7=>?_;let again:∀{j:St} {H7:Hp},Ch X (pZ++Tk fp s5.heap) j H7 s7->N j H7->∃m,m<n/\∃i σ' H',Ch X pZ σ' H' s7/\tn i s7.heap/\(∀b∈fp,H' b=S)/\W i m σ' H':=λ{j H7} I7 n7=>by
  let(m',hm,w7):=hN j H7 n7;show{m',hm,i+1,j,H7,I7.unpinned,T.keep _ _ _ a5 λb U o e=>(I7.pin (b,o)<|Cj _ (Cj _<|Nr U e)).1,λb U=>?_,w7};let(o,e,d):=T.obj _ _ a5 b U;show(I7.pin (b,o)<|Cj _ (Cj _<|Nr U e)).2.1
 cases f with|next=>let(j,H7,I7,n7):=q7;show again I7 n7|cont=>let(j,H7,I7,n7):=q7;show again I7 n7|brk=>let(j,H7,I7,q7):=q7;show{(j),H7,I7.unpinned,q7}|ret v=>let(x7,j,H7,I7,r7,q7):=q7;show{(x7),j,H7,I7.unpinned,r7,q7}
end
def ME{K:AB}{a:AH}{xs:List V}{g:TG}{tb:TS}{D:TX}{σ:St}{H:Hp}(Pv:Nat->St->Hp->Prop)(h0:Pv 0 σ H)(hl:∀i σ H,i<=xs.length->Pv i σ H->Cg K H a xs)(hs:∀i x σ H,xs[i]?=Y x->Pv i σ H->g x σ H λj H2=>tb {D with nx:=Pv<|i+1,ct:=Pv<|i+1,bk:=D.nx} j H2)(hd:∀σ H,Pv xs.length σ H->D.nx σ H):
  ∃W:Nat->Nat->St->Hp->Prop,(∃m,W 0 m σ H)/\∀i m σ H,W i m σ H->((P2 K a).stop i H/\D.nx σ H)\/((P2 K a).go i H/\∃N:St->Hp->Prop,(∀σ' H',N σ' H'->∃F,F<m/\W (i+1) F σ' H')/\∀x H',(P2 K a).yld i H x H'->g x σ H' λj H2=>tb {D with nx:=N,ct:=N,bk:=D.nx} j H2):=by
 show{λi m σ H=>m=xs.length - i/\i<=xs.length/\Pv i σ H,{xs.length,by simp,Cu _,h0},?_};rintro i m σ H ⟨rfl,hi,p⟩;let q:=hl i σ H hi p;by_cases z:i<xs.length;·show .inr {{xs,xs[i],q,by simp[z]},Pv<|i+1,λσ' H' U=>{xs.length - (i+1),(),O,z,U},λx H' y=>?_};let(e,y):=y;subst e;show hs i x σ _ (y xs q) p
 let e:i=xs.length:=()
 subst e;show .inl {{xs,q,Bh _},hd σ H p}
def PM{lo:Int}{n:Nat}{g:TG}{tb:TS}{D:TX}{σ:St}{H:Hp}(Pv:Nat->St->Hp->Prop)(h0:Pv 0 σ H)(hs:∀i σ H,i<n->Pv i σ H->g (.int<|lo+i) σ H λj H2=>tb {D with nx:=Pv<|i+1,ct:=Pv<|i+1,bk:=D.nx} j H2)(hd:∀σ H,Pv n σ H->D.nx σ H):
  ∃W:Nat->Nat->St->Hp->Prop,(∃m,W 0 m σ H)/\∀i m σ H,W i m σ H->((N6 lo n).stop i H/\D.nx σ H)\/((N6 lo n).go i H/\∃N:St->Hp->Prop,(∀σ' H',N σ' H'->∃F,F<m/\W (i+1) F σ' H')/\∀x H',(N6 lo n).yld i H x H'->g x σ H' λj H2=>tb {D with nx:=N,ct:=N,bk:=D.nx} j H2):=by
 show{λi m σ H=>m=n - i/\i<=n/\Pv i σ H,{n,by simp,Cu _,h0},?_};rintro i m σ H ⟨rfl,hi,p⟩;by_cases z:i<n;·show .inr {z,Pv<|i+1,λσ' H' U=>{n - (i+1),(),O,z,U},λx H' y=>?_};let(e,y):=y;subst e y;show hs i σ _ z p
 let e:i=n:=()
 subst e;show .inl {Bh _,hd σ H p}
abbrev R2:=V->V->Hp->VK->Prop
def MR(X:Cx)(f:AC->AC->Sem AC)(r:R2):Prop:=∀(pZ:List (AH×Obj)) (s:AK) (σ:St) (H:Hp) (x y:V) (v u:AC) (Q:VK),Ch X pZ σ H s->CK x v->CK y u->r x y H Q->By (model X.prog X.w) X.A (f v u) (EP X pZ σ Q) X.xe s
def UnR(X:Cx)(f:AC->Sem AC)(r:V->Hp->VK->Prop):Prop:=∀(pZ:List (AH×Obj)) (s:AK) (σ:St) (H:Hp) (x:V) (v:AC) (Q:VK),Ch X pZ σ H s->CK x v->r x H Q->By (model X.prog X.w) X.A (f v) (EP X pZ σ Q) X.xe s
def Gf(X:Cx)(f:AC)(r:List V->Hp->VK->Prop):Prop:=∀(pZ:List (AH×Obj)) (s:AK) (σ:St) (H:Hp) (xs:List V) (us:List AC) (Q:VK),Ch X pZ σ H s->Co xs us->r xs H Q->By (model X.prog X.w) X.A (call f us) (EP X pZ σ Q) X.xe s
def B5(r:R2)(ta tb:TE):TE:=λσ H Q=>ta σ H λx H1=>tb σ H1 λy H2=>r x y H2 Q
def tUn(r:V->Hp->VK->Prop)(ta:TE):TE:=λσ H Q=>ta σ H λx H1=>r x H1 Q
def JrI(C:Int->Int->Prop)(g:Int->Int->V)(x:V)(y:V)(H:Hp)(Q:VK):Prop:=match x,y with
 |.int i,.int j=>C i j/\Q (g i j) H|_,_=>False
def T2{C:Int->Int->Prop}{g:Int->Int->V}{x y:V}{H:Hp}{Q:VK}(h:JrI C g x y H Q):∃i j,x= .int i/\y= .int j/\C i j/\Q (g i j) H:=by
 unfold JrI at h;split at h;·show{(_),_,O,O,h.1,h.2}
 show h.elim
def rI(C:Int->Int->Prop)(g:Int->Int->V):R2:=λx y H Q=>JrI C g x y H Q
def N0(g:Int->Int->V)(x:V)(y:V)(H:Hp)(Q:VK):Prop:=match x,y with
 |.int i,.int j=>Q (g i j) H|_,_=>False
def sY{g:Int->Int->V}{x y:V}{H:Hp}{Q:VK}(h:N0 g x y H Q):∃i j,x= .int i/\y= .int j/\Q (g i j) H:=by
 unfold N0 at h;split at h;·show{(_),_,O,O,h}
 show h.elim
def D0(g:Int->Int->V):R2:=λx y H Q=>N0 g x y H Q
inductive JrU(g:Int->V)(x:V)(H:Hp)(Q:VK):Prop|mk (i:_) (_:x= .int i) (_:Q (g i) H)
def rU(g:Int->V):V->Hp->VK->Prop:=λx H Q=>JrU g x H Q
section
variable{X:Cx}{a b c:Expr}{ta tb tc:TE}{pos:Ij}
def L0(ha:PE X a ta)(hb:PE X b tb){pZ:List (AH×Obj)}{s:AK}{σ:St}{H:Hp}{R:V->V->Hp->Prop}(I:Ch X pZ σ H s)(h:ta σ H λx H1=>tb σ H1 λy H2=>R x y H2){Q:AC->AK->Prop}{f:AC->AC->Sem AC}(hf:∀v u s2 x y H2,Ch X pZ σ H2 s2->CK x v->CK y u->R x y H2->By (model X.prog X.w) X.A (f v u) Q X.xe s2):
  By (model X.prog X.w) X.A (Dw a X.env) (λv z=>By (model X.prog X.w) X.A (Dw b X.env) (λu j=>By (model X.prog X.w) X.A (f v u) Q X.xe j) X.xe z) X.xe s:=by show DQ (ha pZ s σ H _ I h) λv s1 F=>?_;let(x,H1,I1,r1,q1):=F;show DQ (hb pZ s1 σ H1 _ I1 q1) λu s2 D=>?_;let(y,H2,I2,U,q2):=D;show hf v u s2 x y H2 I2 r1 U q2
def Bt{op:Operator}{r:R2}(D:MR X (Pl op) r)(ha:PE X a ta)(F:PE X b tb):PE X (.BinOp a op b pos) (B5 r ta tb):=by intro 0 Q I h;show wpAny_BinOp<|L0 ha F I h λv u s2 x y H2 U z j q=>D pZ s2 σ H2 x y v u Q U z j q
def fL{op:UnaryOp}{r:V->Hp->VK->Prop}(F:UnR X (unaryOp op) r)(ha:PE X a ta):PE X (.UnaryOp op a pos) (tUn r ta):=by intro 0 Q I h;show UnaryOp_ (DQ (ha pZ s σ H _ I h) λv s1 j=>(by let(x,H1,U,z,D):=j;show F pZ s1 σ H1 x v Q U z D))
def o8{f:AC->AC->Sem AC}{C:Int->Int->Prop}{g:Int->Int->Int}(rule:∀(i j:Int) (t u:Tok) (s:AK) (Q:AC->AK->Prop) (E:AC->AK->Prop),C i j->Q (.int (g i j) s.toks) {s with toks:=s.toks+1}->By (model X.prog X.w) X.A (f (.int i t)<|.int j u) Q E s):
  MR X f (rI C λi j=>.int<|g i j):=by intro 0 x y v u Q I D z h;let(i,j,O,O,hc,q):=T2 h;let(t,O):=D;let(t',O):=z;show rule i j t t' s _ _ hc {.int<|g i j,H,I.tok _,{(_),O},q}
def T5{f:AC->AC->Sem AC}{g:Int->Int->Int}(rule:∀(i j:Int) (t u:Tok) (s:AK) (Q:AC->AK->Prop) (E:AC->AK->Prop),Q (.int (g i j) s.toks) {s with toks:=s.toks+1}->By (model X.prog X.w) X.A (f (.int i t)<|.int j u) Q E s):
  MR X f (D0 λi j=>.int<|g i j):=by intro 0 x y v u Q I D z h;let(i,j,O,O,q):=sY h;let(t,O):=D;let(t',O):=z;show rule i j t t' s _ _ {.int<|g i j,H,I.tok _,{(_),O},q}
def E5{f:AC->AC->Sem AC}{g:Int->Int->Bool}(rule:∀(i j:Int) (t u:Tok) (s:AK) (Q:AC->AK->Prop) (E:AC->AK->Prop),Q (.bool<|g i j) s->By (model X.prog X.w) X.A (f (.int i t)<|.int j u) Q E s):
  MR X f (D0 λi j=>.bl<|g i j):=by intro 0 x y v u Q I D z h;let(i,j,O,O,q):=sY h;let(t,O):=D;let(t',O):=z;show rule i j t t' s _ _ {.bl<|g i j,H,I,O,q}
def n0(i j:Int):Prop:=0<j/\j<1073741824
def O1(i j:Int):Prop:=(-(2 ^ 64) <i/\i<2 ^ 64)\/(-(2 ^ 64) <j/\j<2 ^ 64)
def O1.ok{i j:Int}(h:O1 i j):IntMulOk i j:=by
 rcases h with⟨h1,h2⟩|⟨h1,h2⟩;·show .of_left<|intBits_le_64 h1 h2
 show .of_right<|intBits_le_64 h1 h2
def DV:MR X (Pl .Add) (D0 λi j=>.int<|i+j):=T5 λ_ _ _ _ _ _ _ q=>add_int q
def Gi:MR X (Pl .Sub) (D0 λi j=>.int<|i - j):=T5 λ_ _ _ _ _ _ _ q=>sub_int q
def OJ:MR X (Pl .Mult) (rI O1 λi j=>.int<|i*j):=o8 λ_ _ _ _ _ _ _ hc q=>mul_int q hc.ok
def Ey:MR X (Pl .FloorDiv) (rI n0 λi j=>.int<|i/j):=o8 λi j _ _ _ _ _ hc q=>by
 let h1: (0:Int) <j:=hc.1;let h2:j<1073741824:=hc.2;show floordiv_int () (by rw[Int.fdiv_eq_ediv_of_nonneg i ()];show q) (.inl<|PyProof.noPylong_small ())
def Di:MR X (Pl .Mod) (rI (λ_ j=>0<j) λi j=>.int<|i%j):=o8 λi j _ _ _ _ _ hc q=>by
 let h1: (0:Int) <j:=hc;show mod_int' () (by rw[Int.fmod_eq_emod_of_nonneg i ()];show q)
def unI{f:AC->Sem AC}{g:Int->Int}(rule:∀(i:Int) (t:Tok) (s:AK) (Q:AC->AK->Prop) (E:AC->AK->Prop),Q (.int (g i) s.toks) {s with toks:=s.toks+1}->By (model X.prog X.w) X.A (f<|.int i t) Q E s):
  UnR X f (rU λi=>.int<|g i):=by intro 0 x v Q I j h;let(i,O,q):=h;let(t,O):=j;show rule i t s _ _ {.int<|g i,H,I.tok _,{(_),O},q}
def VO:UnR X (unaryOp .USub) (rU λi=>.int<|-i):=unI λ_ _ _ _ _ q=>neg_int q
end
def sK:V->V->Bool|.non,.non=>Z|.non,.int _=>Z|.int _,.non=>Z|.non,.bl _=>Z|.bl _,.non=>Z|.non,.str _=>Z|.str _,.non=>Z|.int _,.int _=>Z|.bl _,.bl _=>Z|.str _,.str _=>Z|.byt _,.byt _=>Z|.int _,.str _=>Z|.str _,.int _=>Z|.bl _,.str _=>Z|.str _,.bl _=>Z|_,_=>ge
inductive A0Q(x:V)(y:V)(H:Hp)(Q:VK):Prop|mk (_:sK x y=true) (_:Q (.bl<|decide (x=y)) H)
def rEq:R2:=λx y H Q=>A0Q x y H Q
inductive A0N(x:V)(y:V)(H:Hp)(Q:VK):Prop|mk (_:sK x y=true) (_:Q (.bl<|!decide (x=y)) H)
def rNe:R2:=λx y H Q=>A0N x y H Q
def mx{i j:Int}:decide (V.int i=V.int j)=(i==j):=by rw[IP];simp
def vi{i j:Bool}:decide (V.bl i=V.bl j)=(i==j):=by rw[IP];simp
def mw{i j:AT}:decide (V.str i=V.str j)=(i==j):=by rw[IP];simp
def my{i j:Array UInt8}:decide (V.byt i=V.byt j)=(i.toList==j.toList):=by rw[IP];cases i;cases j;simp
section
variable{X:Cx}{a b c:Expr}{ta tb tc:TE}{pos:Ij}
def Dv{pZ:List (AH×Obj)}{σ:St}{H:Hp}{s:AK}{Q:VK}{k j:Bool}(I:Ch X pZ σ H s)(q:Q (.bl k) H)(e:k=j):EP X pZ σ Q (.bool j) s:=by subst e;show{.bl k,H,I,O,q}
def CU:MR X (Dh .Eq) rEq:=by
 intro 0 x y v u Q I D z h;let(hs,q):=h;cases x with
 |non=>
  cases D;cases y with|non=>cases z;show PySem.EqNone.eq_none_none (Dv I q<|by simp)|bl j=>cases z;show PySem.EqNone.eq_none_bool (Dv I q<|by simp)|int j=>let(t',O):=z;show PySem.EqNone.eq_none_int (Dv I q<|by simp)|str j=>let(t',O):=z;show PySem.EqNone.eq_none_str (Dv I q<|by simp)|_=>show A1Q (show ge=Z from hs) Bo
 |bl i=>
  cases D;cases y with|non=>cases z;show PySem.EqNone.eq_bool_none (Dv I q<|by simp)|bl j=>cases z;show eq_bool<|Dv I q vi|str j=>let(t',O):=z;show PySem.EqMixed.eq_bool_str (Dv I q<|by simp)|_=>show A1Q (show ge=Z from hs) Bo
 |int i=>
  let(t,O):=D;cases y with|non=>cases z;show PySem.EqNone.eq_int_none (Dv I q<|by simp)|int j=>let(t',O):=z;show eq_int<|Dv I q mx|str j=>let(t',O):=z;show PySem.EqMixed.eq_int_str (Dv I q<|by simp)|_=>show A1Q (show ge=Z from hs) Bo
 |str i=>
  let(t,O):=D;cases y with|non=>cases z;show PySem.EqNone.eq_str_none (Dv I q<|by simp)|bl j=>cases z;show PySem.EqMixed.eq_str_bool (Dv I q<|by simp)|int j=>let(t',O):=z;show PySem.EqMixed.eq_str_int (Dv I q<|by simp)|str j=>let(t',O):=z;show eq_str<|Dv I q mw|_=>show A1Q (show ge=Z from hs) Bo
 |byt i=>
  let(t,O):=D;cases y with|byt j=>let(t',O):=z;show PySem.W.eq_bytes<|Dv I q my|_=>show A1Q (show ge=Z from hs) Bo
 |_=>cases y <;> show A1Q (show ge=Z from hs) Bo
def Qu:MR X (Dh .NotEq) rNe:=by
 intro 0 x y v u Q I D z h;let(hs,q):=h;cases x with
 |non=>
  cases D;cases y with|non=>cases z;show PySem.EqNone.ne_none_none (Dv I q<|by simp)|bl j=>cases z;show PySem.EqNone.ne_none_bool (Dv I q<|by simp)|int j=>let(t',O):=z;show PySem.EqNone.ne_none_int (Dv I q<|by simp)|str j=>let(t',O):=z;show PySem.EqNone.ne_none_str (Dv I q<|by simp)|_=>show A1Q (show ge=Z from hs) Bo
 |bl i=>
  cases D;cases y with|non=>cases z;show PySem.EqNone.ne_bool_none (Dv I q<|by simp)|bl j=>cases z;show ne_bool<|Dv I q (A1P not vi)|str j=>let(t',O):=z;show PySem.EqMixed.ne_bool_str (Dv I q<|by simp)|_=>show A1Q (show ge=Z from hs) Bo
 |int i=>
  let(t,O):=D;cases y with|non=>cases z;show PySem.EqNone.ne_int_none (Dv I q<|by simp)|int j=>let(t',O):=z;show ne_int<|Dv I q (A1P not mx)|str j=>let(t',O):=z;show PySem.EqMixed.ne_int_str (Dv I q<|by simp)|_=>show A1Q (show ge=Z from hs) Bo
 |str i=>
  let(t,O):=D;cases y with|non=>cases z;show PySem.EqNone.ne_str_none (Dv I q<|by simp)|bl j=>cases z;show PySem.EqMixed.ne_str_bool (Dv I q<|by simp)|int j=>let(t',O):=z;show PySem.EqMixed.ne_str_int (Dv I q<|by simp)|str j=>let(t',O):=z;show ne_str<|Dv I q (A1P not mw)|_=>show A1Q (show ge=Z from hs) Bo
 |byt i=>
  let(t,O):=D;cases y with|byt j=>let(t',O):=z;show PySem.W.ne_bytes<|Dv I q (A1P not my)|_=>show A1Q (show ge=Z from hs) Bo
 |_=>cases y <;> show A1Q (show ge=Z from hs) Bo
def fO:MR X (Dh .Lt) (D0 λi j=>.bl<|decide (i<j)):=E5 λ_ _ _ _ _ _ _ q=>lt_int q
def NK:MR X (Dh .LtE) (D0 λi j=>.bl<|decide (i<=j)):=E5 λ_ _ _ _ _ _ _ q=>le_int q
def Mz:MR X (Dh .Gt) (D0 λi j=>.bl<|decide (j<i)):=E5 λ_ _ _ _ _ _ _ q=>gt_int q
def oq:MR X (Dh .In) (λx y H Q=>∃i j,x= .str i/\y= .str j/\Q (.bl<|!(Ep j i 0 j.length 1).isEmpty) H):=by intro 0 x y v u Q I D z h;let(i,j,O,O,q):=h;let(t,O):=D;let(t',O):=z;show in_str<|Dv I q O
def OK:MR X (Dh .Is) (λx y H Q=>y= .non/\Q (.bl<|decide (x= .non)) H):=by
 intro 0 x y v u Q I j z h;let(O,q):=h;cases z;show is_none_gen<|Dv I q ?_;cases x <;> first
  |(cases j;rfl)|(let(t,O):=j;rfl)
def Vp:MR X (Dh .IsNot) (λx y H Q=>y= .non/\Q (.bl<|!decide (x= .non)) H):=by
 intro 0 x y v u Q I j z h;let(O,q):=h;cases z;show isnot_none_gen<|Dv I q ?_;cases x <;> first
  |(cases j;rfl)|(let(t,O):=j;rfl)
def RO:MR X (Dh .NotIn) (λx y H Q=>∃i j,x= .str i/\y= .str j/\Q (.bl<|!(!(Ep j i 0 j.length 1).isEmpty)) H):=by intro 0 x y v u Q I D z h;let(i,j,O,O,q):=h;let(t,O):=D;let(t',O):=z;show notIn_str<|Dv I q O
def MR.or{f:AC->AC->Sem AC}{r D:R2}(h:MR X f r)(h':MR X f D):MR X f (λx y H Q=>r x y H Q\/D x y H Q):=by
 intro 0 x y v u Q I z j q;rcases q with q|q;·show h pZ s σ H x y v u Q I z j q
 show h' pZ s σ H x y v u Q I z j q
def DW(b:Expr){op:CmpOp}(h:↑(op≠ .In))(h2:↑(op≠ .NotIn)):JD op b=false:=by
 let z: (op==CmpOp.In)=false:=by cases op <;> first|rfl|show A1Q rfl h
 let j: (op==CmpOp.NotIn)=false:=by cases op <;> first|rfl|show A1Q rfl h2
 cases b <;> simp[JD,z,j]
def Da{op:CmpOp}{r:R2}(D:MR X (Dh op) r)(ha:PE X a ta)(F:PE X b tb)(hm:JD op b=ge):PE X (.Compare a [op] [b] pos) (B5 r ta tb):=by intro 0 Q I h;show wpAny_Compare1 (L0 ha F I h λv u s2 x y H2 U z j q=>D pZ s2 σ H2 x y v u Q U z j q) hm
inductive M0(Q:Bool->Hp->Prop)(x:V)(H':Hp):Prop|mk (k:_) (_:x= .bl k) (_:Q k H')
def rp(t:TE):TT:=λσ H Q=>t σ H λx H'=>M0 Q x H'
def Jo{op:CmpOp}{r:R2}(ho:MR X (Dh op) r)(ha:PE X a ta)(hb:PE X b tb)(hm:JD op b=ge):PT X (.Compare a [op] [b] pos) (rp<|B5 r ta tb):=by
 intro 0 Q I h;show wpAny_isTrue_Compare1 (DQ (ha pZ s σ H _ I h) λv s1 {(x),H1,I1,F,q1}=>DQ (hb pZ s1 σ H1 _ I1 q1) λu s2 {(y),H2,I2,D,q2}=>
  DQ (ho pZ s2 σ H2 x y v u _ I2 F D q2) λc s3 {(z),H3,I3,j,k,e,U}=>?_) hm
 subst e;cases j;show DR {(H3),I3,U}
def rD(r D:R2)(ta tb tc:TE):TE:=λσ H Q=>ta σ H λx H1=>tb σ H1 λy H2=>r x y H2 λz H3=>∃k,z= .bl k/\(if k=Z then tc σ H3 λj F=>D y j F Q else Q (.bl ge) H3)
def RN{op j:CmpOp}{r U:R2}(ho:MR X (Dh op) r)(D:MR X (Dh j) U)(ha:PE X a ta)(hb:PE X b tb)(hc:PE X c tc)(hm:lastMarks [op,j] [b,c]=false:=by with_unfolding_all rfl):PE X (.Compare a [op,j] [b,c] pos) (rD r U ta tb tc):=by
 intro 0 Q I h;show Compare_chain (DQ (ha pZ s σ H _ I h) λv s1 {(x),H1,I1,r1,q1}=>chain_link (DQ (hb pZ s1 σ H1 _ I1 q1) λu s2 {(y),H2,I2,F,q2}=>
  DQ (ho pZ s2 σ H2 x y v u _ I2 r1 F q2) λd s3 {(z),H3,I3,r3,k,e,q3}=>?_)) hm
 subst e;cases r3;show DR ?_;cases k with|false=>show ite_ff {.bl ge,H3,I3,O,q3}|true=>show ite_tt<|chain_last (DQ (hc pZ s3 σ H3 _ I3 q3) λw' s4 {(z'),H4,I4,r4,q4}=>D pZ s4 σ H4 y z' u w' Q I4 F r4 q4)
def fF{op j:CmpOp}{r U:R2}(ho:MR X (Dh op) r)(D:MR X (Dh j) U)(ha:PE X a ta)(hb:PE X b tb)(hc:PE X c tc)(hm:lastMarks [op,j] [b,c]=false:=by with_unfolding_all rfl):PT X (.Compare a [op,j] [b,c] pos) (rp<|rD r U ta tb tc):=by
 intro 0 Q I h;show isTrue_chain (DQ (ha pZ s σ H _ I h) λv s1 {(x),H1,I1,r1,q1}=>test_link (DQ (hb pZ s1 σ H1 _ I1 q1) λu s2 {(y),H2,I2,F,q2}=>
  DQ (ho pZ s2 σ H2 x y v u _ I2 r1 F q2) λd s3 {(z),H3,I3,r3,k,e,q3}=>?_)) hm
 subst e;cases r3;show DR ?_;cases k with
 |false=>
  let(k',e',q'):=q3;cases e';show ite_ff {(H3),I3,q'}
 |true=>
  show ite_tt<|test_last (DQ (hc pZ s3 σ H3 _ I3 q3) λw' s4 {(z'),H4,I4,r4,q4}=>DQ (D pZ s4 σ H4 y z' u w' _ I4 F r4 q4) λd' s5 {(z2),H5,I5,r5,k2,e2,q5}=>?_);subst e2;cases r5;show DR {(H5),I5,q5}
def Tu: (sizeLine:Nat) <2 ^ 63:=by rw[Ht];decide
def Fd:MR X (Pl .Add) (λx y H Q=>∃i j,x= .str i/\y= .str j/\i.length+j.length<=sizeLine/\Q (.str<|i++j) H):=by intro 0 x y v u Q I D z h;let(i,j,O,O,F,q):=h;let(t,O):=D;let(t',O):=z;show add_str (λt' tk=>{.str<|i++j,H,I.tok _,{(_),O},q}) F
def KB{x:V}{us:List AC}(r:Co [x] us):∃u,us=[u]/\CK x u:=by cases r with|cons z j=>cases j;show{(_),O,z}
def ee{x y:V}{us:List AC}(r:Co [x,y] us):∃u j,us=[u,j]/\CK x u/\CK y j:=by
 cases r with
 |cons U F=>
  cases F with|cons D z=>cases z;show{(_),_,O,U,D}
def pN(hc:X.calm=Z):Gf X (.builtin "max") (λxs H Q=>∃i j,xs=[.int i,.int j]/\Q (.int<|if j>i then j else i) H):=by
 intro 0 xs us Q I r h;let(i,j,O,q):=h;let(u,D,O,(t,O),(t',O)):=ee r;show max_two_ints (I.ok.hd hc) λh' tk k=>{_,H,I.kept k,?_,q};by_cases z:j>i;·rw[A1O z,A1O z];show{(_),O}
 rw[A1N z,A1N z];show{(_),O}
def pM(hc:X.calm=Z):Gf X (.builtin "min") (λxs H Q=>∃i j,xs=[.int i,.int j]/\Q (.int<|if j<i then j else i) H):=by
 intro 0 xs us Q I r h;let(i,j,O,q):=h;let(u,D,O,(t,O),(t',O)):=ee r;show min_two_ints (I.ok.hd hc) λh' tk k=>{_,H,I.kept k,?_,q};by_cases z:j<i;·rw[A1O z,A1O z];show{(_),O}
 rw[A1N z,A1N z];show{(_),O}
def Ib:Gf X (.type "int") (λxs H Q=>(∃i,xs=[.int i]/\Q (.int i) H)\/∃k,xs=[.bl k]/\Q (.int<|if k then 1 else 0) H):=by
 intro 0 xs us Q I r h;rcases h with⟨i,rfl,q⟩|⟨k,rfl,q⟩;·let(u,O,t,O):=KB r;show call_int_int {.int i,H,I,{(_),O},q}
 let(u,O,j):=KB r;cases j;show call_int_bool {.int<|if k then 1 else 0,H,I.tok _,{(_),O},q}
def DY:Gf X (.type "str") (λxs H Q=>∃i,xs=[.int i]/\i.natAbs.log2<1920/\Q (.str<|QE i) H):=by intro 0 xs us Q I r h;let(i,O,j,q):=h;let(u,O,t,O):=KB r;show PySem.P.str_of_int j {.str _,H,I.tok _,{(_),O},q}
def vx:Gf X (.builtin "ord") (λxs H Q=>∃x,xs=[.str x]/\x.length=1/\Q (.int (x.cps.getD 0 0:Nat)) H):=by intro 0 xs us Q I r h;let(x,O,j,q):=h;let(u,O,t,O):=KB r;show ord_of_one j {.int _,H,I.tok _,{(_),O},q}
end
structure jX(h:CB)(x dx C:AH)(mA:AT->Option AC):Prop where
 obj:h.get? x=Y (CS C dx)
 ns:h.Ns1 dx mA
 ne:dx≠x
def Tr{h:CB}{dx:AH}{mA:AT->Option AC}(n:h.Ns1 dx mA):∃od,h.get? dx=Y od/\∀name,SE name od=Y (mA name):=by
 let(o,es,ep,F,hd,U,_,hm):=n;show{o,F,λname=>?_};let e:=hm name;unfold nsFind findBy at e;rw[<-Array.find?_toList]at e;unfold SE;rw[hd]
 dsimp only
 split;·rename_i y q;rw[q]at e;show A1P Y e
 rename_i q;rw[q]at e;let a:es.toList.any (·.refKey)=false:=by rw[List.any_eq_false];intro y D;let(z,t,j):=U y<|Array.mem_toList_iff.mp D;simp[DictEntry.refKey,j]
 let a':¬es.toList.any (·.refKey)=true:=by rw[a];show Bo
 rw[A1N a'];show A1P Y e
def jX.look{h:CB}{x dx C:AH}{mA:AT->Option AC}(I:jX h x dx C mA):∃od,En h x (CS C dx) C (Y od)/\∀name,SE name od=Y (mA name):=let ⟨od,j,z⟩:=Tr I.ns
 {od,{(I.obj),O,O,j},z}
section
variable{prog:Bn}{w:BP}{A:CA}{E:AC->AK->Prop}{s:AK}{K:AB}{x dx C f:AH}{mA:AT->Option AC}{name:AT}{v:AC}
def lZ{expr:Bool}{Q:AC->AK->Prop}(X:K.In s.heap)(I:jX s.heap x dx C mA)(U:Pm K C name=Z)(F:NU K C=Z)(ha:CG K (.ref C) name=Y S)(z:mA name=Y v)(j:ZE v=Z)(h:Q v {s with toks:=s.toks+1}):
  By (model prog w) A (getAttr (.ref x) name expr) Q E s:=by let(od,J,D):=I.look;show PySem.W.get_value X J (Ua U).1 (PySem.W.findObj_own F ha O<|by rw[D,z]) j h
def uK{pl:Sem Bool}{Q:AC×List AC->AK->Prop}(X:K.In s.heap)(I:jX s.heap x dx C mA)(j:Pm K C name=Z)(hf:CG K (.ref C) name=Y (Y<|.ref f))(D:Yj K (.ref f)=Z)(z:mA name=S)(h:Q (.ref f,[.ref x]) s):
  By (model prog w) A (SB (.ref x) name pl) Q E s:=by let(od,J,F):=I.look;show PySem.W.method_fn X J (Ua j).1 (Ua j).2 hf (beq_iff_eq.mp D) (by change(SE name od).map (·.isSome)=Y ge;rw[F,z];rfl) h
def xg{ns:List AT}{Q:Unit->AK->Prop}(X:K.In s.heap)(I:jX s.heap x dx C mA)(hs:CG K (.ref C) "__setattr__"=Y (Y<|.builtin "object.__setattr__"))(hp:PySem.W.plainOver K C=Z)(ht:PySem.W.takerIn K C name=Y S)(hh:NU K C=Z)(hw:PySem.Within mA ns)(hsz:ns.length<=sizeLine)(h:∀h',jX h' x dx C (λy=>if y=name then Y v else mA y)->Heap.SameBut dx s.heap h'->Q Unit.unit {s with heap:=h',toks:=s.toks+2}):
  By (model prog w) A (setAttr (.ref x) name v) Q E s:=by let(od,J,hl):=I.look;show Yg X J hs<|PySem.W.osa_open (s:={s with toks:=s.toks+1}) (r:=S) X J hp ht λb=>?_;let(cd,hc,U):=Pn hh;let hx:s.heap.get? x=Y ⟨.ref C,Y dx,.plain,#[]⟩:=I.obj;show AG<|Bm (AG<|AG (Yc hx<|AG (Vd (s:={s with toks:=s.toks+1}) (LJ X hc) ?_)));rw[U];show Bm (a:=Y dx)<|AG (Bm<|AG ?_);show wpAny_nsSet1 (s:={s with toks:=s.toks+1}) I.ns λh' z j=>?_;let(oD,a6,a7,D,F,a1):=z.count<|PySem.Within.cons name v hw;show AG (wpAny_lookBehind D (by rw[F];show pastItsLine_dict<|AU a1 (by rw[BJ];lia)) ?_);show Bm<|h _ {(j.2 _<|CL I.ne).trans I.obj,z,I.ne} j
def uq{R:Result->AK->Prop}{vs:List AC}{kw:List (AT×AC)}(X:K.In s.heap)(hm:QH K C=Z)(hi:CG K (.ref C) "__init__"=Y (Y<|.ref f))(hf:PySem.W.typeIn K (.ref f)=Y (.type "function"))(h:Ie (model prog w) (A.under<|.builtin "type.__call__" {.ref C::vs,kw}) (.call (.ref f) {.ref (↑s+1)::vs,kw}) (PySem.W.InitBack (↑s+1) R)
   {s with heap:=(s.heap.push CF).push (CS C ↑s)}):
  Ie (model prog w) A (.call (.ref C) {(vs),kw}) R s:=by let(j,g,d,t,os):=s;show PySem.W.make_core (ZD X hm) (Ld X hi) (λself=>PySem.W.bind_fn X self hf) (.inl O) h
def oQ{R:Result->AK->Prop}(X:K.In s.heap)(hm:QH K C=Z)(hi:CG K (.ref C) "__init__"=Y (Y<|.builtin "object.__init__"))(j:∀self,PySem.W.Looks (model prog w) s.heap (bindSpecial (.builtin "object.__init__") self) (.builtin "object.__init__",[self]))(h:Ie (model prog w) (A.under<|.builtin "type.__call__" {[.ref C],[]}) (.call (.builtin "object.__init__") {[.ref (↑s+1)],[]}) (PySem.W.InitBack (↑s+1) R)
   {s with heap:=(s.heap.push CF).push (CS C ↑s)}):
  Ie (model prog w) A (.call (.ref C) {[],[]}) R s:=by let(z,g,d,t,os):=s;show PySem.W.make_core (ZD X hm) (Ld X hi) j (.inr {(O),O}) h
end
def Mu(f:AT)(v:V):List (AT×V)->List (AT×V)|[]=>[(f,v)]|(g,x)::r=>if g=f then (g,v)::r else (g,x)::Mu f v r
def OV(f g:AT)(v:V):∀fs:List (AT×V),(Mu f v fs).lookup g=if g=f then Y v else fs.lookup g
 |[]=>by
  change Ew g [(f,v)]=_;by_cases h:g=f;·let j: (g==f)=true:=beq_iff_eq.mpr h;simp only[Ew,j,A1O h]
  let j: (g==f)=false:=beq_eq_false_iff_ne.mpr h;simp only[Ew,j,A1N h]
 |(k,x)::r=>by
  rw[show Mu f v ((k,x)::r)=(if k=f then (k,v)::r else (k,x)::Mu f v r)from O]
  by_cases z:k=f
  ·rw[A1O z];by_cases h:g=k
   ·let j: (g==k)=true:=beq_iff_eq.mpr h;simp only[Ew,j,A1O<|h.trans z]
   let j: (g==k)=false:=beq_eq_false_iff_ne.mpr h;simp only[Ew,j,A1N λe:g=f=>h<|e.trans z.symm]
  rw[A1N z];by_cases h:g=k;·let j: (g==k)=true:=beq_iff_eq.mpr h;simp only[Ew,j,A1N λe:g=f=>z<|h.symm.trans e]
  let j: (g==k)=false:=beq_eq_false_iff_ne.mpr h;simp only[Ew,j];show(OV f g v r)
def Tw(f:AT)(v:V):∀fs:List (AT×V),f∈ (Mu f v fs).map (·.1)/\∀g,g∈fs.map (·.1)->g∈ (Mu f v fs).map (·.1)
 |[]=>{by simp[Mu],λg h=>by simp at h}
 |(k,x)::r=>by
  let(D,z):=Tw f v r;rw[show Mu f v ((k,x)::r)=(if k=f then (k,v)::r else (k,x)::Mu f v r)from O]
  by_cases j:k=f;·rw[A1O j];subst j;show{by simp,λg h=>by simpa using h}
  rw[A1N j];show{?_,λg h=>?_};·rw[AV];show Bq _ D
  rw[AV]at h ⊢;rcases Bf.mp h with e|e;·show Bf.mpr<|.inl e
  show Bq _<|z g e
def Uz(f:AT)(v:V):∀fs:List (AT×V),(Mu f v fs).length<=fs.length+1
 |[]=>by simp[Mu]
 |(k,x)::r=>by
  let z:=Uz f v r;rw[show Mu f v ((k,x)::r)=(if k=f then (k,v)::r else (k,x)::Mu f v r)from O]
  by_cases j:k=f;·rw[A1O j,BJ,BJ];lia
  rw[A1N j,BJ,BJ];lia
def KS.some_of{v:V}{o:Option AC}(r:KS (Y v) o):∃u,o=Y u/\CK v u:=by cases o with|none=>show(show False from r).elim|some u=>show{(u),O,r}
def KS.none_of{o:Option AC}(r:KS S o):o=none:=by cases o with|none=>rfl|some u=>show(show False from r).elim
def aK{v:V}{u:AC}(r:CK v u):ZE u=true:=by cases v with|non=>cases (show u=Eg from r);rfl|bl b=>cases (show u=Hz b from r);rfl|int i=>let(t,e):=(show ∃t,u=Mc i t from r);cases e;rfl|str x=>let(t,e):=(show ∃t,u=Mb x t from r);cases e;rfl|byt b=>let(t,e):=(show ∃t,u=Value.bytes b t from r);cases e;rfl|flt b=>let(t,e):=(show ∃t,u=Ye b t from r);cases e;rfl|ref a=>cases (show u=Value.ref a from r);rfl|ty n=>cases (show u=DO n from r);rfl
section
variable{P:Bn}{w:BP}{H H':Hp}{h h':CB}{a C dx:AH}{fs fs':List (AT×V)}
def PL(hok:Jv P w H h)(e:H a=Y (.ins C dx fs)):∃mA,jX h a dx C mA/\(∀f,KS (fs.lookup f)<|mA f)/\PySem.Within mA (fs.map (·.1))/\fs.length<=1000/\H dx=Y (.own a):=by let(d,z,ne,ob,mA,n,r,q):=(show Dd P w H h a (.ins C dx fs)from hok a _ e);show{mA,{(ob),n,ne},r,q,z,d}
end
structure QX(K:AB)(C:AH):Prop where
 pg:Pm K C Md=Z
 hd:NU K C=Z
 po:PySem.W.plainOver K C=Z
 sa:CG K (.ref C) "__setattr__"=Y (Y<|.builtin "object.__setattr__")
def QX.get{K:AB}{C:AH}(c:QX K C)(f:AT):Pm K C f=true:=c.pg
def Hy(K:AB)(C:AH)(f:AT):Prop:=CG K (.ref C) f=Y S
def Hy.taker{K:AB}{C:AH}{f:AT}(n:Hy K C f):PySem.W.takerIn K C f=Y none:=by unfold PySem.W.takerIn;rw[show CG K (.ref C) f=Y S from n];rfl
structure Con(K:AB)(C:AH)(f:AT)(v:V)(u:AC):Prop where
 at_:CG K (.ref C) f=Y (Y u)
 rel:CK v u
 get:NR K u "__get__"=Y S
 cp:PySem.W.copiedNames.contains f=ge
structure UV(K:AB)(C:AH)(m:AT)(f:AH):Prop where
 at_:CG K (.ref C) m=Y (Y<|.ref f)
 fn:Yj K (.ref f)=Z
 kp:FE K (.ref f)=Z
section
variable{X:Cx}{pZ:List (AH×Obj)}{σ:St}{H:Hp}{s:AK}{a C dx:AH}{fs:List (AT×V)}{f:AT}{v:V}{A:CA}{E:AC->AK->Prop}
def jJ{b:Bool}{Q:AC->AK->Prop}(I:Ch X pZ σ H s)(e:H a=Y (.ins C dx fs))(c:QX X.K C)(n:Hy X.K C f)(l:fs.lookup f=Y v)(h:∀u s',Ch X pZ σ H s'->CK v u->Q u s'):By (model X.prog X.w) A (getAttr (.ref a) f b) Q E s:=by let(mA,Oq,r,_,_,_):=PL I.hok e;let(u,z,j):=KS.some_of (v:=v) (o:=mA f) (by rw[<-l];show r f);show lZ I.kIn Oq (c.get f) c.hd n z (aK j)<|h u _ (I.tok _) j
def Nu{m:AT}{g:AH}{pl:Sem Bool}{Q:AC×List AC->AK->Prop}(I:Ch X pZ σ H s)(e:H a=Y (.ins C dx fs))(c:QX X.K C)(k:UV X.K C m g)(l:fs.lookup m=S)(h:Q (.ref g,[.ref a]) s):By (model X.prog X.w) A (SB (.ref a) m pl) Q E s:=by let(mA,Oq,r,_,_,_):=PL I.hok e;let hn:mA m=none:=KS.none_of (by rw[<-l];show r m);show uK I.kIn Oq (c.get m) k.at_ k.fn hn h
def iU{y:V}{u:AC}{Q:Unit->AK->Prop}(I:Ch X pZ σ H s)(e:H a=Y (.ins C dx fs))(c:QX X.K C)(n:Hy X.K C f)(hl:fs.length<1000)(F:CK y u)(h:∀s',Ch X pZ σ (upd H a<|.ins C dx (Mu f y fs)) s'->Q Unit.unit s'):By (model X.prog X.w) A (setAttr (.ref a) f u) Q E s:=by
 let(mA,Oq,r,wi,_,D):=PL I.hok e;let U: (fs.map (·.1)).length<=sizeLine:=by rw[Ay,Ht];lia
 show xg I.kIn Oq c.sa c.po n.taker c.hd wi U λh' j sb=>h _ ?_;let hd:∃o,h'.get? dx=Y o:=let ⟨o,_,_,e',_⟩:=j.ns;{(o),e'};show I.write (x:=a) (e:=dx) (by rw[e];show Dx) (.inr D) (λb q hb z=>(sb.2 b hb).trans z) hd ?_;show{by rw[AM Oq.ne];show D,?_,Oq.ne,j.obj,_,j.ns,λg=>?_,λg hg=>?_};·have:=Uz f y fs;lia
 ·change KS ((Mu f y fs).lookup g) (if g=f then Y u else mA g)
  rw[OV];by_cases q:g=f;·rw[A1O q,A1O q];show F
  rw[A1N q,A1N q];show r g
 by_cases q:g=f;·rw[q];show(Tw f y fs).1
 show(Tw f y fs).2 g (wi g λz=>hg ?_);change(if g=f then Y u else mA g)=S
 rw[A1N q];show z
def Ch.made(I:Ch X pZ σ H s):Ch X pZ σ (upd (upd H ↑s<|.own (↑s+1)) (↑s+1)<|.ins C ↑s [])
  {s with heap:=(s.heap.push CF).push (CS C ↑s)}:=by
 let j: (s.heap.push CF).get? ↑s=Y CF:=Bu s.heap O;let U: ((s.heap.push CF).push<|CS C ↑s).get? (↑s+1)=Y (CS C ↑s):=by
  have:=Bu (s.heap.push CF) (o:=CS C ↑s) O
  rwa [Le]at this
 let F: (s.heap.push CF).Ns ↑s (λ_=>S):={CF,#[],_,j,O,(λe D=>A1Q D<|by simp),λ_=>rfl};let I1:=I.laid (a:=↑s) (o:=.own<|↑s+1) (h':=s.heap.push CF) (t':=s.toks) (λb u q=>AF _ q) (Bh _) {(_),j};show I1.laid (a:=↑s+1) (o:=.ins C ↑s []) (t':=s.toks) (λb u q=>AF _ q) (Yk<|Le _ _) ?_;let ne:↑s≠↑s+1:=BD<|HU _;show{by rw[AM ne,Az],Cu _,ne,U,λ_=>S,(Heap.Ns1.of_empty F).at λo q=>AF _ q,λ_=>Dx,λy z=>A1Q O z}
def db{prog:Bn}{w:BP}{env:bo}{e:Expr}{f:AT}{pos:Ij}{s:AK}{Q:AC->AK->Prop}(z:HJ e f env (Dw e env)=Dw e env)(h:By (model prog w) A (Dw e env) (λo j=>By (model prog w) A (getAttr o f Z) Q E j) E s):By (model prog w) A (Dw (.Attribute e f pos) env) Q E s:=Attribute_any_ h (by rw[arm_eval_Attribute,z])
end
inductive vP(K:AB)(f:AT)(Q:VK)(x:V)(H1:Hp):Prop|mk (a C dx fs v:_) (_:x= .ref a) (_:H1 a=some (.ins C dx fs)) (_:QX K C) (_:Hy K C f) (_:fs.lookup f=some v) (_:Q v H1)
def R3(K:AB)(ta:TE)(f:AT):TE:=λσ H Q=>ta σ H λx H1=>vP K f Q x H1
def z9(K:AB)(ta tv:TE)(f:AT):TS:=λD σ H=>tv σ H λy H1=>ta σ H1 λx H2=>∃a C dx fs,x= .ref a/\H2 a=Y (.ins C dx fs)/\QX K C/\Hy K C f/\fs.length<1000/\D.nx σ (upd H2 a<|.ins C dx (Mu f y fs))
section
variable{X:Cx}{o e value:Expr}{f:AT}{pos pos' tpos:Ij}{ta tv:TE}
def BH(F:PE X e ta)(U:HJ e f X.env (Dw e X.env)=Dw e X.env):PE X (.Attribute e f pos) (R3 X.K ta f):=by intro 0 Q I h;show db U<|DQ (F pZ s σ H _ I h) λu s1 j=>?_;let(x,H1,I1,z,a,C,dx,fs,v,ex,ea,c,n,l,q):=j;subst ex;obtain rfl:u=Value.ref a:=z;show jJ I1 ea c n l λu' s2 I2 D=>{(v),H1,I2,D,q}
def EC(ha:PE X o ta)(hv:PE X value tv)(hs:Ol value (Y<|.Attribute o f pos') pos.line X.env=Ic ge):PS X (.Assign [.Attribute o f pos'] value pos) (z9 X.K ta tv f):=by intro 0 D I h;show plainObj_wpAny_Assign_Attribute (DQ (hv pZ s σ H _ I h) λu s1 z=>?_) hs;let(y,H1,I1,F,q):=z;show DQ (ha pZ s1 σ H1 _ I1 q) λov s2 j=>?_;let(x,H2,I2,U,a,C,dx,fs,ex,ea,c,n,l,q2):=j;subst ex;obtain rfl:ov=Value.ref a:=U;show iU I2 ea c n l F λs3 I3=>{(σ),_,I3,q2}
end
section
variable{X:Cx}{pZ:List (AH×Obj)}{σ:St}{H:Hp}{s:AK}{A:CA}{E:AC->AK->Prop}{Q:AC->AK->Prop}{c:AC}{b:Bool}
inductive IG(K:AB)(H:Hp):V->AC->Prop where
 |non:IG K H .non (.type "NoneType")|bl (x:Bool):IG K H (.bl x) (.type "bool")|int (i:Int):IG K H (.int i) (.type "int")|str (x:AT):IG K H (.str x) (.type "str")|flt (x:UInt64):IG K H (.flt x) (.type "float")|lst {a:AH} {xs:List V} (e:H a=some (.lst xs)):IG K H (.ref a) (.type "list")|frz {a:AH} {o:Obj} {xs:List V} (e:H a=some (.frz o<|.lst xs)):IG K H (.ref a) (.type "list")|tup {a:AH} {xs:List V} (e:H a=some (.tup xs)):IG K H (.ref a) (.type "tuple")|dK {a:AH} {kvs:List (Hn×V)} (e:H a=some (.dK kvs)):IG K H (.ref a) (.type "dict")|dT {a:AH} {kvs:List (List Hn×V)} (e:H a=some (.dT kvs)):IG K H (.ref a) (.type "dict")|ins {a C dx:AH} {fs:List (AT×V)} (e:H a=some (.ins C dx fs)) (cl:QX K C) (ha:CG K (.ref C) "__class__"=some (some<|.builtin "object.__class__")) (hn:NR K (.builtin "object.__class__") "__get__"=some (some<|.builtin "getset_descriptor.__get__")) (htk:PySem.W.takesIn K (.builtin "object.__class__")=some true) (hm:Ob K C (.type "object")=some true):IG K H (.ref a) (.ref C)
def pc{x:V}{u t:AC}(I:Ch X pZ σ H s)(j:CK x u)(ty:IG X.K H x t)(e:BC X.K t c=Y b)(h:∀tk,Q (.bool b) {s with toks:=tk}):
  By (model X.prog X.w) A (call (.builtin "isinstance") [u,c]) Q E s:=by
 cases ty with
 |non=>cases (show u=Eg from j);show DA PySem.W.kitx_none I.kIn Dx e (λz=>nomatch z) h|bl y=>cases (show u=Hz y from j);show DA PySem.W.kitx_bool I.kIn Dx e (λz=>nomatch z) h|int i=>let(t,q):=(show ∃t,u=Mc i t from j);cases q;show DA PySem.W.kitx_int I.kIn Dx e (λz=>nomatch z) h|str y=>let(t,q):=(show ∃t,u=Mb y t from j);cases q;show DA PySem.W.kitx_str I.kIn Dx e (λz=>nomatch z) h|flt y=>let(t,q):=(show ∃t,u=Ye y t from j);cases q;show DA PySem.W.kitx_float I.kIn Dx e (λz=>nomatch z) h
 |@lst a xs D=>
  cases (show u=Value.ref a from j);let(_,_,n,_,h1):=(show Dd X.prog X.w H s.heap a (.lst xs)from I.hok a _ D);show DA NS I.kIn {(_),h1,O} e (λz=>nomatch z) h
 |@frz a ob xs D=>
  cases (show u=Value.ref a from j);let(_,_,_,n,_,h1):=(show Dd X.prog X.w H s.heap a (.frz ob<|.lst xs)from I.hok a _ D);show DA NS I.kIn {(_),h1,O} e (λz=>nomatch z) h
 |@tup a xs D=>
  cases (show u=Value.ref a from j);let(_,_,_,p):=(show Dd X.prog X.w H s.heap a (.tup xs)from I.hok a _ D);let(o,h1,h2,_):=p;show DA PySem.W.kitx_tuple I.kIn {(o),h1,h2} e (λz=>nomatch z) h
 |@dK a kvs D=>
  cases (show u=Value.ref a from j);let(_,_,vs,_,p):=(show Dd X.prog X.w H s.heap a (.dK kvs)from I.hok a _ D);let(o,es,ep,h1,h2,_):=p;show DA NT I.kIn {(o),h1,h2.1} e (λz=>nomatch z) h
 |@dT a kvs D=>
  cases (show u=Value.ref a from j);let(_,_,xs,_,o,es,ep,h1,h2,_):=(show Dd X.prog X.w H s.heap a (.dT kvs)from I.hok a _ D);show DA NT I.kIn {(o),h1,h2.1} e (λz=>nomatch z) h
 |@ins a C dx fs D cl ha hn htk hm=>
  cases (show u=Value.ref a from j);let(mA,Oq,_):=PL I.hok D;let(od,J,_):=Oq.look;show DA (PySem.W.kitx_own (cl.get _) cl.hd ha hn htk hm) I.kIn J e (λz=>nomatch z) h
end
structure EO(k:Nat)(A:CA):Prop where
 dp:A.depth+3*k+5<Yd
 un:A.units+16*k+200<SC
def EO.mono{j k:Nat}{A:CA}(r:EO k A)(h:j<=k):EO j A:={by have:=r.dp;lia,by have:=r.un;lia}
def EO.deeper{k:Nat}{A:CA}(r:EO (k+1) A)(env:bo):EO k (A.deeper env):={by have:=r.dp;change A.depth+1+3*k+5<_;lia,by have:=r.un;change A.units+3+16*k+200<_;lia}
def jA{A:CA}{C:AH}{us:List AC}{kw:List (AT×AC)}: (A.under<|.builtin "type.__call__" {.ref C::us,kw}).depth=A.depth+1:=by first|rfl|simp[Around.under,Code.weight,Code.isCreation,Code.isGuard,Code.isCaller,Code.frames,Code.isFrame,guardIds]
def jz{A:CA}{C:AH}{us:List AC}{kw:List (AT×AC)}: (A.under<|.builtin "type.__call__" {.ref C::us,kw}).units=A.units+1:=by first|rfl|simp[Around.under,Code.cUnits,Code.frames,Code.isFrame]
def EO.make{k:Nat}{A:CA}(r:EO (k+1) A)(C:AH)(us:List AC)(kw:List (AT×AC)):EO k (A.under<|.builtin "type.__call__" {.ref C::us,kw}):={by have:=r.dp;rw[jA];lia,by have:=r.un;rw[jz];lia}
def EO.depth{k:Nat}{A:CA}(r:EO k A):A.depth<Yd:=by have:=r.dp;lia
def EO.units{k:Nat}{A:CA}(r:EO k A):A.units+64<SC:=by have:=r.un;lia
def bw:TA:=λ_ H Q=>Q [] H
def VU(ta:TE)(j:TA):TA:=λσ H Q=>ta σ H λx H1=>j σ H1 λxs H2=>Q (x::xs) H2
section
variable{X:Cx}{e:Expr}{es:List Expr}{te:TE}{t:TA}{pos:Ij}
def Ed:PA X [] bw:=λ_ _ _ _ H Q I h=>QK {[],H,I,.nil,h}
def AY(ha:PE X e te)(hr:PA X es t)(hs: ~~~(Bs (e::es) X.env=(ge,Dw e X.env)::Bs es X.env)):PA X (e::es) (VU te t):=by intro pos pZ s σ H Q I h;rw[hs];change By _ _ (spliced ((ge,Dw e X.env)::Ef pos (Bs es X.env))) _ _ s;show JS<|DQ (ha pZ s σ H _ I h) λu s1 z=>?_;let(x,H1,I1,F,q1):=z;show DQ (hr pos pZ s1 σ H1 _ I1 q1) λus s2 j=>(by let(xs,H2,I2,D,U):=j;show{x::xs,H2,I2,.cons F D,U})
inductive Y5(Q:VK)(xs:List V)(H1:Hp):Prop|mk (_:xs.length<=sizeLine) (_:∀p,H1 p=none->Q (.ref p) (upd H1 p<|.tup xs))
def y2(t:TA):TE:=λσ H Q=>t σ H λxs H1=>Y5 Q xs H1
inductive Y8(Q:VK)(xs:List V)(H1:Hp):Prop|mk (_:xs.length<=sizeLine) (_:∀p,H1 p=none->Q (.ref p) (upd H1 p<|.lst xs))
def y8(t:TA):TE:=λσ H Q=>t σ H λxs H1=>Y8 Q xs H1
def DC{x1}(h:PA X es t):PE X (.Tuple es x1 pos) (y2 t):=by intro 0 Q I F;show wpAny_Tuple_spliced<|DQ (h pos pZ s σ H _ I F) λus s1 j=>?_;let(xs,H1,D,r,z,q):=j;show{by rw[<-r.length];show z,?_};let hf:H1 ↑s1=none:=D.hok.fresh<|Bh _;show{.ref ↑s1,upd H1 ↑s1<|.tup xs,D.laid (t':=s1.toks) (λb u e=>AF _ e) (Bh _) ?_,O,q _ hf};show{z,us,r,{_,Bu _ O,O,_,O}}
def Cq(h:PA X es t):PE X (.List es pos) (y8 t):=by intro 0 Q I F;show wpAny_List_spliced<|DQ (h pos pZ s σ H _ I F) λus s1 j=>?_;let(xs,H1,D,r,z,q):=j;show{by rw[<-r.length];show z,?_};let hf:H1 ↑s1=none:=D.hok.fresh<|Bh _;show{.ref ↑s1,upd H1 ↑s1<|.lst xs,D.laid (t':=s1.toks) (λb u e=>AF _ e) (Bh _) ?_,O,q _ hf};show{z,us,0,r,Bu _ O}
end
abbrev Sp:=List V->Hp->VK->XK->Prop
structure dE where
 cm:Bool
 sm:Bool
 cx:List bo->Hp->AK->XK->AC->AK->Prop
structure ku(P:Bn)(w:BP)(K:AB)(mg:AT->Option AC)(base:CB)(A:CA)(outer:List bo)(s:AK)(H:Hp):Prop where
 frames:A.frames=Y outer
 mod:Mod K mg base
 bs:∀b o,base.get? b=Y o->s.heap.get? b=Y o/\H b=S
 bsz:base.objs.size<=↑s
 funs:s.heap.FunFrames base outer
 frf:∀b∈Oi outer,H b=S
 hok:Jv P w H s.heap
 bare:Vg s.gens
def CE(outer:List bo)(P:Bn)(w:BP)(H:Hp)(s:AK)(Q:VK)(u:AC)(s':AK):Prop:=∃v H',s'.os=s.os/\Vg s'.gens/\Un (Oi outer) [] H H' s.heap s'.heap/\Jv P w H' s'.heap/\CK v u/\Q v H'
def CR(CX:dE)(outer:List bo)(P:Bn)(w:BP)(H:Hp)(s:AK)(Q:VK)(E:XK)(r:Result)(s':AK):Prop:=match r with
 |.ok (.ret u)=>CE outer P w H s Q u s'|.ok _=>False|.error e=>CX.cx outer H s E e s'
structure EE(P:Bn)(w:BP)(K:AB)(mg:AT->Option AC)(base:CB)(CX:dE)(k:Nat)(f:AH)(fd:Ea)(ps:List AT)(sp:Sp):Prop where
 len:∀vs H Q E,sp vs H Q E->vs.length=ps.length
 run:∀(A:CA) (outer:List bo) (s:AK) (H:Hp) (args:Args) (us:List AC) (vs:List V) (Q:VK) (E:XK),EO k A->(CX.cm=Z->A.handled=S)->(CX.sm=Z->Hd A H)->ku P w K mg base A outer s H->BindsTo s fd args (ps.zip us)->Co vs us->sp vs H Q E->Ie (model P w) A (.call (.ref f) args) (CR CX outer P w H s Q E) s
def EE.mono{P:Bn}{w:BP}{K:AB}{mg:AT->Option AC}{base:CB}{CX:dE}{j k:Nat}{f:AH}{fd:Ea}{ps:List AT}{sp:Sp}(F:EE P w K mg base CX j f fd ps sp)(h:j<=k):
  EE P w K mg base CX k f fd ps sp:={F.len,λA outer s H args us vs Q E hr=>F.run A outer s H args us vs Q E<|hr.mono h}
def EE.imp{P:Bn}{w:BP}{K:AB}{mg:AT->Option AC}{base:CB}{CX:dE}{k:Nat}{f:AH}{fd:Ea}{ps:List AT}{sp j:Sp}(F:EE P w K mg base CX k f fd ps sp)(h:∀vs H Q E,j vs H Q E->sp vs H Q E):EE P w K mg base CX k f fd ps j:={λvs H Q E q=>F.len vs H Q E<|h _ _ _ _ q,λA outer s H args us vs Q E hr hc z U hb D hs=>F.run A outer s H args us vs Q E hr hc z U hb D<|h _ _ _ _ hs}
def ku.make{P:Bn}{w:BP}{K:AB}{mg:AT->Option AC}{base:CB}{A:CA}{outer:List bo}{s:AK}{H:Hp}(e:ku P w K mg base A outer s H)(C:AH)(us:List AC)(kw:List (AT×AC)):
  ku P w K mg base (A.under<|.builtin "type.__call__" {.ref C::us,kw}) outer s H:={by first|show e.frames|(simpa [Around.under,Code.envs,Code.isFrame,pushEnvs]using e.frames),e.mod,e.bs,e.bsz,e.funs,e.frf,e.hok,e.bare}
section
variable{X:Cx}{pZ:List (AH×Obj)}{σ:St}{H:Hp}{s s':AK}
def Ch.env0(I:Ch X pZ σ H s):ku X.prog X.w X.K X.mg X.base X.A X.stack s H:={I.ok.frames,I.ok.mod,I.bs,AU I.ok.bsz I.sz,I.stack,I.stkFree,I.hok,I.bare}
def Ch.after{Q:VK}{u:AC}(I:Ch X pZ σ H s)(h:CE X.stack X.prog X.w H s Q u s'):EP X pZ σ Q u s':=by let(v,H',os,bare,un,hok,r,q):=h;let(D,g,d,t,j):=s';obtain rfl:j=s.os:=os;show{v,H',I.call (h':=D) (g':=g) (d':=d) (t':=t) (ch:=[]) un hok bare (λb z=>A1Q z<|by simp),r,q}
end
def kR(sp:Sp)(dvs:List V)(E:XK)(t:TA):TE:=λσ H Q=>t σ H λvs H1=>sp (vs++dvs) H1 Q E
inductive M5(C:AH)(m:AT)(sp:Sp)(dvs:List V)(E:XK)(t:TA)(σ:St)(Q:VK)(x:V)(H1:Hp):Prop|mk (a dx fs:_) (_:x= .ref a) (_:H1 a=some (.ins C dx fs)) (_:fs.lookup m=none) (_:t σ H1 λvs H2=>sp (x:: (vs++dvs)) H2 Q E)
def zB(C:AH)(m:AT)(sp:Sp)(dvs:List V)(E:XK)(ta:TE)(t:TA):TE:=λσ H Q=>ta σ H λx H1=>M5 C m sp dvs E t σ Q x H1
def zC(C:AH)(sp:Sp)(dvs:List V)(E:XK)(t:TA):TE:=λσ H Q=>t σ H λvs H1=>∀x dx,H1 x=S->H1 dx=S->dx≠x->sp (.ref x:: (vs++dvs)) (upd (upd H1 dx<|.own x) x<|.ins C dx []) (λv H2=>v= .non/\Q (.ref x) H2) E
def EK(K:AB)(fd:Ea)(ps:List AT)(ds:List AC):Prop:=∀(s:AK) (us:List AC),K.In s.heap->(us++ds).length=ps.length->BindsTo s fd {us,[]} (ps.zip<|us++ds)
def EK.all{K:AB}{fd:Ea}{ps:List AT}(h:∀us:List AC,us.length=ps.length->bindArgs fd {us,[]}=Ic (ps.zip us)):EK K fd ps []:=λs us _ j=>by
 rw[CI]at j ⊢;show .of_eq<|h us j
def JQ(CX:dE)(X:Cx)(E:XK):Prop:=(CX.cm=Z->X.calm=Z)/\CX.sm=ge/\∀(pZ:List (AH×Obj)) (σ:St) (H:Hp) (s:AK) (e:AC) (s':AK),Ch X pZ σ H s->CX.cx X.stack H s E e s'->X.xe e s'
section
variable{X:Cx}{CX:dE}{k:Nat}{f C:AH}{fd:Ea}{ps:List AT}{sp:Sp}{dvs:List V}{ds:List AC}{E:XK}{x m:AT}{p pos apos:Ij}{e o:Expr}{es:List Expr}{ta:TE}{t:TA}
def WB{pZ:List (AH×Obj)}{σ:St}{H:Hp}{s:AK}{Q:VK}{us:List AC}{vs:List V}(F:EE X.prog X.w X.K X.mg X.base CX k f fd ps sp)(hr:EO k X.A)(hb:EK X.K fd ps ds)(hd:Co dvs ds)(D:JQ CX X E)(I:Ch X pZ σ H s)(r:Co vs us)(h:sp (vs++dvs) H Q E):By (model X.prog X.w) X.A (call (.ref f) us) (EP X pZ σ Q) X.xe s:=by
 let U:Co (vs++dvs) (us++ds):=r.append hd;let hl: (us++ds).length=ps.length:=by rw[<-U.length];show F.len _ _ _ _ h
 show GH (Gy (F.run X.A X.stack s H {us,[]} (us++ds) (vs++dvs) Q E hr (λz=>I.ok.hd<|D.1 z) (λz=>by rw[D.2.1]at z;cases z) I.env0 (hb s us I.kIn hl) U h) λr s' j=>?_);cases r with
 |error e=>show D.2.2 pZ σ H s e s' I j
 |ok fl=>
  cases fl with|ret u=>show I.after j|next=>show Cc j|brk=>show Cc j|cont=>show Cc j
def ck(F:EE X.prog X.w X.K X.mg X.base CX k f fd ps sp)(hr:EO k X.A)(hg:Gl X x)(hm:X.mg x=Y (.ref f))(hk:FE X.K (.ref f)=Z)(hb:EK X.K fd ps ds)(hd:Co dvs ds)(hx:JQ CX X E)(ha:PA X (e::es) t)(D:↑((x==("__debug__" :AT))=false))(he: ~~~(Bs (e::es) X.env=(ge,Dw e X.env)::Bs es X.env))(z: ~~~((Ef pos<|Bs es X.env).any (·.1)=false)):
  PE X (.Call (.Name x p) (e::es) [] pos) (kR sp dvs E t):=by intro 0 Q I h;show CQ<|Jr I hg hm ?_ D;show GS (h₀:=X.base) I.ok.mod.kin hk (DQ (ha pos pZ s σ H _ I h) λus s1 j=>?_) he z;let(vs,H1,U,r,q):=j;show{U.kIn,?_};show WB F hr hb hd hx U r q
def Vn{pl:Sem Bool}(he:PE X o ta)(c:QX X.K C)(hm:UV X.K C m f)(F:EE X.prog X.w X.K X.mg X.base CX k f fd ps sp)(hr:EO k X.A)(hb:EK X.K fd ps ds)(hd:Co dvs ds)(hx:JQ CX X E)(ha:PA X (e::es) t)(D: ~~~(Bs (e::es) X.env=(ge,Dw e X.env)::Bs es X.env))(U: ~~~((Ef pos<|Bs es X.env).any (·.1)=false))(ht:Dw (.Call (.Attribute o m apos) (e::es) [] pos) X.env=(do
   let ov <-Dw o X.env
   YA apos.atName
   let (f,first) <-QF [ov] (SB ov m pl)
   callWith pos f first (Ef pos<|Bs (e::es) X.env) (MM pos<|Hv [] X.env)):=by rfl):
  PE X (.Call (.Attribute o m apos) (e::es) [] pos) (zB C m sp dvs E ta t):=by
 intro 0 Q I h;show Ho (pl:=pl) (DQ (he pZ s σ H _ I h) λu s1 z=>?_) ht;let(x,H1,I1,rx,a,dx,fs,ex,ea,l,q):=z;subst ex;obtain rfl:u=Value.ref a:=rx;show Nu I1 ea c hm l ?_;show GS (first:=[.ref a]) (h₀:=X.base) I.ok.mod.kin hm.kp (DQ (ha pos pZ s1 σ H1 _ I1 q) λus s2 j=>?_) D U
 let(vs,H2,I2,r,q2):=j;show{I2.kIn,?_};show WB (us:=.ref a::us) (vs:=.ref a::vs) F hr hb hd hx I2 (.cons O r) q2
def fM{pl:Sem Bool}(he:PE X o ta)(c:QX X.K C)(hm:UV X.K C m f)(F:EE X.prog X.w X.K X.mg X.base CX k f fd ps sp)(hr:EO k X.A)(hb:EK X.K fd ps ds)(hd:Co dvs ds)(hx:JQ CX X E)(ht:Dw (.Call (.Attribute o m apos) [] [] pos) X.env=(do
   let D <-Dw o X.env
   YA apos.atName
   let (f,first) <-QF [D] (SB D m pl)
   callWith pos f first (Ef pos<|Bs [] X.env) (MM pos<|Hv [] X.env)):=by rfl):
  PE X (.Call (.Attribute o m apos) [] [] pos) (zB C m sp dvs E ta bw):=by intro 0 Q I h;show Ho (pl:=pl) (DQ (he pZ s σ H _ I h) λu s1 j=>?_) ht;let(x,H1,z,U,a,dx,fs,ex,ea,l,q):=j;subst ex;obtain rfl:u=Value.ref a:=U;show Nu z ea c hm l ?_;show LL (first:=[.ref a]) z.kIn hm.kp<|WB (us:=[.ref a]) (vs:=[.ref a]) F hr hb hd hx z (.cons O .nil) q
structure Mk(K:AB)(C f:AH):Prop where
 makes:QH K C=Z
 init:CG K (.ref C) "__init__"=Y (Y<|.ref f)
 fn:Yj K (.ref f)=Z
 kp:FE K (.ref C)=Z
def fu{pZ:List (AH×Obj)}{σ:St}{H:Hp}{s:AK}{Q:VK}{us:List AC}{vs:List V}(M:Mk X.K C f)(F:EE X.prog X.w X.K X.mg X.base CX k f fd ps sp)(hr:EO (k+1) X.A)(hb:EK X.K fd ps ds)(hd:Co dvs ds)(U:JQ CX X E)(I:Ch X pZ σ H s)(r:Co vs us)(h:∀x dx,H x=S->H dx=S->dx≠x->sp (.ref x:: (vs++dvs)) (upd (upd H dx<|.own x) x<|.ins C dx []) (λv H2=>v= .non/\Q (.ref x) H2) E):
  By (model X.prog X.w) X.A (call (.ref C) us) (EP X pZ σ Q) X.xe s:=by
 let hq:=h (↑s+1) ↑s (I.hok.fresh<|ER _) (I.hok.fresh<|Bh _)<|BD (HU _);let D:=Ch.made (C:=C) I;let r2:Co (V.ref (↑s+1):: (vs++dvs)) (Value.ref (↑s+1):: (us++ds)):=.cons O<|r.append hd;let hl: (Value.ref (↑s+1)::us++ds).length=ps.length:=by let e:=r2.length;rw[F.len _ _ _ _ hq]at e;show e.symm
 show GH (uq (f:=f) I.kIn M.makes M.init (beq_iff_eq.mp M.fn)<|Gy (F.run _ X.stack _ _ {Value.ref (↑s+1)::us,[]} (Value.ref (↑s+1):: (us++ds)) _ _ E (hr.make C us []) (λz=>I.ok.hd<|U.1 z) (λz=>by rw[U.2.1]at z;cases z) (D.env0.make C us []) (hb _ (Value.ref (↑s+1)::us) D.kIn hl) r2 hq) λr s' j=>?_);cases r with
 |error e=>show U.2.2 pZ σ _ _ e s' D j
 |ok fl=>
  cases fl with
  |ret u=>
   let(v,H',I3,rv,ev,q3):=D.after j;subst ev;show{rv,{V.ref<|↑s+1,H',I3,O,q3}}
  |next=>show Cc j|brk=>show Cc j|cont=>show Cc j
def Fh(M:Mk X.K C f)(F:EE X.prog X.w X.K X.mg X.base CX k f fd ps sp)(hr:EO (k+1) X.A)(hg:Gl X x)(hm:X.mg x=Y (.ref C))(hb:EK X.K fd ps ds)(hd:Co dvs ds)(hx:JQ CX X E)(ha:PA X (e::es) t)(D:↑((x==("__debug__" :AT))=false))(he: ~~~(Bs (e::es) X.env=(ge,Dw e X.env)::Bs es X.env))(z: ~~~((Ef pos<|Bs es X.env).any (·.1)=false)):
  PE X (.Call (.Name x p) (e::es) [] pos) (zC C sp dvs E t):=by intro 0 Q I h;show CQ<|Jr I hg hm ?_ D;show GS (h₀:=X.base) I.ok.mod.kin M.kp (DQ (ha pos pZ s σ H _ I h) λus s1 j=>?_) he z;let(vs,H1,U,r,q):=j;show{U.kIn,?_};show fu M F hr hb hd hx U r q
def tD(M:Mk X.K C f)(F:EE X.prog X.w X.K X.mg X.base CX k f fd ps sp)(hr:EO (k+1) X.A)(D:Gl X x)(hm:X.mg x=Y (.ref C))(U:EK X.K fd ps ds)(hd:Co dvs ds)(z:JQ CX X E)(j:↑((x==("__debug__" :AT))=false)):PE X (.Call (.Name x p) [] [] pos) (zC C sp dvs E bw):=by intro 0 Q I h;show CQ<|Jr I D hm ?_ j;show LL I.kIn M.kp<|fu (us:=[]) M F hr U hd z I .nil h
end
def PK(X:Cx)(kws:List YD)(t:TA):Prop:=∀(pos:Ij) (pZ:List (AH×Obj)) (s:AK) (σ:St) (H:Hp) (Q:List V->Hp->Prop),Ch X pZ σ H s->t σ H Q->By (model X.prog X.w) X.A (evalAll<|(MM pos<|Hv kws X.env).map (·.2)) (AP X pZ σ Q) X.xe s
section
variable{X:Cx}{CX:dE}{k:Nat}{f C:AH}{fd:Ea}{ps ks:List AT}{sp:Sp}{E:XK}{x m:AT}{p pos apos kpos:Ij}{e o:Expr}{es:List Expr}{kws:List YD}{te ta:TE}{t tk:TA}{nm:Option AT}
def D7:PK X [] bw:=λ_ _ _ _ H Q I h=>wpAny_evalAll_nil {[],H,I,.nil,h}
def xD(ha:PE X e te)(hr:PK X kws t):PK X ({(nm),e,kpos}::kws) (VU te t):=by intro pos pZ s σ H Q I h;change By _ _ (evalAll ((do let v <-Dw e X.env;YA pos;Ic v):: (MM pos<|Hv kws X.env).map (·.2))) _ _ s;show wpAny_evalAll_cons<|AG (DQ (ha pZ s σ H _ I h) λu s1 z=>?_);let(x,H1,I1,F,q1):=z;show AG<|GG (Bm ?_);show DQ (hr pos pZ s1 σ H1 _ I1 q1) λus s2 j=>(by let(xs,H2,I2,D,U):=j;show{x::xs,H2,I2,.cons F D,U})
structure A0K(K:AB)(fd:Ea)(ps ks:List AT)(g:List AC->List AC->List AC)(gV:List V->List V->List V):Prop where
 to:∀(s:AK) (us ws:List AC),K.In s.heap->(g us ws).length=ps.length->BindsTo s fd {us,ks.zip ws} (ps.zip<|g us ws)
 rel:∀{vs:List V} {us:List AC} {zs:List V} {ws:List AC},Co vs us->Co zs ws->Co (gV vs zs) (g us ws)
variable{g:List AC->List AC->List AC}{gV:List V->List V->List V}
end
structure AX(N P:List AT)(sc:Scope):Prop where
 kind:sc.kind= .function
 co:sc.isCoroutine=ge
 gen:sc.isGenerator=ge
 nd:N.Nodup
 pre:N.take P.length=P
 par:∀x∈P,sc.names.lookup x=Y .local\/sc.names.lookup x=Y .cell
 nofree:∀y∈sc.names,y.2≠ .free
def aY{kindOf:AT->Option NameKind}{x:AT}:∀{binds:List (AT×AC)} {m:AT->Option AC},(∀v,(x,v) ∉binds)->bindL kindOf binds m x=m x
 |[],_,_=>rfl
 |(n,v)::r,m,h=>by
  unfold bindL;rw[aY λw hw=>h w<|Bq _ hw];split
  ·have:x≠n:=by rintro rfl;show h v Bi
   simp[this]
  rfl
def ba{kindOf:AT->Option NameKind}{x:AT}:∀{binds:List (AT×AC)} {m:AT->Option AC},(∀v,(x,v) ∉binds)->bindC kindOf binds m x=m x
 |[],_,_=>rfl
 |(n,v)::r,m,h=>by
  unfold bindC;rw[ba λw hw=>h w<|Bq _ hw];split;·rfl
  have:x≠n:=by rintro rfl;show h v Bi
  simp[this]
def aZ{kindOf:AT->Option NameKind}{x:AT}{v:AC}:∀{P:List AT} {vs:List AC} {i:Nat} {m:AT->Option AC},P.Nodup->P[i]?=Y x->vs[i]?=Y v->kindOf x=Y .local->bindL kindOf (P.zip vs) m x=Y v
 |[],_,_,_,_,h,_,_=>by simp at h|_::_,[],_,_,_,_,h,_=>by simp at h
 |p::P,w::vs,0,m,nd,h1,h2,j=>by
  simp at h1 h2;subst h1;subst h2;change bindL kindOf ((p,w)::P.zip vs) m p=_;unfold bindL;rw[aY λv z=>(Lh.mp nd).1 (List.of_mem_zip z).1,A1O j];simp
 |p::P,w::vs,i+1,m,nd,h1,h2,j=>by
  change bindL kindOf ((p,w)::P.zip vs) m x=_;unfold bindL;show aZ (i:=i) (Lh.mp nd).2 (by simpa using h1) (by simpa using h2) j
def bc{kindOf:AT->Option NameKind}{x:AT}{v:AC}:∀{P:List AT} {vs:List AC} {i:Nat} {m:AT->Option AC},P.Nodup->P[i]?=Y x->vs[i]?=Y v->kindOf x≠Y .local->bindC kindOf (P.zip vs) m x=Y v
 |[],_,_,_,_,h,_,_=>by simp at h|_::_,[],_,_,_,_,h,_=>by simp at h
 |p::P,w::vs,0,m,nd,h1,h2,j=>by
  simp at h1 h2;subst h1;subst h2;change bindC kindOf ((p,w)::P.zip vs) m p=_;unfold bindC;rw[ba λv z=>(Lh.mp nd).1 (List.of_mem_zip z).1,A1N j];simp
 |p::P,w::vs,i+1,m,nd,h1,h2,j=>by
  change bindC kindOf ((p,w)::P.zip vs) m x=_;unfold bindC;show bc (i:=i) (Lh.mp nd).2 (by simpa using h1) (by simpa using h2) j
def OA(N:List AT)(vs:List V):St:=vs.map Y++SM (N.length - vs.length) S
noncomputable def UT(CX:dE)(P:Bn)(w:BP)(K:AB)(mg:AT->Option AC)(base:CB)(N:List AT)(qual:AT)(scope:Scope)(f:AH)(cd:AC)(A:CA)(outer:List bo)(s:AK)(H:Hp)(E:XK):Cx where
 prog:=P
 w:=w
 K:=K
 mg:=mg
 base:=base
 A:=A.deeper (FI qual scope ↑s f cd)
 N:=N
 s_:=s
 H_:=H
 env:=FI qual scope ↑s f cd
 outer:=outer
 stack:=FI qual scope ↑s f cd::outer
 ex:=[]
 calm:=CX.cm
 suit:=CX.sm
 fn:=λ_=>Z
 pn:=[]
 xe:=λe s'=>By (model P w) (A.deeper<|FI qual scope ↑s f cd) (leaving (FI qual scope ↑s f cd) e) (λ_ j=>CX.cx outer H s E e j) (λz j=>CX.cx outer H s E z j) s'
def gO{sc:Scope}{n:Nat}{x:AT}(h:sc.names.lookup x=Y .cell):∃c,(cellsFrom n sc.names []).lookup x=Y c:=by show Oe.mp<|PySem.W.cellsFrom_some sc.names n [] (.inl h)
def pd{CX:dE}{P:Bn}{w:BP}{K:AB}{mg:AT->Option AC}{base:CB}{N ps:List AT}{qual:AT}{scope:Scope}{f:AH}{cd:AC}{A:CA}{outer:List bo}{s s1:AK}{H:Hp}{E:XK}{us:List AC}{vs:List V}(Sq:AX N ps scope)(hd:CX.cm=Z->A.handled=S)(a2:CX.sm=Z->Hd A H)(j:ku P w K mg base A outer s H)(hl:vs.length=ps.length)(r:Co vs us)(x:InCallC s ↑s (bindL (FI qual scope ↑s f cd).kindOf (ps.zip us) λ_=>S) (cellsFrom (↑s+1) scope.names []) (bindC (FI qual scope ↑s f cd).kindOf (ps.zip us) λ_=>S) s1):
  Ch (UT CX P w K mg base N qual scope f cd A outer s H E) [] (OA N vs) H s1:=by
 let a6:ps.length<=N.length:=by have:=A1P List.length Sq.pre;rw[Cb]at this;lia
 let(h1,tk,O,hk):=x.done;let D:∀b:AH,b∉ (UT CX P w K mg base N qual scope f cd A outer s H E).ex:=λb z=>A1Q (show b∈ ([]:List AH)from z) (by simp);show{{j.mod,Sq.kind,O,O,Bh _,λy z c h1 h2=>?_,λy F=>?_,λy c _ h=>?_,hd,Around.frames_deeper j.frames,.inr {(O),O},λb z=>A1Q z<|D b,j.bs,j.bsz,λb _ _=>D b,λb z=>A1Q z<|D b,j.funs,j.frf,a2},O,j.bare,Un.kept hk,{_,x.toInCall.ns,λi y v h1 h2 h3=>?_},λy c h=>{_,x.cell y c h},j.hok.fresh<|Bh _,λy c h=>?_,λp hp=>A1Q (show p∈ ([]:List (AH×Obj))from hp) (by simp),j.hok.kept hk,?_};·show name_of_addr x.apart (Ff h1)<|Ff h2
 ·let F:scope.names.lookup y=Y .cell\/scope.names.lookup y=Y .free:=F;rcases F with F|F
  ·show gO F
  show A1Q O<|Sq.nofree _ (Ff F)
 ·show GU<|x.above y c (Ff h)
 ·let hi:i<vs.length:=by
   unfold OA at h2;by_cases hi:i<vs.length;·show hi
   rw[Cv (by simpa using hi)]at h2;rw[Po]at h2;split at h2 <;> cases h2
  let ha:vs[i]?=Y v:=by unfold OA at h2;rw[DK (by simpa using hi),AQ]at h2;cases e:vs[i]? with|none=>rw[e]at h2;cases h2|some a=>rw[e]at h2;cases h2;rfl
  let(u,hu,rv):=r.get ha;let hp:ps[i]?=Y y:=by rw[<-Sq.pre,Of ()];show h1
  let U:ps.Nodup:=by rw[<-Sq.pre];show Sq.nd.sublist<|List.take_sublist _ _
  show{u,rv,?_};rcases Sq.par y (AN hp)with k|k;·show .inl {k,aZ U hp hu k}
  let(c,e):=gO (n:=↑s+1) k;show .inr {.inl k,c,e,?_};let q:=x.cell y c e;rw[bc U hp hu (by change scope.names.lookup y≠_;rw[k];decide)]at q;show q
 ·show j.hok.fresh<|GU (x.above y c<|Ff h)
 unfold OA;change _=N.length;rw[AS,Ay,Rc]
 lia
def gA{CX:dE}{P:Bn}{w:BP}{K:AB}{mg:AT->Option AC}{base:CB}{k:Nat}{f:AH}{name qual:AT}{params:JW}{body:List Ih}{scope:Scope}{dV kV doc pm cdv ct oc:AC}{an od:Option AH}
  {osl:Array (Option AC)}{N ps:List AT}{sp:Sp}(lk:K.lookup f=Y {oc,od,.func<|Me name qual params body scope dV kV doc pm an cdv ct,osl})(a5:PySem.W.codeIn K cdv qual=Z)(Sq:AX N ps scope)
  (len:∀vs H Q E,sp vs H Q E->vs.length=ps.length)
  (z:∀(A:CA) (outer:List bo) (s:AK) (H:Hp) (vs:List V) (Q:VK) (E:XK),EO k (A.deeper<|FI qual scope ↑s f cdv)->sp vs H Q E->∃t,SS (UT CX P w K mg base N qual scope f cdv A outer s H E) body t/\t {nx:=λ_ H'=>Q .non H',rt:=Q} (OA N vs) H):
  EE P w K mg base CX (k+1) f (Me name qual params body scope dV kV doc pm an cdv ct) ps sp:=by
 show{len,λA outer s H args us vs Q E hr a4 a3 U hb r D=>?_};let KX:K.In s.heap:=U.mod.kin.keeps λb o e=>(U.bs b o e).1;let a2:s.heap.NoLimit:=U.mod.nolimit.keeps λb o e=>(U.bs b o e).1;let j:∀y∈ps.zip us,scope.names.lookup y.1=Y .local\/(scope.names.lookup y.1=Y .cell/\((cellsFrom (↑s+1) scope.names []).lookup y.1).isSome=Z):=λF hy=>by
  let(n,v):=F;rcases Sq.par n (List.of_mem_zip hy).1 with q|q;·show .inl q
  show .inr {q,PySem.W.cellsFrom_some _ _ _<|.inl q}
 show codeAny_call_function hr.depth (KX _ _ lk) O Sq.co Sq.gen O (PySem.W.codeRec_of KX a5)<|hb _ _ _ _ ?_;show wpAny_newFunctionEnv_cells Sq.kind j λenv he s1 x=>?_;subst he;show{a2.keeps x.toInCall.keep,codeAny_func ?_};let(t,ht,hq):=z A outer s H vs Q E (hr.deeper _) D;let I:Ch (UT CX P w K mg base N qual scope f cdv A outer s H E) [] (OA N vs) H s1:=pd Sq a4 a3 U (len _ _ _ _ D) r x;show Ee (ht [] s1 (OA N vs) H _ I hq) (λfl s' hs=>?_) λe s' hs=>hs;let fin:∀{σ':St} {H':Hp} {v:V} {u:AC},Ch (UT CX P w K mg base N qual scope f cdv A outer s H E) [] σ' H' s'->CK v u->Q v H'->CE outer P w H s Q u s':=λ{σ' H' v u} J rv q=>{(v),H',J.os,J.bare,J.base,J.hok,rv,q};cases fl with
 |ret u=>
  let(v,σ',H',J,rv,q):=hs;show fin J rv q
 |next=>
  let(σ',H',J,q):=hs;show fin (v:=V.non) (u:=Eg) J O q
 |brk=>
  let(_,_,_,q):=hs;show Cc q
 |cont=>
  let(_,_,_,q):=hs;show Cc q
section
variable{X:Cx}{x:AT}{p pos:Ij}{e:Expr}{es:List Expr}{t:TA}{id T:String}{r:List V->Hp->VK->Prop}
def n8(r:List V->Hp->VK->Prop)(t:TA):TE:=λσ H Q=>t σ H λvs H1=>r vs H1 Q
def tF(hc:Gf X (.builtin id) r)(hg:Gl X x)(hm:X.mg x=S)(hv:Cf x=Y (.builtin id))(ha:PA X (e::es) t)(hn:↑(x≠ "__name__"))(D:↑((x==("__debug__" :AT))=false))(he: ~~~(Bs (e::es) X.env=(ge,Dw e X.env)::Bs es X.env))(z: ~~~((Ef pos<|Bs es X.env).any (·.1)=false)):PE X (.Call (.Name x p) (e::es) [] pos) (n8 r t):=by intro 0 Q I h;show CQ<|OX I hg hm hv ?_ hn D;show Kj (DQ (ha pos pZ s σ H _ I h) λus s1 j=>(by let(vs,H1,I1,F,U):=j;show hc pZ s1 σ H1 vs us Q I1 F U)) he z
def om(hc:Gf X (.type T) r)(hg:Gl X x)(hm:X.mg x=S)(hv:Cf x=Y (.type T))(ha:PA X (e::es) t)(hn:↑(x≠ "__name__"))(D:↑((x==("__debug__" :AT))=false))(he: ~~~(Bs (e::es) X.env=(ge,Dw e X.env)::Bs es X.env))(z: ~~~((Ef pos<|Bs es X.env).any (·.1)=false)):PE X (.Call (.Name x p) (e::es) [] pos) (n8 r t):=by intro 0 Q I h;show CQ<|OX I hg hm hv ?_ hn D;show Hw (DQ (ha pos pZ s σ H _ I h) λus s1 j=>(by let(vs,H1,I1,F,U):=j;show hc pZ s1 σ H1 vs us Q I1 F U)) he z
end
end L2
namespace HT
open PySem PyProof.Rows
def U7:List Int->List Int->Bool|[],[]=>ge|[],_::_=>Z|_::_,[]=>ge|x::xs,y::ys=>if x=y then U7 xs ys else decide (x<y)
section
open PySem.SeqAt
open PySem.AutoSeq1 (wpAny_loadPart')
open PySem.MeetsSeq PySem.MeetsSeq2 PySem.MeetsSeq3
end
section
variable{prog:Bn}{w:BP}{A:CA}{E:AC->AK->Prop}{s:AK}
def sIx(n d:Nat):Option Int->Nat|none=>d|some v=>if v<0 then (v+ (n:Int)).toNat else min v.toNat n
def sIx_nat(n d k:Nat):sIx n d (Y (k:Int))=min k n:=by
 change(if (k:Int) <0 then ((k:Int) + (n:Int)).toNat else min (k:Int).toNat n)=min k n
 rw[A1N (),EZ]
end
end HT
namespace L2
open PySem PySem.Spec PyProof.Rows
abbrev TO:=St->Hp->(Option Int->Hp->Prop)->Prop
def PO(X:Cx)(e:Option Expr)(t:TO):Prop:=∀(pZ:List (AH×Obj)) (s:AK) (σ:St) (H:Hp) (Q:Option Int->Hp->Prop),Ch X pZ σ H s->t σ H Q->By (model X.prog X.w) X.A (evalPart e X.env) (λu s'=>∃o H',Ch X pZ σ H' s'/\IsPart u o/\Q o H') X.xe s
def wL:TO:=λ_ H Q=>Q S H
inductive M3(Q:Option Int->Hp->Prop)(x:V)(H1:Hp):Prop|mk (i:_) (_:x= .int i) (_:Q (some i) H1)
def Q6(t:TE):TO:=λσ H Q=>t σ H λx H1=>M3 Q x H1
def Xu{ns:List Int}:∀{us:List AC},Co (ns.map V.int) us->IntsAre us ns:=by
 induction ns with
 |nil=>intro us r;rw[HV]at r;cases r;show .nil
 |cons n ns D=>
  intro us r;rw[AV]at r;cases r with
  |cons z j=>
   let(t,e):=z;subst e;show .cons n t<|D j
section
variable{X:Cx}{e:Expr}{te:TE}{lo hi:Option Expr}{tl th:TO}{pos p2:Ij}
def HI:PO X S wL:=by intro 0 Q I h;rw[evalPart_none];show Bm {S,H,I,.none,h}
def HH(h:PE X e te):PO X (Y e) (Q6 te):=by intro 0 Q I hw;rw[evalPart_some];show DQ (h pZ s σ H _ I hw) λu s1 j=>?_;let(x,H1,F,z,D):=j;let(i,O,q):=D;let(t,O):=z;show{Y i,H1,F,.int i t,q}
def SlR(X:Cx)(r:V->Option Int->Option Int->Hp->VK->Prop):Prop:=∀(pZ:List (AH×Obj)) (s:AK) (σ:St) (H:Hp) (x:V) (v z j:AC) (lo hi:Option Int) (sl:AH) (Q:VK),Ch X pZ σ H s->CK x v->s.heap.IsSliceOf sl z j .none->IsPart z lo->IsPart j hi->r x lo hi H Q->∃T id,typeLookup (.type T) "__getitem__"=Ic (Y<|.builtin id)/\s.TypeIs v T/\By (model X.prog X.w) X.A (getItem v<|.ref sl) (EP X pZ σ Q) X.xe s
def tSl(r:V->Option Int->Option Int->Hp->VK->Prop)(te:TE)(tl th:TO):TE:=λσ H Q=>te σ H λx H1=>tl σ H1 λl H2=>th σ H2 λu H3=>r x l u H3 Q
def Gu{r:V->Option Int->Option Int->Hp->VK->Prop}(hr:SlR X r)(he:PE X e te)(hl:PO X lo tl)(hu:PO X hi th):PE X (.Subscript e (.Slice lo hi S p2) pos) (tSl r te tl th):=by intro 0 Q I h;show Subscript_<|DQ (he pZ s σ H _ I h) λv s1 F=>?_;let(x,H1,I1,r1,q1):=F;show wpAny_Slice<|DQ (hl pZ s1 σ H1 _ I1 q1) λvl s2 D=>?_;let(l,H2,I2,pl,q2):=D;show DQ (hu pZ s2 σ H2 _ I2 q2) λU j z=>?_;let(u,H3,I3,pu,q3):=z;rw[evalPart_none];show Bm ?_;let I4:Ch X pZ σ H3 {j with heap:=j.heap.push {cls:=.type "slice",data:=.fields #[vl,U,.none]}}:=I3.kept (t':=j.toks) λb ob q=>AF _ q;let(T,id,hT,ht,hg):=hr pZ {j with heap:=j.heap.push {cls:=.type "slice",data:=.fields #[vl,U,.none]}} σ H3 x v vl U l u ↑j Q I4 r1 (Heap.IsSliceOf.new ..) pl pu q3;change By (model X.prog X.w) X.A (subscriptTail e (.Slice lo hi S p2) v<|.ref ↑j) (EP X pZ σ Q) X.xe {j with heap:=j.heap.push {cls:=.type "slice",data:=.fields #[vl,U,.none]}};show tail_any (ops:=[.ref ↑j,v]) ht hT hg (by with_unfolding_all rfl)
def Oa(xs:List V)(lo hi:Option Int):List V:=(xs.drop<|HT.sIx xs.length 0 lo).take<|HT.sIx xs.length xs.length hi - HT.sIx xs.length 0 lo
def gK(xs:List V)(lo hi:Option Int): (Oa xs lo hi).length<=xs.length:=by
 unfold Oa;rw[Cb,DD]
 lia
end
def ij(n:Nat)(i:Int):Option Nat:=if 0<=i then (if i<n then Y i.toNat else S)else if -(n:Int)<=i then Y (i+n).toNat else S
def TN{z:Type}(xs:List z)(i:Int):Option z:=(ij xs.length i).bind λj=>xs[j]?
def lR{n:Nat}{i:Int}{j:Nat}(h:ij n i=Y j):seqIndex? i n=Y j/\j<n/\ -(n:Int)<=i/\i<n:=by
 unfold ij at h;by_cases z:0<=i
 ·rw[A1O z]at h;by_cases h1:i<n
  ·rw[A1O h1]at h;let e:i.toNat=j:=AE h;show{by rw[seqIndex_of z h1,e],(),(),h1}
  rw[A1N h1]at h;cases h
 rw[A1N z]at h;by_cases h1: -(n:Int)<=i;·rw[A1O h1]at h;let e: (i+n).toNat=j:=AE h;show{by rw[seqIndex_neg () h1,e],(),h1,()}
 rw[A1N h1]at h;cases h
def dg{z:Type}{xs:List z}{i:Int}{v:z}(h:TN xs i=Y v):∃j,seqIndex? i xs.length=Y j/\xs[j]?=Y v/\j<xs.length/\ -(xs.length:Int)<=i/\i<xs.length:=by
 unfold TN at h;cases e:ij xs.length i with
 |none=>rw[e]at h;cases h
 |some j=>
  rw[e]at h;let(h1,h2,h3,D):=lR e;show{(j),h1,h,h2,h3,D}
def CN{z:Type}{xs:List z}{j:Nat}{v:z}(h:xs[j]?=Y v):TN xs (j:Int)=Y v:=by
 let D:j<xs.length:=(AO.mp h).1;let e:ij xs.length (j:Int)=Y j:=by unfold ij;rw[A1O (),A1O ()];simp
 unfold TN;rw[e];show h
def dj(b:Expr):Prop:=∀o i,subscripted b ge o i=operate [o,i] (getItem o i)
def m6(X:Cx)(r:R2):Prop:=∀(value slice:Expr) (pZ:List (AH×Obj)) (s:AK) (σ:St) (H:Hp) (x y:V) (v u:AC) (Q:VK),Ch X pZ σ H s->CK x v->CK y u->r x y H Q->subscripted slice ge v u=operate [v,u] (getItem v u)->By (model X.prog X.w) X.A (subscriptTail value slice v u) (EP X pZ σ Q) X.xe s
def Y3(X:Cx)(id:String)(r:V->List V->Hp->VK->Prop):Prop:=∀(pZ:List (AH×Obj)) (s:AK) (σ:St) (H:Hp) (x:V) (xs:List V) (v:AC) (us:List AC) (Q:VK),Ch X pZ σ H s->CK x v->Co xs us->r x xs H Q->By (model X.prog X.w) X.A (call (.builtin id) (v::us)) (EP X pZ σ Q) X.xe s
section
variable{X:Cx}{a b:Expr}{ta tb:TE}{pos:Ij}
def Mx{r:R2}(hr:m6 X r)(ha:PE X a ta)(D:PE X b tb)(hs:dj b):PE X (.Subscript a b pos) (B5 r ta tb):=by intro 0 Q I h;show Subscript_<|L0 ha D I h λv u s2 x y H2 F z j q=>hr a b pZ s2 σ H2 x y v u Q F z j q<|hs _ _
inductive Z6(K:AB)(x:V)(y:V)(H:Hp)(Q:VK):Prop|mk (p xs i v:_) (_:x= .ref p) (_:y= .int i) (_:Cg K H p xs) (_:TN xs i=some v) (_:Q v H)
def C9(K:AB):R2:=λx y H Q=>Z6 K x y H Q
inductive Z4(K:AB)(x:V)(y:V)(H:Hp)(Q:VK):Prop|mk (p xs i v:_) (_:x= .ref p) (_:y= .int i) (_:Ec K H p xs) (_:TN xs i=some v) (_:Q v H)
def T1(K:AB):R2:=λx y H Q=>Z4 K x y H Q
inductive Z5(x:V)(y:V)(H:Hp)(Q:VK):Prop|mk (z i c:_) (_:x= .str z) (_:y= .int i) (_:z.length<=sizeLine) (_:TN z.cps.toList i=some c) (_:Q (.str ⟨#[c]⟩) H)
def A03:R2:=λx y H Q=>Z5 x y H Q
def lQ:m6 X (C9 X.K):=by
 intro value slice pZ s σ H x y v u Q I rx ry h hs;let(p,xs,i,z,O,O,hq,he,q):=h;cases rx;let(t,O):=ry;let(F,r,pl,hz):=I.list hq;let(j,h1,h2,h3,h4,h5):=dg he;let(w,ew,D):=r.get h2;let hl:=r.length;let hn:=Tu;let fin:EP X pZ σ Q w s:={(z),H,I,D,q};by_cases h0:0<=i
 ·let U:i.toNat=j:=by rw[seqIndex_of h0 h5]at h1;show AE h1
  show item_listR pl.isList h0 () (by rw[U];simpa using ew) fin hs
 let U: (i+ (F.toArray.size:Int)).toNat=j:=by rw[seqIndex_neg () h4]at h1;rw[Bj,<-hl];show AE h1
 show subscriptTail_builtinR (x:=w) pl.isList.typeIs slot_list_getitem.lookup (wpAny_getItem_list_neg (Q:=λr s'=>r=w/\EP X pZ σ Q r s') pl.isList () (by rw[Bj] <;> lia) () (by rw[U];simpa using ew) {(O),fin}) hs
def G9:m6 X (T1 X.K):=by intro value slice pZ s σ H x y v u Q I U F h hs;let(p,xs,i,z,O,O,hq,he,q):=h;cases U;let(t,O):=F;let(a1,r,pl,hz):=I.tuple hq;let(j,h1,h2,h3,h4,h5):=dg he;let(w,ew,D):=r.get h2;let hn:=Tu;let fin:EP X pZ σ Q w s:={(z),H,I,D,q};show subscriptTail_builtinR (x:=w) pl.typeIs slot_tuple_getitem.lookup (getItem_tuple (j:=j) (Q:=λr s'=>r=w/\EP X pZ σ Q r s') pl () () (by rw[Bj,<-r.length];show h1) (by simpa using ew) {(O),fin}) hs
def TB:m6 X A03:=by
 intro value slice pZ s σ H x y v u Q I F D h hs;let(z,i,c,O,O,hz,he,q):=h;let(t,O):=F;let(t',O):=D;let(j,h1,h2,h3,h4,h5):=dg he;let U:z.cps.toList.length=z.length:=by simp[Str.length]
 rw[U]at h1 h4 h5;let hn:=Tu;show tail_any (Pg s z t) slot_str_getitem.lookup (getItem_str (c:=c) (by
  let e1:decide (i< -(2 ^ 63:Int))=false:=A1L ();let e2:decide (i>=2 ^ 63)=false:=A1L ();rw[e1,e2,Bool.or_false]) (by rw[h1];simpa using h2) {.str {#[c]},H,I.tok _,{(_),O},q}) hs
def jy(z:List AC)(n j:Nat)(u:AC):Obj.mapSeq (·.setIfInBounds j u) {cls:=.type "list",data:=.seq z.toArray n}={cls:=.type "list",data:=.seq (z.set j u).toArray n}:=by simp[Obj.mapSeq]
def Ch.lst{pZ:List (AH×Obj)}{σ:St}{H:Hp}{s:AK}{p:AH}{xs:List V}(I:Ch X pZ σ H s)(h:H p=Y (.lst xs)):
  ∃(j:List AC) (n:Nat),Co xs j/\s.heap.get? p=Y {cls:=.type "list",data:=.seq j.toArray n}/\xs.length<=sizeLine:=by let(z,j,n,r,e):=I.hok p _ h;show{(j),n,r,e,z}
def Ch.lstUpd{pZ:List (AH×Obj)}{σ:St}{H:Hp}{s:AK}{p:AH}{xs ys:List V}{j its':List AC}{n z:Nat}{f:Obj->Obj}(I:Ch X pZ σ H s)(h:H p=Y (.lst xs))(F:s.heap.get? p=Y {cls:=.type "list",data:=.seq j.toArray n})(hf:f {cls:=.type "list",data:=.seq j.toArray n}={cls:=.type "list",data:=.seq its'.toArray z})(r:Co ys its')(D:ys.length<=sizeLine)(t:Nat):
  Ch X pZ σ (upd H p<|.lst ys) {s with heap:=s.heap.update p f,toks:=t}:=by
 let e: (s.heap.update p f).get? p=Y {cls:=.type "list",data:=.seq its'.toArray z}:=by rw[FY f F (by rw[hf] <;> rfl),hf]
 show I.write (x:=p) (e:=p) (by rw[h];trivial) (.inl O) (λb u U q=>(CO _ _<|CL U).trans q) {(_),e} ?_;show{(D),its',z,r,e}
def S8:V->V->V->Hp->(Hp->Prop)->Prop:=λo i v H Q=>∃p xs k j,o= .ref p/\i= .int k/\H p=Y (.lst xs)/\ij xs.length k=Y j/\Q (upd H p<|.lst (xs.set j v))
def Iu:Y0 X S8:=by
 intro 0 o i v ov iv u Q I ro ri rv h;let(p,xs,k,j,O,O,hp,hj,q):=h;cases ro;let(t,O):=ri;let(z,n,r,D,hz):=I.lst hp;let(h1,h2,h3,h4):=lR hj;let F:=r.length;let hn:=Tu;let I':Ch X pZ σ (upd H p<|.lst (xs.set j v)) {s with heap:=s.heap.update p (Obj.mapSeq (·.setIfInBounds j u))}:=I.lstUpd hp D (jy z n j u) (r.set rv j) (by rw[IM];show hz) s.toks;by_cases h0:0<=k
 ·let U:k.toNat=j:=by rw[seqIndex_of h0 h4]at h1;show AE h1
  show PySem.W.ki_setAt D h0 () (by rw[Bj,<-F];show h4) (by rw[U];show{(_),I',q})
 let U: (k+ (z.toArray.size:Int)).toNat=j:=by rw[seqIndex_neg () h3]at h1;rw[Bj,<-F];show AE h1
 show PySem.W.ki_setBack D () (by rw[Bj,<-F];show h3) () (by rw[U];show{(_),I',q})
def bH(lo hi:Option Int)(n:Nat): (ML lo hi S n).1=((HT.sIx n 0 lo:Nat):Int)/\(ML lo hi S n).2.1=((HT.sIx n n hi:Nat):Int)/\(ML lo hi S n).2.2=1:=by
 show{?_,?_,O}
 ·cases lo with
  |none=>simp[ML,HT.sIx]
  |some i=>
   simp only[ML,HT.sIx,Option.getD_none,show(1:Int) >0 by decide,if_true];by_cases h:i<0;·simp only[h,if_true] <;> lia
   simp only[h,if_false] <;> lia
 cases hi with
 |none=>simp[ML,HT.sIx]
 |some i=>
  simp only[ML,HT.sIx,Option.getD_none,show(1:Int) >0 by decide,if_true];by_cases h:i<0;·simp only[h,if_true] <;> lia
  simp only[h,if_false] <;> lia
def YJ(j:List AC)(lo hi:Option Int):slicePick j.toArray lo hi S=((j.drop<|HT.sIx j.length 0 lo).take<|HT.sIx j.length j.length hi - HT.sIx j.length 0 lo).toArray:=by let(h1,h2,h3):=bH lo hi j.toArray.size;unfold slicePick;rw[h1,h2,h3];simp only[sliceRange_one,pick_run,Bj] <;> rfl
inductive Z2(K:AB)(x:V)(lo:Option Int)(hi:Option Int)(H:Hp)(Q:VK):Prop|mk (a xs:_) (_:x= .ref a) (_:Cg K H a xs) (_:∀p,H p=none->Q (.ref p) (upd H p<|.lst (Oa xs lo hi)))
def A02(K:AB):V->Option Int->Option Int->Hp->VK->Prop:=λx lo hi H Q=>Z2 K x lo hi H Q
def RC:SlR X (A02 X.K):=by intro 0 x v vl vu lo hi sl Q I D hs pl F h;let(a,xs,O,hx,q):=h;cases D;let(U,r,z,hz):=I.list hx;let j:=r.length;show{"list",_,slot_list_getitem.lookup,z.isList.typeIs,?_};show wpAny_getItem_list_slice z.isList hs pl F .none (by simp) ?_ (by rw[Bj] <;> lia);rw[YJ,<-j];show{.ref ↑s,_,I.laid (t':=s.toks) (o:=.lst<|Oa xs lo hi) (λb ob q=>AF _ q) (Bh _) ?_,O,q _<|I.hok.fresh (Bh _)};show{AU (gK xs lo hi) hz,_,0,(r.drop<|HT.sIx xs.length 0 lo).take<|HT.sIx xs.length xs.length hi - HT.sIx xs.length 0 lo,Bu _ O}
def Qz:V->Bool|.non=>Z|.bl _=>Z|.int _=>Z|.str _=>Z|_=>ge
def yF:V->V->Bool|.non,.non=>Z|.bl a,.bl b=>a==b|.bl a,.int b=>(if a then 1 else 0)==b|.int a,.bl b=>a==(if b then 1 else 0)|.int a,.int b=>a==b|.str a,.str b=>a==b|_,_=>ge
def K0{A:CA}{s:AK}{y x:V}{u v:AC}(z:CK y u)(j:CK x v)(D:Qz y=Z)(fx:Qz x=Z):SeqAt.EqAt A s u v (yF y x):=by
 cases y with
 |non=>
  cases z;cases x with|non=>cases j;show SeqAt.EqAt.same _|bl b=>cases j;show SeqAt.EqAt.none_bool b|int b=>let(t,O):=j;show SeqAt.EqAt.none_int b t|str b=>let(t,O):=j;show SeqAt.EqAt.none_str b t|_=>show A1Q (show ge=Z from fx) Bo
 |bl a=>
  cases z;cases x with|non=>cases j;show SeqAt.EqAt.bool_none a|bl b=>cases j;show SeqAt.EqAt.bool_bool a b|int b=>let(t,O):=j;show SeqAt.EqAt.bool_int a b t|str b=>let(t,O):=j;show SeqAt.EqAt.bool_str a b t|_=>show A1Q (show ge=Z from fx) Bo
 |int a=>
  let(t',O):=z;cases x with|non=>cases j;show SeqAt.EqAt.int_none a t'|bl b=>cases j;show SeqAt.EqAt.int_bool a t' b|int b=>let(t,O):=j;show SeqAt.EqAt.int_int a t' b t|str b=>let(t,O):=j;show SeqAt.EqAt.int_str a t' b t|_=>show A1Q (show ge=Z from fx) Bo
 |str a=>
  let(t',O):=z;cases x with|non=>cases j;show SeqAt.EqAt.str_none a t'|bl b=>cases j;show SeqAt.EqAt.str_bool a t' b|int b=>let(t,O):=j;show SeqAt.EqAt.str_int a t' b t|str b=>let(t,O):=j;show SeqAt.EqAt.str_str a t' b t|_=>show A1Q (show ge=Z from fx) Bo
 |_=>show A1Q (show ge=Z from D) Bo
def jN(x:V)(u:AC):Bool:=match u with
 |.none=>yF .non x|.bool b=>yF (.bl b) x|.int i _=>yF (.int i) x|.str z _=>yF (.str z) x|_=>ge
def vd{x y:V}{u:AC}(r:CK y u)(f:Qz y=Z):jN x u=yF y x:=by cases y with|non=>cases r;rfl|bl b=>cases r;rfl|int i=>let(t,O):=r;rfl|str z=>let(t,O):=r;rfl|_=>show A1Q (show ge=Z from f) Bo
def Sy{x:V}:∀{xs:List V} {us:List AC},Co xs us->xs.all Qz=Z->us.any (jN x)=xs.any λy=>yF y x
 |_,_,.nil,_=>rfl
 |y::xs,u::us,.cons r t,f=>by
  rw[Og,AA]at f;rw[Kp,Kp,vd r f.1,Sy t f.2]
def OU{A:CA}{s:AK}{x:V}{v:AC}(z:CK x v)(fx:Qz x=Z):∀{xs:List V} {us:List AC},Co xs us->xs.all Qz=Z->∀u∈us,SeqAt.EqAt A s u v<|jN x u
 |_,_,.nil,_=>λu j=>by cases j
 |y::xs,u::us,.cons r t,f=>λD j=>by
  rw[Og,AA]at f;rcases Bf.mp j with rfl|j;·rw[vd r f.1];show K0 r z f.1 fx
  show OU z fx t f.2 D j
def jH(x:V)(xs:List V):Bool:=xs.any λy=>yF y x
inductive A0O(K:AB)(neg:Bool)(x:V)(y:V)(H:Hp)(Q:VK):Prop|mk (p xs:_) (_:y= .ref p) (_: (Cg K H p xs\/Ec K H p xs)) (_:Qz x=true) (_:xs.all Qz=true) (_:Q (.bl<|if neg then !jH x xs else jH x xs) H)
def rIn(K:AB)(neg:Bool):R2:=λx y H Q=>A0O K neg x y H Q
def Jf:MR X (Dh .In) (rIn X.K ge):=by
 intro 0 x y v u Q I D F h;let(p,xs,O,z,fx,fs,q):=h;cases F;rcases z with z|z;·let(j,r,pl,U):=I.list z;show SeqAt.in_listAt (jN x) pl.isList (λw hw=>OU D fx r fs w<|by simpa using hw) {.bl _,H,I,O,?_};rw[show j.toArray.any (jN x)=j.any (jN x)by simp,Sy r fs];show q
 let(j,r,pl,U):=I.tuple z;show SeqAt.in_tupleAt (jN x) pl (λw hw=>OU D fx r fs w<|by simpa using hw) {.bl _,H,I,O,?_};rw[show j.toArray.any (jN x)=j.any (jN x)by simp,Sy r fs];show q
def cu:MR X (Dh .NotIn) (rIn X.K Z):=by
 intro 0 x y v u Q I D F h;let(p,xs,O,z,fx,fs,q):=h;cases F;rcases z with z|z;·let(j,r,pl,U):=I.list z;show SeqAt.notIn_listAt (jN x) pl.isList (λw hw=>OU D fx r fs w<|by simpa using hw) {.bl _,H,I,O,?_};rw[show j.toArray.any (jN x)=j.any (jN x)by simp,Sy r fs];show q
 let(j,r,pl,U):=I.tuple z;show SeqAt.notIn_tupleAt (jN x) pl (λw hw=>OU D fx r fs w<|by simpa using hw) {.bl _,H,I,O,?_};rw[show j.toArray.any (jN x)=j.any (jN x)by simp,Sy r fs];show q
def Cd:Gf X (.builtin "len") (λxs H Q=>∃p ys,xs=[.ref p]/\(Cg X.K H p ys\/Ec X.K H p ys)/\Q (.int ys.length) H):=by
 intro 0 xs us Q I r h;let(p,ys,O,z,q):=h;let(u,O,U):=KB r;cases U;let hn:=Tu;rcases z with z|z;·let(F,D,pl,hz):=I.list z;let j:=D.length;show Calls.call_len_list pl.isList (by simp only[Bj] <;> lia) {.int ys.length,H,I.tok _,{s.toks+1,by rw[Bj,j]},q}
 let(F,D,pl,hz):=I.tuple z;let j:=D.length;show len_tuple pl (by simp only[Bj] <;> lia) {.int ys.length,H,I.tok _,{s.toks+1,by rw[Bj,j]},q}
def Gk:Gf X (.builtin "len") (λxs H Q=>∃z,xs=[.str z]/\z.length<=sizeLine/\Q (.int z.length) H):=by intro 0 xs us Q I r h;let(z,O,j,q):=h;let(u,O,t,O):=KB r;let hn:=Tu;show len_str () {.int z.length,H,I.tok _,{(_),O},q}
def EV:Gf X (.type "list") (λxs H Q=>∃p ys,xs=[.ref p]/\(Cg X.K H p ys\/Ec X.K H p ys)/\∀l,H l=S->Q (.ref l) (upd H l<|.lst ys)):=by
 intro 0 xs us Q I r h;let(p,ys,O,F,q):=h;let(u,O,rx):=KB r;cases rx;let fin:∀(j:List AC),Co ys j->ys.length<=sizeLine->∀(h':CB) (c':Nat),(∀b o',s.heap.get? b=Y o'->h'.get? b=Y o')->h'.get? ↑s=Y {cls:=.type "list",dict:=S,data:=.seq j.toArray c',slots:=#[]}->EP X pZ σ Q (.ref ↑s) {s with heap:=h'}:=λj z D h' c' kp e=>
  {.ref ↑s,_,I.laid (t':=s.toks) kp (Bh _)<|show Dd X.prog X.w _ h' _ (.lst ys)from{(D),j,c',z,e},O,q _<|I.hok.fresh (Bh _)}
 rcases F with F|F;·let(j,z,pl,D):=I.list F;let U:=z.length;let(o,ho,hc,n,hd):=pl.isList;show call_list_seq p (.inl O) ho hc hd (λh' c' kp e=>fin j z D h' c' kp e) (by simp only[Bj] <;> lia)
 let(j,z,pl,D):=I.tuple F;let U:=z.length;let(o,ho,hc,n,hd):=pl;show call_list_seq p (.inr O) ho hc hd (λh' c' kp e=>fin j z D h' c' kp e) (by simp only[Bj] <;> lia)
def QA:Gf X (.type "tuple") (λxs H Q=>∃p ys,xs=[.ref p]/\((Cg X.K H p ys/\∀l,H l=S->Q (.ref l) (upd H l<|.tup ys))\/(Ec X.K H p ys/\Q (.ref p) H))):=by
 intro 0 xs us Q I r h;let(p,ys,O,h):=h;let(u,O,rx):=KB r;cases rx;rcases h with⟨D,q⟩|⟨D,q⟩;·let(j,z,pl,F):=I.list D;let U:=z.length;show call_tuple_list pl.isList (λh' kp=>?_) (by simp only[Bj] <;> lia);let I1:Ch X pZ σ H {s with heap:=h'}:=I.kept (t':=s.toks) kp;let I2:Ch X pZ σ (upd H h'.objs.size<|.tup ys) {s with heap:=h'.push {cls:=.type "tuple",data:=.seq j.toArray}}:=I1.laid (t':=s.toks) (λb o e=>AF _ e) (Bh _)<|show Dd X.prog X.w _ _ _ (.tup ys)from{F,j,z,IsTup.new _ _};show{.ref h'.objs.size,_,I2,O,q _<|I1.hok.fresh (Bh _)}
 let(j,z,pl,F):=I.tuple D;show call_tuple_same pl {.ref p,H,I,O,q}
def y0(K:AB)(T:String)(x:V)(H:Hp):Prop:=match x with
 |.str _=>T="str"|.int _=>T="int"|.ref p=>(T="list" /\∃xs,Cg K H p xs)\/(T="tuple" /\∃o,K.lookup p=Y o/\o.cls= .type "tuple" /\o.dict=S)\/(T="dict" /\((∃kvs,H p=Y (.dK kvs))\/∃kvs,H p=Y (.dT kvs)))\/(T="set" /\∃Sq n,H p=Y (.set Sq n))|_=>False
def A9{pZ:List (AH×Obj)}{σ:St}{H:Hp}{s:AK}{T:String}{x:V}{v:AC}(I:Ch X pZ σ H s)(r:CK x v)(ty:y0 X.K T x H):
  s.TypeIs v T/\∀a,v= .ref a->∃ob,s.heap.get? a=Y ob/\ob.dict=none:=by
 cases x with
 |str z=>
  let(t,O):=r;cases (show T="str" from ty);show{Pg s z t,λ_ e=>nomatch e}
 |int i=>
  let(t,O):=r;cases (show T="int" from ty);show{typeIs_int s i t,λ_ e=>nomatch e}
 |ref p=>
  cases r;rcases ty with⟨rfl,xs,U⟩|⟨rfl,o,j,hc,hd⟩|⟨rfl,j⟩|⟨rfl,Sq,n,j⟩;·let(F,_,pl,_):=I.list U;show{pl.isList.typeIs,λa e=>?_};cases e;let(o,n,e,c,hd,_):=pl;show{(o),e,hd}
  ·show{{o,I.kIn p o j,hc},λa e=>?_};cases e;show{o,I.kIn _ o j,hd}
  ·let z:∃o,s.heap.get? p=Y o/\o.ExactDict:=by
    rcases j with⟨kvs,j⟩|⟨kvs,j⟩;·let(_,_,_,_,o,_,_,e,ex,_):=I.hok p _ j;show{(o),e,ex}
    let(_,_,_,_,o,_,_,e,ex,_):=I.hok p _ j;show{(o),e,ex}
   let(o,e,ex):=z;show{{(o),e,ex.1},λa D=>?_};cases D;show{(o),e,ex.2.1}
  let(o,_,_,_,e,ex,_):=I.hok p _ j;show{{(o),e,ex.1},λa D=>?_};cases D;show{(o),e,ex.2.1}
 |_=>show Cc ty
inductive A0L(K:AB)(T:String)(r:V->List V->Hp->VK->Prop)(t:TA)(σ:St)(Q:VK)(x:V)(H1:Hp):Prop|mk (_:y0 K T x H1) (_:t σ H1 λxs H2=>r x xs H2 Q)
def tBM(K:AB)(T:String)(r:V->List V->Hp->VK->Prop)(to:TE)(t:TA):TE:=λσ H Q=>to σ H λx H1=>A0L K T r t σ Q x H1
variable{o e:Expr}{es:List Expr}{to:TE}{t:TA}{name:AT}{apos cpos:Ij}{T id:String}{r:V->List V->Hp->VK->Prop}
def Ej(pa:PlainAttrs T)(slot:Slot T name id)(a2:typeOf (.builtin id)=Ic (.type "method_descriptor"))(hm:Y3 X id r)(ho:PE X o to)(ha:PA X (e::es) t)(U: ~~~(HJ o name X.env (Dw o X.env)=Dw o X.env))(a1: ((Ef cpos<|Bs (e::es) X.env).all (λx=>!x.1) && (MM cpos<|Hv [] X.env).all (λx=>x.1.isSome)
   &&decide ((e::es).length+ ([]:List YD).length+ (if ([]:List YD).isEmpty then 0 else 1) <30))=true:=by rfl)
  (z: ~~~((apos.endLine==cpos.line)=true))(hs: ~~~(Bs (e::es) X.env=(ge,Dw e X.env)::Bs es X.env))(j: ~~~((Ef cpos<|Bs es X.env).any (·.1)=false)):
  PE X (.Call (.Attribute o name apos) (e::es) [] cpos) (tBM X.K T r to t):=by intro 0 Q I h;show wpAny_Call_method_late U a1 z O<|DQ (ho pZ s σ H _ I h) λv s1 F=>?_;let(x,H1,I1,r1,ty,q1):=F;let(h1,h2):=A9 I1 r1 ty;show{T,id,pa,slot,a2,h1,h2,?_};let hA:=ha cpos pZ s1 σ H1 _ I1 q1;rw[hs]at hA ⊢;show Calls.callWith_builtin (by change(ge|| (Ef cpos<|Bs es X.env).any (·.1))=ge;rw[j] <;> rfl)<|Yt ?_;show DQ hA λus s2 D=>(by let(vs,H2,I2,r2,q2):=D;show hm pZ s2 σ H2 x vs v us Q I2 r1 r2 q2)
end
def x5(X:Cx)(id:String)(r:V->List V->Hp->VK->Prop):Prop:=∀(pZ:List (AH×Obj)) (s:AK) (σ:St) (H:Hp) (x:V) (xs:List V) (v:AC) (us:List AC) (Q:VK),Ch X pZ σ H s->CK x v->Co xs us->r x xs H Q->By (model X.prog X.w) X.A (call (.builtin id) (v::us)) (EP X pZ σ Q) X.xe s
def Co.one:∀{x:V} {us:List AC},Co [x] us->∃u,us=[u]/\CK x u:=λh=>by
 cases h with|cons r t=>cases t;show{(_),O,r}
def Co.two:∀{x y:V} {us:List AC},Co [x,y] us->∃u v,us=[u,v]/\CK x u/\CK y v:=λh=>by
 cases h with
 |cons r t=>
  cases t with|cons q t=>cases t;show{(_),_,O,r,q}
def Co.eraseIdx:∀{xs:List V} {us:List AC} (i:Nat),Co xs us->Co (xs.eraseIdx i) (us.eraseIdx i)|_,_,_,.nil=>.nil|_,_,0,.cons _ t=>t|_,_,i+1,.cons r t=>.cons r<|Co.eraseIdx i t
def aD{j:Type}:∀(l:List j) (i:Nat),(l.eraseIdx i).length<=l.length|[],_=>Bh _|_::_,0=>ER _|_::r,i+1=>ZG<|aD r i
section
variable{X:Cx}{pZ:List (AH×Obj)}{σ:St}{H:Hp}{s:AK}{l b:AH}{xs ys zs:List V}
def Ch.lset{j its':List AC}{n:Nat}{f:Array AC->Array AC}{t':Nat}(I:Ch X pZ σ H s)(hH:H l=Y (.lst xs))(e:s.heap.get? l=Y {cls:=.type "list",data:=.seq j.toArray n})(hf:f j.toArray=its'.toArray)(D:Co ys its')(z:ys.length<=sizeLine):
  Ch X pZ σ (upd H l<|.lst ys) {s with heap:=s.heap.update l<|Obj.mapSeq f,toks:=t'}:=by let q:=PySem.IsL.update e f;rw[hf]at q;show I.write (x:=l) (e:=l) (by rw[hH];show trivial) (.inl O) (λb' u U F=>(CO s.heap (Obj.mapSeq f)<|CL U).trans F) {(_),q} ?_;show{(z),its',_,D,q}
def Ch.lnew{j:List AC}{t':Nat}(I:Ch X pZ σ H s)(D:Co ys j)(z:ys.length<=sizeLine):
  Ch X pZ σ (upd H ↑s<|.lst ys) {s with heap:=s.heap.push {cls:=.type "list",data:=.seq j.toArray},toks:=t'}:=I.laid (λ_ _ q=>AF _ q) (Bh _) {z,j,0,D,Bu _ O}
def Ch.fresh(I:Ch X pZ σ H s):H ↑s=none:=I.hok.fresh<|Bh _
def Ch.lstM(I:Ch X pZ σ H s)(D:H l=Y (.lst xs)):xs.length<=sizeLine/\∃(j:List AC) (n:Nat),Co xs j/\xs.length=j.length/\s.heap.get? l=Y {cls:=.type "list",data:=.seq j.toArray n}:=by let(z,j,n,r,e):=I.hok l _ D;show{(z),j,n,r,r.length,e}
def uf{n:Nat}(h:n<=sizeLine):Rf n=false:=by unfold Rf;show A1L ()
end
section
variable{X:Cx}
inductive wj(x:V)(vs:List V)(H:Hp)(Q:VK):Prop|mk (l xs y:_) (_:x= .ref l) (_:vs=[y]) (_:H l=some (.lst xs)) (_:xs.length<sizeLine) (_:Q .non (upd H l<|.lst (xs++[y])))
def Kf:V->List V->Hp->VK->Prop:=λx vs H Q=>wj x vs H Q
def Du:x5 X "list.append" Kf:=by
 intro 0 x vs v us Q I U rv h;let(l,xs,y,O,O,D,hz,q):=h;cases U;let(u,O,ru):=rv.one;let(z,j,n,r,hl,e):=I.lstM D;show Ma F.slot_list_append {(_),e,O} F.entry_list_append (F.args_list_append_2 _ _) (PySem.list_append l j.toArray n u<|by rw[Bj];lia) {e,?_};show{.non,_,I.lset (its':=j++[u]) D e (by simp) (r.append<|.cons ru .nil) ?_,O,q};rw[AS,Rb]
 lia
inductive wh(x:V)(vs:List V)(H:Hp)(Q:VK):Prop|mk (l b xs zs:_) (_:x= .ref l) (_:vs=[.ref b]) (_:H l=some (.lst xs)) (_:H b=some (.lst zs)) (_:xs.length+zs.length<=sizeLine) (_:Q .non (upd H l<|.lst (xs++zs)))
def xq:V->List V->Hp->VK->Prop:=λx vs H Q=>wh x vs H Q
def aB:x5 X "list.extend" xq:=by
 intro 0 x vs v us Q I rx rv h;let(l,b,xs,zs,O,O,hH,hB,hz,q):=h;cases rx;let(u,O,ru):=rv.one;cases ru;let(z,D,n,r,hl,e):=I.lstM hH;let(z2,j,n2,r2,a6,e2):=I.lstM hB;let hsz:D.toArray.size+j.toArray.size<=sizeLine:=by rw[Bj,Bj];lia
 let U:¬ (!D.toArray.isEmpty&&Rf (D.toArray.size+j.toArray.size))=true:=by rw[uf hsz,Dg];show Bo
 show Ma F.slot_list_extend {(_),e,O} F.entry_list_extend (F.args_list_extend_2 _ _) (AutoSeq1.list_extend_list_list_0 l D.toArray n b j.toArray n2 U (by rw[Bj];lia)<|()) {e,e2,?_};show{.non,_,I.lset (its':=D++j) hH e (by simp) (r.append r2) ?_,O,q};rw[AS]
 lia
inductive zh(x:V)(vs:List V)(H:Hp)(Q:VK):Prop|mk (l xs i k y:_) (_:x= .ref l) (_:vs=[.int i]) (_:H l=some (.lst xs)) (_: -(2 ^ 63)<=i) (_:i<2 ^ 63) (_:seqIndex? i xs.length=some k) (_:xs[k]?=some y) (_:Q y (upd H l<|.lst (xs.eraseIdx k)))
def C7:V->List V->Hp->VK->Prop:=λx vs H Q=>zh x vs H Q
def uk:x5 X "list.pop" C7:=by
 intro 0 x vs v us Q I rx rv h;let(l,xs,i,k,y,O,O,U,h1,h2,hk,hy,q):=h;cases rx;let(u,O,ru):=rv.one;let(t,O):=ru;let(z,j,n,r,hl,e):=I.lstM U;let(w,hw,D):=r.get hy;show Ma F.slot_list_pop {(_),e,O} F.entry_list_pop (F.args_list_pop_2 _ _) (MeetsSeq.list_pop_at l j.toArray n i t k w (fitsIndex_both h1 h2) (by rw[Bj,<-hl];show hk) (by rw[<-Array.getElem?_toList];show hw)<|by rw[Bj];lia) {e,?_};show{y,_,I.lset (its':=j.eraseIdx k) U e ?_ (r.eraseIdx k) ?_,D,q};·change j.toArray.eraseIdxIfInBounds k=(j.eraseIdx k).toArray;rw[List.eraseIdxIfInBounds_toArray]
 have:=aD xs k
 lia
inductive Z8(x:V)(y:V)(H:Hp)(Q:VK):Prop|mk (l b xs zs:_) (_:x= .ref l) (_:y= .ref b) (_:H l=some (.lst xs)) (_:H b=some (.lst zs)) (_:xs.length+zs.length<=sizeLine) (_:∀p,H p=none->Q (.ref p) (upd H p<|.lst (xs++zs)))
def A04:R2:=λx y H Q=>Z8 x y H Q
def JO:MR X (Pl .Add) A04:=by
 intro 0 x y v u Q I U F h;let(l,b,xs,zs,O,O,hH,hB,hz,q):=h;cases U;cases F;let(z,D,n,r,hl,e):=I.lstM hH;let(z2,j,n2,r2,a2,e2):=I.lstM hB;show PySem.P.add_list e e2 ?_ (by rw[Bj,Bj];lia);let ea:D.toArray++j.toArray=(D++j).toArray:=by simp
 rw[ea];show{.ref _,_,I.lnew (t':=s.toks) (r.append r2) (by rw[AS];lia),O,q _ I.fresh}
end
section
variable{prog:Bn}{w:BP}{A:CA}{E:AC->AK->Prop}{s:AK}
end
section
variable{X:Cx}
end
end L2
namespace Att
open PySem PySem.W PySem.Calls PyProof.Rows
def US{P:Params}{h:CB}:∀(ns:List Int) (vs:List AC),WellAll P h vs (ns.map bh)->IntsAre vs ns:=by
 intro ns;induction ns with
 |nil=>
  intro vs w;rw[HV]at w;cases w;show .nil
 |cons n ns j=>
  intro vs w;rw[AV]at w;cases w with
  |cons a b=>
   cases a;show .cons _ _<|j _ b
def nV{l:OpenLaw}{n:Nat}(hn:l.most=Y n){P:Params}{h:CB}{args:List WData}{j:List AC}(Sg:l.row.toRowW.claim.pre args=Z)(a1:WellAll P h j args):
  ∃a vs ns,j=[Value.ref a]/\args=[WData.list (ns.map bh)]/\h.get? a=Y {cls:=.type "list",data:=.seq vs.toArray}/\IntsAre vs ns/\ns.length<=n:=by
 let a2:WShape.hasAll [] args [.list .int]=true:=(pre_splitW Sg).1;let hc:l.pre.holds [] {args:=args}=true:=(pre_splitW Sg).2;let(d,r,O,h1,h2):=hasAllW_cons a2;obtain rfl:=hasAllW_nil h2;let(xs,O,h3):=hasW_list h1;let(ns,O):=items_int h3;let z:ns.length<=n:=by
  unfold OpenLaw.pre at hc;let U: (WTm.not<|.lt (.lit<|.int (n:Int)) (.len<|.arg 0)).holds [] {args:=[.list (ns.map .int)]}=true:=by let U:=(holds_andW hc).1;rw[hn]at U;show U
  let F:=condW_of U<|w_not (w_lt w_lit<|w_len_list (w_arg O));rw[Ay]at F;show Nat.le_of_not_lt λq=>?_;let q': (n:Int) < ((ns.length:Nat):Int):=()
  first
   |(rw[A1K q']at F;show A1Q F Aa)|(simp at F;lia)
 cases a1 with
 |cons w1 w2=>
  cases w2;cases w1 with|list ho D=>show{_,_,ns,O,O,ho,US ns _ D,z}
def nZ(l:OpenLaw)(args:List WData):l.row.toRowW.claim.post args (.bool Z) args=true:=postW_of (r:=l.row.toRowW) (X:=(Z==Z)) (show WShape.has [] (.bool Z) .bool=Z by first|rfl|decide|simp[WShape.has,WShape.arms,WShape.armsAll])
  (show(WTm.eq .res<|.lit (.bool Z)).value [] {args:=args,res:=Y<|.bool Z,after:=args}=Y (.bool<|Z==Z)from w_eq_bool (w_res O) w_lit) O
def dY{ns:List Int}{i:Int}(hi:i∈ns):Vb (.int i)<=WData.weightAll (ns.map bh):=by
 induction ns with
 |nil=>cases hi
 |cons a r j=>
  rw[AV,WData.weightAll];rcases Bf.mp hi with rfl|h;·lia
  have:=j h
  lia
def gU{ns:List Int}(h:WData.layableAll [WData.list (ns.map bh)]=Z):∀i∈ns,FH i<=1048576:=by
 intro i hi;let h1: (WData.list<|ns.map bh).layable=true:=Bz.mp h _ Bi;let h2:Vb (.list<|ns.map bh)<=2 ^ 20:=by show A1M<|(Eb.mp h1).2
 rw[Vb]at h2;let z:=dY hi;let j:Vb (.int i)=FH i:=by rw[Vb];rfl
 rw[j]at z;let e: (2:Nat) ^ 20=1048576:=by decide
 lia
def attach_call{l:OpenLaw}{n:Nat}{q:Bn}{loose:List AT}{XP: (AT->Option AC)->CB->Prop}{YP:BP->CB->Prop}{d:DefRec}(hn:l.most=Y n)(a4:d.params.defaults=[])(call:∀(w:BP) (s_ j:AK) (mg mb:AT->Option AC) (fa:AH) (o:Obj) (pm cd doc:AC) (a:AH) (vs:List AC) (ns:List Int),Ground q loose [] XP w s_ mg mb j.heap->YP w j.heap->j.heap.get? fa=Y o->o.data= .func (docDef d.name d.params d.body d.scope pm cd doc)->j.heap.CodeRec cd d.name->mg d.name=Y (.ref fa)->j.heap.get? a=Y {cls:=.type "list",data:=.seq vs.toArray}->IntsAre vs ns->ns.length<=n->j.gens=#[]->(∀i∈ns,FH i<=1048576)->Ie (model l.prog w) TY (.call (.ref fa) {[.ref a],[]}) (λr s'=>r= .ok (.ret<|.bool Z)/\OldK j.heap s'.heap/\s'.os=j.os/\Vg s'.gens) j):
  WalkO q loose XP YP l.row.toRowW d [] (λf vs=>PySem.call f vs):=by intro w s_ j mg mb G Yq fa o pm cd doc dV kV ho hd a5 hD a3 hg args a6 as Sg U a8 a2 b1;obtain rfl:dV= .none:=Dflts.none hD a4;obtain rfl:kV= .none:=Dflts.noKw hD;let(a,vs,ns,O,O,D,z,F):=nV hn Sg a2;show enter_call<|Gy (call w s_ j mg mb fa o pm cd doc a vs ns G Yq ho (fd_plain hd) a5 a3 D z F hg<|gU U) λr s' hq=>?_;let(O,h2,h3,h4):=hq;show{.inl {.bool Z,.bool Z,[],O,λ_=>rfl,.bool Z,nZ l _,λ_=>{List.Pairwise.nil,λ_ hm=>(nomatch hm)}},h2,h3,h4}
section
variable{prog:Bn}{w:BP}{A:CA}{E:AC->AK->Prop}{s:AK}{K:Fo}
def noObjs(h:CB):CB:={h with objs:=#[]}
def noObjs_get(h:CB)(b:AH): (noObjs h).get? b=none:=by cases e: (noObjs h).get? b with|none=>rfl|some o=>show A1Q (Be e)<|QI _
def ledger(h:CB)(L d:AH):List (AH×Obj):=(BN h.objs.size).filterMap λa=>if a=L\/a=d then S else (h.get? a).map λo=>(a,o)
def mem_ledger{h:CB}{L d a:AH}{o:Obj}: (a,o)∈ledger h L d ↔ a≠L/\a≠d/\h.get? a=Y o:=by
 unfold ledger;rw[MP];constructor
 ·rintro⟨b,_,e⟩;split at e
  ·cases e
  rename_i z;let(o',j,D):=Bp.mp e;cases D;show{λq=>z<|.inl q,λq=>z<|.inr q,j}
 rintro⟨n1,n2,j⟩;show{a,HG.mpr<|Be j,?_};rw[A1N (show ¬ (a=L\/a=d)from λq=>q.elim n1 n2),j] <;> rfl
def fr_all{h:CB}{L:AH}{m:AT->Option AC}(n:h.Ns L m):Fr (noObjs h) L h m:={n,λb o e=>(by rw[noObjs_get]at e;cases e),Cu _}
end
end Att
namespace L2
open PySem PySem.Spec PyProof.Rows
def ZV:∀{vs:List AC} {ns:List Int},IntsAre vs ns->Co (ns.map V.int) vs|_,_,.nil=>.nil|_,_,.cons n t h=>.cons {(t),O}<|ZV h
def BZ(s:Ih)(j:Nat):Ih:=match s with
 |.ClassDef _ _ _ body _ _ _ _ _ _ _=>body.getD j<|.Pass {0,0,0,0}|_=>.Pass {0,0,0,0}
def Js(s:Ih):JW:=match s with
 |.FunctionDef _ a _ _ _ _ _ _ _ _=>a|_=>{posonlyargs:=[],args:=[],vararg:=S,kwonlyargs:=[],kw_defaults:=[],kwarg:=S,defaults:=[]}
def Gj(s:Ih):List Ih:=match s with
 |.FunctionDef _ _ b _ _ _ _ _ _ _=>b|_=>[]
def AL(s:Ih):Scope:=match s with
 |.FunctionDef _ _ _ _ _ _ sc _ _ _=>sc|_=>{kind:=.function,names:=[],isGenerator:=ge,isCoroutine:=ge}
abbrev SU:dE:={Z,ge,λ_ _ _ _ _ _=>False}
abbrev CXS:dE:={ge,Z,λ_ _ _ _ _ _=>False}
abbrev E0:XK:=λ_ _ _=>False
def DU{X:Cx}(hc: ~~~(X.calm=true)):JQ SU X E0:={λ_=>hc,O,λ_ _ _ _ _ _ _ h=>h.elim}
structure Yx(K:AB)(x qual:AT)(st:Ih)(f:AH)(fd:Ea):Prop where
 ex:∃(oc:AC) (od:Option AH) (kV doc pm:AC) (an:Option AH) (cdv ct:AC) (osl:Array (Option AC)),fd=Me x qual (Js st) (Gj st) (AL st) .none kV doc pm an cdv ct/\K.lookup f=Y {oc,od,.func fd,osl}/\PySem.W.codeIn K cdv qual=Z
 kp:FE K (.ref f)=Z
section
variable{P:Bn}{w:BP}{K:AB}{mg:AT->Option AC}{base:CB}
def Yx.okX{x qual:AT}{st:Ih}{f:AH}{fd:Ea}{N ps:List AT}{k:Nat}{sp:Sp}{CX:dE}(F:Yx K x qual st f fd)(Sq:AX N ps (AL st))(len:∀vs H Q E,sp vs H Q E->vs.length=ps.length)(j:∀(cdv:AC) (A:CA) (outer:List bo) (s:AK) (H:Hp) (vs:List V) (Q:VK) (E:XK),EO k (A.deeper<|FI qual (AL st) ↑s f cdv)->sp vs H Q E->∃t,SS (UT CX P w K mg base N qual (AL st) f cdv A outer s H E) (Gj st) t/\t {nx:=λ_ H'=>Q .non H',rt:=Q} (OA N vs) H):EE P w K mg base CX (k+1) f fd ps sp:=by let(oc,od,kV,doc,pm,an,cdv,ct,osl,O,lk,D):=F.ex;show gA lk D Sq len λA outer s H vs Q E hr z=>j cdv A outer s H vs Q E hr z
def Yx.ok{x qual:AT}{st:Ih}{f:AH}{fd:Ea}{N ps:List AT}{k:Nat}{sp:Sp}{CX:dE}(F:Yx K x qual st f fd)(Sq:AX N ps (AL st))(len:∀vs H Q E,sp vs H Q E->vs.length=ps.length)(j:∀(cdv:AC) (A:CA) (outer:List bo) (s:AK) (H:Hp) (vs:List V) (Q:VK) (E:XK),EO k (A.deeper<|FI qual (AL st) ↑s f cdv)->sp vs H Q E->∃t,SS (UT CX P w K mg base N qual (AL st) f cdv A outer s H E).nox (Gj st) t/\t {nx:=λ_ H'=>Q .non H',rt:=Q} (OA N vs) H):EE P w K mg base CX (k+1) f fd ps sp:=by show F.okX Sq len λcdv A outer s H vs Q E hr z=>?_;let(t,h,q):=j cdv A outer s H vs Q E hr z;show{(t),h.nox,q}
def Yx.binds{x qual:AT}{st:Ih}{f:AH}{fd:Ea}{ps:List AT}(F:Yx K x qual st f fd)(h:∀(kV doc pm:AC) (an:Option AH) (cdv ct:AC) (us:List AC),us.length=ps.length->bindArgs (Me x qual (Js st) (Gj st) (AL st) .none kV doc pm an cdv ct) {us,[]}=Ic (ps.zip us)):EK K fd ps []:=by let(oc,od,kV,doc,pm,an,cdv,ct,osl,O,lk,j):=F.ex;show .all<|h kV doc pm an cdv ct
def J5{x qual:AT}{st:Ih}{f:AH}{oc:AC}{od an:Option AH}{osl:Array (Option AC)}{kV doc pm cdv ct:AC}(l:K.lookup f=Y {oc,od,.func<|Me x qual (Js st) (Gj st) (AL st) .none kV doc pm an cdv ct,osl})(c:PySem.W.codeIn K cdv qual=Z)(k:FE K (.ref f)=Z):Yx K x qual st f (Me x qual (Js st) (Gj st) (AL st) .none kV doc pm an cdv ct):={{(oc),od,kV,doc,pm,an,cdv,ct,osl,O,l,c},k}
end
def MD{A:CA}{k:Nat}(hr:EO k A):A.units+1<SC:=IT (Uc (by decide:1<=64) _) hr.units
def CW{n:Nat}(h:n<=1000):n<sizeLine:=IT h Aa
section
variable{X:Cx}
def pv(i:Nat){x:AT}{pos:Ij}(hN: ~~~(X.N[i]?=Y x))(z:r9 X.env.scope x:=by first|show Ci rfl|show DN (Ci rfl)|show DN<|DN rfl)(hd:↑((x==("__debug__" :AT))=false))(j:↑((x==("__classdict__" :AT))=false)):PE X (.Name x pos) (nj i):=D9 hN z hd j
end
def BM{A B:Prop}(h:B):if ge=Z then A else B:=by rw[A1N Bo];show h
def BX{A B:Prop}(h:A):if Z=Z then A else B:=by rw[A1O O];show h
def DL{c A B:Prop} [Decidable c](h1:c->A)(h2:¬c->B):if c then A else B:=by
 by_cases h:c;·rw[A1O h];show h1 h
 rw[A1N h];show h2 h
def AZ(H H':Hp):Prop:=∀b o,H b=Y o->H' b=Y o
def AZ.refl(H:Hp):AZ H H:=λ_ _ h=>h
def AZ.trans{H H1 H2:Hp}(a:AZ H H1)(b:AZ H1 H2):AZ H H2:=λc o h=>b c o<|a c o h
def AZ.free{H H':Hp}(e:AZ H H'){l:AH}(h:H' l=Option.none):H l=Option.none:=by
 cases q:H l with
 |none=>rfl
 |some o=>
  rw[e l o q]at h;cases h
def AZ.seq{K:AB}{H H':Hp}{a:AH}{xs:List V}(e:AZ H H')(h:Cg K H a xs):Cg K H' a xs:=by
 rcases h with(h|⟨o,h⟩)|h;·show .inl<|.inl (e _ _ h)
 ·show .inl<|.inr {o,e _ _ h}
 show .inr h
section
variable{X:Cx}
def wp(i j:Int):Prop:=0<=j/\(FH i:Int) *j<=2 ^ 27
def LA:MR X (Pl .Pow) (rI wp λi j=>.int<|i ^ j.toNat):=o8 λ_ _ _ _ _ _ _ hc q=>pow_int hc.1 hc.2 q
end
mutual
inductive MK(K:AB)(H:Hp):V->PyData->Prop where
 |non:MK K H .non .none|bl (b:Bool):MK K H (.bl b) (.bool b)|int (i:Int):MK K H (.int i) (.int i)|str (x:AT):MK K H (.str x) (.str x)|lst {a:AH} {xs:List V} {ds:List PyData} (h:Cg K H a xs) (r:KU K H xs ds):MK K H (.ref a) (.list ds)|tup {a:AH} {xs:List V} {ds:List PyData} (h:Ec K H a xs) (r:KU K H xs ds):MK K H (.ref a) (.tuple ds)
inductive KU(K:AB)(H:Hp):List V->List PyData->Prop where
 |nil:KU K H [] []|cons {x:V} {d:PyData} {xs:List V} {ds:List PyData} (h:MK K H x d) (r:KU K H xs ds):KU K H (x::xs) (d::ds)
end
section
variable{X:Cx}{pZ:List (AH×Obj)}{σ:St}{H:Hp}{s:AK}
mutual
def MK.reads(I:Ch X pZ σ H s):∀{x:V} {d:PyData},MK X.K H x d->∀{u:AC},CK x u->∃as,Reads s.heap u d as
 |_,_,.non,u,r=>by cases (show u=Eg from r);show{_,.none}|_,_,.bl b,u,r=>by cases (show u=Hz b from r);show{_,.bool b}|_,_,.int i,u,r=>by let(t,O):=(show ∃t,u=Mc i t from r);show{_,.int i t}|_,_,.str x,u,r=>by let(t,O):=(show ∃t,u=Mb x t from r);show{_,.str x t}
 |_,_,.lst (a:=a) h rs,u,r=>by
  cases (show u=Value.ref a from r);let(D,j,(o,n,e,hc,_,hd),_):=I.list h;let(as,z):=KU.reads I rs j;show{_,.list e hc hd<|by simpa using z}
 |_,_,.tup (a:=a) h rs,u,r=>by
  cases (show u=Value.ref a from r);let(D,j,(o,e,hc,n,hd),_):=I.tuple h;let(as,z):=KU.reads I rs j;show{_,.tuple e hc hd<|by simpa using z}
def KU.reads(I:Ch X pZ σ H s):∀{xs:List V} {ds:List PyData},KU X.K H xs ds->∀{us:List AC},Co xs us->∃as,ReadsAll s.heap us ds as
 |_,_,.nil,us,r=>by cases r;show{_,.nil}
 |_,_,.cons h rs,us,r=>by
  cases r with
  |cons z j=>
   let(as,F):=MK.reads I h z;let(bs,D):=KU.reads I rs j;show{_,.cons F D}
end
end
inductive Z7(K:AB)(x:V)(y:V)(H:Hp)(Q:VK):Prop|mk (d d':_) (_:MK K H x d) (_:MK K H y d') (_:Dy d=true) (_:Dy d'=true) (_:Q (.bl<|FU d d') H)
def T3(K:AB):R2:=λx y H Q=>Z7 K x y H Q
inductive Z3(K:AB)(x:V)(y:V)(H:Hp)(Q:VK):Prop|mk (d d':_) (_:MK K H x d) (_:MK K H y d') (_:Dy d=true) (_:Dy d'=true) (_:Q (.bl<|!FU d d') H)
def S9(K:AB):R2:=λx y H Q=>Z3 K x y H Q
section
variable{X:Cx}
def OL(U:X.A.units+64<SC):MR X (Dh .Eq) (T3 X.K):=by intro 0 x y v u Q I z j h;let(d,d',h1,h2,h3,h4,q):=h;let(as,F):=h1.reads I z;let(bs,D):=h2.reads I j;show eq_dataH F D h3 h4 U {.bl _,H,I,O,q}
def LX(U:X.A.units+64<SC):MR X (Dh .NotEq) (S9 X.K):=by intro 0 x y v u Q I z j h;let(d,d',h1,h2,h3,h4,q):=h;let(as,F):=h1.reads I z;let(bs,D):=h2.reads I j;show ne_dataH F D h3 h4 U {.bl _,H,I,O,q}
end
section
variable{X:Cx}
def gP:Gf X (.builtin "isinstance") (λxs H Q=>∃x c t cv b,xs=[x,c]/\IG X.K H x t/\CK c cv/\BC X.K t cv=Y b/\Q (.bl b) H):=by
 intro 0 xs us Q I r h;let(x,c,t,cv,b,O,ty,D,e,q):=h;let(u,F,O,U,z):=ee r;let ec:F=cv:=by
  cases c with
  |non=>show(show F=_ from z).trans (show cv=_ from D).symm|bl _=>show(show F=_ from z).trans (show cv=_ from D).symm|ref _=>show(show F=_ from z).trans (show cv=_ from D).symm|ty _=>show(show F=_ from z).trans (show cv=_ from D).symm
  |int i=>
   let(j,O):=(show ∃j,cv=Mc i j from D);show A1Q e (by unfold BC SH;cases ty <;> simp)
  |str i=>
   let(j,O):=(show ∃j,cv=Mb i j from D);show A1Q e (by unfold BC SH;cases ty <;> simp)
  |byt i=>
   let(j,O):=(show ∃j,cv=Value.bytes i j from D);show A1Q e (by unfold BC SH;cases ty <;> simp)
  |flt i=>
   let(j,O):=(show ∃j,cv=Ye i j from D);show A1Q e (by unfold BC SH;cases ty <;> simp)
 subst ec;show pc I U ty e λtk=>{.bl b,H,I.tok tk,O,q}
end
def UU(names:List (AT×NameKind))(env:bo):List (AT×AH):=(names.filter λp=>p.2== .free).reverse.map λp=>(p.1,(env.cells.lookup p.1).getD 0)
def XH(X:Cx)(N:List AT)(scope:Scope)(C:AH)(j:AK)(z:Hp)(fp:List AH):Cx where
 prog:=X.prog
 w:=X.w
 K:=X.K
 mg:=X.mg
 base:=X.base
 A:=X.A
 N:=N
 s_:=j
 H_:=z
 env:=compEnvC scope (UU scope.names X.env) C X.env
 outer:=X.stack
 stack:=X.stack
 ex:=fp
 fn:=λ_=>ge
 calm:=X.calm
 suit:=X.suit
 pn:=[]
 xe:=λ_ _=>False
def Xm{names:List (AT×NameKind)}{f:AT->NameKind->NameKind}{x:AT}{k:NameKind}: (names.map λp=>(p.1,f p.1 p.2)).lookup x=Y k->∃k0,names.lookup x=Y k0/\k=f x k0:=by
 induction names with
 |nil=>intro h;simp at h
 |cons p r z=>
  let(n,k1):=p;intro h;rw[AV,Fn]at h;rw[Fn];cases j:x==n with
  |true=>
   rw[j]at h;let e:x=n:=beq_iff_eq.mp j;subst e;show{k1,O,(AE h).symm}
  |false=>
   rw[j]at h;show z h
def Zc: (relabel scope env).names=scope.names.map λp=>(p.1,if (p.2== .free&&env.scope.kind== .function&&env.kindOf p.1==Y .cell)=Z then bn else p.2):=by
 unfold relabel;show Il λp _=>?_;let(n,k):=p;change(if (k== .free&&env.scope.kind== .function&&env.kindOf n==Y .cell)=Z then (n,bn)else (n,k))=_
 split <;> rfl
def gi{D z:Type}{l:List (AT×D)}{f:AT->z}{x:AT}{c:z}: (l.map λp=>(p.1,f p.1)).lookup x=Y c->c=f x/\∃a,(x,a)∈l:=by
 induction l with
 |nil=>intro h;simp at h
 |cons p r F=>
  intro h;rw[AV,Fn]at h;cases j:x==p.1 with
  |true=>
   rw[j]at h;let e:x=p.1:=beq_iff_eq.mp j;show{?_,p.2,?_};·rw[e];show(AE h).symm
   rw[e];show Bi
  |false=>
   rw[j]at h;let(e,a,m):=F h;show{e,a,Bq _ m}
def Tq{z D:Type}{l:List (AT×z)}{f:AT->D}{x:AT}{a:z}(h: (x,a)∈l): (l.map λp=>(p.1,f p.1)).lookup x=Y (f x):=by
 induction l with
 |nil=>cases h
 |cons p r F=>
  rw[AV,Fn];cases j:x==p.1 with
  |true=>
   let e:x=p.1:=beq_iff_eq.mp j;rw[e]
  |false=>
   rcases Bf.mp h with e|m;·rw[<-e]at j;simp at j
   show F m
structure QW(X:Cx)(scope:Scope):Prop where
 kind:scope.kind= .function
 clos:closureFor scope X.env=Ic (UU scope.names X.env)
 cell:∀y∈scope.names,y.2≠ .cell
 names:∀y∈scope.names,y.2= .local->scope.names.lookup y.1=Y .local
 free:∀y∈scope.names,y.2= .free->(X.env.cells.lookup y.1).isSome=Z
def Ia{X:Cx}{scope:Scope}(ok:QW X scope){x:AT}{c:AH}(h: (UU scope.names X.env).lookup x=Y c):X.env.cells.lookup x=Y c:=by unfold UU at h;let(e,a,m):=gi (f:=λn=>(X.env.cells.lookup n).getD 0) h;let j:=Fb.mp<|ZH.mp m;let fr:=ok.free _ j.1 (by simpa using j.2);cases q:X.env.cells.lookup x with|none=>rw[q]at fr;cases fr|some d=>rw[e,q];rfl
def gN{X:Cx}{scope:Scope}{x:AT}(h: (x,NameKind.free)∈scope.names): (UU scope.names X.env).lookup x=Y ((X.env.cells.lookup x).getD 0):=by unfold UU;show Tq (f:=λn=>(X.env.cells.lookup n).getD 0) (ZH.mpr<|Fb.mpr {h,by simp})
inductive QV(X:Cx)(scope:Scope):List Nat->List AT->Prop where
 |nil:QV X scope [] []|cons {j:Nat} {x:AT} {js:List Nat} {xs:List AT} (h1:X.N[j]?=some x) (h2:X.env.kindOf x=some .cell\/X.env.kindOf x=some .free) (h3:scope.names.lookup x=some .free) (r:QV X scope js xs):QV X scope (j::js) (x::xs)
def qM(k:Nat)(js:List Nat)(σ:St):St:=SM k S++js.map λj=>(σ[j]?).getD S
def KH{j:Type}{l:List (AT×j)}{x:AT}{a:j}(h:l.lookup x=Y a): (x,a)∈l:=Ff h
def QV.len:∀{js:List Nat} {xs:List AT},QV X scope js xs->js.length=xs.length|_,_,.nil=>rfl|_,_,.cons _ _ _ r=>by simp[QV.len r]
def QV.at:∀{js:List Nat} {xs:List AT},QV X scope js xs->∀{i:Nat} {x:AT},xs[i]?=Y x->∃j,js[i]?=Y j/\X.N[j]?=Y x/\(X.env.kindOf x=Y .cell\/X.env.kindOf x=Y .free)/\scope.names.lookup x=Y .free
 |_,_,.nil,i,x,h=>by simp at h|_,_,.cons h1 h2 h3 r,0,x,h=>by simp at h;subst h;show{(_),O,h1,h2,h3}
 |_,_,.cons h1 h2 h3 r,i+1,x,h=>by
  let(j,e,q):=QV.at r (i:=i) (x:=x) (by simpa using h);show{j,by simpa using e,q}
def jQ{X:Cx}{pZ:List (AH×Obj)}{σ:St}{H2:Hp}{D:AK}{scope:Scope}{fp:List AH}{ts xs:List AT}{js:List Nat}{F:CB}{C:AH}{tk:Nat}(I:Ch X pZ σ H2 D)(ok:QW X scope)(fr:QV X scope js xs)(b5:∀x∈ts,scope.names.lookup x=Y .local)(a2:∀b∈fp,Va X pZ H2 b)(b0:∀b∈fp,b<↑D)(hC:C=↑D+1)(a9:F.Ns C (λ_=>S))(old:∀b o,D.heap.get? b=Y o->F.get? b=Y o)(hD:F.get? ↑D=Y {cls:=.type "list",data:=.seq ([]:List AC).toArray 0}):
  Ch (XH X (ts++xs) scope C D H2 fp) [] (qM ts.length js σ) (upd H2 ↑D<|.lst []) {D with heap:=F,toks:=tk}:=by
 let a4:∀{x:AT} {k:NameKind},(compEnvC scope (UU scope.names X.env) C X.env).kindOf x=Y k->∃k0,scope.names.lookup x=Y k0/\k=if (k0== .free&&X.env.scope.kind== .function&&X.env.kindOf x==Y .cell)=Z then bn else k0:=λ{x k} h=>by
  let h': (relabel scope X.env).names.lookup x=Y k:=h;rw[Zc]at h';show Xm (f:=λn k=>if (k== .free&&X.env.scope.kind== .function&&X.env.kindOf n==Y .cell)=Z then bn else k) h'
 let freeOf:∀{x:AT},((compEnvC scope (UU scope.names X.env) C X.env).kindOf x=Y .cell\/(compEnvC scope (UU scope.names X.env) C X.env).kindOf x=Y .free)->scope.names.lookup x=Y .free:=λ{x} h=>by
  rcases h with h|h
  ·let(k0,e,q):=a4 h;by_cases c: (k0== .free&&X.env.scope.kind== .function&&X.env.kindOf x==Y .cell)=Z
   ·rw[AA,AA]at c;rw[e,beq_iff_eq.mp c.1.1]
   rw[A1N c]at q;show A1Q q.symm<|ok.cell _ (KH e)
  let(k0,e,q):=a4 h;by_cases c: (k0== .free&&X.env.scope.kind== .function&&X.env.kindOf x==Y .cell)=Z;·rw[A1O c]at q;cases q
  rw[A1N c]at q;rw[e,q]
 show{{I.ok.mod,ok.kind,I.ok.glob,I.ok.blt,?_,λx y c h1 h2=>I.ok.inj x y c (Ia ok h1)<|Ia ok h2,λx hx=>{_,gN<|KH (freeOf hx)},λx c h _=>BU<|show ge=Z from h,I.ok.hd,I.ok.frames,.inl O,λb hb=>{?_,λx c h=>(a2 b hb).2.2.2.2.1 x c<|Ia ok h},I.bs,AU I.ok.bsz I.sz,λb o e hb=>?_,λb hb hs=>?_,I.stack,I.stkFree,λz=>?_},O,I.bare,Un.laid old (Bh _)<|I.hok.fresh (a:=↑D) (Bh _),{_,a9,λi x v h1 h2 h3=>?_},λx c h=>?_,?_,λx c h=>?_,λp hp=>A1Q (show p∈ ([]:List (AH×Obj))from hp) (by simp),?_,?_};·change ↑D<=C;rw[hC];show ER _
 ·change b≠C;rw[hC];show BD<|NV (b0 b hb)
 ·let h1:=(a2 b hb).2.2.2.1;rcases h1 with z|z
  ·show I.ok.noex b o e z
  show A1Q (BK (Be e)<|AU I.ok.bsz z)<|EQ _
 ·rcases Bf.mp (I.stkSub b hs)with z|z
  ·show(a2 b hb).2.1 z
  show(a2 b hb).2.2.1 z
 ·let(ex,cls,dx,a0,tb,hA,hE):=I.ok.hs z;show{ex,cls,dx,a0,tb,hA,I.base.frzs ex _ _ hE}
 ·
  let hi:ts.length<=i:=by show Nat.le_of_not_lt λhi=>?_;unfold qM at h2;rw[DK (by simpa using hi),Po,A1O hi]at h2;cases h2
  let b2:xs[i - ts.length]?=Y x:=by let a3: (ts++xs)[i]?=Y x:=h1;rw[Cv hi]at a3;show a3
  let(j,ej,hN,hk,U):=fr.at b2;let a8:σ[j]?=Y (Y v):=by unfold qM at h2;rw[Cv (by simpa using hi),Rc,AQ,ej]at h2;simp only[Option.map_some,JE]at h2;cases q:σ[j]? with|none=>rw[q]at h2;cases h2|some z=>rw[q]at h2;show A1P Y h2
  let(m,hn,hl):=I.loc;let a7:r9 X.env.scope x:=by
   rcases hk with hk|hk;·show .inr<|.inl hk
   show .inr<|.inr hk
  let(u,r,l):=hl j x v hN a8 a7;show{u,r,.inr ?_};rcases l with⟨k,_⟩|⟨_,c,hc,z⟩;·rcases hk with hk|hk <;> (rw[k]at hk;cases hk)
  show{?_,c,?_,z.keeps old}
  ·rcases h3 with q|q|q
   ·let(k0,e,w):=a4 (x:=x) (k:=.local) q;rw[U]at e;cases e;split at w <;> cases w
   ·show .inl q
   show .inr q
  let e:=gN (X:=X)<|KH U;rw[hc]at e;show e
 ·let(v,z):=I.cell x c<|Ia ok h;show{v,z.keeps old}
 ·change(upd H2 ↑D<|.lst []) C=S;rw[hC,AM<|Mf (HU _)];show I.hok.fresh<|ER _
 ·let(v,z):=I.cell x c<|Ia ok h;rw[AM (BD z.lt)];show I.freeC x c<|Ia ok h
 ·show I.hok.laid old (Bh _) {Cu _,[],0,.nil,hD}
 unfold qM;change _=(ts++xs).length;rw[AS,AS,Rc,Ay,fr.len]
def xF(hc:X.suit=Z)(h:zX X es t)(hn: ~~~((EW es X.env).length=n))(j: ~~~((EW es X.env).findIdx? (·.1)=none)):PG X (.Tuple es k pos) (J4 X.K n t):=by intro 0 v u Q I r hw;let(a,xs,e1,hq,hl,hw):=hw;subst e1;cases r;let(D,z,U,hz):=I.tuple hq;let(e,cls,dx,a0,tb,hA,hE):=I.ok.hs hc;let(he,_):=I.hok e _<|I.base.frzs e _ _ hE;show gW hA he O O U (by simp[hn,<-hl,z.length]) j λh' F=>?_;let I1:Ch X pZ σ H {s with heap:=h'}:=I.kept (t':=s.toks) λb o e=>F b o (BD<|Be e) e;show h pZ _ σ H xs _ Q I1 (by simpa using z) hw
def O9(X:Cx)(ifs:List Expr)(t:TT):Prop:=∀(pZ:List (AH×Obj)) (s:AK) (σ:St) (H:Hp) (Q:Bool->Hp->Prop),Ch X pZ σ H s->t σ H Q->By (model X.prog X.w) X.A (forIn ifs Z λc r=>if r=Z then do let ok <-isTrue c X.env (Dw c X.env);Ic (QJ ok)else Ic (QJ r)) (TP X pZ σ Q) X.xe s
def ZX:TT:=λ_ H Q=>Q Z H
def xE:O9 X [] ZX:=λ_ _ _ H _ I h=>wpAny_tests_nil {(H),I,h}
def PF(hc:PT X c t):O9 X [c] t:=λpZ s σ H Q I h=>wpAny_tests_one<|hc pZ s σ H Q I h
def cX(J:Nat->AK->Prop)(a4:∀n s,J n s->By (model prog w) A (pyNext it) (λr z=>match r with
   |none=>R (.ok .next) z
   |some v=>By (model prog w) A (NA target it v) (λ_ a1=>By (model prog w) A (assign target env v) (λ_ U=>
     By (model prog w) A (forIn ifs Z λc r=>if r=Z then do let ok <-isTrue c env (Dw c env);Ic (QJ ok)else Ic (QJ r)) (λok j=>
      if ok=Z then By (model prog w) A (Dw elt env) (λx F=>
       By (model prog w) A (call (.builtin "list.append") [a9,x]) (λ_ D=>∃m,m<n/\J m D) (λ_ _=>False) F) (λ_ _=>False) j
      else ∃m,m<n/\J m j) (λ_ _=>False) U) (λ_ _=>False) a1) (λ_ _=>False) z) (λ_ _=>False) s)
  (n:Nat)(h:J n s):Ie (model prog w) A (.compLoop (.ListComp elt [{target,iter,ifs,0}] scope pos) 0 it a9 env) R s:=by
 show codeAny_loop O J (λn s hI=>?_) n h;change By _ A ((compTurn (.ListComp elt [{target,iter,ifs,0}] scope pos) 0 it a9 env).onRaise λx=>do YC x env;theTreesLotGoes x) _ _ s;show wpAny_noted<|wpAny_noRaise ?_;rw[compTurn_list];show AG<|GG (AG<|DQ (a4 n s hI) λr z a3=>?_);cases r with
 |none=>show Bm a3
 |some v=>
  show AG<|DQ a3 λ_ a1 a8=>AG<|DQ a8 λ_ U a7=>AG<|DQ a7 λok j a2=>?_;cases ok with|false=>show Bm {(O),a2}|true=>show AG<|AG (DQ a2 λx F a6=>AG<|DQ a6 λ_ D a5=>Bm<|Bm {(O),a5})
def Sub(σ j:St):Prop:=∀(i:Nat) v,σ[i]?=Y (Y v)->j[i]?=Y (Y v)
def Sub.set(h:σ[i]?=Y S):Sub σ (σ.set i x):=λj v e=>by
 by_cases z:i=j;·subst z;rw[h]at e;cases e
 rw[SQ z];show e
def Sub.trans(a:Sub σ z)(b:Sub z j):Sub σ j:=λi v e=>b i v<|a i v e
def SA(J:It)(H1:Hp)(z:St)(g:TG)(tif:TT)(te:TE)(Q:VK):Prop:=∀D,H1 D=S->∃W:Nat->Nat->List V->Hp->Prop,(∃m,W 0 m []<|upd H1 D (.lst []))/\∀i m ys H,W i m ys H->H D=Y (.lst ys)/\((J.stop i H/\Q (.ref D) H)\/(J.go i H/\∀x H',J.yld i H x H'->g x z H' λj H2=>Sub z j/\tif j H2 λb H3=>
  if b=Z then te j H3 λy U=>U D=Y (.lst ys)/\ys.length<sizeLine/\∃F,F<m/\W (i+1) F (ys++[y]) (upd U D<|.lst (ys++[y]))else ∃F,F<m/\W (i+1) F ys H3))
def rC(mk:St->St)(wi:TI)(g:TG)(tif:TT)(te:TE):TE:=λσ H Q=>wi σ H λJ H1=>SA J H1 (mk σ) g tif te Q
section
variable{X:Cx}{scope:Scope}{ts xs:List AT}{js:List Nat}{target iter elt:Expr}{ifs:List Expr}{wi:TI}{g:TG}{tif:TT}{te:TE}{pos:Ij}
def zW.mono(h:zW X pZ σ tg R v s)(k:∀J H1,R J H1->j J H1):zW X pZ σ tg j v s:=by let(it,fp,tn,J,H',e,I,T,st,f,r):=h;show{it,fp,tn,J,H',e,I,T,st,f,k _ _ r}
def gL{pZ:List (AH×Obj)}{σ:St}{j:AK}{Q:VK}{c5:AC}{E:AC->AK->Prop}{RR:AC->AH->Result->AK->Prop}(ok:QW X scope)(fr:QV X scope js xs)(d5:∀x∈ts,scope.names.lookup x=Y .local)(hg:∀C s_ H_ fp,PG (XH X (ts++xs) scope C s_ H_ fp) target g)(d7:∀C s_ H_ fp,O9 (XH X (ts++xs) scope C s_ H_ fp) ifs tif)(he:∀C s_ H_ fp,PE (XH X (ts++xs) scope C s_ H_ fp) elt te)(h:zW X pZ σ target (λJ H1=>(X.calm=Z\/J.sok=Z/\X.suit=Z)/\SA J H1 (qM ts.length js σ) g tif te Q) c5 j)(e6:∀D C s' H' m',Ch X pZ σ H' s'->s'.heap.Ns C m'->Va X pZ H' C->Q (.ref D) H'->RR (.ref D) C (.ok .next) s'):
  By (model X.prog X.w) X.A (newList []) (λc9 c1=>By (model X.prog X.w) X.A (newFunctionEnv scope X.env.globals (UU scope.names X.env) [] X.env.qual S .none<|Y X.env) (λb2 b9=>
   Ie (model X.prog X.w) X.A (.compStart (.ListComp elt [{target,iter,ifs,0}] scope pos) 0 c5 c9 {b2 with scope:=relabel scope X.env}) (RR c9 b2.locals) b9) E c1) E j:=by
 let(it,fp,tn,J,H2,e,I2,T,c3,f2,hc,hw):=h;subst e;let c6:∀b∈fp,b<↑j:=λb z=>by
  let(o,e,_):=T.obj _ _ c3 b z;show Be e
 show La (wpAny_newFunctionEnv ok.cell (by intro y hy;simp at hy) (λa1 U F=>?_) ok.kind)
 dsimp only at U F ⊢
 let hsz: (j.heap.push {cls:=.type "list",dict:=S,data:=.seq ([]:List AC).toArray}).objs.size=↑j+1:=Le _ _;generalize hC: (j.heap.push {cls:=.type "list",dict:=S,data:=.seq ([]:List AC).toArray}).objs.size=C at U F hsz ⊢;let a6:∀b o,(j.heap.push {cls:=.type "list",dict:=S,data:=.seq ([]:List AC).toArray}).get? b=Y o->a1.get? b=Y o:=λb o e=>by
  let z:b≠C:=by rw[<-hC];show BD<|Be e
  show(F.2 b z).trans (AF _ e)
 let old:∀b o,j.heap.get? b=Y o->a1.get? b=Y o:=λb o e=>a6 b o<|AF _ e;let b5:a1.get? ↑j=Y {cls:=.type "list",data:=.seq ([]:List AC).toArray 0}:=a6 _ _<|Bu _ O;let e5:=I2.hok.fresh (a:=↑j)<|Bh _;let(W,(m0,w0),b8):=hw ↑j e5;let IC:=jQ (tk:=j.toks+ ([]:List (AT×AC)).length) I2 ok fr d5 f2 c6 hsz U old b5;let a2:tn 0 a1:=T.keep _ _ _ c3 λb z o e=>old b o e;let a4:∀{H':Hp},(∀b∈fp,H' b=S)->∀b∈fp,Va (XH X (ts++xs) scope C j H2 fp) [] H' b:=λ{H'} hn b z=>
  {hn b z,(IC.ok.exf b z).1,IC.ok.exfs b z,.inl z,λx c e=>(IC.ok.exf b z).2 x c e,λp hp=>A1Q (show p∈ ([]:List (AH×Obj))from hp)<|by simp}
 let f0:∀b∈fp,(upd H2 ↑j<|.lst []) b=none:=λb z=>by
  rw[AM (BD<|c6 b z)];show(f2 b z).1
 let b1:Ie (model X.prog X.w) X.A (.compLoop (.ListComp elt [⟨target,iter,ifs,0⟩] scope pos) 0 (.ref it) (.ref ↑j)<|compEnvC scope (UU scope.names X.env) C X.env)
   (RR (.ref ↑j) C) {j with heap:=a1,toks:=j.toks+ ([]:List (AT×AC)).length}:=by
  show cX (λn s'=>∃i H' ys,Ch (XH X (ts++xs) scope C j H2 fp) [] (qM ts.length js σ) H' s'/\tn i s'.heap/\(∀b∈fp,H' b=S)/\W i n ys H') ?_ m0 {0,_,[],IC,a2,f0,w0};rintro n s3 ⟨i,H3,ys,I3,c2,c8,w3⟩;let(i8,alt):=b8 i n ys H3 w3;rcases alt with⟨stop,qn⟩|⟨go,step⟩;·show DQ (T.done (XH X (ts++xs) scope C j H2 fp) O O O hc i [] s3 _ H3 _ I3 (a4 c8) c2 stop) λr s4 e4=>?_;let(hr,I4):=e4;subst hr;let e8:H3 C=none:=I4.free;let I5:Ch X pZ σ H3 s4:=I2.call' (ch:=fp) (s':=s4) I4.os I4.base I4.hok I4.bare λb z=>{(f2 b z).2.2.2.1,(f2 b z).2.1,(f2 b z).2.2.2.2.1,(f2 b z).2.2.2.2.2};let(m',d6,_):=I4.loc;show e6 _ _ s4 H3 m' I5 d6 (I2.fpOk (by rw[hsz];show ER _) e8) qn
  show DQ (T.item (XH X (ts++xs) scope C j H2 fp) O O O hc i [] s3 _ H3 _ I3 (a4 c8) c2 go) λr s4 e3=>?_;let(u,hr,h4):=e3;subst hr;show DQ h4 λ_ s5 e2=>?_;let(x,H5,I5,r5,y5,b4,e9):=e2;let b0:∀{a3:St} {H7:Hp} {s7:AK},Ch (XH X (ts++xs) scope C j H2 fp) ([] ++Tk fp s5.heap) a3 H7 s7->tn (i+1) s7.heap/\∀b∈fp,H7 b=none:=λ{a3 H7 s7} I7=>by
   show{T.keep _ _ _ b4 λb z o e=>(I7.pin (b,o)<|Cj _ (Cj _<|Nr z e)).1,λb z=>?_};let(o,e,d):=T.obj _ _ b4 b z;show(I7.pin (b,o)<|Cj _ (Cj _<|Nr z e)).2.1
  let back:∀{a3:St} {H7:Hp} {s7:AK},Ch (XH X (ts++xs) scope C j H2 fp) ([] ++Tk fp s5.heap) a3 H7 s7->Sub (qM ts.length js σ) a3->Ch (XH X (ts++xs) scope C j H2 fp) [] (qM ts.length js σ) H7 s7:=λ{a3 H7 s7} I7 sb=>
   I7.unpinned.weak (IC.len.trans I7.len.symm) sb
  show DQ (hg _ _ _ _ _ s5 _ H5 x u _ (I5.pinned (a4 e9)<|T.obj _ _ b4) r5<|step x H5 y5) λ_ s6 e1=>?_;let(b3,H6,I6,c4,q6):=e1;show DQ (d7 _ _ _ _ _ s6 b3 H6 _ I6 q6) λd4 s7 e0=>?_;let(H7,I7,q7):=e0;cases d4 with
  |false=>
   let(m',hm,w7):=(show ∃m',m'<n/\W (i+1) m' ys H7 from q7);let(t7,n7):=b0 I7;show{m',hm,i+1,H7,ys,back I7 c4,t7,n7,w7}
  |true=>
   show DQ (he _ _ _ _ _ s7 b3 H7 _ I7 q7) λu8 s8 d9=>?_;let(y,H8,I8,r8,e7,c7,m',hm,w8):=d9;show DQ (Du (X:=XH X (ts++xs) scope C j H2 fp) _ s8 b3 H8 (.ref ↑j) [y] (.ref ↑j) [u8] (λ_ H9=>W (i+1) m' (ys++[y]) H9) I8 O (.cons r8 .nil) {(_),ys,y,O,O,e7,c7,w8}) λu9 s9 d8=>?_;let(_,H9,I9,_,w9):=d8;let(t9,n9):=b0 I9;show{m',hm,i+1,H9,ys++[y],back I9 c4,t9,n9,w9}
 show codeAny_compStart_list b1<|T.self _ 0 _ _ _ a2 b1
def ly(hc:X.calm=Z)(ok:QW X scope)(fr:QV X scope js xs)(j:∀x∈ts,scope.names.lookup x=Y .local)(hi:PI X target iter wi)(hg:∀C s_ H_ fp,PG (XH X (ts++xs) scope C s_ H_ fp) target g)(U:∀C s_ H_ fp,O9 (XH X (ts++xs) scope C s_ H_ fp) ifs tif)(he:∀C s_ H_ fp,PE (XH X (ts++xs) scope C s_ H_ fp) elt te)(hs:∀x,Lc iter X.env x=Ic x:=by intro _;rfl):PE X (.ListComp elt [{target,iter,ifs,0}] scope pos) (rC (qM ts.length js) wi g tif te):=by intro 0 Q I h;rw[eval_ListComp];show wpAny_comprehension_free (use:=S) O hs ok.clos ok.kind ok.names<|DQ (hi pZ s σ H _ I h) λv s1 h1=>DQ h1 λa3 s2 h2=>?_;show gL (Q:=Q) ok fr j hg U he (zW.mono h2 λJ H1 z=>{.inl hc,z}) λD C s' H' m' I' hn a1 q=>?_;show{m',hn,λh' F=>?_};let(f0,f1,f2,f3,f4,f5):=a1;show{.ref D,H',I'.turned (t':=s'.toks) (λb o hb e=>(F.2 b hb).trans e) f0 f1 f3 f4 f5,O,q}
end
def B9(mk:St->St)(wi:TI)(g:TG)(tif:TT)(te:TE):TE:=λσ H Q=>wi σ H λJ H1=>J.sok=Z/\SA J H1 (mk σ) g tif te Q
structure qI(B:CB)(l:List bo)(e:AH)(cls:AC)(dx:Option AH)(fl:AC)(h:CB):Prop where
 st:B.StaysIn h
 ne:B.get? e=S
 fr:h.FunFrames B l
 ob:∃a0 T oT ts,h.get? e=Y (Jy cls dx a0<|.ref T)/\B.get? T=S/\T≠e/\h.get? T=Y oT/\oT.data= .fields ts/\ts[3]?=Y fl
def qI.drop(F:qI B (env::l) e cls dx fl h):qI B l e cls dx fl h:={(F.st),F.ne,F.fr.2.2,F.ob}
section
variable{M:Model}{A:CA}{E:AC->AK->Prop}{s:AK}{B:CB}{env:bo}{outer:List bo}{L e:AH}{cls fl a0 head:AC}{dx:Option AH}{Q:Unit->AK->Prop}
def aN(a6:A.frames=Y (env::outer))(hl:s.heap.FunFrames B (env::outer))(hf:env.frame=Y L)(he:s.heap.get? e=Y (Jy cls dx a0 head))(st:B.StaysIn s.heap)(ne:B.get? e=S)(k:∀h',qI B (env::outer) e cls dx (Nz L) h'->s.heap.UpToSlots h'->Q Unit.unit {s with heap:=h'}):
  By M A (do let a <-frameOf env;let pl <-entryPlaceOf L a2;let b <-EntryCells.newEntry head a .none (Nz L) .none pl;setField (.ref e) 1 b) Q E s:=by
 let nofr:e∉ (env::outer).filterMap (·.frame):=λhm=>by
  let(_,o,ho,F):=hl.mem hm;rw[he]at ho;cases ho;show F _ O
 show AG<|wpAny_frameOf_fun a6 hl hf λh1 so=>?_;show AG<|wpAny_entryPlaceOf λpl a1=>?_;unfold EntryCells.newEntry newFields;show AG<|La ?_ (a1.sizeOk5 _ _ _ _ _);generalize hE: ([head,.ref L,.none,Nz L,.none] ++ (if pl.isEmpty then SM 6 Eg else pl)).toArray=j
 let f3:j[3]?=Y (Nz L):=by
  rw[<-hE]
  first|(simp;done)|(rcases a1 with rfl|⟨_,_,_,_,_,_,_,rfl⟩ <;> simp)
 let e1:h1.get? e=Y (Jy cls dx a0 head):=(so.2.1 e nofr).trans he;let U:B.StaysIn h1:=λb o q=>(so.2.1 b λhm=>by rw[(hl.mem hm).1]at q;cases q).trans<|st b o q;let e2:=AF (h:=h1) {cls:=.type "traceback",dict:=S,data:=.fields j} e1;let neT:h1.objs.size≠e:=Mf<|Be e1;let keep:∀b o,b≠e->h1.get? b=Y o->((h1.push {cls:=.type "traceback",dict:=S,data:=.fields j}).update e<|JF (·.setIfInBounds 1 (Value.ref h1.objs.size))).get? b=Y o:=λb o hb q=>by
  rw[CO _ _ (CL hb)];show AF _ q
 let D:∀b o,s.heap.get? b=Y o->(∀vs,o.data≠ .fields vs)->b≠e:=λb o q F z=>by
  rw[z,he]at q;cases q;show F _ O
 show KY e2 O (by change 1<6;decide)<|k _ ?_ ?_
 ·show{λb o q=>keep b o (λz=>by rw[z,ne]at q;cases q)<|U b o q,ne,hl.of_keeps λb o q F=>?_,a0,h1.objs.size,{cls:=.type "traceback",dict:=S,data:=.fields j},j,?_,U.fresh,neT,?_,O,f3}
  ·let(sl,q1):=so.2.2 b o q;show{_,keep b _ (D b o q F) q1,O}
  ·rw[FY _ e2 O];rfl
  rw[CO _ _ (CL neT)];show Bu h1 O
 intro b o q F;let(sl,q1):=so.2.2 b o q;show{sl,keep b _ (D b o q F) q1}
def yz(j:A.frames=Y (env::outer))(D:s.heap.FunFrames B (env::outer))(hf:env.frame=Y L)(z:s.heap.get? e=Y (Jy cls dx a0 .none))(st:B.StaysIn s.heap)(ne:B.get? e=S)(k:∀h',qI B (env::outer) e cls dx (Nz L) h'->s.heap.UpToSlots h'->Q Unit.unit {s with heap:=h'}):By M A (YC (.ref e) env) Q E s:=by unfold YC;simp only[hf];show AG<|II z O (x:=.none) O ?_;rw[A1N Aa];show aN j D hf z st ne k
def uT(U:A.frames=Y (env::outer))(hf:env.frame=Y L)(F:qI B (env::outer) e cls dx .none s.heap)(k:∀h',qI B (env::outer) e cls dx (Nz L) h'->s.heap.UpToSlots h'->Q Unit.unit {s with heap:=h'}):By M A (YC (.ref e) env) Q E s:=by
 let(st,ne,fr,a0,T,oT,ts,he,nT,a1,hT,dT,t3):=F;unfold YC;simp only[hf];show AG<|II he O (x:=.ref T) O ?_;rw[A1O (show(Value.ref T != Eg)=Z from by simp)];show AG<|II hT dT t3 ?_;rw[A1N (show ¬ ((Eg==Nz L)=Z)from by simp[Nz])];show AG<|KY hT dT (Array.getElem?_eq_some_iff.mp t3).1 ?_;let other:∀b,b≠T->(s.heap.update T<|JF (·.setIfInBounds 3 Eg)).get? b=s.heap.get? b:=λb hb=>CO _ _<|CL hb;let j:∀b o,s.heap.get? b=Y o->(∀vs,o.data≠ .fields vs)->b≠T:=λb o q D z=>by
  rw[z,hT]at q;cases q;show D ts dT
 show aN U (fr.of_keeps λb o q D=>{o,(other b<|j b o q D).trans q,O}) hf ((other e<|CL a1).trans he) (λb o q=>(other b λz=>by rw[z,nT]at q;cases q).trans<|st b o q) ne λh' F' up=>k h' F' λb o q D=>?_;show up b o ((other b<|j b o q D).trans q) D
def Sj(F:qI B l e cls dx fl s.heap)(k:∀h',qI B l e cls dx .none h'->s.heap.UpToSlots h'->Q Unit.unit {s with heap:=h'}):By M A (setFlight (.ref e) S) Q E s:=by
 let(st,ne,fr,a0,T,oT,ts,he,nT,U,hT,dT,t3):=F;let h3:3<ts.size:=(Array.getElem?_eq_some_iff.mp t3).1;let other:∀b,b≠T->(s.heap.update T<|JF (·.setIfInBounds 3 Eg)).get? b=s.heap.get? b:=λb hb=>CO _ _<|CL hb;let j:∀b o,s.heap.get? b=Y o->(∀vs,o.data≠ .fields vs)->b≠T:=λb o q D z=>by
  rw[z,hT]at q;cases q;show D ts dT
 let a1:=Obj.data_mapFields dT (·.setIfInBounds 3 Eg);unfold setFlight;show AG<|II he O (x:=.ref T) O ?_;rw[A1O (show(Value.ref T != Eg)=Z from by simp)];show KY hT dT h3 (k _ {λb o q=>(other b λz=>by rw[z,nT]at q;cases q).trans<|st b o q,ne,fr.of_keeps λb o q D=>{o,(other b<|j b o q D).trans q,O},a0,T,_,_,(other e<|CL U).trans he,nT,U,FY _ hT<|Obj.isFreed_of_fields a1,a1,by simp[h3]} λb o q D=>{o.slots,(other b<|j b o q D).trans q})
end
structure L8(fs:List AH)(H H':Hp)(h B:CB):Prop where
 k1:∀b o,h.get? b=Y o->H b=S->b∉fs->B.get? b=Y o
 k2:∀b o,h.get? b=Y o->b∉fs->∃o',B.get? b=Y o'
 tk:∀b,H' b≠S->∃u,B.get? b=Y u
section
variable{P:Bn}{w:BP}{H H':Hp}{h h' h2 B:CB}{l l2:List bo}{e:AH}{cls fl fl2:AC}{dx:Option AH}
def Dd.some_of(x:Dd P w H h a o):∃u,h.get? a=Y u:=by cases o with|lst xs=>let(_,_,_,_,e):=x;show{(_),e}|tup xs=>let(_,_,_,o,e,_):=x;show{(_),e}|dK kvs=>let(_,_,_,_,o,_,_,e,_):=x;show{(_),e}|dT kvs=>let(_,_,_,_,o,_,_,e,_):=x;show{(_),e}|set Sq n=>let(o,_,_,_,e,_):=x;show{(_),e}|ins C dx fs=>let(_,_,_,e,_):=x;show{(_),e}|own y=>show x|xd fs=>let(_,(o,_,_,e,_),_):=x;show{(_),e}|rng lo hi=>let(_,_,_,e):=x;show{(_),e}|frz ob u=>let(e,_):=x;show{(_),e}|tbl ps=>show{_,(show h.get? a=Y _ from x)}|met f y=>show{_,(show h.get? a=Y _ from x)}|ext φ=>let(_,e,_):=x;show e
def Jv.flown(ok:Jv P w H' h')(tk:∀b,H' b≠S->∃u,B.get? b=Y u)(s1:B.StaysIn h')(s2:B.StaysIn h2):Jv P w H' h2:=λa o q=>by
 let same:∀b u,H' b≠S->h'.get? b=Y u->h2.get? b=Y u:=λb u n z=>by
  let(F,D):=tk b n;have:=s1 b F D;rw[z]at this;cases this;show s2 b _ D
 show(ok a o q).stay (λb u j z=>same b u ?_ z) (λ_ z=>z) λ_ _ z=>z;rcases j with rfl|j;·rw[q];simp
 rw[j];simp
def Un.flown(u:Un (Oi l) [] H H' h h')(k:L8 (Oi l) H H' h B)(a4:∀b∈Oi l,H b=S)(F:qI B l e cls dx fl h')(up:h'.UpToSlots h2)(s2:B.StaysIn h2):Un (Oi l) [] H H' h h2 where
 keep:=λb o q n j _=>s2 b o (k.k1 b o q n j)
 slot:=λb o q n j hx=>by
  let(sl,U):=u.slot b o q n j hx;let(_,o',D,nf):=F.fr.mem j;rw[U]at D;cases D;let(z,q3):=up b _ U nf;show{(z),q3}
 free:=u.free
 there:=λb o q hx=>by
  by_cases j:b∈Oi l;·let(sl,U):=u.slot b o q (a4 b j) j hx;let(_,o',D,nf):=F.fr.mem j;rw[U]at D;cases D;let(z,q3):=up b _ U nf;show{(_),q3}
  let(o',q'):=k.k2 b o q j;show{o',s2 b o' q'}
 tups:=u.tups
 frzs:=u.frzs
 tbls:=u.tbls
end
def UA{base h:CB}{as:List AH}:∀{l:List bo},h.FunFrames base l->(∀env∈l,∀a,env.frame=Y a->a∈as)->h.FunFrames (Hi h as) l
 |[],_,_=>trivial
 |env::r,x,k=>by
  let(x1,(L,o,j,_,F,D),z):=x;show{x1,{L,o,j,SI _<|k env Bi L j,F,D},UA z λe U=>k e<|Bq _ U}
def X7(P:Bn)(w:BP)(outer:List bo)(H:Hp)(s:AK)(E:XK)(e:AC)(s':AK):Prop:=∃(j:AH) (cls:AC) (dx:Option AH) (H':Hp) (B:CB),e= .ref j/\s'.os=s.os/\Vg s'.gens/\Un (Oi outer) [] H H' s.heap s'.heap/\Jv P w H' s'.heap/\qI B outer j cls dx .none s'.heap/\H' j=S/\s.heap.get? j=S/\L8 (Oi outer) H H' s.heap B/\E cls dx H'
abbrev XC(P:Bn)(w:BP)(cm:Bool):dE:={cm,ge,X7 P w}
section
variable{cm:Bool}{P:Bn}{w:BP}{K:AB}{mg:AT->Option AC}{base:CB}{N:List AT}{qual:AT}{scope:Scope}{f:AH}{cd:AC}{A:CA}{outer:List bo}{s:AK}{H:Hp}{E:XK}
def xH(a8:a9=Z->cm=Z):JQ (XC P w a9) (UT (XC P w cm) P w K mg base N qual scope f cd A outer s H E) E:=by
 show{a8,O,λpZ σ H1 s1 e s' I hx=>?_};let(ea,cls,dx,H',B,O,os,bare,un,hok,F,hn,a7,kp,q):=(show X7 P w (FI qual scope ↑s f cd::outer) H1 s1 E e s' from hx);change By (model P w) (A.deeper<|FI qual scope ↑s f cd) (leaving (FI qual scope ↑s f cd)<|.ref ea) _ _ _;unfold leaving;show AG<|uT I.ok.frames O F λh1 F1 up1=>?_;show Sj F1 λh2 F2 a4=>?_;let a6:∀b∈Oi (FI qual scope ↑s f cd::outer),H1 b=none:=I.stkFree;let a5:Un (Oi (FI qual scope ↑s f cd::outer)) [] H1 H' s1.heap h2:=un.flown kp a6 F (up1.trans a4) F2.st;let D:Jv P w H' h2:=hok.flown kp.tk F.st F2.st;let I2:Ch (UT (XC P w cm) P w K mg base N qual scope f cd A outer s H E) pZ σ H' {s' with heap:=h2}:=I.call' (ch:=[]) (s':={s' with heap:=h2}) os a5 D bare (λb z=>A1Q z<|by simp);let a1:∀b o,s.heap.get? b=Y o->b∉Oi outer->b∉Oi (FI qual scope ↑s f cd::outer):=λb o q U z=>by
  let z':b∈↑s::Oi outer:=z;rcases Bf.mp z' with e|e;·show A1Q (Be q) (by rw[e];show EQ _)
  show U e
 let j:∀b,b∉ ([]:List AH):=λb z=>A1Q z (by simp);show{ea,cls,dx,H',B,O,I2.os,bare,I2.base,D,F2.drop,hn,?_,{λb o z n U=>?_,λb o z U=>?_,kp.tk},q}
 ·cases z:s.heap.get? ea with
  |none=>rfl
  |some o=>
   let(o',q'):=I.base.there ea o z<|j ea;rw[a7]at q';cases q'
 ·show kp.k1 b o (I.base.keep b o z n U<|j b) (I.base.free b o z n<|j b)<|a1 b o z U
 let(o',q'):=I.base.there b o z<|j b;show kp.k2 b o' q'<|a1 b o z U
end
def J7{o:Option Obj}{f:Option AH->ClassData->Array (Option AC)->Bool}(t:QZ (λ_=>Bool) o f (λ_=>ge)=Z):∃dd cd sl,o=Y {.type "type",dd,.cls cd,sl}/\f dd cd sl=true:=by
 cases o with
 |none=>show BU t
 |some o=>
  let(cls,dd,data,sl):=o;cases cls with
  |type s=>
   by_cases hs:s="type"
   ·subst hs;cases data with|cls cd=>show{(dd),cd,sl,O,t}|_=>show BU t
   let e:QZ (λ_=>Bool) (Y ⟨.type s,dd,data,sl⟩) f (λ_=>ge)=false:=by delta QZ;show dif_neg hs
   show BU<|e.symm.trans t
  |_=>show BU t
def J9{l:List (Option AC)}{mro:List AC}{g:AH->List AC->String->Bool}(t:PySem.W.excIn.match_1 (λ_ _=>Bool) mro l (λc b _ _ _ _ n _=>g c b n) (λ_ _=>ge)=Z):
  ∃C bm k0 k1 k2 k3 n k5,mro= .ref C::bm/\l=[k0,k1,k2,k3,Y<|.builtin n,k5]/\g C bm n=true:=by
 cases mro with
 |nil=>show BU t
 |cons v bm=>
  cases v with
  |ref z=>
   rcases l with _|⟨k0,_|⟨k1,_|⟨k2,_|⟨k3,_|⟨j,l⟩⟩⟩⟩⟩
   iterate 5 show BU t
   cases j with
   |none=>show BU t
   |some v=>
    cases v with
    |builtin n=>
     rcases l with _|⟨k5,_|⟨D,l⟩⟩;·show BU t
     ·show{(z),bm,k0,k1,k2,k3,n,k5,O,O,t}
     show BU t
    |_=>show BU t
  |_=>show BU t
def pH{K:AB}{h:CB}{C:AH}{qN:List AC}{newId:String}(kin:K.In h)(t:PySem.W.excIn K C qN newId=Z):
  ∃bm N nm j bs hd sn sub ab col dd k0 k1 k2 k3 k5 z,h.get? C=Y (QG nm j C N bs bm hd sn sub ab col dd k0 k1 k2 k3 k5 newId)/\h.Ns N z/\z "__init__"=S/\OwnTail h qN bm:=by let(dd,cd,sl,lk,t):=J7 t;let(nm,bs,mro,ns,j,hd,sn,sub,ab,col,del):=cd;obtain⟨l⟩:=sl;let(F,bm,k0,k1,k2,k3,n,k5,hm,D,t):=J9 (l:=l) (mro:=mro) (g:=λF bm n=>F==C&&n==newId&& !del&&PySem.W.tailIn K qN bm&&PySem.W.nsOkIn K ns&&Yh K ns "__init__"==Y S) t;let t:=Eb.mp t;let u:=Eb.mp t.1;let v:=Eb.mp u.1;let x:=Eb.mp v.1;let y:=Eb.mp x.1;rw[beq_iff_eq.mp y.1]at hm;rw[beq_iff_eq.mp y.2]at D;rw[hm,D,(Do del).mp x.2]at lk;show{bm,ns,nm,j,bs,hd,sn,sub,ab,col,dd,k0,k1,k2,k3,k5,_,kin _ _ lk,.of_isNs<|PySem.W.isNs_of_in kin u.2,PySem.W.nsMap_none_of_in kin u.2<|beq_iff_eq.mp t.2,PySem.W.tail_of_in kin v.2}
def PEX(X:Cx)(E:XK)(j:Expr)(t:TE):Prop:=∀(pZ:List (AH×Obj)) (s:AK) (σ:St) (H:Hp) (Q:VK),Ch X pZ σ H s->t σ H Q->By (model X.prog X.w) X.A (Dw j X.env) (EP X pZ σ Q) (λe s'=>∃H1 s1,Ch X pZ σ H1 s1/\X7 X.prog X.w X.stack H1 s1 E e s') s
def fJ(F:EE X.prog X.w X.K X.mg X.base (XC X.prog X.w cm) k f fd ps sp)(hr:EO k X.A)(hg:Gl X x)(hm:X.mg x=Y (.ref f))(hk:FE X.K (.ref f)=Z)(hb:EK X.K fd ps ds)(hd:Co dvs ds)(a2:cm=Z->X.calm=Z)(ha:PA X.nox (e::es) t)(a1:↑((x==("__debug__" :AT))=false))(he: ~~~(Bs (e::es) X.env=(ge,Dw e X.env)::Bs es X.env))(U: ~~~((Ef pos<|Bs es X.env).any (·.1)=false)):
  PEX X E (.Call (.Name x p) (e::es) [] pos) (kR sp dvs E t):=by
 intro 0 Q I h;show CQ<|Jr I hg hm ?_ a1;show GS (h₀:=X.base) I.ok.mod.kin hk (Ee (ha pos pZ s σ H _ (I.wish _) h) (λus s1 D=>?_) λ_ _ z=>Cc z) he U;let(vs,H1,I1,r,q):=D;show{I1.unwish.kIn,?_};let r2:Co (vs++dvs) (us++ds):=r.append hd;let hl: (us++ds).length=ps.length:=by rw[<-r2.length];show F.len _ _ _ _ q
 let J:=I1.unwish;show GH<|Gy (F.run X.A X.stack s1 H1 {us,[]} (us++ds) (vs++dvs) Q E hr (λz=>J.ok.hd<|a2 z) (λz=>BU z) J.env0 (hb s1 us J.kIn hl) r2 q) λr s' j=>?_;cases r with
 |error e=>show{(H1),s1,J,j}
 |ok fl=>
  cases fl with|ret u=>show J.after j|next=>show Cc j|brk=>show Cc j|cont=>show Cc j
abbrev O5(X:Cx)(e:AH):Cx:={X with A:=X.A.mark<|Y (.ref e),calm:=ge,suit:=ge,xe:=λ_ _=>False}
def Ch.suite(I:Ch X pZ σ H s)(e:AH):Ch (O5 X e) pZ σ H s:={{I.ok.mod,I.ok.kind,I.ok.glob,I.ok.blt,I.ok.above,I.ok.inj,I.ok.has,I.ok.cab,λz=>BU z,I.ok.frames,I.ok.stk,I.ok.exf,I.ok.bs,I.ok.bsz,I.ok.noex,I.ok.exfs,I.ok.funs,I.ok.frf,λz=>BU z},I.os,I.bare,I.base,I.loc,I.cell,I.free,I.freeC,I.pin,I.hok,I.len}
def Ch.forget(I:Ch X pZ σ H s)(hn:h'.Ns X.env.locals m')(sb:Heap.SameBut X.env.locals s.heap h'):
  Ch X pZ (SM X.N.length S) H {s with heap:=h',toks:=t'}:=by
 let j:∀b o,X.s_.heap.get? b=Y o->b≠X.env.locals:=λb o e=>BD<|BK (Be e) I.ok.above;let kp:∀b o,b≠X.env.locals->s.heap.get? b=Y o->h'.get? b=Y o:=λb o F e=>(sb.2 b F).trans e;show{I.ok,I.os,I.bare,{λb o e n F D=>kp b o (j b o e)<|I.base.keep b o e n F D,λb o e n F D=>?_,I.base.free,λb o e D=>?_,I.base.tups,I.base.frzs,I.base.tbls},{m',hn,λi x v e1 U _=>?_},λx c e=>?_,I.free,I.freeC,λp hp=>?_,λb o e=>?_,by simp}
 ·let(sl,q):=I.base.slot b o e n F D;show{sl,kp b _ (j b o e) q}
 ·let(o',q):=I.base.there b o e D;show{o',kp b o' (j b o e) q}
 ·rw[Po]at U;split at U <;> cases U
 ·let(v,z):=I.cell x c e;show{v,z.sameBut sb<|I.cne x c e}
 ·let(e,n,ne,nf,d):=I.pin p hp;show{kp p.1 p.2 ne e,n,ne,nf,d}
 show(I.hok b o e).stay (λc u hc q=>kp c u ?_ q) (λ_ q=>q) λ_ _ q=>q;rintro rfl;rcases hc with z|z;·rw[<-z,I.free]at e;cases e
 rw[I.free]at z;cases z
def Jv.track(x:Jv P w H h)(hn:H a=S)(new:Dd P w (upd H a o) h a o):Jv P w (upd H a o) h:=λb u e=>by
 by_cases j:b=a;·subst j;rw[Az]at e;cases e;show new
 rw[AM j]at e;show(x b u e).stay (λ_ _ _ q=>q) (λc q=>by rw[AM (BB q hn)];show q) λc xs q=>by rw[AM (BB q hn)];show q
def Un.track(u:Un fs [] H H' h h')(ha:h.get? a=S)(hn:H' a=S):Un fs [] H (upd H' a o) h h' where
 keep:=u.keep
 slot:=u.slot
 free:=λb ob e n j=>by
  rw[AM (by rintro rfl;rw[ha]at e;cases e)];show u.free b ob e n j
 there:=u.there
 tups:=λb xs e=>by
  have:=u.tups b xs e;rw[AM (BB this hn)];show this
 frzs:=λb ob z e=>by
  have:=u.frzs b ob z e;rw[AM (BB this hn)];show this
 tbls:=λb ps e=>by
  let(m,q):=u.tbls b ps e;show{m,by rw[AM (BB q hn)];show q}
def A1(q:h.get? e=Y ob):Dd P w H h e (qW e ob):={q,q,{(ob),q},λh1 h2 a k=>k ob a}
def A0(K:AB)(c:AC)(i:Nat)(ts:AH->TS)(D:TX)(σ:St):XK:=λcls dx H'=>PySem.W.exmOne K cls c=Y Z/\∀e a0 tb,H' e=S->ts e {D with nx:=λ_ _=>False,bk:=λ_ _=>False,ct:=λ_ _=>False} (σ.set i<|Y (.ref e)) (upd H' e<|qW e (Jy cls dx a0 tb))
section
variable{X:Cx}{x n:AT}{np hpos pos p1:Ij}{c0:Expr}{b_:Ih}{suite:List Ih}{i:Nat}{ts:AH->TS}{tc:XK->TE}{c:AC}{v0:V}
def uI(b1:X.stack=X.env::X.outer)(hf:X.env.frame=Y X.env.locals)(hg:Gl X x)(hm:X.mg x=Y c)(rc:CK v0 c)(hs:∀e,SS (O5 X e) (b_::suite)<|ts e)(hN:X.N.Nodup)(hi:X.N[i]?=Y n)(hl:X.env.scope.names.lookup n=Y .local)(I:Ch X pZ σ H1 s1)(hx:X7 X.prog X.w X.stack H1 s1 (A0 X.K c i ts D σ) e s')(d3:↑((x==("__debug__" :AT))=false)):
  By (model X.prog X.w) X.A (YC e X.env) (λ_ a9=>By (model X.prog X.w) X.A (setFlight e S) (λ_ a8=>By (model X.prog X.w) X.A (handleBy e X.env [.ExceptHandler (Y<|.Name x np) (Y n) (b_::suite) hpos]) (SP X pZ D) X.xe a8) X.xe a9) X.xe s':=by
 let(j,cls,dx,H',B,O,os,bare,un,hok,F,hn,d0,kp,c8,hq):=hx;let U:X.A.frames=Y (X.env::X.outer):=by rw[<-b1];show I.ok.frames
 let F0:qI B (X.env::X.outer) j cls dx .none s'.heap:=by rw[<-b1];show F
 show uT U hf F0 λh4 F4 a5=>?_;show Sj F4 λh5 F5 a4=>?_;let a3:∀{h6:CB} {fl:AC},qI B (X.env::X.outer) j cls dx fl h6->s'.heap.UpToSlots h6->Un (Oi X.stack) [] H1 H' s1.heap h6/\Jv X.prog X.w H' h6:=λ{h6 fl} F6 up=>by
  show{un.flown kp I.stkFree F up F6.st,hok.flown kp.tk F.st F6.st}
 let(c3,b4):=a3 F5<|a5.trans a4;let I5:Ch X pZ σ H' {s' with heap:=h5}:=I.call' (ch:=[]) (s':={s' with heap:=h5}) os c3 b4 bare (λb z=>A1Q z<|by simp);let(a0,T,oT,e4,d2,_):=F5.ob;let LT:PySem.W.Looks (model X.prog X.w) h5 (typeOf<|.ref j) cls:=(PySem.W.Looks.ld d2).andThen .now;show wpAny_handleBy_cons (codeAny_handlers_test<|Jr (X:=O5 X j) (I5.suite j) hg hm ?_ d3) (by intro z;cases z);show(PySem.W.exm_one I5.kIn LT c8).here ?_;show codeAny_handlers_suite_as<|wpAny_noRaise ?_;show Sj F5 λh6 F6 c1=>?_;let(c2,b3):=a3 F6<|(a5.trans a4).trans c1;let(a6,T6,e9,e5,d1,_):=F6.ob;let b2:Jv X.prog X.w (upd H' j<|qW j (Jy cls dx a6<|.ref T6)) h6:=b3.track hn<|A1 d1;let I6:Ch X pZ σ (upd H' j<|qW j (Jy cls dx a6<|.ref T6)) {s' with heap:=h6}:=I.call' (ch:=[]) (s':={s' with heap:=h6}) os (c2.track d0 hn) b2 bare (λb z=>A1Q z<|by simp);show Mr (X:=O5 X j) (i:=i) (v:=.ref j) (I6.suite j) hN hi (.inl hl) O (λs7 I7=>?_)<|.inr hl;show Ee (hs j pZ s7 _ _ _ I7<|hq j a6 (.ref T6) hn) (λfl s8 q8=>?_) λ_ _ z=>Cc z;change By (model X.prog X.w) X.A (do bindName X.env n .none;unbindBehindTheSuite X.env n hpos) (λ_ s9=>SP X pZ D fl s9) X.xe s8;cases fl with
 |next=>let(_,_,_,z):=q8;show Cc z|brk=>let(_,_,_,z):=q8;show Cc z|cont=>let(_,_,_,z):=q8;show Cc z
 |ret u=>
  let(v,b9,H8,I8,r8,z8):=q8;let J8:Ch X pZ b9 H8 s8:={(I.ok),I8.os,I8.bare,I8.base,I8.loc,I8.cell,I8.free,I8.freeC,I8.pin,I8.hok,I8.len};let(m,c7,_):=J8.loc;show wpAny_nameGoes hl c7 (by rw[I.ok.kind];rfl) λh9 m9 c6 c5=>{v,_,H8,J8.forget c6 c5,r8,z8}
def xA(z:X.stack=X.env::X.outer)(hf:X.env.frame=Y X.env.locals)(hc:∀E,PEX X E c0<|tc E)(hg:Gl X x)(hm:X.mg x=Y c)(rc:CK v0 c)(hs:∀e,SS (O5 X e) (b_::suite)<|ts e)(hN:X.N.Nodup)(hi:X.N[i]?=Y n)(hl:X.env.scope.names.lookup n=Y .local)(F:↑((x==("__debug__" :AT))=false))(j: ~~~(Ol c0 S p1.line X.env=Ic false)):
  PS X (.Try [.Expr c0 p1] [.ExceptHandler (Y<|.Name x np) (Y n) (b_::suite) hpos] [] [] pos) (λD σ H=>tc (A0 X.K c i ts D σ) σ H λ_ H1=>D.nx σ H1):=by
 intro 0 D I h;show wpAny_Try_except<|LZ (wpAny_Expr_any (Ee (hc _ pZ s σ H _ I h) (λv s1 {(y),H1,U,r1,q1}=>?_) λe s' {(H1),s1,U,hx}=>?_) I.quiet j)
 ·show HD<|HD {(σ),H1,U,q1}
 show uI z hf hg hm rc hs hN hi hl U hx F
end
section
variable{K:AB}
structure gX(K:AB)(C:AH):Prop where
 hd:NU K C=Z
 ga:CG K (.ref C) "__getattribute__"=Y (Y<|.builtin "BaseException.__getattribute__")
 gx:CG K (.ref C) "__getattr__"=Y S
 ca:CG K (.ref C) "__class__"=Y (Y<|.builtin "object.__class__")
 gs:NR K (.builtin "object.__class__") "__get__"=Y (Y<|.builtin "getset_descriptor.__get__")
 ts:PySem.W.takesIn K (.builtin "object.__class__")=Y Z
 mo:Ob K C (.type "object")=Y Z
 mb:Ob K C (.type "BaseException")=Y Z
variable{prog:Bn}{w:BP}{A:CA}{E:AC->AK->Prop}{s:AK}{e C:AH}{oe:Obj}{od:Option Obj}{name:AT}
def pR:builtinKind "BaseException.__getattribute__"=Y .slot:=⋯
def jW:splitId "BaseException.__getattribute__"=Y ("BaseException","__getattribute__"):=⋯
def XQ:plainId "BaseException.__getattribute__"=true:=⋯
def XR(L:PySem.W.Looks M s.heap (Pj (.ref e)<|.type "BaseException") Z)(q:Q Unit.unit s):
  By M A (checkBuiltinCall "BaseException.__getattribute__" {[.ref e,v],[]}) Q E s:=Vc (i:="BaseException.__getattribute__") (owner:="BaseException") (n:="__getattribute__") (self:=.ref e) (rest:=[v]) (kw:=[]) pR jW L (F.args_bexc_ga _ _) q
def P4(Zq:gX K C)(X:K.In s.heap)(I:En s.heap e oe C od):PySem.W.Looks M s.heap (Pj (.ref e)<|.type "BaseException") true:=by unfold Pj;show PySem.W.Looks.andThen I.type<|PySem.W.looks_mroIn X Zq.mb
def zt{tk:Tok}{expr fill:Bool}{Q:AC->AK->Prop}(Zq:gX K C)(X:K.In s.heap)(I:En s.heap e oe C od)(h:Ie (model prog w) A (.call (.builtin "BaseException.__getattribute__") {[.ref e,.str name tk],[]}) (λr s'=>match r with|.ok (.ret v)=>By (model prog w) A (handedOut v) Q E s'|_=>False) s):
  By (model prog w) A (getAttrBy (.ref e) (.str name tk) fill expr) Q E s:=by
 let(z,g,d,t,os):=s;unfold getAttrBy;show Cw<|AG ((I.type (M:=model prog w)).at<|AG ((Ld (M:=model prog w) X Zq.ga).at ?_))
 dsimp only
 let j: (Value.builtin "BaseException.__getattribute__"==Value.builtin "object.__getattribute__")=false:=⋯
 rw[A1N (by rw[j,Dg];show Bo)];unfold getAttrByItsOwn;show AG ((PySem.W.looks_hook (M:=model prog w) X (mc:=.ref C) (r:=S)<|by change(if Z=Z then _ else _)=_;rw[A1O O];show Zq.gx).at ?_)
 unfold callGetattribute;rw[A1N (by change ¬ ((expr&&ge)=Z);rw[Dg];show Bo)];unfold boundAndCalled;show AG<|bg (Cw<|AG (wpAny_of_eq (F.excAttr_ValueError.ga.bind<|.ref e) ?_))
 dsimp only
 show GH<|Gy h λr s' hr=>?_;cases r with
 |error x=>show Cc hr
 |ok f=>
  cases f with|ret v=>show hr|next=>show Cc hr|brk=>show Cc hr|cont=>show Cc hr
def mQ{Q:Option AC->AK->Prop}(Zq:gX K C)(X:K.In s.heap)(I:En s.heap e oe C od)(h:Q (Y<|.ref C) {s with toks:=s.toks+1}):By (model prog w) A (getAttr? (.ref e) "__class__") Q E s:=by
 let(j,g,d,t,os):=s;let hf:PySem.W.findObj K C od "__class__"=Y (.bind (.builtin "getset_descriptor.__get__")<|.builtin "object.__class__"):=by let(cd,hc,_):=Pn Zq.hd;unfold PySem.W.findObj;rw[hc,ZF,Zq.ca,ZF];simp[Zq.gs,Zq.ts]
 unfold getAttr? getAttrBy?;show AG<|wpAny_mkText (AG<|bg (zt Zq X I<|Gz XQ F.entry_bexc_ga (XR (P4 Zq X I) ?_)));unfold Builtin.«object.__getattribute__»;show AG<|Bm ?_
 dsimp only
 show AG<|Bm (AG<|(I.type (M:=model prog w)).at (AG<|(PySem.W.looks_find (M:=model prog w) X I hf).at ?_))
 dsimp only
 unfold Builtin.ObjectAttr.bindTo
 dsimp only
 show AG<|Cw (GH<|PySem.W.class_get (od:=od) X I Zq.mo ?_);show Bm ?_;change By _ _ (handedOut<|.ref C) _ _ _;rw[PySem.W.handedOut_of O];show Bm<|Bm h
def ux{K:AB}{C e:AH}{oe:Obj}{od:Option Obj}(Zq:gX K C):PySem.W.KitX K (.ref e) (.ref C) (λh=>En h e oe C od) where
 ty:=λ_ _ _ I=>I.type
 it:=λ_ _ X _=>by
  let(U,j,_):=Pn Zq.hd;unfold IJ at j;split at j;·rename_i c' d' a1 z F;intro A' Q' E' s' k q;unfold isType loadHead;show AG<|Yc (k _ _<|X _ _ F) (Bm q)
  cases j
 ne:=λh tp dd a2 n sl X D=>by
  let(U,j,_):=Pn Zq.hd;show Bool.eq_false_iff.mpr λq=>?_;let e:C=tp:=Value.ref.inj<|beq_iff_eq.mp q;subst e;unfold IJ at j;split at j
  ·rename_i c' d' a1 z F;have:=X _ _ F;rw[D]at this;cases this
  cases j
 ca:=λX I q=>mQ Zq X I q
def DZ:Gf X (.builtin "isinstance") (λxs H Q=>∃e C dx a0 tb c cv b,xs=[.ref e,c]/\H e=Y (qW e<|Jy (.ref C) dx a0 tb)/\gX X.K C/\(dx=S\/∃d fs,dx=Y d/\H d=Y (.xd fs))/\((∃a,c= .ref a/\cv= .ref a)\/∃T,c= .ty T/\cv= .type T)/\BC X.K (.ref C) cv=Y b/\Q (.bl b) H):=by
 intro 0 xs us Q I r h;let(e,C,dx,a0,tb,c,cv,b,O,hE,Zq,D,F,hk,q):=h;let(u,w',O,rx,j):=ee r;cases (show u=Value.ref e from rx);let(he,_):=I.hok e _ hE;let ec:w'=cv:=by
  rcases F with⟨a,rfl,rfl⟩|⟨T,rfl,rfl⟩;·show j
  show j
 subst ec;let U:∃od,En s.heap e (Jy (.ref C) dx a0 tb) C od:=by
  rcases D with rfl|⟨d,fs,rfl,hd⟩;·show{(S),he,O,O,trivial}
  let(o,eo):=(I.hok d _ hd).some_of;show{Y o,he,O,O,eo}
 let(od,U):=U;show DA (ux Zq) I.kIn U hk (λz=>nomatch z) λtk=>{.bl b,H,I.tok tk,O,q}
end
section
variable{X:Cx}{pZ:List (AH×Obj)}{σ:St}{H:Hp}{s:AK}
def Ch.big(I:Ch X pZ σ H s):GJ<↑s:=by let h:BY<↑s:=(I.mod.glob.keeps I.bk).lt;show Mg Aa h
def gG(h:CB)(j:GJ<h.objs.size):Dd P w H (h.push {cls:=.type "dict",data:=.dict #[]}) h.objs.size (.dK []):={Cu _,beq_eq_false_iff_ne.mpr<|CL (BD j),[],.nil,Heap.DictOf.new h}
def B7:TE:=λ_ H Q=>∀p,H p=S->Q (.ref p) (upd H p<|.dK [])
def RL:PE X (.Dict [] [] pos) B7:=λpZ s σ H Q I h=>
 wpAny_Dict_empty {.ref ↑s,_,I.laid (a:=↑s) (o:=.dK []) (t':=s.toks) (λ_ _ q=>AF _ q) (Bh _)<|gG s.heap I.big,O,h _<|I.hok.fresh (Bh _)}
inductive zc(X:Cx)(sp:Sp)(Q:VK)(vs:List V)(H1:Hp):Prop|mk (_:Hd X.A H1) (_:sp vs H1 Q E0)
def C0(X:Cx)(sp:Sp)(t:TA):TE:=λσ H Q=>t σ H λvs H1=>zc X sp Q vs H1
def WI(F:EE X.prog X.w X.K X.mg X.base CXS k f fd ps sp)(hr:EO k X.A)(hg:Gl X x)(hm:X.mg x=Y (.ref f))(hk:FE X.K (.ref f)=Z)(hb:EK X.K fd ps [])(ha:PA X (e::es) t)(a2:↑((x==("__debug__" :AT))=false))(he: ~~~(Bs (e::es) X.env=(ge,Dw e X.env)::Bs es X.env))(a1: ~~~((Ef pos<|Bs es X.env).any (·.1)=false)):
  PE X (.Call (.Name x p) (e::es) [] pos) (C0 X sp t):=by
 intro 0 Q I h;show CQ<|Jr I hg hm ?_ a2;show GS (h₀:=X.base) I.ok.mod.kin hk (DQ (ha pos pZ s σ H _ I h) λus s1 D=>?_) he a1;let(vs,H1,U,r,hd,q):=D;show{U.kIn,?_};let hl:us.length=ps.length:=by rw[<-r.length];show F.len _ _ _ _ q
 show GH (Gy (F.run X.A X.stack s1 H1 {us,[]} us vs Q E0 hr (λz=>BU z) (λ_=>hd) U.env0 (by let z:=hb s1 us U.kIn (by rw[CI];show hl);rw[CI]at z;show z) r q) λr s' j=>?_);cases r with
 |error e=>show Cc j
 |ok fl=>
  cases fl with|ret u=>show U.after j|next=>show Cc j|brk=>show Cc j|cont=>show Cc j
end
section
variable{X:Cx}
def PJ(X:Cx)(es:List Expr)(t:AT->TE):Prop:=∀(pZ:List (AH×Obj)) (s:AK) (σ:St) (H:Hp) (Q:VK) (j:AT),Ch X pZ σ H s->t j σ H Q->By (model X.prog X.w) X.A (joinParts j<|evalEach es X.env) (EP X pZ σ Q) X.xe s
def A0p:AT->TE:=λj _ H Q=>j.length<=sizeLine/\Q (.str j) H
def V0(t:TE)(u:AT->TE):AT->TE:=λj σ H Q=>t σ H λx H1=>∃y,x= .str y/\(j++y).length<=sizeLine/\u (j++y) σ H1 Q
def tu:PJ X [] A0p:=λpZ s σ H Q j I h=>joinParts_nil (show EP X pZ σ Q _ _ from{.str j,H,I.tok _,{(_),O},h.2}) h.1
def PD(F:PE X e t)(hr:PJ X es u):PJ X (e::es) (V0 t u):=λpZ s σ H Q z I h=>by
 change By _ _ (joinParts z (Dw e X.env::evalEach es X.env)) _ _ _;show joinParts_cons<|DQ (F pZ s σ H _ I h) λv s1 j=>?_;let(x,H1,U,r,y,ex,D,q):=j;subst ex;let(t,O):=r;show{D,hr pZ s1 σ H1 Q (z++y) U q}
def ar{z j:Expr}{rest:List Expr}{pos:Ij}{t:AT->TE}(h:PJ X (z::j::rest) t):PE X (.JoinedStr (z::j::rest) pos) (t Md):=λpZ s σ H Q I q=>
 JoinedStr_many (h pZ s σ H Q Md I q)
def z0(t:TE):TE:=λσ H Q=>t σ H λx H1=>(∃y,x= .str y/\y.length<=sizeLine/\Q (.str y) H1)\/∃i,x= .int i/\i.natAbs.log2<1920/\Q (.str<|QE i) H1
def jh(U:PE X e t):PE X (.FormattedValue e (-1) S pos) (z0 t):=λpZ s σ H Q I h=>by
 show FormattedValue_plain<|DQ (U pZ s σ H _ I h) λv s1 j=>?_;let(x,H1,z,r,q):=j;rcases q with⟨y,ex,D,q⟩|⟨i,ex,F,q⟩;·subst ex;let(t,O):=r;show formatField_str (λt' tk=>(show EP X pZ σ Q _ _ from{.str y,H1,z.tok tk,{(_),O},q})) D
 subst ex;let(t,O):=r;show PySem.wpAny_formatField_int F<|show EP X pZ σ Q _ _ from{.str<|QE i,H1,z.tok _,{(_),O},q}
end
def Us(e C:AH)(dx:Option AH):HO:=.ext λh=>∃a0,h.get? e=Y (Jy (.ref C) dx a0 .none)
def ir(q:h.get? e=Y (Jy (.ref C) dx a0 .none)):Dd P w H h e (Us e C dx):={{(a0),q},{(_),q},λ_ _ j k=>(by let(a,z):=j;show{a,k _ z})}
def Rw(ok:Jv P w H h)(q:H e=Y (Us e C dx)):∃a0,h.get? e=Y (Jy (.ref C) dx a0 .none):=(show Dd P w H h e (Us e C dx)from ok e _ q).1
def A7(h:H a=Y o):upd H a o=H:=by
 funext b;unfold upd;split;·rename_i z;rw[z,h]
 rfl
def untr(H:Hp)(e:AH):Hp:=λb=>if b=e then S else H b
def Mq:untr H e e=none:=A1O O
def Eh(h:b≠e):untr H e b=H b:=A1N h
def Jv.untr(ok:Jv P w H h)(j:H e=Y (Us e C dx)):Jv P w (untr H e) h:=λb o q=>by
 let D:b≠e:=by rintro rfl;rw[Mq]at q;cases q
 rw[Eh D]at q;show(ok b o q).stay (λ_ _ _ z=>z) (λc z=>?_) λc xs z=>?_;·rw[Eh (by rintro rfl;rw[j]at z;cases z)];show z
 rw[Eh (by rintro rfl;rw[j]at z;cases z)];show z
abbrev mG:List AC:=[.type "ValueError",.type "Exception",.type "BaseException",.type "object"]
structure O8(K:AB)(C fe fI:AH):Prop where
 cls:∃nm q N bs sn sub ab col dd k0 k1 k2 k3 k5,K.lookup C=Y (QG nm q C N bs (.ref fe::mG) Z sn sub ab col dd k0 k1 k2 k3 k5 "ValueError.__new__")/\PySem.W.nsOkIn K N=Z/\Yh K N "__init__"=Y (Y<|.ref fI)
 xfe:PySem.W.excIn K fe mG "ValueError.__new__"=Z
 feM:Ob K fe (.type "ValueError")=Y Z
 fn:Yj K (.ref fI)=Z
 kp:FE K (.ref C)=Z
 sa:CG K (.ref C) "__setattr__"=Y (Y<|.builtin "object.__setattr__")
def kQ{K:AB}{h:CB}{fe:AH}(kin:K.In h)(t:PySem.W.excIn K fe mG "ValueError.__new__"=Z)(hm:∃cd,IJ K fe=Y cd):OwnTail h mG (.ref fe::mG):=by let(bm,N,nm,D,bs,hd,sn,sub,ab,col,dd,k0,k1,k2,k3,k5,F,z,hN,j,TL):=pH kin t;show .own z hN j .base
def jw{K:AB}{h:CB}{N:AH}{j:AT->Option AC}{n:AT}{v:AC}(X:K.In h)(G:h.Ns N j)(e:Yh K N n=Y (Y v)):j n=Y v:=by
 let(o,es,ep,z,hd,_,hf):=G;unfold Yh at e;split at e
 ·rename_i c d es' F sl q;have:=X _ _ q;rw[z]at this;cases this;cases hd;split at e
  ·rename_i en D;rw[<-hf];unfold nsFind findBy;rw[<-Array.find?_toList,D];cases e;rfl
  split at e <;> cases e
 cases e
section
variable{prog:Bn}{w:BP}{A:CA}{E:AC->AK->Prop}{h:CB}{g:Array GenState}{d:Drawn}{t:Nat}{os:Fa}
variable{nm q:AT}{C N:AH}{bs bm qN:List AC}{hdct:Bool}{sn:List AT}{sub:List AC}{ab:Bool}{col:Option Bool}{dd:Option AH}{k0 k1 k2 k3 k5:Option AC}{B newId initId:String}
def YF(F:ExcBaseFacts B newId initId qN)(T:OwnTail h qN bm){mN:AT->Option AC}{rest:List AC}{fI:AH}{oI:Obj}{Q:PySem.Fin->AK->Prop}(hC:h.get? C=Y (QG nm q C N bs bm hdct sn sub ab col dd k0 k1 k2 k3 k5 newId))(hn:h.Ns N mN)(hi:mN "__init__"=Y (.ref fI))(a5:h.get? fI=Y oI)(a4:oI.cls= .type "function")(hq:∀h' e,Heap.MadeExcOf h h' e (.ref C) rest->By (model prog w) A (call (.ref fI) (.ref e::rest)) (λr s'=>r= .none/\Q (.done<|.ret (.ref e)) s') E {(h'),g,d,t,os})(hrest:rest.length<=sizeLine:=by size_fits):
  By (model prog w) A (Builtin.«type.__call__» {.ref C::rest,[]}) Q E {(h),g,d,t,os}:=by
 repeat (first|with_reducible show Lb hC ?_|with_reducible show wpAny_madeBy_exc hC ?_|wp_step)
 show codeAny_call_builtin_code (Code.quiet_builtin _ F.quiet)<|wpAny_check_new_subT F T hC ?_;show codeAny_exc_new_subT F T hC ?_ hrest;change By _ _ _ _ _ _;let j:=AF {cls:=.ref C,data:=.fields #[.ref h.objs.size,.none,.none,.none,.bool ge,.none]}
  (AF {cls:=.type "tuple",data:=.seq rest.toArray} hC)
 let z:=AF {cls:=.ref C,data:=.fields #[.ref h.objs.size,.none,.none,.none,.bool ge,.none]}
  (AF {cls:=.type "tuple",data:=.seq rest.toArray} a5)
 let U: ((h.push {cls:=.type "tuple",data:=.seq rest.toArray}).push {cls:=.ref C,data:=.fields #[.ref h.objs.size,.none,.none,.none,.bool ge,.none]}).Ns N mN:=let ⟨o,es,ep,e,r⟩:=hn;{o,es,ep,AF _<|AF _ e,r};let D: ((h.push {cls:=.type "tuple",data:=.seq rest.toArray}).push
   {cls:=.ref C,data:=.fields #[.ref h.objs.size,.none,.none,.none,.bool ge,.none]}).get? (h.objs.size+1)=Y
   {cls:=.ref C,data:=.fields #[.ref h.objs.size,.none,.none,.none,.bool ge,.none]}:=by heap_get
 let a6: (Value.ref C::bm).contains (.ref C)=true:=by simp
 let a2:=T.keeps (h':=(h.push {cls:=.type "tuple",data:=.seq rest.toArray}).push {cls:=.ref C,data:=.fields #[.ref h.objs.size,.none,.none,.none,.bool ge,.none]})
  λb o e=>AF _<|AF _ e
 unfold Pj
 repeat (first|with_reducible show Lb D ?_|(with_reducible show wpAny_isSubtype_exc j ?_;rw[a6])|wp_step)
 change By _ _ (typeLookup (.ref C) _) _ _ _;show wpAny_typeLookup_tail j U a2 F.mroIs F.init.lookup ?_;rw[hi];show Cw<|AG ?_;unfold bindSpecial;show AG<|wpAny_typeOf (T:="function") {(_),z,a4} ?_;rw[A1O Aa];show Bm<|AG (Ee (hq _ (h.objs.size+1) {λb o hb=>AF _<|AF _ hb,Yo<|ER _,h.objs.size,D,Yo<|Bh _,?_}) (λr s' hr=>?_) λ_ _ x=>x)
 ·show AF _<|Heap.get?_push_at O O
 let(O,hQ):=hr
 wp_walk
 show hQ
def vw(F:ExcBaseFacts B newId initId qN)(T:OwnTail h qN bm){U:AT->Option AC}{rest:List AC}{fI:AH}{oI:Obj}{Q:AC->AK->Prop}(j:h.get? C=Y (QG nm q C N bs bm hdct sn sub ab col dd k0 k1 k2 k3 k5 newId))(hn:h.Ns N U)(hi:U "__init__"=Y (.ref fI))(D:h.get? fI=Y oI)(z:oI.cls= .type "function")(hq:∀h' e,Heap.MadeExcOf h h' e (.ref C) rest->By (model prog w) (A.under<|.builtin "type.__call__" {.ref C::rest,[]}) (call (.ref fI) (.ref e::rest)) (λr s'=>r= .none/\Q (.ref e) s') E {(h'),g,d,t,os})(hrest:rest.length<=sizeLine:=by size_fits):
  By (model prog w) A (call (.ref C) rest) Q E {(h),g,d,t,os}:=by
 let f1:=tc_lookup;let f2:=tc_bind<|.ref C;let hT: (⟨h,g,d,t,os⟩:AK).TypeIs (.ref C) "type":={(_),j,O};show GH<|codeAny_of_tree ?_;change By _ _ (callAny (.ref C) _) _ _ _
 repeat (any_goals (first|assumption|with_reducible show Lb j ?_|wp_step))
 show{O,?_};show codeAny_call_builtin_at (Code.quiet_builtin _ Ab) entry_typeCall<|wpAny_check_type_call_sub j (YF (hrest:=hrest) F T j hn hi D z λh' e hm=>?_);show hq h' e hm
end
section
variable{M:Model}{A:CA}{E:AC->AK->Prop}{env:bo}
variable{nm q:AT}{C N:AH}{bs bm:List AC}{hdct:Bool}{sn:List AT}{sub:List AC}{ab:Bool}{col:Option Bool}{dd:Option AH}{k0 k1 k2 k3 k5:Option AC}{newId:String}
def UM(z:bm.contains (.type "BaseException")=Z)(hh:A.handled=S)(h:By M A x (λv j=>∃e dx a0,v= .ref e/\j.heap.get? C=Y (QG nm q C N bs bm hdct sn sub ab col dd k0 k1 k2 k3 k5 newId)/\j.heap.get? e=Y (Jy (.ref C) dx a0 .none)/\E (.ref e) j) E s):
  By M A (raiseStmt env (Y x) S) Q E s:=by
 let F: (Value.ref C::bm).contains (.type "BaseException")=true:=by rw[MQ,z,Yu]
 unfold raiseStmt;show AG<|Ee h (λv j D=>?_) λ_ _ x=>x;let(e,dx,a0,O,U,he,hE):=D;let(hp,g,d,tk,os):=j
 repeat (first|with_reducible show Lb he ?_|with_reducible show Lb U ?_|(with_reducible show wpAny_isSubtype_exc U ?_;rw[F])|wp_step)
 show wpAny_raiseNew_none hh hE
end
def mK(X:Cx)(C:AH)(E:XK):Prop:=∀(pZ:List (AH×Obj)) (σ:St) (H:Hp) (s:AK) (e:AH) (dx:Option AH),Ch X pZ σ H s->H e=Y (Us e C dx)->(∀o,X.s_.heap.get? e=Y o->e∈X.ex)->E (.ref C) dx (untr H e)->X.xe (.ref e) s
inductive vO(C:AH)(sp:Sp)(E:XK)(vs:List V)(H1:Hp):Prop|mk (_:vs.length<=sizeLine) (_:∀e,H1 e=none->sp (.ref e::vs) (upd H1 e<|Us e C none) (λv H2=>v= .non/\∃dx,H2 e=Y (Us e C dx)/\E (.ref C) dx (untr H2 e)) E0)
def wJ(C:AH)(sp:Sp)(E:XK)(ta:TA):TS:=λ_ σ H=>ta σ H λvs H1=>vO C sp E vs H1
def Km{X:Cx}{x:AT}{C fe fI:AH}{E:XK}{k:Nat}{fd:Ea}{ps:List AT}{sp:Sp}{np cpos pos:Ij}{e:Expr}{es:List Expr}{ta:TA}(hc:X.calm=Z)(hg:Gl X x)(hm:X.mg x=Y (.ref C))(M:O8 X.K C fe fI)(G:EE X.prog X.w X.K X.mg X.base SU k fI fd ps sp)(hr:EO (k+1) X.A)(hb:EK X.K fd ps [])(hR:mK X C E)(ha:PA X (e::es) ta)(b7:↑((x==("__debug__" :AT))=false))(he: ~~~(Bs (e::es) X.env=(ge,Dw e X.env)::Bs es X.env))(b2: ~~~((Ef cpos<|Bs es X.env).any (·.1)=false)):
  PS X (.Raise (Y<|.Call (.Name x np) (e::es) [] cpos) S pos) (wJ C sp E ta):=by
 intro 0 D I h;let(nm,qn,N,bs,sn,sub,ab,col,dd,k0,k1,k2,k3,k5,lk,a9,b0):=M.cls;let U: (Ef cpos<|Bs (e::es) X.env).any (·.1)=false:=by rw[he];change(ge|| (Ef cpos<|Bs es X.env).any (·.1))=ge;rw[b2];rfl
 obtain⟨oI,b3,b5⟩:∃oI,X.base.get? fI=Y oI/\oI.cls= .type "function":=by let z:Option.map (λx=>x.cls) (Ew fI X.K)=Y (.type "function"):=beq_iff_eq.mp M.fn;let(o,ho,b8):=Bp.mp z;show{o,I.ok.mod.kin _ _ ho,b8}
 rw[arm_exec_Raise];simp only[evalOpt,Option.map];show AG (GG<|UM (C:=C) (nm:=nm) (q:=qn) (N:=N) (bs:=bs) (bm:=.ref fe::mG) (hdct:=Z) (sn:=sn) (sub:=sub) (ab:=ab) (col:=col) (dd:=dd) (k0:=k0) (k1:=k1) (k2:=k2) (k3:=k3) (k5:=k5) (newId:="ValueError.__new__") (by rw[MQ,show mG.contains (.type "BaseException")=Z from by decide+kernel,Yu]) (I.ok.hd hc) ?_);show AG<|Ee (wpAny_Call_ofName<|Jr I hg hm ?_ b7) (λv c2 a3=>AG<|GG (Bm a3)) λ_ _ x=>x;let hs:=ha cpos pZ s σ H _ I h;unfold callWith;rw[he]at hs ⊢;show AG<|Cw (Yt<|DQ hs λus s2 a7=>?_);let(vs,H1,I1,r,hz,q):=a7;show AG<|GG ?_;rw[<-he];simp only[U];let hC:=I1.bk _ _<|I.ok.mod.kin _ _ lk;let a8:s2.heap.Ns N (s2.heap.nsMap N):=.of_isNs<|PySem.W.isNs_of_in I1.kIn a9;let(hp,g,d,tk,os):=s2;show AG<|wpAny_keeperOf_exc hC ?_;show AG (vw PySem.F.excBase_ValueError (kQ I1.kIn M.xfe (by let(cd,a,_):=Option.bind_eq_some_iff.mp M.feM;show{(cd),a})) hC a8 (jw I1.kIn a8 b0) (I1.bk _ _ b3) b5 (λh' j m=>?_)<|by change us.length<=sizeLine;rw[<-r.length];show hz);let(t0,b1,_,_):=m.there;let a2:H1 j=none:=by
  cases z:H1 j with
  |none=>rfl
  |some o=>
   let(u,hu):=(I1.hok j o z).some_of;rw[show hp.get? j=S from m.new]at hu;cases hu
 let a6:∀o,X.s_.heap.get? j=Y o->j∈X.ex:=λo z=>by
  by_cases hx:j∈X.ex;·show hx
  let(o',q'):=I1.base.there j o z hx;rw[show hp.get? j=S from m.new]at q';cases q'
 let I2:Ch X pZ σ (upd H1 j<|Us j C S) ⟨h',g,d,tk,os⟩:=I1.un (h':=h') (t':=tk) ((Un.kept m.keeps).track m.new a2)<|(I1.hok.kept m.keeps).track a2 (ir b1);let q2:=q j a2;let r2:Co (V.ref j::vs) (Value.ref j::us):=.cons O r;let hl: (Value.ref j::us).length=ps.length:=by rw[<-r2.length];show G.len _ _ _ _ q2
 show GH (Gy (G.run _ X.stack _ _ {Value.ref j::us,[]} (Value.ref j::us) _ _ E0 (hr.make C us []) (λ_=>I.ok.hd hc) (λz=>BU z) (I2.env0.make C us []) (by let z:=hb {(h'),g,d,tk,os} (Value.ref j::us) I2.kIn (by rw[CI];show hl);rw[CI]at z;show z) r2 q2) λr s' hq=>?_);cases r with
 |error x=>show Cc hq
 |ok fl=>
  cases fl with
  |ret u=>
   let(v,H',I3,rv,ev,dx,hx,q3):=I2.after hq;subst ev;let(a0,ho):=Rw I3.hok hx;show{rv,AG<|Cw (wpAny_point<|Bm {j,dx,a0,O,I3.bk _ _<|I.ok.mod.kin _ _ lk,ho,hR pZ σ H' s' j dx I3 hx a6 q3})}
  |next=>show Cc hq|brk=>show Cc hq|cont=>show Cc hq
section
variable{cm:Bool}{P:Bn}{w:BP}{K:AB}{mg:AT->Option AC}{base:CB}{N:List AT}{qual:AT}{scope:Scope}{f:AH}{cd:AC}{A:CA}{outer:List bo}{s:AK}{H:Hp}{E:XK}
def Je:mK (UT (XC P w cm) P w K mg base N qual scope f cd A outer s H E) C E:=λpZ σ Hr D e dx I hx b0 q=>by
 let(a0,he):=Rw I.hok hx;let a3:∀b,b∉ ([]:List AH):=λb z=>A1Q z (by simp);let new:s.heap.get? e=none:=by cases z:s.heap.get? e with|none=>rfl|some o=>show A1Q (b0 o z)<|a3 e
 let a9:Jv P w (untr Hr e) D.heap:=I.hok.untr hx;let sub:∀b o,(Hi D.heap (e::Oi (FI qual scope ↑s f cd::outer))).get? b=Y o->D.heap.get? b=Y o:=λb o q=>PySem.W.of_hideAll _ q;let a7:∀b o,s.heap.get? b=Y o->b∉Oi outer->b∉e::Oi (FI qual scope ↑s f cd::outer):=λb o q j z=>by
  rcases Bf.mp z with ez|z;·rw[ez,new]at q;cases q
  let z':b∈↑s::Oi outer:=z;rcases Bf.mp z' with e|e;·show A1Q (Be q) (by rw[e];show EQ _)
  show j e
 let kp:L8 (Oi outer) H (untr Hr e) s.heap (Hi D.heap (e::Oi (FI qual scope ↑s f cd::outer))):=by
  show{λb o q n j=>?_,λb o q j=>?_,λb n=>?_};·show LK _ (I.base.keep b o q n j<|a3 b)<|a7 b o q j
  ·let(o',q'):=I.base.there b o q<|a3 b;show{o',LK _ q'<|a7 b o q j}
  let b1:b≠e:=by rintro rfl;show n Mq
  rw[Eh b1]at n;cases q:Hr b with
  |none=>show A1Q q n
  |some x=>
   let(u,hu):=(I.hok b x q).some_of;show{u,LK _ hu λz=>?_};rcases Bf.mp z with ez|z;·show b1 ez
   have:=I.stkFree b z;rw[q]at this;cases this
 let b9: (Hi D.heap (e::Oi (FI qual scope ↑s f cd::outer))).get? e=none:=SI _ Bi;let c2:D.heap.FunFrames base (FI qual scope ↑s f cd::outer):=I.stack;let b2:D.heap.FunFrames (Hi D.heap (e::Oi (FI qual scope ↑s f cd::outer))) (FI qual scope ↑s f cd::outer):=UA c2 λenv he b j=>Bq _<|MP.mpr {(env),he,j};change By (model P w) (A.deeper<|FI qual scope ↑s f cd) (leaving (FI qual scope ↑s f cd)<|.ref e) _ _ _;unfold leaving;show AG<|yz (B:=Hi D.heap (e::Oi (FI qual scope ↑s f cd::outer))) I.ok.frames b2 O he (λb o z=>sub b o z) b9 λh1 F1 up1=>?_;show Sj F1 λh2 F2 b5=>?_;let gc:∀b o,Hr b=Y o->(∀C dx,o≠Us e C dx)->b≠e:=λb o z n=>by
  rintro rfl;rw[hx]at z;show n _ _ (AE z).symm
 let F:D.heap.UpToSlots h2:=up1.trans b5;let F0:∀b∈Oi outer,∃o,D.heap.get? b=Y o/\∀vs,o.data≠ .fields vs:=λb j=>by
  let(_,o,q1,nf):=b2.2.2.mem j;show{(o),q1,nf}
 let U:Un (Oi outer) [] H Hr s.heap D.heap:=I.base;show{e,.ref C,dx,untr Hr e,_,O,I.os,I.bare,?_,a9.flown kp.tk (λb o z=>sub b o z) F2.st,F2.drop,Mq,new,kp,q};show{λb o q1 n j _=>F2.st b o<|kp.k1 b o q1 n j,λb o q1 n j hx=>?_,λb o q1 n b8=>?_,λb o q1 hx=>?_,λb xs z=>?_,λb o u z=>?_,λb ps z=>?_};·let(sl,q2):=U.slot b o q1 n j hx;let(o',q3,nf):=F0 b j;rw[q2]at q3;cases q3;let(a6,q4):=F b _ q2 nf;show{(a6),q4}
 ·unfold untr;split
  ·rfl
  show U.free b o q1 n b8
 ·by_cases j:b∈Oi outer
  ·let(o',q3,nf):=F0 b j;let(a6,q4):=F b _ q3 nf;show{(_),q4}
  let(o',q'):=kp.k2 b o q1 j;show{o',F2.st b o' q'}
 ·let z':=U.tups b xs z;rw[Eh (gc b _ z' λ_ _ y=>by cases y)];show z'
 ·let z':=U.frzs b o u z;rw[Eh (gc b _ z' λ_ _ y=>by cases y)];show z'
 let(m,z'):=U.tbls b ps z;show{m,by rw[Eh (gc b _ z' λ_ _ y=>by cases y)];show z'}
end
section
variable{X:Cx}
inductive yZ(C:AH)(Q:VK)(vs:List V)(H1:Hp):Prop|mk (e rest dx:_) (_:vs= .ref e::rest) (_:H1 e=some (Us e C dx)) (_:rest.length<=sizeLine) (_:Q .non H1)
def B3(C:AH)(ta:TA):TE:=λσ H Q=>ta σ H λvs H1=>yZ C Q vs H1
structure zS(K:AB)(fe:AH):Prop where
 ga:NR K (.ref fe) "__getattribute__"=Y (Y<|.builtin "type.__getattribute__")
 rd:PySem.W.readsIn K fe (.type "type")=Z
 fi:PySem.W.findCls K (.ref fe) (.type "type") "__init__"=Y (.val<|.builtin "ValueError.__init__")
def fK(hg:Gl X x)(hm:X.mg x=Y (.ref fe))(Zq:zS X.K fe)(M:O8 X.K C fe fI)(ha:PA X (e::es) ta)(a5:↑((x==("__debug__" :AT))=false))(he: ~~~(Bs (e::es) X.env=(ge,Dw e X.env)::Bs es X.env))(a3: ~~~((Ef pos<|Bs es X.env).any (·.1)=false))(ht:Dw (.Call (.Attribute (.Name x np) "__init__" apos) (e::es) [] pos) X.env=(do
   let ov <-Dw (.Name x np) X.env
   YA apos.atName
   let (f,first) <-QF [ov] (SB ov "__init__" pl)
   callWith pos f first (Ef pos<|Bs (e::es) X.env) (MM pos<|Hv [] X.env)):=by rfl):
  PE X (.Call (.Attribute (.Name x np) "__init__" apos) (e::es) [] pos) (B3 C ta):=by
 intro 0 Q I h;let F:=PySem.F.excBase_ValueError;let(nm,qn,N,bs,sn,sub,ab,col,dd,k0,k1,k2,k3,k5,lk,b1,b2):=M.cls;show Ho (pl:=pl) (Jr I hg hm ?_ a5) ht;show PySem.W.method_cls I.kIn Zq.ga<|PySem.W.cls_value I.kIn Zq.rd Zq.fi O ?_;show Kj (DQ (ha pos pZ _ σ H _ (I.tok _) h) λus s1 U=>?_) he a3;let(vs,H1,I1,r1,z,rest,dx,ev,hx,hz,q1):=U;subst ev;cases us with
 |nil=>show A1Q r1.length (by simp)
 |cons u us=>
  obtain⟨hu,hr⟩:u= .ref z/\Co rest us:=by cases r1 with|cons a b=>show{(a),b}
  subst hu;let(a0,ho):=Rw I1.hok hx;let b4:us.length<=sizeLine:=by rw[<-hr.length];show hz
  let(j,g,d,tk,os):=s1;show GH (Gz F.init.plain F.initEntry<|wpAny_check_init_subT F (kQ I1.kIn M.xfe (by let(cd,a,_):=Option.bind_eq_some_iff.mp M.feM;show{(cd),a})) (I1.bk _ _<|I.ok.mod.kin _ _ lk) ho O ?_)
  wp_walk
  let a4:=AF {cls:=DO "tuple",data:=Data.seq us.toArray}<|show j.get? z=Y (Jy (.ref C) dx a0 .none)from ho;let D: ((j.push {cls:=DO "tuple",data:=Data.seq us.toArray}).update z<|JF λx=>x.setIfInBounds 0<|Value.ref j.objs.size).get? z=Y (Jy (.ref C) dx (.ref j.objs.size) .none):=by rw[FY _ a4 O];rfl
  let I2:Ch X pZ σ H1 {heap:=j.push {cls:=DO "tuple",data:=Data.seq us.toArray},gens:=g,drawn:=d,toks:=tk,os:=os}:=I1.kept (t':=tk) λb u q=>AF _ q;let I3:=I2.write (x:=z) (e:=z) (o:=Us z C dx) (h':=(j.push {cls:=DO "tuple",data:=Data.seq us.toArray}).update z<|JF λx=>x.setIfInBounds 0<|Value.ref j.objs.size) (t':=tk) (by rw[hx];trivial) (.inl O) (λb u hb q=>(CO _ _<|CL hb).trans q) {(_),D}<|ir D;rw[A7 hx]at I3;let fin:By (model X.prog X.w) X.A.in1 (ret Eg) (λfin s'=>match fin with
    |PySem.Fin.done f=>(match (Pq f:Result)with|Pq (Flow.ret v)=>EP X pZ σ Q v s'|Pq a=>False|Yr e=>X.xe e s')|PySem.Fin.again c'=>c'.quiet=Z/\Ie (model X.prog X.w) X.A c' (λr s'=>match r with|Pq (Flow.ret v)=>EP X pZ σ Q v s'|Pq a=>False|Yr e=>X.xe e s') s')
    (λe s'=>match (Yr e:Result)with|Pq (Flow.ret v)=>EP X pZ σ Q v s'|Pq a=>False|Yr e=>X.xe e s')
    {heap:=(j.push {cls:=DO "tuple",data:=Data.seq us.toArray}).update z<|JF λx=>x.setIfInBounds 0<|Value.ref j.objs.size,gens:=g,drawn:=d,toks:=tk,os:=os}:=Bm<|show EP X pZ σ Q Eg _ from{.non,H1,I3,O,q1}
  change By _ _ (match a0 with|Value.ref a=>letGo [a0]|x=>Ic Unit.unit) _ _ _;split;·show wpAny_letGo fin
  show Bm fin
end
section
variable{X:Cx}{o value:Expr}{f:AT}{pos pos':Ij}{ta tv:TE}
inductive L9(K:AB)(f:AT)(Q:VK)(x:V)(H1:Hp):Prop|mk (e C d a0 tb fs v:_) (_:x= .ref e) (_:H1 e=some (qW e<|Jy (.ref C) (some d) a0 tb)) (_:H1 d=some (.xd fs)) (_:gX K C) (_:Hy K C f) (_:fs.lookup f=some v) (_:Q v H1)
def Q5(K:AB)(f:AT)(ta:TE):TE:=λσ H Q=>ta σ H λx H1=>L9 K f Q x H1
def iq{prog:Bn}{w:BP}{A:CA}{E:AC->AK->Prop}{s:AK}{K:AB}{C e:AH}{oe:Obj}{od:Option Obj}{name:AT}{v:AC}{expr:Bool}{Q:AC->AK->Prop}(Zq:gX K C)(X:K.In s.heap)(I:En s.heap e oe C od)(hf:PySem.W.findObj K C od name=Y (.value v))(z:ZE v=Z)(h:Q v {s with toks:=s.toks+1}):By (model prog w) A (getAttr (.ref e) name expr) Q E s:=by
 let(j,g,d,t,os):=s;unfold getAttr;show AG<|wpAny_mkText (zt Zq X I<|Gz XQ F.entry_bexc_ga (XR (P4 Zq X I) ?_));unfold Builtin.«object.__getattribute__»;show AG<|Bm ?_
 dsimp only
 show AG<|Bm (AG<|(I.type (M:=model prog w)).at (AG<|(PySem.W.looks_find (M:=model prog w) X I hf).at ?_))
 dsimp only
 show Bm ?_;change By _ _ (handedOut v) _ _ _;rw[PySem.W.handedOut_of z];show Bm h
def ci(he:PE X o ta)(hb:HJ o f X.env (Dw o X.env)=Dw o X.env):PE X (.Attribute o f pos) (Q5 X.K f ta):=by intro 0 Q I h;show db hb<|DQ (he pZ s σ H _ I h) λu s1 z=>?_;let(x,H1,D,rx,e,C,d,a0,tb,fs,v,ex,hE,hd,Zq,na,hl,q):=z;subst ex;obtain rfl:u=Value.ref e:=rx;let(ho,_):=D.hok e _ hE;let(mA,U,j):=(show Dd X.prog X.w H1 s1.heap d (.xd fs)from D.hok d _ hd);let r:=j f;rw[hl]at r;let(u,hu,ru):=r.some_of;let(od,F,a1):=Tr U;let IA:En s1.heap e (Jy (.ref C) (Y d) a0 tb) C (Y od):={(ho),O,O,F};show iq Zq D.kIn IA (PySem.W.findObj_own Zq.hd na O<|by rw[a1,hu]) (aK ru) {v,H1,D.tok _,ru,q}
end
section
variable{X:Cx}{o value:Expr}{f:AT}{pos pos':Ij}{ta tv:TE}
def mR{fs:List (AT×V)}{mA:AT->Option AC}(h:∀f,KS (fs.lookup f)<|mA f):PySem.Within mA (fs.map (·.1)):=λy j=>by
 cases e:fs.lookup y with|none=>have:=h y;rw[e]at this;show A1Q this.none_of j|some v=>show Bb.mpr {(y,v),Ff e,O}
def dX{prog:Bn}{w:BP}{A:CA}{s:AK}{R:Result->AK->Prop}{K:AB}{C fe fI x:AH}{z:Obj}{od:Option Obj}{name:AT}{tk:Tok}{v:AC}(X:K.In s.heap)(I:En s.heap x z C od)(M:O8 K C fe fI)(na:Hy K C name)(h:∀b,By (model prog w) A.in1 (Builtin.ObjectAttr.storeInOwnDict (.ref x) (.ref C) (.str name tk) name v b) (λfin s'=>match fin with|.done f=>R (.ok f) s'|.again c'=>c'.quiet=Z/\Ie (model prog w) A c' R s') (λe s'=>R (.error e) s') s):
  Ie (model prog w) A (.call (.builtin "object.__setattr__") {[.ref x,.str name tk,v],[]}) R s:=by
 let SF:=PySem.F.store_ValueError;let(nm,qn,N,bs,sn,sub,ab,col,dd,k0,k1,k2,k3,k5,lk,D,U):=M.cls;obtain⟨cd,hc,j⟩:∃cd,IJ K C=Y cd/\cd.mro= .ref C:: .ref fe::mG:={_,by unfold IJ;rw[lk],O};let hm:PySem.W.Looks (model prog w) s.heap (mroOf<|.ref C) cd.mro:=(LJ X hc).andThen .now;let ho: (Value.ref C:: .ref fe::mG).contains (.type "object")=true:=by rw[MQ,MQ,show mG.contains (.type "object")=Z from by decide+kernel,Yu,Yu]
 let sub:PySem.W.Looks (model prog w) s.heap (Pj (.ref x)<|.type "object") true:=I.type.andThen (PySem.W.looks_mroIn X<|by unfold Ob;rw[hc,ZF,j,A1N (by simp),ho]);show Gz SF.slot.plain SF.entry<|@Vc (model prog w) _ _ s "object.__setattr__" "object" "__setattr__" (.ref x) [.str name tk,v] [] _ SF.kind SF.split sub (SF.args (.ref x) (.str name tk) v) ?_;rw[PySem.W.osa_eq,refuse_eq];show AG<|AG (I.type.here<|AG (hm.here ?_));rw[j,refuseLoop_ref,refuseLoop_ref,SF.passes];show Bm<|AG (I.type.here<|AG ((Ld X na).here<|AG ?_));show Bm<|h _
def sXF(K:AB)(C:AH)(f:AT)(ta tv:TE):TS:=λD σ H=>tv σ H λy H1=>ta σ H1 λx H2=>∃e,x= .ref e/\Hy K C f/\((H2 e=Y (Us e C S)/\∀d,H2 d=S->D.nx σ (upd (upd H2 d<|.xd [(f,y)]) e<|Us e C (Y d)))\/
  ∃d fs,H2 e=Y (Us e C<|Y d)/\H2 d=Y (.xd fs)/\fs.length<1000/\D.nx σ (upd H2 d<|.xd (Mu f y fs)))
def cc(M:O8 X.K C fe fI)(ha:PE X o ta)(hv:PE X value tv)(hs:Ol value (Y<|.Attribute o f pos') pos.line X.env=Ic ge):PS X (.Assign [.Attribute o f pos'] value pos) (sXF X.K C f ta tv):=by
 intro 0 D I h;show plainObj_wpAny_Assign_Attribute (DQ (hv pZ s σ H _ I h) λu s1 b7=>?_) hs;let(y,H1,I1,ry,q):=b7;show DQ (ha pZ s1 σ H1 _ I1 q) λov s2 b6=>?_;let(x,H2,F,rx,e,ex,na,q2):=b6;subst ex;obtain rfl:ov=Value.ref e:=rx;let(nm,qn,N,bs,sn,sub,ab,col,dd,k0,k1,k2,k3,k5,lk,d5,d6):=M.cls;obtain⟨cd,hc,b5⟩:∃cd,IJ X.K C=Y cd/\cd.hasDict=true:={_,by unfold IJ;rw[lk],O};rcases q2 with⟨U,q2⟩|⟨d,fs,U,hd,hz,q2⟩
 ·let(a0,ho):=Rw F.hok U;let IA:En s2.heap e (Jy (.ref C) S a0 .none) C none:={(ho),O,O,trivial};show Yg F.kIn IA M.sa<|dX (s:={s2 with toks:=s2.toks+1}) F.kIn IA M na λb=>?_;show AG<|Bm (AG<|AG (Yc ho<|AG (Vd (s:={s2 with toks:=s2.toks+1}) (LJ F.kIn hc) ?_)));rw[b5];change By _ _ (do
   let d <-alloc {cls:=DO "dict",data:=SR #[]}
   update e λo=>{cls:=o.cls,dict:=Y d,data:=o.data,slots:=o.slots}
   dictMade (.ref C) e d) _ _ _
  let b1:=AF {cls:=DO "dict",data:=SR #[]} ho;let b8:e≠↑s2:=BD<|Be ho;show AG<|wpAny_alloc' (AG<|wpAny_update' b1 (Bm ?_));let c7: ((s2.heap.push {cls:=DO "dict",data:=SR #[]}).update e λo=>{cls:=o.cls,dict:=Y ↑s2,data:=o.data,slots:=o.slots}).get? ↑s2
    =Y {cls:=DO "dict",data:=SR #[]}:=(Heap.get?_update_ne _ _ _ _ b8.symm).trans<|Heap.get?_push_at O O
  let c6: ((s2.heap.push {cls:=DO "dict",data:=SR #[]}).update e λo=>{cls:=o.cls,dict:=Y ↑s2,data:=o.data,slots:=o.slots}).get? e
    =Y (Jy (.ref C) (Y ↑s2) a0 .none):=FY _ b1 O
  let c5: ((s2.heap.push {cls:=DO "dict",data:=SR #[]}).update e λo=>{cls:=o.cls,dict:=Y ↑s2,data:=o.data,slots:=o.slots}).Ns ↑s2 (λ_=>S):={_,#[],_,c7,O,λe he=>A1Q he (by simp),λ_=>rfl};change By _ _ (Builtin.ObjectAttr.storeInDict ↑s2 (.str f s2.toks) f u) _ _ _;unfold Builtin.ObjectAttr.storeInDict Builtin.ObjectAttr.newKeyGuard;show AG<|Bm (AG<|wpAny_nsSet1 (Heap.Ns1.of_empty c5) λh' b4 a9=>?_);let(oD,c9,d0,a2,a6,a7):=b4.count<|Within.cons f u Within.nil;show AG (wpAny_lookBehind a2 (by rw[a6];show pastItsLine_dict<|AU a7 (by rw[BJ,List.length_nil,Ht];lia)) ?_);let j:H2 ↑s2=none:=F.hok.fresh<|Bh _;let a4:h'.get? e=Y (Jy (.ref C) (Y ↑s2) a0 .none):=(a9.2 e b8).trans c6;let kp:∀b o,b≠e->s2.heap.get? b=Y o->h'.get? b=Y o:=λb o hb q=>
   (a9.2 b<|BD (Be q)).trans ((Heap.get?_update_ne _ _ _ _ hb).trans<|AF _ q)
  let b0:Jv X.prog X.w (upd (upd H2 ↑s2<|.xd [(f,y)]) e<|Us e C (Y ↑s2)) h':=λb o q=>by
   by_cases hb:b=e;·subst hb;rw[Az]at q;cases q;show ir a4
   rw[AM hb]at q;by_cases hd:b=↑s2
   ·subst hd;rw[Az]at q;cases q;show{_,b4,λg=>?_};change KS (Ew g [(f,y)]) (if g=f then Y u else S)
    by_cases q:g=f;·subst q;rw[A1O O,Fn,beq_self_eq_true];show ry
    rw[A1N q,Fn,beq_eq_false_iff_ne.mpr q];show Dx
   rw[AM hd]at q;show(F.hok b o q).stay (λc v c8 z=>kp c v ?_ z) (λc z=>?_) λc xs z=>?_
   ·rintro rfl;rcases c8 with z1|z1
    ·show hb z1.symm
    rw[U]at z1;cases z1
   ·rw[AM (by rintro rfl;rw[U]at z;cases z),AM<|BB z j];show z
   rw[AM (by rintro rfl;rw[U]at z;cases z),AM<|BB z j];show z
  let c2:Un X.fs [] H2 (upd (upd H2 ↑s2<|.xd [(f,y)]) e<|Us e C (Y ↑s2)) s2.heap h':=by
   show{λb o q n hb _=>kp b o (by rintro rfl;rw[U]at n;cases n) q,λb o q n hb _=>{o.slots,kp b o (by rintro rfl;rw[U]at n;cases n) q},λb o q n _=>?_,λb o q _=>?_,λb xs z=>?_,λb o u z=>?_,λb ps z=>{#[],?_}};·rw[AM (by rintro rfl;rw[U]at n;cases n),AM<|BD (Be q)];show n
   ·by_cases hb:b=e
    ·rw[hb];show{(_),a4}
    show{o,kp b o hb q}
   ·rw[AM (by rintro rfl;rw[U]at z;cases z),AM<|BB z j];show z
   ·rw[AM (by rintro rfl;rw[U]at z;cases z),AM<|BB z j];show z
   rw[AM (by rintro rfl;rw[U]at z;cases z),AM<|BB z j,Array.append_empty];show z
  show Bm {σ,_,F.un (h':=h') c2 b0,q2 _ j}
 let(a0,ho):=Rw F.hok U;let(mA,b2,a3):=(show Dd X.prog X.w H2 s2.heap d (.xd fs)from F.hok d _ hd);let(od,c4,d8):=Tr b2;let IA:En s2.heap e (Jy (.ref C) (Y d) a0 .none) C (Y od):={(ho),O,O,c4};show Yg F.kIn IA M.sa<|dX (s:={s2 with toks:=s2.toks+1}) F.kIn IA M na λb=>?_;show AG<|Bm (AG<|AG (Yc ho<|AG (Vd (s:={s2 with toks:=s2.toks+1}) (LJ F.kIn hc) ?_)));rw[b5];show Bm (a:=Y d)<|AG (Bm<|AG ?_);show wpAny_nsSet1 (s:={s2 with toks:=s2.toks+1}) b2 λh' b3 c3=>?_;let(oD,c9,d0,a2,a6,a7):=b3.count<|PySem.Within.cons f u (mR a3);show AG (wpAny_lookBehind a2 (by rw[a6];show pastItsLine_dict<|AU a7 (by rw[BJ,Ay,Ht];lia)) ?_);let new:Dd X.prog X.w (upd H2 d<|.xd (Mu f y fs)) h' d (.xd<|Mu f y fs):=by
  show{_,b3,λg=>?_};change KS ((Mu f y fs).lookup g) (if g=f then Y u else mA g)
  rw[OV];by_cases q:g=f;·rw[A1O q,A1O q];show ry
  rw[A1N q,A1N q];show a3 g
 show Bm {σ,_,F.write (x:=d) (e:=d) (h':=h') (by rw[hd];trivial) (.inl O) (λb u hb q=>(c3.2 b hb).trans q) {(_),a2} new,q2}
end
def UN(hm:X.mg x=Y (.int i t))(j: ~~~(Gl X x))(hd:↑((x==("__debug__" :AT))=false)):PE X (.Name x pos) (tC<|.int i):=cj j hm {(t),O} hd
def FM{c A B:Prop} [Decidable c](hc:¬c)(h:B):if decide c=Z then A else B:=by rw[A1N (by simpa using hc)];show h
def RJ(hm:X.mg x=S)(j:Cf x=Y (.type T))(z: ~~~(Gl X x))(hn:↑(x≠ "__name__"))(hd:↑((x==("__debug__" :AT))=false)):PE X (.Name x pos) (tC<|.ty T):=xG z hm j O hn hd
def lP(h:H a=Y o)(j:H p=S): (upd H p u) a=Y o:=by rw[AM (BB h j)];show h
def Bd(j:H p=S):AZ H (upd H p u):=λ_ _ e=>lP e j
def jK{X:Cx}{scope:Scope}(h: (scope.names.all λp=>!(p.2== .free) || (X.env.cells.lookup p.1).isSome)=Z):∀y∈scope.names,y.2= .free->(X.env.cells.lookup y.1).isSome=true:=λy j e=>by
 have:=Bz.mp h y j;rw[e]at this;simpa using this
def Nt{c A B:Prop} [Decidable c](hc:c)(h:A):if decide c=Z then A else B:=by rw[A1O (A1K hc)];show h
def My(hm:X.mg x=Y (.ref a))(j: ~~~(Gl X x))(hd:↑((x==("__debug__" :AT))=false)):PE X (.Name x pos) (tC<|.ref a):=cj j hm O hd
def Bv(K:AB)(j:X.K=K):Gf X (.builtin "isinstance") (λxs H Q=>∃x c t cv b,xs=[x,c]/\IG K H x t/\CK c cv/\BC K t cv=Y b/\Q (.bl b) H):=by subst j;show gP
def AZ.put(s:AZ H H')(h:H p=S):AZ H (upd H' p o):=λb u e=>by
 rw[AM (BB e h)];show s b u e
def AZ.seqT{K:AB}{H H':Hp}{a:AH}{xs:List V}(e:AZ H H')(h:Ec K H a xs):Ec K H' a xs:=by
 rcases h with(h|⟨o,h⟩)|h;·show .inl<|.inl (e _ _ h)
 ·show .inl<|.inr {o,e _ _ h}
 show .inr h
def R9(t u:TS):TS:=λD σ H=>∃M:St->Hp->Prop,t {D with nx:=M} σ H/\∀σ' H',M σ' H'->u D σ' H'
def CD(M:St->Hp->Prop)(h1:t {D with nx:=M} σ H)(h2:∀σ' H',M σ' H'->u D σ' H'):R9 t u D σ H:={(M),h1,h2}
def Bk{X:Cx}{st:Ih}{rest:List Ih}{t u:TS}(h1:PS X st t)(h2:SS X rest u):SS X (st::rest) (R9 t u):=by
 intro 0 D I ⟨M,h,k⟩;show LZ<|Ee (h1 pZ s σ H {D with nx:=M} I h) (λf s1 q=>?_) λ_ _ x=>x;cases f with
 |next=>
  let(j,H1,F,z):=q;show h2 pZ s1 j H1 D F<|k j H1 z
 |ret v=>show q|brk=>show q|cont=>show q
def R4(t:TE):TE:=λσ H Q=>∃M:VK,t σ H M/\∀v H',M v H'->Q v H'
def E1(h:PE X e t):PE X e (R4 t):=by intro 0 Q I ⟨M,q,k⟩;show Ee (h pZ s σ H M I q) (λv s1 j=>(by let(x,H1,z,r,m):=j;show{x,H1,z,r,k x H1 m})) λ_ _ x=>x
def P9(h:us.length=1):∃j,us=[j]:=by
 obtain _|⟨j,us⟩:=us;·simp at h
 obtain _|⟨u,us⟩:=us;·show{(_),O}
 simp at h
def zx(h:us.length=2):∃z j,us=[z,j]:=by
 obtain _|⟨z,us⟩:=us;·simp at h
 obtain _|⟨j,us⟩:=us;·simp at h
 obtain _|⟨u,us⟩:=us;·show{(_),_,O}
 simp at h
def zw(h:us.length=3):∃D z j,us=[D,z,j]:=by
 obtain _|⟨D,us⟩:=us;·simp at h
 obtain _|⟨z,us⟩:=us;·simp at h
 obtain _|⟨j,us⟩:=us;·simp at h
 obtain _|⟨u,us⟩:=us;·show{(_),_,_,O}
 simp at h
def zu(h:us.length=4):∃F D z j,us=[F,D,z,j]:=by
 obtain _|⟨F,us⟩:=us;·simp at h
 obtain _|⟨D,us⟩:=us;·simp at h
 obtain _|⟨z,us⟩:=us;·simp at h
 obtain _|⟨j,us⟩:=us;·simp at h
 obtain _|⟨u,us⟩:=us;·show{(_),_,_,_,O}
 simp at h
def P8(h:us.length=5):∃U F D z j,us=[U,F,D,z,j]:=by
 obtain _|⟨U,us⟩:=us;·simp at h
 obtain _|⟨F,us⟩:=us;·simp at h
 obtain _|⟨D,us⟩:=us;·simp at h
 obtain _|⟨z,us⟩:=us;·simp at h
 obtain _|⟨j,us⟩:=us;·simp at h
 obtain _|⟨u,us⟩:=us;·show{(_),_,_,_,_,O}
 simp at h
def P7(h:us.length=6):∃u0 U F D z j,us=[u0,U,F,D,z,j]:=by
 obtain _|⟨u0,us⟩:=us;·simp at h
 obtain _|⟨U,us⟩:=us;·simp at h
 obtain _|⟨F,us⟩:=us;·simp at h
 obtain _|⟨D,us⟩:=us;·simp at h
 obtain _|⟨z,us⟩:=us;·simp at h
 obtain _|⟨j,us⟩:=us;·simp at h
 obtain _|⟨u,us⟩:=us;·show{(_),_,_,_,_,_,O}
 simp at h
def Ev(h1: ~~~(sc.kind= .function))(h2: ~~~(sc.isCoroutine=false))(h3: ~~~(sc.isGenerator=false))(F:N.Nodup:=by decide+kernel)(D: ~~~(N.take P.length=P))(z:∀x∈P,sc.names.lookup x=Y .local\/sc.names.lookup x=Y .cell:=by decide+kernel)(j:∀y∈sc.names,y.2≠ .free:=by decide+kernel):AX N P sc:={(h1),h2,h3,F,D,z,j}
def zl(n:Nat)(h: ~~~(Nat.ble n sizeLine=true)):n<=sizeLine:=Nat.le_of_ble_eq_true h
end L2
namespace HL
open PySem PySem.W
def yv(h:CB)(a:AH)(o:Obj):∀l:List Nat,((l.filterMap λa=>(h.get? a).map λo=>(a,o)):Fo).lookup a=Y o->h.get? a=Y o:=by
 intro l;induction l with
 |nil=>intro e;cases e
 |cons b l j=>
  intro e;cases q:h.get? b with
  |none=>rw[Go,q]at e;show j e
  |some x=>
   rw[Go,q]at e
   dsimp only[Option.map]at e
   rw[Fn]at e;cases z: (a==b)with|true=>rw[z]at e;cases e;rw[beq_iff_eq.mp z];show q|false=>rw[z]at e;show j e
def LC{j:Type}:List j->Nat->Option j|[],_=>S|x::_,0=>Y x|_::l,n+1=>LC l n
def Xa{j:Type}{l m:List j}(h:l=m)(i:Nat):LC l i=LC m i:=by rw[h]
def KR{j:Type}{x:j}{f:j->Bool}:∀{l:List j} (i:Nat),l.all f=Z->LC l i=Y x->f x=Z|y::l,0,h,e=>by cases e;rw[Og,AA]at h;show h.1|y::l,i+1,h,e=>by rw[Og,AA]at h;show KR i h.2 e
abbrev FV:=AT×AT×JW×FuncBody×Scope×AH×List (AT×AH)×AC×AH×Bool
def EM(K:Fo)(f:AH):Ea:=match K.lookup f with
 |some o=>(match o.data with|.func fd=>fd|_=>default)|_=>default
def fv(K:Fo)(f:AH):Option FV:=match K.lookup f with
 |some o=>(match o.data with
  |.func fd=>Y (fd.name,fd.qualname,fd.params,fd.body,fd.scope,fd.globals,fd.closure,fd.defaults,fd.builtins,codeIn K fd.code fd.qualname)|_=>S)
 |_=>S
def fx(x qual:AT)(st:Ih)(j:AC):Option FV:=Y (x,qual,L2.Js st,.stmts<|L2.Gj st,L2.AL st,BY,[],j,Pk,Z)
def uM{K:Fo}{f:AH}{x qual:AT}{st:Ih}(h:fv K f=fx x qual st .none)(k:FZ K (.ref f)=Z):L2.Yx K x qual st f (EM K f):=by
 unfold fv fx at h;cases q:K.lookup f with
 |none=>rw[q]at h;cases h
 |some o=>
  let(oc,od,dt,sl):=o;rw[q]at h;cases dt with
  |func fd=>
   let(a1,a2,a3,a4,a5,a6,a7,a8,a9,b0,U,F,D,j,b4):=fd;simp only[JE,Gb]at h;let(O,O,O,O,O,O,O,O,O,e):=h;let z:EM K f=fnOf a1 a2 (L2.Js st) (L2.Gj st) (L2.AL st) .none a9 b0 U F D j:=by unfold EM;rw[q]
   rw[z];show L2.J5 q e k
  |_=>cases h
def Ki{K:Fo}{f:AH}{x qual:AT}{st:Ih}{j:AC}(h:fv K f=fx x qual st j):∃(oc:AC) (od:Option AH) (sl:Array (Option AC)) (kV doc pm:AC) (an:Option AH) (cdv ct:AC),EM K f=fnOf x qual (L2.Js st) (L2.Gj st) (L2.AL st) j kV doc pm an cdv ct/\K.lookup f=Y {oc,od,.func<|fnOf x qual (L2.Js st) (L2.Gj st) (L2.AL st) j kV doc pm an cdv ct,sl}/\codeIn K cdv qual=true:=by
 unfold fv fx at h;cases q:K.lookup f with
 |none=>rw[q]at h;cases h
 |some o=>
  let(oc,od,dt,sl):=o;rw[q]at h;cases dt with
  |func fd=>
   let(a1,a2,a3,a4,a5,a6,a7,a8,a9,b0,U,F,D,z,b3):=fd;simp only[JE,Gb]at h;let(O,O,O,O,O,O,O,O,O,e):=h;show{oc,od,sl,a9,b0,U,F,D,z,by unfold EM;rw[q],O,e}
  |_=>cases h
def Ms(K:Fo)(a:AH):Option (List AC):=match K.lookup a with
 |some o=>(match o.data with|.seq vs _=>Y vs.toList|_=>S)|_=>S
def iV{K:Fo}{a:AH}{l:List AC}(h:Ms K a=Y l):∃o n,K.lookup a=Y o/\o.data= .seq l.toArray n:=by
 unfold Ms at h;cases q:K.lookup a with
 |none=>rw[q]at h;cases h
 |some o=>
  rw[q]at h;let(oc,od,j,sl):=o;cases j with
  |seq vs n=>obtain rfl:vs.toList=l:=AE h;show{(_),n,O,O}
  |_=>cases h
def iv:Option (Option AC)->Option Int|some (some<|.int i _)=>Y i|_=>S
def Xw{o:Option (Option AC)}{i:Int}(h:iv o=Y i):∃t,o=Y (Y<|.int i t):=by
 unfold iv at h;split at h;·cases h;show{(_),O}
 cases h
def xh{K:Fo}{a:AH}{i:Int}(h:iv ((Ms K a).map List.head?)=Y i)(n: (Ms K a).map (λl=>(l.length:Int))=Y 1):∃o t n,K.lookup a=Y o/\o.data= .seq #[.int i t] n:=by
 cases q:Ms K a with
 |none=>rw[q]at n;cases n
 |some l=>
  rw[q]at h n
  match l,q,h,n with
  |[v],q,h,_=>
   let(t,e):=Xw h;let(o,n,h1,h2):=iV q;let j:v= .int i t:=by simpa using e
   show{o,t,n,h1,by rw[h2,j]}
  |[],_,h,_=>cases h|_::_::_,_,_,n=>simp at n;lia
end HL
namespace HL
open PySem PySem.W L2
abbrev XV:=AC×List AC×Bool×Bool×Nat×Option (Option AC)×Bool×Option (Option AC)
def xv(K:Fo)(C:AH):Option XV:=match K.lookup C with
 |some o=>(match o.data with
  |.cls cd=>Y (o.cls,cd.mro,cd.hasDict,cd.hasDel,o.slots.toList.length,o.slots.toList[4]?,nsOkIn K cd.ns,nsIn K cd.ns "__init__")|_=>S)
 |none=>S
def xx(C fe fI:AH):Option XV:=Y (.type "type",.ref C:: .ref fe::mG,Z,ge,6,Y<|Y (.builtin "ValueError.__new__"),Z,Y<|Y (.ref fI))
def A0i{j:Type}{l:List j}(h:l.length=6):∃a b c d e f,l=[a,b,c,d,e,f]:=by
 rcases l with _|⟨a,_|⟨b,_|⟨c,_|⟨d,_|⟨e,_|⟨f,_|⟨g,l⟩⟩⟩⟩⟩⟩⟩
 iterate 6 show A1Q h (by simp)
 ·show{(_),_,_,_,_,_,O}
 show A1Q h (by simp)
def qV{K:Fo}{C fe fI:AH}(h:xv K C=xx C fe fI):∃nm q N bs sn sub ab col dd k0 k1 k2 k3 k5,K.lookup C=Y (QG nm q C N bs (.ref fe::mG) Z sn sub ab col dd k0 k1 k2 k3 k5 "ValueError.__new__")/\nsOkIn K N=Z/\nsIn K N "__init__"=Y (Y<|.ref fI):=by
 unfold xv xx at h;cases e:K.lookup C with
 |none=>rw[e]at h;cases h
 |some o=>
  obtain⟨oc,od,dt,⟨sl⟩⟩:=o;rw[e]at h;cases dt with
  |cls cd=>
   let(a1,a2,a3,a4,a5,a6,a7,a8,a9,b2,b1):=cd;simp only[JE,Gb]at h;let(O,O,O,O,U,F,D,z):=h;let(k0,k1,k2,k3,j,k5,O):=A0i U;obtain rfl:j=Y (.builtin "ValueError.__new__"):=AE F;show{(_),_,_,_,_,_,_,_,_,_,_,_,_,_,O,D,z}
  |_=>cases h
def fcB(K:Fo)(fe:AH)(x:AT)(n:String):Bool:=match findCls K (.ref fe) (.type "type") x with
 |some (.val<|.builtin m)=>m==n|_=>ge
def W2{K:Fo}{fe:AH}{x:AT}{n:String}(h:fcB K fe x n=Z):findCls K (.ref fe) (.type "type") x=Y (.val<|.builtin n):=by
 unfold fcB at h;split at h;·rename_i m e;rw[e,beq_iff_eq.mp h]
 cases h
end HL
namespace HL
open PySem PySem.W PyProof.Rows L2
def KM(l:List Nat)(h:CB):Fo:=l.filterMap λa=>(h.get? a).map λo=>(a,o)
def uP(l:List Nat)(h:CB): (KM l h).In h:=λa o e=>yv h a o l e
def wx:List AC->Int|[.bool false,.none]=>10|[.none]=>11|_=>0
def X1{l:List AC}(h:wx l=10):l=[.bool ge,.none]:=by
 unfold wx at h;split at h;·rfl
 ·cases h
 cases h
def X0{l:List AC}(h:wx l=11):l=[.none]:=by
 unfold wx at h;split at h;·cases h
 ·rfl
 cases h
def zF{K:Fo}{a:AH}(h: (Ms K a).map wx=Y 10):∃o n,K.lookup a=Y o/\o.data= .seq #[.bool ge,.none] n:=by let(l,e,c):=Bp.mp h;obtain rfl:=X1 c;show iV e
def zE{K:Fo}{a:AH}(h: (Ms K a).map wx=Y 11):∃o n,K.lookup a=Y o/\o.data= .seq #[.none] n:=by let(l,e,c):=Bp.mp h;obtain rfl:=X0 c;show iV e
def sv:Option (Option AC)->Option AT|some (some<|.str x _)=>Y x|_=>S
def C2{o:Option (Option AC)}{x:AT}(h:sv o=Y x):∃t,o=Y (Y<|.str x t):=by
 unfold sv at h;split at h;·cases h;show{(_),O}
 cases h
def fcd(K:Fo)(f:AH):Option Int:=match (EM K f).code with
 |.ref c=>Y (c:Int)|_=>S
def J6{K:Fo}{f c:AH}(h:fcd K f=Y ((c:Nat):Int)): (EM K f).code= .ref c:=by
 unfold fcd at h;split at h;·rename_i c' e;rw[e,Int.ofNat.inj<|AE h]
 cases h
def J0:AC->Bool|.int _ _=>Z|_=>ge
def V5:AC->Bool|.bool _=>Z|_=>ge
def V2:AC->Bool|.str _ _=>Z|_=>ge
def I0:AC->String->Bool|.type n,m=>n==m|_,_=>ge
def V3:Option AC->AH->Bool|some (.ref a),b=>a==b|_,_=>ge
noncomputable def p9(K:Fo)(c T:AH):Bool:=match K.lookup c with
 |some o=>(match o.data with
  |.fields vs=>I0 o.cls "code" &&V3 vs[11]? T&&V2 (vs.getD 18 .none) &&J0 (vs.getD 7 .none) &&V5 (vs.getD 9 .none) &&J0 (vs.getD 10 .none) && !(c==T)|_=>ge)
 |none=>ge
def lU{v:AC}(h:J0 v=Z):∃i t,v= .int i t:=by cases v <;> first|show{(_),_,rfl}|cases h
def yn{v:AC}(h:V5 v=Z):∃b,v= .bool b:=by cases v <;> first|show{(_),rfl}|cases h
def yk{v:AC}(h:V2 v=Z):∃x t,v= .str x t:=by cases v <;> first|show{(_),_,rfl}|cases h
def lT{v:AC}{n:String}(h:I0 v n=Z):v= .type n:=by cases v with|type m=>rw[show m=n from beq_iff_eq.mp h]|_=>cases h
def ym{v:Option AC}{a:AH}(h:V3 v a=Z):v=Y (.ref a):=by
 cases v with
 |none=>cases h
 |some v=>cases v with
  |ref b=>rw[show b=a from beq_iff_eq.mp h]|_=>cases h
def zP{K:Fo}{h:CB}{c T:AH}(X:K.In h)(e:p9 K c T=Z):CodeHd h c T:=by
 unfold p9 at e;cases q:K.lookup c with
 |none=>rw[q]at e;cases e
 |some o=>
  rw[q]at e;let(oc,od,dt,sl):=o;cases dt with
  |fields vs=>
   simp only[AA]at e;let((((((e1,e2),e3),e4),e5),e6),j):=e;let(x3,t3,h3):=yk e3;let(U,t4,h4):=lU e4;let(F,h5):=yn e5;let(D,t6,h6):=lU e6;let h2:=ym e2;show{_,vs,x3,t3,U,t4,F,D,t6,X _ _ q,lT e1,O,h2,?_,h3,h4,h5,h6,λz=>?_};·rw[Array.getD_eq_getD_getElem?,h2];rfl
   rw[z]at j;simp at j
  |_=>cases e
def rn(h:CB)(T:AH):Bool:=match h.get? T with
 |some ⟨.none,none,.fields vs,sl⟩=>vs.toList.isEmpty&&sl.toList.isEmpty|_=>ge
def B1{h:CB}{T:AH}(e:rn h T=Z):h.get? T=Y (tabObj #[]):=by
 unfold rn at e;split at e;·rename_i vs sl q;rw[AA]at e;obtain⟨vs⟩:=vs;obtain⟨sl⟩:=sl;obtain rfl:vs=[]:=ZI.mp e.1;obtain rfl:sl=[]:=ZI.mp e.2;show q
 cases e
def qN(K:Fo)(bm:AH):Bool:=match K.lookup bm with
 |some o=>(match o.data with
  |.plain=>I0 o.cls "module" && (match o.dict with|some d=>d==Pk|none=>ge)|_=>ge)
 |none=>ge
def X2{K:Fo}{h:CB}{mg:AT->Option AC}{bm T:AH}(X:K.In h)(e:qN K bm=Z)(g:mg "__builtins__"=Y (.ref bm))(h1:bm≠Pk)(h2:bm≠BY)(h3:bm≠T):h.BuiltinsAt mg T:=by
 unfold qN at e;cases q:K.lookup bm with
 |none=>rw[q]at e;cases e
 |some o=>
  rw[q]at e;let(oc,od,D,sl):=o;cases D with
  |plain=>
   simp only[AA]at e;let(z,j):=e;show{bm,_,g,h1,h2,h3,X _ _ q,lT z,?_,O};cases od with|none=>cases j|some d=>show A1P Y<|beq_iff_eq.mp j
  |_=>cases e
def jL(h:CB){a:AH}:∀l:List Nat,a∉l->(KM l h).lookup a=none:=by
 intro l;induction l with
 |nil=>intro _;rfl
 |cons b l j=>
  intro n;let n1:a≠b:=λz=>n (by rw[z];show Bi);let n2:a∉l:=λz=>n<|Bq _ z;let j:=j n2;unfold KM at j ⊢;rw[Go];cases q:h.get? b with
  |none=>show j
  |some o=>
   dsimp only[Option.map]
   rw[Fn,beq_false_of_ne n1];show j
end HL
namespace L2
open PySem PySem.Spec PyProof.Rows
section
variable{X:Cx}
def Qx:Y3 X "str.startswith" (λx xs H Q=>∃z y,x= .str z/\xs=[.str y]/\Q (.bl<|Txt.startswith z y) H):=by intro 0 x xs v us Q I j rs h;let(z,y,O,O,q):=h;let(t,O):=j;let(u,O,(t',O)):=Co.one rs;show call_gives F.slot_str_startswith (Pg _ _ _) F.entry_str_startswith (F.args_str_startswith_2 _ _) (gives_str_startswith z y t t')<|show EP X pZ σ Q (.bool<|Txt.startswith z y) s from{.bl _,H,I,O,q}
def iH:∀{us:List AC},Co (ys.map V.str) us->StrsAre us ys:=by
 induction ys with
 |nil=>intro us r;rw[HV]at r;cases r;show .nil
 |cons n ns D=>
  intro us r;rw[AV]at r;cases r with
  |cons z j=>
   let(t,e):=z;subst e;show .cons n t<|D j
def Nq:Y3 X "str.join" (λx xs H Q=>∃z p ys,x= .str z/\xs=[.ref p]/\Cg X.K H p (ys.map V.str)/\(ys.map (·.length)).sum+ys.length*z.length<=16777216/\Q (.str<|FD z ys) H):=by intro 0 x xs v us Q I j rs h;let(z,p,ys,O,O,hp,hz,q):=h;let(t,O):=j;let(u,O,F):=Co.one rs;cases (show u= .ref p from F);let(U,D,pl,_):=I.list hp;show join_list pl.isList (iH D) hz λt' k=>(show EP X pZ σ Q (.str (FD z ys) t') {s with toks:=k}from{.str _,H,I.tok _,{(_),O},q})
inductive Z1(x:V)(lo:Option Int)(hi:Option Int)(H:Hp)(Q:VK):Prop|mk (z:_) (_:x= .str z) (_:z.length<=sizeLine) (_:Q (.str<|El z lo hi) H)
def A01:V->Option Int->Option Int->Hp->VK->Prop:=λx lo hi H Q=>Z1 x lo hi H Q
def aI(p:IsPart v o):∃l:Option (Int×Tok),v=partValue l/\l.map (·.1)=o:=by cases p with|none=>show{(S),O,O}|int i t=>show{Y (i,t),O,O}
def QP:SlR X A01:=by
 intro 0 x v vl vu lo hi sl Q I j hs pl D h;let(z,O,U,q):=h;let(t,O):=j;let(l,O,O):=aI pl;let(u,O,O):=aI D;show{"str",_,F.slot_str_getitem.lookup,Pg _ _ _,?_};show wpAny_getItem_str_slice (l:=l) (u:=u) (st:=S) ?_ O<|post_val_or_str {AU (TZ z _ _) U,λt' k=>?_}
 ·show hs
 show{.str _,H,I.tok _,{(_),O},q}
def x6(x:AT):It:={λi _=>i<x.length,λi H v H'=>H'=H/\∃c,x.cps[i]?=Y c/\v= .str {#[c]},λi _=>x.length<=i,ge}
def NF(x:AT):String:=if x.cps.all (·<128)then "str_ascii_iterator" else "str_iterator"
def eu{P:Bn}{w:BP}{K:AB}{tg:Expr}(x:AT)(t:Tok)(it:AH):pT P w K tg (x6 x) [it] it (λi h=>h.IsStrIter it (NF x) x t i) where
 mem:=by simp
 obj:=λi h st b j=>by
  let e:b=it:=by simpa using j
  subst e;let(o,e,c,d):=st;show{o,e,λv z=>by rw[d]at z;cases z}
 keep:=λi h h' st k=>by
  let(o,e,c,d):=st;show{o,k it (by simp) o e,c,d}
 item:=by
  intro X hP hw hK hc i pZ s σ H E I hf st hg;subst hP hw hK;let hi:i<x.cps.size:=hg;let D:x.cps[i]?=Y x.cps[i]:=Array.getElem?_eq_getElem hi;let(f0,f1,f2,f3,f4,U):=hf it (by simp);let fin:∀h',h'.IsStrIter it (NF x) x t (i+1)->Heap.SameBut it s.heap h'->∃u,Y (Mb ⟨#[x.cps[i]]⟩ s.toks)=Y u/\By (model X.prog X.w) X.A (NA tg (.ref it) u) (λ_ s2=>∃y H',Ch X pZ σ H' s2/\CK y u/\(x6 x).yld i H y H'/\s2.heap.IsStrIter it (NF x) x t (i+1)/\∀b∈ [it],H' b=S) E {s with heap:=h',toks:=s.toks+1}:=λh' F sb=>by
   let I1:Ch X pZ σ H {s with heap:=h',toks:=s.toks+1}:=I.turned (t':=s.toks+1) (λb o j e=>(sb.2 b j).trans e) f0 f1 f3 f4 U;let(o,e,c,d):=id F;show{_,O,lW (s:={s with heap:=h',toks:=s.toks+1}) e c d ?_ {.str {#[x.cps[i]]},H,I1,{(_),O},{(O),_,D,O},F,λb j=>(hf b j).1}};unfold NF;split <;> decide
  by_cases ha:x.cps.all (·<128)=Z;·let e:NF x="str_ascii_iterator":=A1O ha;rw[e]at st fin ⊢;show wpAny_pyNext_ascii_item st D fin
  let e:NF x="str_iterator":=A1N ha;rw[e]at st fin ⊢;show wpAny_pyNext_wide_item st D fin
 done:=by
  intro X hP hw hK hc i pZ s σ H E I hf st hg;subst hP hw hK;let D:x.cps[i]?=none:=Array.getElem?_eq_none hg;let(f0,f1,f2,f3,f4,U):=hf it (by simp);let hc:=hc.resolve_right λz=>BU<|show ge=Z from z.1;by_cases ha:x.cps.all (·<128)=Z
  ·let e:NF x="str_ascii_iterator":=A1O ha;rw[e]at st;show wpAny_pyNext_ascii_end (I.ok.hd hc) st D λh' eb=>{O,I.turned (t':=s.toks) (λb o j e=>eb b o j e) f0 f1 f3 f4 U}
  let e:NF x="str_iterator":=A1N ha;rw[e]at st;show wpAny_pyNext_wide_end (I.ok.hd hc) st D λh' eb=>{O,I.turned (t':=s.toks) (λb o j e=>eb b o j e) f0 f1 f3 f4 U}
 self:=λ_ _ _ _ _ st h=>by
  by_cases ha:x.cps.all (·<128)=Z;·let e:NF x="str_ascii_iterator":=A1O ha;rw[e]at st;show wpAny_pyIter_striter_ascii st h
  let e:NF x="str_iterator":=A1N ha;rw[e]at st;show wpAny_pyIter_striter_wide st h
inductive j0(R:It->Hp->Prop)(x:V)(H1:Hp):Prop|mk (z:_) (_:x= .str z) (_:R (x6 z) H1)
def A0s(tl:TE):TI:=λσ H R=>tl σ H λx H1=>j0 R x H1
def cf{tg l:Expr}{tl:TE}(hl:PE X l tl):PI X tg l (A0s tl):=by
 intro 0 R I h;show DQ (hl pZ s σ H _ I h) λv s1 j=>?_;let(x,H1,D,U,q1):=j;let(z,e,q):=q1;subst e;let(t,O):=U;let fp:∀b∈ [↑s1],Va X pZ H1 b:=λb hb=>by
  let e:b=↑s1:=by simpa using hb
  subst e;show D.fpOk (Bh _)<|D.hok.fresh (Bh _)
 by_cases ha:z.cps.all (·<128)=Z;·show wpAny_pyIter_ascii ha ?_;show{↑s1,[↑s1],_,_,H1,O,D.kept (t':=s1.toks) λb o e=>AF _ e,eu z t _,{_,Bu _ O,by unfold NF;rw[A1O ha],O},fp,q}
 let F:z.cps.all (·<128)=false:=by simpa using ha
 show wpAny_pyIter_wide F ?_;show{↑s1,[↑s1],_,_,H1,O,D.kept (t':=s1.toks) λb o e=>AF _ e,eu z t _,{_,Bu _ O,by unfold NF;rw[A1N ha],O},fp,q}
def Jt:Gf X (.type "int") (λxs H Q=>∃z n,xs=[.str z]/\PySem.intText? z=Y n/\z.length<=640/\Q (.int n) H):=by intro 0 xs us Q I r h;let(z,n,O,hn,j,q):=h;let(u,O,(t,O)):=KB r;show PySem.W.KIN.call_text hn j {.int n,H,I.tok _,{(_),O},q}
end
section
variable{X:Cx}
def wE{bs:List Bool}:∀{us:List AC},Co (bs.map V.bl) us->us=bs.map Hz:=by
 induction bs with
 |nil=>intro us r;rw[HV]at r;cases r;rfl
 |cons b bs D=>
  intro us r;rw[AV]at r;cases r with
  |cons z j=>
   cases (show _=Hz b from z);rw[D j,AV]
def pS(bs:List Bool): (BN bs.length).all (λi=>bs.getD i Z)=bs.all id:=by
 rw[IP,Bz,Bz];constructor;·intro h b j;let(i,hi,e):=SN.mp j;have:=h i<|HG.mpr hi;rw[Bx,AI hi,Option.getD_some,e]at this;show this
 intro h i hi;rw[HG]at hi;rw[Bx,AI hi,Option.getD_some];show h _<|HW hi
def FC(hc:X.calm=Z):Gf X (.builtin "all") (λxs H Q=>∃(p:AH) (bs:List Bool),xs=[.ref p]/\H p=Y (.lst<|bs.map V.bl)/\Q (.bl<|bs.all id) H):=by
 intro 0 xs us Q I r h;let(p,bs,O,hp,q):=h;let(u,O,ru):=Co.one r;cases (show u= .ref p from ru);let(a4,rv,pl,_):=I.list<|Cg.of hp;let e:=wE rv;subst e;let F:p≠↑s:=BD<|I.hok.lt hp;show call_all_walk<|KZ pl.isList ?_;show{↑s,_,_,_,_,_,λi=>bs.getD i Z,O,Walks.list (A:=X.A.in1) (I.ok.hd hc) ↑s p F _,{{_,Bu _ O,O,O},pl.isList.push _},λi v s2 Q2 E2 hv hq=>?_,λh' tk hk=>?_}
 ·let j: (bs.map Hz)[i]?=Y v:=by simpa using hv
  rw[AQ]at j;cases U:bs[i]? with
  |none=>rw[U]at j;cases j
  |some b=>
   rw[U]at j;cases j;let D:Q2 (bs.getD i Z) s2:=hq;rw[show bs.getD i Z=b by rw[Bx,U];rfl]at D;show DR D
 show{.bl<|bs.all id,H,I.kept (t':=tk) λb o e=>hk b o (λz=>?_)<|AF _ e,?_,q}
 ·have:b=↑s:=by simpa using z
  show EQ _<|this ▸ Be e
 change Hz _=Hz _;rw[<-pS];simp
def mY(l:List (AT×Tok)):Co ((l.map (·.1)).map V.str) (strValues l):=by induction l with|nil=>show .nil|cons p l j=>show .cons {(_),O} j
def Xf:Y3 X "str.split" (λx xs H Q=>∃z y,x= .str z/\xs=[.str y]/\(y.length==0)=ge/\z.length<=sizeLine/\(Ca z y).length<=sizeLine/\(Re z (Ep z y 0 z.length<|z.length+1) y.length).length<=sizeLine/\∀p,H p=S->Q (.ref p) (upd H p<|.lst ((Ca z y).map V.str))):=by
 intro 0 x xs v us Q I rx rs h;let(z,y,O,O,U,hz,j,D,q):=h;let(t,O):=rx;let(u,O,(t',O)):=Co.one rs;let fin:∀(l:List (AT×Tok)) (tk:Nat),l.map (·.1)=Ca z y->EP X pZ σ Q (.ref ↑s) {s with heap:=s.heap.push {cls:=.type "list",data:=.seq (strValues l).toArray},toks:=tk}:=λl tk e=>
  {.ref ↑s,_,I.lnew (ys:=(l.map (·.1)).map V.str) (mY l) (by rw[e,Ay];show j),O,by rw[e];show q _ I.fresh}
 cases h1: (decide (z.length<y.length) ||decide (Builtin.Str.strKind z<Builtin.Str.strKind y))
 ·cases hf: (Ep z y 0 z.length<|z.length+1).isEmpty
  ·show Ma F.slot_str_split (Pg _ _ _) F.entry_str_split (F.args_str_split_2 _ _) (meets_str_split_sep z y t t' h1 U hf hz D) ?_;change wants (EP X pZ σ Q) X.xe _ {s with toks:=_,heap:=s.heap.push {cls:=.type "list",data:=.seq (strsFrom s.toks<|Re z (Ep z y 0 z.length<|z.length+1) y.length).toArray}};rw[strsFrom_eq];show fin (numbered s.toks _) _<|(numbered_texts _ _).trans ((A1N<|ne_true_of_eq_false h1).trans<|A1N (ne_true_of_eq_false hf)).symm
  show Ma F.slot_str_split (Pg _ _ _) F.entry_str_split (F.args_str_split_2 _ _) (meets_str_split_not_found z y t t' h1 U hf)<|fin [(z,t)] s.toks ((A1N<|ne_true_of_eq_false h1).trans<|A1O hf).symm
 show Ma F.slot_str_split (Pg _ _ _) F.entry_str_split (F.args_str_split_2 _ _) (meets_str_split_cannot_occur z y t t' h1)<|fin [(z,t)] s.toks (A1O h1).symm
namespace R8
end R8
end
end L2
namespace L2
open PySem PySem.Spec PyProof.Rows
section
variable{X:Cx}{pZ:List (AH×Obj)}{σ:St}{H:Hp}{s:AK}{h':CB}
def Ch.turnedL{t':Nat}{fp:List AH}(I:Ch X pZ σ H s)(k:∀b o,b∉fp->s.heap.get? b=Y o->h'.get? b=Y o)(hf:∀b∈fp,Va X pZ H b):Ch X pZ σ H {s with heap:=h',toks:=t'}:=by
 let j:∀b u,H b=Y u->b∉fp:=λb u e z=>by rw[(hf b z).1]at e;cases e
 show I.step (g':=s.gens) (d':=s.drawn) (ch:=fp) (λb F=>?_) (λb o _ _ hc e _=>k b o hc e) (λb o _ _ hc e _=>{o.slots,k b o hc e}) (λ_ _ _ _ n=>n) (λb o hc e=>{o,k b o hc e}) (λ_ _ e=>e) (λ_ _ _ e=>e) (λb ps e=>{#[],by rw[e];simp}) (λm hm=>?_) (λb u e=>?_) I.bare;·let(f0,f1,f2,f3,f4,U):=hf b F;show{(f3),f1,f4,U}
 ·let(o,es,ep,D,r):=hm;show{o,es,ep,k _ o (λz=>(hf _ z).2.1 O) D,r}
 show(I.hok b u e).stay (λc v hc q=>k c v ?_ q) (λ_ q=>q) λ_ _ q=>q;rcases hc with z|z;·rw[z];show j b u e
 show j c _ z
end
section
variable{X:Cx}
def PSX(X:Cx)(E:XK)(j:List Ih)(t:TS):Prop:=∀(pZ:List (AH×Obj)) (s:AK) (σ:St) (H:Hp) (D:TX),Ch X pZ σ H s->t D σ H->By (model X.prog X.w) X.A (execs j X.env) (SP X pZ D) (λe s'=>∃H1 s1,Ch X pZ σ H1 s1/\X7 X.prog X.w X.stack H1 s1 E e s') s
def xy{x n:AT}{np hpos pos:Ij}{body:List Ih}{b_:Ih}{suite:List Ih}{i:Nat}{ts:AH->TS}{tb:XK->TS}{c:AC}{v0:V}(j:X.stack=X.env::X.outer)(hf:X.env.frame=Y X.env.locals)(hc:∀E,PSX X E body<|tb E)(hg:Gl X x)(hm:X.mg x=Y c)(U:CK v0 c)(hs:∀e,SS (O5 X e) (b_::suite)<|ts e)(hN:X.N.Nodup)(hi:X.N[i]?=Y n)(hl:X.env.scope.names.lookup n=Y .local)(F:↑((x==("__debug__" :AT))=false)):
  PS X (.Try body [.ExceptHandler (Y<|.Name x np) (Y n) (b_::suite) hpos] [] [] pos) (λD σ H=>tb (A0 X.K c i ts D σ) D σ H):=by intro 0 D I h;show wpAny_Try_except (Ee (hc _ pZ s σ H D I h) (λf s1 h1=>?_) λe s' z=>(by let(H1,s1,I1,hx):=z;show uI j hf hg hm U hs hN hi hl I1 hx F));cases f with|next=>show HD h1|_=>show h1
def wD{j:List String}:∀{us:List AC},Co (j.map V.ty) us->us=j.map DO:=by
 induction j with
 |nil=>intro us r;rw[HV]at r;cases r;rfl
 |cons b bs F=>
  intro us r;rw[AV]at r;cases r with
  |cons D z=>
   cases (show _=DO b from D);rw[F z,AV]
def Xr(hv:∀us,Co cs us->us=a1)(I:Ch X pZ σ H s)(D:CK x u)(ty:IG X.K H x t)(hp:H p=Y (.tup cs))(e:Em X.K t a1=Y b)(h:∀tk,Q (.bool b) {s with toks:=tk}):By (model X.prog X.w) A (call (.builtin "isinstance") [u,.ref p]) Q E s:=by
 let(_,U,rv,o,ho,hc,n,hd):=(show Dd X.prog X.w H s.heap p (.tup cs)from I.hok p _ hp);let ei:=hv _ rv;subst ei;let j:s.heap.get? p=Y ⟨.type "tuple",o.dict,.seq U.toArray n,o.slots⟩:=by rw[ho,<-hc,<-hd]
 cases ty with
 |non=>cases (show u=Eg from D);show DP PySem.W.kitx_none I.kIn Dx j e (λz=>nomatch z) h|bl y=>cases (show u=Hz y from D);show DP PySem.W.kitx_bool I.kIn Dx j e (λz=>nomatch z) h|int i=>let(t,q):=(show ∃t,u=Mc i t from D);cases q;show DP PySem.W.kitx_int I.kIn Dx j e (λz=>nomatch z) h|str y=>let(t,q):=(show ∃t,u=Mb y t from D);cases q;show DP PySem.W.kitx_str I.kIn Dx j e (λz=>nomatch z) h|flt y=>let(t,q):=(show ∃t,u=Ye y t from D);cases q;show DP PySem.W.kitx_float I.kIn Dx j e (λz=>nomatch z) h
 |@lst a xs F=>
  cases (show u=Value.ref a from D);let(_,_,n,_,h1):=(show Dd X.prog X.w H s.heap a (.lst xs)from I.hok a _ F);show DP NS I.kIn {(_),h1,O} j e (λz=>nomatch z) h
 |@frz a ob xs F=>
  cases (show u=Value.ref a from D);let(_,_,_,n,_,h1):=(show Dd X.prog X.w H s.heap a (.frz ob<|.lst xs)from I.hok a _ F);show DP NS I.kIn {(_),h1,O} j e (λz=>nomatch z) h
 |@tup a xs F=>
  cases (show u=Value.ref a from D);let(_,_,_,p):=(show Dd X.prog X.w H s.heap a (.tup xs)from I.hok a _ F);let(o,h1,h2,_):=p;show DP PySem.W.kitx_tuple I.kIn {(o),h1,h2} j e (λz=>nomatch z) h
 |@dK a kvs F=>
  cases (show u=Value.ref a from D);let(_,_,vs,_,p):=(show Dd X.prog X.w H s.heap a (.dK kvs)from I.hok a _ F);let(o,es,ep,h1,h2,_):=p;show DP NT I.kIn {(o),h1,h2.1} j e (λz=>nomatch z) h
 |@dT a kvs F=>
  cases (show u=Value.ref a from D);let(_,_,xs,_,o,es,ep,h1,h2,_):=(show Dd X.prog X.w H s.heap a (.dT kvs)from I.hok a _ F);show DP NT I.kIn {(o),h1,h2.1} j e (λz=>nomatch z) h
 |@ins a C dx fs F cl ha hn htk hm=>
  cases (show u=Value.ref a from D);let(mA,Oq,_):=PL I.hok F;let(od,J,_):=Oq.look;show DP (PySem.W.kitx_own (cl.get _) cl.hd ha hn htk hm) I.kIn J j e (λz=>nomatch z) h
def Su(K:AB)(hK:X.K=K):Gf X (.builtin "isinstance") (λxs H Q=>∃(x:V) (p:AH) (t:AC) (b:Bool) (j:List String),xs=[x,.ref p]/\H p=Y (.tup<|j.map V.ty)/\IG K H x t/\Em K t (j.map DO)=Y b/\Q (.bl b) H):=by subst hK;intro 0 xs us Q I r h;let(x,p,t,b,j,O,U,ty,e,q):=h;let(u,z,O,D,F):=Co.two r;cases (show z= .ref p from F);show Xr (λus r=>wD r) I D ty U e λtk=>{.bl b,H,I.tok tk,O,q}
def rf{as:List AH}:∀{us:List AC},Co (as.map V.ref) us->us=as.map Value.ref:=by
 induction as with
 |nil=>intro us r;rw[HV]at r;cases r;rfl
 |cons b bs D=>
  intro us r;rw[AV]at r;cases r with
  |cons z j=>
   cases (show _=Value.ref b from z);rw[D j,AV]
def Nw(K:AB)(U:X.K=K):Gf X (.builtin "isinstance") (λxs H Q=>∃(x:V) (p:AH) (t:AC) (b:Bool) (as:List AH),xs=[x,.ref p]/\H p=Y (.tup<|as.map V.ref)/\IG K H x t/\Em K t (as.map Value.ref)=Y b/\Q (.bl b) H):=by subst U;intro 0 xs us Q I r h;let(x,p,t,b,as,O,F,ty,e,q):=h;let(u,j,O,z,D):=Co.two r;cases (show j= .ref p from D);show Xr (λus r=>rf r) I z ty F e λtk=>{.bl b,H,I.tok tk,O,q}
end
section
variable{X:Cx}
def QB(hc:X.calm=Z):Gf X (.builtin "sum") (λxs H Q=>∃(p:AH) (ns:List Int),xs=[.ref p]/\H p=Y (.lst<|ns.map V.int)/\(∀j,j<ns.length->InLong (ns.getD j 0)/\InLong (preSum (λi=>ns.getD i 0)<|j+1))/\Q (.int<|preSum (λi=>ns.getD i 0) ns.length) H):=by
 intro 0 xs us Q I r h;let(p,ns,O,hp,hL,q):=h;let(u,O,ru):=Co.one r;cases (show u= .ref p from ru);let(D,rv,pl,_):=I.list<|Cg.of hp;let F:=I.hok.lt hp;let a1:p≠↑s:=BD F;let hl:D.length=ns.length:=by rw[<-rv.length,Ay]
 show call_sum_walk<|KZ pl.isList ?_;show{↑s,_,_,_,_,_,λi=>ns.getD i 0,O,Walks.list (A:=X.A.in1) (I.ok.hd hc) ↑s p a1 D.toArray,{{_,Bu _ O,O,O},pl.isList.push _},λb hb=>?_,λi v hv=>?_,λj hj=>hL j (by simpa [hl]using hj),λh' tk t' hk=>?_}
 ·rw[Le];rcases Bf.mp hb with e|e
  ·rw[e];show HU _
  rw[Bc.mp e];show NV F
 ·let U:D[i]?=Y v:=by simpa using hv
  let hi:i<ns.length:=by rw[<-hl];show(AO.mp U).1
  let(u,hu,t,e):=rv.get (show(ns.map V.int)[i]?=Y (V.int<|ns.getD i 0)by rw[AQ,Bx,AI hi];rfl);rw[U]at hu;cases hu;show{(t),e}
 let en:D.toArray.size=ns.length:=by simp[hl]
 rw[en];show⟨.int _,H,I.kept (t':=tk) λb o e=>hk b o (λz=>by
  have:b=↑s:=by simpa using z
  show EQ _<|this ▸ Be e)<|AF _ e,{(_),O},q⟩
end
section
variable{X:Cx}{tg:Expr}
end
structure x8(X:Cx)(scope:Scope)(x0:AT):Prop where
 kind:scope.kind= .function
 clos:closureFor scope X.env=Ic (UU scope.names X.env)
 cell1:∀y∈scope.names,y.2= .cell->y.1=x0
 notf:∀y∈scope.names,y.2= .free->y.1≠x0
 own:∀n cl,cellsFrom n scope.names cl=(x0,n)::cl
 psh:∀h:CB,pushCells h scope.names=h.push {cls:=.type "cell",data:=.cell S}
 names:∀y∈scope.names,y.2= .local->scope.names.lookup y.1=Y .local
 free:∀y∈scope.names,y.2= .free->(X.env.cells.lookup y.1).isSome=Z
section
variable{x0:AT}{X:Cx}{scope:Scope}{ts xs:List AT}{js:List Nat}{target iter elt:Expr}{ifs:List Expr}{wi:TI}{g:TG}{tif:TT}{te:TE}{pos:Ij}
end
def kq(K:AB)(l:AH):It:={λi H=>∃xs x,Cg K H l xs/\xs[i]?=Y x,λi H v H'=>∃T x,v= .ref T/\H T=S/\H'=upd H T (.tup [.int i,x])/\∀xs,Cg K H l xs->xs[i]?=Y x,λi H=>∃xs,Cg K H l xs/\xs.length=i,ge}
def iA{P:Bn}{w:BP}{K:AB}{a8:List Expr}{x1}{pos:Ij}(l it e:Nat)(he:e=it+1):
  pT P w K (.Tuple a8 x1 pos) (kq K l) [it,e] e (λi h=>(∃old,IsEnum h e it (i:Nat) old)/\h.IsListIter it l i) where
 mem:=by simp
 obj:=λi h st c hc=>by
  let((old,s1),s2):=st;simp only[Bf,Cm,or_false]at hc;rcases hc with rfl|rfl;·let(o,e,c,d):=s2;show{o,e,λv z=>by rw[d]at z;cases z}
  show{_,s1,λv z=>by cases z}
 keep:=λi h h' st k=>by
  let((old,s1),s2):=st;show{{old,k e (by simp) _ s1},s2.at λo e=>k it (by simp) o e}
 item:=by
  intro X hP hw hK hc i pZ s σ H E I hf st hg;subst hP hw hK;let((old,s1),s2):=st;let hc:=hc.resolve_right λz=>BU<|show ge=Z from z.1;let a2:e≠it:=by rw[he];show Nat.succ_ne_self it
  let(xs,x,hq,hx):=hg;let(j,rv,p,hz):=I.list hq;let(u,hu,ru):=rv.get hx;let a1:l≠it:=λz=>by
   let(o,e1,c1,_):=s2;let(o2,U,D,_):=p.isList;rw[z,e1]at U;cases U;rw[c1]at D;injection D with D;show A1Q D Aa
  let b6:e≠l:=λz=>by
   let(o2,U,D,_):=p.isList;rw[<-z,show s.heap.get? e=_ from s1]at U;cases U;injection D with D;show A1Q D Aa
  let b2:i<j.toArray.size:=by rw[Bj];show(AO.mp hu).1
  show wpAny_pyNext_enum_itemD (Draws.list (A:=X.A.in1) (I.ok.hd hc) it l a1 j.toArray) s1 {(s2),p.isList} b2 a2 (by simp[a2,b6]) λv h' tk hP z1 z2 z3 z4 z5=>?_;let b1:v=u:=by
   let h1:j[i]?=Y v:=by simpa using hP
   rw[hu]at h1;show(AE h1).symm
  subst b1;show{_,O,wpAny_letOwnedTupleGo_enum z1 λg2 y1 sb=>?_};let a4:e<↑s:=Be s1;let b3:it<↑s:=by let(o,q,_):=s2;show Be q
  let I1:Ch X pZ σ (upd H ↑s<|.tup [.int i,x]) {s with heap:=s.heap.push {cls:=.type "tuple",data:=.seq #[.int i tk,v]},toks:=tk+1}:=I.laid (t':=tk+1) (λb u q=>AF _ q) (Bh _) {by rw[Ht];simp,[.int i tk,v],.cons {(_),O}<|.cons ru .nil,{_,Bu _ O,O,_,O}};let b5:∀b∈ [it,e],b<↑s:=λb F=>by
   rcases Bf.mp F with q|q;·rw[q];show b3
   rw[Bc.mp q];show a4
  let a3:∀b∈ [it,e],Va X pZ (upd H ↑s<|.tup [.int i,x]) b:=λb F=>by
   let(f0,f1):=hf b F;show{by rw[AM (BD<|b5 b F)];show f0,f1}
  let I2:Ch X pZ σ (upd H ↑s<|.tup [.int i,x]) {s with heap:=g2,toks:=tk+1}:=Ch.turnedL (s:={s with heap:=s.heap.push {cls:=.type "tuple",data:=.seq #[.int i tk,v]},toks:=tk+1}) (t':=tk+1) I1 (λb o F q=>?_) a3;·show{.ref ↑s,_,I2,O,{↑s,x,O,I.fresh,O,λys hy=>by rw[I.list_inj hy hq];show hx},{{(_),y1},?_},λb F=>(a3 b F).1};show z2.1.at λo q=>(sb.2 _<|CL a2).trans q
  let b7:b≠it:=λz=>F (by simp[z]);let a6:b≠e:=λz=>F (by simp[z]);rw[sb.2 _ a6];by_cases a5:b=↑s;·subst a5;rw[Bu _ O]at q;rw[z3];show q
  show z5 _ _ a6 b7 ((Heap.get?_push_ne _ _ _ a5).symm.trans q)
 done:=by
  intro X hP hw hK hc i pZ s σ H E I hf st hg;subst hP hw hK;let((old,s1),s2):=st;let hc:=hc.resolve_right λz=>BU<|show ge=Z from z.1;let(xs,hq,hi):=hg;let(j,rv,p,hz):=I.list hq;let hl:=rv.length;let hn:j.toArray.size=i:=by rw[Bj];lia
  let a1:l≠it:=λz=>by
   let(o,e1,c1,_):=s2;let(o2,U,D,_):=p.isList;rw[z,e1]at U;cases U;rw[c1]at D;injection D with D;show A1Q D Aa
  subst hn;show wpAny_pyNext_enum_endD (Draws.list (A:=X.A.in1) (I.ok.hd hc) it l a1 j.toArray) s1 {(s2),p.isList} λh' eb=>{O,Ch.turnedL (t':=s.toks) I (λb o F q=>eb b o (λz=>F<|by simp[z]) q) hf}
 self:=λ_ _ _ _ _ st h=>by
  let((old,s1),s2):=st;show wpAny_pyIter_enum s1 h
section
variable{X:Cx}
def J3(K:AB)(te:TE):TI:=λσ H R=>te σ H λv H1=>∃l,v= .ref l/\(∃xs,Cg K H1 l xs)/\R (kq K l) H1
def OI{z:List Expr}{x1}{tpos:Ij}{D:Expr}{te:TE}{p pos:Ij}(hg:Gl X "enumerate")(hm:X.mg "enumerate"=S)(he:PE X D te)(hs: ~~~(Bs [D] X.env=(ge,Dw D X.env)::Bs [] X.env))(a2: ~~~((Ef pos<|Bs [] X.env).any (·.1)=false)):PI X (.Tuple z x1 tpos) (.Call (.Name "enumerate" p) [D] [] pos) (J3 X.K te):=by
 intro 0 R I h;show CQ<|OX I hg hm (u:=.type "enumerate") Aa ?_ Aa Aa;show Hw (DQ (AY he Ed hs pos pZ s σ H (λxs H1=>match xs with|[v]=>∃l,v= .ref l/\(∃xs,Cg X.K H1 l xs)/\R (kq X.K l) H1|_=>False) I h) λus s1 a3=>?_) hs a2;let(vs,H1,F,U,q1):=a3
 match vs,q1,U with
 |[v],q1,U=>
 let(l,O,(xs,hq),q):=q1;let(u,O,ru):=Co.one U;cases (show u= .ref l from ru);let(a8,rv,pl,hz):=F.list hq;show call_enumerate_list pl.isList λh' z1 z2 z3 z4=>?_;let I2:Ch X pZ σ H1 {s1 with heap:=h',toks:=s1.toks}:=F.kept (t':=s1.toks) z4;show wpAny_pyIter_enum z1 ?_;show{↑s1+1,_,_,kq X.K l,H1,O,I2,iA l ↑s1 _ O,{{(_),z1},z2},λc hc=>?_,q};let j:↑s1<=c:=by
  rcases Bf.mp hc with q|q;·rw[q];show Bh _
  rw[Bc.mp q];show ER _
 show F.fpOk j<|F.hok.fresh j
def kO:∀{xs:List V} {us:List AC},xs.length=us.length->(∀(i:Nat) x u,xs[i]?=Y x->us[i]?=Y u->CK x u)->Co xs us|[],[],_,_=>.nil|[],_::_,h,_=>by simp at h|_::_,[],h,_=>by simp at h|x::xs,u::us,h,k=>.cons (k 0 x u O O) (kO (by simpa using h) λi y v z j=>k (i+1) y v (by simpa using z)<|by simpa using j)
end
section
variable{X:Cx}
end
structure JR(P:Bn)(w:BP)(K:AB)(mg:AT->Option AC)(base:CB)(k:Nat)(m:AT)(C:AH)(sp:Sp):Prop where
 c:QX K C
 ex:∃f fd ps,UV K C m f/\EE P w K mg base SU k f fd ps sp/\EK K fd ps []
section
variable{X:Cx}{k:Nat}{m:AT}{pos apos:Ij}{e o:Expr}{es:List Expr}{ta:TE}{t:TA}
inductive za(P:Bn)(w:BP)(K:AB)(mg:AT->Option AC)(base:CB)(k:Nat)(m:AT)(t:TA)(σ:St)(Q:VK)(x:V)(H1:Hp):Prop|mk (a C dx fs sp:_) (_:x= .ref a) (_:H1 a=some (.ins C dx fs)) (_:fs.lookup m=none) (_:JR P w K mg base k m C sp) (_:t σ H1 λvs H2=>sp (x::vs) H2 Q E0)
def rB(P:Bn)(w:BP)(K:AB)(mg:AT->Option AC)(base:CB)(k:Nat)(m:AT)(ta:TE)(t:TA):TE:=λσ H Q=>ta σ H λx H1=>za P w K mg base k m t σ Q x H1
def WG{P:Bn}{w:BP}{K:AB}{mg:AT->Option AC}{base:CB}(hP:X.prog=P)(hw:X.w=w)(hK:X.K=K)(hg:X.mg=mg)(hB:X.base=base){pl:Sem Bool}(he:PE X o ta)(hr:EO k X.A)(hx:JQ SU X E0)(ha:PA X (e::es) t)(U: ~~~(Bs (e::es) X.env=(ge,Dw e X.env)::Bs es X.env))(a1: ~~~((Ef pos<|Bs es X.env).any (·.1)=false))(ht:Dw (.Call (.Attribute o m apos) (e::es) [] pos) X.env=(do
   let ov <-Dw o X.env
   YA apos.atName
   let (f,first) <-QF [ov] (SB ov m pl)
   callWith pos f first (Ef pos<|Bs (e::es) X.env) (MM pos<|Hv [] X.env)):=by rfl):
  PE X (.Call (.Attribute o m apos) (e::es) [] pos) (rB P w K mg base k m ta t):=by
 subst hP hw hK hg hB;intro 0 Q I h;show Ho (pl:=pl) (DQ (he pZ s σ H _ I h) λu s1 z=>?_) ht;let(x,H1,I1,rx,a,C,dx,fs,sp,ex,ea,l,D,q):=z;subst ex;obtain rfl:u=Value.ref a:=rx;let(f,fd,ps,hm,F,hb):=D.ex;show Nu I1 ea D.c hm l ?_;show GS (first:=[.ref a]) (h₀:=X.base) I.ok.mod.kin hm.kp (DQ (ha pos pZ s1 σ H1 _ I1 q) λus s2 j=>?_) U a1
 let(vs,H2,I2,r,q2):=j;show{I2.kIn,?_};show WB (us:=.ref a::us) (vs:=.ref a::vs) (dvs:=[]) (ds:=[]) F hr hb .nil hx I2 (.cons O r) (by rw[CI];show q2)
def FQ{P:Bn}{w:BP}{K:AB}{mg:AT->Option AC}{base:CB}(hP:X.prog=P)(hw:X.w=w)(hK:X.K=K)(hg:X.mg=mg)(hB:X.base=base){pl:Sem Bool}(he:PE X o ta)(hr:EO k X.A)(hx:JQ SU X E0)(ht:Dw (.Call (.Attribute o m apos) [] [] pos) X.env=(do
   let U <-Dw o X.env
   YA apos.atName
   let (f,first) <-QF [U] (SB U m pl)
   callWith pos f first (Ef pos<|Bs [] X.env) (MM pos<|Hv [] X.env)):=by rfl):
  PE X (.Call (.Attribute o m apos) [] [] pos) (rB P w K mg base k m ta bw):=by subst hP hw hK hg hB;intro 0 Q I h;show Ho (pl:=pl) (DQ (he pZ s σ H _ I h) λu s1 j=>?_) ht;let(x,H1,z,rx,a,C,dx,fs,sp,ex,ea,l,D,q):=j;subst ex;obtain rfl:u=Value.ref a:=rx;let(f,fd,ps,hm,F,hb):=D.ex;show Nu z ea D.c hm l ?_;show LL (first:=[.ref a]) z.kIn hm.kp<|WB (us:=[.ref a]) (vs:=[.ref a]) (dvs:=[]) (ds:=[]) F hr hb .nil hx z (.cons O .nil) q
def B6(C:AH):TE:=λ_ H Q=>∀x dx,H x=S->H dx=S->dx≠x->Q (.ref x) (upd (upd H dx<|.own x) x<|.ins C dx [])
def Mw(makes:QH X.K C=Z)(init:CG X.K (.ref C) "__init__"=Y (Y<|.builtin "object.__init__"))(kp:FE X.K (.ref C)=Z)(F:Gl X x)(hm:X.mg x=Y (.ref C))(j:↑((x==("__debug__" :AT))=false)):PE X (.Call (.Name x p) [] [] pos) (B6 C):=by
 intro 0 Q I h;show CQ<|Jr I F hm ?_ j;show LL I.kIn kp<|GH ?_;show oQ I.kIn makes init (λself=>PySem.W.Looks.of_pure<|PySem.W.oi_bind self) ?_;let U: ((s.heap.push CF).push<|CS C ↑s).get? (↑s+1)=Y (CS C ↑s):=by
  have:=Bu (s.heap.push CF) (o:=CS C ↑s) O
  rwa [Le]at this
 let D:PySem.W.Looks (model X.prog X.w) ((s.heap.push CF).push<|CS C ↑s) (typeOf<|.ref (↑s+1)) (.ref C):=(PySem.W.Looks.ld U).andThen .now;let z:PySem.W.Looks (model X.prog X.w) ((s.heap.push CF).push<|CS C ↑s) (Pj (.ref<|↑s+1)<|.type "object") true:=D.andThen<|(ZD (M:=model X.prog X.w) I.kIn makes).top.keeps λb o e=>AF _<|AF _ e;show Gz PySem.W.oi_plain PySem.W.entry_oi<|@Vc (model X.prog X.w) _ _ _ "object.__init__" "object" "__init__" (.ref<|↑s+1) [] [] _ PySem.W.oi_kind PySem.W.oi_split z (PySem.W.oi_args<|.ref (↑s+1)) ?_;rw[PySem.W.oi_run];show Bm<|And.intro O {.ref<|↑s+1,_,(Ch.made (C:=C) I),O,(h (↑s+1) ↑s (I.hok.fresh<|ER _) (I.hok.fresh<|Bh _)<|BD (HU _))}
end
structure Wk(J:It)(H1:Hp)(xs:List V):Prop where
 go:∀H i,AZ H1 H->i<xs.length->J.go i H
 stop:∀H i,AZ H1 H->i=xs.length->J.stop i H
 yld:∀H i x H',AZ H1 H->i<xs.length->J.yld i H x H'->H'=H/\xs[i]?=Y x
def Wk.list{K:AB}{H1:Hp}{l:AH}{xs:List V}(h:Cg K H1 l xs):Wk (P2 K l) H1 xs where
 go:=λH i s hi=>{_,xs[i],s.seq h,AI hi}
 stop:=λH i s hi=>{_,s.seq h,()}
 yld:=λH i x H' s hi y=>{y.1,y.2 _<|s.seq h}
def lp(z:AT):List V:=z.cps.toList.map λc=>V.str {#[c]}
def Nh(z:AT): (lp z).length=z.length:=by simp[lp,PySem.Str.length]
def Wk.str(z:AT):Wk (x6 z) H1 (lp z) where
 go:=λH i s hi=>by rw[Nh]at hi;show hi
 stop:=λH i s hi=>by rw[Nh]at hi;show Yk hi.symm
 yld:=λH i x H' s hi y=>by
  let(e,c,hc,O):=y;show{e,?_};let j:z.cps.toList[i]?=Y c:=by rw[Array.getElem?_toList];show hc
  rw[lp,AQ,j];rfl
section
variable{J:It}{H1:Hp}{xs:List V}{σ0:St}{g:TG}{tif:TT}{te:TE}{Q:VK}
def vp(W:Wk J H1 xs)(hz:xs.length<=1000)(p:V->Bool)(f:V->V)(hs:∀x∈xs,∀(H:Hp) (R:Bool->V->Hp->Prop),AZ H1 H->(∀H',AZ H H'->p x=Z->R Z (f x) H')->(∀H',AZ H H'->p x=ge->R ge .non H')->g x a1 H λF H2=>Sub a1 F/\tif F H2 λb H3=>if b=Z then te F H3 (R Z)else R ge .non H3)(hd:∀D H',H1 D=S->AZ H1 H'->H' D=Y (.lst<|(xs.filter p).map f)->Q (.ref D) H'):SA J H1 a1 g tif te Q:=by
 intro D hD;show{λi m ys H=>m=xs.length - i/\i<=xs.length/\ys=((xs.take i).filter p).map f/\AZ H1 H/\H D=Y (.lst ys),{xs.length,by simp,Cu _,O,Bd hD,Az},?_};rintro i m ys H ⟨rfl,hi,rfl,sm,j⟩;show{j,?_};by_cases z:i<xs.length
 ·show .inr {W.go H i sm z,λx H' y=>?_};let(e,hx):=W.yld H i x H' sm z y;subst e;let ht:xs.take (i+1)=xs.take i++[x]:=by rw[Yl,hx];rfl
  let hl: (((xs.take i).filter p).map f).length<sizeLine:=by
   rw[Ay];show CW<|AU (List.length_filter_le _ _) ?_;rw[Cb]
   lia
  let key:=hs x (AN hx) H' (λb v U=>if b=Z then U D=Y (.lst<|((xs.take i).filter p).map f)/\(((xs.take i).filter p).map f).length<sizeLine/\∃m',m'<xs.length - i/\(m'=xs.length - (i+1)/\i+1<=xs.length/\((xs.take i).filter p).map f++[v]=((xs.take<|i+1).filter p).map f/\AZ H1 (upd U D<|.lst (((xs.take i).filter p).map f++[v]))/\upd U D (.lst<|((xs.take i).filter p).map f++[v]) D=Y (.lst<|((xs.take i).filter p).map f++[v]))
   else ∃m',m'<xs.length - i/\(m'=xs.length - (i+1)/\i+1<=xs.length/\((xs.take i).filter p).map f=((xs.take<|i+1).filter p).map f/\AZ H1 U/\U D=Y (.lst<|((xs.take i).filter p).map f))) sm
   (λU s4 hp=>by
    rw[A1O O];show{s4 _ _ j,hl,xs.length - (i+1),(),O,z,?_,(sm.trans s4).put hD,Az};rw[ht,FF,IX hp,Bl];rfl)
   (λU s4 hp=>by
    rw[A1N Bo];show{xs.length - (i+1),(),O,z,?_,sm.trans s4,s4 _ _ j};rw[ht,FF,GC (by rw[hp];show Bo),List.filter_nil,CI])
  show key
 let e:i=xs.length:=()
 subst e;show .inl {W.stop H _ sm O,hd D H hD sm ?_};rw[Dj]at j;show j
def Jj(W:Wk J H1 xs)(hz:xs.length<=1000)(p:Nat->Bool)(f:Nat->V)(hs:∀(j:Nat) (x:V),xs[j]?=Y x->∀(H:Hp) (R:Bool->V->Hp->Prop),AZ H1 H->(∀H',AZ H H'->p j=Z->R Z (f j) H')->(∀H',AZ H H'->p j=ge->R ge .non H')->g x a2 H λU H2=>Sub a2 U/\tif U H2 λb H3=>if b=Z then te U H3 (R Z)else R ge .non H3)(hd:∀D H',H1 D=S->AZ H1 H'->H' D=Y (.lst<|((BN xs.length).filter p).map f)->Q (.ref D) H'):SA J H1 a2 g tif te Q:=by
 intro D hD;show{λi m ys H=>m=xs.length - i/\i<=xs.length/\ys=((BN i).filter p).map f/\AZ H1 H/\H D=Y (.lst ys),{xs.length,by simp,Cu _,O,Bd hD,Az},?_};rintro i m ys H ⟨rfl,hi,rfl,sm,F⟩;show{F,?_};by_cases z:i<xs.length
 ·show .inr {W.go H i sm z,λx H' y=>?_};let(e,hx):=W.yld H i x H' sm z y;subst e;let ht:BN (i+1)=BN i++[i]:=List.range_succ;let hl: (((BN i).filter p).map f).length<sizeLine:=by
   rw[Ay];show CW<|AU (List.length_filter_le _ _) ?_;rw[Ce]
   lia
  let key:=hs i x hx H' (λb v H4=>if b=Z then H4 D=Y (.lst<|((BN i).filter p).map f)/\(((BN i).filter p).map f).length<sizeLine/\∃m',m'<xs.length - i/\(m'=xs.length - (i+1)/\i+1<=xs.length/\((BN i).filter p).map f++[v]=((BN<|i+1).filter p).map f/\AZ H1 (upd H4 D<|.lst (((BN i).filter p).map f++[v]))/\upd H4 D (.lst<|((BN i).filter p).map f++[v]) D=Y (.lst<|((BN i).filter p).map f++[v]))
   else ∃m',m'<xs.length - i/\(m'=xs.length - (i+1)/\i+1<=xs.length/\((BN i).filter p).map f=((BN<|i+1).filter p).map f/\AZ H1 H4/\H4 D=Y (.lst<|((BN i).filter p).map f))) sm
   (λH4 s4 hp=>by
    rw[A1O O];show{s4 _ _ F,hl,xs.length - (i+1),(),O,z,?_,(sm.trans s4).put hD,Az};rw[ht,FF,IX hp,Bl];rfl)
   (λH4 s4 hp=>by
    rw[A1N Bo];show{xs.length - (i+1),(),O,z,?_,sm.trans s4,s4 _ _ F};rw[ht,FF,GC (by rw[hp];show Bo),List.filter_nil,CI])
  show key
 let e:i=xs.length:=()
 subst e;show .inl {W.stop H _ sm O,hd D H hD sm ?_};show F
def Et(W:Wk J H1 xs)(U:xs.length<=1000)(f:Nat->V)(hs:∀(j:Nat) (x:V),xs[j]?=Y x->∀(H:Hp) (R:VK),AZ H1 H->(∀H',AZ H H'->R (f j) H')->g x F H λz H2=>Sub F z/\te z H2 R)(hd:∀D H',H1 D=S->AZ H1 H'->H' D=Y (.lst<|(BN xs.length).map f)->Q (.ref D) H'):SA J H1 F g ZX te Q:=by
 show Jj W U (λ_=>Z) f (λj x hx H R s h1 _=>?_) λD H' a b c=>hd D H' a b ?_;·show hs j x hx H (R Z) s λH' s'=>h1 H' s' O
 rw[List.filter_eq_self.mpr (λ_ _=>rfl)]at c;show c
def TJ(W:Wk J H1 xs)(F:xs.length<=1000)(f:V->V)(hs:∀x∈xs,∀(H:Hp) (R:VK),AZ H1 H->(∀H',AZ H H'->R (f x) H')->g x z H λj H2=>Sub z j/\te j H2 R)(hd:∀D H',H1 D=S->AZ H1 H'->H' D=Y (.lst<|xs.map f)->Q (.ref D) H'):SA J H1 z g ZX te Q:=by
 show vp W F (λ_=>Z) f (λx U H R s h1 _=>?_) λD H' a b c=>hd D H' a b ?_;·let k:=hs x U H (R Z) s λH' s'=>h1 H' s' O;show k
 rw[List.filter_eq_self.mpr (λ_ _=>rfl)]at c;show c
end
def Lz(K:AB)(D:X.K=K)(j:PE X e ta)(z:HJ e f X.env (Dw e X.env)=Dw e X.env):PE X (.Attribute e f pos) (R3 K ta f):=by subst D;show BH j z
inductive zj(x:V)(y:V)(H:Hp)(Q:VK):Prop|mk (p q xs:_) (_:x= .ref p) (_:y= .ref q) (_:H p=some (.lst xs)) (_:H q=some (.lst [])) (_:Q (.bl xs.isEmpty) H)
def D1:R2:=λx y H Q=>zj x y H Q
section
variable{X:Cx}
def fP(hu:X.A.units+64<SC):MR X (Dh .Eq) D1:=by
 intro 0 x y v u Q I rx ry h;let(p,q,xs,O,O,hp,U,k):=h;cases rx;cases ry;cases xs with
 |nil=>
  show OL hu pZ s σ H (.ref p) (.ref q) _ _ Q I O O {.list [],.list [],.lst (Cg.of hp) .nil,.lst (Cg.of U) .nil,Aa,Aa,?_};show k
 |cons y ys=>
  let(_,z,n,r,el,hl):=I.lstM hp;let(_,j,n2,r2,F,D):=I.lstM U;let e2:j.length=0:=F.symm;let e1:z.length=ys.length+1:=el.symm;show PySem.SeqAt.eq_list_lengthsAt {(_),hl,O,n,O} {(_),D,O,n2,O} ?_ () {.bl _,H,I,O,k};rw[Bj,Bj,e1,e2];rfl
end
section
variable{κ:Type} [DecidableEq κ]
def IQ(kvs:List (κ×V))(k:κ):Option V:=(kvs.find? λkv=>decide (kv.1=k)).map (·.2)
def Nm(kvs:List (κ×V))(k:κ)(v:V):List (κ×V):=if (kvs.any λkv=>decide (kv.1=k))=Z then kvs.map (λkv=>if kv.1=k then (kv.1,v)else kv)else kvs++[(k,v)]
def GX{p:κ×V}{r:List (κ×V)}{k:κ}(e:p.1=k):IQ (p::r) k=Y p.2:=by simp[IQ,IN,e]
def GY{p:κ×V}{r:List (κ×V)}{k:κ}(e:¬p.1=k):IQ (p::r) k=IQ r k:=by simp[IQ,IN,e]
def VN(k:κ):∀kvs:List (κ×V),(kvs.any λkv=>decide (kv.1=k))=(IQ kvs k).isSome
 |[]=>rfl
 |p::r=>by
  rw[Kp];by_cases e:p.1=k;·simp only[GX e,A1K e,JK,Option.isSome_some]
  rw[GY e,A1L e,Kq];show VN k r
def OW(kvs:List (κ×V))(k:κ)(v:V): (Nm kvs k v).length<=kvs.length+1:=by
 unfold Nm;split;·rw[Ay];lia
 rw[AS,BJ,List.length_nil];lia
def ti{kvs:List (κ×V)}{k:κ}(v:V)(h:IQ kvs k=S):Nm kvs k v=kvs++[(k,v)]:=by unfold Nm;rw[VN,h];show A1N Aa
def KS.isSome_eq(r:KS o u):o.isSome=u.isSome:=by
 cases o with
 |none=>cases u with
  |none=>rfl|some _=>show(show False from r).elim
 |some _=>cases u with
  |none=>show(show False from r).elim|some _=>rfl
def KS.getD(r:KS o u)(rd:CK d d'):CK (o.getD d) (u.getD d'):=by
 cases o with
 |none=>cases u with
  |none=>show rd|some _=>show(show False from r).elim
 |some _=>cases u with
  |none=>show(show False from r).elim|some _=>show r
def KV.val{kvs:List (κ×V)}{vs:List (κ×AC)}(r:KV kvs vs)(k:κ):KS (IQ kvs k) (Yy vs k):=by
 unfold KV at r;induction r with
 |nil=>show Dx
 |@cons p q ps qs h t D=>
  let(h1,h2):=h;by_cases e:p.1=k
  ·let j:q.1=k:=h1.symm.trans e;let b:Yy (q::qs) k=Y q.2:=by simp[Yy,IN,j]
   rw[GX e,b];show h2
  let j:¬q.1=k:=λz=>e<|h1.trans z;let b:Yy (q::qs) k=Yy qs k:=by simp[Yy,IN,j]
  rw[GY e,b];show D
def KV.any(r:KV kvs vs)(k:κ): (kvs.any λkv=>decide (kv.1=k))=vs.any λkv=>decide (kv.1=k):=by unfold KV at r;induction r with|nil=>rfl|cons h t j=>rw[Kp,Kp,j,h.1]
def KV.repl(r:KV kvs vs)(k:κ)(j:CK y u):
  KV (kvs.map λkv=>if kv.1=k then (kv.1,y)else kv) (vs.map λkv=>if kv.1=k then (kv.1,u)else kv):=by
 unfold KV at r ⊢;induction r with
 |nil=>show .nil
 |@cons p q ps qs h t D=>
  rw[AV,AV];show .cons ?_ D;let(h1,h2):=h;by_cases e:p.1=k;·rw[A1O e,A1O<|h1.symm.trans e];show{(h1),j}
  rw[A1N e,A1N λz=>e<|h1.trans z];show{(h1),h2}
def KV.put(r:KV kvs vs)(k:κ)(j:CK y u):KV (Nm kvs k y) (stored vs k u):=by
 unfold Nm stored;rw[r.any k];by_cases e: (vs.any λkv=>decide (kv.1=k))=Z;·rw[A1O e,A1O e];show r.repl k j
 rw[A1N e,A1N e];show Paired.snoc r {(O),j}
def KV.length(r:KV kvs vs):kvs.length=vs.length:=bj r
end
def Xq(r:CK (kV k) u): (DX P w).is k u=true:=by cases k with|inl i=>let(t,e):=(show ∃t,u=Mc i t from r);subst e;show gg P w i t|inr x=>let(t,e):=(show ∃t,u=Mb x t from r);subst e;show OT P w x t
def aH:∀{ks:List Hn} {us:List AC},Co (ks.map kV) us->ItemsAre (DX P w) ks us
 |[],_,r=>by rw[HV]at r;cases r;show .nil
 |k::ks,_,r=>by
  rw[AV]at r;cases r with|cons h t=>show .cons (Xq h)<|aH t
abbrev KT(H:Hp):List (List Hn×V)->List (List Hn×AH×AC)->Prop:=Paired λp q=>p.1=q.1/\H q.2.1=Y (.tup<|p.1.map kV)/\CK p.2 q.2.2
def KT.val{H:Hp}{kvs:List (List Hn×V)}{xs:List (List Hn×AH×AC)}(r:KT H kvs xs)(k:List Hn):KS (IQ kvs k) ((atKey xs k).map (·.2)):=by
 induction r with
 |nil=>show Dx
 |@cons p q ps qs h t D=>
  let(h1,_,h2):=h;by_cases e:p.1=k
  ·let j:q.1=k:=h1.symm.trans e;let b:atKey (q::qs) k=Y q.2:=by simp[atKey,IN,j]
   rw[GX e,b];show h2
  let j:¬q.1=k:=λz=>e<|h1.trans z;let b:atKey (q::qs) k=atKey qs k:=by simp[atKey,IN,j]
  rw[GY e,b];show D
def KT.repl(r:KT H kvs xs)(k:List Hn)(j:CK y u):
  KT H (kvs.map λkv=>if kv.1=k then (kv.1,y)else kv) (xs.map<|putAt k u):=by
 induction r with
 |nil=>show .nil
 |@cons p q ps qs h t D=>
  rw[AV,AV];show .cons ?_ D;let(h1,h2,h3):=h;unfold putAt;by_cases e:p.1=k;·rw[A1O e,A1O<|h1.symm.trans e];show{(h1),h2,j}
  rw[A1N e,A1N λz=>e<|h1.trans z];show{(h1),h2,h3}
def KT.put(r:KT H kvs xs)(k:List Hn)(z:H b=Y (.tup<|k.map kV))(j:CK y u):
  KT H (Nm kvs k y) (storedH xs k b u):=by
 let e: (kvs.any λkv=>decide (kv.1=k))=(atKey xs k).isSome:=by rw[VN,(r.val k).isSome_eq,Option.isSome_map]
 unfold Nm storedH;rw[e];by_cases q: (atKey xs k).isSome=Z;·rw[A1O q,A1O q];show r.repl k j
 rw[A1N q,A1N q];show Paired.snoc r {(O),z,j}
def KT.keeps(r:KT H kvs xs)(j:∀b ys,H b=Y (.tup ys)->H' b=Y (.tup ys)):KT H' kvs xs:=Paired.mapP r λ_ _ z=>{z.1,j _ _ z.2.1,z.2.2}
section
variable{P:Bn}{w:BP}{H:Hp}{h:CB}{a:AH}
def zH(ok:Jv P w H h)(e:Rd H a u):Dd P w H h a u:=e.ok ok
def UC(ok:Jv P w H h)(e:Rd H a (.dK kvs)):kvs.length<=sizeLine/\(a==GJ)=ge/\∃vs,KV kvs vs/\h.DictOf (DX P w) a vs:=show Dd P w H h a (.dK kvs)from zH ok e
def zR(ok:Jv P w H h)(e:H a=Y (.dK kvs)):kvs.length<=sizeLine/\(a==GJ)=ge/\∃vs,KV kvs vs/\h.DictOf (DX P w) a vs:=UC ok<|.inl e
def Xp(ok:Jv P w H h)(e:H a=Y (.tup<|ks.map kV)): (Yz<|DX P w).is h ks a:=by let(_,j,r,o,h1,h2,n,h3):=(show Dd P w H h a (.tup<|ks.map kV)from ok a _ e);show{o,j.toArray,n,h1,h2,h3,by simpa using aH r}
def aU(ok:Jv P w H h)(e:Rd H a (.dT kvs)):kvs.length<=sizeLine/\(a==GJ)=ge/\∃xs,KT H kvs xs/\h.DictOfH (Yz<|DX P w) a xs:=by
 let(z,y,xs,r,o,es,ep,h1,h2,h3,h4,U):=(show Dd P w H h a (.dT kvs)from zH ok e);show{z,y,xs,r,o,es,ep,h1,h2,h3,h4,λx j=>?_,U};let all:∀{l:List (List Hn×V)} {m:List (List Hn×AH×AC)},KT H l m->∀x∈m,(Yz<|DX P w).is h x.1 x.2.1:=by
  intro l m q;induction q with
  |nil=>intro x j;show nomatch j
  |@cons p q ps qs D t F=>
   intro x j;rcases Bf.mp j with e|j;·subst e;show Xp ok (by rw[<-D.1];show D.2.1)
   show F x j
 show all r x j
def W6(ok:Jv P w H h)(e:H a=Y (.dT kvs)):kvs.length<=sizeLine/\(a==GJ)=ge/\∃xs,KT H kvs xs/\h.DictOfH (Yz<|DX P w) a xs:=aU ok<|.inl e
end
def KW(H:Hp)(a:AH)(y:V)(r:Option V):Prop:=(∃kvs k,Rd H a (.dK kvs)/\y=kV k/\r=IQ kvs k)\/∃kvs k b,Rd H a (.dT kvs)/\y= .ref b/\H b=Y (.tup<|k.map kV)/\r=IQ kvs k
def ky(H:Hp)(a:AH)(y v:V)(H':Hp):Prop:=(∃kvs k,H a=Y (.dK kvs)/\y=kV k/\kvs.length<sizeLine/\H'=upd H a (.dK<|Nm kvs k v))\/
 ∃kvs k b,H a=Y (.dT kvs)/\y= .ref b/\H b=Y (.tup<|k.map kV)/\kvs.length<sizeLine/\H'=upd H a (.dT<|Nm kvs k v)
def KW.k{H:Hp}{a:AH}{kvs:List (Hn×V)}{k:Hn}(e:H a=Y (.dK kvs)):KW H a (kV k) (IQ kvs k):=.inl {kvs,k,.inl e,O,O}
def ky.k{H:Hp}{a:AH}{kvs:List (Hn×V)}{k:Hn}{v:V}(e:H a=Y (.dK kvs))(j:kvs.length<sizeLine):ky H a (kV k) v (upd H a<|.dK (Nm kvs k v)):=.inl {(kvs),k,e,O,j,O}
section
variable{X:Cx}{pZ:List (AH×Obj)}{σ:St}{H:Hp}{s:AK}{a:AH}{y v:V}{u r:AC}{o:Option V}{A:CA}{E:AC->AK->Prop}
def pK(hu:A.units+1<SC)(I:Ch X pZ σ H s)(g:KW H a y (Y v))(ry:CK y u)(h:∀D s',Ch X pZ σ H s'->CK v D->Q D s'):
  By (model X.prog X.w) A (getItem (.ref a) u) Q E s:=by
 rcases g with⟨kvs,k,e,U,l⟩|⟨kvs,k,b,e,U,eb,l⟩;·subst U;let(z,hd,vs,rel,dd):=UC I.hok e;let(D,hw,j):=KS.some_of (v:=v) (o:=Yy vs k) (by rw[l];show rel.val k);show wpAny_getItem_of (Xq ry) dd.mapOf hw<|h D _ (I.tok _) j
 subst U;cases (show u=Value.ref b from ry);let(z,hd,xs,rel,dd):=aU I.hok e;let(D,hw,j):=KS.some_of (v:=v) (o:=(atKey xs k).map (·.2)) (by rw[l];show rel.val k);let(p,hp,F):=Bp.mp hw;show wpAny_getItem_heap (Ph hu) (Xp I.hok eb) dd hp ?_;rw[F];show h D _ (I.tok _) j
def A0z(F:A.units+1<SC)(I:Ch X pZ σ H s)(g:KW H a y o)(D:CK y u)(h:∀s',Ch X pZ σ H s'->Q (.bool o.isSome) s'):
  By (model X.prog X.w) A (Dh .In u<|.ref a) Q E s:=by
 rcases g with⟨kvs,k,e,j,l⟩|⟨kvs,k,b,e,j,U,l⟩;·subst j;let(z,hd,vs,rel,dd):=UC I.hok e;show wpAny_in_of (Xq D) hd dd.mapOf ?_;rw[<- (rel.val k).isSome_eq,<-l];show h _<|I.tok _
 subst j;cases (show u=Value.ref b from D);let(z,hd,xs,rel,dd):=aU I.hok e;show wpAny_in_heap (Ph F) (Xp I.hok U) hd dd ?_;let q:=(rel.val k).isSome_eq;rw[Option.isSome_map]at q;rw[<-q,<-l];show h _<|I.tok _
def cW(I:Ch X pZ σ H s)(j:Y2 (H a))(hs:Heap.SameBut a s.heap h')(D:∃q,h'.get? a=Y q)(new:Dd X.prog X.w (upd H a ob) h' a ob):
  Ch X pZ σ (upd H a ob) {s with heap:=h',toks:=t'}:=I.write (x:=a) (e:=a) j (.inl O) (λb q F z=>(hs.2 b F).trans z) D new
def vf(z:kvs.length<=sizeLine)(hd: (a==GJ)=ge)(rel:KV kvs vs)(dd:h'.DictOf (DX P w) a vs):
  Dd P w H' h' a (.dK kvs):={(z),hd,vs,rel,dd}
def pJ(hu:A.units+1<SC)(I:Ch X pZ σ H s)(g:ky H a y v H')(ry:CK y u)(rv:CK v r)(h:∀s',Ch X pZ σ H' s'->Q Unit.unit s'):
  By (model X.prog X.w) A (setItem (.ref a) u r) Q E s:=by
 rcases g with⟨kvs,k,e,ey,l,eH⟩|⟨kvs,k,b,e,ey,eb,l,eH⟩
 ·subst ey eH;let(z,hd,vs,rel,dd):=zR I.hok e;let F:vs.length<=sizeLine:=by rw[<-rel.length];show z
  let U: (Nm kvs k v).length<=sizeLine:=by have:=OW kvs k v;lia
  show wpAny_setItem_pairs (hsz:=F) (Xq ry) dd λh' j hs=>h _ ?_;let he:∃q,h'.get? a=Y q:=let ⟨q,_,_,D,_⟩:=j;{(q),D};show cW I (by rw[e];show Dx) hs he<|vf U hd (rel.put k rv) j
 subst ey eH;cases (show u=Value.ref b from ry);let(z,hd,xs,rel,dd):=W6 I.hok e;let F:xs.length<=sizeLine:=by rw[<-bj rel];show z
 let U: (Nm kvs k v).length<=sizeLine:=by have:=OW kvs k v;lia
 show wpAny_setItem_heap (hsz:=F) (Ph hu) (Xp I.hok eb) dd λh' j hs=>h _ ?_;let(q,es,ep,D,h2,h3,h4,_,h5):=j;show cW I (by rw[e];show Dx) hs {(q),D} {U,hd,_,(rel.put k eb rv).keeps λc ys ec=>?_,q,es,ep,D,h2,h3,h4,h5};rw[AM (gc ec e λz=>nomatch z)];show ec
end
section
variable{X:Cx}{pZ:List (AH×Obj)}{σ:St}{H:Hp}{s:AK}{a:AH}{kvs:List (Hn×V)}{k:Hn}{u:AC}{A:CA}{E:AC->AK->Prop}
def W8(I:Ch X pZ σ H s)(e:Rd H a (.dK kvs))(h:∀t s',Ch X pZ σ H s'->Q (.int kvs.length t) s'):By (model X.prog X.w) A (call (.builtin "len") [.ref a]) Q E s:=by let(z,hd,vs,rel,dd):=UC I.hok e;show call_len_dict hd dd (by rw[<-rel.length];rw[Ht]at z;lia) ?_;rw[<-rel.length];show h _ _<|I.tok _
end
def L5(i:Expr):Prop:=∀j iv,subscripted i ge j iv=operate [j,iv] (getItem j iv)
def kU{prog:Bn}{w:BP}{A:CA}{E:AC->AK->Prop}{s:AK}{env:bo}{value slice:Expr}{pos:Ij}{T id:String}{Q:AC->AK->Prop}(hl:typeLookup (.type T) "__getitem__"=Ic (Y<|.builtin id))(hs:L5 slice)(h:By (model prog w) A (Dw value env) (λo F=>By (model prog w) A (Dw slice env) (λi j=>j.TypeIs o T/\By (model prog w) A (getItem o i) Q E j) E F) E s):
  By (model prog w) A (Dw (.Subscript value slice pos) env) Q E s:=by
 show Subscript_<|Ee h (λo F a1=>Ee a1 (λi j z=>?_) λ_ _ x=>x) λ_ _ x=>x;let(hT,z):=z;unfold subscriptTail;show AG ?_;rw[getitemInPython_of_ne hT.not_modules];show AG<|wpAny_specialOf hT hl ?_;let fin:By (model prog w) A (subscripted slice ge o i) (λr D=>By (model prog w) A (letTemporaryGo value o r >>= λ_=>Ic r) Q E D) E j:=by rw[hs o i];show wpAny_operating<|Ee z (λr D U=>AG<|wpAny_letTemporaryGo (Bm U)) λ_ _ x=>x
 first
  |show Bm<|AG fin|show AG<|Bm (AG fin)|show AG fin
def gJ(I:Ch X pZ σ H s)(g:KW H a y o):s.TypeIs (.ref a) "dict":=by
 rcases g with⟨kvs,k,e,_,_⟩|⟨kvs,k,b,e,_,_,_⟩;·let(_,_,vs,_,dd):=UC I.hok e;show dd.typeIs
 let(_,_,xs,_,dd):=aU I.hok e;show dd.typeIs
inductive M8(Q:VK)(x:V)(y:V)(H2:Hp):Prop|mk (a v:_) (_:x= .ref a) (_:KW H2 a y (some v)) (_:Q v H2)
def R7(td ty:TE):TE:=λσ H Q=>td σ H λx H1=>ty σ H1 λy H2=>M8 Q x y H2
inductive Z0(Q:VK)(y:V)(x:V)(H2:Hp):Prop|mk (a o:_) (_:x= .ref a) (_:KW H2 a y o) (_:Q (.bl o.isSome) H2)
def z6(ty td:TE):TE:=λσ H Q=>ty σ H λy H1=>td σ H1 λx H2=>Z0 Q y x H2
def S5(td ty tv:TE):TS:=λD σ H=>tv σ H λv H1=>td σ H1 λx H2=>ty σ H2 λy H3=>∃a j,x= .ref a/\ky H3 a y v j/\D.nx σ j
section
variable{X:Cx}{o i e value:Expr}{pos pos' tpos:Ij}{td ty tv:TE}
def Fy(hu:X.A.units+1<SC)(ho:PE X o td)(hi:PE X i ty)(hs:L5 i):PE X (.Subscript o i pos) (R7 td ty):=by intro 0 Q I h;show kU PySem.F.slot_dict_getitem.lookup hs<|DQ (ho pZ s σ H _ I h) λu s1 z=>?_;let(x,H1,I1,rx,q1):=z;show DQ (hi pZ s1 σ H1 _ I1 q1) λiv s2 j=>?_;let(y,H2,U,ry,a,v,ex,g,q2):=j;subst ex;obtain rfl:u=Value.ref a:=rx;show{gJ U g,pK hu U g ry λw' s3 I3 D=>{(v),H2,I3,D,q2}}
def ji(hu:X.A.units+1<SC)(hi:PE X i ty)(ho:PE X o td):PC X .In i o (z6 ty td):=by intro 0 Q I h;show DQ (hi pZ s σ H _ I h) λiv s1 z=>?_;let(y,H1,I1,D,q1):=z;show DQ (ho pZ s1 σ H1 _ I1 q1) λu s2 j=>?_;let(x,H2,I2,F,a,ov,ex,g,U):=j;subst ex;obtain rfl:u=Value.ref a:=F;show A0z hu I2 g D λs3 I3=>{.bl ov.isSome,H2,I3,O,U}
def ce(hu:X.A.units+1<SC)(ho:PE X o td)(hi:PE X i ty)(hv:PE X value tv)(hs:Ol value (Y<|.Subscript o i pos') pos.line X.env=Ic ge):
  PS X (.Assign [.Subscript o i pos'] value pos) (S5 td ty tv):=by intro 0 D I h;show wpAny_Assign_Subscript (DQ (hv pZ s σ H _ I h) λr s1 F=>?_) hs;let(v,H1,I1,rv,q1):=F;show DQ (ho pZ s1 σ H1 _ I1 q1) λu s2 z=>?_;let(x,H2,I2,rx,q2):=z;show DQ (hi pZ s2 σ H2 _ I2 q2) λiv s3 j=>?_;let(y,H3,I3,U,a,H4,ex,g,q3):=j;subst ex;obtain rfl:u=Value.ref a:=rx;show pJ hu I3 g U rv λs4 I4=>{(σ),H4,I4,q3}
end
section
variable{X:Cx}{pos:Ij}
end
def iG:List (TE×TE)->St->Hp->(List (V×V)->Hp->Prop)->Prop|[],_,H,Q=>Q [] H|(tk,tv)::r,σ,H,Q=>tk σ H λx H1=>tv σ H1 λy H2=>iG r σ H2 λps H3=>Q ((x,y)::ps) H3
abbrev VV:List (V×V)->List (AC×AC)->Prop:=Paired λp q=>CK p.1 q.1/\CK p.2 q.2
def x4(X:Cx)(pos:Ij)(keys:List (Option Expr))(values:List Expr)(j:List (TE×TE)):Prop:=∀(pZ:List (AH×Obj)) (s:AK) (σ:St) (H:Hp) (Q:List (V×V)->Hp->Prop),Ch X pZ σ H s->iG j σ H Q->By (model X.prog X.w) X.A (evalPairs<|pairTrees keys values X.env pos) (λvs s'=>∃ps H',Ch X pZ σ H' s'/\VV ps vs/\Q ps H') X.xe s
def Vm:x4 X pos [] [] []:=λpZ s σ H Q I h=>pairTrees_nil_walk {[],H,I,.nil,h}
def Fw(hk:PE X k tk)(hv:PE X v tv)(hr:x4 X pos ks vs z):
  x4 X pos (Y k::ks) (v::vs) ((tk,tv)::z):=λpZ s σ H Q I h=>
 pairTrees_cons_walk (DQ (hk pZ s σ H _ I h) λu s1 {(x),H1,I1,F,q1}=>DQ (hv pZ s1 σ H1 _ I1 q1) λw2 s2 {(y),H2,I2,D,q2}=>
  DQ (hr pZ s2 σ H2 _ I2 q2) λws s3 j=>(by let(ps,H3,I3,rel,U):=j;show{(x,y)::ps,H3,I3,.cons {(F),D} rel,U}))
def Iz(kvs more:List (Hn×V)):List (Hn×V):=more.foldl (λj kv=>Nm j kv.1 kv.2) kvs
def KV.merge:∀{more:List (Hn×V)} {rs:List (Hn×AC)} {kvs:List (Hn×V)} {vs:List (Hn×AC)},KV more rs->KV kvs vs->KV (Iz kvs more) (merged vs rs):=by
 intro more rs kvs vs r;unfold KV at r;induction r generalizing kvs vs with
 |nil=>intro q;show q
 |@cons p q ps qs h t j=>
  intro r0;let e:KV (Nm kvs p.1 p.2) (stored vs q.1 q.2):=by have:=r0.put p.1 h.2;rw[<-h.1];show this
  show j e
def Qy:∀(more kvs:List (Hn×V)),(Iz kvs more).length<=kvs.length+more.length
 |[],kvs=>by change kvs.length<=kvs.length+0;lia
 |p::r,kvs=>by
  let h1:=Qy r<|Nm kvs p.1 p.2;let h2:=OW kvs p.1 p.2;change(Iz (Nm kvs p.1 p.2) r).length<=_;rw[BJ];lia
def XN:∀{kvs:List (Hn×V)} {ws:List (AC×AC)},VV (kvs.map λkv=>(kV kv.1,kv.2)) ws->∃rs,Carries (DX P w) ws rs/\KV kvs rs
 |[],_,r=>by rw[HV]at r;cases r;show{[],Dx,.nil}
 |p::kvs,_,r=>by
  rw[AV]at r;cases r with
  |@cons a b as bs h t=>
   let(rs,c,q):=XN (P:=P) (w:=w) t;let(b1,b2):=b;show{(p.1,b2)::rs,{Xq h.1,O,c},.cons {(O),h.2} q}
def R6(j:List (TE×TE)):TE:=λσ H Q=>∀p,H p=S->iG j σ (upd H p<|.dK []) λps H2=>H2 p=Y (.dK [])/\∃kvs:List (Hn×V),ps=kvs.map (λkv=>(kV kv.1,kv.2))/\kvs.length<=15/\Q (.ref p) (upd H2 p<|.dK (Iz [] kvs))
def Vo(h:x4 X pos keys values U)(D:keys.all (·.isSome)=Z)(hl:keys.length=values.length)(h0:keys≠[])(a1:keys.length<=15):PE X (.Dict keys values pos) (R6 U):=by
 intro 0 Q I q;let I1:=I.laid (a:=↑s) (o:=.dK []) (h':=s.heap.push {cls:=.type "dict",data:=.dict #[]}) (t':=s.toks) (λ_ _ q=>AF _ q) (Bh _)<|gG s.heap I.big;show wpAny_Dict_walk (knd:=DX X.prog X.w) D hl h0 a1<|DQ (h pZ _ σ _ _ I1<|q _ (I.hok.fresh<|Bh ↑s)) λws s2 j=>?_;let(ps,H2,I2,rel,e,kvs,ep,lk,q2):=j;subst ep;let(rs,c,rk):=XN (P:=X.prog) (w:=X.w) rel;let(z,hd,a3,r0,dd):=zR I2.hok e;cases r0;show{rs,c,dd,λh' F hs=>{.ref ↑s,_,?_,O,q2}};let hz: (Iz [] kvs).length<=sizeLine:=by let h1:=Qy kvs [];rw[List.length_nil]at h1;rw[Ht];lia
 let he:∃q,h'.get? ↑s=Y q:=let ⟨q,_,_,hq,_⟩:=F;{(q),hq};show cW I2 (by rw[e];show Dx) hs he<|vf hz hd (rk.merge .nil) F
structure M1(X:Cx)(o:Expr)(m:AT)(apos:Ij)(e:Expr)(cpos:Ij):Prop where
 base:HJ o m X.env (Dw o X.env)=Dw o X.env
 few: ((Ef cpos<|Bs [e] X.env).all (λx=>!x.1) && (MM cpos<|Hv [] X.env).all (λx=>x.1.isSome)
  &&decide (([e]:List Expr).length+ ([]:List YD).length+ (if ([]:List YD).isEmpty then 0 else 1) <30))=Z
 line: (apos.endLine==cpos.line)=Z
 trees:Ef cpos (Bs [e] X.env)=[(ge,Dw e X.env)]
structure M2(X:Cx)(o:Expr)(m:AT)(apos:Ij)(e f:Expr)(cpos:Ij):Prop where
 base:HJ o m X.env (Dw o X.env)=Dw o X.env
 few: ((Ef cpos<|Bs [e,f] X.env).all (λx=>!x.1) && (MM cpos<|Hv [] X.env).all (λx=>x.1.isSome)
  &&decide (([e,f]:List Expr).length+ ([]:List YD).length+ (if ([]:List YD).isEmpty then 0 else 1) <30))=Z
 line: (apos.endLine==cpos.line)=Z
 trees:Ef cpos (Bs [e,f] X.env)=[(ge,Dw e X.env),(ge,Dw f X.env)]
def IsD(H:Hp)(a:AH):Prop:=(∃kvs,Rd H a<|.dK kvs)\/∃kvs,Rd H a<|.dT kvs
def J1(I:Ch X pZ σ H s)(d:IsD H a):
  s.TypeIs (.ref a) "dict" /\(∀b,Value.ref a= .ref b->∃ob,s.heap.get? b=Y ob/\ob.dict=S)/\(a==GJ)=false:=by
 rcases d with⟨kvs,e⟩|⟨kvs,e⟩;·let(_,hd,vs,_,dd):=UC I.hok e;show{dd.typeIs,λb q=>?_,hd};cases q;let(ob,_,_,h1,h2,_):=dd;show{(ob),h1,h2.2.1}
 let(_,hd,xs,_,dd):=aU I.hok e;show{dd.typeIs,λb q=>?_,hd};cases q;let(ob,_,_,h1,h2,_):=dd;show{(ob),h1,h2.2.1}
section
variable{X:Cx}{pZ:List (AH×Obj)}{σ:St}{H:Hp}{s:AK}{a:AH}{y d:V}{u r:AC}{o:Option V}{A:CA}{E:AC->AK->Prop}
def K3(hu:A.units+1<SC)(I:Ch X pZ σ H s)(g:KW H a y o)(U:CK y u)(rd:CK d r)(h:∀D s',Ch X pZ σ H s'->CK (o.getD d) D->Q D s'):
  By (model X.prog X.w) A (call (.builtin "dict.get") [.ref a,u,r]) Q E s:=by
 rcases g with⟨kvs,k,e,j,l⟩|⟨kvs,k,b,e,j,eb,l⟩;·subst j;let(z,hd,vs,rel,dd):=UC I.hok e;show call_meetsIn Ra dd.typeIs PySem.F.entry_dict_get (PySem.F.args_dict_get_3 _ _ _) (meets_dict_get_default (DX X.prog X.w) a (Xq U) hd r) {_,dd.mapOf,h _ _ (I.tok _) ?_};rw[l];show(rel.val k).getD rd
 subst j;cases (show u=Value.ref b from U);let(z,hd,xs,rel,dd):=aU I.hok e;show call_meetsIn Ra dd.typeIs PySem.F.entry_dict_get (PySem.F.args_dict_get_3 _ _ _) (meetsH_dict_get_default (Yz<|DX X.prog X.w) a b hd r) {Ph hu,k,xs,Xp I.hok eb,dd,h _ _ (I.tok _) ?_};rw[l];show(rel.val k).getD rd
end
inductive zb(ty:TE)(tx:TE)(σ:St)(Q:VK)(x:V)(H1:Hp):Prop|mk (a:_) (_:x= .ref a) (_:IsD H1 a) (_:ty σ H1 λy H2=>tx σ H2 λz H3=>∃o,KW H3 a y o/\Q (o.getD z) H3)
def B8(td ty tx:TE):TE:=λσ H Q=>td σ H λx H1=>zb ty tx σ Q x H1
section
variable{X:Cx}{o e f:Expr}{apos cpos:Ij}{td ty tx:TE}
def WH(hu:X.A.units+1<SC)(ho:PE X o td)(he:PE X e ty)(hf:PE X f tx)(m:M2 X o "get" apos e f cpos):PE X (.Call (.Attribute o "get" apos) [e,f] [] cpos) (B8 td ty tx):=by
 intro 0 Q I h;show wpAny_Call_method m.base m.few m.line PySem.F.plainAttrs_dict Ra PySem.F.type_dict_get<|DQ (ho pZ s σ H _ I h) λu s1 j=>?_;let(x,H1,U,rx,a,ex,d,q1):=j;subst ex;obtain rfl:u=Value.ref a:=rx;let(t1,t2,_):=J1 U d;show{t1,t2,?_};rw[m.trees];show Calls.callWith_builtin O (Yt (JS (DQ (he pZ s1 σ H1 _ U q1) λiv s2 {(y),H2,I2,ry,q2}=>
  JS (DQ (hf pZ s2 σ H2 _ I2 q2) λfv s3 {(z),H3,I3,rz,ov,g,q3}=>QK ?_))))
 show K3 hu I3 g ry rz λw' s4 I4 D=>{(_),H3,I4,D,q3}
end
def KD(P:Bn)(w:BP)(K:AB)(a:AH)(kvs:List (Hn×V)):Prop:=(a==GJ)=ge/\∃vs,KV kvs vs/\∀h:CB,K.In h->h.DictOf (DX P w) a vs
section
variable{X:Cx}{o e f:Expr}{apos cpos:Ij}{td ty tx:TE}{a:AH}{kvs:List (Hn×V)}
end
end L2
namespace HL
open PySem PySem.W PyProof.Rows L2
def kS:AC->Option AT|.str x _=>Y x|_=>S
def ur{p q:Bn}{lo:List AT}{n N:Nat}{pos:Ij}{α β γ:Type}{Y1:AK->α}{U:AK->β}{F:AK->γ}{D:α}{z:β}{j:BP->γ}(h1:opening p=plainProg p.main.scope.names)(h2:∀s,fenceModules? p s=Y s)(Sg:∀w os,VR ii p w 11 MJ 12 (mJ w os) (topStub p)=Y ((S0 w os).abs,{Sl ii<|code p,code p,Hx,[HS Hx]}))(jI:∀w s,RE ii p w 11 MJ 1 1 s (blockOf (FT p) (env p) (code p) Hx [HS Hx])=Y (.next,s,code p,Hx))(a7:∀w os,(R p n w os).map (λx=>(x.1,x.2.2,Uy p q lo w.params x.2.1.abs))=Y (.next,(code p,pos),aL q lo))(a6:∀w os,(R p n w os).map (λx=>(x.1,x.2.2,Y1 x.2.1.abs))=Y (.next,(code p,pos),D))(yr:∀w os,(R p n w os).map (λx=>(x.1,x.2.2,U x.2.1.abs))=Y (.next,(code p,pos),z))(a5:∀w os,(R p n w os).map (λx=>(x.1,x.2.2,F x.2.1.abs))=Y (.next,(code p,pos),j w))(hsz:∀P:Params,(Ft P).isNs BY=Z/\(Ft P).objs.size=11/\(Ft P).nsMap BY "__annotations__"=MJ)(hN:Nat.ble 600 N=Z)(hM:12+ (1+ (n+2))<=N):LeftO p q lo (λs=>xlAt q [] s&&recOk [] s) (λs=>((Y1 s,U s),F s)) (λw=>((D,z),j w)) N:=by show yf h1 h2 Sg jI (pos:=pos) (λw os=>?_) hsz hN hM;let(s,hs,hf):=some_of (f:=λy:Hk=>Uy p q lo w.params y.abs)<|a7 w os;let e1:=a6 w os;let e2:=yr w os;let e3:=a5 w os;rw[hs]at e1 e2 e3 ⊢;let f1:Y1 s.abs=D:=A1P (λx=>x.2.2)<|AE e1;let f2:U s.abs=z:=A1P (λx=>x.2.2)<|AE e2;let f3:F s.abs=j w:=A1P (λx=>x.2.2)<|AE e3;change Y (Flow.next,(code p,pos),(Uy p q lo w.params s.abs,((Y1 s.abs,U s.abs),F s.abs)))=_;rw[f1,f2,f3];show A1P (λy=>Y (Flow.next,(code p,pos),(y,((D,z),j w)))) hf
def ex{z j:Type}(g:z->j)(l:List z):List j:=l.foldr (λx r=>g x::r) []
def JV{j z:Type}{f g:j->z}{x:j}:∀{l:List j},l.map f=ex g l->∀{i:Nat},LC l i=Y x->f x=g x:=by
 intro l;induction l with
 |nil=>intro _ i e;cases e
 |cons y l D=>
  intro h i e;let(h1,h2):=Fi (show f y::l.map f=g y::ex g l from h);cases i with|zero=>cases e;show h1|succ i=>show D h2 e
def VL{j:Type}{f:j->Bool}{x:j}{l:List j}{i:Nat}(h:l.all f=Z)(e:LC l i=Y x):f x=true:=KR i h e
structure Ls where
 nz:List AT
 nd:List (AT×Nat×Nat)
 nc:List (AT×Nat)
 md:List (Nat×AT×AT×Nat×Nat)
 fr:List (Nat×AT×Nat)
 fz:List (Nat×AT)
 fb:List (Nat×AT×String)
 cl:List Nat
 ms:List Nat
 kr:List (Nat×Nat×Bool)
 kt:List (String×Nat×Bool)
 ni:List (AT×Int)
 ns:List (AT×AT)
 kd:List Nat
 mA:Fo->List (Option<|Option AC)
 nA:List (Option<|Option AC)
 mB:Fo->Bool
 mC:Fo->List (Option Bool)
 nC:List (Option Bool)
 mD:Fo->List (Option FV)
 nD:Bn->List (Option FV)
 mI:Fo->List (Option Int)
 nI:List (Option Int)
 mX:Fo->List (Option XV)
 nX:List (Option XV)
def Tc(p:Bn)(i:Nat):Ih:=p.main.body.getD i<|.Pass {0,0,0,0}
abbrev LV:=List<|Option (Option AC)
variable(L:Ls)(p:Bn)
def oA(K:Fo):LV×LV×LV×LV×LV×LV×LV×LV×LV:=(L.nz.map λx=>nsIn K BY x,L.nd.map λx=>nsIn K BY x.1,L.nc.map λx=>nsIn K BY x.1,L.fr.map λx=>CV K (.ref x.1) x.2.1,L.fz.map λx=>CV K (.ref x.1) x.2,L.fb.map λx=>CV K (.ref x.1) x.2.1,L.cl.map λx=>CV K (.ref x) "__setattr__",L.cl.map λx=>CV K (.ref x) "__class__",L.mA K)
def eA:LV×LV×LV×LV×LV×LV×LV×LV×LV:=(ex (λ_=>Y S) L.nz,ex (λx=>Y<|Y (.ref x.2.1)) L.nd,ex (λx=>Y<|Y (.ref x.2)) L.nc,ex (λx=>Y<|Y (.ref x.2.2)) L.fr,ex (λ_=>Y S) L.fz,ex (λx=>Y<|Y (.builtin x.2.2)) L.fb,ex (λ_=>Y<|Y (.builtin "object.__setattr__")) L.cl,ex (λ_=>Y<|Y (.builtin "object.__class__")) L.cl,L.nA)
def oB(K:Fo):Bool:=L.nd.all (λx=>FZ K<|.ref x.2.1) && (L.md.all (λx=>FZ K (.ref x.1) &&isFn K (.ref x.1)) && (L.cl.all (λc=>plainGet K c Md&& (hasDictIn K c&&plainOver K c)) && (L.ms.all (λc=>MS K c&&FZ K (.ref c)) && (L.kd.all (λa=>FZ K (.ref a) &&isFn K (.ref a)) &&L.mB K))))
abbrev LB:=List<|Option Bool
def oC(K:Fo):LB×LB×LB×LB:=(L.cl.map λc=>mroIn K c<|.type "object",L.kr.map λx=>HE K (.ref x.1)<|.ref x.2.1,L.kt.map λx=>HE K (.type x.1)<|.ref x.2.1,L.mC K)
def eC:LB×LB×LB×LB:=(ex (λ_=>Y Z) L.cl,ex (λx=>Y x.2.2) L.kr,ex (λx=>Y x.2.2) L.kt,L.nC)
def oD(K:Fo):List (Option FV):=L.nd.map λx=>fv K x.2.1
def eD:List (Option FV):=ex (λx=>fx x.1 x.1 (Tc p x.2.2) .none) L.nd
def oM(K:Fo):List (Option FV)×List (Option FV):=(L.md.map λx=>fv K x.1,L.mD K)
def eM:List (Option FV)×List (Option FV):=(ex (λx=>fx x.2.1 x.2.2.1 (L2.BZ (Tc p x.2.2.2.1) x.2.2.2.2) .none) L.md,L.nD p)
abbrev LI:=List (Option Int)×List (Option AT)×List (Option Int)×List (Option XV)
def oI(K:Fo):LI:=(L.ni.map λx=>iv<|nsIn K BY x.1,L.ns.map λx=>sv<|nsIn K BY x.1,L.mI K,L.mX K)
def eI:LI:=(ex (λx=>Y x.2) L.ni,ex (λx=>Y x.2) L.ns,L.nI,L.nX)
structure Dm(K:Fo)(mg:AT->Option AC)(x:AT)(a:AH)(ps:List AT):Prop where
 m:mg x=Y (.ref a)
 k:FZ K (.ref a)=Z
 b:EK K (EM K a) ps []
abbrev Ez(P:Bn)(w:BP)(K:Fo)(mg:AT->Option AC)(base:CB)(k:Nat)(a:AH)(ps:List AT)(sp:Sp):Prop:=EE P w K mg base SU k a (EM K a) ps sp
structure Tt(K:Fo)(mg:AT->Option AC):Prop where
 A:oA L K=eA L
 B:oB L K=Z
 C:oC L K=eC L
 D:oD L K=eD L p
 M:oM L K=eM L p
 I:oI L K=eI L
 g:∀x v,nsIn K BY x=Y v->mg x=v
variable{L p}{K:Fo}{mg:AT->Option AC}
def W5{f:Tok->AC}{x:AT}(g:∀x v,nsIn K BY x=Y v->mg x=v)(h:∃t,nsIn K BY x=Y (Y<|f t)):∃t,mg x=Y (f t):=by let(t,e):=h;show{t,g _ _ e}
section
variable(T:Tt L p K mg)
include T
def Tt.y{x:AT}(i:Nat)(h:LC L.nz i=Y x):mg x=none:=T.g _ _<|JV (A1P (λx=>x.1) T.A) h
def Tt.dk{x:AT}{a n:Nat}(i:Nat)(h:LC L.nd i=Y (x,a,n)):FZ K (.ref a)=true:=VL (f:=λx:AT×Nat×Nat=>FZ K<|.ref x.2.1) ((AA _ _).mp T.B).1 h
def Tt.dn{x:AT}{a n:Nat}(i:Nat)(h:LC L.nd i=Y (x,a,n)):mg x=Y (.ref a):=T.g _ _<|JV (A1P (λx=>x.2.1) T.A) h
def Tt.df{x:AT}{a n:Nat}(i:Nat)(h:LC L.nd i=Y (x,a,n)):L2.Yx K x x (Tc p n) a (EM K a):=uM (JV T.D h)<|T.dk i h
def Tt.de{x:AT}{a n:Nat}(i:Nat)(h:LC L.nd i=Y (x,a,n)):fv K a=fx x x (Tc p n) .none:=JV T.D h
def Tt.nr{x:AT}{a:Nat}(i:Nat)(h:LC L.nc i=Y (x,a)):nsIn K BY x=Y (Y<|.ref a):=JV (A1P (λx=>x.2.2.1) T.A) h
def Tt.mc{x:AT}{a:Nat}(i:Nat)(h:LC L.nc i=Y (x,a)):mg x=Y (.ref a):=T.g _ _<|T.nr i h
def Tt.mB2{x q:AT}{a n j:Nat}(i:Nat)(h:LC L.md i=Y (a,x,q,n,j)):FZ K (.ref a)=Z/\isFn K (.ref a)=true:=(AA _ _).mp<|VL (f:=λx:Nat×AT×AT×Nat×Nat=>FZ K (.ref x.1) &&isFn K (.ref x.1)) ((AA _ _).mp ((AA _ _).mp T.B).2).1 h
def Tt.mf{x q:AT}{a n j:Nat}(i:Nat)(h:LC L.md i=Y (a,x,q,n,j)):L2.Yx K x q (L2.BZ (Tc p n) j) a (EM K a):=uM (JV (A1P (λx=>x.1) T.M) h) (T.mB2 i h).1
def Tt.fnd{c a:Nat}{x:AT}(i:Nat)(h:LC L.fr i=Y (c,x,a)):CV K (.ref c) x=Y (Y<|.ref a):=JV (A1P (λx=>x.2.2.2.1) T.A) h
def Tt.me{c a n j:Nat}{x y q:AT}(i z:Nat)(h:LC L.fr i=Y (c,x,a))(h':LC L.md z=Y (a,y,q,n,j)):UV K c x a:={T.fnd i h,(T.mB2 z h').2,(T.mB2 z h').1}
def Tt.fo{c:Nat}{x:AT}(i:Nat)(h:LC L.fz i=Y (c,x)):CV K (.ref c) x=Y none:=JV (A1P (λx=>x.2.2.2.2.1) T.A) h
def Tt.fw{c:Nat}{x:AT}{s:String}(i:Nat)(h:LC L.fb i=Y (c,x,s)):CV K (.ref c) x=Y (Y<|.builtin s):=JV (A1P (λx=>x.2.2.2.2.2.1) T.A) h
def Tt.mn{i:Nat}:LC (L.mA K) i=LC L.nA i:=Xa (A1P (λx=>x.2.2.2.2.2.2.2.2) T.A) i
def Tt.cB{c:Nat}(i:Nat)(h:LC L.cl i=Y c):QX K c:=by let z:=VL (f:=λc=>plainGet K c Md&& (hasDictIn K c&&plainOver K c)) ((AA _ _).mp ((AA _ _).mp ((AA _ _).mp T.B).2).2).1 h;let j:=(AA _ _).mp ((AA _ _).mp z).2;show{((AA _ _).mp z).1,j.1,j.2,JV (A1P (λx=>x.2.2.2.2.2.2.1) T.A) h}
def Tt.cC{c:Nat}(i:Nat)(h:LC L.cl i=Y c):CV K (.ref c) "__class__"=Y (Y<|.builtin "object.__class__"):=JV (A1P (λx=>x.2.2.2.2.2.2.2.1) T.A) h
def Tt.cr{c:Nat}(i:Nat)(h:LC L.cl i=Y c):mroIn K c (.type "object")=Y true:=JV (A1P (λx=>x.1) T.C) h
def Tt.mks{c:Nat}(i:Nat)(h:LC L.ms i=Y c):MS K c=Z/\FZ K (.ref c)=true:=(AA _ _).mp<|VL (f:=λc=>MS K c&&FZ K (.ref c)) ((AA _ _).mp ((AA _ _).mp ((AA _ _).mp ((AA _ _).mp T.B).2).2).2).1 h
def Tt.kds{c:Nat}(i:Nat)(h:LC L.kd i=Y c):FZ K (.ref c)=Z/\isFn K (.ref c)=true:=(AA _ _).mp<|VL (f:=λc=>FZ K (.ref c) &&isFn K (.ref c)) ((AA _ _).mp ((AA _ _).mp ((AA _ _).mp ((AA _ _).mp ((AA _ _).mp T.B).2).2).2).2).1 h
def Tt.mb:L.mB K=true:=((AA _ _).mp ((AA _ _).mp ((AA _ _).mp ((AA _ _).mp ((AA _ _).mp T.B).2).2).2).2).2
def Tt.q{a c:Nat}{b:Bool}(i:Nat)(h:LC L.kr i=Y (a,c,b)):HE K (.ref a) (.ref c)=Y b:=JV (A1P (λx=>x.2.1) T.C) h
def Tt.qt{a:String}{c:Nat}{b:Bool}(i:Nat)(h:LC L.kt i=Y (a,c,b)):HE K (.type a) (.ref c)=Y b:=JV (A1P (λx=>x.2.2.1) T.C) h
def Tt.cn{i:Nat}:LC (L.mC K) i=LC L.nC i:=Xa (A1P (λx=>x.2.2.2) T.C) i
def Tt.ui{x:AT}{n:Int}(i:Nat)(h:LC L.ni i=Y (x,n)):∃t,mg x=Y (.int n t):=W5 (f:=λt=>.int n t) T.g<|Xw (JV (A1P (λx=>x.1) T.I) h)
def Tt.us{x n:AT}(i:Nat)(h:LC L.ns i=Y (x,n)):∃t,mg x=Y (.str n t):=W5 (f:=λt=>.str n t) T.g<|C2 (JV (A1P (λx=>x.2.1) T.I) h)
def Tt.in_{i:Nat}:LC (L.mI K) i=LC L.nI i:=Xa (A1P (λx=>x.2.2.1) T.I) i
def Tt.xn{i:Nat}:LC (L.mX K) i=LC L.nX i:=Xa (A1P (λx=>x.2.2.2) T.I) i
def Tt.en{i:Nat}:LC (L.mD K) i=LC (L.nD p) i:=Xa (A1P (λx=>x.2) T.M) i
end
abbrev FB(x q:AT)(st:Ih)(us:List AC)(ps:List AT):Prop:=∀(kV doc pm:AC) (an:Option AH) (cdv ct:AC),bindArgs (fnOf x q (Js st) (Gj st) (AL st) .none kV doc pm an cdv ct) {us,[]}=Ic (ps.zip us)
variable{x q:AT}{st:Ih}{a n i:Nat}{fd:Ea}{p1 p2 p3 p4 p5 p6:AT}
def b1(F:L2.Yx K x q st a fd)(h:∀u,FB x q st [u] [p1]):EK K fd [p1] []:=F.binds λ_ _ _ _ _ _ us j=>by let(_,O):=P9 j;show h _ ..
def b2(F:L2.Yx K x q st a fd)(h:∀u v,FB x q st [u,v] [p1,p2]):EK K fd [p1,p2] []:=F.binds λ_ _ _ _ _ _ us j=>by let(_,_,O):=zx j;show h _ _ ..
def b3(F:L2.Yx K x q st a fd)(h:∀u v z,FB x q st [u,v,z] [p1,p2,p3]):EK K fd [p1,p2,p3] []:=F.binds λ_ _ _ _ _ _ us j=>by let(_,_,_,O):=zw j;show h _ _ _ ..
def b4(F:L2.Yx K x q st a fd)(h:∀u v z y,FB x q st [u,v,z,y] [p1,p2,p3,p4]):EK K fd [p1,p2,p3,p4] []:=F.binds λ_ _ _ _ _ _ us j=>by let(_,_,_,_,O):=zu j;show h _ _ _ _ ..
section
variable(T:Tt L p K mg)
include T
def Tt.d1(i:Nat)(h:LC L.nd i=Y (x,a,n))(b:∀u,FB x x (Tc p n) [u] [p1]):Dm K mg x a [p1]:={T.dn i h,T.dk i h,b1 (T.df i h) b}
def Tt.d2(i:Nat)(h:LC L.nd i=Y (x,a,n))(b:∀u v,FB x x (Tc p n) [u,v] [p1,p2]):Dm K mg x a [p1,p2]:={T.dn i h,T.dk i h,b2 (T.df i h) b}
def Tt.d3(i:Nat)(h:LC L.nd i=Y (x,a,n))(b:∀u v z,FB x x (Tc p n) [u,v,z] [p1,p2,p3]):Dm K mg x a [p1,p2,p3]:={T.dn i h,T.dk i h,b3 (T.df i h) b}
def Tt.d4(i:Nat)(h:LC L.nd i=Y (x,a,n))(b:∀u v z y,FB x x (Tc p n) [u,v,z,y] [p1,p2,p3,p4]):Dm K mg x a [p1,p2,p3,p4]:={T.dn i h,T.dk i h,b4 (T.df i h) b}
end
end HL
namespace L2
open PySem PySem.W
def KF{X:Cx}{k:Nat}{f:AH}{ps:List AT}{sp:Sp}{x:AT}{p pos:Ij}{e:Expr}{es:List Expr}{t:TA}(F:EE X.prog X.w X.K X.mg X.base SU k f (HL.EM X.K f) ps sp)(hr:EO k X.A)(D:HL.Dm X.K X.mg x f ps)(ha:PA X (e::es) t)(U: ~~~(X.env.kindOf x=Y .globalImplicit))(hc: ~~~(X.calm=true))(z:↑((x==("__debug__" :AT))=false))(he: ~~~(Bs (e::es) X.env=(ge,Dw e X.env)::Bs es X.env))(j: ~~~((Ef pos<|Bs es X.env).any (·.1)=false)):
  PE X (.Call (.Name x p) (e::es) [] pos) (kR sp [] E0 t):=ck F hr U D.m D.k D.b .nil (DU hc) ha z he j
end L2
namespace HL
open PySem PySem.W PyProof.Rows L2
abbrev DI:=AC×Option AH×Nat×List (Int×Option AT×Option Int)
def kI:AC->Option Int|.int i _=>Y i|_=>S
def q9(K:Fo)(a:AH):Option DI:=match K.lookup a with
 |some o=>(match o.data with
  |.dict es _=>Y (o.cls,o.dict,o.slots.toList.length,es.toList.map λe=>(e.hash,kS e.key,kI e.val))|_=>S)
 |none=>S
def diX(w:BP)(l:List (AT×Int)):Option DI:=Y (.type "dict",S,0,l.map λx=>(G7 w<|.inr x.1,Y x.1,Y x.2))
def vh{P:Bn}{w:BP}:∀{l:List (AT×Int)} {es:List DictEntry},es.map (λe=>(e.hash,kS e.key,kI e.val))=l.map (λx=>(G7 w<|.inr x.1,Y x.1,Y x.2))->∃vs,(∀e∈es,∃k,(DX P w).is k e.key=Z/\e.hash=(DX P w).hash k)/\Pairs (DX P w) es vs/\KV (l.map λx=>((.inr x.1:Hn),V.int x.2)) vs/\vs.map (·.1)=l.map λx=>(.inr x.1:Hn):=by
 intro l;induction l with
 |nil=>
  intro es h;obtain rfl:es=[]:=Ik.mp h;show{[],λ_ z=>(Cm z).elim,.nil,.nil,O}
 |cons x l D=>
  intro es h;cases es with
  |nil=>cases h
  |cons e es=>
   rw[AV,AV]at h;let(h1,h2):=Fi h;let(vs,i1,i2,U,F):=D h2;let(eh,ek,ev):=e;simp only[Gb]at h1;let(O,b,c):=h1;let hk:∃t,ek= .str x.1 t:=by
    unfold kS at b;split at b;·cases b;show{(_),O}
    cases b
   let hv:∃t,ev= .int x.2 t:=by
    unfold kI at c;split at c;·cases c;show{(_),O}
    cases c
   let(t,O):=hk;let(u,O):=hv;show{(.inr x.1,.int x.2 u)::vs,λe j=>?_,.cons (OT P w x.1 t) O i2,.cons {O,{(u),O}} U,by rw[AV,AV,F]};rcases Bf.mp j with rfl|j;·show{.inr x.1,OT P w x.1 t,O}
   show i1 e j
def G8{P:Bn}{w:BP}{K:Fo}{a:AH}{l:List (AT×Int)}(h:q9 K a=diX w l)(hs: (a==GJ)=ge)(hn: (l.map λx=>(.inr x.1:Hn)).Nodup):KD P w K a (l.map λx=>((.inr x.1:Hn),V.int x.2)):=by
 show{hs,?_};unfold q9 diX at h;cases q:K.lookup a with
 |none=>rw[q]at h;cases h
 |some o=>
  rw[q]at h;let(oc,od,dt,sl):=o;cases dt with
  |dict es ep=>
   simp only[JE,Gb]at h;let(O,O,h3,h4):=h;let(vs,F,D,z,j):=vh (P:=P) h4;show{vs,z,λhp hK=>{_,es,ep,hK a _ q,{O,O,?_},O,λe U=>F e U.val,D,?_}};·obtain⟨sl⟩:=sl;obtain rfl:sl=[]:=IW.mp h3;rfl
   rw[j];show hn
  |_=>cases h
end HL
namespace K9
open PySem PySem.W HL L2
abbrev top(i:Nat):Ih:=Tc BS i
abbrev keep:List Nat:=[121]
def bB(K:Fo):List Bool:=[p9 K 665 663,qN K 4,FZ K<|.ref 111,FZ K<|.ref 149,excIn K 31 mG "ValueError.__new__",readsIn K 31<|.type "type",fcB K 31 "__init__" "ValueError.__init__",hasDictIn K 149]
def lL:Ls where
 nz:=["len","range","isinstance","max","min","sum","all","ord","sorted","enumerate","int","bool","list","tuple","str","set","ValueError"]
 nd:=NX [("is_whole",196,18),("is_among",203,19),("is_made_of",208,20),("is_name",215,21),("number_text",222,22),("number_of",229,23),("words_of",236,24),("is_sign",243,33),("own_default",639,43),("own_fields",666,45),("own_numbers",671,46),("are_unlike",759,56),("is_of_size",766,57),("are_named_fields",771,58),("are_numbered",776,59),("is_thing_kind",783,60),("is_kind",790,61),("is_blank",797,62),("is_default",804,63),("field_weight",811,64),("form_weight",816,65),("fault_of",821,66),("need_forms",828,67),("code_of",934,77),("bound_of",941,78),("default_part",948,79),("table_row",955,80),("table_rows",960,81),("compiled",967,82),("thing_kind",974,83),("kind_of",981,84)] (NX [("row_default",988,85),("field_of_row",995,86),("part_text",1002,87),("part_of",1009,88),("row_line",1014,89),("tables_text",1019,90),("row_in",1085,92),("tables_of",1092,93),("_law_cell_at",1099,95),("_law_mixed",1106,96),("_law_whole",1113,97),("_law_called",1118,98),("_law_kind",1125,99),("_law_blank",1132,100),("_law_default",1139,101),("_law_weight",1144,102),("_law_form",1151,103),("_law_forms",1158,104),("_law_made_kind",1165,105),("_law_made",1172,106),("_law_alone",1177,107),("_law_code",1184,108),("_law_bound",1191,109),("_law_lines",1198,110),("_law_number_of",1203,111),("_law_is_name",1208,112),("_law_among",1215,113),("_law_form_good",1222,114),("_law_field_good",1227,115),("_law_wrong",1234,116),("_law_bent",1241,117)]<|[("_law_lines_right",1248,118),("_law_many_forms",1253,119),("_law_no_list",1260,120),("law",1265,121)])
 nc:=[("FormError",31),("BadNumber",44),("BadRow",56),("BadCheck",68),("NoKey",80),("BadVersion",92),("BadBook",111),("BadValue",130),("BadText",149),("BadWire",168),("NotKin",187),("Kind",302),("Truth",344),("Count",377),("Whole",410),("Upto",464),("Text",517),("List",576),("Nested",630),("Field",657),("Record",731),("Choice",750),("Book",859),("Draft",901),("Tables",923),("TablesDraft",1076),("CODES",906),("__builtins__",4)]
 md:=NX [(108,"__init__","BadBook.__init__",8,0),(146,"__init__","BadText.__init__",10,0),(271,"is_plain","Kind.is_plain",34,2),(299,"blank","Kind.blank",34,6),(320,"word","Truth.word",35,0),(334,"suits","Truth.suits",35,2),(341,"blank","Truth.blank",35,3),(360,"word","Count.word",36,0),(367,"suits","Count.suits",36,1),(374,"blank","Count.blank",36,2),(393,"word","Whole.word",37,0),(400,"suits","Whole.suits",37,1),(407,"blank","Whole.blank",37,2),(426,"__init__","Upto.__init__",38,0),(433,"word","Upto.word",38,1),(454,"suits","Upto.suits",38,4),(461,"blank","Upto.blank",38,5),(488,"word","Text.word",39,1),(507,"suits","Text.suits",39,4),(514,"blank","Text.blank",39,5),(533,"__init__","List.__init__",40,0),(540,"word","List.word",40,1),(554,"is_plain","List.is_plain",40,3),(566,"suits","List.suits",40,5),(573,"blank","List.blank",40,6),(592,"__init__","Nested.__init__",41,0),(599,"word","Nested.word",41,1),(613,"is_plain","Nested.is_plain",41,3),(627,"suits","Nested.suits",41,5),(693,"is_choice","Form.is_choice",47,1),(747,"is_choice","Choice.is_choice",49,0)] ([(842,"__init__","Book.__init__",68,0),(877,"__init__","Draft.__init__",69,0),(920,"__init__","Tables.__init__",76,0),(1033,"__init__","TablesDraft.__init__",91,0),(1040,"takes_row","TablesDraft.takes_row",91,1),(1047,"takes_form","TablesDraft.takes_form",91,2),(1054,"close_form","TablesDraft.close_form",91,3),(1061,"takes_field","TablesDraft.takes_field",91,4),(1066,"may_stand","TablesDraft.may_stand",91,5),(1073,"is_whole_book","TablesDraft.is_whole_book",91,6)])
 fr:=NX [(302,"blank",299),(344,"word",320),(344,"is_plain",271),(344,"suits",334),(344,"blank",341),(377,"word",360),(377,"is_plain",271),(377,"suits",367),(377,"blank",374),(410,"word",393),(410,"is_plain",271),(410,"suits",400),(410,"blank",407),(464,"__init__",426),(464,"word",433),(464,"is_plain",271),(464,"suits",454),(464,"blank",461),(517,"__init__",481),(517,"word",488),(517,"is_plain",271),(517,"suits",507),(517,"blank",514),(576,"__init__",533),(576,"word",540),(576,"is_plain",554),(576,"suits",566),(576,"blank",573),(630,"__init__",592),(630,"word",599),(630,"is_plain",613)] ([(630,"suits",627),(630,"blank",299),(657,"__init__",654),(731,"__init__",686),(731,"is_choice",693),(750,"__init__",686),(750,"is_choice",747),(859,"__init__",842),(901,"__init__",877),(923,"__init__",920),(1076,"__init__",1033),(1076,"takes_row",1040),(1076,"takes_form",1047),(1076,"close_form",1054),(1076,"takes_field",1061),(1076,"may_stand",1066),(1076,"is_whole_book",1073)])
 fz:=[(464,"most"),(517,"most"),(576,"item"),(630,"name"),(657,"number"),(657,"name"),(657,"kind"),(657,"must"),(657,"default"),(717,"name"),(717,"fields"),(717,"gone"),(731,"name"),(731,"fields"),(731,"gone"),(750,"name"),(750,"fields"),(750,"gone"),(859,"forms"),(859,"weights"),(901,"choice"),(901,"name"),(901,"fields"),(901,"gone"),(923,"rows"),(1076,"rows"),(1076,"places"),(1076,"draft"),(1076,"lacking")]
 fb:=[(344,"__init__","object.__init__"),(377,"__init__","object.__init__"),(410,"__init__","object.__init__")]
 cl:=[302,344,377,410,464,517,576,630,657,717,731,750,859,901,923,1076]
 ms:=[344,377,410,464,517,576,630,657,731,750,859,901,923,1076]
 kr:=NX [(302,302,Z),(302,344,ge),(302,377,ge),(302,410,ge),(302,464,ge),(302,517,ge),(302,576,ge),(302,630,ge),(344,302,Z),(344,344,Z),(344,377,ge),(344,410,ge),(344,464,ge),(344,517,ge),(344,576,ge),(344,630,ge),(377,302,Z),(377,344,ge),(377,377,Z),(377,410,ge),(377,464,ge),(377,517,ge),(377,576,ge),(377,630,ge),(410,302,Z),(410,344,ge),(410,377,ge),(410,410,Z),(410,464,ge),(410,517,ge),(410,576,ge)] (NX [(410,630,ge),(464,302,Z),(464,344,ge),(464,377,ge),(464,410,ge),(464,464,Z),(464,517,ge),(464,576,ge),(464,630,ge),(517,302,Z),(517,344,ge),(517,377,ge),(517,410,ge),(517,464,ge),(517,517,Z),(517,576,ge),(517,630,ge),(576,302,Z),(576,344,ge),(576,377,ge),(576,410,ge),(576,464,ge),(576,517,ge),(576,576,Z),(576,630,ge),(630,302,Z),(630,344,ge),(630,377,ge),(630,410,ge),(630,464,ge),(630,517,ge)]<|[(630,576,ge),(630,630,Z),(717,731,ge),(717,750,ge),(731,731,Z),(731,750,ge),(750,731,ge),(750,750,Z),(923,923,Z),(657,657,Z),(149,44,ge),(149,56,ge),(149,111,ge),(149,130,ge),(149,149,Z),(149,168,ge),(149,68,ge),(149,187,ge),(149,80,ge),(149,92,ge)])
 kt:=[("NoneType",302,ge),("NoneType",344,ge),("NoneType",377,ge),("NoneType",410,ge),("NoneType",464,ge),("NoneType",517,ge),("NoneType",576,ge),("NoneType",630,ge),("NoneType",657,ge),("str",302,ge),("str",344,ge),("str",377,ge),("str",410,ge),("str",464,ge),("str",517,ge),("str",576,ge),("str",630,ge),("str",657,ge),("NoneType",731,ge),("NoneType",750,ge),("str",731,ge),("str",750,ge),("int",731,ge),("int",750,ge),("list",731,ge),("list",750,ge),("dict",731,ge),("dict",750,ge)]
 ni:=[("MOST_LETTERS",12),("MOST_FIGURES",80),("MOST_NUMBER",115792089237316195423570985008687907853269984665640564039457584007913129639935),("MOST_WHOLE",57896044618658097711785492504343953926634992332820282019728792003956564819967),("MOST_SIGNS",100),("MOST_THINGS",20),("LEAST_SIGN",32),("MOST_SIGN",126),("PERCENT_SIGN",37),("MOST_FORMS",8),("MOST_FIELDS",10),("MOST_GONE",10),("MOST_FIELD_NUMBER",200),("MOST_WEIGHT",100),("LIST_CODE",10),("FORM_PARTS",4),("FIELD_PARTS",7)]
 ns:=[("LETTERS","abcdefghijklmnopqrstuvwxyz"),("FIGURES","0123456789"),("EMPTY","-")]
 kd:=[481,654,686]
 nA:=[Y (Y<|.builtin "getset_descriptor.__get__"),Y<|Y (.builtin "object.__setattr__"),Y<|Y (.builtin "object.__setattr__"),Y<|Y (.builtin "type.__getattribute__"),Y S,Y S,Y S,Y<|Y (.builtin "BaseException.__getattribute__"),Y S,Y<|Y (.builtin "object.__class__")]
 nC:=[Y Z,Y Z,Y Z,Y Z,Y Z,Y Z]
 nI:=[Y 665,Y 100,Y 1,Y 10,Y 11]
 nX:=[xx 111 31 108,xx 149 31 146]
 mA K:=[specialIn K (.builtin "object.__class__") "__get__",CV K (.ref 111) "__setattr__",CV K (.ref 149) "__setattr__",specialIn K (.ref 31) "__getattribute__",CV K (.ref 111) "place",CV K (.ref 111) "why",CV K (.ref 149) "place",CV K (.ref 149) "__getattribute__",CV K (.ref 149) "__getattr__",CV K (.ref 149) "__class__"]
 mB K:=(bB K).all id
 mC K:=[HE K (.ref 149) (.type "ValueError"),takesIn K<|.builtin "object.__class__",mroIn K 31<|.type "ValueError",mroIn K 149<|.type "object",mroIn K 149<|.type "BaseException",exmOne K (.ref 149)<|.ref 31]
 mD K:=[fv K 481,fv K 654,fv K 686]
 nD p:=[fx "__init__" "Text.__init__" (BZ (Tc p 39) 0) (.ref 474),fx "__init__" "Field.__init__" (BZ (Tc p 44) 0)<|.ref 647,fx "__init__" "Form.__init__" (BZ (Tc p 47) 0)<|.ref 679]
 mI K:=[fcd K 666,iv<|(Ms K 474).map List.head?,(Ms K 474).map λl=>(l.length:Int),(Ms K 647).map wx,(Ms K 679).map wx]
 mX K:=[xv K 111,xv K 149]
abbrev eJ:AH:=663
abbrev yN:AH:=665
noncomputable abbrev ul:List Nat:=[2,3,4,30,31,44,56,68,80,92,107,108,110,111,130,145,146,148,149,168,187,195,196,202,203,207,208,214,215,221,222,228,229,235,236,242,243,270,271,298,299,301,302,319,320,333,334,340,341,343,344,359,360,366,367,373,374,376,377,392,393,399,400,406,407,409,410,425,426,432,433,453,454,460,461,463,464,474,480,481,487,488,506,507,513,514,516,517,532,533,539,540,553,554,565,566,572,573,575,576,591,592,598,599,612,613,626,627,629,630,638,639,647,653,654,656,657,665,666,670,671,679,685,686,692,693,716,717,730,731,746,747,749,750,758,759,765,766,770,771,775,776,782,783,789,790,796,797,803,804,810,811,815,816,820,821,827,828,841,842,858,859,876,877,900,901,906,919,920,922,923,933,934,940,941,947,948,954,955,959,960,966,967,973,974,980,981,987,988,994,995,1001,1002,1008,1009,1013,1014,1018,1019,1032,1033,1039,1040,1046,1047,1053,1054,1060,1061,1065,1066,1072,1073,1075,1076,1084,1085,1091,1092,1098,1099,1105,1106,1112,1113,1117,1118,1124,1125,1131,1132,1138,1139,1143,1144,1150,1151,1157,1158,1164,1165,1171,1172,1176,1177,1183,1184,1190,1191,1197,1198,1202,1203,1207,1208,1214,1215,1221,1222,1226,1227,1233,1234,1240,1241,1247,1248,1252,1253,1259,1260,1264,1265]
abbrev Tx(K:Fo)(mg:AT->Option AC):Prop:=Tt lL BS K mg
def T7(s:AK):=let K:=KM ul s.heap;(oB lL K,oC lL K,oD lL K,oM lL K,oI lL K,rn s.heap 663)
def W4(p:Bn):=(Z,eC lL,eD lL p,eM lL p,eI lL,Z)
def pL:List (AT×Int):=[("truth",0),("count",1),("whole",2),("upto",3),("text",4),("form",5)]
def E8(s:AK):Option DI:=q9 (KM ul s.heap) 906
def W3(w:BP):Option DI:=diX w pL
def o9(s:AK):=((oA lL<|KM ul s.heap,T7 s),E8 s)
def q0(p:Bn)(w:BP):=((eA lL,W4 p),W3 w)
abbrev tp:Bn:=BS
noncomputable abbrev lo:List AT:=(["_wall","FormError","BadNumber","BadRow","BadCheck","NoKey","BadVersion","BadBook","BadValue","BadText","BadWire","NotKin","LETTERS","FIGURES","MOST_LETTERS","MOST_FIGURES","is_whole","is_among","is_made_of","is_name","number_text","number_of","words_of","MOST_NUMBER","MOST_WHOLE","MOST_SIGNS","MOST_THINGS","LEAST_SIGN","MOST_SIGN","PERCENT_SIGN","is_sign","Kind"]:List AT) ++ (["Truth","Count","Whole","Upto","Text","List","Nested","own_default","Field","own_fields","own_numbers","Form","Record","Choice","MOST_FORMS","MOST_FIELDS","MOST_GONE","MOST_FIELD_NUMBER","MOST_WEIGHT","are_unlike","is_of_size","are_named_fields","are_numbered","is_thing_kind","is_kind","is_blank","is_default","field_weight","form_weight","fault_of","need_forms","Book"]:List AT) ++ (["Draft","CODES","LIST_CODE","FORM_PARTS","FIELD_PARTS","EMPTY","Tables","code_of","bound_of","default_part","table_row","table_rows","compiled","thing_kind","kind_of","row_default","field_of_row","part_text","part_of","row_line","tables_text","TablesDraft","row_in","tables_of","_law_cell_at","_law_mixed","_law_whole","_law_called","_law_kind","_law_blank","_law_default","_law_weight"]:List AT) ++ (["_law_form","_law_forms","_law_made_kind","_law_made","_law_alone","_law_code","_law_bound","_law_lines","_law_number_of","_law_is_name","_law_among","_law_form_good","_law_field_good","_law_wrong","_law_bent","_law_lines_right","_law_many_forms","_law_no_list"]:List AT)
def h1:opening tp=plainProg tp.main.scope.names:=by kernel_rfl
def h2(s:AK):fenceModules? tp s=Y s:=by kernel_rfl
def hsz(P:Params): (Ft P).isNs BY=Z/\(Ft P).objs.size=11/\(Ft P).nsMap BY "__annotations__"=MJ:={by kernel_rfl,by kernel_rfl,by kernel_rfl}
def Sg(w:BP)(os:Fa):VR ii tp w 11 MJ 12 (mJ w os) (topStub tp)=Y ((S0 w os).abs,{Sl ii<|code tp,code tp,Hx,[HS Hx]}):=by kernel_rfl
def jI(w:BP)(s:AK):RE ii tp w 11 MJ 1 1 s (blockOf (FT tp) (env tp) (code tp) Hx [HS Hx])=Y (.next,s,code tp,Hx):=by kernel_rfl
abbrev ps_:Ij:={788,0,819,58}
abbrev Ru{j:Type}(w:BP)(os:Fa)(F:Hk->j)(a:j):Prop:=(R tp 60000 w os).map (λx=>(x.1,x.2.2,F x.2.1))=Y (.next,(code tp,ps_),a)
abbrev wB(b:Bool)(w:BP):BP:=w.withFollow "special-get-raises" b
def Si(l:List Nat)(y:Hk):Fo:=l.filterMap λa=>((bif Nat.blt a y.n then alive ((y.tree.get a).getD default)else S).map λo=>(a,o))
def Xx(l:List Nat)(y:Hk):KM l y.abs.heap=Si l y:=by
 let h (a:Nat):y.abs.heap.get? a=bif Nat.blt a y.n then alive ((y.tree.get a).getD default)else none:=by
  change(absHeap y.tree y.n y.life).get? a=_;by_cases h:a<y.n;·rw[show Nat.blt a y.n=Z from Nat.ble_eq_true_of_le h,cond_true];unfold Heap.get?;rw[absHeap_at,A1O h];rcases(y.tree.get a).getD default with⟨c,d,j,sl⟩;cases j <;> rfl
  rw[abs_get_none h,show Nat.blt a y.n=ge from Bool.eq_false_iff.mpr λe=>h<|Nat.le_of_ble_eq_true e];rfl
 unfold KM Si;simp only[h]
def f1(w:BP)(y:Hk):=(Uy tp (view tp keep) lo w.params y.abs,rn y.abs.heap 663,q9 (Si ul y) 906)
def f2(y:Hk):=(oA lL<|Si ul y,oI lL<|Si ul y)
def f3(y:Hk):=(oB lL<|Si ul y,oC lL<|Si ul y)
def f4(y:Hk):=(oD lL<|Si ul y,oM lL<|Si ul y)
def x1(w:BP):=(aL (view tp keep) lo,Z,W3 w)
def q1F(w:BP)(os:Fa):Ru (wB ge w) os (f1<|wB ge w) (x1<|wB ge w):=by kernel_rfl
def q1T(w:BP)(os:Fa):Ru (wB Z w) os (f1<|wB Z w) (x1<|wB Z w):=by kernel_rfl
def q2F(w:BP)(os:Fa):Ru (wB ge w) os f2 (eA lL,eI lL):=by kernel_rfl
def q2T(w:BP)(os:Fa):Ru (wB Z w) os f2 (eA lL,eI lL):=by kernel_rfl
def q3F(w:BP)(os:Fa):Ru (wB ge w) os f3 (Z,eC lL):=by kernel_rfl
def q3T(w:BP)(os:Fa):Ru (wB Z w) os f3 (Z,eC lL):=by kernel_rfl
def q4F(w:BP)(os:Fa):Ru (wB ge w) os f4 (eD lL tp,eM lL tp):=by kernel_rfl
def q4T(w:BP)(os:Fa):Ru (wB Z w) os f4 (eD lL tp,eM lL tp):=by kernel_rfl
def rr{j:Type}{F:BP->Hk->j}{a:BP->j}(D:∀w os,Ru (wB ge w) os (F<|wB ge w)<|a (wB ge w))(z:∀w os,Ru (wB Z w) os (F<|wB Z w)<|a (wB Z w))(w:BP)(os:Fa):Ru w os (F w) (a w):=byRow2 "special-get-raises" (P:=λw=>Ru w os (F w)<|a w) (λw=>D w os) (λw=>z w os) w
def mp{z j:Type}{w:BP}{os:Fa}{F:Hk->z}{G:Hk->j}{a:z}{b:j}(h1:Ru w os F a)(h:∀y,F y=a->G y=b):Ru w os G b:=by
 unfold Ru at *;cases e:R tp 60000 w os with
 |none=>rw[e]at h1;cases h1
 |some x=>
  rw[e]at h1;let D:=AE h1;change Y (x.1,x.2.2,G x.2.1)=_;rw[h x.2.1 (A1P (λy=>y.2.2) D)];show A1P (λy=>Y (y.1,y.2.1,b)) D
def jn{z j:Type}{w:BP}{os:Fa}{F:Hk->z}{G:Hk->j}{a:z}{b:j}(h1:Ru w os F a)(h2:Ru w os G b):Ru w os (λy=>(F y,G y)) (a,b):=by
 unfold Ru at *;cases e:R tp 60000 w os with
 |none=>rw[e]at h1;cases h1
 |some x=>
  rw[e]at h1 h2;let D:=AE h1;let f1:F x.2.1=a:=A1P (λy=>y.2.2) D;let f2:G x.2.1=b:=A1P (λy=>y.2.2)<|AE h2;change Y (x.1,x.2.2,(F x.2.1,G x.2.1))=_;rw[f1,f2];show A1P (λy=>Y (y.1,y.2.1,(a,b))) D
def g1(w:BP)(os:Fa):Ru w os (f1 w) (x1 w):=rr q1F q1T w os
def g2(w:BP)(os:Fa):Ru w os f2 (eA lL,eI lL):=rr (F:=λ_=>f2) (a:=λ_=>(eA lL,eI lL)) q2F q2T w os
def yr(w:BP)(os:Fa):Ru w os (λy=>T7 y.abs) (W4 tp):=by show mp (jn (g1 w os)<|jn (g2 w os) (jn (rr (F:=λ_=>f3) (a:=λ_=>(Z,eC lL)) q3F q3T w os)<|rr (F:=λ_=>f4) (a:=λ_=>(eD lL tp,eM lL tp)) q4F q4T w os)) λy e=>?_;change(λK=>(oB lL K,oC lL K,oD lL K,oM lL K,oI lL K,rn y.abs.heap 663)) (KM ul y.abs.heap)=_;rw[Xx];show A1P (λz=>(z.2.2.1.1,z.2.2.1.2,z.2.2.2.1,z.2.2.2.2,z.2.1.2,z.1.2.1)) e
def left:LeftO BS (view BS keep) lo (λs=>xlAt (view BS keep) [] s&&recOk [] s) o9 (q0 BS) 60100:=by
 show ur (n:=60000) h1 h2 Sg jI (λw os=>mp (g1 w os) λy e=>A1P (λz=>z.1) e) (λw os=>mp (G:=λy=>oA lL<|KM ul y.abs.heap) (g2 w os) λy e=>?_) yr (λw os=>mp (G:=λy=>E8 y.abs) (g1 w os) λy e=>?_) hsz O Aa;·rw[Xx];show A1P (λz=>z.1) e
 unfold E8;rw[Xx];show A1P (λz=>z.2.2) e
end K9
namespace L2
open PySem PySem.Spec PyProof.Rows
section
variable{X:Cx}
def xu(hN:X.N.Nodup)(hi:X.N[i]?=Y x)(z:P1 X.env.scope x)(hc:PEX X E c0 t)(hs: ~~~(Ol c0 (Y<|.Name x pos') pos.line X.env=Ic false))(hf:X.fn x=Z\/X.env.scope.names.lookup x=Y .local:=by first|show .inl rfl|show .inr rfl|assumption):PSX X E [.Assign [.Name x pos'] c0 pos] (λD σ H=>t σ H λy H1=>D.nx (σ.set i<|Y y) H1):=by intro 0 D I h;show LZ<|wpAny_Assign_Name (Ee (hc pZ s σ H _ I h) (λv s1 j=>?_) λe s' z=>z) hs;let(y,H1,I1,F,U):=j;show Mr I1 hN hi z F (λs2 I2=>HD {(_),H1,I2,U}) hf
end
section
variable{X:Cx}{E:XK}
variable{cm:Bool}{k:Nat}{f C:AH}{fd:Ea}{ps:List AT}{sp:Sp}{m:AT}{pos apos:Ij}{e o:Expr}{es:List Expr}{ta:TE}{t:TA}{pl:Sem Bool}
end
end L2
namespace L2
open PySem PySem.W PyProof PyProof.Rows
section
variable{X:Cx}
def ph(h:IntsAre j ns):Co (ns.map V.int) j:=by induction h with|nil=>show .nil|cons n t h z=>show .cons {(t),O} z
def TK:Gf X (.builtin "sorted") (λxs H Q=>∃(p:AH) (ns:List Int),xs=[.ref p]/\Cg X.K H p (ns.map V.int)/\ns.length<64/\∀l,H l=S->Q (.ref l) (upd H l<|.lst ((sortI ns).map V.int))):=by
 intro 0 xs us Q I r h;let(p,ns,O,hq,a9,q):=h;let(u,O,rx):=KB r;cases rx;let(z,F,pl,hz):=I.list hq;let U:z.length=ns.length:=by rw[<-F.length,Ay]
 show sorted_ints pl.isList (Xu F) () λj D a1 a2 a3=>?_;let(e,he):=sortedAll_at s.heap z j;let en:D=sortI ns:=eq_sortI a2 a3;subst en;show{.ref<|↑s+1,_,I.laid (t':=s.toks) (λ_ _=>sortedAll_old) (ER _) (show Dd X.prog X.w _ _ _ (.lst<|(sortI ns).map V.int)from{?_,j.toList,e,ph a1,by simpa using he}),O,q _<|I.hok.fresh (ER _)};rw[Ay,a2.length_eq,<-Ay (f:=V.int)];show hz
end
end L2
namespace L2
open PySem PySem.Spec PySem.W PyProof PyProof.Rows
def HP{κ:Type} [DecidableEq κ](val:Nat->κ):Nat->List κ|0=>[]|i+1=>if val i∈HP val i then HP val i else HP val i++[val i]
def Vt{κ:Type} [DecidableEq κ](val:Nat->κ):∀i,(HP val i).length<=i
 |0=>Bh _
 |i+1=>by
  have:=Vt val i;unfold HP;split
  ·lia
  rw[AS];simp;lia
def Xi{κ:Type} [DecidableEq κ](val:Nat->κ)(x:κ):∀i,x∈HP val i ↔ ∃j,j<i/\val j=x
 |0=>{(λh=>(by cases h)),(λF=>(by let(j,h,_):=F;show ()))}
 |i+1=>by
  let ih:=Xi val x i;let U:=Xi val (val i) i;unfold HP;split
  ·rename_i h;rw[ih];show{λD=>(by let(j,a,b):=D;show{j,(),b}),λz=>?_};let(j,a,b):=z;by_cases e:j=i
   ·subst e;let(k,k1,k2):=U.mp h;show{k,k1,k2.trans b}
   show{j,(),b}
  rw[BE,ih];show{λh=>?_,λ⟨j,a,b⟩=>?_}
  ·rcases h with⟨j,a,b⟩|h
   ·show{j,(),b}
   show{i,(),(Bc.mp h).symm}
  by_cases e:j=i;·subst e;show .inr<|Bc.mpr b.symm
  show .inl {j,(),b}
def gh{κ:Type} [DecidableEq κ](val:Nat->κ):∀i,(HP val i).length=i ↔ ∀a b,a<b->b<i->val a≠val b
 |0=>{(λ_ a b _ h=>()),λ_=>rfl}
 |i+1=>by
  let F:=gh val i;let le:=Vt val i;let mem:=Xi val (val i) i;unfold HP;split;·rename_i h;show{(λz=>()),λz=>?_};let(j,a,b):=mem.mp h;show A1Q b (z j i a<|())
  rename_i h;rw[AS,Rb];show{λz a b D U=>?_,λz=>?_}
  ·by_cases e:b=i
   ·subst e;show λy=>h<|mem.mpr {(a),D,y}
   show F.mp () a b D ()
  have:=F.mpr λa b D U=>z a b D ()
  lia
section
variable{prog:Bn}{w:BP}{A:CA}{R:Result->AK->Prop}{I:AH}{fp wr:List AH}{G:Array GenState->Array GenState->Prop}{n:Nat}{P:Nat->AC->Prop}{St:Nat->AK->Prop}{κ:Type} [DecidableEq κ]
def gZ{knd:Ko prog w κ}{h:CB}{a:AH}{Sq j:κ->Bool}{n z:Nat}(D:h.SetOf knd a Sq n)(e:∀k,Sq k=j k)(en:n=z):h.SetOf knd a j z:=by cases (funext e:Sq=j);cases en;show D
def U3(knd:Ko prog w κ)(W:WalksS prog w A.in1 I fp wr G n P St)(Sq:AH)(a4:Sq∉fp)(val:Nat->κ)(a1:∀i v,P i v->knd.is (val i) v=Z/\v.scannable=Z)(U:n+1<YB)(d:Nat):∀(i:Nat) (s:AK),i+d=n->St i s->s.heap.SetOf knd Sq (λx=>decide (x∈HP val i)) (HP val i).length->(∀s',Moved (Sq::wr) G s s'->s'.heap.SetOf knd Sq (λx=>decide (x∈HP val n)) (HP val n).length->R (.ok<|.ret .none) s')->Ie (model prog w) A (.builtin "set.update.loop" {[.ref Sq,.ref I],[]}) R s:=by
 let a5:Sq∉wr:=λh=>a4<|W.sub _ h;let keep:∀{s s':AK} {T:κ->Bool} {m:Nat},Moved wr G s s'->s.heap.SetOf knd Sq T m->s'.heap.SetOf knd Sq T m:=λj a3=>(by let(o,es,ep,t,ho,r):=a3;show{o,es,ep,t,j.heap Sq _ a5 ho,r});let wide:∀{s s':AK},Moved wr G s s'->Moved (Sq::wr) G s s':=λj=>j.mono λb U=>Bq _ U;induction d with
 |zero=>
  intro i s hi D hS q;cases (show i=n by lia);show UD Ub ?_;rw[Around.under_plainId Ii _];show AG (m:=pyNext<|.ref I)<|W.done s _ _ D λs' j=>?_;show Bm<|q s' (wide j) (keep j hS)
 |succ d ih=>
  intro i s hi D hS q;show UD Ub ?_;rw[Around.under_plainId Ii _];show AG (m:=pyNext<|.ref I) (W.item i s _ _ () D λv s' hP a2 j=>?_);let(k1,k2):=a1 i v hP;show AG (m:=QF [v]<|setAdd Sq v)<|Cw ?_;unfold setAdd;show Cw<|AG (knd.pyHash k1 ?_);let room: (HP val i).length+1<YB:=by have:=Vt val i;lia
  show wpAny_setAddHashed_of (knd:=knd) (s:={s' with toks:=s'.toks+1}) k1 k2 (show s'.heap.SetOf knd Sq _ _ from keep j hS) room λh' sb a9=>?_;let a8:h'.SetOf knd Sq (λx=>decide (x∈HP val (i+1))) (HP val<|i+1).length:=by
   show gZ a9 (λx=>?_) ?_
   ·rw[show HP val (i+1)=if val i∈HP val i then HP val i else HP val i++[val i]from O]
    by_cases c:val i∈HP val i
    ·rw[A1O c];by_cases e:x=val i
     ·subst e;simp[c]
     simp[e]
    rw[A1N c];simp only[BE,Bc,Bool.decide_or]
   rw[show HP val (i+1)=if val i∈HP val i then HP val i else HP val i++[val i]from O]
   by_cases c:val i∈HP val i;·simp[c]
   simp[c]
  show Bm {plainId_quiet Ii _,ih (i+1) _ () (W.frame _ s' _ _ a2 (ER _) λb U o e=>?_) a8 λs2 a6 a7=>?_};·rw[sb.2 b (λz=>a4<|by rw[<-z];show U)];show e
  show q s2 (Moved.trans W.gtrans ((wide j).then_heap (ER _) λb o U e=>?_) a6) a7;rw[sb.2 b (λz=>U<|by rw[z];show Bi)];show e
end
section
variable{prog:Bn}{w:BP}{A:CA}{E:AC->AK->Prop}{s:AK}{κ:Type} [DecidableEq κ]
def Ni(led:Bool):Obj:={cls:=.type "set",dict:=S,data:=.set #[] 0 (.fresh 0 0 led)}
def sI(knd:Ko prog w κ){l:AH}{items:Array AC}{led:Bool}(hh:A.handled=S)(hl:s.heap.IsList l items)(val:Nat->κ)(hv:∀i v,items[i]?=Y v->knd.is (val i) v=Z/\v.scannable=Z)(hb:items.size+1<YB){R:Result->AK->Prop}(h:∀(h':CB) (tk:Nat),h'.SetOf knd ↑s (λx=>decide (x∈HP val items.size)) (HP val items.size).length->(∀b o,s.heap.get? b=Y o->h'.get? b=Y o)->R (.ok<|.ret .none) {s with heap:=h',toks:=tk}):
  By (model prog w) A (Builtin.«set.__init__» {[.ref ↑s,.ref l],[]}) (λf s'=>∃r,f= .done (.ret r)/\R (.ok<|.ret r) s') E {s with heap:=s.heap.push (Ni led)}:=by
 let(o,ho,hc,m,hd):=hl;let hS: (s.heap.push<|Ni led).get? ↑s=Y (Ni led):=Bu _ O;let hT:Shared.TypeIs {s with heap:=s.heap.push (Ni led)} (.ref ↑s) "set":={(_),hS,O};let j: (s.heap.push<|Ni led).IsList l items:={o,AF _ ho,hc,m,hd};let b3:Shared.TypeIs {s with heap:=s.heap.push (Ni led)} (.ref l) "list":={_,AF _ ho,hc};let a5:=F.sub_list_set;let a6:=F.sub_list_frozenset;let a9: (DO "list"==DO "dict")=false:=by decide
 unfold Builtin.«set.__init__» noKeywords Builtin.Frozenset.updateFrom;generalize a3:pyIter=PI
 wp_walk
 subst a3;show KZ j ?_;show AG<|wpAny_runValue ?_;let lt:l<↑s:=Be ho;let sz: (s.heap.push<|Ni led).objs.size=↑s+1:=Le ..;show U3 knd ((Walks.list (by simp[hh]) _ l (by rw[sz];show BD<|NV lt) items).toS) ↑s ?_ val hv hb items.size 0 _ () {{_,Bu _ O,O,O},j.push _} ?_ λs' z a2=>?_
 ·simp only[Bf,Cm,or_false,not_or];show{by rw[sz];show BD<|HU _,Mf lt}
 ·show gZ ((setObjOf_fresh (knd:=knd) led).setOf (AF _ hS)<|by unfold YB;lia) (λ_=>rfl) O
 let(h',g',d',D,U):=s';cases (show g'=s.gens from z.gens);cases (show d'=s.drawn from z.drawn);cases (show U=s.os from z.os);show Bm<|Bm {_,O,h h' D a2 λb o e=>?_};let lb:=Be e;show z.heap b o (by simp only[Bf,Cm,or_false,not_or];show{BD lb,by rw[sz];show BD<|NV lb})<|AF _ (AF _ e)
def jS(knd:Ko prog w κ)(hh:A.handled=S)(hl:s.heap.IsList l items)(val:Nat->κ)(hv:∀i v,items[i]?=Y v->knd.is (val i) v=Z/\v.scannable=Z)(hb:items.size+1<YB)(h:∀(h':CB) (tk:Nat),h'.SetOf knd ↑s (λx=>decide (x∈HP val items.size)) (HP val items.size).length->(∀b o,s.heap.get? b=Y o->h'.get? b=Y o)->Q (.ref ↑s) {s with heap:=h',toks:=tk}):
  By (model prog w) A (call (.type "set") [.ref l]) Q E s:=by
 let(_,_,D):=F.called_set.mro;let j:=F.called_set.made;let z:=F.called_set.sub;let h1:=F.called_set.notType;let h2:=F.called_set.canCreate;let a5:=F.typeCall_set_1<|.ref l;let a2:=F.called_set.init.lookup;let a6:=F.called_set.init.bind<|.ref ↑s;show GH<|codeAny_of_tree (Bm (a:=_) {Code.quiet_builtin _ Ab,UD F.entry_type_call ?_});rw[Around.under_plain (weight_type_call_type "set" [.ref l] []) O]
 repeat (any_goals (first|assumption|wp_step))
 show Gy (code_set_new_1 (.ref l) (E:=E) (Q₁:=λv t=>∃led:Bool,v= .ref ↑s/\t={s with heap:=s.heap.push (Ni led)}) λled=>{(led),O,O}) λr t hr=>?_
 match r,hr with
 |.error e,hr=>show hr
 |.ok (.ret v),hr=>
  let(led,O,O):=hr;let hT:Shared.TypeIs {s with heap:=s.heap.push (Ni led)} (.ref ↑s) "set":={_,Bu _ O,O}
  repeat (any_goals (first|assumption|wp_step))
  show Gy (Gz (R:=wants (λr t=>r= .none/\Q (.ref ↑s) t) E) F.called_set.init.plain F.entry_set_init<|check_set_init_1 hT ?_) λU t2 yr=>?_;·let fill:=sI (A:=A.in1.in1) (E:=E) (led:=led) knd (by simp[hh]) hl val hv hb (R:=wants (λr t=>r= .none/\Q (.ref ↑s) t) E) λh' tk a b=>{O,h h' tk a b};show Ee fill (λf t h=>?_) λe t h=>h;let(r,O,hr):=h;show hr
  match U,yr with
  |.error e,yr=>show yr
  |.ok (.ret r),yr=>
   let(O,hq):=yr
   repeat (any_goals (first|assumption|wp_step))
end
section
variable{X:Cx}
def gI{κ:Type} [DecidableEq κ](d:κ)(ks:List κ):Nat:=(HP (λi=>ks.getD i d) ks.length).length
def yH{κ:Type} [DecidableEq κ](d:κ)(ks:List κ):gI d ks<=ks.length:=Vt _ _
def gH{κ:Type} [DecidableEq κ](d:κ)(ks:List κ):gI d ks=ks.length ↔ ks.Nodup:=by
 unfold gI;rw[gh];let at_:∀{i:Nat} (hi:i<ks.length),ks.getD i d=ks[i]:=λ{i} hi=>by rw[Bx,AI hi];rfl
 change _ ↔ ks.Pairwise (·≠ ·);rw[Ig];show{λh i j hi F D=>?_,λh a b z U=>?_};·rw[<-at_ hi,<-at_ F];show h i j D F
 rw[at_ (Mg z U),at_ U];show h a b _ _ z
def wM{κ:Type} [DecidableEq κ](K:AB)(mk:κ->V)(d:κ)(t:TE):TE:=λσ H Q=>t σ H λx H1=>∃(p:AH) (ks:List κ),x= .ref p/\Cg K H1 p (ks.map mk)/\ks.length<=100/\Q (.int (gI d ks:Int)) H1
def aq{κ:Type} [DecidableEq κ]{mk:κ->V}(d:κ)(knd:Ko X.prog X.w κ)(hk:∀k v,CK (mk k) v->knd.is k v=Z/\v.scannable=Z){e:Expr}{te:TE}{x y:AT}{p1 p2 pos j:Ij}(hc:X.calm=Z)(he:PE X e te)(hg:Gl X x)(hm:X.mg x=S)(hv:Cf x=Y (.builtin "len"))(a7:Gl X y)(a5:X.mg y=S)(a2:Cf y=Y (.type "set"))(hn:↑(x≠ "__name__"))(a8:↑((x==("__debug__" :AT))=false))(a4:↑(y≠ "__name__"))(a1:↑((y==("__debug__" :AT))=false))(hs: ~~~(Bs [e] X.env=[(ge,Dw e X.env)])):
  PE X (.Call (.Name x p1) [.Call (.Name y p2) [e] [] j] [] pos) (wM X.K mk d te):=by
 intro 0 Q I h;show CQ<|OX I hg hm hv ?_ hn a8;show Kj (e:=.Call (.Name y p2) [e] [] j) (rest:=[]) ?_;change By _ _ (spliced ((ge,Dw (.Call (.Name y p2) [e] [] j) X.env)::[])) _ _ s;show JS ?_;show CQ<|OX I a7 a5 a2 ?_ a4 a1;show Hw (e:=e) (rest:=[]) ?_ (by rw[hs];rfl);rw[hs];change By _ _ (spliced ((ge,Dw e X.env)::[])) _ _ s;show JS<|DQ (he pZ s σ H _ I h) λu s1 U=>?_;let(v,H1,I1,r1,p,ks,ev,hq,hl,q):=U;show QK ?_;subst ev;cases r1;let(D,r',pl,hz):=I1.list hq;let z:D.length=ks.length:=by rw[<-r'.length,Ay]
 let big: (102:Nat) <YB:=by decide
 show jS knd (I1.ok.hd hc) pl.isList (λi=>ks.getD i d) (λi v hv=>?_) (by simp only[Bj];lia) λh' tk hS a6=>?_
 ·let F:D[i]?=Y v:=by simpa using hv
  let hi:i<ks.length:=by rw[<-z];show(AO.mp F).1
  let(u,hu,ru):=r'.get (show(ks.map mk)[i]?=Y (mk<|ks.getD i d)by rw[AQ,Bx,AI hi];rfl);rw[F]at hu;cases hu;show hk _ _ ru
 let(o,es,ep,t,ho,hex,hd,_,_,_,hf,hsz):=hS;show QK ?_;let es':es.size=gI d ks:=by rw[hsz];unfold gI;simp only[Bj,z]
 let b6:=yH d ks;show call_len_set (s:={s1 with heap:=h',toks:=tk}) ho hex hd hf () ?_;show{.int (gI d ks:Int),H1,I1.kept (t':=tk+1+1) a6,{tk+1,by rw[es']},q}
def fC(k:Int)(v:AC)(h:CK (.int k) v): (intKind prog w).is k v=Z/\v.scannable=true:=by let(t,O):=h;show{intKind_is _ _ _ _,O}
def fB(k:AT)(v:AC)(h:CK (.str k) v): (PySem.strKind prog w).is k v=Z/\v.scannable=true:=by let(t,O):=h;show{strKind_is _ _ _ _,O}
end
section
variable{X:Cx}
def QC(hc:X.calm=Z):Gf X (.builtin "min") (λxs H Q=>∃(p:AH) (ns:List Int),xs=[.ref p]/\Cg X.K H p (ns.map V.int)/\0<ns.length/\∀M,M∈ns->(∀a∈ns,M<=a)->Q (.int M) H):=by
 intro 0 xs us Q I r h;let(p,ns,O,hq,D,q):=h;let(u,O,U):=KB r;cases U;let(a2,r',pl,hz):=I.list hq;let hi:=Xu r';let F:=pl.isList;let(ys,e):=hi.allInts.items;let z:ns=ys.toList.map (·.1):=by rw[<-hi.numsOf,<-nums_intItems,<-e]
 let hsz:0<ys.size:=by have:=D;rw[z,Ay,Gp]at this;show this
 rw[e]at F;show min_intList (I.ok.hd hc) F hsz λv h' tk hv hk=>?_;let(t,O):=intItems_at hv;let(h1,h2):=argBest_lt (numAt ys)<|ys.size - 1;show{.int _,H,I.kept (t':=tk) hk,{(t),O},q _ ?_ λa ha=>?_}
 ·rw[z,numAt_eq];show getD_mem (by rw[Ay,Gp];lia)
 rw[z]at ha;let(j,hj,O):=mem_getD ha;rw[Ay,Gp]at hj;rw[<-numAt_eq];show h2 j ()
end
end L2
namespace L2
open PySem PySem.Spec PyProof.Rows
def jR(c:AH)(q:AT):HO:=.ext λh=>h.CodeRec (.ref c) q
def pz(f:AH)(ob:Obj):HO:=.ext λh=>h.get? f=Y ob
section
variable{P:Bn}{w:BP}{H:Hp}{h:CB}
def yM(x:h.CodeRec (.ref c) q):Dd P w H h c (jR c q):=by
 show{x,?_,?_};·let(c',oc,vs,t,e,j,_):=x;cases e;show{(_),j}
 rintro h1 h2 ⟨c',oc,vs,t,e,j,hd,z⟩ k;cases e;show{_,oc,vs,t,O,k _ j,hd,z}
def ma(x:h.get? f=Y ob):Dd P w H h f (pz f ob):={x,{(_),x},λh1 h2 e k=>k _ e}
def vt(ok:Jv P w H h)(e:H c=Y (jR c q)):h.CodeRec (.ref c) q:=(show Dd P w H h c (jR c q)from ok c _ e).1
def uN(ok:Jv P w H h)(e:H f=Y (pz f ob)):h.get? f=Y ob:=(show Dd P w H h f (pz f ob)from ok f _ e).1
end
def LG(H:Hp)(T:AH)(pos:Ij)(q:AT):Prop:=H T=Y (.tbl #[])\/∃c,H T=Y (.tbl #[Nz pos.line,Nz pos.col,.ref c])/\H c=Y (jR c q)
def be(T:AH)(H H':Hp):Prop:=∀b o,b≠T->H b=Y o->H' b=Y o
section
variable{P:Bn}{w:BP}{H:Hp}{h h':CB}{T c f:AH}{ps:Array AC}{oc of:HO}{fs:List AH}
def A8(kx:∀b o,b≠T->h.get? b=Y o->h'.get? b=Y o)(U:H T=Y (.tbl #[]))(eT:∃o,h'.get? T=Y o)(hc:h.objs.size<=c)(hf:h.objs.size<=f)(D:H c=S)(j:H f=S):
  Un fs [] H (upd (upd (upd H T<|.tbl ps) c oc) f of) h h':=by
 let nT:∀b,H b=S->b≠T:=λb n e=>by rw[e,U]at n;cases n
 let new:∀b o,b≠T->H b=Y o->upd (upd (upd H T<|.tbl ps) c oc) f of b=Y o:=λb o n e=>by
  rw[AM (BB e j),AM<|BB e D,AM n];show e
 let tT:∀b o,H b=Y o->(∀qs,o≠ .tbl qs)->b≠T:=λb o e n z=>by rw[z,U]at e;show n _ (AE e).symm
 show{λb o e n _ _=>kx b o (nT b n) e,λb o e n _ _=>{o.slots,kx b o (nT b n) e},λb o e n _=>?_,λb o e _=>?_,λb xs e=>new b _ (tT b _ e λ_ z=>by cases z) e,λb o u e=>new b _ (tT b _ e λ_ z=>by cases z) e,λb qs e=>?_};·let lt:=Be e;rw[AM (BD<|BK lt hf),AM<|BD (BK lt hc),AM<|nT b n];show n
 ·by_cases F:b=T
  ·rw[F];show eT
  show{o,kx b o F e}
 by_cases F:b=T;·subst F;rw[U]at e;cases e;show{ps,?_};rw[AM (BB U j),AM<|BB U D,Az];simp
 show{#[],by rw[new b _ F e];simp}
def yt(ok:Jv P w H h)(kx:∀b o,b≠T->h.get? b=Y o->h'.get? b=Y o)(hT:H T=Y (.tbl #[]))(eT:h'.get? T=Y {cls:=.none,data:=.fields ps})(a2:H c=S)(a1:H f=S)(a5:c≠f)(F:∀H:Hp,Dd P w H h' c oc)(D:∀H:Hp,Dd P w H h' f of):Jv P w (upd (upd (upd H T<|.tbl ps) c oc) f of) h':=λb o e=>by
 let new:∀b o,b≠T->H b=Y o->upd (upd (upd H T<|.tbl ps) c oc) f of b=Y o:=λb o n e=>by
  rw[AM (BB e a1),AM<|BB e a2,AM n];show e
 let j:∀b o,H b=Y o->(∀qs,o≠ .tbl qs)->b≠T:=λb o e n z=>by rw[z,hT]at e;show n _ (AE e).symm
 by_cases hf:b=f;·subst hf;rw[Az]at e;cases e;show D _
 rw[AM hf]at e;by_cases hc:b=c;·subst hc;rw[Az]at e;cases e;show F _
 rw[AM hc]at e;by_cases hb:b=T;·subst hb;rw[Az]at e;cases e;show eT
 rw[AM hb]at e;show(ok b o e).stay (λx u U q=>kx x u ?_ q) (λx q=>new x _ (j x _ q λ_ z=>by cases z) q) λx xs q=>new x _ (j x _ q λ_ z=>by cases z) q;rcases U with rfl|U;·show hb
 show j x _ U λ_ z=>by cases z
end
section
variable{X:Cx}{c T:AH}{params:JW}{body:Expr}{scope:Scope}{pos:Ij}
inductive Y9(T:AH)(pos:Ij)(q:AT)(params:JW)(body:Expr)(scope:Scope)(pm:AC)(H:Hp)(Q:VK):Prop|mk (_:LG H T pos q) (_:∀f c' ctv H',H f=none->be T H H'->LG H' T pos q->H' c'=some (jR c' q)->H' f=some (pz f<|IL "<lambda>" q params body scope [] pm c' ctv)->Q (.ref f) H')
def Q8(T:AH)(pos:Ij)(q:AT)(params:JW)(body:Expr)(scope:Scope)(pm:AC):TE:=λ_ H Q=>Y9 T pos q params body scope pm H Q
def oj(a6:defaultsOf params X.env=([],[]))(a7:closureFor scope X.env=Ic [])(z:X.env.code= .ref c)(C:MO X.base c T)(hB:X.base.BuiltinsAt X.mg T):
  PE X (.Lambda params body scope pos) (Q8 T pos (X.env.qual++ "<lambda>") params body scope<|(X.mg "__name__").getD .none):=by
 rintro pZ s σ H Q I ⟨hl,q⟩;show PySem.W.kla_eval a6 ?_;let hg:s.heap.Ns BY X.mg:=I.ok.mod.glob.keeps I.bk;let Cs:MO s.heap c T:=C.keeps I.bk;let hb:s.heap.BuiltinsAt X.mg T:=let ⟨bm,o,h1,h2,h3,h4,h5,r⟩:=hB;{bm,o,h1,h2,h3,h4,I.bk _ _ h5,r};rcases hl with U|⟨c',U,F⟩
 ·let eT:s.heap.get? T=Y (SD #[]):=I.hok T _ U;let b4:BY≠T:=λe=>by
   let(o,es,ep,ho,hd,_):=hg;rw[e,eT]at ho;cases ho;cases hd
  show PySem.W.kla_makeFunction a7 I.ok.glob hg z Cs eT trivial O b4 hb λc' ctv h' tk hx a2 a4 a3 b2=>?_;let D:H c'=none:=I.hok.fresh a2;let a5:↑s<=h'.objs.size:=AU a2<|GU a4;let j:H h'.objs.size=none:=I.hok.fresh a5;let kx:∀b o,b≠T->s.heap.get? b=Y o->(h'.push<|IL "<lambda>" (X.env.qual++ "<lambda>") params body scope [] ((X.mg "__name__").getD .none) c' ctv).get? b=Y o:=λb o n e=>AF _<|hx b o n e;let a8:=AF (IL "<lambda>" (X.env.qual++ "<lambda>") params body scope [] ((X.mg "__name__").getD .none) c' ctv) b2;let a1:c'≠h'.objs.size:=BD a4;let b0:T≠h'.objs.size:=BB U j;let b1:T≠c':=BB U D;let(c2,oc,vs,t,e2,b3,hd,hv):=a3;cases e2;show{.ref h'.objs.size,_,I.un (t':=tk) (A8 kx U {(_),a8} a2 a5 D j)<|yt I.hok kx U a8 D j a1 (λ_=>yM (q:=X.env.qual++ "<lambda>") {c',oc,vs,t,O,AF _ b3,hd,hv}) (λ_=>ma<|Bu _ O),O,q _ c' ctv _ j (λb o n e=>?_) (.inr {c',?_,?_}) ?_ Az}
  ·rw[AM (BB e j),AM<|BB e D,AM n];show e
  ·rw[AM b0,AM b1,Az];rfl
  ·rw[AM a1,Az]
  rw[AM a1,Az]
 let eT:s.heap.get? T=Y (SD #[Nz pos.line,Nz pos.col,.ref c']):=I.hok T _ U;show PySem.W.kla_makeFunctionHit (cv:=.ref c') a7 I.ok.glob hg z Cs eT trivial (by simp[codeAmong,Nz]) hb λctv h' tk hk hsz=>?_;let j:H h'.objs.size=none:=I.hok.fresh hsz;let kk:∀b o,s.heap.get? b=Y o->(h'.push<|IL "<lambda>" (X.env.qual++ "<lambda>") params body scope [] ((X.mg "__name__").getD .none) c' ctv).get? b=Y o:=λb o e=>AF _<|hk b o e;show{.ref h'.objs.size,_,I.laid (t':=tk) kk hsz<|ma (Bu _ O),O,q _ c' ctv _ j (λb o n e=>?_) (.inr {c',?_,?_}) ?_ Az}
 ·rw[AM (BB e j)];show e
 ·rw[AM (BB U j)];show U
 ·rw[AM (BB F j)];show F
 rw[AM (BB F j)];show F
end
def Paired.perm{U F:Type}{R:U->F->Prop}{m m':List F}(p:m.Perm m'):∀{l:List U},Paired R l m->∃j,j.Perm l/\Paired R j m':=by
 induction p with
 |nil=>show λ{l} r=>{l,.refl _,r}
 |cons x p ih=>
  intro l r;cases r with
  |cons a t=>
   let(j,p',r'):=ih t;show{_::j,p'.cons _,.cons a r'}
 |swap x y t=>
  intro l r;cases r with
  |cons a r=>
   cases r with|cons b r=>show{_::_::_,.swap ..,.cons b<|.cons a r}
 |trans p q D z=>
  intro l r;let(l1,p1,r1):=D r;let(l2,p2,r2):=z r1;show{l2,p2.trans p1,r2}
abbrev KP:Int×V->Int×AC->Prop:=λp q=>p.1=q.1/\CK p.2 q.2
def qU:∀(ks:List Int) {xs:List V} {vs:List AC},Co xs vs->Paired KP (ks.zip xs) (ks.zip vs)|[],_,_,_=>.nil|_::_,_,_,.nil=>.nil|k::ks,_,_,.cons a r=>.cons {(O),a}<|qU ks r
def lN:∀{qs:List (Int×V)} {ps:List (Int×AC)},Paired KP qs ps->Co (qs.map SK) (ps.map SK)|_,_,.nil=>.nil|_,_,.cons a r=>.cons a.2<|lN r
def uw:∀{qs:List (Int×V)} {ps:List (Int×AC)},Paired KP qs ps->qs.map Prod.fst=ps.map Prod.fst|_,_,.nil=>rfl|_,_,.cons a r=>by rw[AV,AV,a.1,uw r]
def Vv(ks:List Int)(xs ys:List V):Prop:=∃qs:List (Int×V),qs.Perm (ks.zip xs)/\ys=qs.map SK/\qs.Pairwise λp q=>p.1<=q.1
section
variable{X:Cx}{params:JW}{scope:Scope}{y fld q:AT}{yp ap:Ij}{pm:AC}
abbrev O6(y fld:AT)(yp ap:Ij):Expr:=.Attribute (.Name y yp) fld ap
structure zY(params:JW)(scope:Scope)(y fld q:AT)(yp ap:Ij):Prop where
 bind:∀pm cd ctv v,bindArgs (PySem.W.kla_fn "<lambda>" q params (O6 y fld yp ap) scope [] pm cd ctv) {[v],[]}=Ic [(y,v)]
 co:scope.isCoroutine=ge
 gen:scope.isGenerator=ge
 kind:scope.kind= .function
 cell:∀x∈scope.names,x.2≠ .cell
 loc:scope.names.lookup y=Y .local
 ab:∀env t,HJ (.Name y yp) fld env t=t
 nd: (y==("__debug__" :AT))=ge
def cY(hL:zY params scope y fld q yp ap)(a5:X.A.depth<Yd){pZ:List (AH×Obj)}{σ:St}{H:Hp}{s:AK}{Q:VK}{l f c:AH}{xs:List V}{ks:List Int}{ctv:AC}(I:Ch X pZ σ H s)(hl:H l=Y (.lst xs))(d3:xs.length<64)(b6:ks.length=xs.length)(hx:∀(i:Nat) (v:V) (k:Int),xs[i]?=Y v->ks[i]?=Y k->∃a C dx fs,v= .ref a/\H a=Y (.ins C dx fs)/\QX X.K C/\Hy X.K C fld/\fs.lookup fld=Y (.int k))(hf:H f=Y (pz f<|IL "<lambda>" q params (O6 y fld yp ap) scope [] pm c ctv))(hc:H c=Y (jR c q))(h:∀D ys,H D=S->Vv ks xs ys->Q (.ref D) (upd H D<|.lst ys)):
  By (model X.prog X.w) X.A (call (.builtin "sorted") [.ref l] [(BV "key",.ref f)]) (EP X pZ σ Q) X.xe s:=by
 let(m,hn,_):=id I.loc;let(c5,r,pl,hz):=I.list<|Cg.of hl;let U:=r.length;let a4:∀{b:AH} {o:HO},H b=Y o->b≠X.env.locals:=λe=>BB e I.free;let a8:∀b o,X.base.get? b=Y o->b≠X.env.locals:=λb o e=>BD<|BK (Be e) (AU I.ok.bsz I.ok.above);let a6:∀h':CB,(∀b o,b≠X.env.locals->s.heap.get? b=Y o->h'.get? b=Y o)->Jv X.prog X.w H h':=λh' kk b u e=>
  (I.hok b u e).stay (λx v j z=>kk x v (by
   rcases j with rfl|j;·show a4 e
   show a4 j) z) (λ_ z=>z) λ_ _ z=>z
 show PyProof.Rows.ksk_sorted (b:=ge) (f:=.ref f) (m:=m) (L:=X.env.locals) (h₀:=Att.noObjs s.heap) (news:=Att.ledger s.heap X.env.locals X.env.locals) (vs:=c5) (kz:=ks) (Att.fr_all hn) (λp hp=>{(Att.mem_ledger.mp<|show(p.1,p.2)∈_ from hp).2.2,(Att.mem_ledger.mp<|show(p.1,p.2)∈_ from hp).1,Att.noObjs_get _ _}) pl.isList (by rw[b6,U]) (by rw[<-U];show d3)
  (ksk_s1 _ _) (λx=>ksk_l1 _ _) (λx=>ksk_t1 _ _) (λi v k hv hk h1 tk own F1 N1=>?_) λD h1 tk a7 n F1 N1 c9 b4=>?_
 ·let kk:∀b o,b≠X.env.locals->s.heap.get? b=Y o->h1.get? b=Y o:=λb o n e=>(N1 (b,o)<|CC _ (Att.mem_ledger.mpr {(n),n,e})).1;let a1:=a6 h1 kk;let b1:X.K.In h1:=I.ok.mod.kin.keeps λb o e=>kk b o (a8 b o e)<|I.bk b o e;let a9:h1.NoLimit:=I.ok.mod.nolimit.keeps λb o e=>kk b o (a8 b o e)<|I.bk b o e;let hi:i<xs.length:=by rw[U];show(AO.mp hv).1
  obtain⟨x,b2⟩:∃x,xs[i]?=Y x:={_,AI hi};let(u0,b3,rx):=r.get b2;rw[hv]at b3;cases b3;let(a,C,dx,fs,O,ha,cC,nA,d0):=hx i x k b2 hk;obtain rfl:v=Value.ref a:=rx;show GH<|PySem.W.kla_callFunE a5 (uN a1 hf) O hL.co hL.gen O (vt a1 hc) ?_;rw[hL.bind];show Bm<|wpAny_newFunctionEnv hL.cell (λz hz=>?_) (λh2 c7 c6=>?_) hL.kind;·rw[Bc.mp hz];show hL.loc
  let a2:∀b o,h1.get? b=Y o->h2.get? b=Y o:=λb o e=>c6.extBut b o (BD<|Be e)<|AF _ e;show{a9.keeps a2,PySem.W.kla_codeExpr<|db (hL.ab _ _) (wpAny_Name (wpAny_loadName_local hL.kind hL.loc c7 (show _=Y (Value.ref a)by simp[Ew]) ?_) hL.nd)};let(mA,Oq,rO,_,_,_):=PL (a1.kept a2) ha;let(u,hu,ru):=KS.some_of (v:=.int k) (o:=mA fld) (by rw[<-d0];show rO fld);let(t,O):=(show ∃t,u=Mc k t from ru);show lZ (b1.keeps a2) Oq (cC.get fld) cC.hd nA hu O {h2,_,t,O,O,F1.kept a2,N1.grown a2}
 let kk:∀b o,b≠X.env.locals->s.heap.get? b=Y o->h1.get? b=Y o:=λb o n e=>(N1 (b,o)<|.tail _ (Att.mem_ledger.mpr {(n),n,e})).1;let hD:=N1 (D,seqObj "list" a7 n)<|.head _;let c1:s.heap.get? D=none:=by cases e:s.heap.get? D with|none=>rfl|some o=>show A1Q (c9 (D,o)<|Att.mem_ledger.mpr {(hD.2.1),hD.2.1,e})<|EQ _
 let F:H D=none:=by
  cases e:H D with
  |none=>rfl
  |some u=>
   let(o,z):=(I.hok D u e).some_of;rw[c1]at z;cases z
 let(ps,pp,po,c4):=b4;let(qs,pq,rq):=Paired.perm pp.symm<|qU ks r;let vq:=lN rq;let srt:qs.Pairwise λp q=>p.1<=q.1:=by let z: (ps.map Prod.fst).Pairwise (·<= ·):=JH.mpr (c4.imp λh=>by simpa using h);rw[<-uw rq]at z;show JH.mp z
 let b0: (qs.map SK).length=xs.length:=by rw[Ay,pq.length_eq,List.length_zip,b6,Nat.min_self]
 show{.ref D,upd H D<|.lst (qs.map SK),?_,O,h D _ F {(qs),pq,O,srt}};show I.step (g':=s.gens) (d':=s.drawn) (t':=tk) (ch:=[]) (λ_ z=>nomatch z) (λb o nl _ _ e _=>kk b o nl e) (λb o nl _ _ e _=>{o.slots,kk b o nl e}) (λb o _ e nb=>?_) (λb o _ e=>?_) (λb ys e=>by rw[AM (BB e F)];show e) (λb o u e=>by rw[AM (BB e F)];show e) (λb ps e=>{#[],by rw[AM (BB e F),e];simp}) (λm' c8=>?_) (λb u e=>?_) I.bare;·rw[AM λz=>by rw[z,c1]at e;cases e];show nb
 ·by_cases hb:b=X.env.locals
  ·let(o',_,_,e',_):=F1.ns;show{o',by rw[hb];show e'}
  show{o,kk b o hb e}
 ·let(o,es,ep,ho,hd,hk,d1):=hn;let(o',es',f1,b5,b8,f0,b7):=c8;rw[ho]at b5;cases b5;rw[hd]at b8;cases b8;have:m'=m:=funext λx=>(b7 x).symm.trans<|d1 x;rw[this];show F1.ns
 by_cases hb:b=D
 ·subst hb;rw[Az]at e;cases e;show{by rw[b0,Ht];lia,a7.toList,n,?_,?_}
  ·rw[po];show vq
  have:=hD.1;simpa [seqObj]using this
 rw[AM hb]at e;show(I.hok b u e).stay (λx v j z=>kk x v ?_ z) (λx z=>by rw[AM (BB z F)];show z) λx ys z=>by rw[AM (BB z F)];show z
 rcases j with rfl|j;·show a4 e
 show a4 j
def LG.tbl(h:LG H T pos q):∃ps,H T=Y (.tbl ps):=by
 rcases h with h|⟨c,h,_⟩;·show{(_),h}
 show{(_),h}
def LG.ne(h:LG H T pos q)(e:H b=Y o)(n:∀ps,o≠ .tbl ps):b≠T:=λz=>by
 let(ps,h):=h.tbl;rw[z,h]at e;show n ps (AE e).symm
noncomputable def rA(K:AB)(T:AH)(j:Ij)(q fld:AT)(te:TE):TE:=λσ H Q=>te σ H λx H1=>LG H1 T j q/\∃l xs ks,x= .ref l/\H1 l=Y (.lst xs)/\xs.length<64/\ks.length=xs.length/\(∀(i:Nat) (v:V) (k:Int),xs[i]?=Y v->ks[i]?=Y k->∃a C dx fs,v= .ref a/\H1 a=Y (.ins C dx fs)/\QX K C/\Hy K C fld/\fs.lookup fld=Y (.int k))/\∀D ys H3,H1 D=S->be T H1 H3->LG H3 T j q->H3 D=Y (.lst ys)->Vv ks xs ys->Q (.ref D) H3
def jg(he:PE X e te)(hg:Gl X "sorted")(hm:X.mg "sorted"=S)(b3:defaultsOf params X.env=([],[]))(c1:closureFor scope X.env=Ic [])(b0:X.env.code= .ref c)(C:MO X.base c T)(hB:X.base.BuiltinsAt X.mg T)(hL:zY params scope y fld (X.env.qual++ "<lambda>") yp ap)(a9:X.A.depth<Yd)(b2: ~~~(Bs [e] X.env=[(ge,Dw e X.env)])):
  PE X (.Call (.Name "sorted" p) [e] [{Y "key",.Lambda params (O6 y fld yp ap) scope j,kpos}] pos) (rA X.K T j (X.env.qual++ "<lambda>") fld te):=by
 intro 0 Q I h;show CQ (OX I hg hm (show Cf "sorted"=Y (.builtin "sorted")by decide+kernel) ?_);let U:Ef pos (Bs [e] X.env)=(ge,Dw e X.env)::Ef pos (Bs [] X.env):=by rw[b2];rfl
 show PyProof.Rows.callWith_kw (e:=e) (rest:=[]) ?_ U (by rw[U];rfl);let c8:PA X [e] (VU te bw):=AY he Ed b2;show DQ (c8 pos pZ s σ H (λvs H1=>match vs with
  |[x]=>LG H1 T j (X.env.qual++ "<lambda>")/\∃l xs ks,x= .ref l/\H1 l=Y (.lst xs)/\xs.length<64/\ks.length=xs.length/\(∀(i:Nat) (v:V) (k:Int),xs[i]?=Y v->ks[i]?=Y k->∃a C dx fs,v= .ref a/\H1 a=Y (.ins C dx fs)/\QX X.K C/\Hy X.K C fld/\fs.lookup fld=Y (.int k))/\∀D ys H3,H1 D=S->be T H1 H3->LG H3 T j (X.env.qual++ "<lambda>")->H3 D=Y (.lst ys)->Vv ks xs ys->Q (.ref D) H3|_=>False) I h) λus s1 {(vs),H1,I1,r1,q1}=>?_
 match vs,q1,r1 with
 |[x],q1,r1=>
  let(u,O,rx):=KB r1;let(a7,l,xs,ks,O,hl,c4,b9,hx,q):=q1;cases (show u=Value.ref l from rx);let c7:PK X [⟨Y "key",.Lambda params (O6 y fld yp ap) scope j,kpos⟩] (VU (Q8 T j (X.env.qual++ "<lambda>") params (O6 y fld yp ap) scope<|(X.mg "__name__").getD .none) bw):=xD (oj b3 c1 b0 C hB) D7;show DQ (c7 pos pZ s1 σ H1 (λzs H2=>match zs with
   |[.ref f]=>∃c' ctv,H1 f=S/\be T H1 H2/\LG H2 T j (X.env.qual++ "<lambda>")/\H2 c'=Y (jR c'<|X.env.qual++ "<lambda>")/\H2 f=Y (pz f<|IL "<lambda>" (X.env.qual++ "<lambda>") params (O6 y fld yp ap) scope [] ((X.mg "__name__").getD .none) c' ctv)|_=>False) I1 {a7,λf c' ctv H' a1 a2 F a4 a5=>{(c'),ctv,a1,a2,F,a4,a5}}) λws s2 {(zs),H2,I2,r2,q2}=>?_
  match zs,q2,r2 with
  |[.ref f],q2,r2=>
   let(u,O,ru):=KB r2;cases (show u=Value.ref f from ru);let(c',ctv,a1,a2,F,a4,a5):=q2;let kp:∀{b:AH} {o:HO},H1 b=Y o->(∀ps,o≠ .tbl ps)->H2 b=Y o:=λe n=>a2 _ _ (a7.ne e n) e;show cY (ks:=ks) hL a9 I2 (kp hl λ_ z=>by cases z) c4 b9 (λi v k h1 h2=>?_) a5 a4 λD ys hD ho=>?_;·let(a,C,dx,fs,e1,e2,r):=hx i v k h1 h2;show{a,C,dx,fs,e1,kp e2 (λ_ z=>by cases z),r}
   let c3:H1 D=none:=by
    cases z:H1 D with
    |none=>rfl
    |some o=>
     by_cases b4:D=T;·let(ps,ht):=F.tbl;rw[b4,ht]at hD;cases hD
     rw[a2 _ _ b4 z]at hD;cases hD
   show q D ys _ c3 (λb o n eb=>?_) ?_ Az ho;·rw[AM (BB (a2 b o n eb) hD)];show a2 b o n eb
   rcases F with F|⟨c2,F,a6⟩;·show .inl (by rw[AM (BB F hD)];show F)
   show .inr {c2,by rw[AM (BB F hD)];show F,by rw[AM (BB a6 hD)];show a6}
end
end L2
namespace L2
open PySem PySem.W PyProof PyProof.Rows
def W1{z:Type}(N:Nat)(R:z->Prop):KasT z->Prop|.ret a=>R a|.ask i j k=>i<N/\j<N/\∀b,W1 N R<|k b
def Ord(N:Nat)(p:Array Nat):Prop:=p.toList.Perm<|BN N
section
variable{N:Nat}{p:Array Nat}
end
section
variable{prog:Bn}{w:BP}{A:CA}{E:AC->AK->Prop}{s:AK}
end
section
variable{X:Cx}
end
def Jv.untrL(ok:Jv P w H h)(j:H D=Y (.lst ys)):Jv P w (L2.untr H D) h:=λb o q=>by
 let F:b≠D:=by rintro rfl;rw[Mq]at q;cases q
 rw[Eh F]at q;show(ok b o q).stay (λ_ _ _ z=>z) (λc z=>?_) λc xs z=>?_;·rw[Eh (by rintro rfl;rw[j]at z;cases z)];show z
 rw[Eh (by rintro rfl;rw[j]at z;cases z)];show z
section
variable{X:Cx}{pZ:List (AH×Obj)}{σ:St}{H:Hp}{s:AK}
def Ch.hide(I:Ch X pZ σ H s)(U:H D=Y (.lst ys)):∃(j:List AC) (n:Nat),Co ys j/\ys.length<=sizeLine/\Ch X (pZ++[(D,{cls:=.type "list",data:=.seq j.toArray n})]) σ (untr H D) s:=by
 let(hz,j,n,r,e):=I.hok D _ U;let nL:D≠X.env.locals:=λz=>by rw[z,I.free]at U;cases U
 let nF:D∉X.fs:=λz=>by
  let(_,o,ho,_):=I.ok.funs.mem z;have:=I.base.free D o ho (I.ok.frf D z) λy=>I.ok.exfs D y z;rw[U]at this;cases this
 let nn:∀{b:AH},H b=S->untr H D b=none:=λ{b} h=>by
  unfold untr;split;·rfl
  show h
 show{j,n,r,hz,I.ok,I.os,I.bare,{I.base.keep,I.base.slot,λb o e n hx=>nn<|I.base.free b o e n hx,I.base.there,λb xs e=>?_,λb o xs e=>?_,λb ps e=>?_},I.loc,I.cell,nn I.free,λx c e=>nn<|I.freeC x c e,λp F=>?_,I.hok.untrL U,I.len};·have:=I.base.tups b xs e;rw[Eh (by rintro rfl;rw[U]at this;cases this)];show this
 ·have:=I.base.frzs b o xs e;rw[Eh (by rintro rfl;rw[U]at this;cases this)];show this
 ·let(m,this):=I.base.tbls b ps e;show{m,by rw[Eh (by rintro rfl;rw[U]at this;cases this)];show this}
 rcases BE.mp F with F|F;·let(a1,a2,a3):=I.pin p<|CC _ F;show{a1,nn a2,a3}
 rcases BE.mp F with F|F;·let(a1,a2,a3):=I.pin p<|Cj _ F;show{a1,nn a2,a3}
 rw[Bc.mp F];show{e,Mq,nL,nF,λv z=>by cases z}
def Ch.show(I:Ch X pZ σ H s)(hD:H D=Y (.lst ys))(r:Co ys F)(hz:ys.length<=sizeLine)(j:Ch X (pZ++[(D,{cls:=.type "list",data:=.seq F.toArray n})]) σ' H' s'):
  H' D=S/\Ch X pZ σ' (upd H' D<|.lst ys) s':=by
 let(e,h0,nL,nF,_):=j.pin (D,{cls:=.type "list",data:=.seq F.toArray n})<|Cj _ (Cj _<|Bc.mpr O);let up:∀{b:AH} {o:HO},H' b=Y o->upd H' D (.lst ys) b=Y o:=λe=>lP e h0;show{h0,j.ok,j.os,j.bare,{j.base.keep,j.base.slot,λb o e n hx=>?_,j.base.there,λb xs e=>up<|j.base.tups b xs e,λb o xs e=>up<|j.base.frzs b o xs e,λb ps e=>?_},j.loc,j.cell,?_,λx c e=>?_,λp hp=>?_,λb o q=>?_,j.len}
 ·let U:b≠D:=λz=>by
   have:=I.base.free b o e n hx;rw[z,hD]at this;cases this
  rw[AM U];show j.base.free b o e n hx
 ·let(m,z):=j.base.tbls b ps e;show{m,up z}
 ·rw[AM (CL nL)];show j.free
 ·let hc:c≠D:=λz=>by
   have:=I.freeC x c e;rw[z,hD]at this;cases this
  rw[AM hc];show j.freeC x c e
 ·let a4:p.1≠D:=λz=>by
   have:=(I.pin p hp).2.1;rw[z,hD]at this;cases this
  let a5:p∈X.pn++ (pZ++[(D,{cls:=.type "list",data:=.seq F.toArray n})]):=by
   rcases BE.mp hp with h|h;·show CC _ h
   show Cj _<|CC _ h
  let(a1,a2,a3):=j.pin p a5;show{a1,by rw[AM a4];show a2,a3}
 by_cases U:b=D;·subst U;rw[Az]at q;cases q;show{(hz),F,n,r,e}
 rw[AM U]at q;show(j.hok b o q).stay (λ_ _ _ z=>z) (λc z=>up z) λc xs z=>up z
inductive M7(t:TE)(σ:St)(H:Hp)(Q:VK):Prop|mk (D ys:_) (_:H D=some (.lst ys)) (_:t σ (untr H D) λv H'=>H' D=S->Q v (upd H' D<|.lst ys))
def R1(t:TE):TE:=λσ H Q=>M7 t σ H Q
def lx(he:PE X e t):PE X e (R1 t):=by intro 0 Q I h;let(D,ys,z,q):=h;let(a1,n,r,hz,I1):=I.hide z;show DQ (he _ s σ (untr H D) _ I1 q) λu s' j=>?_;let(v,H',I2,F,U):=j;let(h0,I3):=I.show z r hz I2;show{v,_,I3,F,U h0}
end
end L2
namespace L2
open PySem PySem.W PyProof PyProof.Rows PySem.SeqAt
section
variable{X:Cx}
end
end L2
namespace L2
open PySem PySem.W PyProof PyProof.Rows
def V1(h: (DX P w).is k u=Z):CK (kV k) u:=by
 rcases EY h with⟨i,t,rfl,rfl⟩|⟨x,t,rfl,rfl⟩;·show{(t),O}
 show{(t),O}
def KV.at':∀{kvs:List (Hn×V)} {vs:List (Hn×AC)},KV kvs vs->∀(i:Nat) k u,vs[i]?=Y (k,u)->∃v,kvs[i]?=Y (k,v)
 |_,_,.nil,i,k,u,e=>by simp at e
 |_,_,.cons (a:=p) a r,0,k,u,e=>by
  simp at e;let(p1,p2):=p;show{p2,by rw[e]at a;rw[List.getElem?_cons_zero];congr 1;show Prod.ext a.1 O}
 |_,_,.cons a r,i+1,k,u,e=>by
  simp at e;let(v,h):=KV.at' r i k u e;show{v,by simpa using h}
section
variable{X:Cx}
def XO(hc:X.calm=Z):Gf X (.type "list") (λxs H Q=>∃(a:AH) (kvs:List (Hn×V)),xs=[.ref a]/\Rd H a (.dK kvs)/\∀l,H l=S->Q (.ref l) (upd H l<|.lst (kvs.map λkv=>kV kv.1))):=by
 intro 0 xs us Q I r h;let(a,kvs,O,ha,q):=h;let(u,O,ru):=Co.one r;cases (show u= .ref a from ru);let(hz,D,vs,rel,dd):=UC I.hok ha;let(ep,a3):=dd.dictAt;let U:kvs.length=vs.length:=rel.length;show kdl_call (kdl_dict (knd:=DX X.prog X.w) (kvs:=vs) (ep:=ep) D) (I.ok.hd hc) a3 () λh' tk z c' hk hS j=>?_;let F:Co (kvs.map λkv=>kV kv.1) z.toList:=by show kO ((Ay _).trans<|U.trans (j.1.symm.trans Gp.symm)) λi x u e1 e2=>?_;let(k,x',a1,a2):=j.2 i u (by simpa using e2);let(v,hv):=KV.at' rel i k x' a1;rw[AQ,hv]at e1;obtain rfl:kV k=x:=AE e1;show V1 a2
 show{.ref ↑s,_,I.laid (t':=tk) hk (Bh _) (show Dd X.prog X.w _ h' _ (.lst<|kvs.map λkv=>kV kv.1)from{by rw[Ay];show hz,z.toList,c',F,hS}),O,q _<|I.hok.fresh (Bh _)}
end
section
variable{X:Cx}
end
end L2
namespace L2
open PySem PySem.Spec PyProof.Rows
def hV(T:AH)(H:Hp):Prop:=H T=Y (.tbl #[])/\∀b,H b=S\/(∃o xs,H b=Y (.frz o<|.lst xs))\/b=T
def oW{T c:AH}{P:Bn}{w:BP}{K:AB}{mg mb:AT->Option AC}{CX:dE}{k:Nat}{fa a:AH}{fd:Ea}{x:AT}{sp:Sp}{j:AK}{vs:List AC}{ns:List Int}(hT:j.heap.get? T=Y (SD #[]))(c4:K.lookup T=S)(c6:MO j.heap c T)(KX:K.In j.heap)(a9:j.heap.Ns BY mg)(D:j.heap.Ns Pk mb)(c2:∀x:AT,x≠ "__name__" ->mb x=Cf x)(b0:j.heap.NoLimit)(hg:j.gens=#[])(ha:j.heap.get? a=Y {cls:=.type "list",data:=.seq vs.toArray})(hi:IntsAre vs ns)(hl:ns.length<=sizeLine)(hr:EO k TY)(F:∀base:CB,K.In base->base.Ns BY mg->EE P w K mg base CX k fa fd [x] sp)(a5:∀(s:AK) (u:AC),BindsTo s fd {[u],[]} [(x,u)])(b8:∀H:Hp,hV T H->Cg K H a (ns.map V.int)->sp [.ref a] H (λv _=>v= .bl Z) λ_ _ _=>False)(c5:∀H e s',CX.cx [] H j (λ_ _ _=>False) e s'->False)(b9:CX.sm=ge):
  Ie (model P w) TY (.call (.ref fa) {[.ref a],[]}) (λr s'=>r= .ok (.ret<|.bool Z)/\OldK j.heap s'.heap/\s'.os=j.os/\Vg s'.gens) j:=by
 let rv:=ZV hi;let core:∀H:Hp,hV T H->Cg K H a (ns.map V.int)->Jv P w H j.heap->(∀b,H b≠S->b=a\/b=T)->(H a≠S->K.lookup a=S)->Ie (model P w) TY (.call (.ref fa) ⟨[.ref a],[]⟩) (λr s'=>r= .ok (.ret<|.bool Z)/\OldK j.heap s'.heap/\s'.os=j.os/\Vg s'.gens) j:=by
  intro H hO hS hok hA hK;let a1:∀{b:AH} {o:Obj},j.heap.get? b=Y o->H b=S->(cR j.heap H).get? b=Y o:=λe n=>uF e n;let b7:∀{b:AH} {o:Obj} {es:Array DictEntry} {ep:Nat},j.heap.get? b=Y o->o.data= .dict es ep->H b=none:=λ{b o es ep} e d=>by
   cases q:H b with
   |none=>rfl
   |some u=>
    rcases hA b (by rw[q];simp)with e'|e';·subst e';rw[ha]at e;cases e;let d':Data.seq vs.toArray _=SR es ep:=d;cases d'
    subst e';rw[hT]at e;cases e;cases d
  let a3:∀{b:AH} {m:AT->Option AC},j.heap.Ns b m->(cR j.heap H).Ns b m:=λ{b m} b1=>(by let(o,es,ep,e,d,r):=b1;show{o,es,ep,a1 e<|b7 e d,d,r});let b3:K.In (cR j.heap H):=λb o e=>a1 (KX b o e) (by
   cases q:H b with
   |none=>rfl
   |some u=>
    rcases hA b (by rw[q];simp)with e'|e';·subst e';rw[hK (by rw[q];simp)]at e;cases e
    rw[e',c4]at e;cases e)
  let hM:Mod K mg (cR j.heap H):={b3,a3 a9,{mb,a3 D,c2},let ⟨mc,h1,h2⟩:=b0;{mc,a3 h1,h2}};let e0:ku P w K mg (cR j.heap H) TY [] j H:={O,hM,λb o e=>xR e,Yk<|pj _ _,trivial,λb D=>A1Q (show b∈ ([]:List AH)from D) (by simp),hok,.of_eq hg};show Gy ((F _ b3<|a3 a9).run TY [] j H {[.ref a],[]} [.ref a] [.ref a] _ _ hr (λ_=>rfl) (λz=>by rw[b9]at z;cases z) e0 (a5 j<|.ref a) (.cons O .nil)<|b8 H hO hS) λr s' h=>?_;cases r with
  |error e=>show(c5 H e s' h).elim
  |ok fl=>
   cases fl with
   |next=>show Cc h|brk=>show Cc h|cont=>show Cc h
   |ret u=>
    let(v,H',os,bare,un,a4,r',q):=h;let q':v= .bl true:=q;subst q';obtain rfl:u=Hz true:=r';show{O,{λb o e=>?_,λb o e=>un.there b o e<|by simp},os,bare};cases q:H b with
    |none=>show .inl (un.keep b o e q (by intro z;show A1Q (show b∈ ([]:List AH)from z)<|by simp)<|by simp)
    |some u=>
     rcases hO.2 b with z|⟨ob,xs,z⟩|z;·rw[q]at z;cases z
     ·let z2:=un.frzs b ob _ z;let(e1,_):=hok b _ z;let(e2,_):=a4 b _ z2;rw[e]at e1;cases e1;show .inl e2
     subst z;let(more,z2):=un.tbls b _ hO.1;let e2:s'.heap.get? b=Y {cls:=.none,data:=.fields (#[] ++more)}:=a4 b _ z2;rw[hT]at e;cases e;show .inr<|.inl {(c6.tab hT).isCodeTable,O,#[],more,O,e2}
 let b2:a≠T:=λz=>by rw[z,hT]at ha;cases ha
 cases hk:K.lookup a with
 |some o=>
  let e:=KX a o hk;rw[ha]at e;cases e;show core (λb=>if b=T then Y (.tbl #[])else S) {A1O O,λb=>?_} (.inr {_,vs.toArray,_,hk,O,O,O,by rw[Bj,hi.length];show hl,by simpa using rv}) (λb u z=>?_) (λb z=>?_) λz=>A1Q (A1N b2) z
  ·by_cases D:b=T
   ·show .inr<|.inr D
   show .inl<|A1N D
  ·by_cases D:b=T
   ·let z':=(A1O D).symm.trans z;cases z';rw[D];show hT
   let z':=(A1N D).symm.trans z;cases z'
  by_cases D:b=T;·show .inr D
  show A1Q (A1N D) z
 |none=>
  show core (λb=>if b=a then Y (.frz {cls:=.type "list",data:=.seq vs.toArray}<|.lst (ns.map V.int))else if b=T then Y (.tbl #[])else S) {?_,λb=>?_} (.inl<|.inr {{cls:=.type "list",data:=.seq vs.toArray},A1O O}) (λb u z=>?_) (λb z=>?_) λ_=>hk
  ·change(if T=a then _ else if T=T then _ else _)=_
   rw[A1N (CL b2),A1O O]
  ·by_cases D:b=a
   ·show .inr<|.inl {_,_,A1O D}
   by_cases U:b=T;·show .inr<|.inr U
   show .inl<|(A1N D).trans (A1N U)
  ·by_cases D:b=a
   ·let z':=(A1O D).symm.trans z;cases z';subst D;show{ha,by rw[Ay];show hl,vs,_,rv,ha}
   by_cases U:b=T;·let z':=((A1N D).trans<|A1O U).symm.trans z;cases z';rw[U];show hT
   let z':=((A1N D).trans<|A1N U).symm.trans z;cases z'
  by_cases D:b=a;·show .inl D
  by_cases U:b=T;·show .inr U
  show A1Q ((A1N D).trans<|A1N U) z
end L2
namespace L2
open PySem PySem.W PyProof PyProof.Rows
def A00{z:Type}(lt:Nat->Nat->Bool):KasT z->z|.ret a=>a|.ask i j k=>A00 lt<|k (lt i j)
section
variable(K:Nat->Int)
structure A1E(N:Nat)(p:Array Nat):Prop where
 ord:Ord N p
 inj:∀i j,i<N->j<N->K i=K j->i=j
variable{K}{N:Nat}{p:Array Nat}
end
section
variable{prog:Bn}{w:BP}{A:CA}{E:AC->AK->Prop}{s:AK}
end
section
variable{X:Cx}
end
end L2
namespace L2
open PySem PySem.W PySem.Spec PyProof.Rows
section
variable{X:Cx}
end
section
variable{prog:Bn}{w:BP}{A:CA}{E:AC->AK->Prop}{s:AK}{l:AH}{vs:List AC}
end
section
variable{X:Cx}
end
section
variable{X:Cx}{params:JW}{scope:Scope}{y fld q:AT}{yp ap:Ij}{pm:AC}
end
section
variable{X:Cx}{e st:Expr}{te tst:TE}{pos p2:Ij}
end
end L2
namespace L2
open PySem PySem.W PyProof PyProof.Rows
end L2
namespace L2
open PySem PySem.Spec PyProof.Rows
section
variable{X:Cx}
end
end L2
namespace L2
open PySem PySem.W PyProof PyProof.Rows PySem.SeqAt
def sqB(z:AT)(v:AC):Bool:=match v with|.str x _=>x==z|_=>ge
def kW:∀{zs:List AT} {us:List AC},Co (zs.map V.str) us->us.length=zs.length/\∀(i:Nat) u,us[i]?=Y u->∃z t,zs[i]?=Y z/\u= .str z t
 |[],_,.nil=>{O,λi u h=>by simp at h}
 |z::zs,_,.cons r t=>by
  let(D,j):=kW t;let(k,e):=r;show{by rw[BJ,BJ,D],λi u h=>?_};cases i with
  |zero=>
   rw[List.getElem?_cons_zero]at h;show{z,k,O,(AE h).symm.trans e}
  |succ i=>show j i u h
section
variable{X:Cx}
def oP:Y3 X "list.index" (λx xs H Q=>∃(l:AH) (zs:List AT) (z:AT) (j:Nat),x= .ref l/\xs=[.str z]/\H l=Y (.lst<|zs.map V.str)/\zs[j]?=Y z/\j<=1000/\(∀i y,i<j->zs[i]?=Y y->y≠z)/\Q (.int (j:Nat)) H):=by
 intro 0 x xs v us Q I rx rv h;let(l,zs,z,j,O,O,hl,hj,b4,a5,q):=h;cases (show v=Value.ref l from rx);let(u,O,ru):=Co.one rv;let(tz,O):=ru;let(_,D,n,r,e):=I.hok l _ hl;let(a2,a3):=kW r;let b2:j<zs.length:=(AO.mp hj).1;let at_:∀(i:Nat) (hi:i<D.toArray.size),∃y,zs[i]?=Y y/\sqB z D.toArray[i]=(y==z):=λi hi=>by
  let a1:i<D.length:=by simpa using hi
  let(y,t,U,e):=a3 i (D[i]'a1)<|AI a1;show{y,U,?_};rw[show D.toArray[i]=D[i]'a1 by simp,e];rfl
 let hsz:D.toArray.size=zs.length:=by rw[<-a2];simp
 show Ma PySem.F.slot_list_index {(_),e,O} PySem.F.entry_list_index (PySem.F.args_list_index_2 _ _) (list_indexAt l _ n S #[] (.str z tz) (sqB z) j () () ?_ (λi hi h=>?_)) {e,λy U=>?_,?_};·let(y,U,e2):=at_ j ();rw[e2];rw[hj]at U;cases U;show beq_self_eq_true z
 ·let(y,U,e2):=at_ i hi;rw[e2];show beq_eq_false_iff_ne.mpr<|a5 i y h U
 ·let a4:y∈D:=by simpa using U
  let(i,hi):=CP.mp a4;let(x,t,_,e3):=a3 i y hi;rw[e3];show EqAt.str_str x t z tz
 show{.int _,H,I.tok _,{(_),O},q}
end
end L2
namespace L2
open PySem PySem.Spec PyProof.Rows
inductive zi(x:V)(y:V)(H:Hp)(Q:VK):Prop|mk (p q xs:_) (_:x= .ref p) (_:y= .ref q) (_:H p=some (.lst xs)) (_:H q=some (.lst [])) (_:Q (.bl<|!xs.isEmpty) H)
def C8:R2:=λx y H Q=>zi x y H Q
section
variable{X:Cx}
def tI(hu:X.A.units+64<SC):MR X (Dh .NotEq) C8:=by
 intro 0 x y v u Q I rx ry h;let(p,q,xs,O,O,hp,U,k):=h;cases rx;cases ry;cases xs with
 |nil=>
  show LX hu pZ s σ H (.ref p) (.ref q) _ _ Q I O O {.list [],.list [],.lst (Cg.of hp) .nil,.lst (Cg.of U) .nil,Aa,Aa,?_};show k
 |cons y ys=>
  let(_,z,n,r,el,hl):=I.lstM hp;let(_,j,n2,r2,F,D):=I.lstM U;let e2:j.length=0:=F.symm;let e1:z.length=ys.length+1:=el.symm;show PySem.SeqAt.RcNeAt.lists_lengths {(_),hl,O,n,O} {(_),D,O,n2,O} ?_ () _ _ _ _ {.bl _,H,I,O,k};rw[Bj,Bj,e1,e2];rfl
end
end L2
namespace L2
def HZ{G:Prop}(h:∀U:Prop,(G->U)->U):G:=h G id
open PySem PySem.Spec PyProof.Rows
section
variable{P:Bn}{w:BP}{K:AB}{mg:AT->Option AC}{base:CB}
def Yx.okXA{x qual:AT}{st:Ih}{f:AH}{fd:Ea}{N ps:List AT}{k:Nat}{sp:Sp}{CX:dE}(F:Yx K x qual st f fd)(Sq:AX N ps (AL st))(j:∀(cdv:AC) (A:CA) (outer:List bo) (s:AK) (H:Hp) (vs:List V) (Q:VK) (E:XK),EO k (A.deeper<|FI qual (AL st) ↑s f cdv)->sp vs H Q E->let X:=UT CX P w K mg base N qual (AL st) f cdv A outer s H E;let D:TX:={nx:=λ_ H'=>Q .non H',rt:=Q};∃t,SS X (Gj st) t/\t D (OA N vs) H)(len:∀vs H Q E,sp vs H Q E->vs.length=ps.length:=by intro _ _ _ _ h;cases h;subst_vars;rfl):EE P w K mg base CX (k+1) f fd ps sp:=F.okX Sq len j
def Yx.okA{x qual:AT}{st:Ih}{f:AH}{fd:Ea}{N ps:List AT}{k:Nat}{sp:Sp}{CX:dE}(F:Yx K x qual st f fd)(Sq:AX N ps (AL st))(j:∀(cdv:AC) (A:CA) (outer:List bo) (s:AK) (H:Hp) (vs:List V) (Q:VK) (E:XK),EO k (A.deeper<|FI qual (AL st) ↑s f cdv)->sp vs H Q E->let X:=(UT CX P w K mg base N qual (AL st) f cdv A outer s H E).nox;let D:TX:={nx:=λ_ H'=>Q .non H',rt:=Q};∃t,SS X (Gj st) t/\t D (OA N vs) H)(len:∀vs H Q E,sp vs H Q E->vs.length=ps.length:=by intro _ _ _ _ h;cases h;subst_vars;rfl):EE P w K mg base CX (k+1) f fd ps sp:=F.ok Sq len j
end
end L2
namespace L2
open PySem PySem.Spec PyProof.Rows HL
section
variable{X:Cx}
def KE(ha:PE X a ta)(j:PE X b tb)(hs:dj b:=by show λ_ _=>rfl):PE X (.Subscript a b pos) (B5 (C9 X.K) ta tb):=Mx lQ ha j hs
def LU(ha:PE X a ta)(j:PE X b tb)(hs:dj b:=by show λ_ _=>rfl):PE X (.Subscript a b pos) (B5 (T1 X.K) ta tb):=Mx G9 ha j hs
def qD(F:EE X.prog X.w X.K X.mg X.base SU k f (EM X.K f) ps sp)(hr:EO j X.A)(D:Dm X.K X.mg x f ps)(ha:PA X (e::es) t)(hk:↑(k<=j))(hg: ~~~(X.env.kindOf x=Y .globalImplicit))(hc: ~~~(X.calm=true))(U:↑((x==("__debug__" :AT))=false))(he: ~~~(Bs (e::es) X.env=(ge,Dw e X.env)::Bs es X.env))(z: ~~~((Ef pos<|Bs es X.env).any (·.1)=false)):
  PE X (.Call (.Name x p) (e::es) [] pos) (kR sp [] E0 t):=KF F (hr.mono hk) D ha hg hc U he z
def qS(i:Nat)(hN:X.N.Nodup)(z:PE X e te)(hi: ~~~(X.N[i]?=Y x))(j:P1 X.env.scope x:=by first|show Ci rfl|show DN rfl)(hs: ~~~(Ol e (Y<|.Name x pos') pos.line X.env=Ic false))(hf:X.fn x=Z\/X.env.scope.names.lookup x=Y .local:=by first|show .inl rfl|show .inr rfl|assumption):
  PS X (.Assign [.Name x pos'] e pos) (C1 te<|uL i):=D4 hN hi j z hs hf
def qc(j:MR X (Dh op) r)(ha:PE X a ta)(z:PE X b tb)(hm:JD op b=false:=by show DW _):PT X (.Compare a [op] [b] pos) (rp<|B5 r ta tb):=Jo j ha z hm
def qB(hc:Gf X (.builtin D) r)(hm:X.mg x=S)(F:Cf x=Y (.builtin D))(ha:PA X (e::es) t)(U: ~~~(Gl X x))(hn:↑(x≠ "__name__"))(z:↑((x==("__debug__" :AT))=false))(he: ~~~(Bs (e::es) X.env=(ge,Dw e X.env)::Bs es X.env))(j: ~~~((Ef pos<|Bs es X.env).any (·.1)=false)):PE X (.Call (.Name x p) (e::es) [] pos) (n8 r t):=tF hc U hm F ha hn z he j
def qT(hc:Gf X (.type T) r)(hm:X.mg x=S)(D:Cf x=Y (.type T))(ha:PA X (e::es) t)(F: ~~~(Gl X x))(hn:↑(x≠ "__name__"))(z:↑((x==("__debug__" :AT))=false))(U: ~~~(Bs (e::es) X.env=(ge,Dw e X.env)::Bs es X.env))(j: ~~~((Ef pos<|Bs es X.env).any (·.1)=false)):PE X (.Call (.Name x p) (e::es) [] pos) (n8 r t):=om hc F hm D ha hn z U j
def Cp(h:PE X e te)(hs: ~~~(Bs [e] X.env=(ge,Dw e X.env)::Bs [] X.env)):PA X [e] (VU te bw):=AY h Ed hs
def Cy(h:PE X e te)(h':PE X f z)(hs: ~~~(Bs [e,f] X.env=(ge,Dw e X.env)::Bs [f] X.env))(j: ~~~(Bs [f] X.env=(ge,Dw f X.env)::Bs [] X.env)):PA X [e,f] (VU te<|VU z bw):=AY h (AY h' Ed j) hs
def qr(j:PE X e te):SS X [.Return (Y e) pos] (B4 te):=BO<|D5 j
def qi(hc:PT X c j)(ha:SS X a t):PS X (.If c a [] pos) (R0 j t zA):=OH hc ha xw
def qp(ts xs:List AT)(js:List Nat)(fr:QV X scope js xs)(hi:PI X target iter wi)(D:∀C s_ H_ fp,PG (XH X (ts++xs) scope C s_ H_ fp) target g)(z:∀C s_ H_ fp,O9 (XH X (ts++xs) scope C s_ H_ fp) ifs tif)(F:∀C s_ H_ fp,PE (XH X (ts++xs) scope C s_ H_ fp) elt te)(hc: ~~~(X.calm=true))(ok:QW X scope:=by show{O,O,Ab,Ab,jK O})(j:∀x∈ts,scope.names.lookup x=Y .local:=by decide+kernel)(hs:∀x,Lc iter X.env x=Ic x:=by intro _;rfl):PE X (.ListComp elt [{target,iter,ifs,0}] scope pos) (rC (qM ts.length js) wi g tif te):=ly hc ok fr j hi D z F hs
def Yv(ts xs:List AT)(js:List Nat)(fr:QV X scope js xs)(hi:PI X target iter wi)(z:∀C s_ H_ fp,PG (XH X (ts++xs) scope C s_ H_ fp) target g)(D:∀C s_ H_ fp,PE (XH X (ts++xs) scope C s_ H_ fp) elt te)(hc: ~~~(X.calm=true))(ok:QW X scope:=by show{O,O,Ab,Ab,jK O})(j:∀x∈ts,scope.names.lookup x=Y .local:=by decide+kernel)(hs:∀x,Lc iter X.env x=Ic x:=by intro _;rfl):PE X (.ListComp elt [{target,iter,[],0}] scope pos) (rC (qM ts.length js) wi g ZX te):=ly hc ok fr j hi z (λ_ _ _ _=>xE) D hs
end
end L2
namespace L2
open PySem PySem.Spec PyProof PyProof.Rows
section
variable{P:Bn}{w:BP}{A:CA}{E:AC->AK->Prop}
def W7{it l:AH}{j:Array AC}(ne:l≠it):∀(n i:Nat) (s:AK) (Q:List AC->AK->Prop),s.heap.IsListIter it l i->s.heap.IsList l j->i+n<=j.size->(∀h',h'.IsListIter it l (i+n)->Heap.SameBut it s.heap h'->Q ((j.toList.drop i).take n) {s with heap:=h'})->By (model P w) A (draw (.ref it) n) Q E s:=by
 intro n;induction n with
 |zero=>
  intro i s Q a b c q;have:=q s.heap a<|Heap.SameBut.refl ..;rw[List.take_zero]at this;show Bm this
 |succ n D=>
  intro i s Q a b c q;let lt:i<j.size:=()
  show AG (wpAny_pyNext_list_item a b (x:=j[i]) (Array.getElem?_eq_getElem lt) λh1 U s1=>AG<|Cw (D (i+1) _ _ U (b.extBut s1.extBut ne) () λh2 F s2=>Bm ?_));let z:=q h2 (by rw[<-Nat.add_assoc,Nat.add_right_comm];show F)<|s1.trans s2;rw[EA (by simpa using lt),List.take_succ_cons]at z;simpa using z
def wG{s:AK}{l:AH}{j:Array AC}{ts:List (Bool× (AC->Sem Unit))}{Q:Unit->AK->Prop}(U:A.handled=S)(z:s.heap.IsList l j)(hn:ts.length=j.size)(D:ts.findIdx? (·.1)=S)(h:∀h',Yp ↑s s.heap h'->By (model P w) A (QY (ts.map (·.2)) j.toList) Q E {s with heap:=h'}):By (model P w) A (unpack (.ref l) ts) Q E s:=by
 let ne:l≠↑s:=by let(o,e,_):=z;show BD<|Be e
 unfold unpack;rw[hn,D];show AG<|Cw ?_;unfold unpackItems notIterableAtAll;show AG<|AG (wpAny_specialOf z.typeIs slot_list_iter.lookup<|Bm ?_);show AG<|Cw (KZ z ?_);show AG (Cw<|W7 ne j.size 0 _ _ {_,Bu _ O,O,O} (z.push _) () λh1 a1 s1=>?_);rw[show List.take j.size (List.drop 0 j.toList)=j.toList by rw[List.drop_zero];show Eo (by simp),A1N (by simp)];show AG (Cw<|wpAny_pyNext_list_end U a1 ((z.push _).extBut s1.extBut ne) (by simp) λh2 e2=>?_);show Bm<|h h2 λb o F e=>e2 b o F<|s1.extBut b o F (AF _ e)
end
section
variable{X:Cx}
inductive N4(K:AB)(n:Nat)(t:pU)(v:V)(σ:St)(H:Hp)(Q:St->Hp->Prop):Prop|mk (a xs:_) (_:v= .ref a) (_:Cg K H a xs) (_:xs.length=n) (_:t xs σ H Q)
def V8(K:AB)(n:Nat)(t:pU):TG:=λv σ H Q=>N4 K n t v σ H Q
def cg{es:List Expr}{k:Nat}{t:pU}{n:Nat}(hc:X.calm=Z)(h:zX X es t)(hn: ~~~((EW es X.env).length=n))(j: ~~~((EW es X.env).findIdx? (·.1)=none)):PG X (.Tuple es k pos) (V8 X.K n t):=by intro 0 v u Q I r hw;let(a,xs,e1,U,hl,hw):=hw;subst e1;cases r;let(D,z,pl,hz):=I.list U;rw[assign_Tuple];show AG (GG<|wG (I.ok.hd hc) pl.isList (by simp[hn,<-hl,z.length]) j λh' F=>?_);let I1:Ch X pZ σ H {s with heap:=h'}:=I.kept (t':=s.toks) λb o e=>F b o (BD<|Be e) e;show h pZ _ σ H xs _ Q I1 (by simpa using z) hw
end
inductive M6(a:AH)(kvs:List (Hn×V))(Q:VK)(y:V)(H:Hp):Prop|mk (k v:_) (_:y=kV k) (_:IQ kvs k=some v) (_:Q v H)
def Q9(a:AH)(kvs:List (Hn×V))(td ty:TE):TE:=λσ H Q=>td σ H λx H1=>x= .ref a/\ty σ H1 λy H2=>M6 a kvs Q y H2
section
variable{X:Cx}{o i:Expr}{pos:Ij}{td ty:TE}{a:AH}{kvs:List (Hn×V)}
def Np(hk:KD X.prog X.w X.K a kvs)(ho:PE X o td)(hi:PE X i ty)(hs:L5 i):PE X (.Subscript o i pos) (Q9 a kvs td ty):=by intro 0 Q I h;let(_,vs,rel,hD):=hk;show kU PySem.F.slot_dict_getitem.lookup hs<|DQ (ho pZ s σ H _ I h) λu s1 z=>?_;let(x,H1,I1,rx,ex,q1):=z;show DQ (hi pZ s1 σ H1 _ I1 q1) λiv s2 j=>?_;let(y,H2,U,ry,q2):=j;let(k,v,ey,hv,q):=q2;subst ex ey;obtain rfl:u=Value.ref a:=rx;let dd:=hD s2.heap U.kIn;let(w',hw,D):=KS.some_of (v:=v) (o:=Yy vs k) (by rw[<-hv];show rel.val k);show{dd.typeIs,wpAny_getItem_of (Xq ry) dd.mapOf hw {v,H2,U.tok _,D,q}}
def pO(z:KD X.prog X.w X.K a kvs)(F:kvs.length<1000):Gf X (.builtin "len") (λxs H Q=>xs=[.ref a]/\Q (.int (kvs.length:Int)) H):=by intro 0 xs us Q I r h;let(O,q):=h;let(u,O,j):=KB r;cases j;let(hs,vs,rel,D):=z;let e:=rel.length;show call_len_dict hs (D s.heap I.kIn) () {.int (kvs.length:Int),H,I.tok _,{s.toks+1,by rw[e]},q}
def Pc:Gf X (.builtin "len") (λxs H Q=>∃(a:AH) (kvs:List (Hn×V)),xs=[.ref a]/\H a=Y (.dK kvs)/\Q (.int (kvs.length:Int)) H):=by intro 0 xs us Q I r h;let(a,kvs,O,e,q):=h;let(u,O,j):=KB r;cases j;show W8 I (.inl e) λt s' z=>{.int (kvs.length:Int),H,z,{(t),O},q}
end
end L2
namespace L2
open PySem PySem.Spec PyProof.Rows
def tE{X:Cx}{scope:Scope}{js:List Nat}{xs ts:List AT}{target iter elt:Expr}{ifs:List Expr}{wi:TI}{g:TG}{tif:TT}{te:TE}{pos:Ij}(hc:X.suit=Z)(ok:QW X scope)(fr:QV X scope js xs)(j:∀x∈ts,scope.names.lookup x=Y .local)(hi:PI X target iter wi)(hg:∀C s_ H_ fp,PG (XH X (ts++xs) scope C s_ H_ fp) target g)(U:∀C s_ H_ fp,O9 (XH X (ts++xs) scope C s_ H_ fp) ifs tif)(he:∀C s_ H_ fp,PE (XH X (ts++xs) scope C s_ H_ fp) elt te)(hs:∀x,Lc iter X.env x=Ic x:=by intro _;rfl):PE X (.ListComp elt [{target,iter,ifs,0}] scope pos) (B9 (qM ts.length js) wi g tif te):=by intro 0 Q I h;rw[eval_ListComp];show wpAny_comprehension_free (use:=S) O hs ok.clos ok.kind ok.names<|DQ (hi pZ s σ H _ I h) λv s1 h1=>DQ h1 λa3 s2 h2=>?_;show gL (Q:=Q) ok fr j hg U he (zW.mono h2 λJ H1 z=>{.inr {(z.1),hc},z.2}) λD C s' H' m' I' hn a1 q=>?_;show{m',hn,λh' F=>?_};let(f0,f1,f2,f3,f4,f5):=a1;show{.ref D,H',I'.turned (t':=s'.toks) (λb o hb e=>(F.2 b hb).trans e) f0 f1 f3 f4 f5,O,q}
section
variable{X:Cx}
def Co.take'{xs:List V}{us:List AC}(h:Co xs us)(k:Nat):Co (xs.take k) (us.take k):=by
 induction h generalizing k with
 |nil=>simp;show .nil
 |cons r rr j=>cases k with
  |zero=>show .nil|succ k=>show .cons r<|j k
def Co.drop'{xs:List V}{us:List AC}(h:Co xs us)(k:Nat):Co (xs.drop k) (us.drop k):=by
 induction h generalizing k with
 |nil=>simp;show .nil
 |cons r rr j=>cases k with
  |zero=>show .cons r rr|succ k=>show j k
inductive wg(x:V)(vs:List V)(H:Hp)(Q:VK):Prop|mk (l:AH) (xs:List V) (k:Nat) (y:V) (_:x= .ref l) (_:vs=[.int (k:Nat),y]) (_:H l=some (.lst xs)) (_:k<=xs.length) (_:xs.length<2000) (_:Q .non (upd H l<|.lst (xs.take k++y::xs.drop k)))
def xp:V->List V->Hp->VK->Prop:=λx vs H Q=>wg x vs H Q
def Tp:x5 X "list.insert" xp:=by
 intro 0 x vs v us Q I rx rv h;let(l,xs,k,y,O,O,hH,hk,hz,q):=h;cases rx;let(u1,D,O,r1,r2):=ee rv;let(t,O):=r1;let(z,j,n,r,hl,e):=I.lstM hH;let hf:Builtin.List.listFitsIndex ((k:Nat):Int)=true:=fitsIndex_both (Yn (by decide: -(2 ^ 63:Int)<=0)<|Int.natCast_nonneg k) (Int.lt_of_lt_of_le (show((k:Nat):Int) <2001 by lia) (by decide: (2001:Int)<=2 ^ 63));let hs:j.toArray.size<=sizeLine:=by rw[Bj,<-hl];show z
 let U:¬ (!Builtin.List.listFitsIndex ((k:Nat):Int))=true:=by rw[hf];show Bo
 obtain⟨x,ex⟩:∃x:Int,x=((k:Nat):Int):={(_),O};rw[<-ex]at hf U ⊢;let m:=PySem.AutoSeq1.list_insert_list_int_val_1 l j.toArray n x t D U hs;show Ma F.slot_list_insert {(_),e,O} F.entry_list_insert (F.args_list_insert_3 _ _ _) m {e,?_};show{.non,_,I.lset (its':=j.take k++D::j.drop k) hH e ?_ ((r.take' k).append<|.cons r2 (r.drop' k)) ?_,O,q}
 ·let e1: (if x<0 then (x+ (j.toArray.size:Int)).toNat else min x.toNat j.toArray.size)=k:=by
   rw[ex,A1N (),Bj,EZ]
   lia
  change(j.toArray.extract 0<|if x<0 then (x+ (j.toArray.size:Int)).toNat else min x.toNat j.toArray.size).push D++j.toArray.extract (if x<0 then (x+ (j.toArray.size:Int)).toNat else min x.toNat j.toArray.size)=(j.take k++D::j.drop k).toArray
  rw[e1];apply Array.toList_inj.mp;simp;show Eo (by simp)
 rw[AS,BJ,Cb,DD,Ht]
 lia
end
end L2
namespace K9
open PySem PySem.W HL L2
def De:Cf "len"=Y (.builtin "len"):=⋯
def AW:Cf "isinstance"=Y (.builtin "isinstance"):=⋯
def K8:Cf "max"=Y (.builtin "max"):=⋯
def jT:Cf "min"=Y (.builtin "min"):=⋯
def vz:Cf "sum"=Y (.builtin "sum"):=⋯
def Nx:Cf "all"=Y (.builtin "all"):=⋯
def K6:Cf "ord"=Y (.builtin "ord"):=⋯
def pP:Cf "sorted"=Y (.builtin "sorted"):=⋯
def HQ:Cf "int"=Y (.type "int"):=⋯
def Sv:Cf "bool"=Y (.type "bool"):=⋯
def EJ:Cf "list"=Y (.type "list"):=⋯
def Pe:Cf "tuple"=Y (.type "tuple"):=⋯
def GF:Cf "str"=Y (.type "str"):=⋯
def vA:Cf "set"=Y (.type "set"):=⋯
def Zx:Cf "ValueError"=Y (.type "ValueError"):=⋯
def fj:AX ["thing"] ["thing"] (AL<|top 18):=Ev
def fm:AX Ac Ac (AL<|top 19):=Ev
def YN:AX ["text","signs"] ["text","signs"] (AL<|top 20):=Ev
def iY:AX ["thing"] ["thing"] (AL<|top 21):=Ev
def Wo:AX ["number"] ["number"] (AL<|top 22):=Ev
def RF:AX ["word","figures"] ["word"] (AL<|top 23):=Ev
def Uv:AX ["line","words"] ["line"] (AL<|top 24):=Ev
def iX:AX ["number"] ["number"] (AL<|top 33):=Ev
def Wn:AX Ad Ad (AL<|top 43):=Ev
def YM:AX ["fields"] ["fields"] (AL<|top 45):=Ev
def Wm:AX ["numbers"] ["numbers"] (AL<|top 46):=Ev
def Qs:AX ["things"] ["things"] (AL<|top 56):=Ev
def Qr:AX ["form","least"] ["form"] (AL<|top 57):=Ev
def PR:AX ["fields"] ["fields"] (AL<|top 58):=Ev
def NI:AX ["form","numbers"] ["form"] (AL<|top 59):=Ev
def Tf:AX Ae Ae (AL<|top 60):=Ev
def iZ:AX Ae Ae (AL<|top 61):=Ev
def fk:AX Ad Ad (AL<|top 62):=Ev
def YO:AX ["field","in_choice"] ["field","in_choice"] (AL<|top 63):=Ev
def UH:AX ["field","weights"] ["field","weights"] (AL<|top 64):=Ev
def Wq:AX Af Af (AL<|top 65):=Ev
def fq:AX Af Af (AL<|top 66):=Ev
def HB:AX ["forms","weights","place","form","fault"] ["forms"] (AL<|top 67):=Ev
def jb:AX ["kind"] ["kind"] (AL<|top 77):=Ev
def ft:AX Ag Ag (AL<|top 78):=Ev
def UI:AX Ah Ah (AL<|top 79):=Ev
def Nj:AX ["field","places","must","code"] ["field","places"] (AL<|top 80):=Ev
def Qq:AX ["form","places","sort"] ["form","places"] (AL<|top 81):=Ev
def Jz:AX ["book","rows","places","place","form"] ["book"] (AL<|top 82):=Ev
def YL:AX Ai Ai (AL<|top 83):=Ev
def iW:AX Ai Ai (AL<|top 84):=Ev
def Wj:AX ["kind","part"] ["kind","part"] (AL<|top 85):=Ev
def NH:AX ["row","places","kind"] ["row","places"] (AL<|top 86):=Ev
def bK:AX ["part"] ["part"] (AL<|top 87):=Ev
def Wl:AX ["word","number"] ["word"] (AL<|top 88):=Ev
def ff:AX ["row"] ["row"] (AL<|top 89):=Ev
def Wi:AX ["tables"] ["tables"] (AL<|top 90):=Ev
def ae:AX ["line","words"] ["line"] (AL<|top 92):=Ev
def Kd:AX ["lines","draft","place","line"] ["lines"] (AL<|top 93):=Ev
def jc:AX Aj Aj (AL<|top 95):=Ev
def fh:AX ["_law_cell","_law_k","_law_number"] ["_law_cell","_law_k"] (AL<|top 96):=Ev
def eZ:AX Ak Ak (AL<|top 97):=Ev
def Py:AX ["_law_base","_law_k","_law_letters","_law_border","_law_at"] ["_law_base","_law_k"] (AL<|top 98):=Ev
def Nk:AX ["_law_number","_law_ahead","_law_way","_law_more","_law_plain","_law_item"] ["_law_number","_law_ahead"] (AL<|top 99):=Ev
def sO:AX Al Al (AL<|top 100):=Ev
def ja:AX ["_law_kind_here","_law_number"] ["_law_kind_here","_law_number"] (AL<|top 101):=Ev
def Px:AX ["_law_forms_here","_law_k","_law_form_here","_law_weights","_law_row"] Am (AL<|top 102):=Ev
def bN:AX ["_law_script","_law_k","_law_last","_law_base","_law_number"] ["_law_script","_law_k","_law_last"] (AL<|top 103):=Ev
def Gs:AX ["_law_script","_law_base","_law_last","_law_forms_here","_law_k","_law_number","_law_place","_law_j","_law_more","_law_kind_here","_law_row"] An (AL<|top 104):=Ev
def bL:AX Ao Ao (AL<|top 105):=Ev
def Iv:AX ["_law_forms_here","_law_turn","_law_found","_law_form_here","_law_fields","_law_number","_law_name","_law_kind_here","_law_must","_law_default_here","_law_at"] ["_law_forms_here","_law_turn"] (AL<|top 106):=Ev
def OE:AX ["_law_e","_law_word","_law_some"] ["_law_e","_law_word"] (AL<|top 107):=Ev
def xj:AX Al Al (AL<|top 108):=Ev
def sM:AX Al Al (AL<|top 109):=Ev
def Fv:AX ["_law_forms_here","_law_lines_here","_law_form_here","_law_words","_law_number","_law_name","_law_kind_here","_law_must","_law_default_here","_law_worth"] ["_law_forms_here"] (AL<|top 110):=Ev
def OD:AX ["_law_word","_law_figures"] Ap (AL<|top 111):=Ev
def bM:AX Ap Ap (AL<|top 112):=Ev
def sQ:AX Aq Aq (AL<|top 113):=Ev
def RG:AX ["_law_words","_law_names","_law_sort","_law_many"] ["_law_words","_law_names"] (AL<|top 114):=Ev
def DF:AX ["_law_words","_law_ahead","_law_forms_here","_law_is_pair","_law_number","_law_code_here","_law_bound_here","_law_must","_law_last","_law_great","_law_most","_law_worth","_law_least","_law_good"] ["_law_words","_law_ahead","_law_forms_here","_law_is_pair"] (AL<|top 115):=Ev
def Gr:AX ["_law_lines_here","_law_names","_law_ahead","_law_lack","_law_is_pair","_law_place","_law_line","_law_words"] Ar (AL<|top 116):=Ev
def Jn:AX ["_law_lines_here","_law_cell","_law_at","_law_words","_law_place","_law_way","_law_some"] ["_law_lines_here","_law_cell"] (AL<|top 117):=Ev
def FP:AX ["_law_lines_here","_law_due","_law_handed","_law_found","_law_e","_law_good"] Ar (AL<|top 118):=Ev
def Jm:AX ["_law_lines_here","_law_many","_law_found","_law_k","_law_words"] ["_law_lines_here","_law_many"] (AL<|top 119):=Ev
def Wp:AX ["_law_thing","_law_e"] Ak (AL<|top 120):=Ev
def Iw:AX ["_law_script","_law_forms_here","_law_tables","_law_lines_here","_law_turn","_law_found","_law_other","_law_row","_law_bent_here","_law_rows","_law_made_here","_law_odd"] An (AL<|top 121):=Ev
def UL:AX ["self","place","why"] ["self","place","why"] (AL<|BZ (top 8) 0):=Ev
def UK:AX ["self","place"] ["self","place"] (AL<|BZ (top 10) 0):=Ev
def Ti:AX As As (AL<|BZ (top 34) 2):=Ev
def YY:AX As As (AL<|BZ (top 34) 6):=Ev
def YT:AX As As (AL<|BZ (top 35) 0):=Ev
def Wu:AX At At (AL<|BZ (top 35) 2):=Ev
def Wv:AX As As (AL<|BZ (top 35) 3):=Ev
def Zb:AX As As (AL<|BZ (top 36) 0):=Ev
def Wz:AX At At (AL<|BZ (top 36) 1):=Ev
def WA:AX As As (AL<|BZ (top 36) 2):=Ev
def YQ:AX As As (AL<|BZ (top 37) 0):=Ev
def Wr:AX At At (AL<|BZ (top 37) 1):=Ev
def Wt:AX As As (AL<|BZ (top 37) 2):=Ev
def bP:AX Au Au (AL<|BZ (top 38) 0):=Ev
def bO:AX As As (AL<|BZ (top 38) 1):=Ev
def YR:AX At At (AL<|BZ (top 38) 4):=Ev
def YS:AX As As (AL<|BZ (top 38) 5):=Ev
def bR:AX Au Au (AL<|BZ (top 39) 0):=Ev
def bQ:AX As As (AL<|BZ (top 39) 1):=Ev
def YU:AX At At (AL<|BZ (top 39) 4):=Ev
def YV:AX As As (AL<|BZ (top 39) 5):=Ev
def bU:AX ["self","item"] ["self","item"] (AL<|BZ (top 40) 0):=Ev
def bT:AX As As (AL<|BZ (top 40) 1):=Ev
def Tg:AX As As (AL<|BZ (top 40) 3):=Ev
def YW:AX At At (AL<|BZ (top 40) 5):=Ev
def YX:AX As As (AL<|BZ (top 40) 6):=Ev
def Wy:AX ["self","name"] ["self","name"] (AL<|BZ (top 41) 0):=Ev
def Wx:AX As As (AL<|BZ (top 41) 1):=Ev
def QQ:AX As As (AL<|BZ (top 41) 3):=Ev
def UJ:AX At At (AL<|BZ (top 41) 5):=Ev
def YZ:AX Av Av (AL<|BZ (top 44) 0):=Ev
def bV:AX Aw Aw (AL<|BZ (top 47) 0):=Ev
def RH:AX As As (AL<|BZ (top 47) 1):=Ev
def PV:AX As As (AL<|BZ (top 49) 0):=Ev
def bW:AX ["self","forms"] ["self","forms"] (AL<|BZ (top 68) 0):=Ev
def Za:AX ["self","choice","name"] ["self","choice","name"] (AL<|BZ (top 69) 0):=Ev
def Ww:AX ["self","rows"] ["self","rows"] (AL<|BZ (top 76) 0):=Ev
def PU:AX As As (AL<|BZ (top 91) 0):=Ev
def LS:AX Ax Ax (AL<|BZ (top 91) 1):=Ev
def Lf:AX Ax Ax (AL<|BZ (top 91) 2):=Ev
def Lg:AX As As (AL<|BZ (top 91) 3):=Ev
def Hb:AX ["self","row","field"] Ax (AL<|BZ (top 91) 4):=Ev
def FL:AX ["self","field","ahead","least"] ["self","field"] (AL<|BZ (top 91) 5):=Ev
def JN:AX As As (AL<|BZ (top 91) 6):=Ev
abbrev TyC(K:Fo)(c:AH):Prop:=∀{H:Hp} {a dx:AH} {fs:List (AT×V)},H a=Y (.ins c dx fs)->IG K H (.ref a) (.ref c)
section
variable{K:Fo}{mg:AT->Option AC}(T:Tx K mg)
include T
theorem Tx.og:specialIn K (.builtin "object.__class__") "__get__"=Y (Y<|.builtin "getset_descriptor.__get__"):=AE<|T.mn (i:=0)
theorem Tx.ot:takesIn K (.builtin "object.__class__")=Y true:=AE<|T.cn (i:=1)
theorem Tx.mP{c:Nat}(i:Nat)(h:LC lL.cl i=Y c):TyC K c:=λe=>.ins e (T.cB i h) (T.cC i h) T.og T.ot<|T.cr i h
theorem Tx.w1:excIn K 31 mG "ValueError.__new__"=true:=KR (f:=id) 4 T.mb O
theorem Tx.Ei:mg "len"=none:=T.y 0 O
theorem Tx.Li:mg "range"=none:=T.y 1 O
theorem Tx.Ba:mg "isinstance"=none:=T.y 2 O
theorem Tx.qR:mg "min"=none:=T.y 4 O
theorem Tx.zp:mg "sum"=none:=T.y 5 O
theorem Tx.Rh:mg "all"=none:=T.y 6 O
theorem Tx.dL:mg "sorted"=none:=T.y 8 O
theorem Tx.Jw:mg "enumerate"=none:=T.y 9 O
theorem Tx.Kr:mg "int"=none:=T.y 10 O
theorem Tx.Vy:mg "bool"=none:=T.y 11 O
theorem Tx.FO:mg "list"=none:=T.y 12 O
theorem Tx.Rg:mg "tuple"=none:=T.y 13 O
theorem Tx.IU:mg "str"=none:=T.y 14 O
theorem Tx.zq:mg "set"=none:=T.y 15 O
theorem Tx.Ot:Dm K mg "is_whole" 196 ["thing"]:=T.d1 0 O λ_ _ _ _ _ _ _=>rfl
theorem Tx.Dl:Dm K mg "is_among" 203 Ac:=T.d3 1 O λ_ _ _ _ _ _ _ _ _=>rfl
theorem Tx.Qk:Dm K mg "is_made_of" 208 ["text","signs"]:=T.d2 2 O λ_ _ _ _ _ _ _ _=>rfl
theorem Tx.IZ:Dm K mg "is_name" 215 ["thing"]:=T.d1 3 O λ_ _ _ _ _ _ _=>rfl
theorem Tx.Qm:Dm K mg "are_unlike" 759 ["things"]:=T.d1 11 O λ_ _ _ _ _ _ _=>rfl
theorem Tx.Rt:L2.Yx K "are_unlike" "are_unlike" (top 56) 759 (EM K 759):=T.df 11 O
theorem Tx.Mn:Dm K mg "is_thing_kind" 783 Ae:=T.d2 15 O λ_ _ _ _ _ _ _ _=>rfl
theorem Tx.VH:Dm K mg "is_kind" 790 Ae:=T.d2 16 O λ_ _ _ _ _ _ _ _=>rfl
theorem Tx.Ql:Dm K mg "is_default" 804 ["field","in_choice"]:=T.d2 18 O λ_ _ _ _ _ _ _ _=>rfl
theorem Tx.ND:Dm K mg "field_weight" 811 ["field","weights"]:=T.d2 19 O λ_ _ _ _ _ _ _ _=>rfl
theorem Tx.Ou:Dm K mg "form_weight" 816 Af:=T.d2 20 O λ_ _ _ _ _ _ _ _=>rfl
theorem Tx.LQ:Dm K mg "need_forms" 828 ["forms"]:=T.d1 22 O λ_ _ _ _ _ _ _=>rfl
theorem Tx.VI:Dm K mg "code_of" 934 ["kind"]:=T.d1 23 O λ_ _ _ _ _ _ _=>rfl
theorem Tx.Up:Dm K mg "bound_of" 941 Ag:=T.d2 24 O λ_ _ _ _ _ _ _ _=>rfl
theorem Tx.Rs:Dm K mg "table_row" 955 ["field","places"]:=T.d2 26 O λ_ _ _ _ _ _ _ _=>rfl
theorem Tx.Qj:Dm K mg "thing_kind" 974 Ai:=T.d3 29 O λ_ _ _ _ _ _ _ _ _=>rfl
theorem Tx.Io:Dm K mg "tables_text" 1019 ["tables"]:=T.d1 36 O λ_ _ _ _ _ _ _=>rfl
theorem Tx.ES:Dm K mg "tables_of" 1092 ["lines"]:=T.d1 38 O λ_ _ _ _ _ _ _=>rfl
theorem Tx.FK:Dm K mg "_law_cell_at" 1099 Aj:=T.d2 39 O λ_ _ _ _ _ _ _ _=>rfl
theorem Tx.Op:Dm K mg "_law_mixed" 1106 ["_law_cell","_law_k"]:=T.d2 40 O λ_ _ _ _ _ _ _ _=>rfl
theorem Tx.Rr:Dm K mg "_law_whole" 1113 Ak:=T.d1 41 O λ_ _ _ _ _ _ _=>rfl
theorem Tx.kK:L2.Yx K "_law_whole" "_law_whole" (top 97) 1113 (EM K 1113):=T.df 41 O
theorem Tx.ZR:Dm K mg "_law_called" 1118 ["_law_base","_law_k"]:=T.d2 42 O λ_ _ _ _ _ _ _ _=>rfl
theorem Tx.VJ:Dm K mg "_law_blank" 1132 Al:=T.d1 44 O λ_ _ _ _ _ _ _=>rfl
theorem Tx.ZQ:Dm K mg "_law_weight" 1144 Am:=T.d2 46 O λ_ _ _ _ _ _ _ _=>rfl
theorem Tx.Nb:Dm K mg "_law_made_kind" 1165 Ao:=T.d2 49 O λ_ _ _ _ _ _ _ _=>rfl
theorem Tx.Mo:Dm K mg "_law_alone" 1177 ["_law_e","_law_word"]:=T.d2 51 O λ_ _ _ _ _ _ _ _=>rfl
theorem Tx.kH:Dm K mg "_law_code" 1184 Al:=T.d1 52 O λ_ _ _ _ _ _ _=>rfl
theorem Tx.dU:Dm K mg "_law_bound" 1191 Al:=T.d1 53 O λ_ _ _ _ _ _ _=>rfl
theorem Tx.Ip:Dm K mg "_law_number_of" 1203 Ap:=T.d1 55 O λ_ _ _ _ _ _ _=>rfl
theorem Tx.Nc:Dm K mg "_law_is_name" 1208 Ap:=T.d1 56 O λ_ _ _ _ _ _ _=>rfl
theorem Tx.Ky:Dm K mg "_law_among" 1215 Aq:=T.d3 57 O λ_ _ _ _ _ _ _ _ _=>rfl
theorem Tx.Kw:Dm K mg "_law_lines_right" 1248 Ar:=T.d1 62 O λ_ _ _ _ _ _ _=>rfl
theorem Tx.zr:L2.Yx K "law" "law" (top 121) 1265 (EM K 1265):=T.df 65 O
theorem Tx.KA:EK K (EM K 108) ["self","place","why"] []:=b3 (T.mf 0 O) λ_ _ _ _ _ _ _ _ _=>rfl
theorem Tx.Kz:EK K (EM K 146) ["self","place"] []:=b2 (T.mf 1 O) λ_ _ _ _ _ _ _ _=>rfl
theorem Tx.Dp:EK K (EM K 271) As []:=b1 (T.mf 2 O) λ_ _ _ _ _ _ _=>rfl
theorem Tx.Rv:EK K (EM K 299) As []:=b1 (T.mf 3 O) λ_ _ _ _ _ _ _=>rfl
theorem Tx.Uq:EK K (EM K 426) Au []:=b2 (T.mf 13 O) λ_ _ _ _ _ _ _ _=>rfl
theorem Tx.Ug:isFn K (.ref 426)=true:=(T.mB2 13 O).2
theorem Tx.Ur:EK K (EM K 533) ["self","item"] []:=b2 (T.mf 20 O) λ_ _ _ _ _ _ _ _=>rfl
theorem Tx.Ui:isFn K (.ref 533)=true:=(T.mB2 20 O).2
theorem Tx.NE:EK K (EM K 554) As []:=b1 (T.mf 22 O) λ_ _ _ _ _ _ _=>rfl
theorem Tx.Qn:EK K (EM K 592) ["self","name"] []:=b2 (T.mf 25 O) λ_ _ _ _ _ _ _ _=>rfl
theorem Tx.Qh:isFn K (.ref 592)=true:=(T.mB2 25 O).2
theorem Tx.Lr:EK K (EM K 613) As []:=b1 (T.mf 27 O) λ_ _ _ _ _ _ _=>rfl
theorem Tx.LR:EK K (EM K 920) ["self","rows"] []:=b2 (T.mf 33 O) λ_ _ _ _ _ _ _ _=>rfl
theorem Tx.LO:isFn K (.ref 920)=true:=(T.mB2 33 O).2
theorem Tx.Uo:fv K 481=fx "__init__" "Text.__init__" (BZ (top 39) 0) (.ref 474):=AE<|T.en (i:=0)
theorem Tx.Uh:isFn K (.ref 481)=true:=(T.kds 0 O).2
theorem Tx.Na:fv K 654=fx "__init__" "Field.__init__" (BZ (top 44) 0) (.ref 647):=AE<|T.en (i:=1)
theorem Tx.MY:isFn K (.ref 654)=true:=(T.kds 1 O).2
theorem Tx.Oo:fv K 686=fx "__init__" "Form.__init__" (BZ (top 47) 0) (.ref 679):=AE<|T.en (i:=2)
theorem Tx.Uj:isFn K (.ref 686)=true:=(T.kds 2 O).2
theorem Tx.JX:mg "FormError"=Y (.ref 31):=T.mc 0 O
theorem Tx.MX:mg "BadBook"=Y (.ref 111):=T.mc 6 O
theorem Tx.MV:mg "BadText"=Y (.ref 149):=T.mc 8 O
theorem Tx.Om:mg "Truth"=Y (.ref 344):=T.mc 12 O
theorem Tx.VG:mg "Count"=Y (.ref 377):=T.mc 13 O
theorem Tx.VF:mg "Whole"=Y (.ref 410):=T.mc 14 O
theorem Tx.Vh:mg "Upto"=Y (.ref 464):=T.mc 15 O
theorem Tx.Rm:mg "Text"=Y (.ref 517):=T.mc 16 O
theorem Tx.Rn:mg "List"=Y (.ref 576):=T.mc 17 O
theorem Tx.Kk:mg "Nested"=Y (.ref 630):=T.mc 18 O
theorem Tx.On:mg "Field"=Y (.ref 657):=T.mc 19 O
theorem Tx.ZO:mg "Record"=Y (.ref 731):=T.mc 20 O
theorem Tx.ZP:mg "Choice"=Y (.ref 750):=T.mc 21 O
theorem Tx.Pr:mg "Tables"=Y (.ref 923):=T.mc 24 O
theorem Tx.Lu:nsIn K BY "CODES"=Y (Y<|.ref 906):=T.nr 26 O
theorem Tx.Ow:QX K 344:=T.cB 1 O
theorem Tx.dR:MS K 344=true:=(T.mks 0 O).1
theorem Tx.dO:FZ K (.ref 344)=true:=(T.mks 0 O).2
theorem Tx.Rp:CV K (.ref 344) "__init__"=Y (Y<|.builtin "object.__init__"):=T.fw 0 O
theorem Tx.Lp:UV K 344 "is_plain" 271:=T.me 2 2 O O
theorem Tx.Oy:QX K 377:=T.cB 2 O
theorem Tx.dS:MS K 377=true:=(T.mks 1 O).1
theorem Tx.dP:FZ K (.ref 377)=true:=(T.mks 1 O).2
theorem Tx.Rq:CV K (.ref 377) "__init__"=Y (Y<|.builtin "object.__init__"):=T.fw 1 O
theorem Tx.Lq:UV K 377 "is_plain" 271:=T.me 6 2 O O
theorem Tx.Ov:QX K 410:=T.cB 3 O
theorem Tx.dQ:MS K 410=true:=(T.mks 2 O).1
theorem Tx.dN:FZ K (.ref 410)=true:=(T.mks 2 O).2
theorem Tx.Ro:CV K (.ref 410) "__init__"=Y (Y<|.builtin "object.__init__"):=T.fw 2 O
theorem Tx.Lo:UV K 410 "is_plain" 271:=T.me 10 2 O O
theorem Tx.JY:QX K 464:=T.cB 4 O
theorem Tx.kE:MS K 464=true:=(T.mks 3 O).1
theorem Tx.kB:FZ K (.ref 464)=true:=(T.mks 3 O).2
theorem Tx.Uk:CV K (.ref 464) "__init__"=Y (Y<|.ref 426):=T.fnd 13 O
theorem Tx.Mj:UV K 464 "is_plain" 271:=T.me 15 2 O O
theorem Tx.Lj:CV K (.ref 464) "most"=Y none:=T.fo 0 O
theorem Tx.JZ:QX K 517:=T.cB 5 O
theorem Tx.kF:MS K 517=true:=(T.mks 4 O).1
theorem Tx.kC:FZ K (.ref 517)=true:=(T.mks 4 O).2
theorem Tx.Ul:CV K (.ref 517) "__init__"=Y (Y<|.ref 481):=T.fnd 18 O
theorem Tx.Ml:UV K 517 "is_plain" 271:=T.me 20 2 O O
theorem Tx.Ll:CV K (.ref 517) "most"=Y none:=T.fo 1 O
theorem Tx.Jl:QX K 576:=T.cB 6 O
theorem Tx.kG:MS K 576=true:=(T.mks 5 O).1
theorem Tx.kD:FZ K (.ref 576)=true:=(T.mks 5 O).2
theorem Tx.Um:CV K (.ref 576) "__init__"=Y (Y<|.ref 533):=T.fnd 23 O
theorem Tx.Mm:UV K 576 "is_plain" 554:=T.me 25 22 O O
theorem Tx.Jx:CV K (.ref 576) "item"=Y none:=T.fo 2 O
theorem Tx.GD:QX K 630:=T.cB 7 O
theorem Tx.ZN:MS K 630=true:=(T.mks 6 O).1
theorem Tx.ZM:FZ K (.ref 630)=true:=(T.mks 6 O).2
theorem Tx.Qi:CV K (.ref 630) "__init__"=Y (Y<|.ref 592):=T.fnd 28 O
theorem Tx.Kv:UV K 630 "is_plain" 613:=T.me 30 27 O O
theorem Tx.HA:CV K (.ref 630) "name"=Y none:=T.fo 3 O
theorem Tx.Ck:QX K 657:=T.cB 8 O
theorem Tx.VE:MS K 657=true:=(T.mks 7 O).1
theorem Tx.VD:FZ K (.ref 657)=true:=(T.mks 7 O).2
theorem Tx.MZ:CV K (.ref 657) "__init__"=Y (Y<|.ref 654):=T.fnd 33 O
theorem Tx.Fc:CV K (.ref 657) "number"=Y none:=T.fo 4 O
theorem Tx.Gh:CV K (.ref 657) "name"=Y none:=T.fo 5 O
theorem Tx.Dq:CV K (.ref 657) "kind"=Y none:=T.fo 6 O
theorem Tx.Hl:CV K (.ref 657) "must"=Y none:=T.fo 7 O
theorem Tx.Fp:CV K (.ref 657) "default"=Y none:=T.fo 8 O
theorem Tx.ZS:QX K 731:=T.cB 10 O
theorem Tx.ZT:QX K 750:=T.cB 11 O
theorem Tx.Vi:QX K 859:=T.cB 12 O
theorem Tx.MU:CV K (.ref 859) "forms"=Y none:=T.fo 18 O
theorem Tx.Iq:QX K 901:=T.cB 13 O
theorem Tx.Ku:CV K (.ref 901) "choice"=Y none:=T.fo 20 O
theorem Tx.Rk:CV K (.ref 901) "name"=Y none:=T.fo 21 O
theorem Tx.Kt:CV K (.ref 901) "fields"=Y none:=T.fo 22 O
theorem Tx.Ja:QX K 923:=T.cB 14 O
theorem Tx.SZ:MS K 923=true:=(T.mks 12 O).1
theorem Tx.SY:FZ K (.ref 923)=true:=(T.mks 12 O).2
theorem Tx.LP:CV K (.ref 923) "__init__"=Y (Y<|.ref 920):=T.fnd 40 O
theorem Tx.FJ:CV K (.ref 923) "rows"=Y none:=T.fo 24 O
theorem Tx.Bw:QX K 1076:=T.cB 15 O
theorem Tx.Gg:CV K (.ref 1076) "rows"=Y none:=T.fo 25 O
theorem Tx.CT:CV K (.ref 1076) "places"=Y none:=T.fo 26 O
theorem Tx.CM:CV K (.ref 1076) "draft"=Y none:=T.fo 27 O
theorem Tx.DE:CV K (.ref 1076) "lacking"=Y none:=T.fo 28 O
theorem Tx.UE:HE K (.type "NoneType") (.type "bool")=Y false:=rfl
theorem Tx.VC:HE K (.type "NoneType") (.type "int")=Y false:=rfl
theorem Tx.VB:HE K (.type "NoneType") (.type "str")=Y false:=rfl
theorem Tx.NC:HE K (.type "NoneType") (.type "list")=Y false:=rfl
theorem Tx.SX:HE K (.type "NoneType") (.type "tuple")=Y false:=rfl
theorem Tx.dM:HE K (.type "bool") (.type "bool")=Y true:=rfl
theorem Tx.ip:HE K (.type "bool") (.type "int")=Y true:=rfl
theorem Tx.SW:HE K (.type "int") (.type "str")=Y false:=rfl
theorem Tx.VA:HE K (.type "int") (.type "list")=Y false:=rfl
theorem Tx.SV:HE K (.type "str") (.type "str")=Y true:=rfl
theorem Tx.Vz:HE K (.type "str") (.type "list")=Y false:=rfl
theorem Tx.bp:HE K (.type "tuple") (.type "list")=Y false:=rfl
theorem Tx.YE:HE K (.type "tuple") (.type "tuple")=Y true:=rfl
theorem Tx.Fu:HE K (.type "list") (.type "list")=Y true:=rfl
theorem Tx.Rj:HE K (.type "list") (.type "tuple")=Y false:=rfl
theorem Tx.Uf:HE K (.type "dict") (.type "list")=Y false:=rfl
theorem Tx.Qf:∃t,mg "MOST_NUMBER"=Y (.int 115792089237316195423570985008687907853269984665640564039457584007913129639935 t):=T.ui 2 O
theorem Tx.Ri:∃t,mg "MOST_FORMS"=Y (.int 8 t):=T.ui 9 O
theorem Tx.Qg:∃t,mg "MOST_FIELDS"=Y (.int 10 t):=T.ui 10 O
theorem Tx.JT:∃t,mg "MOST_FIELD_NUMBER"=Y (.int 200 t):=T.ui 12 O
theorem Tx.Ue:∃t,mg "LIST_CODE"=Y (.int 10 t):=T.ui 14 O
theorem Tx.kA:∃t,mg "EMPTY"=Y (.str "-" t):=T.us 2 O
theorem Tx.w2:mroIn K 31 (.type "ValueError")=Y true:=AE<|T.cn (i:=2)
theorem Tx.Rl:CV K (.ref 149) "place"=Y none:=AE<|T.mn (i:=6)
theorem Tx.ZL:exmOne K (.ref 149) (.ref 31)=Y true:=AE<|T.cn (i:=5)
theorem Tx.dW: (Ms K 647).map wx=Y 10:=AE<|T.in_ (i:=3)
theorem Tx.kJ: (Ms K 679).map wx=Y 11:=AE<|T.in_ (i:=4)
omit T in
def V7(h:oB lL K=Z):p9 K 665 663=true:=KR (f:=id) (l:=bB K) 0 ((AA _ _).mp ((AA _ _).mp ((AA _ _).mp ((AA _ _).mp ((AA _ _).mp h).2).2).2).2).2 O
theorem Tx.UF{nm j:AT}{pr:JW}{bd:List Ih}{sc:Scope}{z kV doc pm cdv ct:AC}{an:Option AH}(e:EM K 666=fnOf nm j pr bd sc z kV doc pm an cdv ct):cdv= .ref yN:=by let h:=J6 (c:=yN)<|(AE<|T.in_ (i:=0));rw[e]at h;show h
theorem Tx.IY:O8 K 111 31 108:={HL.qV<|AE (T.xn (i:=0)),T.w1,T.w2,((T.mB2 0 O).2),(KR (f:=id) 2 T.mb O),(AE<|T.mn (i:=1))}
theorem Tx.Ks:O8 K 149 31 146:={HL.qV<|AE (T.xn (i:=1)),T.w1,T.w2,((T.mB2 1 O).2),(KR (f:=id) 3 T.mb O),(AE<|T.mn (i:=2))}
theorem Tx.MT:gX K 149:={(KR (f:=id) 7 T.mb O),(AE<|T.mn (i:=7)),(AE<|T.mn (i:=8)),(AE<|T.mn (i:=9)),T.og,T.ot,(AE<|T.cn (i:=3)),(AE<|T.cn (i:=4))}
theorem Tx.xb:zS K 31:={(AE<|T.mn (i:=3)),(KR (f:=id) 5 T.mb O),HL.W2<|KR (f:=id) 6 T.mb O}
end
end K9
namespace K9
open PySem PySem.W HL L2 PyProof.Rows
abbrev sZ:=BS
@[reducible]def S7:=PySem.Challenge.rw_formkin_k24_tables_as_lines
def rb{T c:AH}{l:PySem.W.OpenLaw}{n k:Nat}{q:Bn}{loose:List AT}{XP: (AT->Option AC)->CB->Prop}{YP:BP->CB->Prop}{d:DefRec}{K:AB}{CX:dE}{sp:AB->Sp}{x:AT}(hn:l.most=Y n)(a5:n<=sizeLine)(a7:d.params.defaults=[])(hr:EO k TY)(hY:∀(w:BP) (h:CB),YP w h->K.In h/\h.get? T=Y (SD #[])/\MO h c T/\K.lookup T=S)(F:∀(w:BP) (mg:AT->Option AC) (fa:AH) (h:CB),YP w h->h.Ns BY mg->mg d.name=Y (.ref fa)->∃fd:Ea,(∀(s:AK) (u:AC),BindsTo s fd {[u],[]} [(x,u)])/\∀base:CB,K.In base->base.Ns BY mg->EE l.prog w K mg base CX k fa fd [x] (sp K))(a3:∀(K:AB) (H:Hp) (a:AH) (ns:List Int),ns.length<=n->(∀i∈ns,FH i<=1048576)->hV T H->Cg K H a (ns.map V.int)->sp K [.ref a] H (λv _=>v= .bl Z) λ_ _ _=>False)(a9:∀(H:Hp) (s:AK) (e:AC) (s':AK),CX.cx [] H s (λ_ _ _=>False) e s'->False)(a4:CX.sm=ge):
  PySem.W.WalkO q loose XP YP l.row.toRowW d [] (λf vs=>PySem.call f vs):=by show Att.attach_call hn a7 λw s_ U mg mb fa o pm cd doc a vs ns G Yq ho hd b2 a6 a1 z j hg D=>?_;let(KX,hT,b0,a8):=hY w _ Yq;let(fd,hb,hF):=F w mg fa _ Yq G.T.g a6;show oW hT a8 b0 KX G.T.g G.T.b G.T.builtins G.T.nolimit hg a1 z (AU j a5) hr hF hb (λH hO hS=>a3 K H a ns j D hO hS) (λH e s'=>a9 H U e s') a4
def Q0{K:Fo}{h:CB}{mg:AT->Option AC}{s:AK}{w:BP}(e:KM ul s.heap=K)(y:o9 s=q0 sZ w)(X:K.In h)(G:h.Ns BY mg):Tx K mg:=by subst e;show{A1P (λx=>x.1.1) y,A1P (λx=>x.1.2.1) y,A1P (λx=>x.1.2.2.1) y,A1P (λx=>x.1.2.2.2.1) y,A1P (λx=>x.1.2.2.2.2.1) y,A1P (λx=>x.1.2.2.2.2.2.1) y,λx v e=>?_};cases v with|none=>show mg_none_of X G e|some v=>show mg_of X G e
def P6{q:Bn}{loose:List AT}{XP: (AT->Option AC)->CB->Prop}{d:DefRec}(b0:d.params.defaults=[])(hn:d.name="law"){k:Nat}(hr:EO k TY){sp:Fo->Sp}(F:∀(w:BP) (K:Fo) (mg:AT->Option AC) (base:CB),Tx K mg->K.In base->KD sZ w K 906 (pL.map λx=>((.inr x.1:Hn),V.int x.2))->EE sZ w K mg base SU k 1265 (EM K 1265) An (sp K))(B:∀(K:Fo) (mg:AT->Option AC),Tx K mg->∀(s:AK) (u:AC),BindsTo s (EM K 1265) {[u],[]} [("_law_script",u)])(a6:∀(K:Fo) (H:Hp) (a:AH) (ns:List Int),ns.length<=63->(∀i∈ns,FH i<=1048576)->hV eJ H->Cg K H a (ns.map V.int)->sp K [.ref a] H (λv _=>v= .bl Z) λ_ _ _=>False):
  WalkX q loose XP o9 (q0 sZ) S7.row.toRowW d [] (λf vs=>PySem.call f vs):=by
 intro w s_ U mg mb G y a o pm cd doc dV kV ho hd b1 hD a8 hg args j bs L Sg a2 a7 a5 a9;show rb (T:=eJ) (c:=yN) (l:=S7) (n:=63) (k:=k) (x:="_law_script") (K:=KM ul s_.heap) (CX:=SU) (sp:=sp) (YP:=λw' h=>w'=w/\(KM ul s_.heap).In h/\h.get? eJ=Y (tabObj #[])) (q:=q) (loose:=loose) (XP:=XP) (d:=d) O Aa b0 hr (λ_ h Yq=>{Yq.2.1,Yq.2.2,zP Yq.2.1<|V7 (A1P (λx=>x.1.2.1) y),jL _ _ Ab}) (λw' a4 fa h Yq G2 a1=>?_) a6 (λ_ _ _ _ z=>z) O w s_ U mg mb G {O,Frag.In.keeps (uP ul s_.heap) L.keeps,L.keeps _ _<|B1 (A1P (λx=>x.1.2.2.2.2.2.2) y)} a o pm cd doc dV kV ho hd b1 hD a8 hg args j bs Sg a2 a7 a5 a9;let(O,KX,_):=Yq;let T:=Q0 O y KX G2;let hT:KD sZ w' (KM ul s_.heap) 906 (pL.map λx=>((.inr x.1:Hn),V.int x.2)):=G8 (l:=pL) (A1P (λx=>x.2) y) Aa Ab;let e:a4 "law"=Y (.ref 1265):=(T.d1 65 O λ_ _ _ _ _ _ _=>rfl).m;rw[hn,e]at a1;obtain rfl:1265=fa:=by simpa using a1
 show{EM (KM ul s_.heap) 1265,B _ _ T,λbase h1 h2=>F w' _ _ base {T.A,T.B,T.C,T.D,T.M,T.I,λx v e=>T.g x v e} h1 hT}
def A0A:DefRec:={"law",Js<|top 121,Gj<|top 121,AL<|top 121,{788,0,819,58}}
def holds{k:Nat}(hr:EO k TY){sp:Fo->Sp}(F:∀(w:BP) (K:Fo) (mg:AT->Option AC) (base:CB),Tx K mg->K.In base->KD sZ w K 906 (pL.map λx=>((.inr x.1:Hn),V.int x.2))->EE sZ w K mg base SU k 1265 (EM K 1265) An (sp K))(B:∀(K:Fo) (mg:AT->Option AC),Tx K mg->∀(s:AK) (u:AC),BindsTo s (EM K 1265) {[u],[]} [("_law_script",u)])(z:∀(K:Fo) (H:Hp) (a:AH) (ns:List Int),ns.length<=63->(∀i∈ns,FH i<=1048576)->hV eJ H->Cg K H a (ns.map V.int)->sp K [.ref a] H (λv _=>v= .bl Z) λ_ _ _=>False):S7.Holds:=by
 show k24.law_of λj=>?_;show holds_openX (r:=S7.row) (q:=view sZ keep) (loose:=lo) (Xt:=λs=>xlAt (view sZ keep) [] s&&recOk [] s) (XP:=XL (view sZ keep) []) (Yf:=o9) (Ya:=q0 sZ) (d:=A0A) (kwd:=[]) (N:=60100) left (λs e=>xl_of s (Eb.mp e).1) XL.keeps (by kernel_rfl) (by kernel_rfl) (by kernel_rfl) (λs e=>recFacts_of (Eb.mp e).2) (by rfl) j Ab {(O),O,O,O,O,Ab} ?hw ?hc
 case hw=>w_witness2
 case hc=>show P6 O O hr F B z
end K9
namespace K9
open PySem L2
open HL (EM)
seal L2.PE L2.PS L2.SS L2.PA L2.PT L2.PW L2.PG L2.zX L2.PI L2.PO
variable{P:Bn}{w:BP}{K:AB}{mg:AT->Option AC}{base:CB}
def tbF:HO->Bool|.tbl _=>Z|_=>ge
def Sm(H H':Hp):Prop:=∀a o,H a=Y o->tbF o=ge->H' a=Y o
def Sm.refl(H:Hp):Sm H H:=λ_ _ e _=>e
def Sm.trans(a:Sm H H')(b:Sm H' j):Sm H j:=λx o e n=>b x o (a x o e n) n
def Sm.of(s:AZ H H'):Sm H H':=λx o e _=>s x o e
def plO:HO->Bool|.tbl _=>ge|.ins C _ _=>!(C==657||C==717||C==731||C==750||C==859)|_=>Z
def Sn(H H':Hp):Prop:=∀a o,H a=Y o->plO o=Z->H' a=Y o
def Sm.sn(s:Sm H H'):Sn H H':=λa o e n=>s a o e (by cases o <;> first|rfl|cases n)
def pfO:HO->Bool|.tbl _=>ge|.ins C _ _=>!(C==717||C==731||C==750||C==859)|_=>Z
def Sf(H H':Hp):Prop:=∀a o,H a=Y o->pfO o=Z->H' a=Y o
def Sm.sf(s:Sm H H'):Sf H H':=λa o e n=>s a o e (by cases o <;> first|rfl|cases n)
def Sf.sn(s:Sf H H'):Sn H H':=λa o e n=>s a o e (by
 cases o with
 |ins C dx fs=>
  let j: (!(C==657||C==717||C==731||C==750||C==859))=true:=n;change(!(C==717||C==731||C==750||C==859))=Z
  grind
 |_=>first|rfl|cases n)
def Sf.upd(j:H x=Y o)(n:pfO o=ge):Sf H (upd H x u):=λa v e m=>by
 rw[AM];·show e
 grind
def Sn.upd(j:H x=Y o)(n:plO o=ge):Sn H (upd H x u):=λa v e m=>by
 rw[AM];·show e
 grind
abbrev A0j:AT:="own_fields" ++ ".<locals>." ++ "<lambda>"
abbrev A0k:Ij:={248,34,248,60}
abbrev Lm(H:Hp):Prop:=LG H eJ A0k A0j
inductive Dt where
 |non|bl (b:Bool)|int (i:Int)|str (z:AT)|lst (l:List Dt)|dct
mutual
def Th(H:Hp):Dt->V->Prop|.non,v=>v= .non|.bl b,v=>v= .bl b|.int i,v=>v= .int i|.str z,v=>v= .str z/\z.length<=1000|.lst l,v=>∃a xs,v= .ref a/\H a=Y (.lst xs)/\dJ H l xs/\l.length<=1000|.dct,v=>∃a,v= .ref a/\H a=Y (.dK [])
def dJ(H:Hp):List Dt->List V->Prop|[],xs=>xs=[]|d::l,xs=>∃x ys,xs=x::ys/\Th H d x/\dJ H l ys
end
mutual
def Th.sn(s:Sn H H'):∀(d:Dt) (v:V),Th H d v->Th H' d v|.non,_,h=>h|.bl _,_,h=>h|.int _,_,h=>h|.str _,_,h=>h|.lst l,_,⟨a,xs,e,h,k,z⟩=>{a,xs,e,s _ _ h O,dJ.sn s l xs k,z}|.dct,_,⟨a,e,h⟩=>{a,e,s _ _ h O}
def dJ.sn(s:Sn H H'):∀(l:List Dt) (xs:List V),dJ H l xs->dJ H' l xs|[],_,h=>h|d::l,_,⟨x,ys,e,h,k⟩=>{x,ys,e,Th.sn s d x h,dJ.sn s l ys k}
end
def Th.sm(s:Sm H H')(d:Dt)(v:V)(h:Th H d v):Th H' d v:=Th.sn s.sn d v h
def dJ.sm(s:Sm H H')(l:List Dt)(xs:List V)(h:dJ H l xs):dJ H' l xs:=dJ.sn s.sn l xs h
def dJ.len:∀{l:List Dt} {xs:List V},dJ H l xs->xs.length=l.length|[],_,h=>by rw[show _=[]from h];rfl|d::l,_,⟨x,ys,e,_,k⟩=>by rw[e,BJ,BJ,dJ.len k]
def dJ.at:∀{l:List Dt} {xs:List V},dJ H l xs->∀(i:Nat) x,xs[i]?=Y x->∃d,l[i]?=Y d/\Th H d x|[],_,h,i,x,e=>by rw[show _=[]from h]at e;simp at e|d::l,_,⟨y,ys,j,h,k⟩,0,x,e=>by rw[j]at e;simp at e;show{d,O,e ▸ h}|d::l,_,⟨y,ys,j,h,k⟩,i+1,x,e=>by rw[j]at e;simp at e;let(d',D,z):=dJ.at k i x e;show{d',by simpa using D,z}
def O2:Dt->String|.non=>"NoneType" |.bl _=>"bool" |.int _=>"int" |.str _=>"str" |.lst _=>"list" |.dct=>"dict"
def Th.ty:∀{d:Dt} {v:V},Th H d v->IG K H v (.type<|O2 d)|.non,_,h=>by rw[show _=V.non from h];show .non|.bl b,_,h=>by rw[show _=V.bl b from h];show .bl b|.int i,_,h=>by rw[show _=V.int i from h];show .int i|.str z,_,h=>by rw[show _=V.str z from h.1];show .str z|.lst l,_,⟨a,xs,e,h,k,_⟩=>by rw[e];show .lst h|.dct,_,⟨a,e,h⟩=>by rw[e];show .dK h
def FA:Dt->Bool|.bl _=>Z|_=>ge
def jF:Dt->Bool|.bl _=>Z|.int _=>Z|_=>ge
def jE:Dt->Bool|.str _=>Z|_=>ge
def Sd:Dt->Bool|.lst _=>Z|_=>ge
def Mh:Dt->Int->Int->Bool|.int i,a,b=>decide (a<=i) &&decide (i<=b)|_,_,_=>ge
inductive Kx where
 |truth|count|whole|bare|upto (d:Dt)|text (d:Dt)|form (d:Dt)|list (k:Kx)|thing (d:Dt)
def Qa(H:Hp):Kx->V->Prop|.truth,v=>∃a dx,v= .ref a/\H a=Y (.ins 344 dx [])|.count,v=>∃a dx,v= .ref a/\H a=Y (.ins 377 dx [])|.whole,v=>∃a dx,v= .ref a/\H a=Y (.ins 410 dx [])|.bare,v=>∃a dx,v= .ref a/\H a=Y (.ins 302 dx [])|.upto d,v=>∃a dx u,v= .ref a/\H a=Y (.ins 464 dx [("most",u)])/\Th H d u|.text d,v=>∃a dx u,v= .ref a/\H a=Y (.ins 517 dx [("most",u)])/\Th H d u|.form d,v=>∃a dx u,v= .ref a/\H a=Y (.ins 630 dx [("name",u)])/\Th H d u|.list k,v=>∃a dx u,v= .ref a/\H a=Y (.ins 576 dx [("item",u)])/\Qa H k u|.thing d,v=>Th H d v
def Qa.sn(s:Sn H H'):∀{k:Kx} {v:V},Qa H k v->Qa H' k v|.truth,_,⟨a,dx,e,h⟩=>{a,dx,e,s _ _ h O}|.count,_,⟨a,dx,e,h⟩=>{a,dx,e,s _ _ h O}|.whole,_,⟨a,dx,e,h⟩=>{a,dx,e,s _ _ h O}|.bare,_,⟨a,dx,e,h⟩=>{a,dx,e,s _ _ h O}|.upto d,_,⟨a,dx,u,e,h,k⟩=>{a,dx,u,e,s _ _ h O,Th.sn s d u k}|.text d,_,⟨a,dx,u,e,h,k⟩=>{a,dx,u,e,s _ _ h O,Th.sn s d u k}|.form d,_,⟨a,dx,u,e,h,k⟩=>{a,dx,u,e,s _ _ h O,Th.sn s d u k}|.list k,_,⟨a,dx,u,e,h,j⟩=>{a,dx,u,e,s _ _ h O,j.sn s}|.thing d,v,h=>Th.sn s d v h
def Qa.sm(s:Sm H H')(h:Qa H k v):Qa H' k v:=h.sn s.sn
def Kx.cls:Kx->AH|.truth=>344|.count=>377|.whole=>410|.bare=>302|.upto _=>464|.text _=>517|.form _=>630|.list _=>576|.thing _=>0
def Kx.isK:Kx->Bool|.thing _=>ge|_=>Z
def Qa.ins:∀{k:Kx} {v:V},k.isK=Z->Qa H k v->∃a dx fs,v= .ref a/\H a=Y (.ins k.cls dx fs)/\∀m:AT,m≠ "most" ->m≠ "name" ->m≠ "item" ->fs.lookup m=none:=by intro k v j h;cases k with|thing d=>cases j|list k=>let(a,dx,u,e,h,_):=h;show{a,dx,_,e,h,λm h1 h2 h3=>by simp[Ew,beq_eq_false_iff_ne.mpr h3]}|upto n=>let(a,dx,u,e,h,_):=h;show{a,dx,_,e,h,λm h1 h2 h3=>by simp[Ew,beq_eq_false_iff_ne.mpr h1]}|text n=>let(a,dx,u,e,h,_):=h;show{a,dx,_,e,h,λm h1 h2 h3=>by simp[Ew,beq_eq_false_iff_ne.mpr h1]}|form z=>let(a,dx,u,e,h,_):=h;show{a,dx,_,e,h,λm h1 h2 h3=>by simp[Ew,beq_eq_false_iff_ne.mpr h2]}|truth=>let(a,dx,e,h):=h;show{a,dx,_,e,h,λm _ _ _=>rfl}|count=>let(a,dx,e,h):=h;show{a,dx,_,e,h,λm _ _ _=>rfl}|whole=>let(a,dx,e,h):=h;show{a,dx,_,e,h,λm _ _ _=>rfl}|bare=>let(a,dx,e,h):=h;show{a,dx,_,e,h,λm _ _ _=>rfl}
inductive A0M(r:V)(vs:List V)(H:Hp)(Q:VK):Prop|mk (v:_) (_:vs=[v]) (_:Q r H)
def eY(r:V):Sp:=λvs H Q _=>A0M r vs H Q
def rh(H:Hp)(Q:VK)(xs:List V):Prop:=∀l H',H l=S->AZ H H'->H' l=Y (.lst xs)->Q (.ref l) H'
def uz(T:Tx K mg)(d:Dt):BC K (.type<|O2 d) (.type "bool")=Y (FA d):=by cases d <;> first|show T.UE|show T.dM|show T.q_int_bool|show T.q_str_bool|show T.q_list_bool|show T.q_dict_bool
def G1(T:Tx K mg)(d:Dt):BC K (.type<|O2 d) (.type "int")=Y (jF d):=by cases d <;> first|show T.VC|show T.ip|show T.q_int_int|show T.q_str_int|show T.q_list_int|show T.q_dict_int
def jC(T:Tx K mg)(d:Dt):BC K (.type<|O2 d) (.type "str")=Y (jE d):=by cases d <;> first|show T.VB|show T.q_bool_str|show T.SW|show T.SV|show T.q_list_str|show T.q_dict_str
def uy(T:Tx K mg)(d:Dt):BC K (.type<|O2 d) (.type "list")=Y (Sd d):=by cases d <;> first|show T.NC|show T.q_bool_list|show T.VA|show T.Vz|show T.Fu|show T.Uf
def A0l(T:Tx K mg)(d:Dt):BC K (.type<|O2 d) (.type "tuple")=Y false:=by cases d <;> first|show T.SX|show T.q_bool_tuple|show T.q_int_tuple|show T.q_str_tuple|show T.Rj|show T.q_dict_tuple
abbrev Yb:AT:="abcdefghijklmnopqrstuvwxyz"
abbrev MN:Int:=115792089237316195423570985008687907853269984665640564039457584007913129639935
abbrev MW:Int:=57896044618658097711785492504343953926634992332820282019728792003956564819967
def dG(y:AT)(c:Nat):Bool:=!(Ep y {#[c]} 0 y.length 1).isEmpty
def MC(z y:AT):Bool:=z.cps.toList.all<|dG y
def inC(y:AT):V->Bool|.str z=>dG y<|z.cps.getD 0 0|_=>ge
def o7(hm:X.mg x=Y (.str y t))(j: ~~~(Gl X x))(hd:↑((x=="__debug__")=false)):PE X (.Name x pos) (tC<|.str y):=cj j hm {(t),O} hd
def lJ{j z:Type}(l:List j)(f:j->z)(g:z->Bool)(h:j->Bool)(e:∀x∈l,g (f x)=h x): (l.map f).all g=l.all h:=by grind
def X3(f:V->Bool):V->V:=λv=>.bl<|f v
def C6(y z:AT): ((lp z).map<|inC y).all id=MC z y:=by rw[lp,Br];show lJ _ _ _ _ λc _=>rfl
def Ct(z:AT):Bool:=(decide (1<=z.length) &&decide (z.length<=12)) &&MC z Yb
def DJ:Dt->Bool|.str z=>Ct z|_=>ge
def HK(c:Nat):Bool:=(decide ((32:Int)<= (c:Int)) &&decide ((c:Int)<=126)) &&decide (¬ (c:Int)=37)
inductive dz(vs:List V)(H:Hp)(Q:VK):Prop|mk (x d:_) (_:vs=[x]) (_:Th H d x) (_:Q (.bl<|jF d&& !FA d) H)
def OB:Sp:=λvs H Q _=>dz vs H Q
inductive dA(vs:List V)(H:Hp)(Q:VK):Prop|mk (x d a b:_) (_:vs=[x,.int a,.int b]) (_:Th H d x) (_:Q (.bl<|Mh d a b) H)
def eW:Sp:=λvs H Q _=>dA vs H Q
inductive XZ(vs:List V)(H:Hp)(Q:VK):Prop|mk (z y:_) (_:vs=[.str z,.str y]) (_:z.length<=1000) (_:∀H',AZ H H'->Q (.bl<|MC z y) H')
def YI:Sp:=λvs H Q _=>XZ vs H Q
inductive ic(vs:List V)(H:Hp)(Q:VK):Prop|mk (x d:_) (_:vs=[x]) (_:Th H d x) (_:∀H',AZ H H'->Q (.bl<|DJ d) H')
def iN:Sp:=λvs H Q _=>ic vs H Q
inductive ib(vs:List V)(H:Hp)(Q:VK):Prop|mk (c:Nat) (_:vs=[.int c]) (_:Q (.bl<|HK c) H)
def iM:Sp:=λvs H Q _=>ib vs H Q
def OO(T:Tx K mg):∅ 1 196 ["thing"] OB:=by
 show(T.df 0 O).okA fj ?_;intro _ _ _ _ H _ Q _ hr h D z;let(x,d,O,j,q):=h;show{_,qr<|DT (qB (Bv K O) T.Ba AW<|Cy (pv 0) (RJ T.Kr HQ)) (ED<|Tn (qB (Bv K O) T.Ba AW<|Cy (pv 0) (RJ T.Vy Sv))),?_};show{x,.ty "int",_,_,_,O,j.ty,O,G1 T d,_,O,DL (λh=>?_) λh=>?_};·rw[h,BL]at q;show{x,.ty "bool",_,_,_,O,j.ty,O,uz T d,_,O,q}
 simp_all [z]
def DM(T:Tx K mg):∅ 2 203 Ac eW:=by
 show(T.df 1 O).okA fm ?_;intro 1 hr h;let(x,d,l,m,O,j,q):=h;show{_,qr<|DT (qD (@OO P w K mg base T) hr T.Ot<|Cp (pv 0)) (ED<|RN NK NK (pv 1) (pv 0) (pv 2)),?_};show{x,d,O,j,_,O,?_};cases d with
 |int i=>
  obtain rfl:x=V.int i:=j;show BX {_,O,DL (λh1=>?_) λh1=>?_};·show ?_;rw[show Mh (.int i) l m=decide (i<=m)by change(decide (l<=i) &&_)=_;rw[h1,BL]]at q;show q
  let h2:decide (l<=i)=false:=by simpa using h1
  rw[show Mh (.int i) l m=ge by change(decide (l<=i) &&_)=_;rw[h2,BR]]at q;show q
 |_=>show BM q
def ndS: ((["sign"]:List AT) ++ (["signs"]:List AT)).Nodup:=⋯
def F3: ((["sign"]:List AT) ++ ([]:List AT)).Nodup:=⋯
def Qv(T:Tx K mg):∅ 1 208 ["text","signs"] YI:=by
 show(T.df 2 O).okA YN ?_;intro 1 hr h;let(z,y,O,j,q):=h;show{_,qr<|qB (FC O) T.Rh Nx (Cp<|Yv ["sign"] ["signs"] [1] (.cons O (.inl O) O .nil) (cf<|pv 0) (λC s_ H_ fp=>BQ (i:=0) ndS O (Ci O)<|DN O) (λC s_ H_ fp=>Da oq (pv 0) (pv 1) O)),?_};show{z,O,TJ (Wk.str z) (by rw[Nh];show j) (X3<|inC y) (λx F H2 R s2 hR=>?_) λD H2 hD s2 U=>?_};·let(c,hc,O):=Bb.mp F;show{Sub.set O,_,_,O,O,hR H2 λ_ _ e=>e}
 show{D,(lp z).map<|inC y,O,by rw[Br];show U,?_};rw[C6];show q _ s2
def Jg(T:Tx K mg):∅ 3 215 ["thing"] iN:=by
 let(_,D):=(T.ui 0 O);let(_,j):=(T.us 0 O);show(T.df 3 O).okA iY ?_;intro _ _ _ s H _ Q _ hr h _ _;let(x,d,O,U,q):=h;show{_,AJ (qi (Cn<|BA (qB (Bv K O) T.Ba AW<|Cy (pv 0) (RJ T.IU GF)))<|qr Dk)<|qr (DT (qD (@DM P w K mg base T) hr T.Dl<|AY (qB Gk T.Ei De<|Cp (pv 0)) (Cy AD<|UN D))<|ED (qD (@Qv P w K mg base T) hr T.Qk<|Cy (pv 0) (o7 j))),?_};show{x,.ty "str",_,_,_,O,U.ty,O,jC T d,_,O,?_};cases d with
 |str z=>
  let(O,F):=U;let e0:Mh (.int (z.length:Int)) 1 12=(decide (1<=z.length) &&decide (z.length<=12)):=by
   change(decide ((1:Int)<= (z.length:Int)) &&decide ((z.length:Int)<=12))=_
   grind
  show BM {z,O,AU F Aa,_,.int _,_,_,O,O,_,O,DL (λh=>?_) λh=>?_};·show{z,Yb,O,F,λH' s=>?_};let e:=q H' s;rw[e0]at h;rw[show DJ (.str z)=MC z Yb by change(_&&_)=_;rw[h,BL]]at e;show e
  let e:=q H<|AZ.refl _;rw[e0]at h;let h': (decide (1<=z.length) &&decide (z.length<=12))=false:=by simpa using h
  rw[show DJ (.str z)=ge by change(_&&_)=_;rw[h',BR]]at e;show e
 |_=>show BX<|q _ (AZ.refl _)
def jq(T:Tx K mg):∅ 1 243 ["number"] iM:=by
 let(t1,h1):=(T.ui 6 O);let(U,h2):=(T.ui 7 O);let(F,h3):=(T.ui 8 O);show(T.df 7 O).okA iX ?_;intro _ _ _ _ H _ Q _ hr h X_ z;let(c,O,q):=h;show{_,qr<|DT (RN NK NK (UN h1) (pv 0)<|UN h2) (ED<|Da Qu (pv 0) (UN h3) (DW _)),?_};let j:HK c=((decide ((32:Int)<= (c:Int)) &&decide ((c:Int)<=126)) &&decide (¬ (c:Int)=37)):=rfl;show{_,O,DL (λa=>?_) λa=>?_}
 ·rw[a,BL]at j;show{_,O,DL (λb=>?_) λb=>?_}
  ·rw[b,BL]at j;show{O,?_}
   simp_all [z]
  simp_all [z]
 let D:decide ((32:Int)<= (c:Int))=false:=by simpa using a
 rw[D,BR,BR]at j;rw[j]at q;show{_,O,BM q}
def Db(T:Tx K mg):∅ 1 271 As (eY<|.bl Z):=by show(T.mf 2 O).okA Ti ?_;intro 1 hr h;let(v,O,q):=h;show{_,qr Dk,q}
def MA(T:Tx K mg):∅ 1 554 As (eY<|.bl ge):=by show(T.mf 22 O).okA Tg ?_;intro 1 hr h;let(v,O,q):=h;show{_,qr Dk,q}
def KG(T:Tx K mg):∅ 1 613 As (eY<|.bl ge):=by show(T.mf 27 O).okA QQ ?_;intro 1 hr h;let(v,O,q):=h;show{_,qr Dk,q}
def Qw(T:Tx K mg):∅ 1 299 As (eY<|.non):=by show(T.mf 3 O).okA YY ?_;intro 1 hr h;let(v,O,q):=h;show{_,qr DG,q}
def WX(T:Tx K mg):∅ 1 341 As (eY<|.bl ge):=by show(T.mf 6 O).okA Wv ?_;intro 1 hr h;let(v,O,q):=h;show{_,qr Dk,q}
def WZ(T:Tx K mg):∅ 1 374 As (eY<|.int 0):=by show(T.mf 9 O).okA WA ?_;intro 1 hr h;let(v,O,q):=h;show{_,qr AD,q}
def WV(T:Tx K mg):∅ 1 407 As (eY<|.int 0):=by show(T.mf 12 O).okA Wt ?_;intro 1 hr h;let(v,O,q):=h;show{_,qr AD,q}
def Zj(T:Tx K mg):∅ 1 461 As (eY<|.int 0):=by show(T.mf 16 O).okA YS ?_;intro 1 hr h;let(v,O,q):=h;show{_,qr AD,q}
def Zl(T:Tx K mg):∅ 1 514 As (eY<|.str ""):=by show(T.mf 19 O).okA YV ?_;intro 1 hr h;let(v,O,q):=h;show{_,qr AR,q}
def RT(T:Tx K mg):∅ 1 693 As (eY<|.bl ge):=by show(T.mf 29 O).okA RH ?_;intro 1 hr h;let(v,O,q):=h;show{_,qr Dk,q}
def PX(T:Tx K mg):∅ 1 747 As (eY<|.bl Z):=by show(T.mf 30 O).okA PV ?_;intro 1 hr h;let(v,O,q):=h;show{_,qr Dk,q}
def JR.mono(d:JR P w K mg base j m C sp)(h:j<=k):JR P w K mg base k m C sp:={d.c,let ⟨f,fd,ps,a,b,c⟩:=d.ex;{f,fd,ps,a,b.mono h,c}}
def Pf:Kx->Dt|.truth=>.bl ge|.text _=>.str ""|.list _=>.lst []|.form _=>.non|.bare=>.non|.thing _=>.non|_=>.int 0
def HN:Kx->Bool|.list _=>ge|.form _=>ge|_=>Z
def DB:Kx->Dt->Bool|.truth,d=>FA d|.count,d=>Mh d 0 MN|.whole,d=>Mh d (-MW - 1) MW|.upto (.int n),d=>Mh d 0 n|.text (.int n),.str z=>!decide ((z.length:Int) >n) &&z.cps.toList.all HK|.list k,.lst l=>!decide ((l.length:Int) >20) &&l.all (DB k)|.form _,_=>Z|_,_=>ge
def Kx.flat:Kx->Bool|.list _=>ge|_=>Z
def Kx.fine:Kx->Prop|.upto d=>∃n,d= .int n|.text d=>∃n,d= .int n|.list k=>k.flat=Z/\k.fine|.bare=>False|.thing _=>False|_=>True
def Kx.fine.isK{k:Kx}(h:k.fine):k.isK=true:=by cases k <;> first|rfl|show h.elim
def Fl(H:Hp)(v:V):Prop:=∀m,v= .ref m->∀xs,H m≠Y (.lst xs)
def Fl.back(s:AZ H H')(h:Fl H' v):Fl H v:=λm e xs z=>h m e xs<|s _ _ z
inductive wf(k:Kx)(vs:List V)(H:Hp)(Q:VK):Prop|mk (v:_) (_:vs=[v]) (_:∀u H',AZ H H'->Th H' (Pf k) u->Fl H u->Q u H')
def bF(k:Kx):Sp:=λvs H Q _=>wf k vs H Q
inductive wc(k:Kx)(vs:List V)(H:Hp)(Q:VK):Prop|mk (v x d:_) (_:vs=[v,x]) (_:Qa H k v) (_:Th H d x) (_:∀H',AZ H H'->Q (.bl<|DB k d) H')
def Kc(k:Kx):Sp:=λvs H Q _=>wc k vs H Q
inductive zg(C:AH)(f:AT)(vs:List V)(H:Hp)(Q:VK):Prop|mk (x dx v:_) (_:vs=[.ref x,v]) (_:H x=some (.ins C dx [])) (_:Q .non (upd H x<|.ins C dx [(f,v)]))
def bE(C:AH)(f:AT):Sp:=λvs H Q _=>zg C f vs H Q
def xV: ((["thing"]:List AT) ++ (As:List AT)).Nodup:=⋯
def JR.imp(d:JR P w K mg base k m C sp)(h:∀vs H Q E,j vs H Q E->sp vs H Q E):JR P w K mg base k m C j:={d.c,let ⟨f,fd,ps,a,b,c⟩:=d.ex;{f,fd,ps,a,b.imp h,c}}
def KQ(h:∀H:Hp,Th H (Pf k) r)(hr:∀m,r≠ .ref m:=by intro m z;cases z):∀vs H Q E,bF k vs H Q E->eY r vs H Q E:=λvs H Q E j=>(by let(v,e,q):=j;show{v,e,q r H (AZ.refl _) (h H) λm e=>A1Q e<|hr m})
def Zn(T:Tx K mg):∅ 1 573 As (bF<|.list k):=by show(T.mf 24 O).okA YX ?_;intro 1 hr h;let(v,O,q):=h;show{_,qr<|Cq Ed,{zl 0,λl j=>q (.ref l) _ (Bd j) {l,[],O,Az,O,Cu _} λm e xs z=>by cases e;rw[j]at z;cases z}}
def vm(T:Tx K mg)(j:k.isK=Z):JR P w K mg base 1 "blank" k.cls (bF k):=by cases k with|truth=>show JR.imp {T.Ow,_,_,_,(T.me 4 6 O O),WX T,(HL.b1 (T.mf 6 O) λ_ _ _ _ _ _ _=>rfl)}<|KQ λ_=>rfl|count=>show JR.imp {T.Oy,_,_,_,(T.me 8 9 O O),WZ T,(HL.b1 (T.mf 9 O) λ_ _ _ _ _ _ _=>rfl)}<|KQ λ_=>rfl|whole=>show JR.imp {T.Ov,_,_,_,(T.me 12 12 O O),WV T,(HL.b1 (T.mf 12 O) λ_ _ _ _ _ _ _=>rfl)}<|KQ λ_=>rfl|bare=>show JR.imp {(T.cB 0 O),_,_,_,(T.me 0 3 O O),Qw T,T.Rv}<|KQ λ_=>rfl|upto n=>show JR.imp {T.JY,_,_,_,(T.me 17 16 O O),Zj T,(HL.b1 (T.mf 16 O) λ_ _ _ _ _ _ _=>rfl)}<|KQ λ_=>rfl|text n=>show JR.imp {T.JZ,_,_,_,(T.me 22 19 O O),Zl T,(HL.b1 (T.mf 19 O) λ_ _ _ _ _ _ _=>rfl)}<|KQ λ_=>{O,Cu _}|form z=>show JR.imp {T.GD,_,_,_,(T.me 32 3 O O),Qw T,T.Rv}<|KQ λ_=>rfl|list k=>show{T.Jl,_,_,_,(T.me 27 24 O O),Zn T,(HL.b1 (T.mf 24 O) λ_ _ _ _ _ _ _=>rfl)}|thing d=>cases j
def vk(T:Tx K mg)(j:k.fine):JR P w K mg base 1 "is_plain" k.cls (eY<|.bl (HN k)):=by cases k with|truth=>show{T.Ow,_,_,_,T.Lp,Db T,T.Dp}|count=>show{T.Oy,_,_,_,T.Lq,Db T,T.Dp}|whole=>show{T.Ov,_,_,_,T.Lo,Db T,T.Dp}|upto n=>show{T.JY,_,_,_,T.Mj,Db T,T.Dp}|text n=>show{T.JZ,_,_,_,T.Ml,Db T,T.Dp}|form z=>show{T.GD,_,_,_,T.Kv,KG T,T.Lr}|list k=>show{T.Jl,_,_,_,T.Mm,MA T,T.NE}|bare=>show j.elim|thing d=>show j.elim
def RP(T:Tx K mg):∅ 1 426 Au (bE 464 "most"):=by show(T.mf 13 O).okA bP ?_;intro 1 hr h;let(x,dx,v,O,j,q):=h;show{_,BO<|EC (pv 0) (pv 1) O,{(x),_,dx,_,O,j,T.JY,T.Lj,Aa,q}}
def RS(T:Tx K mg):∅ 1 533 ["self","item"] (bE 576 "item"):=by show(T.mf 20 O).okA bU ?_;intro 1 hr h;let(x,dx,v,O,j,q):=h;show{_,BO<|EC (pv 0) (pv 1) O,{(x),_,dx,_,O,j,T.Jl,T.Jx,Aa,q}}
def OP(T:Tx K mg):∅ 1 592 ["self","name"] (bE 630 "name"):=by show(T.mf 25 O).okA Wy ?_;intro 1 hr h;let(x,dx,v,O,j,q):=h;show{_,BO<|EC (pv 0) (pv 1) O,{(x),_,dx,_,O,j,T.GD,T.HA,Aa,q}}
def RQ(T:Tx K mg):EE P w K mg base SU 1 481 (EM K 481) Au (bE 517 "most"):=by
 have(oc,od,sl,kV,doc,pm,an,cdv,ct,e,lk,j):=HL.Ki T.Uo;rw[e];show gA lk j bR (λvs H Q E h=>?_) λA outer s H vs Q E hr h=>?_;·let(x,dx,v,O,_):=h;rfl
 let(x,dx,v,O,D,q):=h;show{_,SS.nox<|BO (EC (pv 0) (pv 1) O),{(x),_,dx,_,O,D,T.JZ,T.Ll,Aa,q}}
def Sx(T:Tx K mg):EK K (EM K 481) Au []:=by have(oc,od,sl,kV,doc,pm,an,cdv,ct,e,lk,D):=HL.Ki T.Uo;let(o,t,n,h1,h2):=HL.xh (AE<|T.in_ (i:=1))<|AE (T.in_ (i:=2));rw[e];intro s us X j;rw[CI]at j ⊢;let(u,v,O):=zx j;show Jk O (X _ _ h1) h2 O O
def WW(T:Tx K mg):∅ 1 334 At (Kc .truth):=by show(T.mf 5 O).okA Wu ?_;intro 1 hr h;let(v,x,d,O,z,j,q):=h;show{_,qr<|qB (Bv K O) T.Ba AW (Cy (pv 1)<|RJ T.Vy Sv),?_};show{x,.ty "bool",_,_,_,O,j.ty,O,uz T d,q H λ_ _ e=>e}
def WY(T:Tx K mg):∅ 3 367 At (Kc .count):=by let(t,z):=T.Qf;show(T.mf 8 O).okA Wz ?_;intro 1 hr h;let(v,x,d,O,D,j,q):=h;show{_,qr<|qD (@DM P w K mg base T) hr T.Dl (AY (pv 1)<|Cy AD (UN z)),?_};show{x,d,_,_,O,j,q H λ_ _ e=>e}
def WU(T:Tx K mg):∅ 3 400 At (Kc .whole):=by let(t,j):=(T.ui 3 O);show(T.mf 11 O).okA Wr ?_;intro 1 hr h;let(v,x,d,O,D,z,q):=h;show{_,qr<|qD (@DM P w K mg base T) hr T.Dl (AY (pv 1)<|Cy (Bt Gi (fL VO<|UN j) AD) (UN j)),?_};show{_,O,x,d,_,_,O,z,q H λ_ _ e=>e}
def Zi(T:Tx K mg):∅ 3 454 At (Kc<|.upto (.int n)):=by show(T.mf 15 O).okA YR ?_;intro 1 hr h;let(v,x,d,O,(a,dx,u,O,ha,z),j,q):=h;obtain rfl:u=V.int n:=z;show{_,qr<|qD (@DM P w K mg base T) hr T.Dl (AY (pv 1)<|Cy AD (BH (pv 0) O)),?_};show{a,_,dx,_,_,O,ha,T.JY,T.Lj,O,x,d,_,_,O,j,q H λ_ _ e=>e}
def UP(T:Tx K mg):∅ 1 627 At (Kc<|.form z):=by show(T.mf 28 O).okA UJ ?_;intro 1 hr h;let(v,x,d,O,D,j,q):=h;show{_,qr Dk,q H λ_ _ e=>e}
def lm:V->Bool|.str z=>HK<|z.cps.getD 0 0|_=>ge
def nU(z:AT): ((lp z).map lm).all id=z.cps.toList.all HK:=by rw[lp,Br];show lJ _ _ _ _ λc _=>rfl
def Zk(T:Tx K mg):∅ 2 507 At (Kc<|.text (.int n)):=by
 show(T.mf 18 O).okA YU ?_;intro 1 hr h;let(v,x,d,O,(a,dx,u,O,ha,hu),F,q):=h;obtain rfl:u=V.int n:=hu;show{_,AJ (qi (PW.pt<|EX (Cn<|BA (qB (Bv K O) T.Ba AW<|Cy (pv 1) (RJ T.IU GF))) (ET<|qc Mz (qB Gk T.Ei De<|Cp (pv 1)) (BH (pv 0) O)))<|qr Dk)<|qr (qB (FC O) T.Rh Nx<|Cp (Yv ["sign"] [] [] .nil (cf<|pv 1) (λC s_ H_ fp=>BQ (i:=0) F3 O (Ci O)<|DN O) λC s_ H_ fp=>qD (@jq P w K mg base T) hr (T.d1 7 O λ_ _ _ _ _ _ _=>rfl)<|Cp (qB vx (T.y 7 O) K6<|Cp (pv 0)))),?_};show{x,.ty "str",_,_,_,O,F.ty,O,jC T d,_,O,?_};cases d with
 |str z=>
  let(O,j):=F;show BM {z,O,AU j Aa,a,_,dx,_,_,O,ha,T.JZ,T.Ll,O,_,O,DL (λh=>?_) λh=>?_}
  ·let e:DB (.text<|.int n) (.str z)=false:=by rw[DB];rw[h];rfl
   rw[e]at q;show q H λ_ _ e=>e
  let h':decide ((z.length:Int) >n)=false:=by simpa using h
  let e:DB (.text<|.int n) (.str z)=((lp z).map lm).all id:=by rw[DB];rw[h',nU];rfl
  rw[e]at q;show{z,O,TJ (Wk.str z) (by rw[Nh];show j) (X3 lm) (λy U H2 R s2 hR=>?_) λD H2 hD s2 e2=>?_};·let(c,hc,O):=Bb.mp U;show{Sub.set O,_,O,O,c,O,hR H2 λ_ _ e=>e}
  show{D,(lp z).map lm,O,?_,q _ s2};rw[Br];show e2
 |_=>
  let e:∀d,jE d=ge->DB (.text<|.int n) d=false:=λd hd=>by cases d <;> first|rfl|cases hd
  rw[e _ O]at q;show BX<|q H λ_ _ e=>e
def mE(T:Tx K mg)(hf:k.flat=Z)(j:k.fine):JR P w K mg base 3 "suits" k.cls (Kc k):=by cases k with|truth=>show JR.mono {T.Ow,_,_,_,(T.me 3 5 O O),WW T,(HL.b2 (T.mf 5 O) λ_ _ _ _ _ _ _ _=>rfl)} Aa|count=>show{T.Oy,_,_,_,(T.me 7 8 O O),WY T,(HL.b2 (T.mf 8 O) λ_ _ _ _ _ _ _ _=>rfl)}|whole=>show{T.Ov,_,_,_,(T.me 11 11 O O),WU T,(HL.b2 (T.mf 11 O) λ_ _ _ _ _ _ _ _=>rfl)}|upto n=>let(n,O):=j;show{T.JY,_,_,_,(T.me 16 15 O O),Zi T,(HL.b2 (T.mf 15 O) λ_ _ _ _ _ _ _ _=>rfl)}|text n=>let(n,O):=j;show JR.mono {T.JZ,_,_,_,(T.me 21 18 O O),Zk T,(HL.b2 (T.mf 18 O) λ_ _ _ _ _ _ _ _=>rfl)} Aa|form z=>show JR.mono {T.GD,_,_,_,(T.me 31 28 O O),UP T,(HL.b2 (T.mf 28 O) λ_ _ _ _ _ _ _ _=>rfl)} Aa|list k=>cases hf|bare=>show j.elim|thing d=>show j.elim
def Kl{j:Type}(l:List j)(p:j->Bool)(f:Nat->Bool)(h:∀i d,l[i]?=Y d->f i=p d): ((BN l.length).map f).all id=l.all p:=by
 let e: (BN l.length).map f=l.map p:=by
  apply List.ext_getElem?
  grind
 simp_all
def Zm(T:Tx K mg)(hf:k.flat=Z)(hk:k.fine):∅ 4 566 At (Kc<|.list k):=by
 let(t,hM):=(T.ui 5 O);show(T.mf 23 O).okA YW ?_;intro 1 hr h;let(v,x,d,O,(a,dx,u,O,ha,hu),hx,q):=h;show{_,AJ (qi (PW.pt<|EX (Cn<|BA (qB (Bv K O) T.Ba AW<|Cy (pv 1) (RJ T.FO EJ))) (ET<|qc Mz (qB Cd T.Ei De<|Cp (pv 1)) (UN hM)))<|qr Dk)<|qr (qB (FC O) T.Rh Nx<|Cp (Yv ["thing"] As [0] (.cons O (.inl O) O .nil) (DS<|pv 1) (λC s_ H_ fp=>BQ (i:=0) xV O (Ci O)<|DN O) λC s_ H_ fp=>WG (P:=P) (w:=w) (K:=K) (mg:=mg) (base:=base) (k:=3) O O O O O (Lz K O (pv 1) O) (hr.mono Aa) DU<|Cp (pv 0))),?_};show{x,.ty "list",_,_,_,O,hx.ty,O,uy T d,_,O,?_};cases d with
 |lst l=>
  let(p,xs,O,hp,F,hl):=hx;let z:=F.len;show BM {p,_,O,.inl<|Cg.of hp,_,O,?_};rw[z];show DL (λh=>?_) λh=>?_
  ·let e:DB (.list k) (.lst l)=false:=by rw[DB];rw[h];rfl
   rw[e]at q;show q H λ_ _ e=>e
  let h':decide ((l.length:Int) >20)=false:=by simpa using h
  let e:DB (.list k) (.lst l)=l.all (DB k):=by rw[DB];rw[h'];rfl
  rw[e]at q;show{p,O,{_,Cg.of hp},Et (Wk.list<|Cg.of hp) (by rw[z];show hl) (λj=>.bl<|match l[j]? with|some d=>DB k d|none=>ge) (λj y hy H2 R s2 hR=>?_) λD H2 hD s2 e2=>?_}
  ·let(d,hd,ht):=F.at j y hy;let U:=hu.sm<|Sm.of s2;have(b,bx,fs,O,hb,a2):=U.ins hk.isK;show{Sub.set O,a,_,dx,_,_,O,s2 _ _ ha,T.Jl,T.Jx,O,b,_,bx,fs,_,O,hb,a2 _ Aa Aa Aa,mE T hf hk,_,y,d,O,U,Th.sm (Sm.of s2) d y ht,λH3 s3=>?_}
   grind
  show{D,(BN xs.length).map λj=>(match l[j]? with|some d=>DB k d|none=>ge),O,?_,?_};·simp_all
  rw[z,Kl l (DB k) _ (λi d hd=>by rw[hd])];show q _ s2
 |_=>
  let e:∀d,Sd d=ge->DB (.list k) d=false:=λd hd=>by cases d <;> first|rfl|cases hd
  rw[e _ O]at q;show BX<|q H λ_ _ e=>e
def vj(T:Tx K mg)(j:k.fine):JR P w K mg base 4 "suits" k.cls (Kc k):=by
 by_cases hf:k.flat=Z;·show JR.mono (mE T hf j) Aa
 cases k with|list k=>show{T.Jl,_,_,_,(T.me 26 23 O O),Zm T j.1 j.2,(HL.b2 (T.mf 23 O) λ_ _ _ _ _ _ _ _=>rfl)}|_=>show A1Q O hf
def Kx.isOf:Kx->Nat->Bool|.truth,n=>n==0||n==1|.count,n=>n==0||n==2|.whole,n=>n==0||n==3|.bare,n=>n==0|.upto _,n=>n==0||n==4|.text _,n=>n==0||n==5|.form _,n=>n==0||n==7|.list _,n=>n==0||n==6|.thing _,_=>ge
def Kx.may:Kx->Prop|.thing d=>d= .non\/∃z,d= .str z|.list k=>k.may|_=>True
noncomputable def kcA:List AH:=[302,344,377,410,464,517,576,630]
def UR(T:Tx K mg)(hm:k.may)(h:Qa H k v):∃t,IG K H v t/\BC K t (.ref 302)=Y (k.isOf 0)/\BC K t (.ref 344)=Y (k.isOf 1)/\BC K t (.ref 377)=Y (k.isOf 2)/\BC K t (.ref 410)=Y (k.isOf 3)/\BC K t (.ref 464)=Y (k.isOf 4)/\BC K t (.ref 517)=Y (k.isOf 5)/\BC K t (.ref 576)=Y (k.isOf 6)/\BC K t (.ref 630)=Y (k.isOf 7):=by
 cases k with
 |truth=>let(a,dx,O,ha):=h;show{_,(T.mP 1 O) ha,(T.q 8 O),(T.q 9 O),(T.q 10 O),(T.q 11 O),(T.q 12 O),(T.q 13 O),(T.q 14 O),(T.q 15 O)}|count=>let(a,dx,O,ha):=h;show{_,(T.mP 2 O) ha,(T.q 16 O),(T.q 17 O),(T.q 18 O),(T.q 19 O),(T.q 20 O),(T.q 21 O),(T.q 22 O),(T.q 23 O)}|whole=>let(a,dx,O,ha):=h;show{_,(T.mP 3 O) ha,(T.q 24 O),(T.q 25 O),(T.q 26 O),(T.q 27 O),(T.q 28 O),(T.q 29 O),(T.q 30 O),(T.q 31 O)}|bare=>let(a,dx,O,ha):=h;show{_,(T.mP 0 O) ha,(T.q 0 O),(T.q 1 O),(T.q 2 O),(T.q 3 O),(T.q 4 O),(T.q 5 O),(T.q 6 O),(T.q 7 O)}|upto d=>let(a,dx,u,O,ha,_):=h;show{_,(T.mP 4 O) ha,(T.q 32 O),(T.q 33 O),(T.q 34 O),(T.q 35 O),(T.q 36 O),(T.q 37 O),(T.q 38 O),(T.q 39 O)}|text d=>let(a,dx,u,O,ha,_):=h;show{_,(T.mP 5 O) ha,(T.q 40 O),(T.q 41 O),(T.q 42 O),(T.q 43 O),(T.q 44 O),(T.q 45 O),(T.q 46 O),(T.q 47 O)}|form d=>let(a,dx,u,O,ha,_):=h;show{_,(T.mP 7 O) ha,(T.q 56 O),(T.q 57 O),(T.q 58 O),(T.q 59 O),(T.q 60 O),(T.q 61 O),(T.q 62 O),(T.q 63 O)}|list d=>let(a,dx,u,O,ha,_):=h;show{_,(T.mP 6 O) ha,(T.q 48 O),(T.q 49 O),(T.q 50 O),(T.q 51 O),(T.q 52 O),(T.q 53 O),(T.q 54 O),(T.q 55 O)}
 |thing d=>
  rcases hm with rfl|⟨z,rfl⟩;·show{_,Th.ty h,(T.qt 0 O),(T.qt 1 O),(T.qt 2 O),(T.qt 3 O),(T.qt 4 O),(T.qt 5 O),(T.qt 6 O),(T.qt 7 O)}
  show{_,Th.ty h,(T.qt 9 O),(T.qt 10 O),(T.qt 11 O),(T.qt 12 O),(T.qt 13 O),(T.qt 14 O),(T.qt 15 O),(T.qt 16 O)}
def V4(k:Kx):k.isOf 0=k.isK:=by cases k <;> rfl
def LW(k:Kx):Dt->Dt|.non=>Pf k|d=>d
inductive UY(vs:List V)(H:Hp)(Q:VK):Prop|mk (kv dv k d:_) (_:vs=[kv,dv]) (_:Kx.may k) (_:Qa H k kv) (_:Th H d dv) (_:∀u H',AZ H H'->Th H' (LW k d) u->Fl H u->Q u H')
def Wb:Sp:=λvs H Q _=>UY vs H Q
def Q4(h:Th H d v)(j:Sd d=ge):Fl H v:=λm e xs z=>by
 subst e;cases d with|non=>cases h|bl b=>cases h|int i=>cases h|str z=>cases h.1|lst l=>cases j|dct=>let(a,e,h):=h;cases e;rw[h]at z;cases z
def WL(T:Tx K mg):∅ 2 639 Ad Wb:=by
 show(T.df 8 O).okA Wn ?_;intro 1 hr h;let(kv,dv,k,d,O,hm,hk,hd,q):=h;show{_,AJ (qi (PW.pt<|OG (qc OK (pv 1) DG) (Ly<|BA (qB (Bv K O) T.Ba AW<|Cy (pv 0) (My<|T.mc 11 O))))<|qr (FQ (P:=P) (w:=w) (K:=K) (mg:=mg) (base:=base) (k:=1) O O O O O (pv 0) (hr.mono Aa) DU))<|AJ (qi (BA<|qB (Bv K O) T.Ba AW (Cy (pv 1)<|RJ T.FO EJ))<|qr (qT EV T.FO EJ<|Cp (pv 1))) (qr<|pv 1),?_};have(t,ty,U,_):=UR T hm hk;rw[V4]at U;show{O,_,O,?_};by_cases hn:dv= .non
 ·obtain rfl:d= .non:=by cases d with|non=>rfl|bl b=>rw[hn]at hd;cases hd|int i=>rw[hn]at hd;cases hd|str z=>rw[hn]at hd;cases hd.1|lst l=>let(a,xs,e,_):=hd;rw[hn]at e;cases e|dct=>let(a,e,_):=hd;rw[hn]at e;cases e
  subst hn;show Nt O {kv,.ref 302,_,_,_,O,ty,O,U,_,O,?_};cases F:k.isK with
  |true=>
   let(a,dx,fs,O,ha,hf):=hk.ins F;show BX {a,_,dx,fs,_,O,ha,hf _ Aa Aa Aa,vm T F,_,O,λu H' s' hu hf=>?_};show q u H' s' hu hf
  |false=>
   show BM {.non,.ty "list",_,_,_,O,(show Th H .non .non from O).ty,O,uy T .non,_,O,BM<|q .non H (AZ.refl _) ?_ (λm e=>by cases e)};cases k with|thing d=>show O|_=>cases F
 let D:LW k d=d:=by cases d with|non=>show A1Q hd hn|_=>rfl
 rw[D]at q;show FM hn {dv,.ty "list",_,_,_,O,hd.ty,O,uy T d,_,O,?_};cases d with
 |lst l=>
  let(a,xs,O,ha,hx,hl):=hd;show BX {a,xs,O,.inl<|Cg.of ha,λp j=>q (.ref p) _ (Bd j) {p,xs,O,Az,dJ.sm (Sm.of<|Bd j) _ _ hx,hl} λm e xs z=>by cases e;rw[j]at z;cases z}
 |_=>show BM<|q _ H (AZ.refl _) hd (Q4 hd O)
structure Fx where
 num:Dt
 nam:Dt
 kind:Kx
 must:Dt
 dfl:Dt
def Vw(H:Hp)(f:Fx)(v:V):Prop:=∃a dx n z k m d,v= .ref a/\H a=Y (.ins 657 dx [("number",n),("name",z),("kind",k),("must",m),("default",d)])/\Th H f.num n/\Th H f.nam z/\Qa H f.kind k/\Th H f.must m/\Th H f.dfl d
def Vw.sf(s:Sf H H'):Vw H f v->Vw H' f v:=λj=>by
 let(a,dx,n,z,k,m,d,e,h,h1,h2,h3,F,D):=j;show{a,dx,n,z,k,m,d,e,s _ _ h O,Th.sn s.sn _ _ h1,Th.sn s.sn _ _ h2,h3.sn s.sn,Th.sn s.sn _ _ F,Th.sn s.sn _ _ D}
inductive Ex where
 |fld (f:Fx)|thing (d:Dt)
def Ex.may:Ex->Prop|.fld f=>f.kind.may|.thing d=>d= .non\/∃z,d= .str z
def Vx(H:Hp):Ex->V->Prop|.fld f,v=>Vw H f v|.thing d,v=>Th H d v
def Vx.sf(s:Sf H H'):∀{e:Ex} {v:V},Vx H e v->Vx H' e v|.fld _,_,h=>Vw.sf s h|.thing d,v,h=>Th.sn s.sn d v h
def Vx.sm(s:Sm H H')(h:Vx H e v):Vx H' e v:=Vx.sf s.sf h
abbrev Es(H:Hp):List Ex->List V->Prop:=Paired<|Vx H
def Es.sf(s:Sf H H')(h:Es H es xs):Es H' es xs:=Paired.mapP h λ_ _ z=>Vx.sf s z
def Es.sm(s:Sm H H')(h:Es H es xs):Es H' es xs:=Es.sf s.sf h
def zo(x:AH)(H H':Hp):Prop:=∀b o,b≠x->H b=Y o->H' b=Y o
inductive qC(vs:List V)(H:Hp)(Q:VK):Prop|mk (x dx n z kv m dv k d:_) (_:vs=[.ref x,n,z,kv,m,dv]) (_:H x=some (.ins 657 dx [])) (_:Kx.may k) (_:Qa H k kv) (_:Th H d dv) (_:∀u H',zo x H H'->H' x=some (.ins 657 dx [("number",n),("name",z),("kind",kv),("must",m),("default",u)])->Th H' (LW k d) u->Fl H u->Q .non H')
def We:Sp:=λvs H Q _=>qC vs H Q
def LY(T:Tx K mg):EE P w K mg base SU 3 654 (EM K 654) Av We:=by
 have(oc,od,sl,kV,doc,pm,an,cdv,ct,e,lk,D):=HL.Ki T.Na;rw[e];show gA lk D YZ (λvs H Q E h=>?_) λA outer s H vs Q E hr h=>?_;·let(x,dx,n,z,kv,m,dv,k,d,O,_):=h;rfl
 let(x,dx,n,z,kv,m,dv,k,d,O,j,hm,hk,hd,q):=h;show{_,SS.nox<|AJ (EC (pv 0) (pv 1) O) (AJ (EC (pv 0) (pv 2) O)<|AJ (EC (pv 0) (pv 3) O) (AJ (EC (pv 0) (pv 4) O)<|BO (EC (pv 0) (qD (@WL P w K mg base T) hr (T.d2 8 O λ_ _ _ _ _ _ _ _=>rfl)<|Cy (pv 3) (pv 5)) O))),?_};show{x,_,dx,_,O,j,T.Ck,T.Fc,Aa,?_};let s1:Sn H (upd H x<|.ins 657 dx [("number",n)]):=Sn.upd j O;show{x,_,dx,_,O,Az,T.Ck,T.Gh,by change 1<1000;decide,?_};rw[Pu];show{x,_,dx,_,O,Az,T.Ck,T.Dq,by change 2<1000;decide,?_};rw[Pu];show{x,_,dx,_,O,Az,T.Ck,T.Hl,by change 3<1000;decide,?_};rw[Pu];let F:Sn H (upd H x<|.ins 657 dx [("number",n),("name",z),("kind",kv),("must",m)]):=Sn.upd j O;show{kv,dv,k,d,O,hm,hk.sn F,Th.sn F _ _ hd,λu H' s' hu hf=>?_};show{x,_,dx,_,O,s' _ _ Az,T.Ck,T.Fp,by change 4<1000;decide,?_};show q u _ (λb o nb eb=>?_) Az (Th.sn (Sn.upd (s' _ _ Az) O) _ _ hu) (λm e xs z=>hf m e xs<|by rw[AM (λy=>by rw[y,j]at z;cases z)];show z);rw[AM nb];show s' _ _ ?_;rw[AM nb];show eb
def QD(T:Tx K mg):EK K (EM K 654) Av []:=by have(oc,od,sl,kV,doc,pm,an,cdv,ct,e,lk,D):=HL.Ki T.Na;let(o,n,h1,h2):=HL.zF T.dW;rw[e];intro s us X j;rw[CI]at j ⊢;let(u,v,a,b,c,d,O):=P7 j;show Jk O (X _ _ h1) h2 O O
def Zy(T:Tx K mg):EK K (EM K 654) Av [.none]:=by
 have(oc,od,sl,kV,doc,pm,an,cdv,ct,e,lk,F):=HL.Ki T.Na;let(o,n,h1,h2):=HL.zF T.dW;rw[e];intro s us X z;let j:us.length=5:=by rw[AS]at z;show Nat.succ.inj z
 let(u,v,a,b,c,O):=P8 j;show Jk O (X _ _ h1) h2 O O
def ZC(H0 H:Hp)(f:Fx)(v:V):Prop:=∃a dx n z k m d,v= .ref a/\H a=Y (.ins 657 dx [("number",n),("name",z),("kind",k),("must",m),("default",d)])/\Th H f.num n/\Th H f.nam z/\Qa H f.kind k/\Th H f.must m/\Th H f.dfl d/\Fl H0 d
def ZC.isF:ZC H0 H f v->Vw H f v:=λj=>by
 let(a,dx,n,z,k,m,d,e,h,h1,h2,h3,F,D,_):=j;show{(a),dx,n,z,k,m,d,e,h,h1,h2,h3,F,D}
def ZC.back(s:AZ H0 H1):ZC H1 H f v->ZC H0 H f v:=λj=>by
 let(a,dx,n,z,k,m,d,e,h,h1,h2,h3,U,F,D):=j;show{a,dx,n,z,k,m,d,e,h,h1,h2,h3,U,F,D.back s}
def QR{H:Hp}{Q:VK}{x dx:AH}{n z kv m dv:V}{f:Fx}{d:Dt}(hx:H x=S)(F:H dx=S)(D:dx≠x)(hm:f.kind.may)(h1:Th H f.num n)(h2:Th H f.nam z)(h3:Qa H f.kind kv)(h4:Th H f.must m)(h5:Th H d dv)(e5:f.dfl=LW f.kind d)(q:∀v H',AZ H H'->ZC H H' f v->Q v H'):We (.ref x::[n,z,kv,m,dv]) (upd (upd H dx<|.own x) x<|.ins 657 dx []) (λv H2=>v= .non/\Q (.ref x) H2) E0:=by
 let j:AZ H (upd (upd H dx<|.own x) x<|.ins 657 dx []):=by show(Bd F).trans (Bd ?_);rw[AM (CL D)];show hx
 show{x,dx,n,z,kv,m,dv,f.kind,d,O,Az,hm,h3.sm<|Sm.of j,Th.sm (Sm.of j) _ _ h5,λu H' bt e hu hf=>{O,?_}};let s1:AZ H H':=λa o U=>bt a o (λz=>by rw[z,hx]at U;cases U)<|j a o U;show q _ _ s1 {x,dx,n,z,kv,m,u,O,e,Th.sm (Sm.of s1) _ _ h1,Th.sm (Sm.of s1) _ _ h2,h3.sm<|Sm.of s1,Th.sm (Sm.of s1) _ _ h4,?_,hf.back j};rw[e5];show hu
def GO{z j:Type}{R:z->j->Prop}:∀{l:List z} {m:List j},Paired R l m->∀(i:Nat) y,m[i]?=Y y->∃x,l[i]?=Y x/\R x y|_,_,.nil,i,y,e=>by simp at e|_,_,.cons a r,0,y,e=>by simp at e;show{_,O,e ▸ a}|_,_,.cons a r,i+1,y,e=>by simp at e;let(x,h1,h2):=GO r i y e;show{x,by simpa using h1,h2}
def Sm.lam(h:Lm H)(s:be eJ H H'):Sm H H':=λa o e n=>s a o (h.ne e λps z=>by rw[z]at n;cases n) e
def Lm.same(h:Lm H)(s:AZ H H'):Lm H':=by
 rcases h with h|⟨c,h1,h2⟩;·show .inl<|s _ _ h
 show .inr {c,s _ _ h1,s _ _ h2}
def qZ(d:Dt):Bool:=jF d&& !FA d
def VM:Ex->Bool|.fld f=>qZ f.num|.thing _=>ge
def mU(h:qZ d=Z):∃i,d= .int i:=by cases d with|int i=>show{(i),O}|_=>cases h
def uC:Ex->Int|.fld f=>(match f.num with|.int i=>i|_=>0)|.thing _=>0
def Vr: ((Ah:List AT) ++ ([]:List AT)).Nodup:=⋯
def il(H:Hp)(l:AH)(xs:List V):Prop:=H l=Y (.lst xs)
def il.same(s:AZ H H')(h:il H l xs):il H' l xs:=s _ _ h
def Wk.tup(h:Ec K H1 l xs):Wk (Itt K l) H1 xs where
 go:=λH i s hi=>{_,xs[i],s.seqT h,AI hi}
 stop:=λH i s hi=>{_,s.seqT h,()}
 yld:=λH i x H' s hi y=>{y.1,y.2 _<|s.seqT h}
def il.it(h:il H l xs)(j:∀Q:VK,Q (.ref l) H->te σ H Q)(hR:∀J,Wk J H xs->R J H):zO K te σ H R:=j _ {l,O,{_,Cg.of h},hR _<|Wk.list (Cg.of h)}
def il.srt(h:il H l xs)(z:∀Q:VK,Q (.ref l) H->te σ H Q)(hL:LG H T j q)(hR:∃ks,xs.length<64/\ks.length=xs.length/\(∀(i:Nat) (v:V) (k:Int),xs[i]?=Y v->ks[i]?=Y k->∃a C dx fs,v= .ref a/\H a=Y (.ins C dx fs)/\QX K C/\Hy K C fld/\fs.lookup fld=Y (.int k))/\∀D ys H3,H D=S->be T H H3->LG H3 T j q->H3 D=Y (.lst ys)->Vv ks xs ys->Q (.ref D) H3):rA K T j q fld te σ H Q:=by let(ks,r):=hR;show z _ {(hL),l,xs,ks,O,h,r}
def L4(es es':List Ex):Prop:=(∀e∈es,VM e=Z)->(es'.map uC).Pairwise (·<= ·)
def uY:∀{es:List Ex} {xs:List V},Es H es xs->Paired (λ(e:Ex) (q:Int×V)=>Vx H e q.2/\uC e=q.1) es ((es.map uC).zip xs)|_,_,.nil=>.nil|_,_,.cons a r=>.cons {(a),O}<|uY r
def XB:∀{es:List Ex} {qs:List (Int×V)},Paired (λ(e:Ex) (q:Int×V)=>Vx H e q.2/\uC e=q.1) es qs->Es H es (qs.map SK)/\es.map uC=qs.map Prod.fst|_,_,.nil=>{.nil,O}|_,_,.cons a r=>{.cons a.1 (XB r).1,by rw[AV,AV,a.2,(XB r).2]}
inductive XX(vs:List V)(H:Hp)(Q:VK):Prop|mk (v:_) (_:vs=[v]) (_: ((∃d,Th H d v/\Sd d=false/\∀H',AZ H H'->Q .non H')\/(∃l xs es,v= .ref l/\il H l xs/\Es H es xs/\(∀e∈es,Ex.may e)/\xs.length<64/\Lm H/\∀D ys es' H',Sm H H'->Lm H'->H' D=some (.lst ys)->Es H' es' ys->es'.Perm es->L4 es es'->Q (.ref D) H')))
def YG:Sp:=λvs H Q _=>XX vs H Q
def uA(h1:BC K t a=Y x)(h2:BC K t b=Y y):Em K t [a,b]=Y (x||y):=by
 unfold Em;rw[h1];cases x with
 |true=>rfl
 |false=>
  unfold Em;rw[h2];cases y with|true=>rfl|false=>rfl
def A0n(h1:BC K t a=Y x)(h2:BC K t b=Y y)(h3:BC K t c=Y z):Em K t [a,b,c]=Y (x||y||z):=by
 unfold Em;rw[h1];cases x with
 |true=>rfl
 |false=>
  rw[uA h2 h3,Kq]
def U9(T:Tx K mg)(hm:e.may)(h:Vx H e v):∃t,IG K H v t/\BC K t (.ref 657)=Y (match e with|.fld _=>Z|.thing _=>ge):=by
 cases e with
 |fld f=>let(a,dx,n,z,k,m,d,O,ha,_):=h;show{_,(T.mP 8 O) ha,(T.q 71 O)}
 |thing d=>
  rcases hm with rfl|⟨z,rfl⟩;·show{_,Th.ty h,(T.qt 8 O)}
  show{_,Th.ty h,(T.qt 17 O)}
def il.kit(T:Tx K mg)(h:il H l xs):∃t,IG K H (.ref l) t/\Em K t [.type "list",.type "tuple"]=Y true:={_,.lst h,uA T.Fu T.Rj}
def Zd(T:Tx K mg)(kb:K.In base):EE P w K mg base SU 3 666 (EM K 666) ["fields"] YG:=by
 have(oc,od,sl,kV,doc,pm,an,cdv,ct,e,lk,c6):=HL.Ki<|T.de 9 O;let c5:=T.UF e;let hB:base.BuiltinsAt mg eJ:=HL.X2 kb (HL.KR (f:=id) 1 T.mb O) (T.g _ _<|T.nr 27 O) Aa Aa Aa;let hC:=HL.zP kb<|HL.KR (f:=id) 0 T.mb O;rw[e];show gA lk c6 YM (λvs H Q E h=>?_) λA outer s H vs Q E hr h=>?_
 ·let(v,O,_):=h;rfl
 let(v,O,h):=h;show{_,SS.nox<|AJ (qi (Cn<|BA (qB (Su K O) T.Ba AW<|Cy (pv 0) (DC<|Cy (RJ T.FO EJ) (RJ T.Rg Pe))))<|qr DG) (AJ (qi (BA<|qB (FC O) T.Rh Nx (Cp<|Yv Ah [] [] .nil (DS<|pv 0) (λC s_ H_ fp=>BQ (i:=0) Vr O (Ci O)<|DN O) (λC s_ H_ fp=>DT (qB (Bv K O) T.Ba AW<|Cy (pv 0) (My T.On))<|ED (qD (@OO P w K mg base T) hr T.Ot<|Cp (Lz K O (pv 0) O)))))<|qr (jg (y:="field") (fld:="number") (c:=yN) (T:=eJ) (pv 0) O T.dL O O c5 hC hB {λ_ _ _ _=>rfl,O,O,O,Ab,O,λ_ _=>rfl,Aa} hr.depth))<|qr (qT EV T.FO EJ<|Cp (pv 0))),?_};show{zl 2,λtp b8=>?_};let s1:AZ H (upd H tp<|.tup (["list","tuple"].map V.ty)):=Bd b8;rcases h with⟨d,hd,hn,q⟩|⟨l,xs,es,rfl,hl,he,hm,hz,hL,q⟩;·show{v,tp,_,_,["list","tuple"],O,Az,(Th.sm (Sm.of s1) _ _ hd).ty,uA (uy T d)<|A0l T d,_,O,?_};rw[hn];show BX<|q _ s1
 let a5:=hl.same s1;let(b1,b7,c3):=a5.kit T;show{.ref l,tp,b1,_,["list","tuple"],O,Az,b7,c3,_,O,BM ?_};show a5.it (te:=nj 0) (σ:=[Y (.ref l)]) (λQ q=>q) λJ WJ=>Et WJ () (λj=>.bl<|match es[j]? with|some e=>VM e|none=>ge) (λj y hy H2 R s2 hR=>?_) λD H2 hD s2 e2=>?_
 ·let(e,hj,b5):=GO he j y hy;let a3:=Vx.sm (Sm.of<|s1.trans s2) b5;let c1:=hm e<|AN hj;let(t,ty,kt):=U9 T c1 a3;let a2:=hR H2 λ_ _ e=>e;rw[hj]at a2;show{Sub.set O,y,.ref 657,_,_,_,O,ty,O,kt,_,O,?_};cases e with
  |fld f=>
   let(a,dx,n,z,k,m,d,O,ha,h1,_):=a3;show BX {(a),_,dx,_,_,O,ha,T.Ck,T.Fc,O,n,f.num,O,h1,a2}
  |thing d=>show BM a2
 show{D,(BN xs.length).map λj=>(match es[j]? with|some e=>VM e|none=>ge),O,by rw[Br];show e2,_,O,?_};let F:=he.length;let s3:=s1.trans s2;let a7:=Es.sm (Sm.of s3) he;rw[<-F,Kl es VM _ (λi d hd=>by rw[hd])];show DL (λh=>?_) λh=>?_
 ·let hw:=Bz.mp h;let c4: (es.map uC).length=xs.length:=by rw[Ay];show F
  show(hl.same s3).srt (λQ q=>q) (hL.same s3) {es.map uC,hz,c4,(λi v k h1 h2=>?_),λD2 ys H4 d8 sT c7 b4 ho=>?_}
  ·let(e,hj,hy):=GO a7 i v h1;let a4:=hw e<|AN hj;rw[AQ,hj]at h2;obtain rfl:uC e=k:=AE h2;cases e with
   |thing d=>cases a4
   |fld f=>
    let(i',hi):=mU<|a4;have(a,dx,n,z,kk,m,d,O,ha,a8,_):=hy;let ek:uC (.fld f)=i':=by change(match f.num with|.int i=>i|_=>0)=i';rw[hi]
    rw[hi]at a8;obtain rfl:n=V.int i':=a8;rw[ek];show{(a),_,dx,_,O,ha,T.Ck,T.Fc,O}
  let sm:=Sm.lam (hL.same s3) sT;have(qs,pq,O,b9):=ho;let(es',pe,re):=L2.Paired.perm pq.symm<|uY (Es.sm sm a7);let(r1,r2):=XB re;show q D2 _ es' H4 ((Sm.of s3).trans sm) c7 b4 r1 pe λ_=>by rw[r2];show JH.mpr b9
 show{l,xs,O,(.inl<|Cg.of (hl.same s3)),λp hp=>?_};let s4:=s3.trans<|Bd (u:=.lst xs) hp;show q p xs es _ (Sm.of s4) (hL.same s4) Az (Es.sm (Sm.of s4) he) (.refl _) λhw=>A1Q (Bz.mpr hw) h
open PySem.W (sortI)
def gd: ((["number"]:List AT) ++ ([]:List AT)).Nodup:=⋯
inductive UX(vs:List V)(H:Hp)(Q:VK):Prop|mk (v:_) (_:vs=[v]) (_: ((v= .non/\rh H Q [])\/∃(l:AH) (ns:List Int),v= .ref l/\il H l (ns.map V.int)/\ns.length<64/\rh H Q ((sortI ns).map V.int)))
def Wa:Sp:=λvs H Q _=>UX vs H Q
def vI{j:Type}(l:List j): (l.map λ_=>Z).all id=true:=by simp
def WK(T:Tx K mg):∅ 2 671 ["numbers"] Wa:=by
 show(T.df 10 O).okA Wm ?_;intro 1 hr h;let(v,O,h):=h;show{_,AJ (qi (qc OK (pv 0) DG)<|qr (Cq Ed))<|AJ (qi (Cn<|BA (qB (Su K O) T.Ba AW<|Cy (pv 0) (DC<|Cy (RJ T.FO EJ) (RJ T.Rg Pe))))<|qr DG) (AJ (qi (BA<|qB (FC O) T.Rh Nx (Cp<|Yv ["number"] [] [] .nil (DS<|pv 0) (λC s_ H_ fp=>BQ (i:=0) gd O (Ci O)<|DN O) (λC s_ H_ fp=>qD (@OO P w K mg base T) hr T.Ot<|Cp (pv 0))))<|qr (qB TK T.dL pP<|Cp (pv 0)))<|qr (qT EV T.FO EJ<|Cp (pv 0))),?_};show{O,_,O,?_};rcases h with⟨rfl,q⟩|⟨l,ns,rfl,hl,hz,q⟩;·show Nt O {zl 0,λp j=>q p _ j (Bd j) Az}
 show FM (by intro z;cases z) {zl 2,λtp a3=>?_};let s1:AZ H (upd H tp<|.tup (["list","tuple"].map V.ty)):=Bd a3;let F:=hl.same s1;let(U,a2,a4):=F.kit T;show{.ref l,tp,U,_,["list","tuple"],O,Az,a2,a4,_,O,BM ?_};show F.it (te:=nj 0) (σ:=[Y (.ref l)]) (λQ q=>q) λJ WJ=>TJ WJ (by rw[Ay];lia) (λ_=>.bl Z) (λy hy H2 R s2 hR=>?_) λD H2 hD s2 e2=>?_;·let(i,hi,O):=Bb.mp hy;show{Sub.set O,.int i,.int i,O,O,hR H2 λ_ _ e=>e}
 let s3:=s1.trans s2;show{D,(ns.map V.int).map λ_=>Z,O,by rw[Br];show e2,_,O,?_};rw[vI];let fin:=λp j=>q p _ (s3.free j) (s3.trans<|Bd j) Az;show BX {l,ns,O,Cg.of<|hl.same s3,hz,fin}
structure Gx where
 choice:Bool
 nam:Dt
 fields:Option (List Ex)
 gone:List Int
def O4(c:Bool):AH:=if c then 750 else 731
def dC(H:Hp):Option (List Ex)->V->Prop|none,v=>v= .non|some es,v=>∃l xs,v= .ref l/\H l=Y (.lst xs)/\Es H es xs
def TW(H:Hp)(g:Gx)(v:V):Prop:=∃a dx z f l,v= .ref a/\H a=Y (.ins (O4 g.choice) dx [("name",z),("fields",f),("gone",.ref l)])/\Th H g.nam z/\dC H g.fields f/\H l=Y (.lst<|g.gone.map V.int)
def dC.sf(s:Sf H H'):∀{o:Option (List Ex)} {v:V},dC H o v->dC H' o v|none,_,h=>h|some _,_,⟨l,xs,e,h,r⟩=>{l,xs,e,s _ _ h O,Es.sf s r}
def dC.sm(s:Sm H H')(h:dC H o v):dC H' o v:=h.sf s.sf
def TW.sm(s:Sm H H'):TW H g v->TW H' g v:=λj=>by
 let(a,dx,z,f,l,e,h,h1,h2,h3):=j;show{a,dx,z,f,l,e,s _ _ h O,Th.sm s _ _ h1,h2.sm s,s _ _ h3 O}
def qH(H:Hp):Option (List Ex)->V->Prop|none,v=>∃d,Th H d v/\Sd d=ge|some es,v=>∃l xs,v= .ref l/\il H l xs/\Es H es xs/\(∀e∈es,Ex.may e)/\xs.length<64
def hU:Option (List Ex)->Option (List Ex)->Prop|none,none=>True|some a,some b=>a.Perm b/\L4 b a|_,_=>False
def qG(H:Hp)(ns:List Int)(v:V):Prop:=(v= .non/\ns=[])\/∃l,v= .ref l/\il H l (ns.map V.int)/\ns.length<64
def n4(x:AH)(H H':Hp):Prop:=∀b o,b≠x->H b=Y o->tbF o=ge->H' b=Y o
def il.sf(s:Sf H H')(h:il H l xs):il H' l xs:=s _ _ h O
def qH.sf(s:Sf H H'):∀{o:Option (List Ex)} {v:V},qH H o v->qH H' o v|none,_,⟨d,h,n⟩=>{d,Th.sn s.sn _ _ h,n}|some _,_,⟨l,xs,e,h,r,m,z⟩=>{l,xs,e,h.sf s,Es.sf s r,m,z}
def qG.sf(s:Sf H H'):qG H ns v->qG H' ns v|.inl h=>.inl h|.inr ⟨l,e,h,z⟩=>.inr {l,e,h.sf s,z}
def Lm.put(h:Lm H)(j:H x=Y (.ins C dx fs)):Lm (upd H x u):=by
 let ne:∀{b:AH} {o:HO},H b=Y o->(∀C dx fs,o≠ .ins C dx fs)->upd H x u b=Y o:=λe n=>by
  rw[AM];·show e
  grind
 rcases h with h|⟨c,h1,h2⟩;·show .inl (ne h λ_ _ _ z=>by cases z)
 show .inr {c,ne h1 (λ_ _ _ z=>by cases z),ne h2 λ_ _ _ z=>by cases z}
inductive we(C:AH)(vs:List V)(H:Hp)(Q:VK):Prop|mk (x dx z fv gv o ns:_) (_:vs=[.ref x,z,fv,gv]) (_:H x=some (.ins C dx [])) (_:qH H o fv) (_:qG H ns gv) (_:Lm H) (_:∀u l o' H',n4 x H H'->Lm H'->H' x=some (.ins C dx [("name",z),("fields",u),("gone",.ref l)])->dC H' o' u->hU o' o->H' l=some (.lst<|(sortI ns).map V.int)->Q .non H')
def kY(C:AH):Sp:=λvs H Q _=>we C vs H Q
structure zn(K:AB)(C:AH):Prop where
 cl:QX K C
 n1:Hy K C "name"
 n2:Hy K C "fields"
 n3:Hy K C "gone"
 pf:∀dx fs,pfO (.ins C dx fs)=ge
def aO(T:Tx K mg):zn K 731:={T.ZS,(T.fo 12 O),(T.fo 13 O),(T.fo 14 O),λ_ _=>rfl}
def aP(T:Tx K mg):zn K 750:={T.ZT,(T.fo 15 O),(T.fo 16 O),(T.fo 17 O),λ_ _=>rfl}
def QS(T:Tx K mg)(c:Bool):zn K (O4 c):=by
 cases c;·show aO T
 show aP T
def RU(T:Tx K mg)(kb:K.In base)(U:zn K C):EE P w K mg base SU 4 686 (EM K 686) Aw (kY C):=by
 have(oc,od,sl,kV,doc,pm,an,cdv,ct,e,lk,b6):=HL.Ki T.Oo;rw[e];show gA lk b6 bV (λvs H Q E h=>?_) λA outer s H vs Q E hr h=>?_;·let(x,dx,z,fv,gv,o,ns,O,_):=h;rfl
 let(x,dx,z,fv,gv,o,ns,O,hx,hf,hg,hL,q):=h;show{_,SS.nox<|AJ (EC (pv 0) (pv 1) O) (Bk (EC (pv 0) (qD (@Zd P w K mg base T kb) hr (T.d1 9 O λ_ _ _ _ _ _ _=>rfl)<|Cp (pv 2)) O)<|BO (EC (pv 0) (qD (@WK P w K mg base T) hr (T.d1 10 O λ_ _ _ _ _ _ _=>rfl)<|Cp (pv 3)) O)),?_};show{x,_,dx,_,O,hx,U.cl,U.n1,Aa,?_};let s1:Sf H (upd H x<|.ins C dx [("name",z)]):=Sf.upd hx<|U.pf _ _;let a5:Lm (upd H x<|.ins C dx [("name",z)]):=hL.put hx;let F:∀{H1:Hp} {u:V},H1 x=Y (.ins C dx [("name",z)])->Sf H1 (upd H1 x<|.ins C dx [("name",z),("fields",u)]):=λh=>Sf.upd h<|U.pf _ _;show CD (λσ' H'=>σ'=[Y (.ref x),Y z,Y fv,Y gv]/\∃u o',n4 x H H'/\Lm H'/\H' x=Y (.ins C dx [("name",z),("fields",u)])/\dC H' o' u/\hU o' o/\qG H' ns gv) ?_ ?_
 ·cases o with
  |none=>
   let(d,hd,hn):=hf;show{_,O,.inl {d,Th.sn s1.sn _ _ hd,hn,λH' s'=>?_}};let j:=s' _ _ Az;show{x,C,dx,_,O,j,U.cl,U.n2,by change 1<1000;decide,O,.non,S,λb o nb eb tb=>?_,(a5.same s').put j,Az,O,trivial,((hg.sf s1).sf (Sm.of s').sf).sf<|F j};rw[AM nb];show s' _ _ (by rw[AM nb];show eb)
  |some es=>
   have(l,xs,O,hl,he,hm,hz):=hf;show{_,O,.inr {l,xs,es,O,hl.sf s1,Es.sf s1 he,hm,hz,a5,λD ys es' H' s' b8 e' b5 hp b1=>?_}};let j:=s' _ _ Az O;show{x,C,dx,_,O,j,U.cl,U.n2,by change 1<1000;decide,O,.ref D,Y es',λb o nb eb tb=>?_,b8.put j,Az,{D,ys,O,F j _ _ e' O,Es.sf (F j) b5},{(hp),b1},((hg.sf s1).sf s'.sf).sf<|F j};rw[AM nb];show s' _ _ (by rw[AM nb];show eb) tb
 rintro σ' H1 ⟨rfl,u,o',bt,b7,a2,b4,hp,b3⟩;let key:∀l H2,AZ H1 H2->H2 l=Y (.lst<|(sortI ns).map V.int)->Q .non (upd H2 x<|.ins C dx [("name",z),("fields",u),("gone",.ref l)]):=λl H2 s3 e2=>by
  let a3:=s3 _ _ a2;let s4:Sf H2 (upd H2 x<|.ins C dx [("name",z),("fields",u),("gone",.ref l)]):=Sf.upd a3<|U.pf _ _;show q u l o' _ (λb o nb eb tb=>?_) ((b7.same s3).put a3) Az ((b4.sf (Sm.of s3).sf).sf s4) hp<|s4 _ _ e2 O;rw[AM nb];show s3 _ _<|bt b o nb eb tb
 rcases b3 with⟨rfl,rfl⟩|⟨l,rfl,hl,hz⟩;·show{_,O,.inl {O,λl H2 hl s3 e2=>{x,C,dx,_,O,s3 _ _ a2,U.cl,U.n3,by change 2<1000;decide,key l H2 s3 e2}}}
 show{_,O,.inr {l,ns,O,hl,hz,λl H2 hl s3 e2=>{x,C,dx,_,O,s3 _ _ a2,U.cl,U.n3,by change 2<1000;decide,key l H2 s3 e2}}}
def cZ(T:Tx K mg):EK K (EM K 686) Aw []:=by have(oc,od,sl,kV,doc,pm,an,cdv,ct,e,lk,D):=HL.Ki T.Oo;let(o,n,h1,h2):=HL.zE T.kJ;rw[e];intro s us X j;rw[CI]at j ⊢;let(u,v,a,b,O):=zu j;show Jk O (X _ _ h1) h2 O O
def da(T:Tx K mg):EK K (EM K 686) Aw [.none]:=by
 have(oc,od,sl,kV,doc,pm,an,cdv,ct,e,lk,F):=HL.Ki T.Oo;let(o,n,h1,h2):=HL.zE T.kJ;rw[e];intro s us X z;let j:us.length=3:=by rw[AS]at z;show Nat.succ.inj z
 let(u,v,a,O):=zw j;show Jk O (X _ _ h1) h2 O O
def aC{H:Hp}{Q:VK}{x dx:AH}{z fv gv:V}{c:Bool}{nm:Dt}{o:Option (List Ex)}{ns:List Int}(hx:H x=S)(U:H dx=S)(D:dx≠x)(h1:Th H nm z)(h2:qH H o fv)(h3:qG H ns gv)(hL:Lm H)(q:∀v o' H',Sm H H'->Lm H'->hU o' o->TW H' {c,nm,o',sortI ns} v->Q v H'):kY (O4 c) (.ref x::[z,fv,gv]) (upd (upd H dx<|.own x) x<|.ins (O4 c) dx []) (λv H2=>v= .non/\Q (.ref x) H2) E0:=by
 let j:AZ H (upd (upd H dx<|.own x) x<|.ins (O4 c) dx []):=by show(Bd U).trans (Bd ?_);rw[AM (CL D)];show hx
 show{x,dx,z,fv,gv,o,ns,O,Az,h2.sf (Sm.of j).sf,h3.sf (Sm.of j).sf,hL.same j,λu l o' H' bt a1 e F hp hl=>{O,?_}};let s1:=λa o ea tb=>bt a o (λz=>by rw[z,hx]at ea;cases ea) (j a o ea) tb;show q _ o' _ s1 a1 hp {x,dx,z,u,l,O,e,Th.sm s1 _ _ h1,F,hl}
def Ir(g:Gx):Bool:=match g.fields with
 |none=>ge|some es=>Mh (.int es.length) (if g.choice then 1 else 0) 10&&decide ((g.gone.length:Int)<=10)
def yA:Ex->Bool|.fld _=>Z|.thing _=>ge
def Xe:Ex->Dt|.fld f=>f.nam|.thing _=>.non
def JL:Dt->AT|.str z=>z|_=>""
def uE:Dt->Int|.int i=>i|_=>0
def cF:Ex->Dt|.fld f=>f.num|.thing _=>.non
def Iy(es:List Ex):Bool:=es.all (λe=>DJ<|Xe e) &&decide ((es.map λe=>JL<|Xe e).Nodup)
def OQ(es:List Ex)(gone:List Int):List Int:=es.map (λe=>uE<|cF e) ++gone
def Fs(es:List Ex)(gone:List Int):Bool:=(es.all (λe=>Mh (cF e) 1 200) &&gone.all (λi=>Mh (.int i) 1 200)) &&decide ((OQ es gone).Nodup)
inductive XY(vs:List V)(H:Hp)(Q:VK):Prop|mk (v g:_) (_:vs=[v]) (_:TW H g v) (_: (∀es,g.fields=some es->es.length<64)) (_:g.gone.length<64) (_:Q (.bl<|Ir g) H)
def YH:Sp:=λvs H Q _=>XY vs H Q
inductive kn(vs:List V)(H:Hp)(Q:VK):Prop|mk (l:AH) (zs:List AT) (_:vs=[.ref l]) (_:H l=some (.lst<|zs.map V.str)) (_:zs.length<=100) (_:Q (.bl<|decide zs.Nodup) H)
def nO:Sp:=λvs H Q _=>kn vs H Q
inductive ko(vs:List V)(H:Hp)(Q:VK):Prop|mk (l:AH) (ns:List Int) (_:vs=[.ref l]) (_:H l=some (.lst<|ns.map V.int)) (_:ns.length<=100) (_:Q (.bl<|decide ns.Nodup) H)
def nP:Sp:=λvs H Q _=>ko vs H Q
def mv{κ:Type} [DecidableEq κ](d:κ)(ks:List κ):decide (V.int (gI d ks:Int)=V.int (ks.length:Int))=decide ks.Nodup:=by
 rw[decide_eq_decide];constructor;·intro h;show(gH d ks).mp (Int.ofNat.inj<|V.int.inj h)
 intro h;rw[(gH d ks).mpr h]
def jk(T:Tx K mg):∅ 1 759 ["things"] nO:=by show T.Rt.okA Qs ?_;intro 1 hr h;let(l,zs,O,j,z,q):=h;show{_,qr<|Da CU (aq (mk:=V.str) ("" :AT) (strKind _ _) fB O (pv 0) O T.Ei De O T.zq vA) (qB Cd T.Ei De<|Cp (pv 0)) (DW _),?_};show{l,zs,O,Cg.of j,z,l,_,O,.inl<|Cg.of j,O,?_};rw[Ay,mv];show q
def jl(T:Tx K mg):∅ 1 759 ["things"] nP:=by show T.Rt.okA Qs ?_;intro 1 hr h;let(l,zs,O,j,z,q):=h;show{_,qr<|Da CU (aq (mk:=V.int) (0:Int) (intKind _ _) fC O (pv 0) O T.Ei De O T.zq vA) (qB Cd T.Ei De<|Cp (pv 0)) (DW _),?_};show{l,zs,O,Cg.of j,z,l,_,O,.inl<|Cg.of j,O,?_};rw[Ay,mv];show q
def Ss(T:Tx K mg)(c:Bool):JR P w K mg base 1 "is_choice" (O4 c) (eY<|.bl c):=by cases c with|false=>show{T.ZS,_,_,_,(T.me 35 29 O O),RT T,(HL.b1 (T.mf 29 O) λ_ _ _ _ _ _ _=>rfl)}|true=>show{T.ZT,_,_,_,(T.me 37 30 O O),PX T,(HL.b1 (T.mf 30 O) λ_ _ _ _ _ _ _=>rfl)}
def Zg(T:Tx K mg):∅ 3 766 ["form"] YH:=by
 let(_,hF):=T.Qg;let(_,hG):=(T.ui 11 O);show(T.df 12 O).okA Qr ?_;intro _ _ _ _ H _ Q _ hr h X_ D_;have(v,g,O,(a,dx,z,f,l,O,ha,hn,hf,hl),a1,a5,q):=h;let U:=QS T g.choice;show{_,AJ (qi (PW.pt<|EX (Cn<|BA (qB (Bv K O) T.Ba AW<|Cy (BH (pv 0) O) (RJ T.FO EJ))) (ET<|Cn (BA<|qB (Bv K O) T.Ba AW (Cy (BH (pv 0) O)<|RJ T.FO EJ))))<|qr Dk)<|Bk (qS 1 Qr.nd<|DH (BA<|FQ (P:=P) (w:=w) (K:=K) (mg:=mg) (base:=base) (k:=1) O O O O O (pv 0) (hr.mono Aa) DU) AD AD) (qr<|DT (qD (@DM P w K mg base T) hr T.Dl<|AY (qB Cd T.Ei De<|Cp (BH (pv 0) O)) (Cy (pv 1)<|UN hF)) (ED<|Da NK (qB Cd T.Ei De<|Cp (BH (pv 0) O)) (UN hG) (DW _))),?_};let fld:∀{Q:VK},Q f H->vP K "fields" Q (.ref a) H:=λh=>{(a),_,dx,_,f,O,ha,U.cl,U.n2,O,h};let F:∀{Q:VK},Q (.ref l) H->vP K "gone" Q (.ref a) H:=λh=>{a,_,dx,_,.ref l,O,ha,U.cl,U.n3,O,h};cases D:g.fields with
 |none=>
  rw[D]at hf;obtain rfl:f=V.non:=hf;rw[show Ir g=ge by unfold Ir;rw[D]]at q;show(fld {.non,.ty "list",_,_,_,O,(show Th H .non .non from O).ty,O,uy T .non,_,O,BX q})
 |some es=>
  rw[D]at hf;let(p,xs,O,hp,he):=hf;let j:es.length=xs.length:=he.length;let hz:=a1 es D;rw[show Ir g=(Mh (.int es.length) (if g.choice then 1 else 0) 10&&decide ((g.gone.length:Int)<=10))by unfold Ir;rw[D]]at q
  show(fld {.ref p,.ty "list",_,_,_,O,.lst hp,O,T.Fu,_,O,BM<|F {.ref l,.ty "list",_,_,_,O,.lst hl,O,T.Fu,_,O,BM ?_}});show CD (λσ' H'=>σ'=[Y (.ref a),Y<|.int (if g.choice then 1 else 0)]/\H'=H) ?_ ?_
  ·show{a,_,dx,_,_,O,ha,O,Ss T g.choice,_,O,_,O,?_};cases hc:g.choice with|true=>show BX {(O),O}|false=>show BM {(O),O}
  rintro σ' H' ⟨rfl,rfl⟩;show(fld {p,xs,O,.inl<|Cg.of hp,.int _,.int _,_,_,O,O,_,O,?_});rw[<-j];show DL (λh=>?_) λh=>?_;·rw[h,BL]at q;show(F {l,_,O,.inl<|Cg.of hl,?_});rw[Ay];show q
  simp_all [D_]
def PB{z j:Type}(l:List z)(p:z->j)(f:Nat->j)(h:∀i d,l[i]?=Y d->f i=p d): (BN l.length).map f=l.map p:=by
 apply List.ext_getElem?
 grind
inductive qf(vs:List V)(H:Hp)(Q:VK):Prop|mk (l xs es:_) (_:vs=[.ref l]) (_:H l=some (.lst xs)) (_:Es H es xs) (_: (∀e∈es,Ex.may e)) (_:xs.length<64) (_:∀H',AZ H H'->Q (.bl<|Iy es) H')
def rS:Sp:=λvs H Q _=>qf vs H Q
def Hf(h:DJ d=Z):∃z,d= .str z:=by cases d with|str z=>show{(z),O}|_=>cases h
def Es.nums:∀{es:List Ex} {xs:List V},Es H es xs->(∀e∈es,yA e=Z)->∃ns:List V,Paired (λe n=>Th H (cF e) n) es ns/\Paired (λy n=>∃a dx z k m d,y=V.ref a/\H a=Y (.ins 657 dx [("number",n),("name",z),("kind",k),("must",m),("default",d)])) xs ns
 |_,_,.nil,_=>{[],.nil,.nil}
 |e::es,_,.cons a r,h=>by
  let(ns,h1,h2):=Es.nums r λe D=>h e<|Bq _ D;have:=h e<|Bi ..;cases e with
  |thing d=>cases this
  |fld f=>
   have(b,dx,n,z,k,m,d,e1,U,F,_):=a;show{n::ns,.cons F h1,.cons {(b),dx,z,k,m,d,e1,U} h2}
def tS(T:Tx K mg):∅ 4 771 ["fields"] rS:=by
 show(T.df 13 O).okA PR ?_;intro 1 hr h;let(l,xs,es,O,hl,he,hm,hz,q):=h;show{_,AJ (qi (Cn<|BA (qB (FC O) T.Rh Nx<|Cp (Yv Ah [] [] .nil (DS<|pv 0) (λC s_ H_ fp=>BQ (i:=0) Vr O (Ci O)<|DN O) λC s_ H_ fp=>DT (qB (Bv K O) T.Ba AW<|Cy (pv 0) (My T.On))<|ED (qD (@Jg P w K mg base T) hr T.IZ<|Cp (Lz K O (pv 0) O)))))<|qr Dk)<|qr (qD (@jk P w K mg base T) hr T.Qm<|Cp (Yv Ah [] [] .nil (DS<|pv 0) (λC s_ H_ fp=>BQ (i:=0) Vr O (Ci O)<|DN O) λC s_ H_ fp=>Lz K O (pv 0) O)),?_};let U:=he.length;show{l,O,{_,Cg.of hl},Et (Wk.list<|Cg.of hl) () (λj=>.bl<|match es[j]? with|some e=>DJ (Xe e)|none=>ge) (λj y hy H2 R s2 hR=>?_) λD H2 hD s2 e2=>?_}
 ·let(e,hj,a1):=GO he j y hy;let F:=Vx.sm (Sm.of s2) a1;let(t,ty,kt):=U9 T (hm e<|AN hj) F;rw[hj]at hR;show{Sub.set O,y,.ref 657,_,_,_,O,ty,O,kt,_,O,?_};cases e with
  |fld f=>
   let(a,dx,n,z,k,m,d,O,ha,_,h2,_):=F;show BX {(a),_,dx,_,_,O,ha,T.Ck,T.Gh,O,z,f.nam,O,h2,hR}
  |thing d=>show BM<|hR H2 λ_ _ e=>e
 show{D,(BN xs.length).map λj=>(match es[j]? with|some e=>DJ (Xe e)|none=>ge),O,by rw[Br];show e2,_,O,?_};rw[<-U,Kl es (λe=>DJ<|Xe e) _ (λi d hd=>by rw[hd])];cases ha:es.all λe=>DJ (Xe e)with
 |false=>
  let e:Iy es=false:=by unfold Iy;rw[ha,BR]
  rw[e]at q;show BX<|q _ s2
 |true=>
  let e:Iy es=decide ((es.map λe=>JL<|Xe e).Nodup):=by unfold Iy;rw[ha,BL]
  rw[e]at q;show BM ?_;let a4:=s2 _ _ hl;let b1:=Es.sm (Sm.of s2) he;show{l,O,{_,Cg.of a4},Et (Wk.list<|Cg.of a4) () (λj=>.str<|match es[j]? with|some e=>JL (Xe e)|none=>"") (λj y hy H3 R s3 hR=>?_) λD2 H3 b7 s3 e3=>?_}
  ·have(e,hj,a1):=GO b1 j y hy;let F:=Vx.sm (Sm.of s3) a1;let b4:=hR H3 λ_ _ e=>e;rw[hj]at b4;let a3:=Bz.mp ha e<|AN hj;cases e with
   |thing d=>cases a3
   |fld f=>
    let(zz,a2):=Hf<|show DJ f.nam=Z from a3;have(a,dx,n,z,k,m,d,O,b3,_,h2,_):=F;rw[a2]at h2;obtain rfl:z=V.str zz:=h2.1;show{Sub.set O,a,_,dx,_,_,O,b3,T.Ck,T.Gh,O,?_};let ez:JL (Xe<|.fld f)=zz:=by change JL f.nam=zz;rw[a2];rfl
    grind
  let e4:H3 D2=Y (.lst<|(es.map λe=>JL<|Xe e).map V.str):=by rw[e3,<-U,PB es (λe=>V.str<|JL (Xe e)) _ (λi d hd=>by rw[hd]),Br];rfl
  show{D2,_,O,e4,by rw[Ay];lia,q _<|s2.trans s3}
inductive dw(vs:List V)(H:Hp)(Q:VK):Prop|mk (v g es:_) (_:vs=[v]) (_:TW H g v) (_:g.fields=some es) (_: (∀e∈es,yA e=true)) (_:es.length<40) (_:g.gone.length<40) (_:∀H',AZ H H'->Q (.bl<|Fs es g.gone) H')
def eU:Sp:=λvs H Q _=>dw vs H Q
def eF:∀ns:List Int,Paired (λd n=>Th H d n) (ns.map Dt.int)<|ns.map V.int|[]=>.nil|n::ns=>.cons O<|eF ns
def je{D z j:Type}{R:j->z->Prop}{f:D->j}:∀{l:List D} {m:List z},Paired (λa b=>R (f a) b) l m->Paired R (l.map f) m|_,_,.nil=>.nil|_,_,.cons a r=>.cons a<|je r
def Hc{D z:Type}{R:D->z->Prop}:∀{l U:List D} {m F:List z},Paired R l m->Paired R U F->Paired R (l++U) (m++F)|_,_,_,_,.nil,j=>j|_,_,_,_,.cons a r,j=>.cons a<|Hc r j
def eG:∀{ds:List Dt} {ns:List V},Paired (λd n=>Th H d n) ds ns->(ds.all λd=>Mh d 1 200)=Z->ns=(ds.map uE).map V.int
 |_,_,.nil,_=>rfl
 |d::ds,_,.cons a r,h=>by
  rw[Og,AA]at h;cases d with|int i=>rw[show _=V.int i from a,(eG r h.2)];rfl|_=>cases h.1
def fT(T:Tx K mg):∅ 3 776 ["form"] eU:=by
 let(_,hM):=T.JT;show(T.df 14 O).okA NI ?_;intro _ _ _ _ H _ Q _ hr h X_ D_;have(v,g,es,O,(a,dx,z,f,gl,O,ha,hn,hf,hl),hg,b4,hz,c3,q):=h;let fc:=QS T g.choice;rw[hg]at hf;have(p,xs,O,hp,he):=hf;show{_,Bk (qS 1 NI.nd<|Bt JO (Yv Ah [] [] .nil (DS<|BH (pv 0) O) (λC s_ H_ fp=>BQ (i:=0) Vr O (Ci O)<|DN O) λC s_ H_ fp=>Lz K O (pv 0) O) (BH (pv 0) O))<|AJ (qi (Cn<|BA (qB (FC O) T.Rh Nx<|Cp (Yv ["number"] [] [] .nil (DS<|pv 1) (λC s_ H_ fp=>BQ (i:=0) gd O (Ci O)<|DN O) λC s_ H_ fp=>qD (@DM P w K mg base T) hr T.Dl<|AY (pv 0) (Cy AD<|UN hM))))<|qr Dk) (qr<|qD (@jl P w K mg base T) hr T.Qm (Cp<|pv 1)),?_};let b8:=he.length;let(ns,b3,a2):=Es.nums he b4;let a4:=a2.length;show CD (λσ' H'=>∃D,σ'=[Y (.ref a),Y<|.ref D]/\AZ H H'/\H' D=Y (.lst<|ns++g.gone.map V.int)) ?_ ?_
 ·show{a,_,dx,_,_,O,ha,fc.cl,fc.n2,O,p,O,{_,Cg.of hp},Et (Wk.list<|Cg.of hp) () (λj=>ns.getD j .non) (λj y hy H2 R s2 hR=>?_) λD H2 hD s2 e2=>?_}
  ·let hj:j<ns.length:=by rw[<-a4];show(AO.mp hy).1
   let a5:=AI hj;have(y',a3,b,bx,z',k',m',d',O,hb):=GO a2 j _ a5;rw[hy]at a3;cases a3;show{Sub.set O,b,_,bx,_,_,O,s2 _ _ hb,T.Ck,T.Fc,O,?_};have:=hR H2 λ_ _ e=>e;rw[show ns.getD j .non=ns[j]'hj by rw[Bx,a5];rfl]at this;show this
  let e3:H2 D=Y (.lst ns):=by rw[e2,a4];show A1P (λl=>Y<|HO.lst l) ?_;show(PB ns (λx=>x) _ λi d hd=>?_).trans (List.map_id' ns);rw[Bx,hd];rfl
  show{a,_,dx,_,_,O,s2 _ _ ha,fc.cl,fc.n3,O,D,gl,_,_,O,O,e3,s2 _ _ hl,?_,λp2 b2=>{p2,O,s2.trans<|Bd b2,Az}};rw[Ay];show AU (show ns.length+g.gone.length<=1000 by lia) Aa
 rintro σ' H1 ⟨D,rfl,s1,hD⟩;let a1:Paired (λd n=>Th H1 d n) (es.map cF++g.gone.map Dt.int) (ns++g.gone.map V.int):=Hc (je<|Paired.mapP b3 λ_ _ h=>Th.sm (Sm.of s1) _ _ h)<|eF _;let b5:=a1.length;let hsz: (ns++g.gone.map V.int).length<=90:=by rw[AS,Ay];lia
 show{D,O,{_,Cg.of hD},Et (Wk.list<|Cg.of hD) () (λj=>.bl<|match (es.map cF++g.gone.map Dt.int)[j]? with|some d=>Mh d 1 200|none=>ge) (λj y hy H2 R s2 hR=>?_) λD2 H2 c7 s2 e2=>?_};·let(d,hj,hd):=GO a1 j y hy;let a6:=hR H2 λ_ _ e=>e;rw[hj]at a6;show{Sub.set O,y,d,_,_,O,Th.sm (Sm.of s2) _ _ hd,a6}
 show{D2,(BN (ns++g.gone.map V.int).length).map λj=>(match (es.map cF++g.gone.map Dt.int)[j]? with|some d=>Mh d 1 200|none=>ge),O,by rw[Br];show e2,_,O,?_};rw[<-b5,Kl _ (λd=>Mh d 1 200) _ (λi d hd=>by rw[hd])];let U: ((es.map cF++g.gone.map Dt.int).all λd=>Mh d 1 200)=(es.all (λe=>Mh (cF e) 1 200) &&g.gone.all (λi=>Mh (.int i) 1 200)):=by rw[List.all_append,List.all_map,List.all_map];rfl
 cases hA: (es.map cF++g.gone.map Dt.int).all λd=>Mh d 1 200 with
 |false=>
  let e:Fs es g.gone=false:=by unfold Fs;rw[<-U,hA,BR]
  rw[e]at q;show BX<|q _ (s1.trans s2)
 |true=>
  let e:Fs es g.gone=decide ((OQ es g.gone).Nodup):=by unfold Fs;rw[<-U,hA,BL]
  rw[e]at q;let ei:ns++g.gone.map V.int=(OQ es g.gone).map V.int:=by rw[eG a1 hA];unfold OQ;rw[Bl,Br,Br];show A1P (λl=>IK V.int<|_++l) ?_;show List.map_id' _
  rw[ei]at hD;show BM {D,_,O,s2 _ _ hD,?_,q _<|s1.trans s2};have:=A1P List.length ei;rw[Ay]at this
  lia
def JU(ws:List (AT×Int))(z:AT):Option Int:=(ws.find? λp=>decide (p.1=z)).map (·.2)
def wK(ws:List (AT×Int)):List (Hn×V):=ws.map λp=>(Sum.inr p.1,V.int p.2)
def WD(H:Hp)(ws:List (AT×Int))(v:V):Prop:=∃a,v= .ref a/\H a=Y (.dK<|wK ws)
def WD.sm(s:Sm H H'):WD H ws v->WD H' ws v:=λj=>by
 let(a,e,h):=j;show{a,e,s _ _ h O}
def bu(ws:List (AT×Int))(z:AT):IQ (wK ws) (.inr z)=(JU ws z).map V.int:=by
 induction ws with
 |nil=>rfl
 |cons p ws j=>
  by_cases h:p.1=z
  ·rw[show wK (p::ws)=(Sum.inr p.1,V.int p.2)::wK ws from O,GX (show(Sum.inr p.1:Hn)= .inr z by rw[h])];unfold JU
   grind
  rw[show wK (p::ws)=(Sum.inr p.1,V.int p.2)::wK ws from O,GY λe=>h<|Sum.inr.inj e,j];unfold JU
  grind
def Xs(ws:List (AT×Int))(z:AT): (IQ (wK ws)<|.inr z).isSome=(JU ws z).isSome:=by rw[bu];simp
def pi(ws:List (AT×Int)):Dt->Bool|.str z=>(JU ws z).isSome|_=>ge
def Fj(ws:List (AT×Int)):Kx->Bool|.upto d=>Mh d 1 MN|.text d=>Mh d 1 100|.form d=>DJ d&&pi ws d|.truth=>Z|.count=>Z|.whole=>Z|_=>ge
def Ek(ws:List (AT×Int)):Kx->Bool|.list k=>Fj ws k|k=>Fj ws k
def HR(h:Mh d a b=Z):∃n,d= .int n:=by cases d with|int n=>show{(n),O}|_=>cases h
def QN(h:Fj ws k=Z):k.fine/\k.flat=true:=by cases k with|upto d=>show{HR h,O}|text d=>show{HR h,O}|form d=>show{(trivial),O}|truth=>show{(trivial),O}|count=>show{(trivial),O}|whole=>show{(trivial),O}|list k=>cases h|bare=>cases h|thing d=>cases h
def Jh(h:Ek ws k=Z):k.fine:=by cases k with|list k=>have:=QN<|h;show{(this.2),this.1}|upto d=>show(QN (ws:=ws) (k:=.upto d) h).1|text d=>show(QN (ws:=ws) (k:=.text d) h).1|form d=>trivial|truth=>trivial|count=>trivial|whole=>trivial|bare=>cases h|thing d=>cases h
inductive qb(vs:List V)(H:Hp)(Q:VK):Prop|mk (kv wv k ws:_) (_:vs=[kv,wv]) (_:Kx.may k) (_:Qa H k kv) (_:WD H ws wv) (_:∀H',AZ H H'->Q (.bl<|Fj ws k) H')
def rP:Sp:=λvs H Q _=>qb vs H Q
inductive vU(vs:List V)(H:Hp)(Q:VK):Prop|mk (kv wv k ws:_) (_:vs=[kv,wv]) (_:Kx.may k) (_:Qa H k kv) (_:WD H ws wv) (_:∀H',AZ H H'->Q (.bl<|Ek ws k) H')
def wT:Sp:=λvs H Q _=>vU vs H Q
def zQ:Dt->Bool|.bl b=>!b|.int i=>decide (i=0)|.str z=>decide (z="")|.lst l=>l.isEmpty|_=>ge
def T8:Dt->Bool|.non=>Z|_=>ge
def Hh:Kx->Dt->Bool|.form _,d=>T8 d|k,d=>DB k d&&zQ d
inductive qz(vs:List V)(H:Hp)(Q:VK):Prop|mk (kv dv k d:_) (_:vs=[kv,dv]) (_:Kx.fine k) (_:Qa H k kv) (_:Th H d dv) (_:∀H',AZ H H'->Q (.bl<|Hh k d) H')
def sq:Sp:=λvs H Q _=>qz vs H Q
def IB:Kx->Bool|.text _=>Z|_=>ge
def VQ:Dt->Bool|.bl b=>b|_=>ge
def NQ(f:Fx)(c:Bool):Bool:=FA f.must&& (!(VQ f.must&&c) && (Hh f.kind f.dfl|| (!(VQ f.must|| (c|| !HN f.kind)) && (!(IB f.kind&& !DJ f.dfl) &&DB f.kind f.dfl))))
def Kx.fine.may{k:Kx}(h:k.fine):k.may:=by induction k with|thing d=>show h.elim|list k j=>show j h.2|_=>trivial
def tP(T:Tx K mg):∅ 4 783 Ae rP:=by
 let G:=@DM P w K mg base T;let(_,hM):=T.Qf;let(_,hS):=(T.ui 4 O);show(T.df 15 O).okA Tf ?_;intro 1 hr h;let(kv,wv,k,ws,O,hm,U,(wa,O,hw),q):=h;show{_,AJ (qi (BA<|qB (Bv K O) T.Ba AW (Cy (pv 0)<|My T.Vh))<|qr (qD G hr T.Dl<|AY (BH (pv 0) O) (Cy AD<|UN hM)))<|AJ (qi (BA<|qB (Bv K O) T.Ba AW (Cy (pv 0)<|My T.Rm))<|qr (qD G hr T.Dl<|AY (BH (pv 0) O) (Cy AD<|UN hS))) (AJ (qi (BA<|qB (Bv K O) T.Ba AW (Cy (pv 0)<|My T.Kk))<|qr (DT (qD (@Jg P w K mg base T) hr T.IZ<|Cp (BH (pv 0) O))<|ED (E3 (ji (IT (Uc Aa _) hr.units) (BH (pv 0) O)<|pv 1) O)))<|qr (qB (Nw K O) T.Ba AW<|Cy (pv 0) (DC<|AY (My T.Om) (Cy (My T.VG)<|My T.VF)))),?_};have(t,ty,k0,k1,k2,k3,k4,k5,k6,F):=UR T hm U;let last:∀H1,AZ H H1->(b:Bool)->b=(k.isOf 1||k.isOf 2||k.isOf 3)->b=Fj ws k->∀p,H1 p=S->∃(x:V) (p':AH) (t:AC) (b:Bool) (as:List AH),[kv,.ref p]=[x,.ref p']/\upd H1 p (.tup [.ref 344,.ref 377,.ref 410]) p'=Y (.tup<|as.map V.ref)/\IG K (upd H1 p<|.tup [.ref 344,.ref 377,.ref 410]) x t/\Em K t (as.map Value.ref)=Y b/\Q (.bl b) (upd H1 p<|.tup [.ref 344,.ref 377,.ref 410]):=by
  intro H1 s1 b hb b0 p D;let s2:=s1.trans<|Bd (u:=.tup [.ref 344,.ref 377,.ref 410]) D;have(t',a2,_,a5,a4,a3,_):=UR T hm<|U.sm (Sm.of s2);show{kv,p,t',b,[344,377,410],O,Az,a2,?_,?_}
  ·rw[hb];show A0n a5 a4 a3
  simp_all
 show{kv,.ref 464,_,_,_,O,ty,O,k4,_,O,?_};cases k with
 |upto d=>
  let(a,dx,u,O,ha,j):=U;show BX {a,_,dx,_,_,O,ha,T.JY,T.Lj,O,u,d,_,_,O,j,q H λ_ _ e=>e}
 |text d=>
  let(a,dx,u,O,ha,j):=U;show BM {_,.ref 517,_,_,_,O,ty,O,k5,_,O,BX {a,_,dx,_,_,O,ha,T.JZ,T.Ll,O,u,d,_,_,O,j,q H λ_ _ e=>e}}
 |form d=>
  let(a,dx,u,O,ha,j):=U;show BM {_,.ref 517,_,_,_,O,ty,O,k5,_,O,BM {_,.ref 630,_,_,_,O,ty,O,F,_,O,BX ?_}};show{a,_,dx,_,_,O,ha,T.GD,T.HA,O,u,d,O,j,λH' s'=>{_,O,?_}};cases hn:DJ d with
  |false=>
   let e:Fj ws (.form d)=false:=by change(DJ d&&_)=ge;rw[hn,BR]
   grind
  |true=>
   let(z,O):=Hf hn;let(O,_):=j;let e:Fj ws (.form<|.str z)=(JU ws z).isSome:=by change(DJ (.str z) &&_)=_;rw[hn,BL];rfl
   rw[e,<-Xs]at q;show BX {a,_,dx,_,_,O,s' _ _ ha,T.GD,T.HA,O,wa,_,O,KW.k (k:=.inr z)<|s' _ _ hw,q _ s'}
 |truth=>show BM {_,.ref 517,_,_,_,O,ty,O,k5,_,O,BM {_,.ref 630,_,_,_,O,ty,O,F,_,O,BM {zl 3,λp D=>last H (AZ.refl _) Z O O p D}}}|count=>show BM {_,.ref 517,_,_,_,O,ty,O,k5,_,O,BM {_,.ref 630,_,_,_,O,ty,O,F,_,O,BM {zl 3,λp D=>last H (AZ.refl _) Z O O p D}}}|whole=>show BM {_,.ref 517,_,_,_,O,ty,O,k5,_,O,BM {_,.ref 630,_,_,_,O,ty,O,F,_,O,BM {zl 3,λp D=>last H (AZ.refl _) Z O O p D}}}|bare=>show BM {_,.ref 517,_,_,_,O,ty,O,k5,_,O,BM {_,.ref 630,_,_,_,O,ty,O,F,_,O,BM {zl 3,λp D=>last H (AZ.refl _) ge O O p D}}}|list k'=>show BM {_,.ref 517,_,_,_,O,ty,O,k5,_,O,BM {_,.ref 630,_,_,_,O,ty,O,F,_,O,BM {zl 3,λp D=>last H (AZ.refl _) ge O O p D}}}|thing d=>show BM {_,.ref 517,_,_,_,O,ty,O,k5,_,O,BM {_,.ref 630,_,_,_,O,ty,O,F,_,O,BM {zl 3,λp D=>last H (AZ.refl _) ge O O p D}}}
def lB(T:Tx K mg):∅ 5 790 Ae wT:=by
 let G:=@tP P w K mg base T;show(T.df 16 O).okA iZ ?_;intro 1 hr h;let(kv,wv,k,ws,O,hm,z,hw,q):=h;show{_,AJ (qi (BA<|qB (Bv K O) T.Ba AW (Cy (pv 0)<|My T.Rn))<|qr (qD G hr T.Mn<|Cy (BH (pv 0) O) (pv 1)))<|qr (qD G hr T.Mn<|Cy (pv 0) (pv 1)),?_};have(t,ty,k0,k1,k2,k3,k4,k5,F,k7):=UR T hm z;show{kv,.ref 576,_,_,_,O,ty,O,F,_,O,?_};cases k with
 |list U=>
  have(a,dx,u,O,ha,hu):=z;show BX {(a),_,dx,_,_,O,ha,T.Jl,T.Jx,O,u,wv,U,ws,O,hm,hu,hw,q}
 |_=>show BM {(kv),wv,_,ws,O,hm,z,hw,q}
def rF(j:k.fine)(hf:∀d,k≠ .form d)(h:DB k d=Z): (∃b,d= .bl b/\Pf k= .bl ge)\/(∃i,d= .int i/\Pf k= .int 0)\/(∃z,d= .str z/\Pf k= .str "")\/∃l,d= .lst l/\Pf k= .lst []:=by
 cases k with
 |form d=>show A1Q O<|hf d|bare=>show j.elim|thing d=>show j.elim|truth=>cases d <;> first|show .inl {(_),rfl,rfl}|cases h
 |count=>let(i,O):=HR<|h;show .inr<|.inl {(i),O,O}|whole=>let(i,O):=HR<|h;show .inr<|.inl {(i),O,O}|upto n=>let(n,O):=j;let(i,O):=HR<|h;show .inr<|.inl {(i),O,O}|text n=>let(n,O):=j;cases d <;> first|show .inr (.inr<|.inl {(_),rfl,rfl})|cases h
 |list k=>cases d <;> first|show .inr (.inr<|.inr {(_),rfl,rfl})|cases h
def ud(T:Tx K mg):∅ 5 797 Ad sq:=by
 show(T.df 17 O).okA fk ?_;intro 1 hr h;let(kv,dv,k,d,O,hk,F,hd,q):=h;show{_,AJ (qi (BA<|qB (Bv K O) T.Ba AW (Cy (pv 0)<|My T.Kk))<|qr (Da OK (pv 1) DG<|DW _))<|qr (DT (WG (P:=P) (w:=w) (K:=K) (mg:=mg) (base:=base) (k:=4) O O O O O (pv 0) (hr.mono Aa) DU<|Cp (pv 1))<|ED (Da (MR.or CU<|fP hr.units) (pv 1) (FQ (P:=P) (w:=w) (K:=K) (mg:=mg) (base:=base) (k:=1) O O O O O (pv 0) (hr.mono Aa) DU)<|DW _)),?_};have(t,ty,k0,k1,k2,k3,k4,k5,k6,k7):=UR T hk.may F;show{kv,.ref 630,_,_,_,O,ty,O,k7,_,O,?_};by_cases hf:∃z,k= .form z
 ·let(z,O):=hf;show BX {O,?_};let e:decide (dv= .non)=Hh (.form z) d:=by cases d with|non=>rw[show dv=V.non from hd];rfl|bl b=>rw[show dv=V.bl b from hd];rfl|int i=>rw[show dv=V.int i from hd];rfl|str z=>rw[show dv=V.str z from hd.1];rfl|lst l=>let(a,xs,O,_):=hd;rfl|dct=>let(a,O,_):=hd;rfl
  rw[e];show q H λ_ _ e=>e
 let U:=λz e=>hf {(z),e};let e7:k.isOf 7=false:=by cases k with|form z=>show A1Q O<|U z|_=>rfl
 let eb:Hh k d=(DB k d&&zQ d):=by cases k with|form z=>show A1Q O<|U z|_=>rfl
 rw[e7];let(a,dx,fs,O,ha,a2):=F.ins hk.isK;show BM {a,_,dx,fs,_,O,ha,a2 _ Aa Aa Aa,vj T hk,_,dv,d,O,F,hd,λH1 s1=>{_,O,?_}};cases hs:DB k d with
 |false=>
  grind
 |true=>
  rw[eb,hs,BL]at q;show BX {a,_,dx,fs,_,O,s1 _ _ ha,a2 _ Aa Aa Aa,vm T hk.isK,_,O,λu H2 s2 j _=>?_};let q2:=q _<|s1.trans s2;let D:=Th.sm (Sm.of<|s1.trans s2) _ _ hd;rcases rF hk U hs with⟨b,rfl,e⟩|⟨i,rfl,e⟩|⟨z,rfl,e⟩|⟨l,rfl,e⟩;·rw[e]at j;obtain rfl:u=V.bl false:=j;obtain rfl:dv=V.bl b:=D;show .inl {O,?_};rw[show decide (V.bl b=V.bl ge)=zQ (.bl b)by cases b <;> rfl];show q2
  ·rw[e]at j;obtain rfl:u=V.int 0:=j;obtain rfl:dv=V.int i:=D;show .inl {O,?_};rw[show decide (V.int i=V.int 0)=zQ (.int i)from decide_eq_decide.mpr {λh=>V.int.inj h,λh=>A1P V.int h}];show q2
  ·rw[e]at j;obtain rfl:u=V.str "":=j.1;obtain rfl:dv=V.str z:=D.1;show .inl {O,?_};rw[show decide (V.str z=V.str "")=zQ (.str z)from decide_eq_decide.mpr {λh=>V.str.inj h,λh=>A1P V.str h}];show q2
  rw[e]at j;let(p,ys,O,hp,hy,_):=j;obtain rfl:ys=[]:=hy;let(p',xs,O,a4,hx,_):=D;show .inr {p',p,xs,O,O,a4,hp,?_};let e3:xs.isEmpty=l.isEmpty:=by have:=hx.len;cases xs <;> cases l <;> first|rfl|cases this
  rw[e3];show q2
inductive ig(vs:List V)(H:Hp)(Q:VK):Prop|mk (v f c:_) (_:vs=[v,.bl c]) (_:Vw H f v) (_:f.kind.fine) (_:∀H',AZ H H'->Q (.bl<|NQ f c) H')
def iP:Sp:=λvs H Q _=>ig vs H Q
def WR(T:Tx K mg):∅ 6 804 ["field","in_choice"] iP:=by
 show(T.df 18 O).okA YO ?_;intro 1 hr h;let(v,f,c,O,hF,hk,q):=h;show{_,AJ (qi (Cn<|BA (qB (Bv K O) T.Ba AW<|Cy (BH (pv 0) O) (RJ T.Vy Sv)))<|qr Dk)<|Bk (qi (PW.pt<|OG (BA<|BH (pv 0) O) (Ly<|BA (pv 1)))<|qr Dk) (Bk (qi (BA<|qD (@ud P w K mg base T) hr (T.d2 17 O λ_ _ _ _ _ _ _ _=>rfl) (Cy (BH (pv 0) O)<|BH (pv 0) O))<|qr Dk)<|Bk (qi (PW.pt<|EX (BA<|BH (pv 0) O) (EX (BA<|pv 1)<|ET (Cn<|BA (FQ (P:=P) (w:=w) (K:=K) (mg:=mg) (base:=base) (k:=1) O O O O O (BH (pv 0) O) (hr.mono Aa) DU))))<|qr Dk) (Bk (qi (PW.pt<|OG (BA<|qB (Bv K O) T.Ba AW (Cy (BH (pv 0) O)<|My T.Rm)) (Ly<|Cn (BA<|qD (@Jg P w K mg base T) hr T.IZ (Cp<|BH (pv 0) O))))<|qr Dk)<|qr (WG (P:=P) (w:=w) (K:=K) (mg:=mg) (base:=base) (k:=4) O O O O O (BH (pv 0) O) (hr.mono Aa) DU<|Cp (BH (pv 0) O)))),?_};have(a,dx,n,z,k,m,d,O,ha,h1,h2,h3,h4,h5):=hF;let(num,nam,kind,must,dfl):=f;show{a,_,dx,_,_,O,ha,T.Ck,T.Hl,O,m,.ty "bool",_,_,_,O,Th.ty h4,O,uz T must,_,O,?_};let stop:=λe=>by
  have:=q H λ_ _ e=>e;unfold NQ at this;rw[show FA (Fx.mk num nam kind must dfl).must=ge from e,BR]at this;show this
 cases must with
 |bl b=>
  obtain rfl:m=V.bl b:=h4;let e0:NQ ⟨num,nam,kind,.bl b,dfl⟩ c=(!(b&&c) && (Hh kind dfl|| (!(b|| (c|| !HN kind)) && (!(IB kind&& !DJ dfl) &&DB kind dfl)))):=rfl;rw[e0]at q;show BM {λσ' H'=>σ'=[Y (.ref a),Y<|.bl c]/\H=H'/\(b&&c)=ge,?_,?_}
  ·show{a,_,dx,_,_,O,ha,T.Ck,T.Hl,O,_,O,?_};cases b with
   |false=>show BM {(O),O,O}
   |true=>
    show BX {_,O,?_};cases c with|false=>show BM {(O),O,O}|true=>show BX<|q H λ_ _ e=>e
  rintro σ' H' ⟨rfl,rfl,a9⟩;rw[a9,Bool.not_false,BL]at q;show CD (λσ' H'=>σ'=[Y (.ref a),Y<|.bl c]/\AZ H H'/\Hh kind dfl=ge) ?_ ?_
  ·show{a,_,dx,_,_,O,ha,T.Ck,T.Dq,O,a,_,dx,_,_,O,ha,T.Ck,T.Fp,O,k,d,kind,dfl,O,hk,h3,h5,λH1 s1=>{_,O,?_}};cases hb:Hh kind dfl with
   |true=>
    rw[hb,JK]at q;show BX<|q _ s1
   |false=>show BM {(O),s1,O}
  rintro σ' H1 ⟨rfl,s1,hb⟩;rw[hb,Kq]at q;let D:=s1 _ _ ha;let a3:=h3.sm<|Sm.of s1;have(ka,kx,fs,O,U,a1):=a3.ins hk.isK;show CD (λσ' H'=>σ'=[Y (.ref a),Y<|.bl c]/\H1=H'/\(b|| (c|| !HN kind))=ge) ?_ ?_
  ·show{a,_,dx,_,_,O,D,T.Ck,T.Hl,O,_,O,?_};let no: (b|| (c|| !HN kind))=Z->Q (.bl ge) H1:=λe=>by
    have:=q H1 s1;rw[e,Bool.not_true,BR]at this;show this
   cases b with
   |true=>show BX<|no O
   |false=>
    show BM {_,O,?_};cases c with
    |true=>show BX<|no O
    |false=>
     show BM {a,_,dx,_,_,O,D,T.Ck,T.Dq,O,ka,_,kx,fs,_,O,U,a1 _ Aa Aa Aa,vk T hk,_,O,_,O,?_};cases hp:HN kind with|true=>show BM {(O),O,O}|false=>show BX (no<|by rw[hp];rfl)
  rintro σ' H2 ⟨rfl,rfl,hn⟩;rw[hn,Bool.not_false,BL]at q;show CD (λσ' H'=>σ'=[Y (.ref a),Y<|.bl c]/\AZ H H'/\(IB kind&& !DJ dfl)=ge) ?_ ?_
  ·have(t,ty,k0,k1,k2,k3,k4,k5,k6,k7):=UR T hk.may a3;let e5:kind.isOf 5=IB kind:=by cases kind <;> rfl
   rw[e5]at k5;show{a,_,dx,_,_,O,D,T.Ck,T.Dq,O,_,.ref 517,_,_,_,O,ty,O,k5,_,O,?_};cases ht:IB kind with
   |false=>show BM {(O),s1,O}
   |true=>
    show BX {a,_,dx,_,_,O,D,T.Ck,T.Fp,O,d,dfl,O,(Th.sm (Sm.of s1) _ _ h5),λH3 j=>{_,O,?_}};cases a8:DJ dfl with
    |true=>show BM {O,s1.trans j,O}
    |false=>
     have:=q H3<|s1.trans j;rw[ht,a8]at this;show BX this
  rintro σ' H3 ⟨rfl,j,ht⟩;rw[ht,Bool.not_false,BL]at q;let(ka,kx,fs,e,U,a1):=(h3.sm<|Sm.of j).ins hk.isK;show{a,_,dx,_,_,O,j _ _ ha,T.Ck,T.Dq,O,ka,_,kx,fs,_,e,U,a1 _ Aa Aa Aa,vj T hk,a,_,dx,_,_,O,j _ _ ha,T.Ck,T.Fp,O,_,d,dfl,O,h3.sm<|Sm.of j,Th.sm (Sm.of j) _ _ h5,λH4 s4=>q _<|j.trans s4}
 |_=>show BX<|stop O
def NN:Ex->Kx|.fld f=>f.kind|.thing _=>.bare
def uj:Ex->Dt|.fld f=>f.must|.thing _=>.non
def LD(e:Ex):Bool:=VQ<|uj e
def lM(ws:List (AT×Int)):Kx->Int|.form (.str z)=>(JU ws z).getD 0|_=>1
def Hg(ws:List (AT×Int))(e:Ex):Int:=lM ws<|NN e
def Xh:List Int->Int|[]=>0|[x]=>x|x::y::r=>min x<|Xh (y::r)
def lH:∀{l:List Int} {a:Int},a∈l->Xh l<=a
 |[x],a,h=>by rw[Bc.mp h];show FX _
 |x::y::r,a,h=>by
  rcases Bf.mp h with rfl|h;·show Int.min_le_left ..
  show Yn (Int.min_le_right ..)<|lH h
def RY:∀{l:List Int},l≠[]->Xh l∈l
 |[x],_=>Bc.mpr O
 |x::y::r,_=>by
  change min x (Xh (y::r))∈x::y::r;let j:Xh (y::r)∈y::r:=RY (by simp)
  grind
def lI(h1:M∈l)(h2:∀a∈l,M<=a):M=Xh l:=by
 let a:=lH h1;let b:=h2 _ (RY (l:=l) λe=>by rw[e]at h1;cases h1)
 lia
def Fg(ws:List (AT×Int))(c:Bool)(es:List Ex):Int:=if c then 1+Xh (es.map<|Hg ws)else 1+ ((es.filter LD).map<|Hg ws).sum
def Nl{z F:Type}(l:List z)(p:z->Bool)(f:z->F)(j:Nat->Bool)(f':Nat->F)(hp:∀i d,l[i]?=Y d->j i=p d)(hf:∀i d,l[i]?=Y d->f' i=f d): ((BN l.length).filter j).map f'=(l.filter p).map f:=by
 let key:∀n,n<=l.length->((BN n).filter j).map f'=((l.take n).filter p).map f:=by
  intro n;induction n with
  |zero=>intro _;rfl
  |succ n ih=>
   intro hn;let D:l[n]?=Y (l[n]' ()):=AI ();rw[List.range_succ,FF,Bl,ih (),Yl,D,FF,Bl];show A1P (_++ ·) ?_;let U:=hp n _ D;change(List.filter j [n]).map f'=(List.filter p [l[n]' ()]).map f;cases h:p (l[n]' ())with|true=>rw[IX (by rw[U,h]),IX h];show A1P (·::[])<|hf n _ D|false=>rw[GC (by rw[U,h];show Bo),GC (by rw[h];show Bo)];rfl
 have:=key l.length<|Bh _;rw[Dj]at this;show this
def Vl(ns:List Int):∀n,n<=ns.length->preSum (λi=>ns.getD i 0) n=(ns.take n).sum:=by
 intro n;induction n with
 |zero=>intro _;rfl
 |succ n z=>
  intro hn;let j:ns[n]?=Y (ns[n]' ()):=AI ();change preSum _ n+ns.getD n 0=_;rw[z (),Yl,j,List.sum_append,Bx,j];simp
def bz{ns:List Int}{b:Int}(h:∀a∈ns,0<=a/\a<=b):0<=ns.sum/\ns.sum<=ns.length*b:=by
 induction ns with
 |nil=>show{FX _,by simp}
 |cons a r j=>
  let h1:=h a<|Bi ..;let h2:=j λx z=>h x<|Bq _ z;rw[List.sum_cons,BJ]
  grind
structure r6(ws:List (AT×Int))(es:List Ex):Prop where
 fld:∀e∈es,yA e=Z
 kind:∀e∈es,Ek ws (NN e)=Z
 must:∀e∈es,FA (uj e)=Z
 ws:∀p∈ws,0<=p.2/\p.2<=1000
def kN(h:JU ws z=Y n): (z,n)∈ws:=by
 unfold JU at h;let(p,j,O):=Bp.mp h
 grind
def tJ: (0:Int)<=1/\(1:Int)<=1000:=by decide
def cK(h:r6 ws es)(F:e∈es):0<=Hg ws e/\Hg ws e<=1000:=by
 let D:=h.kind e F;unfold Hg;cases j:NN e with
 |form d=>
  rw[j]at D;cases d with
  |str z=>
   change 0<= (JU ws z).getD 0/\(JU ws z).getD 0<=1000;cases hw:JU ws z with|none=>show{(Aa),Aa}|some n=>show h.ws _<|kN hw
  |_=>show tJ
 |_=>show tJ
inductive ie(vs:List V)(H:Hp)(Q:VK):Prop|mk (v wv f ws:_) (_:vs=[v,wv]) (_:Vw H f v) (_:WD H ws wv) (_:Ek ws f.kind=true) (_:Q (.int<|lM ws f.kind) H)
def iO:Sp:=λvs H Q _=>ie vs H Q
inductive jZ(vs:List V)(H:Hp)(Q:VK):Prop|mk (v wv g es ws:_) (_:vs=[v,wv]) (_:TW H g v) (_:g.fields=some es) (_:WD H ws wv) (_:r6 ws es) (_:es.length<40) (_: (g.choice=true->es≠[])) (_:∀H',AZ H H'->Q (.int<|Fg ws g.choice es) H')
def nq:Sp:=λvs H Q _=>jZ vs H Q
def F7: ((Ah:List AT) ++ (["weights"]:List AT)).Nodup:=⋯
def jr(T:Tx K mg):∅ 1 811 ["field","weights"] iO:=by
 show(T.df 19 O).okA UH ?_;intro 1 hr h;let(v,wv,f,ws,O,hF,(wa,O,hw),hk,q):=h;show{_,AJ (qi (BA<|qB (Bv K O) T.Ba AW (Cy (BH (pv 0) O)<|My T.Kk))<|qr (Fy (IT (Uc Aa _) hr.units) (pv 1) (BH (BH (pv 0) O) O) λ_ _=>rfl))<|qr AD,?_};have(a,dx,n,z,k,m,d,O,ha,h1,h2,h3,h4,h5):=hF;have(t,ty,k0,k1,k2,k3,k4,k5,k6,k7):=UR T (Jh hk).may h3;show{a,_,dx,_,_,O,ha,T.Ck,T.Dq,O,k,.ref 630,_,_,_,O,ty,O,k7,_,O,?_};let(num,nam,kind,must,dfl):=f;cases kind with
 |form d'=>
  let D: (DJ d'&&pi ws d')=true:=hk;rw[AA]at D;let(U,O):=Hf D.1;have(ka,kx,u,O,a2,a1):=h3;let(O,_):=a1;let(nn,hn):=Oe.mp<|D.2;show BX {a,_,dx,_,_,O,ha,T.Ck,T.Dq,O,ka,_,kx,_,_,O,a2,T.GD,T.HA,O,wa,.int nn,O,?_,?_}
  ·have:=KW.k (k:=.inr U) hw;rw[bu,hn]at this;show this
  rw[show lM ws (Fx.mk num nam (.form<|.str U) must dfl).kind=nn by change(JU ws U).getD 0=nn;rw[hn];rfl]at q;show q
 |_=>show BM q
def av(T:Tx K mg):∅ 2 816 Af nq:=by
 let G:=@jr P w K mg base T;show(T.df 20 O).okA Wq ?_;intro _ _ _ _ H _ Q _ hr h X_ D_;have(v,wv,g,es,ws,O,(a,dx,z,f,gl,O,ha,hn,hf,hl),hg,hw,hok,hz,c4,q):=h;let fc:=QS T g.choice;rw[hg]at hf;have(p,xs,O,hp,he):=hf;show{_,AJ (qi (BA<|FQ (P:=P) (w:=w) (K:=K) (mg:=mg) (base:=base) (k:=1) O O O O O (pv 0) (hr.mono Aa) DU)<|qr (Bt DV AD<|qB (QC O) T.qR jT (Cp<|Yv Ah ["weights"] [1] (.cons O (.inl O) O .nil) (DS<|BH (pv 0) O) (λC s_ H_ fp=>BQ (i:=0) F7 O (Ci O)<|DN O) (λC s_ H_ fp=>qD G hr T.ND<|Cy (pv 0) (pv 1)))))<|qr (Bt DV AD<|qB (QB O) T.zp vz (Cp<|qp Ah ["weights"] [1] (.cons O (.inl O) O .nil) (DS<|BH (pv 0) O) (λC s_ H_ fp=>BQ (i:=0) F7 O (Ci O)<|DN O) (λC s_ H_ fp=>PF<|BA (Lz K O (pv 0) O)) (λC s_ H_ fp=>qD G hr T.ND<|Cy (pv 0) (pv 1)))),?_};let a3:=he.length;let one:∀(j:Nat) (y:V) (H2:Hp),AZ H H2->xs[j]?=Y y->∃f,es[j]?=Y (.fld f)/\Vw H2 f y/\Ek ws f.kind=Z/\FA f.must=true:=λj y H2 s2 hy=>by
  let(e,hj,b1):=GO he j y hy;let hm:=AN hj;let h1:=hok.fld e hm;cases e with|thing d=>cases h1|fld f=>show{f,hj,Vx.sm (Sm.of s2) (e:=.fld f) b1,hok.kind _ hm,hok.must _ hm}
 show{a,_,dx,_,_,O,ha,O,Ss T g.choice,_,O,_,O,?_};cases hc:g.choice with
 |true=>
  rw[hc]at q;show BX {a,_,dx,_,_,O,ha,fc.cl,fc.n2,O,p,O,{_,Cg.of hp},Et (Wk.list<|Cg.of hp) () (λj=>.int<|match es[j]? with|some e=>Hg ws e|none=>0) (λj y hy H2 R s2 hR=>?_) λD H2 hD s2 e2=>?_};·have(f,hj,hF,hk,_):=one j y H2 s2 hy;let U:=hR H2 λ_ _ e=>e;rw[hj]at U;show{Sub.set O,y,wv,f,ws,O,hF,hw.sm<|Sm.of s2,hk,U}
  let e4:H2 D=Y (.lst<|(es.map<|Hg ws).map V.int):=by rw[e2,<-a3,PB es (λe=>V.int<|Hg ws e) _ (λi d hd=>by rw[hd]),Br];rfl
  show{D,_,O,Cg.of e4,?_,λM h1 h2=>?_};·grind
  show ?_;rw[lI h1 h2];show q _ s2
 |false=>
  rw[hc]at q;show BM {a,_,dx,_,_,O,ha,fc.cl,fc.n2,O,p,O,{_,Cg.of hp},Jj (Wk.list<|Cg.of hp) () (λj=>match es[j]? with|some e=>LD e|none=>ge) (λj=>.int<|match es[j]? with|some e=>Hg ws e|none=>0) (λj y hy H2 R s2 hR hN=>?_) λD H2 hD s2 e2=>?_}
  ·have(f,hj,hF,hk,hb):=one j y H2 s2 hy;let U:=hR H2 λ_ _ e=>e;let a7:=hN H2 λ_ _ e=>e;rw[hj]at U a7;let b5:=hF;have(a',b8,n',z',k',m',d',O,b4,h1,h2,h3,h4,h5):=b5;show{Sub.set O,a',_,b8,_,_,O,b4,T.Ck,T.Hl,O,?_};cases hm:f.must with
   |bl b=>
    rw[hm]at h4;obtain rfl:m'=V.bl b:=h4;let em:LD (.fld f)=b:=by change VQ f.must=b;rw[hm];rfl
    show{_,O,?_};cases b with|true=>show BX {_,wv,f,ws,O,hF,hw.sm<|Sm.of s2,hk,U em}|false=>show BM<|a7 em
   |_=>rw[hm]at hb;cases hb
  let e4:H2 D=Y (.lst<|((es.filter LD).map<|Hg ws).map V.int):=by rw[e2,<-a3,Nl es LD (λe=>V.int<|Hg ws e) _ _ (λi d hd=>by rw[hd]) (λi d hd=>by rw[hd]),Br];rfl
  let hb:∀x∈ (es.filter LD).map (Hg ws),0<=x/\x<=1000:=λx hx=>by
   let(e,b3,O):=Bb.mp hx;show cK hok (Fb.mp b3).1
  let c5: ((es.filter LD).map<|Hg ws).length<=40:=by grind
  show{D,_,O,e4,λj hj=>{?_,?_},?_};·let hx:=AI hj;rw[Bx,hx];have:=hb _<|AN hx;change InLong (((es.filter LD).map<|Hg ws)[j]'hj);show{(),()}
  ·rw[Vl _ _ ()];let hs:=bz (ns:=((es.filter LD).map<|Hg ws).take<|j+1) (b:=1000) λx hx=>hb x<|Dz hx;let c6: (((es.filter LD).map<|Hg ws).take<|j+1).length<=40:=by rw[Cb];lia
   show{(),()}
  rw[Vl _ _ (Bh _),Dj];show q _ s2
inductive Ox where
 |form (g:Gx)|bare|thing (d:Dt)
def Ox.may:Ox->Prop|.form g=>∀es,g.fields=Y es->∀e∈es,Ex.may e|.bare=>True|.thing d=>∀b,d≠ .bl b
def Ox.isForm:Ox->Bool|.form _=>Z|_=>ge
def Ox.few:Ox->Prop|.form g=>(∀es,g.fields=Y es->es.length<40)/\g.gone.length<40|_=>True
def qP(H:Hp):Ox->V->Prop|.form g,v=>TW H g v|.bare,v=>∃a dx fs,v= .ref a/\H a=Y (.ins 717 dx fs)|.thing d,v=>Th H d v
def qP.sm(s:Sm H H'):∀{o:Ox} {v:V},qP H o v->qP H' o v|.form _,_,h=>TW.sm s h|.bare,_,⟨a,dx,fs,e,h⟩=>{a,dx,fs,e,s _ _ h O}|.thing d,v,h=>Th.sm s d v h
def ww(c:Bool):Ex->Bool|.fld f=>NQ f c|.thing _=>ge
def Nv(ws:List (AT×Int))(c:Bool)(es:List Ex)(gone:List Int):AT:=if Iy es=ge then "field"
 else if Fs es gone=ge then "number"
 else if (es.all λe=>Ek ws<|NN e)=ge then "kind"
 else if es.all (ww c)=ge then "default"
 else if Fg ws c es>100 then "great" else ""
def ID(ws:List (AT×Int)):Ox->AT|.form g=>if (DJ g.nam&& !pi ws g.nam)=ge then "name" else if Ir g=ge then "many" else Nv ws g.choice (g.fields.getD []) g.gone|_=>"form"
def X8(ws:List (AT×Int)):Prop:=∀p∈ws,0<=p.2/\p.2<=1000
inductive qw(vs:List V)(H:Hp)(Q:VK):Prop|mk (v wv o ws:_) (_:vs=[v,wv]) (_:qP H o v) (_:Ox.may o) (_:Ox.few o) (_:WD H ws wv) (_:X8 ws) (_:∀H',AZ H H'->Q (.str<|ID ws o) H')
def si:Sp:=λvs H Q _=>qw vs H Q
def A0f: ((Ah:List AT) ++ (["form"]:List AT)).Nodup:=⋯
def aA(h:Iy es=Z):∀e∈es,yA e=true:=λe j=>by
 unfold Iy at h;rw[AA]at h;have:=Bz.mp h.1 e j;cases e with|fld f=>rfl|thing d=>cases this
def aW{es:List Ex}{c:Bool}(h:es.all (ww c)=Z):∀e∈es,FA (uj e)=true:=λe j=>by
 have:=Bz.mp h e j;cases e with
 |thing d=>cases this
 |fld f=>
  let h2:NQ f c=true:=this;unfold NQ at h2;rw[AA]at h2;show h2.1
def A0m(T:Tx K mg)(hm:o.may)(h:qP H o v):∃t b1 b2,IG K H v t/\BC K t (.ref 731)=Y b1/\BC K t (.ref 750)=Y b2/\(b1||b2)=o.isForm:=by
 cases o with
 |form g=>
  have(a,dx,z,f,l,O,ha,_):=h;cases hc:g.choice with|false=>rw[hc]at ha;show{_,_,_,(T.mP 10 O) ha,(T.q 66 O),(T.q 67 O),O}|true=>rw[hc]at ha;show{_,_,_,(T.mP 11 O) ha,(T.q 68 O),(T.q 69 O),O}
 |bare=>let(a,dx,fs,O,ha):=h;show{_,_,_,(T.mP 9 O) ha,(T.q 64 O),(T.q 65 O),O}
 |thing d=>
  cases d with|bl b=>show A1Q O<|hm b|non=>show{_,_,_,Th.ty h,(T.qt 18 O),(T.qt 19 O),O}|int i=>show{_,_,_,Th.ty h,(T.qt 22 O),(T.qt 23 O),O}|str z=>show{_,_,_,Th.ty h,(T.qt 20 O),(T.qt 21 O),O}|lst l=>show{_,_,_,Th.ty h,(T.qt 24 O),(T.qt 25 O),O}|dct=>show{_,_,_,Th.ty h,(T.qt 26 O),(T.qt 27 O),O}
def ua(T:Tx K mg):∅ 7 821 Af si:=by
 let(_,hM):=(T.ui 13 O);show(T.df 21 O).okA fq ?_;intro _ _ _ s H _ Q _ hr h _ _;let(v,wv,o,ws,O,ho,hm,a1,hw,d9,q):=h;show{_,Bk (qi (Cn<|BA (qB (Nw K O) T.Ba AW<|Cy (pv 0) (DC<|Cy (My T.ZO) (My T.ZP))))<|qr AR)<|Bk (qi (PW.pt<|EX (Cn<|BA (qD (@Jg P w K mg base T) hr T.IZ<|Cp (BH (pv 0) O))) (ET<|tm (ji (MD hr) (BH (pv 0) O)<|pv 1) O))<|qr AR) (Bk (qi (Cn<|BA (qD (@Zg P w K mg base T) hr (T.d1 12 O λ_ _ _ _ _ _ _=>rfl)<|Cp (pv 0)))<|qr AR)<|Bk (qi (Cn<|BA (qD (@tS P w K mg base T) hr (T.d1 13 O λ_ _ _ _ _ _ _=>rfl)<|Cp (BH (pv 0) O)))<|qr AR) (Bk (qi (Cn<|BA (qD (@fT P w K mg base T) hr (T.d1 14 O λ_ _ _ _ _ _ _=>rfl)<|Cp (pv 0)))<|qr AR)<|Bk (qi (Cn<|BA (qB (FC O) T.Rh Nx<|Cp (Yv Ah ["weights"] [1] (.cons O (.inl O) O .nil) (DS<|BH (pv 0) O) (λC s_ H_ fp=>BQ (i:=0) F7 O (Ci O)<|DN O) λC s_ H_ fp=>qD (@lB P w K mg base T) hr T.VH<|Cy (Lz K O (pv 0) O) (pv 1))))<|qr AR) (Bk (qi (Cn<|BA (qB (FC O) T.Rh Nx<|Cp (Yv Ah ["form"] [0] (.cons O (.inl O) O .nil) (DS<|BH (pv 0) O) (λC s_ H_ fp=>BQ (i:=0) A0f O (Ci O)<|DN O) λC s_ H_ fp=>qD (@WR P w K mg base T) hr T.Ql<|Cy (pv 0) (FQ (P:=P) (w:=w) (K:=K) (mg:=mg) (base:=base) (k:=1) O O O O O (pv 1) (hr.mono Aa) DU))))<|qr AR)<|Bk (qi (qc Mz (qD (@av P w K mg base T) hr T.Ou<|Cy (pv 0) (pv 1))<|UN hM)<|qr AR) (qr AR)))),?_};show CD (λσ' H'=>σ'=[Y v,Y wv]/\AZ H H'/\o.isForm=Z) ?_ ?_
 ·show{zl 2,λp hp=>?_};let s1:=Bd (H:=H) (u:=.tup [.ref 731,.ref 750]) hp;have(t,b1,b2,ty,h1,h2,hb):=A0m T hm<|ho.sm (Sm.of s1);show{v,p,t,_,[731,750],O,Az,ty,uA h1 h2,_,O,?_};rw[hb];cases hf:o.isForm with
  |true=>show BM {(O),s1,O}
  |false=>
   have:ID ws o="form":=by cases o with|form g=>cases hf|bare=>rfl|thing d=>rfl
   rw[this]at q;show BX<|q _ s1
 rintro σ' H1 ⟨rfl,s1,hf⟩;cases o with
 |bare=>cases hf|thing d=>cases hf|form g=>
 let e1:=ho;have(a,dx,z,f,gl,O,ha,hn,d4,f7):=e1;let fc:=QS T g.choice;let c4:∀{H':Hp},AZ H H'->TW H' g (.ref a):=λs=>TW.sm (Sm.of s) ho;let q':∀H',AZ H H'->Q (.str<|if (DJ g.nam&& !pi ws g.nam)=ge then "name" else if Ir g=ge then "many" else Nv ws g.choice (g.fields.getD []) g.gone) H':=q
 show CD (λσ' H'=>σ'=[Y (.ref a),Y wv]/\AZ H H'/\(DJ g.nam&& !pi ws g.nam)=Z) ?_ ?_
 ·show{a,_,dx,_,_,O,s1 _ _ ha,fc.cl,fc.n1,O,z,g.nam,O,Th.sm (Sm.of s1) _ _ hn,λH2 s2=>{_,O,?_}};let a4:=s1.trans s2;cases a5:DJ g.nam with
  |false=>
   have:=q' _ a4;rw[a5,BR,A1O O]at this;show BX this
  |true=>
   let(zz,d0):=Hf a5;rw[d0]at hn;let(O,_):=hn;let(wa,O,e0):=hw;show BM {a,_,dx,_,_,O,a4 _ _ ha,fc.cl,fc.n1,O,wa,_,O,KW.k (k:=.inr zz)<|a4 _ _ e0,_,O,?_};rw[Xs,show(JU ws zz).isSome=pi ws g.nam by rw[d0];rfl];cases hi:pi ws g.nam with
   |true=>
    have:=q' _ a4;rw[a5,hi,A1O<|show(Z&& !Z)=ge from O]at this;show BX this
   |false=>show BM {(O),a4,O}
 rintro σ' H2 ⟨rfl,s2,a5⟩;rw[a5,A1N Aa]at q';show CD (λσ' H'=>σ'=[Y (.ref a),Y wv]/\AZ H H'/\Ir g=Z) ?_ ?_
 ·show{_,g,O,c4 s2,λes he=>Mg (a1.1 es he) Aa,Mg a1.2 Aa,_,O,?_};cases hsz:Ir g with
  |false=>
   have:=q' _ s2;rw[hsz,A1O O]at this;show BX this
  |true=>show BM {(O),s2,O}
 rintro σ' H3 ⟨rfl,s3,hsz⟩;rw[hsz,A1N Aa]at q';cases F:g.fields with
 |none=>unfold Ir at hsz;rw[F]at hsz;cases hsz|some es=>
 let b5:=hm es F;let U:=a1.1 es F;let e3:g.choice=Z->es≠[]:=λhc he=>by
  unfold Ir at hsz;rw[F,hc,he]at hsz;cases hsz
 rw[F]at d4 q';have(p,xs,O,hp,c3):=d4;let b6:=c3.length;let q2:∀H',AZ H H'->Q (.str<|Nv ws g.choice es g.gone) H':=q';unfold Nv at q2;show CD (λσ' H'=>σ'=[Y (.ref a),Y wv]/\AZ H H'/\Iy es=Z) ?_ ?_
 ·show{a,_,dx,_,_,O,s3 _ _ ha,fc.cl,fc.n2,O,p,xs,es,O,s3 _ _ hp,Es.sm (Sm.of s3) c3,b5,(),λH4 s4=>{_,O,?_}};cases b3:Iy es with
  |false=>
   have:=q2 _<|s3.trans s4;rw[b3,A1O O]at this;show BX this
  |true=>show BM {O,s3.trans s4,O}
 rintro σ' H4 ⟨rfl,s4,b3⟩;rw[b3,A1N Aa]at q2;let a6:=aA b3;show CD (λσ' H'=>σ'=[Y (.ref a),Y wv]/\AZ H H'/\Fs es g.gone=Z) ?_ ?_
 ·show{_,g,es,O,c4 s4,F,a6,U,a1.2,λH5 s5=>{_,O,?_}};cases c2:Fs es g.gone with
  |false=>
   have:=q2 _<|s4.trans s5;rw[c2,A1O O]at this;show BX this
  |true=>show BM {O,s4.trans s5,O}
 rintro σ' H5 ⟨rfl,s5,c2⟩;rw[c2,A1N Aa]at q2;let b4:∀(j:Nat) (y:V) (H':Hp),AZ H H'->xs[j]?=Y y->∃f,es[j]?=Y (.fld f)/\Vw H' f y:=λj y H' s' hy=>by
  let(e,hj,d7):=GO c3 j y hy;let h1:=a6 e<|AN hj;cases e with|thing d=>cases h1|fld f=>show{f,hj,Vx.sm (Sm.of s') (e:=.fld f) d7}
 show CD (λσ' H'=>σ'=[Y (.ref a),Y wv]/\AZ H H'/\(es.all λe=>Ek ws<|NN e)=Z) ?_ ?_
 ·show{a,_,dx,_,_,O,s5 _ _ ha,fc.cl,fc.n2,O,p,O,{_,Cg.of<|s5 _ _ hp},Et (Wk.list<|Cg.of (s5 _ _ hp)) () (λj=>.bl<|match es[j]? with|some e=>Ek ws (NN e)|none=>ge) (λj y hy H6 R s6 hR=>?_) λD H6 hD s6 e6=>?_}
  ·let c8:=s5.trans s6;let(f,hj,hF):=b4 j y H6 c8 hy;rw[hj]at hR;let e4:=b5 _<|AN hj;have(a',f1,n',z',k',m',d',O,e9,h1,h2,h3,h4,h5):=hF;show{Sub.set O,a',_,f1,_,_,O,e9,T.Ck,T.Dq,O,k',wv,f.kind,ws,O,e4,h3,hw.sm<|Sm.of c8,hR}
  show{D,(BN xs.length).map λj=>(match es[j]? with|some e=>Ek ws (NN e)|none=>ge),O,by rw[Br];show e6,_,O,?_};rw[<-b6,Kl es (λe=>Ek ws<|NN e) _ (λi d hd=>by rw[hd])];cases hA:es.all λe=>Ek ws (NN e)with
  |false=>
   have:=q2 _<|s5.trans s6;rw[hA,A1O O]at this;show BX this
  |true=>show BM {O,s5.trans s6,O}
 rintro σ' H6 ⟨rfl,s6,d3⟩;rw[d3,A1N Aa]at q2;let b7:=Bz.mp d3;show CD (λσ' H'=>σ'=[Y (.ref a),Y wv]/\AZ H H'/\es.all (ww g.choice)=Z) ?_ ?_
 ·show{a,_,dx,_,_,O,s6 _ _ ha,fc.cl,fc.n2,O,p,O,{_,Cg.of<|s6 _ _ hp},Et (Wk.list<|Cg.of (s6 _ _ hp)) () (λj=>.bl<|match es[j]? with|some e=>ww g.choice e|none=>ge) (λj y hy H7 R s7 hR=>?_) λD H7 hD s7 e7=>?_}
  ·let c7:=s6.trans s7;let(f,hj,hF):=b4 j y H7 c7 hy;rw[hj]at hR;let e5:=Jh (ws:=ws)<|b7 _ (AN hj);show{Sub.set O,a,_,dx,_,_,O,c7 _ _ ha,O,Ss T g.choice,_,O,y,f,g.choice,O,hF,e5,hR}
  show{D,(BN xs.length).map λj=>(match es[j]? with|some e=>ww g.choice e|none=>ge),O,by rw[Br];show e7,_,O,?_};rw[<-b6,Kl es (ww g.choice) _ (λi d hd=>by rw[hd])];cases hA:es.all (ww g.choice)with
  |false=>
   have:=q2 _<|s6.trans s7;rw[hA,A1O O]at this;show BX this
  |true=>show BM {O,s6.trans s7,O}
 rintro σ' H7 ⟨rfl,s7,d5⟩;rw[d5,A1N Aa]at q2;show CD (λσ' H'=>σ'=[Y (.ref a),Y wv]/\AZ H H'/\¬Fg ws g.choice es>100) ?_ ?_
 ·show{_,wv,g,es,ws,O,c4 s7,F,hw.sm<|Sm.of s7,{a6,b7,aW d5,d9},U,e3,λH8 s8=>{_,O,DL (λh=>?_) λh=>?_}}
  ·have:=q2 _<|s7.trans s8;rw[A1O (A1M h)]at this;show this
  show{O,s7.trans s8,λz=>h<|A1K z}
 rintro σ' H8 ⟨rfl,s8,d8⟩;rw[A1N d8]at q2;show q2 _ s8
def Gq(h:n<=1000):n<=sizeLine:=GU<|CW h
def IF{x y:AT}{n m:Nat}(z:x.length<=n)(j:y.length<=m): (x++y).length<=n+m:=by
 rw[strLen_append]
 lia
def ao:∀p:Nat,p<=100->(BV<|QE (p:Int)).length<=3/\(p:Int).natAbs.log2<1920:=⋯
def gT(H:Hp)(p:Int)(y:AT)(E:XK):Prop:=∀d (H':Hp),AZ H H'->H' d=Y (.xd [("place",.int p),("why",.str y)])->E (.ref 111) (Y d) H'
inductive TV(vs:List V)(H:Hp)(Q:VK):Prop|mk (e:AH) (p:Nat) (y:AT) (_:vs=[.ref e,.int p,.str y]) (_:H e=some (Us e 111 none)) (_:p<=100) (_:y.length<=100) (_:∀d (H':Hp),H d=none->(∀b o,b≠e->H b=some o->H' b=some o)->H' e=some (Us e 111<|some d)->H' d=some (.xd [("place",.int p),("why",.str y)])->Q .non H')
def JM:Sp:=λvs H Q _=>TV vs H Q
def MF{K:AB}{l:AH}{xs:List V}{g:TG}{tb:TS}{D:TX}{σ:L2.St}{H:Hp}(Pv:Nat->L2.St->Hp->Prop)(h0:Pv 0 σ H)(hq:∀i σ H,i<=xs.length->Pv i σ H->Cg K H l xs)(hs:∀i x T σ H,xs[i]?=Y x->Pv i σ H->H T=S->g (.ref T) σ (upd H T<|.tup [.int (i:Nat),x]) λj H2=>tb {D with nx:=Pv<|i+1,ct:=Pv<|i+1,bk:=D.nx} j H2)(hd:∀σ H,Pv xs.length σ H->D.nx σ H):
  ∃W:Nat->Nat->L2.St->Hp->Prop,(∃m,W 0 m σ H)/\∀i m σ H,W i m σ H->((kq K l).stop i H/\D.nx σ H)\/((kq K l).go i H/\∃N:L2.St->Hp->Prop,(∀σ' H',N σ' H'->∃F,F<m/\W (i+1) F σ' H')/\∀x H',(kq K l).yld i H x H'->g x σ H' λj H2=>tb {D with nx:=N,ct:=N,bk:=D.nx} j H2):=by
 show{λi m σ H=>m=xs.length - i/\i<=xs.length/\Pv i σ H,{xs.length,by simp,Cu _,h0},?_};rintro i m σ H ⟨rfl,hi,p⟩;let hL:=hq i σ H hi p;by_cases z:i<xs.length
 ·show .inr {{xs,xs[i],hL,AI z},Pv<|i+1,λσ' H' U=>{xs.length - (i+1),(),O,z,U},λx H' y=>?_};let(T,x,O,hT,O,hc):=y
  grind
 let e:i=xs.length:=()
 subst e;show .inl {{(xs),hL,O},hd σ H p}
def uh:Ox->AT|.form g=>JL g.nam|_=>""
def bq(ws:List (AT×Int)):Ox->Int|.form g=>Fg ws g.choice<|g.fields.getD []|_=>0
def yO:Ox->Bool|.form g=>g.choice|_=>ge
def pw:List Ox->List (AT×Int)->Nat->(Nat×AT) ⊕ List (AT×Int)|[],ws,_=>.inr ws|o::r,ws,p=>if ID ws o="" then pw r (ws++[(uh o,bq ws o)]) (p+1)else .inl (p,ID ws o)
def Sw(os:List Ox): (Nat×AT) ⊕ List (AT×Int):=match pw os [] 0 with
 |.inl e=>.inl e|.inr ws=>if (os.getLast?.map yO).getD ge then .inl (os.length - 1,"head")else .inr ws
def mO(os:List Ox)(H:Hp)(Q:VK)(E:XK):Prop:=match Sw os with
 |.inl (p,y)=>∀H',AZ H H'->gT H' (p:Nat) y E|.inr ws=>∀a H',AZ H H'->H' a=Y (.dK<|wK ws)->Q (.ref a) H'
inductive vS(vs:List V)(H:Hp)(Q:VK)(E:XK):Prop|mk (l xs os:_) (_:vs=[.ref l]) (_:H l=some (.lst xs)) (_:Paired (qP H) os xs) (_: (∀o∈os,Ox.may o/\Ox.few o)) (_:0<os.length) (_:os.length<=8) (_:mO os H Q E)
def kX:Sp:=λvs H Q E=>vS vs H Q E
def pG(ws:List (AT×Int))(o:Ox): (ID ws o).length<=100:=by
 cases o with
 |form g=>
  change(if _ then _ else _:AT).length<=100
  split;·decide+kernel
  split;·decide+kernel
  unfold Nv;split;·decide+kernel
  split;·decide+kernel
  split;·decide+kernel
  split;·decide+kernel
  split;·decide+kernel
  decide+kernel
 |bare=>change "form".length<=100;decide+kernel|thing d=>change "form".length<=100;decide+kernel
def XA(h:ID ws o=""):∃g es z,o= .form g/\g.fields=Y es/\g.nam= .str z/\Ct z=Z/\JU ws z=S/\Ir g=Z/\Iy es=Z/\Fs es g.gone=Z/\(es.all λe=>Ek ws<|NN e)=Z/\es.all (ww g.choice)=Z/\Fg ws g.choice es<=100:=by
 let ne:∀{a b:AT},a=b->a≠b->False:=λh n=>n h;cases o with
 |bare=>show(ne (show("form" :AT)="" from h) Ab).elim|thing d=>show(ne (show("form" :AT)="" from h) Ab).elim
 |form g=>
  let h': (if (DJ g.nam&& !pi ws g.nam)=ge then "name" else if Ir g=ge then "many" else Nv ws g.choice (g.fields.getD []) g.gone:AT)="":=h
  by_cases c1: (DJ g.nam&& !pi ws g.nam)=ge;·rw[A1O c1]at h';show(ne h' Ab).elim
  rw[A1N c1]at h';by_cases c2:Ir g=ge;·rw[A1O c2]at h';show(ne h' Ab).elim
  rw[A1N c2]at h';unfold Nv at h';by_cases c3:Iy (g.fields.getD [])=ge;·rw[A1O c3]at h';show(ne h' Ab).elim
  rw[A1N c3]at h';by_cases c4:Fs (g.fields.getD []) g.gone=ge;·rw[A1O c4]at h';show(ne h' Ab).elim
  rw[A1N c4]at h';by_cases U: ((g.fields.getD []).all λe=>Ek ws<|NN e)=ge;·rw[A1O U]at h';show(ne h' Ab).elim
  rw[A1N U]at h';by_cases F: (g.fields.getD []).all (ww g.choice)=ge;·rw[A1O F]at h';show(ne h' Ab).elim
  rw[A1N F]at h';by_cases c7:Fg ws g.choice (g.fields.getD []) >100;·rw[A1O c7]at h';show(ne h' Ab).elim
  let D:∀{b:Bool},¬b=ge->b=true:=λh=>by simpa using h
  let j:=D c1;rw[AA]at j;let(z,hz):=Hf j.1;cases hf:g.fields with
  |none=>have:=D c2;unfold Ir at this;rw[hf]at this;cases this
  |some es=>
   rw[hf]at c3 c4 U F c7;show{g,es,z,O,hf,hz,?_,?_,D c2,D c3,D c4,D U,D F,Int.not_lt.mp c7};·have:=j.1;rw[hz]at this;show this
   have:=j.2;rw[hz]at this;cases hw:JU ws z with
   |none=>rfl
   |some n=>
    let e:pi ws (.str z)=true:=by change(JU ws z).isSome=Z;rw[hw];rfl
    grind
def iu(h:r6 ws es)(j:c=Z->es≠[]):0<=Fg ws c es:=by
 unfold Fg;cases c with
 |true=>
  change 0<=1+Xh (es.map<|Hg ws);have:=RY (l:=es.map<|Hg ws) λz=>j O<|Ik.mp z;let(e,U,e2):=Bb.mp this;have:=cK h U
  lia
 |false=>
  change 0<=1+ ((es.filter LD).map<|Hg ws).sum;have:=bz (ns:=(es.filter LD).map<|Hg ws) (b:=1000) λx F=>by
   let(e,D,O):=Bb.mp F;show cK h (Fb.mp D).1
  lia
def li(h:Ir g=Z)(hf:g.fields=Y es):g.choice=Z->es≠[]:=λhc j=>by
 unfold Ir at h;rw[hf,hc,j]at h;cases h
def ix(h:JU ws z=S):Nm (wK ws) (.inr z) (.int n)=wK (ws++[(z,n)]):=by rw[ti _ (by rw[bu,h];rfl)];unfold wK;simp
def gu(o:Ox)(r:List Ox)(ws:List (AT×Int))(p:Nat):pw (o::r) ws p=if ID ws o="" then pw r (ws++[(uh o,bq ws o)]) (p+1)else .inl (p,ID ws o):=rfl
def lY:∀{os:List Ox} {ws j:List (AT×Int)} {p:Nat},pw os ws p= .inr j->∀o∈os,∃g,o= .form g
 |[],_,_,_,_,o,z=>A1Q z<|Cm
 |a::r,ws,j,p,h,o,z=>by
  unfold pw at h;by_cases c:ID ws a=""
  ·rw[A1O c]at h;rcases Bf.mp z with rfl|z
   ·let(g,_,_,e,_):=XA c;show{(g),e}
   show lY h o z
  simp_all
def cP{xs:List V}(h:0<xs.length):TN xs (-1)=Y (xs[xs.length - 1]' ()):=by
 let e:ij xs.length (-1)=Y (xs.length - 1):=by
  unfold ij
  grind
 unfold TN
 grind
def NL(T:Tx K mg):∅ 1 108 ["self","place","why"] JM:=by
 show(T.mf 0 O).okA UL ?_;intro 1 hr h;let(e,p,y,O,he,hp,hy,q):=h;show{_,AJ (Ds<|fK O T.JX T.xb T.IY (Cy (pv 0)<|ar (PD AR<|PD (jh<|pv 2) (PD AR<|PD (jh<|pv 1) tu))))<|AJ (cc T.IY (pv 0) (pv 1) O) (BO<|cc T.IY (pv 0) (pv 2) O),?_};let(U,j):=ao p hp;let l1: (Md++ "no book: ").length<=100:=⋯
 let l2:=IF l1 hy;let l3: ((Md++ "no book: " ++y) ++ " at form ").length<=300:=IF l2 (m:=100) Ab;let l4:=IF l3 U;show{_,O,Gq (),.inl {_,O,Gq (),_,O,Gq (),_,O,Gq (),.inr {_,O,j,_,O,Gq (),Gq (),e,_,_,O,he,zl 1,?_}}};show{e,O,(AE<|T.mn (i:=4)),.inl {he,λd hd=>?_}};let D:d≠e:=λz=>by rw[z,he]at hd;cases hd
 show{e,O,(AE<|T.mn (i:=5)),.inr {d,_,Az,by rw[AM D];show Az,by change 1<1000;decide,?_}};show q d _ hd (λb o hb z=>?_) ?_ ?_;·rw[AM (λF=>by rw[F,hd]at z;cases z),AM hb,AM (λF=>by rw[F,hd]at z;cases z)];show z
 ·rw[AM D.symm,Az]
 rw[Az];rfl
def QT{H1:Hp}{p:Nat}{y:AT}{E:XK}(hp:p<=100)(hy:y.length<=100)(k:gT H1 p y E):∀e,H1 e=S->JM (.ref e::[.int p,.str y]) (upd H1 e<|Us e 111 S) (λv H2=>v= .non/\∃dx,H2 e=Y (Us e 111 dx)/\E (.ref 111) dx (untr H2 e)) E0:=λe he=>by
 show{e,p,y,O,Az,hp,hy,λd H' hd kp D U=>{O,Y d,D,?_}};let F:d≠e:=λz=>by rw[z,Az]at hd;cases hd
 show k d _ (λb o z=>?_) (by rw[Eh F];show U);let j:b≠e:=λz2=>by rw[z2,he]at z;cases z
 rw[Eh j];show kp b o j (by rw[AM j];show z)
def xK(T:Tx K mg):EE P w K mg base (XC P w Z) 8 828 (EM K 828) ["forms"] kX:=by
 let GI:=@NL P w K mg base T;show(T.df 22 O).okXA HB ?_;intro 1 hr h;let(l,xs,os,O,hl,ho,hm,h0,h8,q):=h;let a9:=ho.length;show{_,AJ (qS 1 HB.nd RL)<|Bk (HM PassesOwn.leaving O (OI O T.Jw<|pv 0) (Tl O (n:=2)<|CJ (BQ (i:=2) HB.nd O<|Ci O) (CJ (BQ (i:=3) HB.nd O<|Ci O) Jp))<|Bk (qS 4 HB.nd<|qD (@ua P w K mg base T) hr (T.d2 21 O λ_ _ _ _ _ _ _ _=>rfl) (Cy (pv 3)<|pv 1)) (AJ (qi (qc Qu (pv 4) AR)<|BO (Km O O T.MX T.IY GI (hr.mono Aa) T.KA Je<|Cy (pv 2) (pv 4)))<|BO (ce (MD hr) (pv 1) (BH (pv 3) O) (qD (@av P w K mg base T) hr T.Ou<|Cy (pv 3) (pv 1)) O))) (AJ (qi (BA<|FQ (P:=P) (w:=w) (K:=K) (mg:=mg) (base:=base) (k:=1) O O O O O (KE (pv 0)<|fL VO AD) (hr.mono Aa) DU)<|BO (Km O O T.MX T.IY GI (hr.mono Aa) T.KA Je<|Cy (Bt Gi (qB Cd T.Ei De<|Cp (pv 0)) AD) AR))<|qr (pv 1)),?_};show λwa b7=>?_;let s0:AZ H (upd H wa<|.dK []):=Bd b7;show CD (λσ' H'=>∃v2 v3 v4,σ'=[Y (.ref l),Y<|.ref wa,v2,v3,v4]/\AZ H H'/\∃ws,pw os [] 0= .inr ws/\H' wa=Y (.dK<|wK ws)) ?_ ?_
 ·show{l,O,{_,Cg.of<|s0 _ _ hl},?_};show MF (xs:=xs) (λi σ' H'=>∃v2 v3 v4,σ'=[Y (.ref l),Y<|.ref wa,v2,v3,v4]/\AZ H H'/\∃ws,pw (os.drop i) ws i=pw os [] 0/\H' wa=Y (.dK<|wK ws)/\X8 ws/\ws.length=i) {S,S,S,O,s0,[],O,Az,λp hp=>A1Q hp Cm,O} (λi σ' H' _ h=>by let(_,_,_,_,s',_):=h;show Cg.of<|s' _ _ hl) (λi x Tt σ' H1 hx h hT=>?_) λσ' H' h=>?_
  ·have(v2,v3,v4,O,s1,ws,U,j,a5,b6):=h;let(o,a7,a6):=GO ho i x hx;let hi:=(AO.mp a7).1;let(c1,b0):=hm o<|AN a7;let ed:os.drop i=o::os.drop (i+1):=by
    rw[EA hi];have:os[i]'hi=o:=by rw[AI hi]at a7;show AE a7
    rw[this]
   let s2:=s1.trans<|Bd (u:=.tup [.int i,x]) hT;let a1:upd H1 Tt (.tup [.int i,x]) wa=Y (.dK<|wK ws):=by rw[AM (BB j hT)];show j
   show{Tt,_,O,Ec.of Az,O,_,_,O,_,_,O,O,?_};revert s2 a1;generalize upd H1 Tt (.tup [.int i,x])=H2;intro s2 a1;show CD (λσ' H'=>σ'=[Y (.ref l),Y<|.ref wa,Y<|.int i,Y x,Y<|.str (ID ws o)]/\AZ H H'/\H' wa=Y (.dK<|wK ws)) ({x,_,o,ws,O,a6.sm<|Sm.of s2,c1,b0,{(wa),O,a1},a5,λH3 s3=>{O,s2.trans s3,s3 _ _ a1}}) ?_;rintro σ' H3 ⟨rfl,s3,a8⟩;let D:pw (o::os.drop (i+1)) ws i=pw os [] 0:=by rw[<-ed];show U
   rw[gu]at D;show{O,_,O,?_};by_cases hf:ID ws o=""
   ·rw[A1O hf]at D;rw[hf,show(!decide (V.str ""=V.str ""))=ge from O];have(g,es,z,O,a3,b9,e5,c6,hsz,c8,e4,c9,d0,e3):=XA hf;let hG:=TW.sm (Sm.of s3) a6;let b5:r6 ws es:={aA c8,Bz.mp c9,aW d0,a5};show BM {x,_,g,es,ws,O,hG,a3,{(wa),O,a8},b5,b0.1 es a3,li hsz a3,λH4 s4=>?_};have(a,dx,zv,fv,gl,O,ha,hn,_):=TW.sm (Sm.of s4) hG;let fc:=QS T g.choice;rw[b9]at hn;obtain rfl:zv=V.str z:=hn.1;let ek:Nm (wK ws) (.inr z) (.int<|Fg ws g.choice es)=wK (ws++[(z,Fg ws g.choice es)]):=ix c6;show{a,_,dx,_,_,O,ha,fc.cl,fc.n1,O,wa,_,O,ky.k (k:=.inr z) (s4 _ _ a8) ?_,_,_,_,O,?_,ws++[(z,Fg ws g.choice es)],?_,?_,?_,?_}
    ·unfold wK;rw[Ay,b6];show CW ()
    ·show(s3.trans s4).put b7
    ·let e1:uh (.form g)=z:=by change JL g.nam=z;rw[b9];rfl
     let e2:bq ws (.form g)=Fg ws g.choice es:=by change Fg ws g.choice (g.fields.getD [])=_;rw[a3];rfl
     rw[e1,e2]at D;show D
    ·rw[Az,ek]
    ·intro p hp;rcases BE.mp hp with hp|hp
     ·show a5 p hp
     rw[Bc.mp hp];show{iu b5<|li hsz a3,by change Fg ws g.choice es<=1000;lia}
    simp_all
   rw[A1N hf]at D;let hd: (!decide (V.str (ID ws o)=V.str ""))=true:=by simp_all
   rw[hd];let eB:Sw os= .inl (i,ID ws o):=by unfold Sw;rw[<-D]
   unfold mO at q;rw[eB]at q;show BX {zl 2,QT () (pG ws o)<|q H3 s3}
  have(v2,v3,v4,O,s1,ws,U,j,a5,b6):=h;rw[<-a9,ZK]at U;show{(v2),v3,v4,O,s1,ws,U.symm,j}
 rintro σ' H1 ⟨v2,v3,v4,rfl,s1,ws,U,j⟩;let c5:0<xs.length:=()
 let c4:xs[xs.length - 1]?=Y (xs[xs.length - 1]' ()):=AI ();let(o,b8,a6):=GO ho (xs.length - 1) _ c4;have(g,O):=lY U o<|AN b8;let b3:os.getLast?=Y (.form g):=by rw[FN,a9];show b8
 let eB:Sw os=if g.choice then .inl (os.length - 1,"head")else .inr ws:=by unfold Sw;rw[U,b3];rfl
 unfold mO at q;rw[eB]at q;have(a,dx,zv,fv,gl,ea,ha,_):=TW.sm (Sm.of s1) a6;show{_,O,l,_,_,_,O,O,Cg.of<|s1 _ _ hl,cP c5,a,_,dx,_,_,ea,ha,O,Ss T g.choice,_,O,_,O,?_};cases hc:g.choice with
 |true=>
  rw[hc]at q;show BX {l,_,O,.inl<|Cg.of (s1 _ _ hl),zl 2,?_};let e1: ((xs.length:Int) - 1)=((os.length - 1:Nat):Int):=()
  dsimp only;rw[e1]
  show QT () Ab<|q H1 s1
 |false=>
  rw[hc]at q;show BM<|q wa H1 s1 j
def pbO:HO->Bool|.tbl _=>ge|.ins C _ _=>!(C==859)|_=>Z
def Sb(H H':Hp):Prop:=∀a o,H a=Y o->pbO o=Z->H' a=Y o
def Sb.sf(s:Sb H H'):Sf H H':=λa o e n=>s a o e (by
 cases o with
 |ins C dx fs=>
  let j: (!(C==717||C==731||C==750||C==859))=true:=n;change(!(C==859))=Z
  grind
 |_=>first|rfl|cases n)
def Sb.upd(j:H x=Y o)(n:pbO o=ge):Sb H (upd H x u):=λa v e m=>by
 rw[AM];·show e
 grind
def TW.sb(s:Sb H H'):TW H g v->TW H' g v:=λj=>by
 let(a,dx,z,f,l,e,h,h1,h2,h3):=j;show{a,dx,z,f,l,e,s _ _ h (by cases g.choice <;> rfl),Th.sn s.sf.sn _ _ h1,h2.sf s.sf,s _ _ h3 O}
def qP.sb(s:Sb H H'):∀{o:Ox} {v:V},qP H o v->qP H' o v|.form _,_,h=>TW.sb s h|.bare,_,⟨a,dx,fs,e,h⟩=>{a,dx,fs,e,s _ _ h O}|.thing d,v,h=>Th.sn s.sf.sn d v h
def Os(H:Hp)(os:List Ox)(xs:List V):Prop:=Paired (qP H) os xs
def Os.sm{H H':Hp}(s:Sm H H'){os:List Ox}{xs:List V}(h:Os H os xs):Os H' os xs:=Paired.mapP h λ_ _ z=>qP.sm s z
def Os.sb{H H':Hp}(s:Sb H H'){os:List Ox}{xs:List V}(h:Os H os xs):Os H' os xs:=Paired.mapP h λ_ _ z=>qP.sb s z
def IsB(H:Hp)(xs:List V)(ws:List (AT×Int))(v:V):Prop:=∃a dx l j,v= .ref a/\H a=Y (.ins 859 dx [("forms",.ref l),("weights",.ref j)])/\H l=Y (.lst xs)/\H j=Y (.dK<|wK ws)
def N9(H0 H:Hp)(xs:List V)(ws:List (AT×Int))(v:V):Prop:=∃a dx l j,v= .ref a/\H a=Y (.ins 859 dx [("forms",.ref l),("weights",.ref j)])/\H l=Y (.lst xs)/\H j=Y (.dK<|wK ws)/\H0 l=S
def N9.isB:N9 H0 H xs ws v->IsB H xs ws v:=λj=>by
 let(a,dx,l,z,e,h1,h2,h3,_):=j;show{(a),dx,l,z,e,h1,h2,h3}
def yY(K:AB)(H:Hp)(v:V):Prop:=(∃t,IG K H v t/\BC K t (.type "list")=Y ge)\/∃l xs,v= .ref l/\H l=Y (.lst xs)/\xs.length<=1000/\¬ (1<=xs.length/\xs.length<=8)
def kZ(K:AB):Sp:=λvs H Q E=>∃x dx v,vs=[.ref x,v]/\H x=Y (.ins 859 dx [])/\((yY K H v/\∀H',zo x H H'->gT H' 0 "forms" E)\/
  ∃l xs os,v= .ref l/\H l=Y (.lst xs)/\Os H os xs/\(∀o∈os,Ox.may o/\Ox.few o)/\0<os.length/\os.length<=8/\match Sw os with|.inl (p,y)=>∀H',zo x H H'->gT H' (p:Nat) y E|.inr ws=>∀H',zo x H H'->N9 H H' xs ws (.ref x)->Q .non H')
def cD(T:Tx K mg):EE P w K mg base (XC P w Z) 9 842 (EM K 842) ["self","forms"] (kZ K):=by
 let GN:EE P w K mg base (XC P w Z) 8 828 (EM K 828) ["forms"] kX:=xK T;let(_,hM):=T.Ri;show(T.mf 31 O).okX bW (λvs H Q E h=>?_) (λcdv A outer s H vs Q E hr h=>?_);·have(x,dx,v,O,_):=h;rfl
 let(x,dx,v,O,hx,h):=h;show{_,Bk (qi (PW.pt<|EX (Cn<|BA (qB (Bv K O) T.Ba AW<|Cy (pv 1) (RJ T.FO EJ))) (ET<|Cn (BA<|qD (@DM P w K mg base T) hr T.Dl (AY (qB Cd T.Ei De<|Cp (pv 1))<|Cy AD (UN hM)))))<|BO (Km O O T.MX T.IY (@NL P w K mg base T) (hr.mono Aa) T.KA Je<|Cy AD AR))<|AJ (EC (pv 0) (qT EV T.FO EJ<|Cp (pv 1)) O) (BO<|EC (pv 0) (ck GN (hr.mono Aa) O T.LQ.m T.LQ.k T.LQ.b .nil (xH λz=>z)<|Cp (BH (pv 0) O)) O),?_};let a4:∀n:Nat,Mh (.int (n:Int)) 1 8=(decide (1<=n) &&decide (n<=8)):=λn=>by
  change(decide ((1:Int)<= (n:Int)) &&decide ((n:Int)<=8))=_
  grind
 let j: (∀H',zo x H H'->gT H' 0 "forms" E)->∀e,H e=S->JM (.ref e::[.int ((0:Nat):Int),.str "forms"]) (upd H e<|Us e 111 S) (λv H2=>v= .non/\∃dx,H2 e=Y (Us e 111 dx)/\E (.ref 111) dx (untr H2 e)) E0:=λq=>
  QT Aa Ab (q H λ_ _ _ e=>e)
 rcases h with⟨hn,q⟩|⟨l,xs,os,rfl,U,ho,hm,h0,h8,q⟩
 ·show{λ_ _=>False,?_,λ_ _ h=>h.elim};rcases hn with⟨t,ty,kt⟩|⟨l,xs,rfl,U,hz,hn⟩
  ·show{v,.ty "list",_,_,_,O,ty,O,kt,_,O,BX {zl 2,j q}}
  show{.ref l,.ty "list",_,_,_,O,.lst U,O,T.Fu,_,O,BM {l,_,O,.inl<|Cg.of U,_,.int _,_,_,O,O,_,O,?_}};rw[a4,show(decide (1<=xs.length) &&decide (xs.length<=8))=ge by
   rw[<-Bool.not_eq_true,AA];show λz=>hn {A1M z.1,A1M z.2}]
  show BX {zl 2,j q}
 let b0:os.length=xs.length:=bj ho;show CD (λσ' H'=>σ'=[Y (.ref x),Y<|.ref l]/\H=H') ?_ ?_
 ·show{.ref l,.ty "list",_,_,_,O,.lst U,O,T.Fu,_,O,BM {l,_,O,.inl<|Cg.of U,_,.int _,_,_,O,O,_,O,?_}};rw[a4,show(decide (1<=xs.length) &&decide (xs.length<=8))=Z by
   rw[AA];show{A1K (),A1K<|()}]
  show BM {(O),O}
 rintro σ' H0 ⟨rfl,rfl⟩;show{l,xs,O,.inl<|Cg.of U,λl2 D=>{x,_,dx,_,O,Bd D _ _ hx,T.Vi,T.MU,Aa,?_}};let a5:upd H l2 (.lst xs) x=Y (.ins 859 dx []):=Bd D _ _ hx;let bt:zo x H (upd (upd H l2<|.lst xs) x<|.ins 859 dx [("forms",.ref l2)]):=λb o nb e=>by rw[AM nb];show Bd D _ _ e
 let sb:Sb (upd H l2<|.lst xs) (upd (upd H l2<|.lst xs) x<|.ins 859 dx [("forms",.ref l2)]):=Sb.upd a5 O;let F:upd (upd H l2<|.lst xs) x (.ins 859 dx [("forms",.ref l2)]) l2=Y (.lst xs):=sb _ _ Az O;let a3:upd (upd H l2<|.lst xs) x (.ins 859 dx [("forms",.ref l2)]) x=Y (.ins 859 dx [("forms",.ref l2)]):=Az;show{x,_,dx,_,_,O,a3,T.Vi,T.MU,O,l2,xs,os,O,F,(Os.sb sb<|Os.sm (Sm.of<|Bd (u:=.lst xs) D) ho),hm,h0,h8,?_};unfold mO;revert q;cases Sw os with
 |inl e=>
  let(p,y):=e;show λq H' s'=>q H' λb o nb e=>s' _ _<|bt b o nb e
 |inr ws=>
  intro q wa H' s' a6;let a2:=s' _ _ a3;show{x,_,dx,_,O,a2,T.Vi,(T.fo 19 O),by change 1<1000;decide,?_};let a1:Sb H' (upd H' x<|.ins 859 dx [("forms",.ref l2),("weights",.ref wa)]):=Sb.upd a2 O;show q _ (λb o nb e=>?_) {x,dx,l2,wa,O,Az,a1 _ _ (s' _ _ F) O,a1 _ _ a6 O,D};rw[AM nb];show s' _ _<|bt b o nb e
def VW{x y:AT}(h:x.cps.toList=y.cps.toList):x=y:=by
 obtain⟨⟨l⟩⟩:=x
 simp_all
def vJ:Yb.cps.toList=[97,98,99,100,101,102,103,104,105,106,107,108,109,110,111,112,113,114,115,116,117,118,119,120,121,122]:=⋯
def yo(h1:97<=c)(h2:c<=122):dG Yb c=true:=by
 let all:∀m:Fin 26,dG Yb (97+m.val)=true:=⋯
 rw[<-Nat.add_sub_cancel' h1];show all {c - 97,()}
abbrev sg(z:AT):List Nat:=z.cps.toList
def Ha(z:AT): (sg z).length=z.length:=by simp[Str.length]
def lc(i:Int):Nat:=97+ (i%26).toNat
def zL(i:Int):97<=lc i/\lc i<=122:=by
 unfold lc
 lia
def mH:Yb.length=26:=⋯
def vL(i:Int):TN Yb.cps.toList (i%26)=Y (lc i):=by
 let z:∀j:Fin 26,Yb.cps.toList[j.val]?=Y (97+j.val):=⋯
 let D: (i%26).toNat<26:=()
 let F:TN Yb.cps.toList (((i%26).toNat:Nat):Int)=Y (lc i):=CN (z {(_),D})
 grind
def A0J(l:List Nat):Prop:=1<=l.length/\l.length<=12/\∀c∈l,97<=c/\c<=122
def A0H(l:List Nat):Prop:=True
def L6(z:AT):Prop:=Ct z=Z/\A0H (sg z)
def xW(h:A0J (sg z)):Ct z=true:=by unfold Ct MC;rw[AA,AA];have:=h.1;have:=h.2.1;rw[Ha]at *;show{{A1K (by assumption),A1K<|by assumption},Bz.mpr λc hc=>yo (h.2.2 c hc).1 (h.2.2 c hc).2}
structure Ju(zs:List AT):Prop where
 ok:∀z∈zs,L6 z
 nd:zs.Nodup
def sH(q:Int)(i j:Nat)(hi:i<12)(z:j<12)(h:lc (q+5* (0+ (i:Int)))=lc (q+5* (0+ (j:Int)))):i=j:=by unfold lc at h;omega
def Wk.rng(lo:Int)(n:Nat):Wk (N6 lo n) H1 ((BN n).map λi:Nat=>V.int<|lo+ (i:Int)) where
 go:=λH i s hi=>by rw[Ay,Ce]at hi;show hi
 stop:=λH i s hi=>by rw[Ay,Ce]at hi;show Yk hi.symm
 yld:=λH i x H' s hi y=>by
  rw[Ay,Ce]at hi;show{y.1,by rw[AQ,List.getElem?_range hi,y.2];rfl}
def bY(h: ((BN n).map λi:Nat=>V.int<|z+ (i:Int))[j]?=Y x):x= .int (z+j)/\j<n:=by grind
def Kh(a:Int)(h:0<b):0<=a%b/\a%b<b:={Hj _<|Int.ne_of_gt h,FG _ h}
def Wh(x y:AT):sg (x++y)=sg x++sg y:=by change(x++y).cps.toList=_;rw[PySem.Str.cps_append,LN]
def pB(ps:List AT):∀a:Array Nat,(ps.foldl (λj p=>j++ (BV "").cps++p.cps) a).toList=a.toList++ (ps.map sg).flatten:=by
 induction ps with
 |nil=>intro a;simp
 |cons p ps z=>
  intro a;rw[List.foldl_cons,z,AV,NW,LN,LN];change a.toList++[] ++p.cps.toList++_=_;simp
def xf(ys:List AT):sg (FD "" ys)=(ys.map sg).flatten:=by
 cases ys with
 |nil=>rfl
 |cons y ys=>
  change((List.drop 1 (y::ys)).foldl (λj p=>j++ (BV "").cps++p.cps) ((y::ys).headD Md).cps).toList=_;rw[pB];rfl
def one(c:Nat):AT:={#[c]}
def xc(j:List Nat): ((j.map one).map sg).flatten=j:=by induction j with|nil=>rfl|cons c j z=>rw[AV,AV,NW,z];rfl
def rE(j:List Nat): ((j.map one).map (·.length)).sum=j.length:=by induction j with|nil=>rfl|cons c j z=>rw[AV,AV,List.sum_cons,z,BJ];change 1+_=_;lia
def Wf(z:AT)(k:Nat)(h:k<=z.length):sg (El z S<|Y (k:Int))=(sg z).take k:=by
 let e:=eq_of_beq (PyProof.Rows.slice_closes_toL (x:=z) (j:=(k:Int)) ()<|())
 grind
def iT(z:AT)(k:Nat)(h:k<=z.length):sg (El z (Y (k:Int)) S)=(sg z).drop k:=by
 let e:=eq_of_beq (PyProof.Rows.slice_closes_fromL (x:=z) (i:=(k:Int)) (b:=(z.length:Int)) () () O);rw[e];change((z.cps.toList.drop (k:Int).toNat).take ((z.length:Int) - (k:Int)).toNat)=_;rw[show((k:Int)).toNat=k by lia];apply Eo;rw[DD,Ha]
 lia
def EU(ns:List Int)(k:Int):Int:=ns.getD k.toNat 0
def Xg(c k:Int):Int:=(c+7919*k+3) *48271%2147483647* (16807+k*k) %2147483629
def um(c k:Int):0<=Xg c k/\Xg c k<2147483629:=Kh _ Aa
inductive vY(K:AB)(vs:List V)(H:Hp)(Q:VK):Prop|mk (a:AH) (ns:List Int) (k:Int) (_:vs=[.ref a,.int k]) (_:Cg K H a (ns.map V.int)) (_:0<=k) (_:Q (.int<|EU ns k) H)
def wW(K:AB):Sp:=λvs H Q _=>vY K vs H Q
inductive qg(vs:List V)(H:Hp)(Q:VK):Prop|mk (c k:Int) (_:vs=[.int c,.int k]) (_:0<=k) (_:k<=1000) (_:Q (.int<|Xg c k) H)
def rT:Sp:=λvs H Q _=>qg vs H Q
def KO(b:Int):List Nat:=(BN (b%11).toNat).map λj:Nat=>lc<|b/7+3* (0+ (j:Int))
def yR(b:Int):Nat:=(b/11% ((KO b).length+1)).toNat
def LF(b k:Int):List Nat:=(KO b).take (yR b) ++lc (b+5*k):: (KO b).drop (yR b)
def gR(b:Int): (KO b).length<=10/\((KO b).length:Int)=b%11:=by
 have:=Kh b (b:=11) Aa;unfold KO;rw[Ay,Ce]
 lia
def X4(b:Int):yR b<= (KO b).length/\((yR b:Nat):Int)=b/11% ((KO b).length+1):=by
 have:=Kh (b/11) (b:=((KO b).length:Int) +1) ();unfold yR
 lia
def yP(h:sg z=LF b k):Ct z=true:=by
 show xW ?_;rw[h];let h1:=(gR b).1;let h2:∀c∈KO b,97<=c/\c<=122:=λc hc=>by
  let(j,_,O):=Bb.mp hc;show zL _
 unfold LF;show{by simp;lia,?_,λc hc=>?_}
 ·rw[AS,BJ,Cb,DD]
  lia
 rcases BE.mp hc with hc|hc;·show h2 c<|Dz hc
 rcases Bf.mp hc with rfl|hc;·show zL _
 show h2 c<|FW hc
def vy{b:Int}{i j:Nat}(hi:i<12)(z:j<12)(h:LF b (m+i)=LF b (m+j)):i=j:=by let h2:=(Fi<|List.append_cancel_left h).1;show sH (b+5*m) i j hi z ?_;rw[show b+5*m+5* (0+ (i:Int))=b+5* (m+i)by lia,show b+5*m+5* (0+ (j:Int))=b+5* (m+j)by lia];show h2
inductive km(vs:List V)(H:Hp)(Q:VK):Prop|mk (b k:Int) (_:vs=[.int b,.int k]) (_:∀z,sg z=LF b k->∀H',AZ H H'->Q (.str z) H')
def nM:Sp:=λvs H Q _=>km vs H Q
def A0g: ((["_law_j"]:List AT) ++ (["_law_letters","_law_base"]:List AT)).Nodup:=⋯
def Vq(T:Tx K mg):∅ 1 1099 Aj (wW K):=by
 show(T.df 39 O).okA jc ?_;intro 1 hr h;let(a,ns,k,O,F,h0,q):=h;show{_,AJ (qi (qc fO (pv 1)<|qB Cd T.Ei De (Cp<|pv 0))<|qr (KE (pv 0)<|pv 1))<|qr AD,?_};show{a,_,O,.inl F,_,O,DL (λD=>?_) λD=>?_}
 ·let z:k< (ns.length:Int):=by simpa using A1M D
  show{a,_,k,_,O,O,F,?_,q};let j:k.toNat<ns.length:=()
  let U:TN (ns.map V.int) ((k.toNat:Nat):Int)=Y (V.int<|EU ns k):=CN (by
   rw[AQ];unfold EU;simp[List.getD,j])
  rw[show((k.toNat:Nat):Int)=k by lia]at U;show U
 let z:¬k< (ns.length:Int):=by simpa using D
 let e:EU ns k=0:=by
  unfold EU;let j:ns.length<=k.toNat:=()
  simp[List.getD,j]
 rw[e]at q;show q
def WO(T:Tx K mg):∅ 1 1106 ["_law_cell","_law_k"] rT:=by show(T.df 40 O).okA fh ?_;intro 1 hr h;let(c,k,O,j,h1,q):=h;show{_,AJ (qS 2 fh.nd<|Bt Di (Bt OJ (Bt DV (Bt DV (pv 0)<|Bt OJ AD (pv 1)) AD) AD) AD)<|qr (Bt Di (Bt OJ (pv 2)<|Bt DV AD (Bt OJ (pv 1)<|pv 1)) AD),?_};let y:=Kh ((c+7919*k+3) *48271) (b:=2147483647) Aa;show{.inl {(Aa),Aa},.inr {(Aa),Aa},(by change(0:Int) <2147483647;decide),.inl {(),()},.inl {(),()},(by change(0:Int) <2147483629;decide),q}
def oz(T:Tx K mg):∅ 1 1113 Ak OB:=by
 show T.kK.okA eZ ?_;intro _ _ _ _ H _ Q _ hr h D z;let(x,d,O,j,q):=h;show{_,qr<|DT (qB (Bv K O) T.Ba AW<|Cy (pv 0) (RJ T.Kr HQ)) (ED<|Tn (qB (Bv K O) T.Ba AW<|Cy (pv 0) (RJ T.Vy Sv))),?_};show{x,.ty "int",_,_,_,O,j.ty,O,G1 T d,_,O,DL (λh=>?_) λh=>?_};·rw[h,BL]at q;show{x,.ty "bool",_,_,_,O,j.ty,O,uz T d,_,O,q}
 simp_all [z]
def aw(T:Tx K mg):∅ 1 1118 ["_law_base","_law_k"] nM:=by
 show(T.df 42 O).okA Py ?_;intro 1 hr h;let(b,k,O,q):=h;show{_,AJ (qS 2 Py.nd AR)<|Bk (qS 3 Py.nd<|Ej Cr EG EF Nq AR (Cp<|Yv ["_law_j"] ["_law_letters","_law_base"] [2,0] (.cons O (.inl O) O<|.cons O (.inl O) O .nil) (HY O T.Li<|Cp (Bt Di (pv 0) AD)) (λC s_ H_ fp=>BQ (i:=0) A0g O (Ci O)<|DN O) (λC s_ H_ fp=>Mx TB (pv 1) (Bt Di (Bt DV (Bt Ey (pv 2) AD)<|Bt OJ AD (pv 0)) AD) λ_ _=>rfl))) (Bk (qS 4 Py.nd<|Bt Di (Bt Ey (pv 0) AD) (Bt DV (qB Gk T.Ei De<|Cp (pv 3)) AD))<|qr (Bt Fd (Bt Fd (Gu QP (pv 3) HI<|HH (pv 4))<|Mx TB (pv 2) (Bt Di (Bt DV (pv 0)<|Bt OJ AD (pv 1)) AD) (λ_ _=>rfl))<|Gu QP (pv 3) (HH<|pv 4) HI)),?_};let(hl,a5):=gR b;let(ha,a1):=X4 b;show CD (λσ' H'=>∃y:AT,sg y=KO b/\σ'=[Y (.int b),Y<|.int k,Y<|.str Yb,Y<|.str y,S]/\AZ H H') ?_ ?_
 ·show{O,(by change(0:Int) <11;decide),b%11,O,(),(),?_};rw[show(b%11).toNat=(KO b).length by lia];show Et (Wk.rng 0 _) (by rw[Ay,Ce];lia) (λj=>.str<|one (lc<|b/7+3* (0+ (j:Int)))) (λj x hx H2 R s2 hR=>?_) λD H2 hD s2 e2=>?_
  ·let(O,hj):=bY hx;show{Sub.set O,{(Aa),Aa},.inl {(Aa),Aa},(by change(0:Int) <26;decide),Yb,_,_,O,O,by rw[mH];decide,vL _,?_};show hR H2 λ_ _ e=>e
  let e3:H2 D=Y (.lst<|((KO b).map one).map V.str):=by rw[e2,Ay,Ce];unfold KO;rw[Br,Br,Ay,Ce];rfl
  show{"",D,_,O,O,Cg.of e3,?_,?_}
  ·rw[rE,Ay];change _+_*0<=_
   lia
  show{_,by rw[xf,xc],O,s2}
 rintro σ' H' ⟨y,hy,rfl,s0⟩;let U:y.length=(KO b).length:=by rw[<-Ha,hy]
 let z:y.length<=sizeLine:=AU (show y.length<=10 by lia) Aa;let e0:b/11% ((y.length:Int) +1)=((yR b:Nat):Int):=by rw[a1,U]
 let l1:=TZ y S<|Y ((yR b:Nat):Int);let l2:=TZ y (Y ((yR b:Nat):Int)) S;show CD (λσ' H2=>σ'=[Y (.int b),Y<|.int k,Y<|.str Yb,Y<|.str y,Y<|.int (yR b:Nat)]/\H'=H2) {{(Aa),Aa},y,O,z,(by change(0:Int) < (y.length:Int) +1;lia),{by rw[<-e0];rfl,O}} ?_;rintro σ' H2 ⟨rfl,rfl⟩;show{_,O,y,O,z,.inl {(Aa),Aa},(by change(0:Int) <26;decide),Yb,_,_,O,O,by rw[mH];decide,vL _,_,_,O,O,?_,_,O,y,O,z,_,_,O,O,?_,q _ ?_ _ s0};·change _+1<=sizeLine;show AU (show _<=30 by lia) Aa
 ·rw[Str.length_append];change _+1+_<=sizeLine;show AU (show _<=30 by lia) Aa
 rw[Wh,Wh,Wf _ _ (),iT _ _ (),hy,JJ];rfl
inductive Lk where
 |truth|count|whole|upto (n:Int)|text (n:Int)|form (i:Nat)|list (k:Lk)
def TL(H:Hp):Lk->V->Prop|.truth,v=>∃t,v= .ref t/\H t=Y (.tup [.str "truth"])|.count,v=>∃t,v= .ref t/\H t=Y (.tup [.str "count"])|.whole,v=>∃t,v= .ref t/\H t=Y (.tup [.str "whole"])|.upto n,v=>∃t,v= .ref t/\H t=Y (.tup [.str "upto",.int n])|.text n,v=>∃t,v= .ref t/\H t=Y (.tup [.str "text",.int n])|.form i,v=>∃t,v= .ref t/\H t=Y (.tup [.str "form",.int (i:Nat)])|.list k,v=>∃t u,v= .ref t/\H t=Y (.tup [.str "list",u])/\TL H k u
def TL.sm(s:Sm H H'):∀{k:Lk} {v:V},TL H k v->TL H' k v|.truth,_,⟨a,e,h⟩=>{a,e,s _ _ h O}|.count,_,⟨a,e,h⟩=>{a,e,s _ _ h O}|.whole,_,⟨a,e,h⟩=>{a,e,s _ _ h O}|.upto _,_,⟨a,e,h⟩=>{a,e,s _ _ h O}|.text _,_,⟨a,e,h⟩=>{a,e,s _ _ h O}|.form _,_,⟨a,e,h⟩=>{a,e,s _ _ h O}|.list _,_,⟨a,u,e,h,k⟩=>{a,u,e,s _ _ h O,k.sm s}
def Lk.word:Lk->AT|.truth=>"truth" |.count=>"count" |.whole=>"whole" |.upto _=>"upto" |.text _=>"text" |.form _=>"form" |.list _=>"list"
def TL.word:∀{k:Lk} {v:V},TL H k v->∃t xs,v= .ref t/\H t=Y (.tup (.str k.word::xs))|.truth,_,⟨a,e,h⟩=>{(a),_,e,h}|.count,_,⟨a,e,h⟩=>{(a),_,e,h}|.whole,_,⟨a,e,h⟩=>{(a),_,e,h}|.upto _,_,⟨a,e,h⟩=>{(a),_,e,h}|.text _,_,⟨a,e,h⟩=>{(a),_,e,h}|.form _,_,⟨a,e,h⟩=>{(a),_,e,h}|.list _,_,⟨a,u,e,h,k⟩=>{(a),_,e,h}
def Lk.plain:Lk->Prop|.upto n=>1<=n/\n<=MN|.text n=>1<=n/\n<=100|.form _=>False|.list _=>False|_=>True
def Lk.ok(n:Nat):Lk->Prop|.form i=>i<n|.list k=>(k.plain\/∃i,k= .form i/\i<n)|k=>k.plain
def Yw(H:Hp)(xs:List V):Prop:=∀x∈xs,∃k:Lk,k.plain/\TL H k x
def Yw.sm(s:Sm H H')(h:Yw H xs):Yw H' xs:=λx j=>let ⟨k,a,b⟩:=h x j;{k,a,b.sm s}
def XT(D:0<=i)(h1:i<xs.length):∃x,TN xs i=Y x/\x∈xs:=by
 let z:i.toNat<xs.length:=()
 show{xs[i.toNat]'z,?_,HW z};let e:=CN (xs:=xs) (j:=i.toNat) (v:=xs[i.toNat]'z) (AI z)
 grind
def RZ{l:List Int}{P:Int->Prop}(h:∀i∈l,P i){x:V}(j:x∈l.map V.int):∃i,x= .int i/\P i:=by grind
section
variable{P:Bn}{w:BP}{K:AB}{mg:AT->Option AC}{base:CB}
def CZ:Lk->Dt|.truth=>.bl ge|.text _=>.str ""|.list _=>.lst []|.form _=>.non|_=>.int 0
def yG(m:AH):List (Hn×V):=[(.inr "truth",.bl ge),(.inr "text",.str ""),(.inr "list",.ref m),(.inr "form",.non)]
def PY(m:AH)(z:AT):V:=(IQ (Iz []<|yG m)<|.inr z).getD<|.int 0
def aS(m:AH):PY m "truth"= .bl false:=by kernel_rfl
def gD(m:AH):PY m "text"= .str "":=by kernel_rfl
def gE(m:AH):PY m "list"= .ref m:=by kernel_rfl
def gF(m:AH):PY m "form"= .non:=by kernel_rfl
def aT(m:AH):PY m "count"= .int 0:=by kernel_rfl
def aR(m:AH):PY m "whole"= .int 0:=by kernel_rfl
def gC(m:AH):PY m "upto"= .int 0:=by kernel_rfl
def K1(h:H m=Y (.lst []))(k:Lk):Th H (CZ k) (PY m k.word):=by cases k with|truth=>show aS m|count=>show aT m|whole=>show aR m|upto n=>show gC m|text n=>show{gD m,Aa}|form z=>show gF m|list j=>show{m,[],gE m,h,O,Aa}
def Fz(H:Hp)(v:V):Prop:=∀m,v= .ref m->H m=S
def K2(h:H m=S)(k:Lk):Fz H (PY m k.word):=by intro D e;cases k with|truth=>rw[show PY m (Lk.truth).word= .bl ge from aS m]at e;cases e|count=>rw[show PY m (Lk.count).word= .int 0 from aT m]at e;cases e|whole=>rw[show PY m (Lk.whole).word= .int 0 from aR m]at e;cases e|upto n=>rw[show PY m (Lk.upto n).word= .int 0 from gC m]at e;cases e|text n=>rw[show PY m (Lk.text n).word= .str "" from gD m]at e;cases e|form z=>rw[show PY m (Lk.form z).word= .non from gF m]at e;cases e|list j=>rw[show PY m (Lk.list j).word= .ref m from gE m]at e;cases e;show h
def Kn:TN (x::xs) 0=Y x:=by show(CN (xs:=x::xs) (j:=0) (v:=x) O)
def dh:TN (x::y::xs) 1=Y y:=by show(CN (xs:=x::y::xs) (j:=1) (v:=y) O)
def QU:Lk->Dt->Prop|.truth,d=>d= .bl Z|.text n,d=>∃z,d= .str z/\Ct z=Z/\(z.length:Int)<=n|.upto m,d=>∃i,d= .int i/\0<=i/\i<=m|.whole,d=>∃i,d= .int i/\ -2147483648<=i/\i<=2147483648|.count,d=>∃i,d= .int i/\0<=i/\i<=2147483648|_,_=>False
inductive kj(vs:List V)(H:Hp)(Q:VK):Prop|mk (v k:_) (_:vs=[v]) (_:TL H k v) (_:∀u H',AZ H H'->Th H' (CZ k) u->Fz H u->Q u H')
def nH:Sp:=λvs H Q _=>kj vs H Q
def yq{c:Int}{n:Nat}(h: (n:Int)<=c):Oh S (Y c) 1 n=Oh S (Y (n:Int)) 1 n:=by
 unfold Oh
 grind
def ac(z:AT)(h:1<=c):sg (El z S<|Y c)=(sg z).take c.toNat:=by
 by_cases hc:c<=z.length;·rw[show c=((c.toNat:Nat):Int)by lia,Wf _ _ ()];rfl
 let e:El z S (Y c)=El z S (Y (z.length:Int)):=by unfold El;rw[yq ()]
 rw[e,Wf _ _<|Bh _,<-Ha,Dj,Eo (by rw[Ha];lia)]
def Er(h:Ct z=Z):1<=z.length/\z.length<=12/\(sg z).all (dG Yb)=true:=by
 unfold Ct MC at h
 grind
def ug(h:Ct z=Z)(hc:1<=c):Ct (El z S<|Y c)=Z/\((El z S<|Y c).length:Int)<=c:=by
 let(h1,h2,h3):=Er h;let e:=ac z hc;let j: (El z S<|Y c).length=min c.toNat z.length:=by rw[<-Ha,e,Cb,Ha]
 show{?_,()};unfold Ct MC
 grind
def To(T:Tx K mg):∅ 1 1132 Al nH:=by
 show(T.df 44 O).okA sO ?_;intro 1 hr h;let(v,k,O,U,q):=h;show{_,qr<|WH (MD hr) (Vo (Fw AR Dk<|Fw AR AR (Fw AR (Cq Ed)<|Fw AR DG Vm)) O O Aa Aa) (LU (pv 0) AD) AD {(O),O,O,O},?_};let(t,ys,O,ht):=U.word;show λp j=>{zl 0,λm hm=>{by rw[AM (λz=>by rw[<-z,Az]at hm;cases hm)];show Az,yG m,O,by change 4<=15;decide,?_}};let F:AZ H (upd (upd (upd H p<|.dK []) m<|.lst []) p<|.dK (Iz []<|yG m)):=AZ.put ((Bd j).trans<|Bd hm) j;let D:m≠p:=λz=>by rw[z,Az]at hm;cases hm
 let e4: (upd (upd (upd H p<|.dK []) m<|.lst []) p<|.dK (Iz []<|yG m)) m=Y (.lst []):=by rw[AM D];show Az
 show{p,O,.inl {_,.inl Az},t,_,_,_,O,O,Ec.of<|F _ _ ht,Kn,_,KW.k (k:=.inr k.word) Az,q _ _ F (K1 e4 k)<|K2 ((Bd j).free hm) k}
end
abbrev big:Int:=(2 ^ (64:Int).toNat) ^ (4:Int).toNat
def xr:L2.wp 2 64:={(Aa),Ab}
def o0:L2.wp (2 ^ (64:Int).toNat) 4:={(Aa),Ab}
def jV:big=MN+1:=⋯
inductive ql(vs:List V)(H:Hp)(Q:VK):Prop|mk (n:Int) (m:Nat) (_:vs=[.int n,.int m]) (_:0<=n) (_:n<2147483648) (_:∀k:Lk,k.ok m->∀u H',AZ H H'->TL H' k u->Q u H')
def rY:Sp:=λvs H Q _=>ql vs H Q
def Yw.nil(H:Hp):Yw H []:=λx j=>A1Q j Cm
def Yw.snoc{H':Hp}{xs:List V}{k:Lk}{t:AH}{ys:List V}(F:k.plain)(D:H' t=S)(U:∀z:Hp,z t=Y (.tup ys)->TL z k (.ref t))(hP:Yw H' xs):Yw (upd H' t<|.tup ys) (xs++[.ref t]):=λx j=>by
 rcases BE.mp j with j|j;·show hP.sm (Sm.of<|Bd D) x j
 rw[Bc.mp j];show{_,F,U _ Az}
def Yw.cat{H':Hp}{xs ys:List V}(a:Yw H' xs)(b:Yw H' ys):Yw H' (xs++ys):=λx j=>(BE.mp j).elim (a x)<|b x
def tt{k:Lk}(h:k.plain)(n:Nat):k.ok n:=by cases k with|form i=>show h.elim|list k=>show h.elim|_=>show h
def tW(T:Tx K mg):∅ 1 1125 ["_law_number","_law_ahead"] rY:=by
 show(T.df 43 O).okA Nk ?_;intro 1 hr h;let(n,m,O,h0,h1,q):=h;show{_,AJ (qS 2 Nk.nd<|Bt Di (pv 0) AD)<|AJ (qS 3 Nk.nd<|Bt Ey (pv 0) AD) (Bk (qi (PW.pt<|OG (qc CU (pv 2) AD) (Ly<|qc Mz (pv 1) AD))<|qr (DC<|Cy AR (Bt Di (pv 3)<|pv 1)))<|Bk (qS 4 Nk.nd<|Cq (AY (DC<|Cp AR)<|AY (DC<|Cp AR) (Cy (DC<|Cp AR)<|DC (Cy AR<|KE (Cq<|AY AD (AY AD<|AY AD (AY AD<|AY AD (AY AD<|Cy AD AD)))) (Bt Di (pv 3) AD))))) (Bk (qS 4 Nk.nd<|Bt JO (pv 4) (Cq<|Cy (DC<|Cy AR (KE (Cq<|AY AD (Cy AD AD))<|Bt Di (pv 3) AD)) (DC<|Cy AR (Bt Gi (Bt Gi (Bt LA (Bt LA AD AD) AD) AD)<|Bt Di (pv 3) AD))))<|AJ (qi (qc fO (pv 2) AD)<|qr (KE (pv 4)<|pv 2)) (AJ (qS 5 Nk.nd<|KE (pv 4) (Bt Di (Bt Ey (pv 3) AD) AD))<|Bk (qi (PW.pt<|OG (qc Mz (pv 1) AD) (Ly<|qc CU (Bt Di (Bt Ey (pv 3) AD) AD) AD))<|BO (qS 5 Nk.nd<|DC (Cy AR<|Bt Di (Bt Ey (pv 3) AD) (pv 1)))) (qr<|DC (Cy AR<|pv 5))))),?_};show{(by change(0:Int) <9;decide),{(Aa),Aa},?_};show CD (λσ' H'=>σ'=[Y (.int n),Y<|.int m,Y<|.int (n%9),Y<|.int (n/9),S,S]/\H=H') {O,_,O,DL (λhw=>{_,O,DL (λhm=>?_) λhm=>{(O),O}}) λhw=>{(O),O}} ?_;·let j: (0:Int) <m:=A1M hm;let U:=Kh (n/9) j;show{j,zl 2,λt ht=>q (.form (n/9%m).toNat) (show _<m by lia) _ _ (Bd ht) {t,O,?_}};rw[Az,LM U.1]
 rintro σ' H' ⟨rfl,rfl⟩;let tp:∀{H':Hp} {t:AH} {xs:List V},H' t=S->AZ H H'->AZ H (upd H' t<|.tup xs):=λh s=>s.trans<|Bd h;show CD (λσ' H'=>∃l xs,xs.length=4/\Yw H' xs/\σ'=[Y (.int n),Y<|.int m,Y<|.int (n%9),Y<|.int (n/9),Y<|.ref l,S]/\AZ H H'/\H' l=Y (.lst xs)) ?_ ?_;·show{zl 1,λt1 h1=>{zl 1,λt2 h2=>{zl 1,λt3 h3=>{zl 8,λp hp=>?_}}}};have(x,F,hm):=XT (xs:=([1,2,3,7,127,128,255,256]:List Int).map V.int) (i:=n/9%8) () (by rw[Ay];change n/9%8<8;lia);have(i,O,hi):=RZ (P:=λi=>1<=i/\i<=MN) Ab hm;show{(by change(0:Int) <8;decide),p,_,_,_,O,O,Cg.of Az,F,zl 2,λt4 h4=>{zl 4,λl hl=>?_}};let e3:=Yw.snoc (k:=.whole) trivial h3 (λ_ e=>{(_),O,e}) (Yw.snoc (k:=.count) trivial h2 (λ_ e=>{(_),O,e}) (Yw.snoc (k:=.truth) trivial h1 (λ_ e=>{(_),O,e}) (Yw.nil H)));let e4:=Yw.snoc (k:=.upto i) hi h4 (λ_ e=>{(_),O,e})<|e3.sm (Sm.of<|Bd hp);show{l,_,O,e4.sm<|Sm.of (Bd hl),O,((tp h4<|(tp h3<|tp h2 (tp h1<|AZ.refl _)).trans (Bd hp))).trans<|Bd hl,Az}
 rintro σ' H1 ⟨l,xs,D,hP,rfl,s1,hl⟩;show CD (λσ' H'=>∃l xs,xs.length=6/\Yw H' xs/\σ'=[Y (.int n),Y<|.int m,Y<|.int (n%9),Y<|.int (n/9),Y<|.ref l,S]/\AZ H H'/\H' l=Y (.lst xs)) ?_ ?_
 ·show{zl 3,λp hp=>?_};have(x,F,hm):=XT (xs:=([1,3,100]:List Int).map V.int) (i:=n/9%3) () (by rw[Ay];change n/9%3<3;lia);have(i,O,hi):=RZ (P:=λi=>1<=i/\i<=100) Ab hm;show{(by change(0:Int) <3;decide),p,_,_,_,O,O,Cg.of Az,F,zl 2,λt4 h4=>{xr,o0,(by change(0:Int) <2;decide),zl 2,λt5 h5=>{zl 2,λr a5=>?_}}};let hb:1<=big - 1 - n/9%2/\big - 1 - n/9%2<=MN:=by let hM: (1000:Int)<=MN:=Ab;rw[jV];generalize MN=M at *;lia
  let e4:=Yw.snoc (k:=.upto<|big - 1 - n/9%2) hb h5 (λ_ e=>{(_),O,e})<|Yw.snoc (k:=.text i) hi h4 (λ_ e=>{(_),O,e}) (Yw.nil _);let s4:=(((Bd (u:=.lst [.int 1,.int 3,.int 100]) hp).trans<|Bd (u:=.tup [.str "text",.int i]) h4).trans<|Bd (u:=.tup [.str "upto",.int<|big - 1 - n/9%2]) h5).trans<|Bd (u:=.lst [.ref t4,.ref t5]) a5;show{l,r,xs,_,O,O,s4 _ _ hl,Az,by rw[D];change 6<=sizeLine;decide,λy hy=>{y,_,by rw[AS,D];rfl,?_,O,(s1.trans s4).trans<|Bd hy,Az}};show((hP.sm<|Sm.of s4).cat<|e4.sm (Sm.of<|Bd a5)).sm (Sm.of<|Bd hy)
 rintro σ' H2 ⟨l,xs,D,hP,rfl,s2,hl⟩;show{_,O,DL (λhw=>?_) λhw=>?_};·let b8:n%9<6:=A1M hw;let(x,F,a1):=XT (xs:=xs) (i:=n%9) () ();let(k,hk,hT):=hP x a1;show{l,_,_,_,O,O,Cg.of hl,F,q k (tt hk m) x H2 s2 hT}
 let(x,F,a1):=XT (xs:=xs) (i:=n/9/8%6) () ();let(k,hk,hT):=hP x a1;show{{(Aa),Aa},(by change(0:Int) <6;decide),l,_,_,_,O,O,Cg.of hl,F,?_};show CD (λσ' H'=>∃k:Lk,(k.plain\/∃i,k= .form i/\i<m)/\∃u,TL H' k u/\σ'=[Y (.int n),Y<|.int m,Y<|.int (n%9),Y<|.int (n/9),Y<|.ref l,Y u]/\AZ H H') ?_ ?_;·let no:∃k:Lk,(k.plain\/∃i,k= .form i/\i<m)/\∃u,TL H2 k u/\[Y (.int n),Y<|.int m,Y<|.int (n%9),Y<|.int (n/9),Y<|.ref l,Y x]=[Y (.int n),Y<|.int m,Y<|.int (n%9),Y<|.int (n/9),Y<|.ref l,Y u]/\AZ H H2:={k,.inl hk,x,hT,O,s2};show{_,O,DL (λhm=>{{(Aa),Aa},(by change(0:Int) <3;decide),O,_,O,DL (λ_=>?_) λ_=>no}) λ_=>no};let j: (0:Int) <m:=A1M hm;let U:=Kh (n/9/144) j;show{{(Aa),Aa},j,zl 2,λt ht=>{.form (n/9/144%m).toNat,.inr {_,O,()},.ref t,{t,O,?_},O,s2.trans<|Bd ht}};rw[Az,LM U.1]
 rintro σ' H3 ⟨k,hk,u,hT,rfl,s3⟩;show{zl 2,λt ht=>q (.list k) hk _ _ (s3.trans<|Bd ht) {t,u,O,Az,hT.sm<|Sm.of (Bd ht)}}
def zK:Lk->Bool|.list _=>Z|.form _=>Z|_=>ge
def oV{m:Nat}{k:Lk}(h:k.ok m)(z:zK k=ge):k.plain:=by cases k with|list j=>cases z|form i=>cases z|_=>show h
def zM(k:Lk):L2.jH (.str k.word) [.str "list",.str "form"]=zK k:=by cases k with|truth=>show(by decide+kernel:L2.jH (.str "truth") [.str "list",.str "form"]=ge)|count=>show(by decide+kernel:L2.jH (.str "count") [.str "list",.str "form"]=ge)|whole=>show(by decide+kernel:L2.jH (.str "whole") [.str "list",.str "form"]=ge)|upto n=>show(by decide+kernel:L2.jH (.str "upto") [.str "list",.str "form"]=ge)|text n=>show(by decide+kernel:L2.jH (.str "text") [.str "list",.str "form"]=ge)|form z=>show(by decide+kernel:L2.jH (.str "form") [.str "list",.str "form"]=Z)|list j=>show(by decide+kernel:L2.jH (.str "list") [.str "list",.str "form"]=Z)
def A6{k:Lk}:decide (V.str k.word=V.str "form")=(match k with|.form _=>Z|_=>ge):=by cases k with|truth=>show(by decide+kernel:decide (V.str "truth"=V.str "form")=ge)|count=>show(by decide+kernel:decide (V.str "count"=V.str "form")=ge)|whole=>show(by decide+kernel:decide (V.str "whole"=V.str "form")=ge)|upto n=>show(by decide+kernel:decide (V.str "upto"=V.str "form")=ge)|text n=>show(by decide+kernel:decide (V.str "text"=V.str "form")=ge)|form z=>show(by decide+kernel:decide (V.str "form"=V.str "form")=Z)|list j=>show(by decide+kernel:decide (V.str "list"=V.str "form")=ge)
def mj: [V.str "list",.str "form"].all Qz=true:=⋯
def zT(hd:QU k d)(h:Th H d u):Th H' d u:=by cases k with|truth=>rw[show d= .bl Z from hd]at h ⊢;show h|text n=>let(z,O,_):=hd;show h|upto m=>let(i,O,_):=hd;show h|whole=>let(i,O,_):=hd;show h|count=>let(i,O,_):=hd;show h|form i=>show hd.elim|list k=>show hd.elim
def U8(hd:QU k d)(h:Th H d u):Fz H0 u:=by intro m e;subst e;cases k with|truth=>rw[show d= .bl Z from hd]at h;cases h|text n=>let(z,O,_):=hd;cases h.1|upto m=>let(i,O,_):=hd;cases h|whole=>let(i,O,_):=hd;cases h|count=>let(i,O,_):=hd;cases h|form i=>show hd.elim|list k=>show hd.elim
inductive dy(vs:List V)(H:Hp)(Q:VK):Prop|mk (v k n m:_) (_:vs=[v,.int n]) (_:TL H k v) (_:Lk.ok m k) (_:0<=n) (_:n<2147483648) (_:∀d,(d=CZ k\/QU k d)->∀u H',AZ H H'->Th H' d u->Fz H u->Q u H')
def eV:Sp:=λvs H Q _=>dy vs H Q
abbrev Y4:AT:="abcdefghijkl"
def yb(a:Nat)(h:a<9):Ct (El Y4 (Y (a:Int)) S)=Z/\3<= (El Y4 (Y (a:Int)) S).length:=(by decide+kernel:∀a:Fin 9,Ct (El Y4 (Y (a.val:Int)) S)=Z/\3<= (El Y4 (Y (a.val:Int)) S).length) {(a),h}
def fU(T:Tx K mg):∅ 2 1139 ["_law_kind_here","_law_number"] eV:=by
 show(T.df 45 O).okA ja ?_;intro 1 hr h;let(v,k,n,m,O,hv,hk,h0,h1,q):=h;show{_,Bk (qi (PW.pt<|EX (qc Mz (Bt Di (pv 1) AD) AD) (ET<|Jo Jf (LU (pv 0) AD) (DC<|Cy AR AR) O))<|qr (qD (@To P w K mg base T) hr T.VJ<|Cp (pv 0)))<|AJ (qi (qc CU (LU (pv 0) AD) AR)<|qr Dk) (AJ (qi (qc CU (LU (pv 0) AD) AR)<|qr (Gu QP (Gu QP AR (HH<|Bt Di (Bt Ey (pv 1) AD) AD) HI) HI<|HH (qB (pM O) T.qR jT<|Cy (LU (pv 0) AD) AD)))<|AJ (qi (qc CU (LU (pv 0) AD) AR)<|qr (KE (Cq<|Cy AD (LU (pv 0) AD))<|Bt Di (Bt Ey (pv 1) AD) AD)) (qr<|KE (Cq<|AY AD (AY AD<|Cy AD (Bt OJ (fL VO AD)<|qT Ib T.Kr HQ (Cp<|Da CU (LU (pv 0) AD) AR (DW _))))) (Bt Di (Bt Ey (pv 1) AD) AD))),?_};let(t,ys,O,ht):=hv.word;show CD (λσ' H'=>σ'=[Y (.ref t),Y<|.int n]/\k.plain/\AZ H H') ?_ ?_
 ·show{(by change(0:Int) <3;decide),_,O,DL (λ_=>{.ref t,k,O,hv,λu H' s' U hz=>q _ (.inl O) u H' s' U hz}) λ_=>{t,_,_,_,O,O,Ec.of ht,Kn,zl 2,λr a9=>{r,_,O,.inr<|Ec.of Az,O,mj,_,O,?_}}};let s4:=Bd (H:=H) (u:=.tup [.str "list",.str "form"]) a9;rw[zM];cases hl:zK k with|true=>show BX {.ref t,k,O,hv.sm<|Sm.of s4,λu H' s' U hz=>q _ (.inl O) u H' (s4.trans s') U λm e=>s4.free<|hz m e}|false=>show BM {O,oV hk hl,s4}
 rintro σ' H1 ⟨rfl,hp,s1⟩;let j:=s1 _ _ ht;let q':∀d,QU k d->∀u H',AZ H1 H'->Th H' d u->Q u H':=λd hd u H' s' U=>q d (.inr hd) u H' (s1.trans s') U<|U8 hd U;show{t,_,_,_,O,O,Ec.of j,Kn,O,_,O,?_};let c4:∀l:List Int,l=[1,5,300,0]\/l=[1,5,300,-1]->∃i,TN (l.map V.int) (n/3%4)=Y (.int i)/\i∈l:=λl hl=>by
  let(x,D,hm):=XT (xs:=l.map V.int) (i:=n/3%4) () (by rw[Ay,show l.length=4 by rcases hl with rfl|rfl <;> rfl];lia);let(i,hi,O):=Bb.mp hm;show{(i),D,hi}
 cases k with
 |form i=>show hp.elim|list k=>show hp.elim|truth=>show Nt O<|q' _ O _ H1 (AZ.refl _) O
 |text c=>
  let(t',e',F):=hv;obtain rfl:t=t':=V.ref.inj e';show FM (show ¬V.str "text"=V.str "truth" by decide+kernel) {t,_,_,_,O,O,Ec.of j,Kn,O,_,O,Nt O ?_};let(z1,z2):=yb (n/3%9).toNat ();rw[show(((n/3%9).toNat:Nat):Int)=n/3%9 by lia]at z1 z2;let a3:=(Er z1).2.1;let b9:=hp.1;show{{(Aa),Aa},(by change(0:Int) <9;decide),_,O,Y4,O,Ab,t,_,_,_,O,O,Ec.of<|s1 _ _ F,dh,_,_,O,_,O,_,O,AU a3 Aa,?_};let b1:1<= (if (3:Int) <c then 3 else c)/\(if (3:Int) <c then 3 else c)<=c:=by split <;> lia
  let(r1,r2):=ug z1 b1.1;show q' _ {_,O,r1,()} _ _ (AZ.refl _) {O,?_};show AU (TZ _ _ _)<|AU a3 Aa
 |upto m=>
  let(t',e',F):=hv;obtain rfl:t=t':=V.ref.inj e';show FM (show ¬V.str "upto"=V.str "truth" by decide+kernel) {t,_,_,_,O,O,Ec.of j,Kn,O,_,O,FM (show ¬V.str "upto"=V.str "text" by decide+kernel) {t,_,_,_,O,O,Ec.of j,Kn,O,_,O,Nt O ?_}};let b7:=hp.1;show{t,_,_,_,O,O,Ec.of<|s1 _ _ F,dh,zl 2,λp z=>?_};let(x,D,a8):=XT (xs:=([1,m]:List Int).map V.int) (i:=n/3%2) () (by rw[Ay];change n/3%2<2;lia);let(i,O,hi):=RZ (P:=λi=>0<=i/\i<=m) (by
   intro i hi;simp only[Bf,Cm,or_false]at hi;rcases hi with rfl|rfl <;> lia) a8
  show{{(Aa),Aa},(by change(0:Int) <2;decide),p,_,_,_,O,O,Cg.of Az,D,q' _ {(i),O,hi} _ _ (Bd z) O}
 |whole=>
  show FM Ab {t,_,_,_,O,O,Ec.of j,Kn,O,_,O,FM Ab {t,_,_,_,O,O,Ec.of j,Kn,O,_,O,FM Ab {_,O,t,_,_,_,O,O,Ec.of j,Kn,O,.inr {_,O,.inl {(Aa),Aa},zl 4,λp z=>?_}}}};let(i,D,hi):=c4 [1,5,300,-1]<|.inr O;show{{(Aa),Aa},(by change(0:Int) <4;decide),p,_,_,_,O,O,Cg.of Az,D,q' _ {i,O,(by decide:∀i∈ [1,5,300,-1],-2147483648<=i/\i<= (2147483648:Int)) i hi} _ _ (Bd z) O}
 |count=>
  show FM Ab {t,_,_,_,O,O,Ec.of j,Kn,O,_,O,FM Ab {t,_,_,_,O,O,Ec.of j,Kn,O,_,O,FM Ab {_,O,t,_,_,_,O,O,Ec.of j,Kn,O,.inr {_,O,.inl {(Aa),Aa},zl 4,λp z=>?_}}}};let(i,D,hi):=c4 [1,5,300,0]<|.inl O;show{{(Aa),Aa},(by change(0:Int) <4;decide),p,_,_,_,O,O,Cg.of Az,D,q' _ {i,O,(by decide:∀i∈ [1,5,300,0],0<=i/\i<= (2147483648:Int)) i hi} _ _ (Bd z) O}
structure SF where
 num:Int
 nam:AT
 kind:Lk
 must:Bool
 dfl:Dt
structure SG where
 nam:AT
 choice:Bool
 gone:List Int
 fields:List SF
def ik(g:SG)(fl:AH):List (Hn×V):=[(.inr "name",.str g.nam),(.inr "pair",.bl g.choice),(.inr "fields",.ref fl)]
def ZB(H:Hp)(f:SF)(r:AH):Prop:=∃kv dv,H r=Y (.lst [.int f.num,.str f.nam,kv,.bl f.must,dv])/\TL H f.kind kv/\Th H f.dfl dv
def Sz(H:Hp)(g:SG)(a:AH):Prop:=∃fl rs,H a=Y (.dK<|ik g fl)/\H fl=Y (.lst<|IK V.ref rs)/\Paired (ZB H) g.fields rs
def ZB.sm(s:Sm H H')(h:ZB H f r):ZB H' f r:=by let(kv,dv,h1,h2,h3):=h;show{kv,dv,s _ _ h1 O,h2.sm s,Th.sm s _ _ h3}
def Sz.sm(s:Sm H H')(h:Sz H g a):Sz H' g a:=by let(fl,rs,h1,h2,h3):=h;show{fl,rs,s _ _ h1 O,s _ _ h2 O,Paired.mapP h3 λ_ _ z=>z.sm s}
def yy(g:SG)(fl:AH):IQ (ik g fl) (.inr "name")=Y (.str g.nam):=by kernel_rfl
def yx(g:SG)(fl:AH):IQ (ik g fl) (.inr "pair")=Y (.bl g.choice):=by kernel_rfl
def pC(g:SG)(fl:AH):IQ (ik g fl) (.inr "fields")=Y (.ref fl):=by kernel_rfl
def Sh{H:Hp}{p:AH}(h:H p=Y (.dK<|ik g fl)):KW H p (.str "name") (Y<|.str g.nam):=by have:=KW.k (k:=.inr "name") h;rw[yy]at this;show this
def Pa{H:Hp}{p:AH}(h:H p=Y (.dK<|ik g fl)):KW H p (.str "pair") (Y<|.bl g.choice):=by have:=KW.k (k:=.inr "pair") h;rw[yx]at this;show this
def Ji{H:Hp}{p:AH}(h:H p=Y (.dK<|ik g fl)):KW H p (.str "fields") (Y<|.ref fl):=by have:=KW.k (k:=.inr "fields") h;rw[pC]at this;show this
def Fe(W:List Int):Lk->Int|.form i=>W.getD i 0|_=>1
def EI(W:List Int)(c:Bool)(fs:List SF):Int:=if c then 1+Xh (fs.map λf=>Fe W f.kind)else 1+ ((fs.filter (·.must)).map λf=>Fe W f.kind).sum
def WBd(W:List Int):Prop:=∀x∈W,0<=x/\x<=1000
def yc(h:WBd W)(hm:W.length=m)(j:k.ok m):0<=Fe W k/\Fe W k<=1000:=by
 cases k with
 |form i=>
  let hi:i<W.length:=by rw[hm];show j
  change 0<=W.getD i 0/\W.getD i 0<=1000;rw[Bx,AI hi];show h _<|HW hi
 |_=>show tJ
def PN:EE P w K mg base SU k f fd ps (λ_ _ _ _=>False):={λ_ _ _ _ h=>h.elim,λ_ _ _ _ _ _ _ _ _ _ _ _ _ _ _ h=>h.elim}
def TF(h:∀vs H Q E,z vs H Q E->sp vs H Q E)(F:EE P w K mg base SU k f fd ps sp):EE P w K mg base SU k f fd ps z:={λvs H Q E x=>F.1 vs H Q E<|h _ _ _ _ x,λa b c d e f g i j l m n o p q x=>F.2 a b c d e f g i j l m n o p q<|h _ _ _ _ x}
def uS{U:Type}{k:Nat}{f:AH}{fd:Ea}{ps:List AT}{sp:U->Sp}(F:∀i,EE P w K mg base SU k f fd ps<|sp i):EE P w K mg base SU k f fd ps (λvs H Q E=>∃i,sp i vs H Q E):={λvs H Q E D=>(by let(i,x):=D;show(F i).1 vs H Q E x),λa b c d e f g h j l m n o p q z=>(by let(i,x):=z;show(F i).2 a b c d e f g h j l m n o p q x)}
def Tj{z j:Type}{R:z->j->Prop}:∀{l:List z} {m:List j},Paired R l m->∀(i:Nat) x,l[i]?=Y x->∃y,m[i]?=Y y/\R x y|_,_,.nil,i,y,e=>by simp at e|_,_,.cons a r,0,y,e=>by simp at e;show{_,O,e ▸ a}|_,_,.cons a r,i+1,y,e=>by simp at e;let(x,h1,h2):=Tj r i y e;show{x,by simpa using h1,h2}
def OY(K:AB)(j:X.K=K):m6 X (C9 K):=by subst j;show lQ
def yS{x y z:V}:TN (x::y::z::xs) 2=Y z:=CN (j:=2) O
def O7{x y z u:V}:TN (x::y::z::u::xs) 3=Y u:=CN (j:=3) O
def Oz{j:Type}{l:List j}{i:Nat}{x:j}(h:l[i]?=Y x):l.take (i+1)=l.take i++[x]:=by rw[List.take_succ,h];rfl
def fmB:Lk->Bool|.form _=>Z|_=>ge
def x9(k:Lk):decide (V.str k.word=V.str "form")=fmB k:=by rw[A6];cases k <;> rfl
structure vM(gs:List SG)(Ws:List Int)(k:Nat):Prop where
 bd:WBd Ws
 len:Ws.length=k
 ok:∀i g,i<=k->gs[i]?=Y g->(∀f∈g.fields,f.kind.ok i)/\g.fields.length<40/\(g.choice=Z->g.fields≠[])
 ws:∀i g,i<k->gs[i]?=Y g->Ws[i]?=Y (EI (Ws.take i) g.choice g.fields)
def vM.le(h:vM gs Ws k)(hi:i<=k):vM gs (Ws.take i) i:=by show{λx F=>h.bd x<|Dz F,by rw[Cb,h.len];lia,λj g D z=>h.ok j g () z,λj g D z=>?_};rw[Of D,h.ws j g () z,List.take_take,Nat.min_eq_left ()]
inductive hZ(k:Nat)(vs:List V)(H:Hp)(Q:VK):Prop|mk (L:AH) (as:List AH) (gs:List SG) (Ws:List Int) (g:SG) (_:vs=[.ref L,.int k]) (_:H L=some (.lst<|as.map V.ref)) (_:Paired (Sz H) gs as) (_:vM gs Ws k) (_:gs[k]?=some g) (_:∀H',AZ H H'->Q (.int<|EI Ws g.choice g.fields) H')
def Wd(k:Nat):Sp:=λvs H Q _=>hZ k vs H Q
def spU(k:Nat):Sp:=λvs H Q E=>∃i,i<k/\Wd i vs H Q E
def A08: ((["_law_j"]:List AT) ++ (["_law_weights","_law_form_here"]:List AT)).Nodup:=⋯
def UO(T:Tx K mg)(G:∅ (r+1) 1144 Am (spU k)):∅ (r+2) 1144 Am (Wd k):=by
 show(T.df 46 O).okA Px ?_;intro 1 hr h;have(L,as,gs,Ws,g,O,hL,hp,hW,hg,q):=h;let a4:=MD hr;show{_,AJ (qS 2 Px.nd<|KE (pv 0) (pv 1)) (AJ (qS 3 Px.nd<|Cq Ed)<|Bk (HM Dn O (DS<|Fy a4 (pv 2) AR (λ_ _=>rfl)) (BQ (i:=4) Px.nd O<|Ci O)<|BO (Ds<|Ej Bg BG BF Du (pv 3) (Cp<|DH (qc CU (LU (KE (pv 4) AD) AD) AR) (KF G (hr.mono<|()) T.ZQ<|Cy (pv 0) (LU (KE (pv 4) AD) AD)) AD))) (AJ (qi (BA<|Fy a4 (pv 2) AR (λ_ _=>rfl))<|qr (Bt DV AD<|qB (QC O) T.qR jT (Cp<|pv 3)))<|qr (Bt DV AD<|qB (QB O) T.zp vz (Cp<|qp ["_law_j"] ["_law_weights","_law_form_here"] [3,2] (.cons O (.inl O) O<|.cons O (.inl O) O .nil) (HY O T.Li<|Cp (qB Cd T.Ei De<|Cp (pv 3))) (λC s_ H_ fp=>BQ (i:=0) A08 O (Ci O)<|DN O) (λC s_ H_ fp=>PF<|BA (Mx (OY K O) (Mx (OY K O) (Fy a4 (pv 2) AR λ_ _=>rfl) (pv 0) λ_ _=>rfl) AD λ_ _=>rfl)) (λC s_ H_ fp=>Mx (OY K O) (pv 1) (pv 0) λ_ _=>rfl))))),?_};let(a,ha,fl,rs,hA,hF,hR):=Tj hp k g hg;let hok:=hW.ok k g (Bh _) hg;let b0:g.fields.length=rs.length:=hR.length;let c3:=hW.len;show{L,_,_,_,O,O,Cg.of hL,CN (j:=k) (v:=.ref a) (by rw[AQ,ha];rfl),zl 0,λwl a8=>?_};let s0:=Bd (u:=.lst []) a8;show CD (λσ' H'=>(∃v4,σ'=[Y (.ref L),Y<|.int k,Y<|.ref a,Y<|.ref wl,v4])/\AZ H H'/\H' wl=Y (.lst<|(g.fields.map λf=>Fe Ws f.kind).map V.int)) ?_ ?_
 ·show{a,_,O,Ji<|s0 _ _ hA,fl,O,{_,Cg.of<|s0 _ _ hF},ME (xs:=rs.map V.ref) (λi σ' H'=>(∃v4,σ'=[Y (.ref L),Y<|.int k,Y<|.ref a,Y<|.ref wl,v4])/\AZ H H'/\H' wl=Y (.lst<|((g.fields.take i).map λf=>Fe Ws f.kind).map V.int)) {{(_),O},s0,Az} (λi σ' H' _ h=>Cg.of<|h.2.1 _ _ hF) (λi x σ' H' U h=>?_) λσ' H' h=>?_}
  ·let((v4,O),s',e'):=h;rw[AQ]at U;let(r,a5,O):=Bp.mp U;have(f,hf,kv,dv,h1,h2,h3):=GO hR i r a5;let hT:=h2.sm<|Sm.of s';let b2:=hok.1 f<|AN hf;let(t,ys,O,ht):=hT.word;let b5:=s' _ _ h1;let d4:=(AO.mp hf).1;let fin:∀(n:Int) (H2:Hp),AZ H' H2->Fe Ws f.kind=n->Kf (.ref wl) [.int n] H2 λ_ H3=>(∃v4,[Y (V.ref L),Y<|.int k,Y<|.ref a,Y<|.ref wl,Y<|.ref r]=[Y (.ref L),Y<|.int k,Y<|.ref a,Y<|.ref wl,v4])/\AZ H H3/\H3 wl=Y (.lst<|((g.fields.take<|i+1).map λf=>Fe Ws f.kind).map V.int):=λn H2 s2 en=>by
    show{wl,_,_,O,O,s2 _ _ e',?_,{(_),O},(s'.trans s2).put a8,?_};·rw[Ay,Ay,Cb];show CW ()
    rw[Az,Oz hf,Bl,Bl,<-en];rfl
   show{.inl {O,_,Cg.of e'},r,_,_,_,O,O,Cg.of b5,yS,t,_,_,_,O,O,Ec.of ht,Kn,O,_,O,?_};rw[x9];cases hk:f.kind with
   |form j=>
    rw[hk]at hT b2;let(t',e2,b9):=hT;obtain rfl:t=t':=V.ref.inj e2;let hj:j<k:=b2;let d5:k<gs.length:=(AO.mp hg).1;let b1:gs[j]?=Y (gs[j]' ()):=AI _;show BX {r,_,_,_,O,O,Cg.of b5,yS,t,_,_,_,O,O,Ec.of b9,dh,j,hj,L,as,gs,_,_,O,s' _ _ hL,Paired.mapP hp λ_ _ z=>z.sm<|Sm.of s',hW.le<|GU hj,b1,λH2 s2=>fin _ H2 s2 ?_};rw[hk];change Ws.getD j 0=_;rw[Bx,hW.ws j _ hj b1];rfl
   |_=>show BM (fin 1 H' (AZ.refl _)<|by rw[hk];rfl)
  let((v4,O),s',e'):=h;show{{(_),O},s',?_};rw[e',Ay,<-b0,Dj]
 rintro σ' H' ⟨⟨v4,rfl⟩,s',e'⟩;let hb:∀x∈g.fields.map λf=>Fe Ws f.kind,0<=x/\x<=1000:=λx U=>by
  let(f,a7,O):=Bb.mp U;show yc hW.bd c3<|hok.1 _ a7
 show{a,_,O,Pa<|s' _ _ hA,_,O,?_};let(nam,choice,gone,fields):=g;cases choice with
 |true=>
  show BX {wl,_,O,Cg.of e',?_,λM h1 h2=>?_};·have:=Im.mpr<|hok.2.2 O;rw[Ay];show this
  rw[lI h1 h2];show q _ s'
 |false=>
  let d2:fields.length<40:=hok.2.1;let a9: ((fields.map λf=>Fe Ws f.kind).map V.int).length=fields.length:=by rw[Ay,Ay]
  show BM {wl,_,O,.inl<|Cg.of e',_,O,(),by rw[a9];lia,?_};rw[a9,show((fields.length:Int)).toNat=fields.length by lia];show Jj (Wk.rng 0 fields.length) (by rw[Ay,Ce];lia) (λj=>match fields[j]? with|some f=>f.must|none=>ge) (λj=>.int<|match fields[j]? with|some f=>Fe Ws f.kind|none=>0) (λj y hy H2 R s2 a2 hN=>?_) λD H2 hD s2 e2=>?_
  ·let(O,hj):=bY hy;let a6:fields[j]?=Y (fields[j]'hj):=AI _;let(r,a5,kv,dv,h1,_):=Tj hR j _ a6;let a2:=a2 H2 λ_ _ e=>e;let b4:=hN H2 λ_ _ e=>e;rw[a6]at a2 b4;let s3:=s'.trans s2;let ej:TN (rs.map V.ref) (0+ (j:Int))=Y (.ref r):=by rw[show 0+ (j:Int)=((j:Nat):Int)by lia];show CN (by rw[AQ,a5];rfl)
   show{Sub.set O,a,_,O,Ji<|s3 _ _ hA,fl,_,_,_,O,O,Cg.of<|s3 _ _ hF,ej,r,_,_,_,O,O,Cg.of<|s3 _ _ h1,O7,_,O,?_};cases hm: (fields[j]'hj).must with|true=>show BX {wl,_,_,_,O,O,Cg.of<|s2 _ _ e',(by rw[show 0+ (j:Int)=((j:Nat):Int)by lia];show CN<|by rw[AQ,AQ,a6];rfl),a2 hm}|false=>show BM<|b4 hm
  let e4:H2 D=Y (.lst<|((fields.filter (·.must)).map λf=>Fe Ws f.kind).map V.int):=by rw[e2,Ay,Ce,Nl fields (·.must) (λf=>V.int<|Fe Ws f.kind) _ _ (λi d hd=>by rw[hd]) (λi d hd=>by rw[hd]),Br];rfl
  let b3:∀x∈ (fields.filter (·.must)).map λf=>Fe Ws f.kind,0<=x/\x<=1000:=λx U=>by
   let(f,a7,O):=Bb.mp U;show hb _<|Bb.mpr {f,(Fb.mp a7).1,O}
  let d1: ((fields.filter (·.must)).map λf=>Fe Ws f.kind).length<=40:=by grind
  show{D,_,O,e4,λj hj=>{?_,?_},?_};·let U: ((fields.filter (·.must)).map λf=>Fe Ws f.kind)[j]?=Y (((fields.filter (·.must)).map λf=>Fe Ws f.kind)[j]'hj):=AI hj;rw[Bx,U];have:=b3 _<|AN U;change InLong (((fields.filter (·.must)).map λf=>Fe Ws f.kind)[j]'hj);show{(),()}
  ·rw[Vl _ _ ()];let hs:=bz (ns:=((fields.filter (·.must)).map λf=>Fe Ws f.kind).take<|j+1) (b:=1000) λx U=>b3 x<|Dz U;let d3: (((fields.filter (·.must)).map λf=>Fe Ws f.kind).take<|j+1).length<=40:=by rw[Cb];lia
   show{(),()}
  rw[Vl _ _ (Bh _),Dj];show q _<|s'.trans s2
def ON(T:Tx K mg):∀k,∅ (k+2) 1144 Am<|spU k
 |0=>TF (sp:=λ_ _ _ _=>False) (λvs H Q E h=>by let(i,hi,_):=h;show A1Q hi<|QI i) PN
 |k+1=>uS λi=>by
  by_cases h:i<k;·show TF (λvs H Q E z=>{(i),h,z.2}) ((ON T k).mono<|())
  by_cases e:i=k;·show TF (λvs H Q E z=>e ▸ z.2)<|UO T (ON T k)
  show TF (sp:=λ_ _ _ _=>False) (λvs H Q E z=>A1Q z.1<|()) PN
def rm(l:List AH)(H:Hp):Hp:=λb=>if b∈l then S else H b
def Pz(h:rm l H b=Y o):b∉l/\H b=Y o:=by
 unfold rm at h
 grind
def KC(n:b∉l)(h:H b=Y o):rm l H b=Y o:=by unfold rm;rw[A1N n];show h
def Ke(s:AZ H H'):AZ (rm l H) (rm l H'):=λb o e=>by
 let(n,e):=Pz e;show KC n<|s _ _ e
def OF(h:a∈l):AZ (rm l H) (rm l<|upd H a o):=λb u e=>by
 let(n,e):=Pz e;show KC n (by rw[AM (λz=>n<|by rw[z];show h)];show e)
def bZ:AZ (rm l H) H:=λb u e=>(Pz e).2
def cb(h:∀a∈m,a∈l):AZ (rm l H) (rm m H):=λb u e=>by
 let(n,e):=Pz e;show KC (λz=>n<|h _ z) e
def X9(hL:∀a∈L,∃xs,H a=Y (.lst xs)):∀{k:Lk} {u:V},TL H k u->TL (rm L H) k u:=by
 let ne:∀{a:AH} {xs:List V},H a=Y (.tup xs)->rm L H a=Y (.tup xs):=λe=>KC (λz=>by
  let(ys,h):=hL _ z;rw[e]at h;cases h) e
 intro k;induction k with|truth=>show λa4=>(by let(a,e,h):=a4;show{a,e,ne h})|count=>show λa3=>(by let(a,e,h):=a3;show{a,e,ne h})|whole=>show λa2=>(by let(a,e,h):=a2;show{a,e,ne h})|upto n=>show λa1=>(by let(a,e,h):=a1;show{a,e,ne h})|text n=>show λU=>(by let(a,e,h):=U;show{a,e,ne h})|form n=>show λF=>(by let(a,e,h):=F;show{a,e,ne h})|list k ih=>show λD=>(by let(a,u,e,h,j):=D;show{a,u,e,ne h,ih j})
def zU(hL:∀a∈L,∃xs,H0 a=Y (.lst xs))(hd:d=CZ k\/QU k d)(h:Th H d u)(j:Fz H0 u):Th (rm L H) d u:=by
 rcases hd with rfl|hd
 ·cases k with
  |list k=>
   let(a,xs,O,ha,D,F):=h;let n:a∉L:=λz=>by
    let(ys,h):=hL _ z;rw[j a O]at h;cases h
   obtain rfl:xs=[]:=D;show{a,[],O,KC n ha,O,F}
  |_=>show h
 show zT hd h
inductive vW(K:AB)(vs:List V)(H:Hp)(Q:VK):Prop|mk (sc:AH) (ns:List Int) (k l:Int) (_:vs=[.ref sc,.int k,.int l]) (_:Cg K H sc (ns.map V.int)) (_:0<=k) (_:k<=100) (_:∀g fl a H',sg g.nam=LF (EU ns 0) (20+k)->(g.choice=true->k<l)->AZ H H'->H a=none->H fl=none->H' a=some (.dK<|ik g fl)->H' fl=some (.lst [])->Q (.ref a) H')
def wV(K:AB):Sp:=λvs H Q _=>vW K vs H Q
def F8(g:SG)(fl:AH):Iz [] (ik g fl)=ik g fl:=by kernel_rfl
def xN(T:Tx K mg):∅ 2 1151 ["_law_script","_law_k","_law_last"] (wV K):=by
 show(T.df 47 O).okA bN ?_;intro 1 hr h;let(sc,ns,k,l,O,U,h0,h1,q):=h;show{_,AJ (qS 3 bN.nd<|qD (@Vq P w K mg base T) hr T.FK (Cy (pv 0) AD))<|AJ (qS 4 bN.nd<|qD (@WO P w K mg base T) hr T.Op (Cy (qD (@Vq P w K mg base T) hr T.FK<|Cy (pv 0) (Bt DV AD<|pv 1))<|Bt DV AD (pv 1))) (qr<|Vo (Fw AR (qD (@aw P w K mg base T) hr T.ZR<|Cy (pv 3) (Bt DV AD<|pv 1))<|Fw AR (DT (Da fO (pv 1) (pv 2)<|DW _)<|ED (Da CU (Bt Di (pv 4) AD) AD<|DW _)) (Fw AR (Cq Ed) Vm)) O O Aa Aa),?_};show{sc,ns,_,O,U,Aa,sc,ns,_,O,U,(),_,_,O,(),(),λp D=>{_,_,O,λz hz H1 s1=>?_}};let fin:∀c:Bool,(c=Z->k<l)->∀m,H1 m=S->upd H1 m (.lst []) p=Y (.dK [])/\Q (.ref p) (upd (upd H1 m<|.lst []) p<|.dK (Iz []<|ik ⟨z,c,[],[]⟩ m)):=λc hc m hm=>by
  let e1:=s1 _ _<|Az (H:=H);let j:m≠p:=λe=>by rw[e,e1]at hm;cases hm
  show{by rw[AM j.symm];show e1,?_};rw[F8];show q {z,c,[],[]} m p _ hz hc ?_ D ?_ Az (by rw[AM j];show Az);·show AZ.put (((Bd D).trans s1).trans<|Bd hm) D
  show((Bd D).trans s1).free hm
 show{_,O,DL (λF=>{(by change(0:Int) <4;decide),O,zl 0,λm hm=>?_}) λF=>{zl 0,λm hm=>?_}};·let f:=fin (decide (V.int (Xg (EU ns<|1+k) (11+k) %4)=V.int 1)) (λ_=>A1M F) m hm;show{f.1,ik {z,_,[],[]} m,O,by change 3<=15;decide,f.2}
 let f:=fin ge (λz=>nomatch z) m hm;show{f.1,ik {z,_,[],[]} m,O,by change 3<=15;decide,f.2}
structure XW(m:Nat)(c:Bool)(f:SF):Prop where
 kind:f.kind.ok m
 must:c=Z->f.must=ge
 dfl:f.dfl=CZ f.kind\/(f.must=ge/\c=ge/\QU f.kind f.dfl)
structure dD(k:Nat)(W:List Int)(c:Bool)(b:Int)(fs:List SF)(p:Int):Prop where
 sf:∀f∈fs,XW k c f
 nm:∀(i:Nat) f,fs[i]?=Y f->sg f.nam=LF b i
 ri: (fs.map (·.num)).Pairwise (·< ·)
 nu:∀f∈fs,1<=f.num/\f.num<=p
 p0:0<=p/\p<=30* (fs.length:Int)
 wt:c=ge->EI W ge fs<=90
def dD.nil:dD k W c b [] 0:={(λ_ h=>nomatch h),(λi f e=>by simp at e),.nil,(λ_ h=>nomatch h),{FX 0,FX 0},λ_=>by change(1:Int) +0<=90;decide}
def RB{j:Type}{l:List j}{x:j}{i:Nat}{y:j}(h: (l++[x])[i]?=Y y):l[i]?=Y y\/(i=l.length/\y=x):=by grind
def dD.snoc(h:dD k W c b fs p)(hf:XW k c f)(hn:sg f.nam=LF b fs.length)(h1:f.num=p+d)(hd:1<=d/\d<=30)(hw:c=ge->EI W ge (fs++[f])<=90):dD k W c b (fs++[f]) (p+d):=by
 let F:=h.p0;show{λg j=>?_,λi g j=>?_,?_,λg j=>?_,?_,hw}
 ·rcases BE.mp j with j|j
  ·show h.sf g j
  rw[Bc.mp j];show hf
 ·rcases RB j with j|⟨rfl,rfl⟩
  ·show h.nm i g j
  show hn
 ·rw[Bl,List.pairwise_append];show{h.ri,List.pairwise_singleton _ _,λx D y z=>?_};let(g,j,O):=Bb.mp D;obtain rfl:y=f.num:=Bc.mp z;have:=h.nu g j
  lia
 ·rcases BE.mp j with j|j
  ·have:=h.nu g j
   lia
  rw[Bc.mp j];lia
 rw[AS,Rb]
 lia
def ZU(h:f.must=ge):EI W ge (fs++[f])=EI W ge fs:=by unfold EI;rw[FF,GC (by rw[h];decide),List.filter_nil,CI];rfl
structure zZ(k:Nat)(W:List Int)(g:SG):Prop where
 len:g.fields.length<=5
 ne:g.choice=Z->g.fields≠[]
 fs:∀f∈g.fields,XW k g.choice f
 nms:Ju (g.fields.map (·.nam))
 ri: (g.fields.map (·.num)).Pairwise (·< ·)
 nums:∀f∈g.fields,1<=f.num/\f.num<=150
 gone:g.gone=[]
structure IH(b:Int)(gs:List SG)(Ws:List Int):Prop where
 len:gs.length=Ws.length
 nm:∀(i:Nat) g,gs[i]?=Y g->sg g.nam=LF b (20+i)
 ok:∀k g,gs[k]?=Y g->zZ k (Ws.take k) g
 ws:∀k g,gs[k]?=Y g->Ws[k]?=Y (EI (Ws.take k) g.choice g.fields)
 bd:∀(i:Nat) w,Ws[i]?=Y w->1<=w/\w<=90+i
def lK{b:Int}(h:IH b gs Ws)(j:k.ok gs.length):1<=Fe Ws k/\Fe Ws k<=89+ (gs.length:Int)\/Fe Ws k=1:=by
 cases k with
 |form i=>
  let hi:i<Ws.length:=by rw[<-h.len];show j
  let e:=AI hi;have:=h.bd i _ e;show .inl ?_;change 1<=Ws.getD i 0/\Ws.getD i 0<=_;rw[Bx,e];let z:=h.len;change 1<=Ws[i]/\Ws[i]<=_
  lia
 |_=>show .inr O
def mV{b:Int}(h:IH b gs Ws)(D:gs.length<=12)(z:∀f∈fs,f.kind.ok gs.length)(j:c=Z->fs≠[])(hw:c=ge->EI Ws ge fs<=90):1<=EI Ws c fs/\EI Ws c fs<=90+ (gs.length:Int):=by
 cases c with
 |false=>
  have:=hw O;show{?_,()};let hs:=bz (ns:=(fs.filter (·.must)).map λf=>Fe Ws f.kind) (b:=1000000) λa ha=>by
   let(f,hf,O):=Bb.mp ha;let h1:=lK h<|z f (Fb.mp hf).1
   lia
  change 1<=1+ ((fs.filter (·.must)).map λf=>Fe Ws f.kind).sum
  lia
 |true=>
  let hm:=RY (l:=fs.map λf=>Fe Ws f.kind) (by have:=j O;simp_all);let(f,hf,e):=Bb.mp hm;let h1:=lK h<|z f hf;change 1<=1+Xh (fs.map λf=>Fe Ws f.kind)/\1+Xh (fs.map λf=>Fe Ws f.kind)<=_;rw[<-e]
  lia
def gf{b m:Int}{zs:List AT}(hl:zs.length<=12)(h:∀(i:Nat) z,zs[i]?=Y z->sg z=LF b (m+i)):Ju zs:=by
 show{λz D=>?_,?_};·let(i,e):=CP.mp D;show{yP<|h i z e,trivial}
 show Ig.mpr λi j hi U F e=>?_;let h1:=h i _<|AI hi;let h2:=h j _<|AI U;rw[e,h2]at h1;have:=vy () () h1
 lia
def IH.nms{b:Int}(h:IH b gs Ws)(j:gs.length<=12):Ju (gs.map (·.nam)):=gf (b:=b) (m:=20) (by rw[Ay];show j) λi z e=>by
 rw[AQ]at e;let(g,D,O):=Bp.mp e;show h.nm i g D
def dD.gok{b:Int}(h:dD k W c b fs p)(D:fs.length<=5)(j:c=Z->fs≠[]):zZ k W {z,c,[],fs}:=by
 show{D,j,h.sf,gf (b:=b) (m:=0) (by rw[Ay];change fs.length<=12;lia) λi z e=>?_,h.ri,λf hf=>?_,O};·rw[AQ]at e;let(f,hf,O):=Bp.mp e;rw[Qe];show h.nm i f hf
 have:=h.nu f hf;have:=h.p0
 lia
def IH.snoc{b:Int}(h:IH b gs Ws){g:SG}(z:zZ gs.length Ws g)(hn:sg g.nam=LF b (20+gs.length))(hw:1<=EI Ws g.choice g.fields/\EI Ws g.choice g.fields<=90+ (gs.length:Int)):IH b (gs++[g]) (Ws++[EI Ws g.choice g.fields]):=by
 let j:=h.len;let tk:∀i,i<=gs.length->(Ws++[EI Ws g.choice g.fields]).take i=Ws.take i:=λi hi=>List.take_append_of_le_length ();let tl:Ws.take gs.length=Ws:=by rw[j,Dj]
 let at_:∀{i g'},(gs++[g])[i]?=Y g'->(gs[i]?=Y g'/\i<gs.length)\/(i=gs.length/\g'=g):=λe=>by
  rcases RB e with e|e;·show .inl {e,(AO.mp e).1}
  show .inr e
 show{by rw[AS,AS,j];rfl,λi g' e=>?_,λi g' e=>?_,λi g' e=>?_,λi w e=>?_}
 ·rcases at_ e with⟨e,_⟩|⟨rfl,rfl⟩
  ·show h.nm i g' e
  show hn
 ·rcases at_ e with⟨e,hi⟩|⟨rfl,rfl⟩
  ·rw[tk i ()];show h.ok i g' e
  rw[tk _ (Bh _),tl];show z
 ·rcases at_ e with⟨e,hi⟩|⟨rfl,rfl⟩
  ·rw[tk i (),DK ()];show h.ws i g' e
  rw[tk _ (Bh _),tl,Cv (),j,JG];rfl
 rcases RB e with e|⟨rfl,rfl⟩;·show h.bd i w e
 rw[<-j];show hw
def IH.wt{b:Int}(h:IH b gs Ws)(F:gs.length<=4){g:SG}(D:∀f∈g.fields,f.kind.ok gs.length)(z:g.fields.length<40)(hc:g.choice=Z->g.fields≠[]):vM (gs++[g]) Ws gs.length:=by
 show{λx j=>?_,h.len.symm,λi g' hi e=>?_,λi g' hi e=>?_}
 ·let(i,e):=CP.mp j;let h1:=(AO.mp e).1;have:=h.bd i x e;have:=h.len
  lia
 ·rcases RB e with e|⟨rfl,rfl⟩
  ·have:=h.ok i g' e;show{λf hf=>(this.fs f hf).kind,by have:=this.len;lia,this.ne}
  show{(D),z,hc}
 rw[DK hi]at e;show h.ws i g' e
def Sz.of_rm(h:Sz (rm M H) g a):Sz H g a:=h.sm<|Sm.of bZ
def ZB.of_rm(h:ZB (rm M H) f r):ZB H f r:=h.sm<|Sm.of bZ
structure io(H0:Hp)(L fl a:AH)(gs:List SG)(as:List AH)(z:AT)(c:Bool)(fs:List SF)(rs:List AH)(H:Hp):Prop where
 s:AZ H0 H
 l0:H0 L=S
 f0:H0 fl=S
 ne:L≠fl
 hL:H L=Y (.lst<|(as++[a]).map V.ref)
 hf:H fl=Y (.lst<|rs.map V.ref)
 ha:H a=Y (.dK<|ik {z,c,[],[]} fl)
 pg:Paired (Sz<|rm [L,fl] H) gs as
 pf:Paired (ZB<|rm [L,fl] H) fs rs
structure bf(H0:Hp)(L fl a r:AH)(gs:List SG)(as:List AH)(z:AT)(c:Bool)(fs:List SF)(rs qs:List AH)(f:SF)(kv dv:V)(H:Hp):Prop where
 s:AZ H0 H
 l0:H0 L=S
 f0:H0 fl=S
 r0:H0 r=S
 ne:L≠fl/\L≠r/\fl≠r
 hL:H L=Y (.lst<|(as++[a]).map V.ref)
 hf:H fl=Y (.lst<|qs.map V.ref)
 ha:H a=Y (.dK<|ik {z,c,[],[]} fl)
 hr:H r=Y (.lst [.int f.num,.str f.nam,kv,.bl f.must,dv])
 pg:Paired (Sz<|rm [L,fl,r] H) gs as
 pf:Paired (ZB<|rm [L,fl,r] H) fs rs
 tk:TL (rm [L,fl,r] H) f.kind kv
 td:Th (rm [L,fl,r] H) f.dfl dv
def io.go(h:io H0 L fl a gs as z c fs rs H)(s:AZ H H'):io H0 L fl a gs as z c fs rs H':={h.s.trans s,h.l0,h.f0,h.ne,s _ _ h.hL,s _ _ h.hf,s _ _ h.ha,Paired.mapP h.pg λ_ _ z=>z.sm<|Sm.of (Ke s),Paired.mapP h.pf λ_ _ z=>z.sm<|Sm.of (Ke s)}
def bf.go(h:bf H0 L fl a r gs as z c fs rs qs f kv dv H)(s:AZ H H'):bf H0 L fl a r gs as z c fs rs qs f kv dv H':={h.s.trans s,h.l0,h.f0,h.r0,h.ne,s _ _ h.hL,s _ _ h.hf,s _ _ h.ha,s _ _ h.hr,Paired.mapP h.pg λ_ _ z=>z.sm<|Sm.of (Ke s),Paired.mapP h.pf λ_ _ z=>z.sm<|Sm.of (Ke s),h.tk.sm<|Sm.of (Ke s),Th.sm (Sm.of<|Ke s) _ _ h.td}
def bf.set{f':SF}{dv':V}(h:bf H0 L fl a r gs as z c fs rs qs f kv dv H)(e:f'.kind=f.kind)(hd:Th (rm [L,fl,r] H) f'.dfl dv'):bf H0 L fl a r gs as z c fs rs qs f' kv dv' (upd H r<|.lst [.int f'.num,.str f'.nam,kv,.bl f'.must,dv']):=by
 let s:AZ (rm [L,fl,r] H) (rm [L,fl,r]<|upd H r (.lst [.int f'.num,.str f'.nam,kv,.bl f'.must,dv'])):=OF (by simp);let n:=h.ne;let j:a≠r:=λx=>by have:=h.ha;rw[x,h.hr]at this;cases this
 show{h.s.put h.r0,h.l0,h.f0,h.r0,n,by rw[AM n.2.1];show h.hL,by rw[AM n.2.2];show h.hf,by rw[AM j];show h.ha,Az,Paired.mapP h.pg λ_ _ z=>z.sm<|Sm.of s,Paired.mapP h.pf λ_ _ z=>z.sm<|Sm.of s,?_,Th.sm (Sm.of s) _ _ hd};rw[e];show h.tk.sm<|Sm.of s
def bf.row(h:bf H0 L fl a r gs as z c fs rs qs f kv dv H):ZB (rm [L,fl] H) f r:=let s:AZ (rm [L,fl,r] H) (rm [L,fl] H):=cb (by simp)
 {kv,dv,KC (by have:=h.ne;simp;show{CL this.2.1,CL this.2.2}) h.hr,h.tk.sm<|Sm.of s,Th.sm (Sm.of s) _ _ h.td}
def bf.fin(h:bf H0 L fl a r gs as z c fs rs (rs++[r]) f kv dv H):io H0 L fl a gs as z c (fs++[f]) (rs++[r]) H:=let s:AZ (rm [L,fl,r] H) (rm [L,fl] H):=cb (by simp)
 {h.s,h.l0,h.f0,h.ne.1,h.hL,h.hf,h.ha,Paired.mapP h.pg λ_ _ z=>z.sm<|Sm.of s,Hc (Paired.mapP h.pf λ_ _ z=>z.sm<|Sm.of s)<|.cons h.row .nil}
def io.form(h:io H0 L fl a gs as z c fs rs H):Sz H {z,c,[],fs} a:={fl,rs,h.ha,h.hf,Paired.mapP h.pf λ_ _ z=>z.of_rm}
def io.all(h:io H0 L fl a gs as z c fs rs H):Paired (Sz H) (gs++[{z,c,[],fs}]) (as++[a]):=Hc (Paired.mapP h.pg λ_ _ z=>z.of_rm)<|.cons h.form .nil
def io.done(h:io H0 L fl a gs as z c fs rs H):Paired (Sz<|rm [L] H) (gs++[{z,c,[],fs}]) (as++[a]):=by
 let s:AZ (rm [L,fl] H) (rm [L] H):=cb (by simp);let j:a∉ [L]:=by intro x;have:=h.ha;rw[Bc.mp x,h.hL]at this;cases this
 show Hc (Paired.mapP h.pg λ_ _ z=>z.sm<|Sm.of s) (.cons {fl,rs,KC j h.ha,KC (by simp;show h.ne.symm) h.hf,Paired.mapP h.pf λ_ _ z=>z.sm<|Sm.of s} .nil)
def lq(hr:H r=S)(s:AZ H H'):AZ (rm M H) (rm (M++[r]) H'):=λb u e=>by
 let(n,e):=Pz e;let nb:b≠r:=λx=>by rw[x,hr]at e;cases e
 show KC (λx=>?_)<|s _ _ e;rcases BE.mp x with x|x;·show n x
 show nb<|Bc.mp x
def io.lists(h:io H0 L fl a gs as z c fs rs H):∀x∈ [L,fl],∃xs,H x=Y (.lst xs):=λx j=>by
 rcases Bf.mp j with rfl|j;·show{(_),h.hL}
 rw[Bc.mp j];show{(_),h.hf}
def io.lay(h:io H0 L fl a gs as z c fs rs H){f:SF}{kv dv:V}(s:AZ H D)(tk:TL H f.kind kv)(td:Th D f.dfl dv)(hd:f.dfl=CZ f.kind)(hz:Fz H dv)(hr:D r=S):
  bf H0 L fl a r gs as z c fs rs rs f kv dv (upd D r<|.lst [.int f.num,.str f.nam,kv,.bl f.must,dv]):=by
 let j:=h.go s;let U:=Bd (u:=.lst [.int f.num,.str f.nam,kv,.bl f.must,dv]) hr;let g:AZ (rm [L,fl] D) (rm [L,fl,r]<|upd D r (.lst [.int f.num,.str f.nam,kv,.bl f.must,dv])):=lq hr U;let F:=j.go U;let n1:L≠r:=λx=>by have:=j.hL;rw[x,hr]at this;cases this
 let n2:fl≠r:=λx=>by have:=j.hf;rw[x,hr]at this;cases this
 show{F.s,h.l0,h.f0,j.s.free hr,{(h.ne),n1,n2},F.hL,F.hf,F.ha,Az,Paired.mapP j.pg λ_ _ z=>z.sm<|Sm.of g,Paired.mapP j.pf λ_ _ z=>z.sm<|Sm.of g,(X9 j.lists<|tk.sm (Sm.of s)).sm<|Sm.of g,Th.sm (Sm.of g) _ _<|zU (k:=f.kind) h.lists (.inl hd) td hz}
def bf.hang(h:bf H0 L fl a r gs as z c fs rs qs f kv dv H):bf H0 L fl a r gs as z c fs rs ps f kv dv (upd H fl<|.lst (ps.map V.ref)):=by
 let s:AZ (rm [L,fl,r] H) (rm [L,fl,r]<|upd H fl (.lst<|ps.map V.ref)):=OF (by simp);let n:=h.ne;let j:a≠fl:=λx=>by have:=h.ha;rw[x,h.hf]at this;cases this
 show{h.s.put h.f0,h.l0,h.f0,h.r0,n,by rw[AM n.1];show h.hL,Az,by rw[AM j];show h.ha,by rw[AM n.2.2.symm];show h.hr,Paired.mapP h.pg λ_ _ z=>z.sm<|Sm.of s,Paired.mapP h.pf λ_ _ z=>z.sm<|Sm.of s,h.tk.sm<|Sm.of s,Th.sm (Sm.of s) _ _ h.td}
def bf.lists(h:bf H0 L fl a r gs as z c fs rs qs f kv dv H):∀x∈ [L,fl,r],∃xs,H x=Y (.lst xs):=λx j=>by
 rcases Bf.mp j with rfl|j;·show{(_),h.hL}
 rcases Bf.mp j with rfl|j;·show{(_),h.hf}
 rw[Bc.mp j];show{(_),h.hr}
structure yW(b:Int)(gs:List SG)(Ws:List Int):Prop where
 sp:IH b gs Ws
 l1:1<=gs.length
 l4:gs.length<=4
 last:∀(i:Nat) g,gs[i]?=Y g->g.choice=Z->i+1<gs.length
def di(H:Hp)(gs:List SG)(v:V):Prop:=∃l as,v= .ref l/\H l=Y (.lst<|IK V.ref as)/\Paired (Sz H) gs as
def di.sm(s:Sm H H')(h:di H gs v):di H' gs v:=by let(l,as,e,h1,h2):=h;show{l,as,e,s _ _ h1 O,Paired.mapP h2 λ_ _ z=>z.sm s}
inductive qq(K:AB)(vs:List V)(H:Hp)(Q:VK):Prop|mk (sc:AH) (ns:List Int) (_:vs=[.ref sc]) (_:Cg K H sc (ns.map V.int)) (_:∀gs Ws u H',yW (EU ns 0) gs Ws->AZ H H'->di H' gs u->Q u H')
def sd(K:AB):Sp:=λvs H Q _=>qq K vs H Q
def VX(s:AZ H H')(h:Cg K H a xs):Cg K H' a xs:=h.imp (λz=>z.imp (λe=>s _ _ e) λj=>(by let(o,e):=j;show{o,s _ _ e})) id
abbrev fS(sc:AH)(b:Int)(la:Nat)(L:AH)(v4 v5 v6 v7 v8 v9 v10:Option V):L2.St:=[Y (.ref sc),Y<|.int b,Y<|.int (la:Int),Y<|.ref L,v4,v5,v6,v7,v8,v9,v10]
inductive FmI(H0:Hp)(sc:AH)(b:Int)(la:Nat)(L:AH)(k:Nat):L2.St->Hp->Prop|mk (gs Ws as v4 v5 v6 v7 v8 v9 v10 H) (_:IH b gs Ws) (_:gs.length=k) (_:∀(i:Nat) g,gs[i]?=some g->g.choice=true->i<la) (_:AZ H0 H) (_:H0 L=none) (_:H L=some (.lst<|as.map V.ref)) (_:Paired (Sz<|rm [L] H) gs as):FmI H0 sc b la L k (fS sc b la L v4 v5 v6 v7 v8 v9 v10) H
inductive RoI(H0:Hp)(sc:AH)(b:Int)(la:Nat)(L fl a:AH)(gs:List SG)(as:List AH)(Ws:List Int)(z:AT)(c:Bool)(k:Nat)(v5:Option V)(j:Nat):L2.St->Hp->Prop|mk (fs rs p v7 v8 v9 v10 H) (_:io H0 L fl a gs as z c fs rs H) (_:dD k Ws c (b/3) fs p) (_:fs.length=j):RoI H0 sc b la L fl a gs as Ws z c k v5 j (fS sc b la L (some<|.int k) v5 (some<|.int p) v7 v8 v9 v10) H
def tY(T:Tx K mg):∅ 7 1158 An (sd K):=by
 let Gc:=@Vq P w K mg base T;let Gm:=@WO P w K mg base T;show(T.df 48 O).okA Gs ?_;intro 1 hr h;let(sc,ns,O,hS,q):=h;let b6:=MD hr;show⟨_,AJ (qS 1 Gs.nd<|qD Gc hr T.FK (Cy (pv 0) AD))<|Bk (qS 2 Gs.nd<|Bt Di (qD Gm hr T.Op<|Cy (pv 1) AD) AD) (AJ (qS 3 Gs.nd<|Cq Ed)<|Bk (HM Dn O (HY O T.Li<|Cp (Bt DV (pv 2) AD)) (BQ (i:=4) Gs.nd O<|Ci O)<|Bk (Ds<|Ej Bg BG BF Du (pv 3) (Cp<|qD (@xN P w K mg base T) hr (T.d3 47 O λ_ _ _ _ _ _ _ _ _=>rfl) (AY (pv 0)<|Cy (pv 4) (pv 2)))) (AJ (qS 5 Gs.nd<|qD Gm hr T.Op (Cy (qD Gc hr T.FK<|Cy (pv 0) (Bt DV AD<|pv 4))<|Bt DV AD (pv 4)))<|AJ (qS 6 Gs.nd AD) (BO<|HM Dn O (HY O T.Li<|Cp (qB (pN O) (T.y 3 O) K8<|Cy (qT Ib T.Kr HQ<|Cp (Fy b6 (KE (pv 3)<|pv 4) AR λ_ _=>rfl)) (Bt Di (Bt Ey (pv 5) AD) AD))) (BQ (i:=7) Gs.nd O<|Ci O) (AJ (qS 8 Gs.nd<|qD Gm hr T.Op (Cy (qD Gc hr T.FK<|Cy (pv 0) (Bt DV AD<|pv 7))<|Bt DV (Bt DV AD<|Bt OJ AD (pv 4)) (pv 7)))<|Bk (qS 6 Gs.nd<|Bt DV (pv 6) (KE (Cq<|AY AD (AY AD<|Cy AD AD))<|Bt Di (pv 8) AD)) (Bk (qS 9 Gs.nd<|qD (@tW P w K mg base T) hr (T.d2 43 O λ_ _ _ _ _ _ _ _=>rfl) (Cy (Bt Ey (pv 8) AD)<|pv 4))<|Bk (qS 10 Gs.nd<|Cq (AY (pv 6)<|AY (qD (@aw P w K mg base T) hr T.ZR<|Cy (Bt Ey (pv 1) AD) (pv 7)) (AY (pv 9)<|Cy Dk (qD (@To P w K mg base T) hr T.VJ<|Cp (pv 9))))) (Bk (Ds<|Ej Bg BG BF Du (Fy b6 (KE (pv 3)<|pv 4) AR λ_ _=>rfl) (Cp<|pv 10))<|BO (qi (Cn<|BA (Fy b6 (KE (pv 3)<|pv 4) AR λ_ _=>rfl))<|Bk (Nn (Da CU (Bt Di (Bt Ey (pv 8) AD) AD) AD<|DW _)<|No (pv 10) AD Iu) (Bk (qi (qc Mz (qD (ON (P:=P) (w:=w) (base:=base) T 4) hr T.ZQ<|Cy (pv 3) (pv 4)) AD)<|BO (Nn Dk<|No (pv 10) AD Iu))<|BO (qi (Cn<|BA (KE (pv 10) AD))<|BO (Nn (qD (@fU P w K mg base T) hr (T.d2 45 O λ_ _ _ _ _ _ _ _=>rfl)<|Cy (pv 9) (Bt Ey (pv 8) AD))<|No (pv 10) AD Iu)))))))))) (qr<|pv 3)),?_⟩;let c6:=Kh (Xg (EU ns 0) 1) (b:=4) Aa;obtain⟨la,c3⟩:∃la:Nat,(la:Int)=Xg (EU ns 0) 1%4:=⟨_,LM c6.1⟩;rw[<-c3]at c6;generalize hb:EU ns 0=b at *;show⟨sc,ns,0,O,hS,Aa,CD (λσ' H'=>σ'=[Y (.ref sc),Y<|.int b,Y<|.int (la:Int),S,S,S,S,S,S,S,S]/\H=H') ⟨_,1,O,Aa,Aa,(by change(0:Int) <4;decide),by rw[c3,hb];rfl,O⟩ ?_⟩;rintro σ' H' ⟨rfl,rfl⟩;show⟨zl 0,λL hL=>?_⟩;show CD (FmI H sc b la L<|la+1) ?_ ?_
 ·show⟨_,O,(),(),?_⟩;rw[show((la:Int) +1).toNat=la+1 by lia];show PM (FmI H sc b la L) ⟨[],[],[],_,_,_,_,_,_,_,_,⟨O,(λi g e=>by simp at e),(λi g e=>by simp at e),(λi g e=>by simp at e),(λi g e=>by simp at e)⟩,O,(λi g e=>by simp at e),Bd hL,hL,Az,.nil⟩ (λk σ' H1 hk h=>?_) λσ' H' h=>h;let(gs,Ws,as,v4,v5,v6,v7,v8,v9,v10,_,a4,D,b7,s1,_,a2,b0):=h;rw[Qe];let e7:as.length=gs.length:=b0.length.symm;show CD (λσ' H'=>∃z c fl a,σ'=fS sc b la L (Y<|.int (k:Int)) v5 v6 v7 v8 v9 v10/\sg z=LF b (20+ (k:Int))/\(c=Z->k<la)/\io H L fl a gs as z c [] [] H') ?_ ?_
  ·show{.inl {O,_,Cg.of a2},sc,ns,(k:Int),(la:Int),O,VX s1 hS,(),(),λg fl a H2 hz hc s2 c7 b3 ha hf=>{L,_,_,O,O,s2 _ _ a2,?_,g.nam,g.choice,fl,a,O,hb ▸ hz,λe=>by have:=hc e;lia,?_}}
   ·rw[Ay];show CW ()
   let n1:L≠fl:=λx=>by rw[<-x,a2]at b3;cases b3
   let n2:L≠a:=λx=>by rw[<-x,a2]at c7;cases c7
   let gr:AZ (rm [L] H1) (rm [L,fl]<|upd H2 L (.lst<|as.map V.ref++[.ref a])):=(lq (M:=[L]) b3 s2).trans (OF<|by simp);show{(s1.trans s2).put hL,hL,s1.free b3,n1,by rw[Az,Bl];rfl,by rw[AM n1.symm];show hf,by rw[AM n2.symm];show ha,Paired.mapP b0 λ_ _ z=>z.sm<|Sm.of gr,.nil}
  rintro σ' H2 ⟨z,c,fl,a,rfl,hz,hc,hI⟩;let b8:TN ((as++[a]).map V.ref) (k:Int)=Y (.ref a):=CN (by rw[AQ,Cv (),e7,D,JG];rfl);show{sc,ns,_,O,VX hI.s hS,(),_,_,O,(),(),L,_,_,_,O,O,Cg.of hI.hL,b8,a,_,O,Pa hI.ha,.inr {_,O,{(Aa),Aa},(by change(0:Int) <6;decide),_,_,O,?_}};let h6:=Kh (Xg (EU ns<|1+ (k:Int)) (11+ (k:Int)) /4) (b:=6) Aa;generalize Xg (EU ns<|1+ (k:Int)) (11+ (k:Int)) /4%6=j6 at *;obtain⟨m,hm,g3,c2⟩:∃m:Nat,(m:Int)=(if j6> (if c=Z then (1:Int)else 0)then j6 else (if c=Z then (1:Int)else 0))/\m<=5/\(c=Z->1<=m):={(if j6> (if c=Z then (1:Int)else 0)then j6 else (if c=Z then (1:Int)else 0)).toNat,by cases c <;> simp <;> split <;> lia}
  show{_,O,by rw[<-hm];lia,by rw[<-hm];lia,?_};rw[<-hm,show((m:Int)).toNat=m by lia];show PM (RoI H sc b la L fl a gs as Ws z c k<|Y (.int<|Xg (EU ns<|1+ (k:Int)) (11+ (k:Int)))) {[],[],0,_,_,_,_,_,hI,dD.nil,O} (λj σ' H3 hj h=>?_) λσ' H3 h=>?_
  ·let(fs,rs,p,v7,v8,v9,v10,_,a3,hF,U):=h;rw[Qe];show{sc,ns,_,O,VX a3.s hS,(),.inl {(Aa),Aa},_,_,O,(),(),?_};let g2:=um (EU ns<|5+ (j:Int))<|31+7* (k:Int) + (j:Int);generalize Xg (EU ns<|5+ (j:Int)) (31+7* (k:Int) + (j:Int))=mo at *;generalize Xg (EU ns<|1+ (k:Int)) (11+ (k:Int))=nu at *;show CD (λσ' H'=>∃d,1<=d/\d<=30/\σ'=fS sc b la L (Y<|.int (k:Int)) (Y<|.int nu) (Y<|.int (p+d)) (Y<|.int (j:Int)) (Y<|.int mo) v9 v10/\AZ H3 H') ?_ ?_
   ·show{zl 4,λq hq=>?_};have(x,hx,e2):=XT (xs:=([1,1,2,30]:List Int).map V.int) (i:=mo%4) () (by rw[Ay];change mo%4<4;lia);have(d,O,a7,a6):=RZ (P:=λi=>1<=i/\i<=30) Ab e2;show{(by change(0:Int) <4;decide),q,_,_,_,O,O,Cg.of Az,hx,d,a7,a6,O,Bd hq}
   rintro σ' H4 ⟨d,a7,a6,rfl,s4⟩;let e9:=a3.go s4;show CD (λσ' H'=>∃kd kv,Lk.ok k kd/\TL H' kd kv/\σ'=fS sc b la L (Y<|.int (k:Int)) (Y<|.int nu) (Y<|.int (p+d)) (Y<|.int (j:Int)) (Y<|.int mo) (Y kv) v10/\AZ H4 H') {{(Aa),Aa},_,k,O,(),(),λkd hk u H' s' hT=>{(kd),u,hk,hT,O,s'}} ?_;rintro σ' H5 ⟨kd,kv,a5,c8,rfl,s5⟩;let e8:=e9.go s5;show CD (λσ' H'=>∃y r dv,sg y=LF (b/3) j/\σ'=fS sc b la L (Y<|.int (k:Int)) (Y<|.int nu) (Y<|.int (p+d)) (Y<|.int (j:Int)) (Y<|.int mo) (Y kv) (Y<|.ref r)/\bf H L fl a r gs as z c fs rs rs {p+d,y,kd,ge,CZ kd} kv dv H') ?_ ?_;·show{{(Aa),Aa},_,_,O,λy hy H6 s6=>{kv,kd,O,c8.sm<|Sm.of s6,λdv H7 s7 e5 d9=>{zl 5,λr e4=>{y,r,dv,hy,O,?_}}}};show(e8.go s6).lay (f:={p+d,y,kd,ge,CZ kd}) s7 (c8.sm<|Sm.of s6) e5 O d9 e4
   rintro σ' H6 ⟨y,r,dv,hy,rfl,hR⟩;let g0:rs.length=j:=by rw[<-U];show hR.pf.length.symm
   show CD (λσ' H'=>σ'=fS sc b la L (Y<|.int (k:Int)) (Y<|.int nu) (Y<|.int (p+d)) (Y<|.int (j:Int)) (Y<|.int mo) (Y kv) (Y<|.ref r)/\bf H L fl a r gs as z c fs rs (rs++[r]) {p+d,y,kd,ge,CZ kd} kv dv H') ?_ ?_
   ·show{L,_,_,_,O,O,Cg.of hR.hL,b8,a,_,O,Ji hR.ha,.inl {O,_,Cg.of hR.hf},fl,_,_,O,O,hR.hf,?_,O,?_}
    ·rw[Ay];show CW ()
    have:=hR.hang (ps:=rs++[r]);rw[Bl]at this;show this
   rintro σ' H7 ⟨rfl,hR⟩;let b5:sg y=LF (b/3) fs.length:=by rw[U];show hy
   show{L,_,_,_,O,O,Cg.of hR.hL,b8,a,_,O,Pa hR.ha,_,O,?_};cases c with
   |true=>show BM {_,_,_,_,_,_,_,_,hR.fin,hF.snoc (f:={p+d,y,kd,ge,CZ kd}) {a5,λ_=>rfl,.inl O} b5 O {(a7),a6} (by intro e;cases e),by rw[AS,U];rfl}
   |false=>
    show BX ?_;show CD (λσ' H'=>∃b1,σ'=fS sc b la L (Y<|.int (k:Int)) (Y<|.int nu) (Y<|.int (p+d)) (Y<|.int (j:Int)) (Y<|.int mo) (Y kv) (Y<|.ref r)/\bf H L fl a r gs as z ge fs rs (rs++[r]) {p+d,y,kd,b1,CZ kd} kv dv H') ?_ ?_;·show{{(Aa),Aa},(by change(0:Int) <4;decide),O,r,_,_,_,O,O,hR.hr,O,decide (V.int (mo/13%4)=V.int 1),O,hR.set (f':={p+d,y,kd,decide (V.int (mo/13%4)=V.int 1),CZ kd}) O hR.td}
    rintro σ' H8 ⟨b1,rfl,a1⟩;show CD (λσ' H'=>∃b2,EI Ws ge (fs++[{p+d,y,kd,b2,CZ kd}])<=90/\σ'=fS sc b la L (Y<|.int (k:Int)) (Y<|.int nu) (Y<|.int (p+d)) (Y<|.int (j:Int)) (Y<|.int mo) (Y kv) (Y<|.ref r)/\bf H L fl a r gs as z ge fs rs (rs++[r]) {p+d,y,kd,b2,CZ kd} kv dv H') ?_ ?_
    ·let c1:=a4.wt () (g:={z,ge,[],fs++[{p+d,y,kd,b1,CZ kd}]}) (λf hf=>by
      rw[D];rcases BE.mp hf with hf|hf;·show(hF.sf f hf).kind
      rw[Bc.mp hf];show a5) (by change(fs++_).length<40;rw[AS];change fs.length+1<40;lia) λe=>nomatch e
     rw[D]at c1;show{k,(),L,as++[a],gs++[{z,ge,[],fs++[{p+d,y,kd,b1,CZ kd}]}],Ws,{z,ge,[],fs++[{p+d,y,kd,b1,CZ kd}]},O,a1.hL,a1.fin.all,c1,by rw[Cv (),D,JG];rfl,λH9 s9=>{_,O,DL (λhw=>?_) λhw=>?_}};·show{r,_,_,_,O,O,(a1.go s9).hr,O,ge,by rw[ZU O];show hF.wt O,O,(a1.go s9).set (f':={p+d,y,kd,ge,CZ kd}) O (a1.go s9).td}
     let f8:¬EI Ws ge (fs++[⟨p+d,y,kd,b1,CZ kd⟩]) >90:=by simpa using hw
     show{b1,(),O,a1.go s9}
    rintro σ' H9 ⟨b2,e3,rfl,a8⟩;show{r,_,_,_,O,O,Cg.of a8.hr,O7,_,O,?_};cases b2 with
    |true=>show BM {_,_,_,_,_,_,_,_,a8.fin,hF.snoc (f:={p+d,y,kd,Z,CZ kd}) {a5,(λe=>nomatch e),.inl O} b5 O {(a7),a6} λ_=>e3,by rw[AS,U];rfl}
    |false=>
     show BX {{(Aa),Aa},kv,kd,_,k,O,a8.tk.sm<|Sm.of bZ,a5,(),(),λdf c5 u h0 d8 hu b9=>?_};let b4:=a8.go d8;show{r,_,_,_,O,O,b4.hr,O,?_};let c9:=b4.set (f':={p+d,y,kd,ge,df}) (dv':=u) O<|zU (k:=kd) a8.lists c5 hu b9;show{_,_,_,_,_,_,_,_,c9.fin,hF.snoc (f:={p+d,y,kd,ge,df}) {a5,λ_=>rfl,?_} b5 O {(a7),a6} (λ_=>by rw[ZU O];show hF.wt O),by rw[AS,U];rfl};rcases c5 with e|e;·show .inl e
     show .inr {(O),O,e}
  let(fs,rs,p,v7,v8,v9,v10,_,a3,hF,U):=h;let hw:=mV a4 () (fs:=fs) (c:=c) (λf hf=>by rw[D];show(hF.sf f hf).kind) (λe=>by have:=c2 e;intro x;rw[x]at U;simp at U;lia) hF.wt;show{gs++[{z,c,[],fs}],_,as++[a],_,_,_,_,_,_,_,_,a4.snoc (g:={z,c,[],fs}) ?_ (by rw[D];show hz) hw,by rw[AS,D];rfl,λi g e c4=>?_,a3.s,hL,a3.hL,a3.done};·rw[D];show hF.gok () (λe=>by have:=c2 e;intro x;rw[x]at U;simp at U;lia)
  rcases RB e with e|⟨rfl,rfl⟩;·show b7 i g e c4
  rw[D];show hc c4
 rintro σ' H1 ⟨gs,Ws,as,v4,v5,v6,v7,v8,v9,v10,_,a4,D,b7,s1,_,a2,b0⟩;show q gs Ws _ _ {hb ▸ a4,(),(),λi g e hc=>by have:=b7 i g e hc;lia} s1 {L,as,O,a2,Paired.mapP b0 λ_ _ z=>z.of_rm}
def MB(gs:List SG)(i:Nat):AT:=((gs[i]?).map (·.nam)).getD ""
def IR(gs:List SG):Lk->Kx|.truth=>.truth|.count=>.count|.whole=>.whole|.upto n=>.upto<|.int n|.text n=>.text<|.int n|.form i=>.form<|.str (MB gs i)|.list k=>.list<|IR gs k
def lC(h: (Lk.list k).ok n):k.ok n:=by
 rcases h with h|⟨i,rfl,h⟩
 ·cases k with|form i=>show h.elim|list j=>show h.elim|_=>show h
 show h
def Ta(h:decide (a=b)=false:=by kernel_rfl):¬V.str a=V.str b:=λe=>of_decide_eq_false h<|V.str.inj e
def Zv(gs:List SG)(f:SF):Fx:={.int f.num,.str f.nam,IR gs f.kind,.bl f.must,f.dfl}
def vC(gs:List SG)(k:Lk):Pf (IR gs k)=CZ k:=by cases k <;> rfl
def cI(gs:List SG):∀k:Lk,(IR gs k).may|.truth=>trivial|.count=>trivial|.whole=>trivial|.upto _=>trivial|.text _=>trivial|.form _=>trivial|.list k=>cI gs k
def NM(D:H x=S)(z:H dx=S)(j:dx≠x):AZ H (upd (upd H dx<|.own x) x<|.ins C dx []):=by show(Bd z).trans (Bd ?_);rw[AM (CL j)];show D
def Ux(D:H x=S)(z:H dx=S)(j:dx≠x):AZ H (upd (upd (upd H dx<|.own x) x<|.ins C dx []) x<|.ins C dx fs):=by rw[Pu];show(Bd z).trans (Bd ?_);rw[AM (CL j)];show D
inductive qo(gs:List SG)(k:Lk)(vs:List V)(H:Hp)(Q:VK):Prop|mk (v sv:_) (_:vs=[sv,v]) (_:TL H k v) (_:di H gs sv) (_:Ju (gs.map (·.nam))) (_:k.ok gs.length) (_:∀u H',AZ H H'->Qa H' (IR gs k) u->Q u H')
def Ry(gs:List SG)(k:Lk):Sp:=λvs H Q _=>qo gs k vs H Q
def Zf(T:Tx K mg)(G:∅ (r+1) 1165 Ao a4)(hk:∀k',k= .list k'->∀vs H Q E,Ry gs k' vs H Q E->a4 vs H Q E):
  ∅ (r+3) 1165 Ao (Ry gs k):=by
 show(T.df 49 O).okA bL ?_;intro 1 hr h;let(v,sv,O,hv,hs,hn,hok,q):=h;let a2:EO (1+1) _:=hr.mono ();let a6:=MD hr;show{_,AJ (qi (qc CU (LU (pv 1) AD) AR)<|qr (Fh {(T.kG),T.Um,T.Ui,T.kD} (RS T) a2 O T.Rn T.Ur .nil DU<|Cp (KF G (hr.mono<|()) T.Nb<|Cy (pv 0) (LU (pv 1) AD))))<|AJ (qi (qc CU (LU (pv 1) AD) AR)<|qr (Fh {(T.ZN),T.Qi,T.Qh,T.ZM} (OP T) a2 O T.Kk T.Qn .nil DU<|Cp (Fy a6 (KE (pv 0)<|LU (pv 1) AD) AR λ_ _=>rfl))) (AJ (qi (qc CU (LU (pv 1) AD) AR)<|qr (Fh {(T.kE),T.Uk,T.Ug,T.kB} (RP T) a2 O T.Vh T.Uq .nil DU<|Cp (LU (pv 1) AD)))<|AJ (qi (qc CU (LU (pv 1) AD) AR)<|qr (Fh {(T.kF),T.Ul,T.Uh,T.kC} (RQ T) a2 O T.Rm (Sx T) .nil DU<|Cp (LU (pv 1) AD))) (AJ (qi (qc CU (LU (pv 1) AD) AR)<|qr (Mw T.dR T.Rp T.dO O T.Om))<|qr (DH (qc CU (LU (pv 1) AD) AR) (Mw T.dS T.Rq T.dP O T.VG)<|Mw T.dQ T.Ro T.dN O T.VF))),?_};let(t,ys,O,F):=hv.word;show{t,_,_,_,O,O,Ec.of F,Kn,O,_,O,?_};cases k with
 |list k=>
  let(t',u,e,U,a7):=hv;obtain rfl:t=t':=V.ref.inj e;show Nt O {t,_,_,_,O,O,Ec.of U,dh,hk _ O _ _ _ _ {u,sv,O,a7,hs,hn,lC hok,λu' H' s' a5 x dx hx D z=>{x,dx,_,O,Az,O,?_}}};let s2:=Ux (C:=576) (fs:=[("item",u')]) hx D z;show q _ _ (s'.trans s2) {x,dx,u',O,Az,a5.sm<|Sm.of s2}
 |form i=>
  let(t',e,U):=hv;obtain rfl:t=t':=V.ref.inj e;let hi:i<gs.length:=hok;let hg:gs[i]?=Y (gs[i]'hi):=AI hi;let a8:MB gs i=(gs[i]'hi).nam:=by unfold MB;rw[hg];rfl
  let(l,as,O,hl,hp):=hs;let(a,ha,fl,rs,hA,_):=Tj hp i _ hg;let a9:=(Er (hn.ok _<|Bb.mpr {_,AN hg,O}).1).2.1;show FM Ta {t,_,_,_,O,O,Ec.of F,Kn,O,_,O,Nt O {t,_,_,_,O,O,Ec.of U,dh,l,_,_,_,O,O,Cg.of hl,CN (j:=i) (v:=.ref a) (by rw[AQ,ha];rfl),a,_,O,Sh hA,λx dx hx D z=>{x,dx,_,O,Az,O,?_}}};show q _ _ (Ux hx D z) {x,dx,_,O,Az,?_};rw[a8];show{O,AU a9 Aa}
 |upto n=>
  let(t',e,U):=hv;obtain rfl:t=t':=V.ref.inj e;show FM Ta {t,_,_,_,O,O,Ec.of F,Kn,O,_,O,FM Ta {t,_,_,_,O,O,Ec.of F,Kn,O,_,O,Nt O {t,_,_,_,O,O,Ec.of U,dh,λx dx hx D z=>{x,dx,_,O,Az,O,q _ _ (Ux hx D z) {(x),dx,_,O,Az,O}}}}}
 |text n=>
  let(t',e,U):=hv;obtain rfl:t=t':=V.ref.inj e;show FM Ta {t,_,_,_,O,O,Ec.of F,Kn,O,_,O,FM Ta {t,_,_,_,O,O,Ec.of F,Kn,O,_,O,FM Ta {t,_,_,_,O,O,Ec.of F,Kn,O,_,O,Nt O {t,_,_,_,O,O,Ec.of U,dh,λx dx hx D z=>{x,dx,_,O,Az,O,q _ _ (Ux hx D z) {(x),dx,_,O,Az,O}}}}}}
 |truth=>show FM Ta {t,_,_,_,O,O,Ec.of F,Kn,O,_,O,FM Ta {t,_,_,_,O,O,Ec.of F,Kn,O,_,O,FM Ta {t,_,_,_,O,O,Ec.of F,Kn,O,_,O,FM Ta {t,_,_,_,O,O,Ec.of F,Kn,O,_,O,Nt O λx dx hx D z=>q _ _ (NM hx D z) {(x),dx,O,Az}}}}}|count=>show FM Ta {t,_,_,_,O,O,Ec.of F,Kn,O,_,O,FM Ta {t,_,_,_,O,O,Ec.of F,Kn,O,_,O,FM Ta {t,_,_,_,O,O,Ec.of F,Kn,O,_,O,FM Ta {t,_,_,_,O,O,Ec.of F,Kn,O,_,O,FM Ta {t,_,_,_,O,O,Ec.of F,Kn,O,_,O,Nt O λx dx hx D z=>q _ _ (NM hx D z) {(x),dx,O,Az}}}}}}|whole=>show FM Ta {t,_,_,_,O,O,Ec.of F,Kn,O,_,O,FM Ta {t,_,_,_,O,O,Ec.of F,Kn,O,_,O,FM Ta {t,_,_,_,O,O,Ec.of F,Kn,O,_,O,FM Ta {t,_,_,_,O,O,Ec.of F,Kn,O,_,O,FM Ta {t,_,_,_,O,O,Ec.of F,Kn,O,_,O,FM Ta λx dx hx D z=>q _ _ (NM hx D z) {(x),dx,O,Az}}}}}}
def Tb{F:Type}{f:AH}{fd:Ea}{ps:List AT}(sp:F->Lk->Sp)(hd:∀a k vs H Q E,sp a k vs H Q E->∃n,k.ok n)(step:∀(r:Nat) (z:Sp) a k,EE P w K mg base SU (r+1) f fd ps z->(∀D,k= .list D->∀vs H Q E,sp a D vs H Q E->z vs H Q E)->EE P w K mg base SU (r+3) f fd ps (sp a k)):
  EE P w K mg base SU 6 f fd ps (λvs H Q E=>∃i:F×Lk,sp i.1 i.2 vs H Q E):=by
 show uS λi=>?_;let(a,k):=i;let b:∀k:Lk,(∀j,k≠ .list j)->EE P w K mg base SU 3 f fd ps (sp a k):=λk hk=>step 0 _ a k (PN (k:=0+1)) λD e=>A1Q e<|hk D;cases k with
 |list k=>
  by_cases U:∃j,k= .list j
  ·let(j,O):=U;show TF (sp:=λ_ _ _ _=>False) (λvs H Q E h=>?_) PN;let(n,hok):=hd _ _ _ _ _ _ h;rcases hok with h|⟨i,h,_⟩
   ·show h
   cases h
  show(step 2 _ a _ (b k λj e=>U {(j),e}) λD e vs H Q E h=>by cases e;show h).mono Aa
 |_=>show(b _ λj e=>by cases e).mono Aa
def nJ:Sp:=λvs H Q E=>∃i:List SG×Lk,Ry i.1 i.2 vs H Q E
def fV(T:Tx K mg):∅ 6 1165 Ao nJ:=Tb Ry (λa k vs H Q E h=>by let(_,_,_,_,_,_,h,_):=h;show{(_),h}) λr j a k G z=>Zf T G z
def vK(h:dG Yb c=Z):97<=c/\c<=122:=by unfold dG at h;rw[StrLaws.found_one,vJ]at h;show(by decide:∀d∈ [97,98,99,100,101,102,103,104,105,106,107,108,109,110,111,112,113,114,115,116,117,118,119,120,121,122],97<=d/\d<=122) c (A1M h)
def Vs(h:Ct z=Z):∀c∈sg z,97<=c/\c<=122:=λc hc=>vK<|Bz.mp (Er h).2.2 c hc
def IE(gs:List SG)(f:SF):Ex:=.fld<|Zv gs f
def Xb{z:Type}{l:List z}(h:l.Nodup){i j:Nat}{x:z}(hi:l[i]?=Y x)(D:l[j]?=Y x):i=j:=by let(h1,U):=AO.mp hi;let(h2,F):=AO.mp D;show(List.getElem_inj h).mp (U.trans F.symm)
structure LH(gs:List SG)(Ws:List Int)(k:Nat)(ws:List (AT×Int)):Prop where
 len:ws.length=k
 at_:∀i,i<k->∃g,gs[i]?=Y g/\ws[i]?=Y (g.nam,Ws.getD i 0)
def br{gs:List SG}{Ws:List Int}{k:Nat}{ws:List (AT×Int)}(h:LH gs Ws k ws)(hn: (gs.map (·.nam)).Nodup){i:Nat}(hi:i<k){g:SG}(hg:gs[i]?=Y g):JU ws g.nam=Y (Ws.getD i 0):=by
 let(g',a2,F):=h.at_ i hi;obtain rfl:g=g':=AE<|hg.symm.trans a2;generalize Ws.getD i 0=x at F ⊢;unfold JU;let hf:ws.find? (λp=>decide (p.1=g.nam))=Y (g.nam,x):=by
  show List.find?_eq_some_iff_append.mpr {A1K O,ws.take i,ws.drop<|i+1,?_,λp hp=>?_}
  ·let z:i<ws.length:=by rw[h.len];show hi
   let e:ws[i]'z=(g.nam,x):=by rw[AI z]at F;show AE F
   rw[<-e,<-EA z,List.take_append_drop]
  let(j,hj):=CP.mp hp;let U:j<i:=by grind
  rw[Of U]at hj;let(g2,a1,D):=h.at_ j ();obtain rfl:p=(g2.nam,Ws.getD j 0):=AE<|hj.symm.trans D;rw[Do,decide_eq_false_iff_not];intro e;have:j=i:=Xb hn (by rw[AQ,a1];rfl) (by rw[AQ,hg];change Y g.nam=Y g2.nam;rw[show g2.nam=g.nam from e])
  lia
 rw[hf];rfl
def lF{gs:List SG}{Ws:List Int}{k:Nat}{ws:List (AT×Int)}(h:LH gs Ws k ws){z:AT}(hz:∀i g,i<k->gs[i]?=Y g->g.nam≠z):pi ws (.str z)=false:=by
 change(JU ws z).isSome=ge;unfold JU;rw[Ve.mpr λp U=>?_];·rfl
 let(j,hj):=CP.mp U;let D:j<k:=by rw[<-h.len];show(AO.mp hj).1
 let(g2,a2,F):=h.at_ j D
 grind
def Nf{gs:List SG}{Ws:List Int}{k:Nat}{ws:List (AT×Int)}(h:LH gs Ws k ws)(hn:Ju (gs.map (·.nam)))(U:k<=gs.length){kd:Lk}(z:kd.plain\/∃i,kd= .form i/\i<k):Fj ws (IR gs kd)=true:=by
 rcases z with z|⟨i,rfl,hi⟩
 ·cases kd with
  |form i=>show z.elim|list j=>show z.elim
  |upto n=>
   change(decide (1<=n) &&decide (n<=MN))=Z;let h1:=z.1;let h2:=z.2
   grind
  |text n=>
   change(decide (1<=n) &&decide (n<=100))=Z;rw[A1K z.1,A1K z.2];rfl
  |_=>rfl
 let D:gs[i]?=Y (gs[i]' ()):=AI _;let F:=br h hn.nd hi D;let e:MB gs i=(gs[i]' ()).nam:=by unfold MB;rw[D];rfl
 change(Ct (MB gs i) && (JU ws<|MB gs i).isSome)=Z;rw[e,F,(hn.ok _<|Bb.mpr {_,AN D,O}).1];rfl
def aF{gs:List SG}{Ws:List Int}{k:Nat}{ws:List (AT×Int)}(h:LH gs Ws k ws)(hn:Ju (gs.map (·.nam)))(D:k<=gs.length){kd:Lk}(z:kd.ok k):Ek ws (IR gs kd)=true:=by cases kd with|list j=>show Nf h hn D (kd:=j) z|form i=>show Nf h hn D (kd:=.form i)<|.inr {(i),O,z}|truth=>rfl|count=>rfl|whole=>rfl|upto n=>show Nf h hn D (kd:=.upto n)<|.inl z|text n=>show Nf h hn D (kd:=.text n)<|.inl z
def jU(gs:List SG)(z:k.ok n):Hh (IR gs k) (CZ k)=true:=by
 cases k with
 |upto n=>
  change((decide (0<= (0:Int)) &&decide ((0:Int)<=n)) &&decide ((0:Int)=0))=Z;let h1:=z.1
  grind
 |text n=>
  change((!decide ((("" :AT).length:Int) >n) && ("" :AT).cps.toList.all HK) &&decide (""=""))=Z;let h1:=z.1;rw[A1L (show ¬ (("" :AT).length:Int) >n by change ¬ (0:Int) >n;lia)];rfl
 |list j=>rfl|form i=>rfl|truth=>rfl|count=>show(by decide+kernel:Hh .count (.int 0)=Z)|whole=>show(by decide+kernel:Hh .whole (.int 0)=Z)
def YK(h:Ct z=Z):z.cps.toList.all HK=true:=by
 show Bz.mpr λc hc=>?_;have:=Bz.mp (Er h).2.2 c hc;let j:=vK this;unfold HK
 grind
def pI(gs:List SG)(h:XW n c f):NQ (Zv gs f) c=true:=by
 let hm: (f.must&&c)=false:=by cases hc:c with|false=>rw[Dg]|true=>rw[h.must hc];rfl
 change(FA (.bl f.must) && (!(f.must&&c) && (Hh (IR gs f.kind) f.dfl|| (!(f.must|| (c|| !HN (IR gs f.kind))) && (!(IB (IR gs f.kind) && !DJ f.dfl) &&DB (IR gs f.kind) f.dfl)))))=Z;rw[hm];rcases h.dfl with hd|⟨h1,h2,hd⟩;·rw[hd,jU gs h.kind];rfl
 rw[h1,h2];let key:HN (IR gs f.kind)=Z/\(IB (IR gs f.kind) && !DJ f.dfl)=ge/\DB (IR gs f.kind) f.dfl=true:=by
  cases D:f.kind with
  |truth=>rw[D]at hd;rw[show f.dfl= .bl Z from hd];show{(O),O,O}
  |text n=>
   rw[D]at hd;let(z,e,F,hl):=hd;rw[e];show{O,?_,?_};·change(Z&& !Ct z)=ge;rw[F];rfl
   change(!decide ((z.length:Int) >n) &&z.cps.toList.all HK)=Z;rw[A1L (show ¬ (z.length:Int) >n by lia),YK F];rfl
  |upto m=>
   rw[D]at hd;let(i,e,U,h1):=hd;rw[e];show{O,O,?_};change(decide (0<=i) &&decide (i<=m))=Z
   grind
  |whole=>
   rw[D]at hd;let(i,e,U,h1):=hd;rw[e];show{O,O,?_};change(decide (-MW - 1<=i) &&decide (i<=MW))=Z
   grind
  |count=>
   rw[D]at hd;let(i,e,U,h1):=hd;rw[e];show{O,O,?_};change(decide (0<=i) &&decide (i<=MN))=Z
   grind
  |form i=>rw[D]at hd;show hd.elim|list j=>rw[D]at hd;show hd.elim
 let(k1,k2,k3):=key;rw[k1,k2,k3];cases Hh (IR gs f.kind) f.dfl <;> rfl
def oS{gs:List SG}{Ws:List Int}{k:Nat}{ws:List (AT×Int)}(h:LH gs Ws k ws)(hn:Ju (gs.map (·.nam)))(U:k<=gs.length){f:SF}(z:f.kind.ok k):Hg ws (IE gs f)=Fe (Ws.take k) f.kind:=by
 change lM ws (IR gs f.kind)=_;cases j:f.kind with
 |form i=>
  rw[j]at z;let hi:i<k:=z;let D:gs[i]?=Y (gs[i]' ()):=AI _;let F:=br h hn.nd hi D;let e:MB gs i=(gs[i]' ()).nam:=by unfold MB;rw[D];rfl
  change(JU ws<|MB gs i).getD 0=(Ws.take k).getD i 0
  grind
 |_=>rfl
def pE(gs:List SG)(fs:List SF): (fs.map<|IE gs).filter LD=(fs.filter (·.must)).map (IE gs):=by rw[List.filter_map];rfl
def mW{gs:List SG}{Ws:List Int}{k:Nat}{ws:List (AT×Int)}(h:LH gs Ws k ws)(hn:Ju (gs.map (·.nam)))(j:k<=gs.length){g:SG}(z:zZ k (Ws.take k) g):Fg ws g.choice (g.fields.map<|IE gs)=EI (Ws.take k) g.choice g.fields:=by
 let ld:=λf hf=>oS h hn j (z.fs f hf).kind;unfold Fg EI;let F: (g.fields.map<|IE gs).map (Hg ws)=g.fields.map λf=>Fe (Ws.take k) f.kind:=by simp_all
 let D: ((g.fields.map<|IE gs).filter LD).map (Hg ws)=(g.fields.filter (·.must)).map λf=>Fe (Ws.take k) f.kind:=by
  rw[pE,Br]
  simp_all
 rw[F,D]
def IV(b:Bool)(g:SG):List Int:=if g.choice then []else if b then [200]else []
def yu(b:Bool)(gs:List SG)(g:SG):Gx:={g.choice,.str g.nam,Y<|g.fields.map (IE gs),IV b g}
def jM{gs:List SG}{Ws:List Int}{k:Nat}{ws:List (AT×Int)}{bb:Int}(b:Bool)(h:LH gs Ws k ws)(hs:IH bb gs Ws){g:SG}(F:gs[k]?=Y g)(h6:gs.length<=6):
  ID ws (.form<|yu b gs g)="" /\Fg ws g.choice (g.fields.map<|IE gs)=Ws.getD k 0:=by
 let hk:=(AO.mp F).1;let hn:=hs.nms ();let j:=hs.ok k g F;let hw:=mW h hn (GU hk) j;let U:=hs.ws k g F;let a6:=hs.bd k _ U;let hD:Ws.getD k 0=EI (Ws.take k) g.choice g.fields:=by rw[Bx,U];rfl
 show{?_,by rw[hD];show hw};let a1:=hn.ok g.nam<|Bb.mpr {g,AN F,O};change(if (Ct g.nam&& !pi ws (.str g.nam))=ge then ("name" :AT)else if Ir (yu b gs g)=ge then "many" else Nv ws g.choice (g.fields.map<|IE gs) (IV b g))=""
 let a2:=lF h λi g2 hi a3 e=>by
  have:i=k:=Xb hn.nd (by rw[AQ,a3];rfl) (by rw[AQ,F];change Y g.nam=Y g2.nam;rw[e])
  lia
 rw[a1.1,a2,A1N Aa];let b0: (g.fields.map<|IE gs).length=g.fields.length:=Ay ..;let a5:=j.len;let z: (IV b g).length<=1/\∀m∈IV b g,m=200:=by unfold IV;cases g.choice <;> cases b <;> simp
 let hsz:Ir (yu b gs g)=true:=by
  change((decide ((if g.choice then (1:Int)else 0)<= ((g.fields.map<|IE gs).length:Int)) &&decide (((g.fields.map<|IE gs).length:Int)<=10)) &&decide (((IV b g).length:Int)<=10))=Z
  let z:=z.1;let e1: (if g.choice then (1:Int)else 0)<= ((g.fields.map<|IE gs).length:Int):=by
   cases hc:g.choice with
   |false=>change(0:Int)<=_;lia
   |true=>
    have:=Im.mpr<|j.ne hc
    lia
  grind
 rw[hsz,A1N Aa];let mem:∀e∈g.fields.map (IE gs),∃f∈g.fields,e=IE gs f:=λe D=>by
  grind
 let e1:Iy (g.fields.map<|IE gs)=true:=by
  unfold Iy;rw[AA];show{Bz.mpr λe D=>?_,A1K ?_};·let(f,hf,O):=mem e D;show(j.nms.ok f.nam<|Bb.mpr {(f),hf,O}).1
  rw[Br];show j.nms.nd
 let e2:Fs (g.fields.map<|IE gs) (IV b g)=true:=by
  unfold Fs OQ;rw[AA,AA];let am:∀m:Int,1<=m/\m<=200->Mh (.int m) 1 200=true:=λm hm=>by
   change(decide (1<=m) &&decide (m<=200))=Z
   grind
  show{{Bz.mpr λe D=>?_,Bz.mpr λm hm=>am m<|by rw[z.2 m hm];decide},A1K ?_};·let(f,hf,O):=mem e D;have:=j.nums f hf;show am f.num ()
  rw[Br];show JI.mpr {j.ri.imp λh=>Int.ne_of_lt h,?_,λx hx y hy=>?_};·unfold IV;cases g.choice <;> cases b <;> simp
  let(f,hf,O):=Bb.mp hx;have:=j.nums f hf;rw[z.2 y hy];change f.num≠200
  lia
 let e3: ((g.fields.map<|IE gs).all λe=>Ek ws<|NN e)=true:=Bz.mpr λe D=>by
  let(f,hf,O):=mem e D;show aF h hn (GU hk) (j.fs f hf).kind
 let e4: (g.fields.map<|IE gs).all (ww g.choice)=true:=Bz.mpr λe D=>by
  let(f,hf,O):=mem e D;show pI gs<|j.fs f hf
 unfold Nv;rw[e1,e2,e3,e4,hw,A1N Aa,A1N Aa,A1N Aa,A1N Aa,A1N]
 lia
def NO(b:Bool)(gs:List SG)(g:SG):Ox:=.form<|yu b gs g
def uJ{gs:List SG}{Ws:List Int}{bb:Int}(b:Bool)(hs:IH bb gs Ws)(F:gs.length<=6):∀p,p<=gs.length->∃ws,LH gs Ws p ws/\pw (gs.map<|NO b gs) [] 0=pw ((gs.map<|NO b gs).drop p) ws p
 |0,_=>{[],{O,λi hi=>A1Q hi<|QI _},O}
 |p+1,h2=>by
  let(ws,ha,e):=uJ b hs F p ();let j:gs[p]?=Y (gs[p]' ()):=AI _;let z:p< (gs.map<|NO b gs).length:=by rw[Ay];lia
  let U: (gs.map<|NO b gs).drop p=NO b gs (gs[p]' ()):: (gs.map<|NO b gs).drop (p+1):=by rw[EA z,ZJ]
  generalize gs[p]' ()=g at j U;let(hf,hw):=jM b ha hs j F;rw[U]at e;unfold NO at e;rw[gu,A1O hf]at e;show{ws++[(g.nam,Fg ws g.choice<|g.fields.map (IE gs))],{by rw[AS,ha.len];rfl,λi hi=>?_},e};by_cases D:i<p
  ·let(g',h1,h2):=ha.at_ i D
   grind
  obtain rfl:i=p:=()
  show{g,j,?_};rw[Cv (by rw[ha.len];show Bh _),ha.len,JG,<-hw];rfl
def pQ{gs:List SG}{Ws:List Int}{bb:Int}(b:Bool)(hs:IH bb gs Ws)(U:gs.length<=6)(h1:1<=gs.length)(j:∀g,gs[gs.length - 1]?=Y g->g.choice=ge):
  ∃ws,Sw (gs.map<|NO b gs)= .inr ws/\∀(i:Nat) g n,gs[i]?=Y g->Ws[i]?=Y n->JU ws g.nam=Y n:=by
 let(ws,ha,e):=uJ b hs U gs.length<|Bh _;rw[List.drop_eq_nil_of_le (by rw[Ay];show Bh _)]at e;show{ws,?_,λi g n F hn=>?_}
 ·unfold Sw;rw[e];let z:gs[gs.length - 1]?=Y (gs[gs.length - 1]' ()):=AI _;let D: (gs.map<|NO b gs).getLast?=Y (NO b gs<|gs[gs.length - 1]' ()):=by rw[FN,Ay,AQ,z];rfl
  let hc:=j _ z;rw[D];change(if (gs[gs.length - 1]' ()).choice=Z then _ else _)=_
  rw[hc];rfl
 let hi:=(AO.mp F).1;have:=br ha (hs.nms<|()).nd hi F
 grind
def vD: (BV " ")={#[32]}:=⋯
def OZ:List (List Nat)->List Nat|[]=>[]|[x]=>x|x::y::r=>x++32::OZ (y::r)
def RD:∀ys:List AT,sg (Str.join {#[32]} ys)=OZ (ys.map sg)
 |[]=>rfl|[x]=>rfl
 |x::y::r=>by
  change sg (x++ {#[32]} ++Str.join {#[32]} (y::r))=sg x++32::OZ ((y::r).map sg);rw[Wh,Wh,RD (y::r),JJ];rfl
def vG:∀{x y a b:List Nat},c∉x->c∉y->x++c::a=y++c::b->x=y/\a=b
 |[],[],_,_,_,_,e=>{O,(Fi e).2}|[],z::y,_,_,_,j,e=>A1Q (Bf.mpr<|.inl (Fi e).1) j|z::x,[],_,_,D,_,e=>A1Q (Bf.mpr<|.inl (Fi e).1.symm) D
 |z::x,u::y,_,_,D,j,e=>by
  let(h1,h2):=vG (λz=>D<|Bq _ z) (λz=>j<|Bq _ z) (Fi e).2
  grind
def gy:∀{xs ys:List (List Nat)},xs≠[]->ys≠[]->(∀x∈xs,32∉x)->(∀y∈ys,32∉y)->OZ xs=OZ ys->xs=ys
 |[],_,h,_,_,_,_=>A1Q O h|_,[],_,h,_,_,_=>A1Q O h|[x],[y],_,_,_,_,e=>by rw[show x=y from e]|[x],y::z::r,_,_,D,_,e=>A1Q (by rw[show x=y++32::OZ (z::r)from e];simp)<|D x (Bi ..)|x::z::r,[y],_,_,_,j,e=>A1Q (by rw[show y=x++32::OZ (z::r)from e.symm];simp)<|j y (Bi ..)
 |x::u::r,y::v::t,_,_,D,j,e=>by
  let(h1,h2):=vG (D x<|Bi ..) (j y<|Bi ..) (show x++32::OZ (u::r)=y++32::OZ (v::t)from e);rw[h1,gy (xs:=u::r) (ys:=v::t) (λz=>by cases z) (λz=>by cases z) (λz h=>D z<|Bq _ h) (λz h=>j z<|Bq _ h) h2]
def Xk:∀{xs ys:List AT},xs.map sg=ys.map sg->xs=ys
 |[],[],_=>rfl|[],_::_,e=>by cases e|_::_,[],e=>by cases e
 |x::xs,y::ys,e=>by
  rw[AV,AV]at e;rw[VW (Fi e).1,Xk (Fi e).2]
def iI(F:ys≠[])(U:∀y∈ys,32∉sg y):Ca (Str.join {#[32]} ys) {#[32]}=ys:=by
 show Xk<|gy ?_ (λz=>F<|Ik.mp z) (λx D=>?_) (λy j=>?_) ?_
 ·intro z;have:=PyProof.Rows.split_pos (Str.join {#[32]} ys) {#[32]}
  simp_all
 ·let(y,j,O):=Bb.mp D;show StrLaws.split_free _ _ y j
 ·grind
 rw[<-RD,<-RD,StrLaws.join_split]
open PyProof.Rows PySem.NumText
def qJ:AT:="0123456789"
def uW:qJ.cps.toList=[48,49,50,51,52,53,54,55,56,57]:=⋯
def lV(c:Nat):dG qJ c=decide (48<=c/\c<=57):=by
 unfold dG;rw[StrLaws.found_one,uW,decide_eq_decide];constructor;·intro h;show(by decide:∀d∈ [48,49,50,51,52,53,54,55,56,57],48<=d/\d<=57) c h
 intro h;show(by decide:∀d,d<58->48<=d->d∈ [48,49,50,51,52,53,54,55,56,57]) c (Nat.lt_succ_of_le h.2) h.1
def Ng(z:AT)(c:Nat):Txt.startswith z {#[c]}=decide ((sg z).head?=Y c):=by
 obtain⟨⟨l⟩⟩:=z;cases l with
 |nil=>rfl
 |cons d r=>
  change(decide (0+1<= (d::r).length) && ((d::r).toArray.extract 0 (0+1)==#[c]))=decide (Y d=Y c)
  grind
def Uu(z:AT):sg (El z (Y 1) S)=(sg z).drop 1:=by
 by_cases h:z.length=0
 ·let e:=TZ z (Y 1) S;let D: (sg<|El z (Y 1) S).length=0:=by rw[Ha];lia
  let j: (sg z).length=0:=by rw[Ha];show h
  grind
 let e:=eq_of_beq (slice_closes_fromL (x:=z) (i:=1) (b:=(z.length:Int)) Aa () O);rw[e];change((z.cps.toList.drop 1).take ((z.length:Int) - 1).toNat)=(sg z).drop 1;apply Eo;rw[DD,Ha]
 lia
def KJ(l:List Nat):Bool:=decide (l.head?=Y 45)
def Dc(l:List Nat):List Nat:=if KJ l=Z then l.drop 1 else l
def Sk(l:List Nat):Bool:=decide (1<=l.length) &&decide (l.length<=80) &&l.all (dG qJ)
def NP(l:List Nat):Bool:=Sk (Dc l) && !(decide ((Dc l).head?=Y 48) && !decide (l=[48]))
def UG(l:List Nat):Int:=if KJ l=Z then -((digitsVal (Dc l):Nat):Int)else ((digitsVal (Dc l):Nat):Int)
def NY(z:AT):V:=if NP (sg z)=Z then .int (UG<|sg z)else .non
def JC(h:Sk l=Z):AllDigits l/\l≠[]/\l.length<=80:=by
 unfold Sk at h;rw[AA,AA,Bz]at h;let((h1,h2),h3):=h;show{λc hc=>?_,λe=>?_,A1M h2}
 ·have:=h3 c hc;rw[lV]at this
  grind
 simp_all
def yD(h:AllDigits l)(h1:l≠[])(h2:l.length<=80):Sk l=true:=by
 unfold Sk;rw[AA,AA,Bz];show{{A1K ?_,A1K h2},λc hc=>?_};·grind
 rw[lV];show A1K<|h c hc
def az(h:KJ l=Z):l=45::l.drop 1:=by
 unfold KJ at h;have:=A1M h;cases l with
 |nil=>cases this
 |cons c r=>
  cases this;rfl
def TC(h:NP l=Z):Sk (Dc l)=true:=by
 unfold NP at h
 grind
def Xv(h:Sk (Dc<|sg z)=Z):PySem.intText? z=Y (UG<|sg z)/\z.length<=640:=by
 let(h1,h2,h3):=JC h;let F:=Ha z;unfold UG;by_cases hn:KJ (sg z)=Z
 ·rw[A1O hn];let j:Dc (sg z)=(sg z).drop 1:=by unfold Dc;rw[A1O hn]
  rw[j]at h1 h2 h3 ⊢;let D:z.length<=640:=by grind
  show{intText_neg (az hn) h1 h2 (),D}
 rw[A1N hn];let j:Dc (sg z)=sg z:=by unfold Dc;rw[A1N hn]
 rw[j]at h1 h2 h3 ⊢;show{intText_digits h1 h2 (),()}
def Jd(n:Nat):List Nat:=if n<10 then [48+n]else (48+n%10)::Jd (n/10)
def Jc(h:n<10):Jd n=[48+n]:=by rw[Jd,A1O h]
def RI(h:¬n<10):Jd n=(48+n%10)::Jd (n/10):=by rw[Jd,A1N h]
def XD:∀d:Nat,d<10->(Nat.digitChar d).toNat=48+d:=by decide
def Lx(n:Nat): (Qd 10 n).map Char.toNat=(Jd n).reverse:=by
 induction n using Nat.strongRecOn with
 |_ m j=>
  by_cases h:m<10;·rw[Nat.toDigits_of_lt_base h,Jc h];change [(Nat.digitChar m).toNat]=[48+m];rw[XD m h]
  let hm:m%10<10:=Nat.mod_lt m Aa;let t:Qd 10 (m/10) ++Qd 10 (m%10)=Qd 10 (10* (m/10) +m%10):=Nat.toDigits_append_toDigits Aa () hm;rw[Nat.div_add_mod]at t;rw[<-t,Bl,Nat.toDigits_of_lt_base hm,RI h,List.reverse_cons,j (m/10) ()];change _++[(Nat.digitChar<|m%10).toNat]=_;rw[XD _ hm]
def S2(t:String):sg (BV t)=t.toList.map Char.toNat:=signs_ofString t
def bJ(n:Int):sg (BV<|QE n)=(if n<0 then [45]else []) ++ (Jd n.natAbs).reverse:=by
 rw[<-Lx];by_cases h:n<0;·rw[A1O h];obtain⟨m,rfl⟩:∃m:Nat,n= -((m+1:Nat):Int):={n.natAbs - 1,()};rw[S2];change(("-" ++Nat.repr (m+1):String)).toList.map Char.toNat=_;rw[String.toList_append,Bl,Nat.toList_repr];rfl
 rw[A1N h];let(m,O):=Int.eq_ofNat_of_zero_le (by lia:0<=n);show PySem.W.KIN.signs_num m
def fE(n:Nat):AllDigits (Jd n):=by
 induction n using Nat.strongRecOn with
 |_ m j=>
  intro c hc;by_cases h:m<10
  ·rw[Jc h]at hc
   grind
  rw[RI h]at hc;rcases Bf.mp hc with e|hc;·lia
  show j (m/10) () c hc
def lu(n:Nat):Jd n≠[]:=by
 by_cases h:n<10;·rw[Jc h];simp
 rw[RI h];simp
def fD(h:n<10 ^ 80): (Jd n).length<=80:=by let e:=A1P List.length<|Lx n;rw[Ay,Ud]at e;rw[<-e];show digits10_le Aa h
def ai(n:Nat): (Jd n).reverse.head?=Y 48->n=0:=by
 induction n using Nat.strongRecOn with
 |_ m z=>
  intro j;by_cases h:m<10
  ·rw[Jc h]at j;have:48+m=48:=by simpa using j
   lia
  rw[RI h,List.reverse_cons]at j;cases hr: (Jd<|m/10).reverse with
  |nil=>show A1Q (List.reverse_eq_nil_iff.mp hr)<|lu _
  |cons c r=>
   rw[hr]at j;have:=z (m/10) () (by rw[hr];show j)
   lia
def ue(h:n.natAbs<10 ^ 80):NY (BV<|QE n)= .int n:=by
 let hd:AllDigits (Jd n.natAbs).reverse:=(fE _).reverse;let D: (Jd n.natAbs).reverse≠[]:=λe=>lu _<|List.reverse_eq_nil_iff.mp e;let j: (Jd n.natAbs).reverse.length<=80:=by rw[Ud];show fD h
 let hv:digitsVal (Jd n.natAbs).reverse=n.natAbs:=by rw[<-Lx];show PySem.W.KIN.val_back _
 let hb:=yD hd D j;unfold NY;rw[bJ];by_cases hn:n<0
 ·rw[A1O hn];let U:KJ ([45] ++ (Jd n.natAbs).reverse)=true:=by unfold KJ;simp
  let F:Dc ([45] ++ (Jd n.natAbs).reverse)=(Jd n.natAbs).reverse:=by unfold Dc;rw[A1O U];rfl
  let g:NP ([45] ++ (Jd n.natAbs).reverse)=true:=by unfold NP;rw[F,hb,BL,Do];rw[A1L (λz=>by have:=ai _ z;lia),BR]
  rw[A1O g];unfold UG
  grind
 rw[A1N hn,List.nil_append];let U:¬KJ (Jd n.natAbs).reverse=true:=λz=>by
  have:=hd 45 (by rw[(az z)];show Bi ..)
  lia
 let F:Dc (Jd n.natAbs).reverse=(Jd n.natAbs).reverse:=by unfold Dc;rw[A1N U]
 let g:NP (Jd n.natAbs).reverse=true:=by
  unfold NP;rw[F,hb,BL,Do];by_cases hz: (Jd n.natAbs).reverse.head?=Y 48;·let h0:=ai _ hz;rw[h0,Jc Aa];decide
  simp_all
 rw[A1O g];unfold UG
 grind
def XG{K:AB}:∀ys:List AT,KU K H (ys.map V.str)<|ys.map GK|[]=>.nil|n::r=>.cons (.str n)<|XG r
def gk:∀(ys:List AT),(∀y∈ys,BW y=Z)->EH (ys.map GK)=Z
 |[],_=>rfl
 |y::r,h=>by
  rw[AV,EH,AA];show{h y<|Bi ..,gk r λz j=>h z<|Bq _ j}
def XE:∀(ys:List AT),Fm (ys.map GK)<=1
 |[]=>by decide
 |y::r=>by
  rw[AV,Fm];have:=XE r;simp only[IS]
  lia
def GZ{ys:List AT}(h:∀y∈ys,BW y=Z):Dy (.list<|ys.map GK)=true:=by
 unfold Dy;rw[AA];show{gk ys h,A1K ?_};have:=XE ys;simp only[IS]
 lia
def Lv:BW z=Z ↔ ∀c∈z.cps.toList,c<0x110000:=by unfold BW;rw[Array.all_eq_true_iff_forall_mem];simp
def bG(z:BW x=Z)(j:BW y=Z):BW (x++y)=true:=by
 rw[Lv]at z j ⊢;intro c hc;rw[show(x++y).cps.toList=x.cps.toList++y.cps.toList from LN]at hc
 grind
def sB(s:String):BW (BV s)=true:=by
 rw[Str.ofString_eq_toList,Lv];intro c hc;let(d,_,O):=Bb.mp hc;let h:=d.valid;rcases h with h|h;·show Mg h Aa
 show h.2
def RA(h:Ct z=Z):BW z=true:=by
 rw[Lv];intro c hc;have:=Vs h c hc
 lia
def nR:∀l:List AT,(∀a∈l,BW a=Z)->BW (FD (BV " ") l)=true:=by
 intro l h;change BW (Builtin.Str.glued (BV " ") l)=Z;rw[StrLaws.glued_eq_join];let e:BW (BV " ")=true:=⋯
 induction l with
 |nil=>decide+kernel
 |cons a r j=>
  cases r with|nil=>show h a<|Bi ..|cons b r=>show bG (bG (h a<|Bi ..) e)<|j λx z=>h x<|Bq _ z
def uZ:∀(xs ys:List AT),bi (xs.map GK) (ys.map GK)=decide (xs=ys)
 |[],[]=>rfl|[],_::_=>rfl|_::_,[]=>rfl
 |x::xs,y::ys=>by
  rw[AV,AV];change(FU (.str x) (.str y) &&bi (xs.map GK) (ys.map GK))=_;rw[uZ xs ys];change((x==y) &&decide (xs=ys))=_
  grind
def vc(xs ys:List AT):FU (.list<|xs.map GK) (.list<|ys.map GK)=decide (xs=ys):=uZ xs ys
def E4(h:d=CZ k\/QU k d):LW (IR gs k) d=d:=by
 rcases h with rfl|h;·cases k <;> rfl
 cases k with|truth=>rw[show d= .bl Z from h];rfl|text n=>let(z,O,_):=h;rfl|upto m=>let(i,O,_):=h;rfl|whole=>let(i,O,_):=h;rfl|count=>let(i,O,_):=h;rfl|form i=>show h.elim|list k=>show h.elim
def ut(h:QU k d)(h1:Th H d v)(h2:Th H' (CZ k) v):d=CZ k:=by
 cases k with
 |truth=>
  rw[show d= .bl Z from h]at h1;rw[show v=V.bl Z from h1]at h2;cases h2
 |text n=>
  let(z,O,_):=h;rw[h1.1]at h2;let(e,_):=h2;injection e with e;rw[e];rfl
 |upto m=>
  let(i,O,_):=h;rw[show v=V.int i from h1]at h2;cases h2;rfl
 |whole=>
  let(i,O,_):=h;rw[show v=V.int i from h1]at h2;cases h2;rfl
 |count=>
  let(i,O,_):=h;rw[show v=V.int i from h1]at h2;cases h2;rfl
 |form i=>show h.elim|list k=>show h.elim
def yB(D:∀j,k≠ .list j)(hd:d=CZ k\/QU k d)(h:Th H d v)(h2:Th H' (CZ k) u):sK v u=true:=by
 cases k with
 |truth=>
  rw[show u=V.bl ge from h2];rcases hd with rfl|hd;·rw[show v=V.bl ge from h];rfl
  rw[show d= .bl Z from hd]at h;rw[show v=V.bl Z from h];rfl
 |text n=>
  rw[h2.1];rcases hd with rfl|hd;·rw[h.1];rfl
  let(z,O,_):=hd;rw[h.1];rfl
 |form i=>
  rw[show u=V.non from h2];rcases hd with rfl|hd;·rw[show v=V.non from h];rfl
  show hd.elim
 |list j=>show A1Q O<|D j
 |count=>
  rw[show u=V.int 0 from h2];rcases hd with rfl|hd;·rw[show v=V.int 0 from h];rfl
  let(i,O,_):=hd;rw[show v=V.int i from h];rfl
 |whole=>
  rw[show u=V.int 0 from h2];rcases hd with rfl|hd;·rw[show v=V.int 0 from h];rfl
  let(i,O,_):=hd;rw[show v=V.int i from h];rfl
 |upto m=>
  rw[show u=V.int 0 from h2];rcases hd with rfl|hd;·rw[show v=V.int 0 from h];rfl
  let(i,O,_):=hd;rw[show v=V.int i from h];rfl
def XI{xs:List V}{k:Nat}{j:Int}(h:j=(k:Int)):Oa xs (Y j) S=xs.drop k:=by
 subst h;unfold Oa;rw[HT.sIx_nat];change(xs.drop<|min k xs.length).take (xs.length - min k xs.length)=_;by_cases c:k<=xs.length;·rw[Nat.min_eq_left c,Eo (by rw[DD];show Bh _)]
 rw[Nat.min_eq_right (),JG,List.take_zero,List.drop_eq_nil_of_le ()]
def Pb{xs:List V}{k:Nat}{j:Int}(h:j=(k:Int)):Oa xs S (Y j)=xs.take k:=by subst h;unfold Oa;rw[HT.sIx_nat];change(xs.drop 0).take (min k xs.length - 0)=_;simp
def oh{F:Type}{k:F->Int}{a b:List F}(p:a.Perm b)(ha: (a.map k).Pairwise (·<= ·))(hb: (b.map k).Pairwise (·< ·)):a=b:=by
 let z:=JH.mp hb;show List.Perm.eq_of_pairwise (le:=λx y=>k x<=k y) (λx y hx U h1 h2=>?_) (JH.mp ha) (z.imp λh=>Int.le_of_lt h) p;let D:=p.mem_iff.mp hx;let e:k x=k y:=()
 let(i,hi,O):=SN.mp D;let(j,hj,O):=SN.mp U;let hp:=Ig.mp z
 grind
def iQ(p:a.Perm b)(j:b.Pairwise (·<= ·)):PySem.W.sortI a=b:=List.Perm.eq_of_pairwise (le:=(·<= ·)) (λx y _ _ h1 h2=>()) (PySem.W.sortI_rises a) j<|(PySem.W.sortI_perm a).trans p
def D8(h:hU o (Y es)):∃es',o=Y es'/\es'.Perm es/\L4 es es':=by cases o with|none=>show h.elim|some es'=>show{(es'),O,h}
def tG(hc: ~~~(X.calm=true)):JQ (XC P w Z) X E0:=⟨λ_=>hc,O,λ_ _ _ _ _ _ _ h=>by
 have(_,_,_,_,_,_,_,_,_,_,_,_,_,_,z):=h;show Cc z⟩
def A0o(gs:List SG)(fs:List SF): (fs.map<|IE gs).map uC=fs.map (·.num):=by rw[Br];rfl
def qY(gs:List SG)(fs:List SF):∀e∈fs.map (IE gs),VM e=true:=λe j=>by
 let(f,_,O):=Bb.mp j;rfl
def uo(gs:List SG)(fs:List SF):∀e∈fs.map (IE gs),Ex.may e:=λe j=>by
 let(f,_,O):=Bb.mp j;show cI gs f.kind
def N8(hL:∀a∈M,∃xs,H a=Y (.lst xs)):∀{k:Lk} {v:V},Qa H (IR gs k) v->Qa (rm M H) (IR gs k) v:=by
 let j:∀{b:AH} {C dx:AH} {fs:List (AT×V)},H b=Y (.ins C dx fs)->rm M H b=Y (.ins C dx fs):=λ{b C dx fs} D=>KC (λz=>by
  let(xs,h):=hL b z;rw[D]at h;cases h) D
 intro k;induction k with|truth=>intro v h;let(a,dx,e,h):=h;show{a,dx,e,j h}|count=>intro v h;let(a,dx,e,h):=h;show{a,dx,e,j h}|whole=>intro v h;let(a,dx,e,h):=h;show{a,dx,e,j h}|upto n=>intro v h;let(a,dx,u,e,h,r):=h;show{a,dx,u,e,j h,r}|text n=>intro v h;let(a,dx,u,e,h,r):=h;show{a,dx,u,e,j h,r}|form n=>intro v h;let(a,dx,u,e,h,r):=h;show{a,dx,u,e,j h,r}|list k F=>intro v h;let(a,dx,u,e,h,r):=h;show{a,dx,u,e,j h,F r}
def zm(hL:∀a∈M,∃xs,H0 a=Y (.lst xs))(s:AZ H0 H)(hd:f.dfl=CZ f.kind\/QU f.kind f.dfl)(h:ZC H0 H (Zv gs f) v):Vw (rm M H) (Zv gs f) v:=by
 let F:∀a∈M,∃xs,H a=Y (.lst xs):=λa ha=>by let(xs,z):=hL a ha;show{xs,s _ _ z}
 let(a,dx,n,z,k,m,d,e,ha,h1,h2,h3,h4,D,h6):=h;show{a,dx,n,z,k,m,d,e,KC (λx=>?_) ha,h1,h2,N8 F h3,h4,?_};·let(xs,h):=F a x;rw[ha]at h;cases h
 let D:Th H f.dfl d:=D;change Th (rm M H) f.dfl d;rcases hd with hd|hd
 ·rw[hd]at D ⊢;cases U:f.kind with
  |list j=>
   rw[U]at D;let(b,xs,O,hb,hx,hl):=D;obtain rfl:xs=[]:=hx;show{b,[],O,KC (λx=>?_) hb,O,hl};let(ys,h):=hL b x;show h6 b O ys h
  |_=>rw[U]at D;show D
 show zT hd D
def xL{m n:Nat}(h:m<=n){k:Lk}(j:k.ok m):k.ok n:=by
 cases k with
 |form i=>show BK j h
 |list k=>
  rcases j with j|⟨i,e,hi⟩;·show .inl j
  show .inr {i,e,BK hi h}
 |_=>show j
def ye(h:Lm H)(j:H l=Y (.lst xs)):Lm (untr H l):=by
 let ne:∀{a:AH} {o:HO},H a=Y o->(∀ys,o≠ .lst ys)->untr H l a=Y o:=λe n=>by
  rw[Eh λz=>by rw[z,j]at e;cases e;show n _ O];show e
 rcases h with h|⟨c,h1,h2⟩;·show .inl (ne h λ_ z=>by cases z)
 show .inr {c,ne h1 (λ_ z=>by cases z),ne h2 λ_ z=>by cases z}
def xC{z j:Type}{R:z->j->Prop}{l:List z}{m:List j}(h:Paired R l m):∀n:Nat,Paired R (l.drop n) (m.drop n):=by
 induction h with
 |nil=>intro n;rw[List.drop_nil,List.drop_nil];show .nil
 |cons a r D=>
  intro n;cases n with|zero=>show .cons a r|succ n=>show D n
def xB{z j:Type}{R:z->j->Prop}{l:List z}{m:List j}(h:Paired R l m):∀n:Nat,Paired R (l.take n) (m.take n):=by
 induction h with
 |nil=>intro n;rw[List.take_nil,List.take_nil];show .nil
 |cons a r D=>
  intro n;cases n with|zero=>show .nil|succ n=>show .cons a<|D n
def nQ(b:Bool)(g:SG):PySem.W.sortI (IV b g)=IV b g:=iQ (List.Perm.refl _) (by unfold IV;cases g.choice <;> cases b <;> simp)
def vn(t:Int):Oa [V.int 200] S (Y<|t%2)=(if decide (t%2=1)=Z then [200]else []).map V.int:=by
 rcases(by lia:t%2=0\/t%2=1)with h|h;·rw[h];show Pb (k:=0) O
 rw[h];show Pb (k:=1) O
def C5(s:Sm H H')(h:H l=S):Sm H (upd H' l u):=λa o e n=>by
 rw[AM (λz=>by rw[z,h]at e;cases e)];show s a o e n
inductive qk(vs:List V)(H:Hp)(Q:VK):Prop|mk (fv:V) (t bb:Int) (gs:List SG) (Ws:List Int) (_:vs=[fv,.int t]) (_:di H gs fv) (_:yW bb gs Ws) (_:Lm H) (_:∀v xs ws H',Sm H H'->Lm H'->IsB H' xs ws v->Paired (TW H') (gs.map<|yu (decide (t%2=1)) gs) xs->Q v H')
def rX:Sp:=λvs H Q _=>qk vs H Q
abbrev mS(fv:V)(t:Int)(L:AH)(v3 v4 v5 v6 v7 v8 v9 v10:Option V):L2.St:=[Y fv,Y<|.int t,Y<|.ref L,v3,v4,v5,v6,v7,v8,v9,v10]
inductive P0(H0:Hp)(fv:V)(t:Int)(L:AH)(b:Bool)(gs:List SG)(i:Nat):L2.St->Hp->Prop|mk (xs Hu v3 v4 v5 v6 v7 v8 v9 v10) (_:Hu L=none) (_:Sm H0 Hu) (_:Lm Hu) (_:Paired (TW Hu) ((gs.take i).map<|yu b gs) xs):P0 H0 fv t L b gs i (mS fv t L v3 v4 v5 v6 v7 v8 v9 v10) (upd Hu L<|.lst xs)
inductive L7(Hs:Hp)(fv:V)(t:Int)(L a F:AH)(gs:List SG)(fs:List SF)(i:Nat):L2.St->Hp->Prop|mk (ys v5 v6 v7 v8 v9 v10 H) (_:AZ Hs H) (_:H F=some (.lst ys)) (_:Paired (λf v=>Vw (rm [L,F] H) (Zv gs f) v) (fs.take i) ys):L7 Hs fv t L a F gs fs i (mS fv t L (Y<|.ref a) (Y<|.ref F) v5 v6 v7 v8 v9 v10) H
def tV(T:Tx K mg)(kb:K.In base):∅ 11 1172 ["_law_forms_here","_law_turn"] rX:=by
 let GB:EE P w K mg base (XC P w Z) 9 842 (EM K 842) ["self","forms"] (kZ K):=cD T;let v1:Co [V.non] [Eg]:=.cons O .nil;show(T.df 50 O).okA Iv ?_;intro 1 hr h;let(fv,t,bb,gs,Ws,O,hs,a5,i4,q):=h;let hu:=hr.units;let c2:=MD hr;let h5:EO (9+1) _:=hr.mono Aa;let e4:EO (4+1) _:=hr.mono Aa;let e5:EO (3+1) _:=hr.mono Aa;show⟨_,AJ (qS 2 Iv.nd<|Cq Ed)<|Bk (HM Dn O (DS<|pv 0) (BQ (i:=3) Iv.nd O<|Ci O)<|AJ (qS 4 Iv.nd<|Cq Ed) (Bk (HM Dn O (DS<|Fy c2 (pv 3) AR (λ_ _=>rfl)) (cg O (n:=5)<|CJ (BQ (i:=5) Iv.nd O<|Ci O) (CJ (BQ (i:=6) Iv.nd O<|Ci O)<|CJ (BQ (i:=7) Iv.nd O<|Ci O) (CJ (BQ (i:=8) Iv.nd O<|Ci O)<|CJ (BQ (i:=9) Iv.nd O<|Ci O) Jp)))<|BO (OH (PW.pt<|EX (BA<|pv 8) (ET<|qc (MR.or CU<|fP hu) (pv 9) (qD (@To P w K mg base T) hr T.VJ<|Cp (pv 7)))) (BO<|Ds (Ej Bg BG BF Du (pv 4)<|Cp (Fh ⟨T.VE,T.MZ,T.MY,T.VD⟩ (LY T) e5 O T.On (Zy T) v1 DU<|AY (pv 5) (AY (pv 6)<|Cy (qD (@fV P w K mg base T) hr T.Nb<|Cy (pv 0) (pv 7)) (pv 8)))))<|BO (Ds<|Ej Bg BG BF Du (pv 4) (Cp<|Fh ⟨T.VE,T.MZ,T.MY,T.VD⟩ (LY T) e5 O T.On (QD T) .nil DU (AY (pv 5)<|AY (pv 6) (AY (qD (@fV P w K mg base T) hr T.Nb<|Cy (pv 0) (pv 7))<|Cy Dk (pv 9)))))))<|Bk (qS 10 Iv.nd<|Bt Di (pv 1) (Bt DV (qB Cd T.Ei De<|Cp (pv 4)) AD)) (Bk (qS 4 Iv.nd<|Bt JO (Gu RC (pv 4) (HH<|pv 10) HI) (Gu RC (pv 4) HI<|HH (pv 10)))<|BO (OH (BA<|Fy c2 (pv 3) AR (λ_ _=>rfl)) (BO<|Ds (Ej Bg BG BF Du (pv 2)<|Cp (lx<|Fh ⟨((T.mks 9 O).1),(T.fnd 36 O),T.Uj,((T.mks 9 O).2)⟩ (RU T kb<|aP T) e4 O T.ZP (da T) v1 DU (Cy (Fy c2 (pv 3) AR λ_ _=>rfl)<|pv 4))))<|BO (Ds<|Ej Bg BG BF Du (pv 2) (Cp<|lx (Fh ⟨((T.mks 8 O).1),(T.fnd 34 O),T.Uj,((T.mks 8 O).2)⟩ (RU T kb<|aO T) e4 O T.ZO (cZ T) .nil DU<|AY (Fy c2 (pv 3) AR λ_ _=>rfl) (Cy (pv 4)<|Gu RC (Cq<|Cp AD) HI (HH<|Bt Di (pv 1) AD))))))))) (qr<|Fh ⟨((T.mks 10 O).1),(T.fnd 38 O),((T.mB2 31 O).2),((T.mks 10 O).2)⟩ GB h5 O (T.mc 22 O) (HL.b2 (T.mf 31 O) λ_ _ _ _ _ _ _ _=>rfl) .nil tG (Cp<|pv 2)),?_⟩;let(l,as,O,hl,d0):=hs;let hn:=a5.sp.nms (by have:=a5.l4;lia);show⟨zl 0,λL hL=>?_⟩;let e9:gs.length=as.length:=d0.length;let h4:=a5.l4;show CD (P0 H (.ref l) t L (decide (t%2=1)) gs gs.length) ?_ ?_
 ·show⟨l,O,⟨_,Cg.of<|(Bd hL) _ _ hl⟩,ME (xs:=as.map V.ref) (P0 H (.ref l) t L (decide (t%2=1)) gs) ⟨[],H,_,_,_,_,_,_,_,_,hL,Sm.refl _,i4,.nil⟩ (λi σ' H' _ h=>?_) (λi x σ' H' hx h=>?_) λσ' H' h=>?_⟩
  ·let(xs,Hu,_,_,_,_,_,_,_,_,h0,s,_,_):=h;show Cg.of ?_;rw[AM (λz=>by rw[z,hL]at hl;cases hl)];show s _ _ hl O
  ·let(xs,Hu,v3,v4,v5,v6,v7,v8,v9,v10,h0,su,d4,b3):=h;rw[AQ]at hx;let(a,ha,O):=Bp.mp hx;let(g,hg,fl,rs,hA,hF,hR):=GO d0 i a ha;let a9:=a5.sp.ok i g hg;let i0:=(AO.mp hg).1;let h9:=hn.ok g.nam<|Bb.mpr ⟨g,AN hg,O⟩;let sS:Sm H (upd Hu L<|.lst xs):=C5 su hL;show⟨zl 0,λF c5=>?_⟩;let j6:L≠F:=λz=>by rw[<-z,Az]at c5;cases c5
   let d9:∀{H2:Hp},AZ (upd Hu L<|.lst xs) H2->(∃ys,H2 F=Y (.lst ys))->∀b∈ [L,F],∃zs,H2 b=Y (.lst zs):=λs2 a4 b hb=>by
    rcases Bf.mp hb with rfl|hb;·show{_,s2 _ _ Az}
    rw[Bc.mp hb];show a4
   show CD (L7 (upd Hu L<|.lst xs) (.ref l) t L a F gs g.fields g.fields.length) ?_ ?_
   ·let s1:=Bd (u:=.lst []) c5;show{a,_,O,Ji<|s1 _ _ (sS _ _ hA O),fl,O,{_,Cg.of<|s1 _ _ (sS _ _ hF O)},ME (xs:=rs.map V.ref) (L7 (upd Hu L<|.lst xs) (.ref l) t L a F gs g.fields) {[],_,_,_,_,_,_,_,s1,Az,.nil} (λj σ' H' _ h=>by let(_,_,_,_,_,_,_,_,s2,_,_):=h;show Cg.of<|s2 _ _ (sS _ _ hF O)) (λj x σ' H' hx h=>?_) λσ' H' h=>?_}
    ·let(ys,v5,v6,v7,v8,v9,v10,H2,s2,a4,b1):=h;rw[AQ]at hx;let(r,h6,O):=Bp.mp hx;let(f,hf,kv,dv,e3,hT,hD):=GO hR j r h6;let d3:=a9.fs f<|AN hf;let i1:=a9.nms.ok f.nam<|Bb.mpr {f,AN hf,O};let b6:f.dfl=CZ f.kind\/QU f.kind f.dfl:=d3.dfl.imp id λz=>z.2.2;let s3:Sm H H':=sS.trans<|Sm.of s2;let b7:=hT.sm s3;let g7:ys.length=j:=by
      have:=b1.length;rw[Cb]at this;have:=(AO.mp hf).1
      lia
     let k7:j<6:=by have:=(AO.mp hf).1;have:=a9.len;lia
     let b0:di H' gs (.ref l):=di.sm s3 {(l),as,O,hl,d0};let hok:f.kind.ok gs.length:=xL (GU i0) d3.kind;let fin:∀{H3 D:Hp} {v:V},AZ H' H3->AZ H3 D->ZC H3 D (Zv gs f) v->Kf (.ref F) [v] D λ_ U=>L7 (upd Hu L<|.lst xs) (.ref l) t L a F gs g.fields (j+1) (mS (.ref l) t L (Y<|.ref a) (Y<|.ref F) (Y<|.int f.num) (Y<|.str f.nam) (Y kv) (Y<|.bl f.must) (Y dv) v10) U:=λ{H3 D v} t1 t2 hv=>by
      show{F,_,_,O,O,t2 _ _<|t1 _ _ a4,CW (),{_,_,_,_,_,_,_,_,((s2.trans t1).trans t2).put c5,Az,?_}};rw[Oz hf];let e1:=(Ke (l:=[L,F])<|t1.trans t2).trans (OF (o:=.lst<|ys++[v]) (by simp :F∈ [L,F]));show Hc (Paired.mapP b1 λ_ _ z=>Vx.sm (Sm.of e1) (e:=.fld _) z) (.cons (Vx.sm (Sm.of<|OF (by simp)) (e:=.fld _)<|zm (d9 (s2.trans t1) {_,t1 _ _ a4}) t2 b6 hv) .nil)
     let c6:∀U:Hp,Th U (.str f.nam) (.str f.nam):=λ_=>{O,AU (Er i1.1).2.1 Aa};show{r,_,O,Cg.of<|s3 _ _ e3 O,O,_,_,O,_,_,O,_,_,O,_,_,O,_,_,O,O,?_};let yes:f.dfl=CZ f.kind->∀{H3:Hp},AZ H' H3->∀k D,AZ H3 D->Qa D (IR gs f.kind) k->∀x dx,D x=S->D dx=S->dx≠x->We (.ref x::[.int f.num,.str f.nam,k,.bl f.must,.non]) (upd (upd D dx<|.own x) x<|.ins 657 dx []) (λv U=>v= .non/\Kf (.ref F) [.ref x] U λ_ U=>L7 (upd Hu L<|.lst xs) (.ref l) t L a F gs g.fields (j+1) (mS (.ref l) t L (Y<|.ref a) (Y<|.ref F) (Y<|.int f.num) (Y<|.str f.nam) (Y kv) (Y<|.bl f.must) (Y dv) v10) U) E0:=λe {H3} t1 k D t2 hk x dx hx a3 a2=>
      QR (Q:=λv U=>Kf (.ref F) [v] U λ_ U=>L7 (upd Hu L<|.lst xs) (.ref l) t L a F gs g.fields (j+1) (mS (.ref l) t L (Y<|.ref a) (Y<|.ref F) (Y<|.int f.num) (Y<|.str f.nam) (Y kv) (Y<|.bl f.must) (Y dv) v10) U) (f:=Zv gs f) (d:=.non) hx a3 a2 (cI gs _) O (c6 _) hk O O (by change f.dfl=_;rw[e];show(vC gs _).symm) λv U s5 hv=>fin (t1.trans t2) s5 hv
     let c4:∀{H3:Hp},AZ H' H3->y0 K "list" (.ref F) H3:=λt1=>.inl {O,_,Cg.of<|t1 _ _ a4};show{_,O,?_};cases hm:f.must with
     |true=>
      let e:f.dfl=CZ f.kind:=d3.dfl.resolve_right λz=>by rw[hm]at z;cases z.1
      rw[hm]at yes;show BX {c4<|AZ.refl _,(gs,f.kind),kv,_,O,b7,b0,hn,hok,λk D t2 hk=>yes e (AZ.refl _) k D t2 hk}
     |false=>
      rw[hm]at yes fin
      show BM {kv,f.kind,O,b7,λu H3 t1 c1 _=>?_};let c3:Th H3 f.dfl dv:=Th.sm (s3.trans<|Sm.of t1) _ _ hD;by_cases e8:∃j,f.kind= .list j
      ·let(j',d2):=e8;let e:f.dfl=CZ f.kind:=b6.resolve_right λz=>by rw[d2]at z;show z
       let c7:=c3;rw[e,d2]at c7;rw[d2]at c1;let(p,g2,O,hp,g9,_):=c7;let(p',g1,O,a8,g8,_):=c1;obtain rfl:g2=[]:=g9;obtain rfl:g1=[]:=g8;show .inr {p,p',[],O,O,hp,a8,_,O,BX {c4 t1,(gs,f.kind),kv,_,O,b7.sm<|Sm.of t1,b0.sm<|Sm.of t1,hn,hok,λk D t2 hk=>yes e t1 k D t2 hk}}
      show .inl {yB (λj e=>e8 {(j),e}) b6 c3 c1,_,O,DL (λhe=>?_) λhe=>?_};·let e:f.dfl=CZ f.kind:=b6.elim id λz=>ut z c3 (by rw[show dv=u from A1M he];show c1);show{c4 t1,(gs,f.kind),kv,_,O,b7.sm<|Sm.of t1,b0.sm<|Sm.of t1,hn,hok,λk D t2 hk=>yes e t1 k D t2 hk}
      show{c4 t1,(gs,f.kind),kv,_,O,b7.sm<|Sm.of t1,b0.sm<|Sm.of t1,hn,hok,λk D t2 hk x dx hx a3 a2=>QR (Q:=λv U=>Kf (.ref F) [v] U λ_ U=>L7 (upd Hu L<|.lst xs) (.ref l) t L a F gs g.fields (j+1) (mS (.ref l) t L (Y<|.ref a) (Y<|.ref F) (Y<|.int f.num) (Y<|.str f.nam) (Y kv) (Y<|.bl ge) (Y dv) v10) U) (f:=Zv gs f) (d:=f.dfl) hx a3 a2 (cI gs _) O (c6 _) hk (by change V.bl ge=V.bl f.must;rw[hm]) (Th.sm (Sm.of t2) _ _ c3) (E4 b6).symm λv U s5 hv=>fin (t1.trans t2) s5 hv}
    rw[Ay,show rs.length=g.fields.length from hR.length.symm]at h;show h
   rintro σ' H2 ⟨ys,v5,v6,v7,v8,v9,v10,H2,s2,a4,b1⟩;rw[Dj]at b1;let g7:ys.length=g.fields.length:=b1.length.symm;let k8:=a9.len;let hz:=Kh t (b:=(ys.length:Int) +1) ();obtain⟨m,hm⟩:∃m:Nat,(m:Int)=t% ((ys.length:Int) +1):={_,LM hz.1};show CD (λσ' H'=>σ'=mS (.ref l) t L (Y<|.ref a) (Y<|.ref F) v5 v6 v7 v8 v9 (Y<|.int (m:Int))/\H2=H') {F,_,O,.inl<|Cg.of a4,(by change(0:Int) < (ys.length:Int) +1;lia),by rw[hm];rfl,O} ?_;rintro σ' l6 ⟨rfl,rfl⟩;show CD (λσ' H'=>∃R,σ'=mS (.ref l) t L (Y<|.ref a) (Y<|.ref R) v5 v6 v7 v8 v9 (Y<|.int (m:Int))/\AZ H2 H'/\H2 R=S/\H' R=Y (.lst<|ys.drop m++ys.take m)) ?_ ?_
   ·show{_,O,F,_,O,Cg.of a4,λp hp=>{_,O,F,_,O,Cg.of<|(Bd hp) _ _ a4,λp' a8=>{p,p',_,_,O,O,(Bd a8) _ _ Az,Az,?_,λR f4=>{R,O,((Bd hp).trans<|Bd a8).trans<|Bd f4,((Bd hp).trans<|Bd a8).free f4,?_}}}}
    ·rw[XI O,Pb O,DD,Cb];show Gq ()
    rw[Az,XI O,Pb O]
   rintro σ' H3 ⟨R,rfl,s3,f3,i3⟩;let b9:=s2.trans s3;let sA:Sm H H3:=sS.trans<|Sm.of b9;let b8:H3 L=Y (.lst xs):=b9 _ _ Az;let g6:R≠L:=λz=>by rw[z,s2 _ _ Az]at f3;cases f3
   let sU:Sm Hu (untr H3 L):=λb o e n=>by
    let nb:b≠L:=λz=>by rw[z,h0]at e;cases e
    rw[Eh nb];show b9 _ _ (by rw[AM nb];show e)
   let c8:Lm (untr H3 L):=ye ((d4.same<|Bd h0).same b9) b8;let i2:Es (untr H3 L) ((g.fields.drop m++g.fields.take m).map<|IE gs) (ys.drop m++ys.take m):=by
    let e1:AZ (rm [L,F] H2) (untr H3 L):=λb o e=>by
     let(n,e):=Pz e;rw[Eh (λz=>n<|by rw[z];simp)];show s3 _ _ e
    let e2:Paired (λf v=>Vx (untr H3 L) (IE gs f) v) g.fields ys:=Paired.mapP b1 λ_ _ z=>Vx.sm (Sm.of e1) (e:=.fld _) z;show je<|Hc (xC e2 m) (xB e2 m)
   let f1:qH (untr H3 L) (Y<|(g.fields.drop m++g.fields.take m).map (IE gs)) (.ref R):={R,_,O,by change untr H3 L R=_;rw[Eh g6];show i3,i2,uo gs _,by rw[AS,DD,Cb];lia};let e7:∀U:Hp,Th U (.str g.nam) (.str g.nam):=λ_=>{O,AU (Er h9.1).2.1 Aa};let f5:untr H3 L a=Y (.dK<|ik g fl):=by rw[Eh (λz=>by rw[z,hL]at hA;cases hA)];show sA _ _ hA O
   let fin:∀v o' D,Sm (untr H3 L) D->Lm D->hU o' (Y<|(g.fields.drop m++g.fields.take m).map (IE gs))->TW D ⟨g.choice,.str g.nam,o',PySem.W.sortI<|IV (decide (t%2=1)) g⟩ v->D L=S->Kf (.ref L) [v] (upd D L<|.lst xs) λ_ U=>P0 H (.ref l) t L (decide (t%2=1)) gs (i+1) (mS (.ref l) t L (Y<|.ref a) (Y<|.ref R) v5 v6 v7 v8 v9<|Y (.int (m:Int))) U:=λv o' D s4 i5 h7 hG i6=>by
    let(es',O,h8,h3):=D8 h7;let e6:es'.Perm (g.fields.map<|IE gs):=h8.trans<|(List.perm_append_comm.trans<|List.Perm.of_eq (List.take_append_drop m g.fields)).map _;obtain rfl:es'=g.fields.map (IE gs):=oh (k:=uC) e6 (h3<|qY gs _) (by rw[A0o];show a9.ri);rw[nQ]at hG;let j9:xs.length=i:=by
     have:=b3.length;rw[Ay,Cb]at this
     lia
    show{L,_,_,O,O,Az,CW (),?_};rw[Pu];show{_,D,_,_,_,_,_,_,_,_,i6,su.trans<|sU.trans s4,i5,?_};rw[Oz hg,Bl];show Hc (Paired.mapP b3 λ_ _ z=>TW.sm (sU.trans s4) z)<|.cons hG .nil
   show{a,_,O,Pa<|sA _ _ hA O,_,O,?_};cases hc:g.choice with
   |true=>
    let eg:IV (decide (t%2=1)) g=[]:=by unfold IV;rw[hc];rfl
    rw[hc,eg]at fin
    show BX {.inl {O,_,Cg.of b8},L,xs,b8,a,_,O,Sh f5,λx dx hx a3 a2=>aC (Q:=λv D=>D L=S->Kf (.ref L) [v] (upd D L<|.lst xs) λ_ U=>P0 H (.ref l) t L (decide (t%2=1)) gs (i+1) (mS (.ref l) t L (Y<|.ref a) (Y<|.ref R) v5 v6 v7 v8 v9<|Y (.int (m:Int))) U) (c:=Z) hx a3 a2 (e7 _) f1 (ns:=[]) (.inl {(O),O}) c8 fin}
   |false=>
    let eg:IV (decide (t%2=1)) g=if decide (t%2=1)=Z then [200]else []:=by unfold IV;rw[hc];rfl
    rw[hc,eg]at fin
    show BM {.inl {O,_,Cg.of b8},L,xs,b8,a,_,O,Sh f5,zl 1,λp hp=>{(by change(0:Int) <2;decide),_,O,p,_,O,Cg.of Az,λp' a8 x dx hx a3 a2=>?_}};let sp:=(Bd (u:=.lst [.int 200]) hp).trans<|Bd (u:=.lst<|Oa [.int 200] S (Y<|t%2)) a8;show aC (Q:=λv D=>D L=S->Kf (.ref L) [v] (upd D L<|.lst xs) λ_ U=>P0 H (.ref l) t L (decide (t%2=1)) gs (i+1) (mS (.ref l) t L (Y<|.ref a) (Y<|.ref R) v5 v6 v7 v8 v9<|Y (.int (m:Int))) U) (c:=ge) hx a3 a2 (e7 _) (f1.sf (Sm.of sp).sf) (ns:=if decide (t%2=1)=Z then [200]else []) (.inr {p',O,?_,by split <;> decide}) (c8.same sp) λv o' D s4=>fin v o' D<|(Sm.of sp).trans s4
    change upd _ p' _ p'=_;rw[Az,vn]
  rw[Ay,<-e9]at h;show h
 rintro σ' H' ⟨xs,Hu,v3,v4,v5,v6,v7,v8,v9,v10,h0,su,d4,b3⟩;rw[Dj]at b3;intro x dx hx a3 a2;let l1:=a5.l1;let(ws,hb,_):=pQ (decide (t%2=1)) a5.sp () l1 (λg e=>by
  cases hc:g.choice with|false=>rfl|true=>have:=a5.last _ g e hc;lia)
 let t0:=Bd (u:=.lst xs) h0;let tn:AZ (upd Hu L<|.lst xs) (upd (upd (upd Hu L<|.lst xs) dx<|.own x) x<|.ins 859 dx []):=NM (C:=859) hx a3 a2;let em:gs.map (NO (decide (t%2=1)) gs)=(gs.map<|yu (decide (t%2=1)) gs).map Ox.form:=by rw[Br];rfl
 let ho:∀{f7:List Gx} {d7:List V},Paired (TW Hu) f7 d7->Os (upd (upd (upd Hu L<|.lst xs) dx<|.own x) x<|.ins 859 dx []) (f7.map Ox.form) d7:=λh=>by
  induction h with|nil=>show .nil|cons a _ ih=>show .cons (TW.sm (Sm.of<|t0.trans tn) a) ih
 let s3:∀{H3:Hp},zo x (upd (upd (upd Hu L<|.lst xs) dx<|.own x) x<|.ins 859 dx []) H3->AZ Hu H3:=λbt b u e=>bt b u (BB (t0 _ _ e) hx)<|tn _ _ (t0 _ _ e);show{x,dx,_,O,Az,.inr {L,xs,gs.map<|NO (decide (t%2=1)) gs,O,tn _ _ Az,em ▸ ho b3,λo' h=>?_,by rw[Ay];lia,by rw[Ay];lia,?_}}
 ·let(g,hg,O):=Bb.mp h;let(k,hk):=CP.mp hg;let a9:=a5.sp.ok k g hk;show{λes he=>?_,λes he=>?_,?_}
  ·obtain rfl:=AE he;show uo gs _
  ·obtain rfl:=AE he;rw[Ay];have:=a9.len
   lia
  change(IV _ g).length<40;unfold IV;split;·decide
  split <;> decide
 rw[hb];show λH3 bt hB=>{O,q _ xs ws H3 (su.trans<|Sm.of (s3 bt)) (d4.same<|s3 bt) hB.isB<|L2.Paired.imp' (λ_ _ z=>TW.sm (Sm.of<|s3 bt) z) b3}
def KN:List (Hn×V):=pL.map λx=>((.inr x.1:Hn),V.int x.2)
def qX:Kx->AT|.truth=>"truth" |.count=>"count" |.whole=>"whole" |.upto _=>"upto" |.text _=>"text" |.form _=>"form" |.list _=>"list" |_=>""
def GP:Kx->Int|.truth=>0|.count=>1|.whole=>2|.upto _=>3|.text _=>4|.form _=>5|.list k=>10+GP k|_=>0
def EN(ws:List (AT×Int)):Kx->Int|.list k=>EN ws k|.form (.str z)=>(JU ws z).getD 0|.upto (.int n)=>n|.text (.int n)=>n|_=>0
def NJ:Kx->Dt->Dt|.truth,.bl b=>.int<|if b then 1 else 0|.list _,_=>.int 0|.form _,_=>.int 0|_,d=>d
inductive vX(k:Kx)(vs:List V)(H:Hp)(Q:VK):Prop|mk (v:V) (_:vs=[v]) (_:k.fine) (_:Qa H k v) (_:Q (.int<|GP k) H)
def Vj(k:Kx):Sp:=λvs H Q _=>vX k vs H Q
inductive qy(k:Kx)(vs:List V)(H:Hp)(Q:VK):Prop|mk (v wv:V) (ws:List (AT×Int)) (_:vs=[v,wv]) (_:Ek ws k=true) (_:Qa H k v) (_:WD H ws wv) (_:∀H',AZ H H'->Q (.int<|EN ws k) H')
def Rz(k:Kx):Sp:=λvs H Q _=>qy k vs H Q
inductive vR(vs:List V)(H:Hp)(Q:VK):Prop|mk (v:V) (f:Fx) (_:vs=[v]) (_:Vw H f v) (_:f.kind.fine) (_:f.kind= .truth->FA f.dfl=true) (_:∀u,Th H (NJ f.kind f.dfl) u->Q u H)
def wR:Sp:=λvs H Q _=>vR vs H Q
def jj{C:AH}{z:AT}{st:Ih}{f:AH}{x j:AT}(F:L2.Yx K x j st f (EM K f))(Sq:AX As As (AL st))(h:∀X:Cx,SS X (Gj st)<|B4 (tC<|.str z)):∅ 1 f As (eY<|.str z):=by show F.okA Sq ?_;intro 1 hr h';let(v,O,q):=h';show{_,h _,q}
def W9(T:Tx K mg)(j:k.fine):JR P w K mg base 1 "word" k.cls (eY<|.str (qX k)):=by cases k with|truth=>show{T.Ow,_,_,_,(T.me 1 4 O O),jj (C:=0) (T.mf 4 O) YT λ_=>qr AR,(HL.b1 (T.mf 4 O) λ_ _ _ _ _ _ _=>rfl)}|count=>show{T.Oy,_,_,_,(T.me 5 7 O O),jj (C:=0) (T.mf 7 O) Zb λ_=>qr AR,(HL.b1 (T.mf 7 O) λ_ _ _ _ _ _ _=>rfl)}|whole=>show{T.Ov,_,_,_,(T.me 9 10 O O),jj (C:=0) (T.mf 10 O) YQ λ_=>qr AR,(HL.b1 (T.mf 10 O) λ_ _ _ _ _ _ _=>rfl)}|upto n=>show{T.JY,_,_,_,(T.me 14 14 O O),jj (C:=0) (T.mf 14 O) bO λ_=>qr AR,(HL.b1 (T.mf 14 O) λ_ _ _ _ _ _ _=>rfl)}|text n=>show{T.JZ,_,_,_,(T.me 19 17 O O),jj (C:=0) (T.mf 17 O) bQ λ_=>qr AR,(HL.b1 (T.mf 17 O) λ_ _ _ _ _ _ _=>rfl)}|form z=>show{T.GD,_,_,_,(T.me 29 26 O O),jj (C:=0) (T.mf 26 O) Wx λ_=>qr AR,(HL.b1 (T.mf 26 O) λ_ _ _ _ _ _ _=>rfl)}|list k=>show{T.Jl,_,_,_,(T.me 24 21 O O),jj (C:=0) (T.mf 21 O) bT λ_=>qr AR,(HL.b1 (T.mf 21 O) λ_ _ _ _ _ _ _=>rfl)}|bare=>show j.elim|thing d=>show j.elim
def yL{k:Kx}(j:k.fine)(hf:k.flat=Z):IQ KN (.inr<|qX k)=Y (.int<|GP k):=by cases k with|list k=>cases hf|bare=>show j.elim|thing d=>show j.elim|_=>kernel_rfl
def cA(T:Tx K mg)(hc:KD P w K 906 KN)(G:∅ (r+1) 934 ["kind"] z)(hk:∀D,k= .list D->∀vs H Q E,Vj D vs H Q E->z vs H Q E):∅ (r+3) 934 ["kind"] (Vj k):=by
 let(_,a2):=T.Ue;show(T.df 23 O).okA jb ?_;intro 1 hr h;let(v,O,hf,F,q):=h;show{_,AJ (qi (BA<|qB (Bv K O) T.Ba AW (Cy (pv 0)<|My T.Rn))<|qr (Bt DV (UN a2)<|KF G (hr.mono<|()) T.VI (Cp<|BH (pv 0) O))) (qr<|Np hc (My<|T.g _ _ T.Lu) (FQ (P:=P) (w:=w) (K:=K) (mg:=mg) (base:=base) (k:=1) O O O O O (pv 0) (hr.mono<|()) DU) (λ_ _=>rfl)),?_};have(t,ty,k0,k1,k2,k3,k4,k5,k6,k7):=UR T hf.may F;show{v,.ref 576,_,_,_,O,ty,O,k6,_,O,?_};cases j:k.flat with
 |false=>
  cases k with
  |list D=>
   let(a,dx,u,O,ha,hu):=F;show BX {a,_,dx,_,_,O,ha,T.Jl,T.Jx,O,hk _ O _ _ _ _ {(u),O,hf.2,hu,q}}
  |_=>cases j
 |true=>
  let(ka,kx,fs,O,U,a1):=F.ins hf.isK;rw[show k.isOf 6=ge by cases k <;> first|rfl|cases j]
  show BM {O,ka,_,kx,fs,_,O,U,a1 _ Aa Aa Aa,W9 T hf,_,O,.inr<|qX k,_,O,yL hf j,q}
def VP{f:AH}{fd:Ea}{ps:List AT}(sp:Kx->Sp)(hd:∀k vs H Q E,sp k vs H Q E->k.fine)(step:∀(r:Nat) (z:Sp) k,EE P w K mg base SU (r+1) f fd ps z->(∀D,k= .list D->∀vs H Q E,sp D vs H Q E->z vs H Q E)->EE P w K mg base SU (r+3) f fd ps (sp k)):
  EE P w K mg base SU 6 f fd ps (λvs H Q E=>∃k:Kx,sp k vs H Q E):=by
 show uS λk=>?_;let b:∀k:Kx,(∀j,k≠ .list j)->EE P w K mg base SU 3 f fd ps (sp k):=λk U=>step 0 _ k (PN (k:=0+1)) λD e=>A1Q e<|U D;cases k with
 |list k=>
  by_cases F:∃j,k= .list j;·let(j,O):=F;show TF (sp:=λ_ _ _ _=>False) (λvs H Q E h=>?_) PN;have:=hd _ _ _ _ _ h;cases this.1
  show(step 2 _ _ (b k λj e=>F {(j),e}) λD e vs H Q E h=>by cases e;show h).mono Aa
 |_=>show(b _ λj e=>by cases e).mono Aa
def sj:Sp:=λvs H Q E=>∃k:Kx,Vj k vs H Q E
def xO(T:Tx K mg)(hc:KD P w K 906 KN):∅ 6 934 ["kind"] sj:=VP Vj (λk vs H Q E h=>by let(_,_,h,_):=h;show h) λr j k G z=>cA T hc G z
def Zh(T:Tx K mg)(G:∅ (r+1) 941 Ag a7)(hk:∀k',k= .list k'->∀vs H Q E,Rz k' vs H Q E->a7 vs H Q E):∅ (r+3) 941 Ag (Rz k):=by
 show(T.df 24 O).okA ft ?_;intro 1 hr h;let(v,wv,ws,O,F,hx,(wa,O,hw),q):=h;show{_,AJ (qi (BA<|qB (Bv K O) T.Ba AW (Cy (pv 0)<|My T.Rn))<|qr (KF G (hr.mono<|()) T.Up<|Cy (BH (pv 0) O) (pv 1)))<|AJ (qi (BA<|qB (Bv K O) T.Ba AW (Cy (pv 0)<|My T.Kk))<|qr (Fy (MD hr) (pv 1) (BH (pv 0) O) λ_ _=>rfl)) (AJ (qi (BA<|qB (Nw K O) T.Ba AW (Cy (pv 0)<|DC (Cy (My T.Vh)<|My T.Rm)))<|qr (BH (pv 0) O))<|qr AD),?_};let hm:=(Jh F).may;have(t,ty,k0,k1,k2,k3,k4,k5,k6,k7):=UR T hm hx;let last:∀p,H p=S->AZ H (upd H p<|.tup [.ref 464,.ref 517])/\∃t',IG K (upd H p<|.tup [.ref 464,.ref 517]) v t'/\Em K t' (IK Value.ref [464,517])=Y (k.isOf 4||k.isOf 5):=λp hp=>by
  let s2:=Bd (u:=.tup [.ref 464,.ref 517]) hp;let(t',j,_,_,_,_,a9,a8,_):=UR T hm<|hx.sm (Sm.of s2);show{s2,t',j,uA a9 a8}
 show{v,.ref 576,_,_,_,O,ty,O,k6,_,O,?_};cases k with
 |list k'=>
  let(a,dx,u,O,ha,U):=hx;show BX {a,_,dx,_,_,O,ha,T.Jl,T.Jx,O,hk _ O _ _ _ _ {u,_,ws,O,?_,U,{(wa),O,hw},q}};cases k' with|list _=>cases F|_=>show F
 |form d=>
  let(a,dx,u,O,ha,U):=hx;cases hn:DJ d with
  |false=>
   let D: (DJ d&&pi ws d)=true:=F;rw[hn]at D;cases D
  |true=>
   let(z,O):=Hf hn;let(O,_):=U;let D: (DJ (.str z) && (JU ws z).isSome)=true:=F;rw[hn,BL]at D;let(n,a4):=Oe.mp D;let g:=KW.k (k:=.inr z) hw;rw[bu,a4]at g;let q':=q H<|AZ.refl _;rw[show EN ws (.form<|.str z)=n by change(JU ws z).getD 0=n;rw[a4];rfl]at q';show BM {_,.ref 630,_,_,_,O,ty,O,k7,_,O,BX {(a),_,dx,_,_,O,ha,T.GD,T.HA,O,wa,_,O,g,q'}}
 |upto d=>
  let(n,O):=HR F;let(a,dx,u,O,ha,U):=hx;obtain rfl:u= .int n:=U;show BM {_,.ref 630,_,_,_,O,ty,O,k7,_,O,BM {zl 2,λp hp=>?_}};let(s2,t',j,ka):=last p hp;show{_,p,t',_,[464,517],O,Az,j,ka,_,O,BX {a,_,dx,_,_,O,s2 _ _ ha,T.JY,T.Lj,O,q _ s2}}
 |text d=>
  let(n,O):=HR F;let(a,dx,u,O,ha,U):=hx;obtain rfl:u= .int n:=U;show BM {_,.ref 630,_,_,_,O,ty,O,k7,_,O,BM {zl 2,λp hp=>?_}};let(s2,t',j,ka):=last p hp;show{_,p,t',_,[464,517],O,Az,j,ka,_,O,BX {a,_,dx,_,_,O,s2 _ _ ha,T.JZ,T.Ll,O,q _ s2}}
 |bare=>cases F|thing d=>cases F
 |_=>
  show BM {_,.ref 630,_,_,_,O,ty,O,k7,_,O,BM {zl 2,λp hp=>?_}};let(s2,t',j,ka):=last p hp;show{_,p,t',_,[464,517],O,Az,j,ka,_,O,BM<|q _ s2}
def nN:Sp:=λvs H Q E=>∃k:Kx,Rz k vs H Q E
def uc(T:Tx K mg):∅ 6 941 Ag nN:=VP Rz (λk vs H Q E h=>by let(_,_,_,_,h,_):=h;show Jh h) λr j k G z=>Zh T G z
def xJ(T:Tx K mg):∅ 2 948 Ah wR:=by
 show(T.df 25 O).okA UI ?_;intro 1 hr h;let(v,f,O,hF,F,ht,q):=h;show{_,AJ (qi (Cn<|BA (FQ (P:=P) (w:=w) (K:=K) (mg:=mg) (base:=base) (k:=1) O O O O O (BH (pv 0) O) (hr.mono Aa) DU))<|qr AD)<|AJ (qi (BA<|qB (Bv K O) T.Ba AW (Cy (BH (pv 0) O)<|My T.Om))<|qr (DH (BA<|BH (pv 0) O) AD AD)) (qr<|BH (pv 0) O),?_};let(a,dx,n,z,k,m,d,O,ha,h1,h2,h3,h4,h5):=hF;let(num,nam,kind,must,dfl):=f;have(t,ty,k0,k1,k2,k3,k4,k5,k6,k7):=UR T F.may h3;let(ka,kx,fs,O,D,U):=h3.ins F.isK;show{a,_,dx,_,_,O,ha,T.Ck,T.Dq,O,ka,_,kx,fs,_,O,D,U _ Aa Aa Aa,vk T F,_,O,_,O,?_};cases j:HN kind with
 |false=>
  show BX<|q _ ?_;cases kind with|list k=>rfl|form d=>rfl|_=>cases j
 |true=>
  show BM {a,_,dx,_,_,O,ha,T.Ck,T.Dq,O,_,.ref 344,_,_,_,O,ty,O,k1,_,O,?_};by_cases hn:kind= .truth
  ·obtain rfl:kind= .truth:=hn;let hb:=ht O;cases dfl with
   |bl b=>
    obtain rfl:d= .bl b:=h5;show BX {a,_,dx,_,_,O,ha,T.Ck,T.Fp,O,_,O,?_};cases b with|true=>show BX<|q _ O|false=>show BM<|q _ O
   |_=>cases hb
  rw[show kind.isOf 1=ge by cases kind <;> first|rfl|show A1Q rfl hn]
  let e:NJ kind dfl=dfl:=by cases kind with|truth=>show A1Q O hn|list k=>cases j|form k=>cases j|_=>rfl
  show BM {a,_,dx,_,_,O,ha,T.Ck,T.Fp,O,q _ ?_};change Th H (NJ kind dfl) d;rw[e];show h5
section
variable{J:It}{H1:Hp}{xs:List V}{σ0:L2.St}{g:TG}{te:TE}{Q:VK}
def vo(W:Wk J H1 xs)(hz:xs.length<=1000)(Pd:Nat->Hp->V->Prop)(a6:∀i H H' v,AZ H H'->Pd i H v->Pd i H' v)(a4:∀i H D zs us v,H D=Y (.lst zs)->Pd i H v->Pd i (upd H D<|.lst us) v)(hs:∀(j:Nat) (x:V),xs[j]?=Y x->∀(H:Hp) (R:VK),AZ H1 H->(∀y H',AZ H H'->Pd j H' y->R y H')->g x a3 H λa2 H2=>Sub a3 a2/\te a2 H2 R)(hd:∀D H' ys,H1 D=S->AZ H1 H'->H' D=Y (.lst ys)->ys.length=xs.length->(∀(i:Nat) y,ys[i]?=Y y->Pd i H' y)->Q (.ref D) H'):SA J H1 a3 g ZX te Q:=by
 intro D hD;show{λi m ys H=>m=xs.length - i/\i<=xs.length/\AZ H1 H/\H D=Y (.lst ys)/\ys.length=i/\∀j y,ys[j]?=Y y->Pd j H y,{xs.length,by simp,Cu _,Bd hD,Az,O,λj y e=>by simp at e},?_};rintro i m ys H ⟨rfl,hi,sm,F,hl,hp⟩;show{F,?_};by_cases U:i<xs.length
 ·show .inr {W.go H i sm U,λx H' y=>?_};let(e,hx):=W.yld H i x H' sm U y;subst e;show hs i x hx H' _ sm λy H4 s4 hy=>?_;show{s4 _ _ F,CW (),xs.length - (i+1),(),O,U,(sm.trans s4).put hD,Az,by rw[AS,hl];rfl,λj z hj=>?_};show a4 _ _ _ _ _ _ (s4 _ _ F) ?_
  grind
 let e:i=xs.length:=()
 subst e;show .inl {W.stop H _ sm O,hd D H ys hD sm F hl hp}
end
section
variable{J:It}{H1:Hp}{σ0:L2.St}{g:TG}{te:TE}{Q:VK}{xs:List V}
def MI{U:Type}{l:List U}(W:Wk J H1 xs)(hl:l.length=xs.length)(hz:xs.length<=1000)(φ:U->V)(hs:∀(j:Nat) (a:U) (x:V),l[j]?=Y a->xs[j]?=Y x->∀(H:Hp) (R:VK),AZ H1 H->(∀H',AZ H H'->R (φ a) H')->g x F H λz H2=>Sub F z/\te z H2 R)(hd:∀D H',H1 D=S->AZ H1 H'->H' D=Y (.lst<|l.map φ)->Q (.ref D) H'):SA J H1 F g ZX te Q:=by
 show Et W hz (λi=>match l[i]? with|some a=>φ a|none=>.non) (λj x hx H R s hR=>?_) λD H' a b c=>hd D H' a b ?_;·obtain⟨y,hy⟩:∃y,l[j]?=Y y:={_,AI<|by rw[hl];show(AO.mp hx).1};rw[hy]at hR;show hs j y x hy hx H R s hR
 rw[c,<-hl,PB l φ _ λi d e=>by rw[e]]
end
def toS(i:Int):AT:=BV<|QE i
inductive Pt where
 |n (i:Int)|s (z:AT)
def JA:Pt->V|.n i=>.int i|.s z=>.str z
def GM:Pt->Dt|.n i=>.int i|.s z=>.str z
def Pt.ok:Pt->Prop|.n i=>i.natAbs<10 ^ 80|.s z=>z.length<=1000/\BW z=Z
def tq:∀{p:Pt} {v:V},Th H (GM p) v->v=JA p|.n _,_,h=>h|.s _,_,h=>h.1
def Pt.ok.th:∀{p:Pt},p.ok->Th H (GM p) (JA p)|.n _,_=>rfl|.s _,h=>{(O),h.1}
def EL:Pt->AT|.n i=>toS i|.s z=>if z="" then "-" else z
def Gw(ps:List Pt):AT:=FD " "<|ps.map EL
def PZ(H:Hp)(ps:List Pt)(t:AH):Prop:=H t=Y (.tup<|ps.map JA)
def PZ.sm(s:Sm H H')(h:PZ H ps t):PZ H' ps t:=s _ _ h O
def Ts{i:Int}(j:i.natAbs<10 ^ 80):i.natAbs.log2<1920:=by
 by_cases h:i.natAbs=0;·simp_all
 show BK ((Nat.log2_lt h).mpr<|Mg j (show 10 ^ 80<2 ^ 300 by decide)) Aa
def Kb{i:Int}(h:i.natAbs<10 ^ 80): (toS i).length<=81:=by rw[<-Ha];unfold toS;rw[bJ,AS,Ud];have:=fD h;split <;> simp <;> lia
inductive UZ(vs:List V)(H:Hp)(Q:VK):Prop|mk (i:Int) (_:vs=[.int i]) (_:i.natAbs<10 ^ 80) (_:Q (.str<|toS i) H)
def Wc:Sp:=λvs H Q _=>UZ vs H Q
inductive Zz(vs:List V)(H:Hp)(Q:VK):Prop|mk (p:Pt) (_:vs=[JA p]) (_:p.ok) (_:Q (.str<|EL p) H)
def bC:Sp:=λvs H Q _=>Zz vs H Q
inductive du(vs:List V)(H:Hp)(Q:VK):Prop|mk (t:AH) (ps:List Pt) (_:vs=[.ref t]) (_:PZ H ps t) (_:∀p∈ps,p.ok) (_:ps.length<=1000) (_:∀H',AZ H H'->Q (.str<|Gw ps) H')
def eQ:Sp:=λvs H Q _=>du vs H Q
def qF(H:Hp)(rs:List (List Pt))(v:V):Prop:=∃a dx l ts,v= .ref a/\H a=Y (.ins 923 dx [("rows",.ref l)])/\H l=Y (.lst<|IK V.ref ts)/\Paired (PZ H) rs ts
structure yX(rs:List (List Pt)):Prop where
 len:rs.length<=1000
 ok:∀ps∈rs,(∀p∈ps,p.ok)/\ps.length<=1000
inductive UW(vs:List V)(H:Hp)(Q:VK):Prop|mk (v:V) (rs:List (List Pt)) (_:vs=[v]) (_:qF H rs v) (_:yX rs) (_:rh H Q ((rs.map Gw).map V.str))
def VZ:Sp:=λvs H Q _=>UW vs H Q
def kT:∀{ys:List AT} {b:Nat},(∀y∈ys,y.length<=b)->(ys.map (·.length)).sum<=ys.length*b
 |[],_,_=>Cu _
 |y::ys,b,h=>by
  rw[AV,List.sum_cons,BJ,Nat.succ_mul,Nat.add_comm];show Nat.add_le_add (kT λz j=>h z<|Bq _ j)<|h y (Bi ..)
def Sc{ys:List AT}(hn:ys.length<=1000)(h:∀y∈ys,y.length<=1000){z:AT}(j:z.length=1): (ys.map (·.length)).sum+ys.length*z.length<=16777216:=by
 let a:=kT h
 grind
def A09: ((["part"]:List AT) ++ ([]:List AT)).Nodup:=⋯
def U0: ((["row"]:List AT) ++ ([]:List AT)).Nodup:=⋯
def kP:∀{p:Pt},p.ok->(EL p).length<=1000
 |.n _,h=>AU (Kb h) Aa
 |.s z,h=>by
  change(if z="" then ("-" :AT)else z).length<=1000
  split;·decide+kernel
  show h.1
def WN(T:Tx K mg):∅ 1 222 ["number"] Wc:=by show(T.df 4 O).okA Wo ?_;intro 1 hr h;let(i,O,j,q):=h;show{_,qr<|qT DY T.IU GF (Cp<|pv 0),i,O,Ts j,q}
def cy(T:Tx K mg):∅ 2 1002 ["part"] bC:=by
 let(_,j):=T.kA;show(T.df 33 O).okA bK ?_;intro 1 hr h;let(p,O,D,q):=h;show{_,AJ (qi (BA<|qB (Bv K O) T.Ba AW (Cy (pv 0)<|RJ T.IU GF))<|qr (DH (qc CU (pv 0) AR) (o7 j)<|pv 0))<|qr (qD (@WN P w K mg base T) hr (T.d1 4 O λ_ _ _ _ _ _ _=>rfl)<|Cp (pv 0)),?_};cases p with
 |n i=>show{.int i,.ty "str",_,_,_,O,.int i,O,T.SW,_,O,BM {(i),O,D,q}}
 |s z=>
  let e:EL (.s z)=if z="" then ("-" :AT)else z:=rfl
  show{.str z,.ty "str",_,_,_,O,.str z,O,T.SV,_,O,BX {O,_,O,DL (λh=>?_) λh=>?_}};·rw[e,A1O<|V.str.inj (A1M h)]at q;show q
  rw[e,A1N λz=>h<|A1K (A1P V.str z)]at q;show q
def fR(T:Tx K mg):∅ 3 1014 ["row"] eQ:=by
 show(T.df 35 O).okA ff ?_;intro 1 hr h;let(t,ps,O,ht,hp,hl,q):=h;show{_,qr<|Ej Cr EG EF Nq AR (Cp<|Yv ["part"] [] [] .nil (jf<|pv 0) (λC s_ H_ fp=>BQ (i:=0) A09 O (Ci O)<|DN O) (λC s_ H_ fp=>qD (@cy P w K mg base T) hr (T.d1 33 O λ_ _ _ _ _ _ _=>rfl)<|Cp (pv 0))),?_};show{O,t,O,{_,Ec.of ht},MI (l:=ps) (Wk.tup<|Ec.of ht) (Ay ..).symm (by rw[Ay];show hl) (λp=>.str<|EL p) (λj p x z U H2 R s2 hR=>?_) λD H2 hD s2 e2=>?_};·rw[AQ,z]at U;cases U;show{Sub.set O,p,O,hp p<|AN z,hR _<|AZ.refl _}
 show{" ",D,ps.map EL,O,O,Cg.of (by rw[e2,Br];rfl),Sc (by rw[Ay];show hl) (λy hy=>?_) Ab,q _ s2};let(p,z,O):=Bb.mp hy;show kP<|hp p z
def OM(T:Tx K mg):∅ 4 1019 ["tables"] VZ:=by show(T.df 36 O).okA Wi ?_;intro 1 hr h;let(v,rs,O,(a,dx,l,ts,O,ha,hl,hp),hok,q):=h;show{_,qr<|Yv ["row"] [] [] .nil (DS<|BH (pv 0) O) (λC s_ H_ fp=>BQ (i:=0) U0 O (Ci O)<|DN O) (λC s_ H_ fp=>qD (@fR P w K mg base T) hr (T.d1 35 O λ_ _ _ _ _ _ _=>rfl)<|Cp (pv 0)),?_};let F:rs.length=ts.length:=hp.length;let a5:=hok.len;show{a,_,dx,_,_,O,ha,T.Ja,T.FJ,O,l,O,{_,Cg.of hl},MI (l:=rs) (Wk.list<|Cg.of hl) (by rw[Ay,F]) (by rw[Ay];lia) (λps=>.str<|Gw ps) (λj ps x z hx H2 R s2 hR=>?_) λD H2 hD s2 e2=>q D H2 hD s2<|by rw[e2,Br];rfl};let(t,ht,U):=Tj hp j ps z;rw[AQ,ht]at hx;cases hx;have:=hok.ok ps<|AN z;show{Sub.set O,t,ps,O,s2 _ _ U,this.1,this.2,hR}
def fy(ws:List (AT×Int))(k:Kx)(p1 p2:Pt)(b:Bool)(p6:Pt):List Pt:=[.s "field",p1,p2,.n<|GP k,.n<|EN ws k,.n<|if b then 1 else 0,p6]
inductive vQ(vs:List V)(H:Hp)(Q:VK):Prop|mk (v wv:V) (f:Fx) (ws:List (AT×Int)) (p1 p2 p6:Pt) (b:Bool) (_:vs=[v,wv]) (_:Vw H f v) (_:f.num=GM p1) (_:f.nam=GM p2) (_:f.must= .bl b) (_:Ek ws f.kind=true) (_:f.kind= .truth->FA f.dfl=true) (_:NJ f.kind f.dfl=GM p6) (_:WD H ws wv) (_:∀t H',AZ H H'->PZ H' (fy ws f.kind p1 p2 b p6) t->Q (.ref t) H')
def wP:Sp:=λvs H Q _=>vQ vs H Q
def CY:Lk->Int|.truth=>0|.count=>1|.whole=>2|.upto _=>3|.text _=>4|.form _=>5|.list k=>10+CY k
def Fk:Lk->Int|.upto n=>n|.text n=>n|.form i=>(i:Int)|.list k=>Fk k|_=>0
def Gv(f:SF):Pt:=match f.kind,f.dfl with
 |.list _,_=>.n 0|.form _,_=>.n 0|.truth,.bl b=>.n<|if b then 1 else 0|_,.int i=>.n i|_,.str z=>.s z|_,_=>.n 0
def Mt(f:SF):List Pt:=[.s "field",.n f.num,.s f.nam,.n<|CY f.kind,.n<|Fk f.kind,.n<|if f.must then 1 else 0,Gv f]
def KL(g:SG):List Pt:=[.s "form",.s g.nam,.n<|if g.choice then 1 else 0,.n (g.fields.length:Int)]
def Qt(g:SG):List (List Pt):=KL g::g.fields.map Mt
def Eu(gs:List SG):List (List Pt):=(gs.map Qt).flatten
def J2:List Int:=(BN 100).map λi:Nat=>(i:Int)
def zN(h:i<100):J2.getD i 0=(i:Int):=by unfold J2;simp[h]
def mF(gs:List SG):∀k:Lk,GP (IR gs k)=CY k|.list k=>by change 10+GP (IR gs k)=_;rw[mF gs k];rfl|.truth=>rfl|.count=>rfl|.whole=>rfl|.upto _=>rfl|.text _=>rfl|.form _=>rfl
def gQ{gs:List SG}{ws:List (AT×Int)}(h:LH gs J2 k ws)(hn: (gs.map (·.nam)).Nodup)(D:k<=gs.length)(F:k<=8):∀{kd:Lk},kd.ok k->EN ws (IR gs kd)=Fk kd
 |.list kd,j=>by
  change EN ws (IR gs kd)=Fk kd;show gQ h hn D F<|lC j
 |.form i,j=>by
  let hi:i<k:=j;let z:gs[i]?=Y (gs[i]' ()):=AI _;let e:MB gs i=(gs[i]' ()).nam:=by unfold MB;rw[z];rfl
  change(JU ws<|MB gs i).getD 0=(i:Int);rw[e,br h hn hi z,zN ()];rfl
 |.truth,_=>rfl|.count,_=>rfl|.whole,_=>rfl|.upto _,_=>rfl|.text _,_=>rfl
def xI(gs:List SG)(h:XW n c f):NJ (IR gs f.kind) f.dfl=GM (Gv f)/\(IR gs f.kind= .truth->FA f.dfl=Z):=by
 let hd:f.dfl=CZ f.kind\/QU f.kind f.dfl:=h.dfl.imp id λz=>z.2.2;unfold Gv;cases j:f.kind with
 |list k=>show{O,λz=>by cases z}|form i=>show{O,λz=>by cases z}
 |truth=>
  rw[j]at hd;rcases hd with e|e;·rw[e];show{O,λ_=>rfl}
  rw[show f.dfl= .bl Z from e];show{O,λ_=>rfl}
 |text n=>
  rw[j]at hd;rcases hd with e|⟨z,e,_⟩ <;> rw[e] <;> show{rfl,λz=>by cases z}
 |upto n=>
  rw[j]at hd;rcases hd with e|⟨z,e,_⟩ <;> rw[e] <;> show{rfl,λz=>by cases z}
 |whole=>
  rw[j]at hd;rcases hd with e|⟨z,e,_⟩ <;> rw[e] <;> show{rfl,λz=>by cases z}
 |count=>
  rw[j]at hd;rcases hd with e|⟨z,e,_⟩ <;> rw[e] <;> show{rfl,λz=>by cases z}
inductive pX(vs:List V)(H:Hp)(Q:VK):Prop|mk (v wv:V) (gs:List SG) (g:SG) (b:Bool) (k:Nat) (W:List Int) (ws:List (AT×Int)) (_:vs=[v,wv]) (_:TW H (yu b gs g) v) (_:zZ k W g) (_:LH gs J2 k ws) (_:Ju (gs.map (·.nam))) (_:k<=gs.length) (_:k<=8) (_:WD H ws wv) (_:∀l ts H',AZ H H'->H' l=some (.lst<|IK V.ref ts)->Paired (PZ H') (Qt g) ts->Q (.ref l) H')
def rL:Sp:=λvs H Q _=>pX vs H Q
inductive dB(vs:List V)(H:Hp)(Q:VK):Prop|mk (v:V) (xs:List V) (ws:List (AT×Int)) (gs:List SG) (b:Bool) (bb:Int) (Ws:List Int) (_:vs=[v]) (_:IsB H xs ws v) (_:Paired (TW H) (gs.map<|yu b gs) xs) (_:yW bb gs Ws) (_:∀u H',AZ H H'->qF H' (Eu gs) u->Q u H')
def eX:Sp:=λvs H Q _=>dB vs H Q
inductive zf(K:AB)(vs:List V)(H:Hp)(Q:VK):Prop|mk (x dx l:AH) (ys:List V) (_:vs=[.ref x,.ref l]) (_:H x=some (.ins 923 dx [])) (_:H l=some (.lst ys)) (_:∀m,H m=none->Q .non (upd (upd H m<|.lst ys) x<|.ins 923 dx [("rows",.ref m)]))
def C4(K:AB):Sp:=λvs H Q _=>zf K vs H Q
def xo{P:Nat->AH->Prop}:∀(ys:List V),(∀(i:Nat) y,ys[i]?=Y y->∃t,y= .ref t/\P i t)->∃ts:List AH,ys=ts.map V.ref/\∀(i:Nat) t,ts[i]?=Y t->P i t:=by
 intro ys;induction ys generalizing P with
 |nil=>show λ_=>{[],O,λi t e=>by simp at e}
 |cons y r z=>
  intro h;let(t,O,D):=h 0 y O;let(ts,O,j):=z (P:=λi=>P<|i+1) λi y e=>h (i+1) y (by simpa using e);show{t::ts,O,λi x e=>?_};cases i with|zero=>simp at e;subst e;show D|succ i=>show j i x (by simpa using e)
def au{z j:Type}{R:z->j->Prop}:∀{l:List z} {m:List j},l.length=m.length->(∀(i:Nat) x y,l[i]?=Y x->m[i]?=Y y->R x y)->Paired R l m|[],[],_,_=>.nil|x::l,y::m,D,h=>.cons (h 0 x y O O) (au (Nat.succ.inj D) λi a b h1 h2=>h (i+1) a b (by simpa using h1)<|by simpa using h2)
def cS{j z:Type}{f:j->List z}{k:Nat}:∀{l:List j},(∀x∈l,(f x).length<=k)->(l.map f).flatten.length<=k*l.length:=by
 intro l;induction l with
 |nil=>show λ_=>Cu _
 |cons x l D=>
  intro h;let h1:=h x<|Bi ..;let h2:=D λy F=>h y<|Bq _ F;rw[AV,NW,AS,BJ,Nat.mul_succ]
  lia
def PZ.upd{x:AH}{o u:HO}(h:PZ H ps t)(j:H x=Y o)(no:∀xs,o≠ .tup xs):PZ (L2.upd H x u) ps t:=by unfold PZ at h ⊢;rw[AM (λz=>by rw[z,j]at h;show no _<|AE h)];show h
def LH.more(h:LH gs J2 i ws)(D:gs[i]?=Y g)(hi:i<100):LH gs J2 (i+1) (ws++[(g.nam,(i:Int))]):=by
 show{by rw[AS,h.len];rfl,λj F=>?_};by_cases z:j<i;·let(g',h1,h2):=h.at_ j z;show{g',h1,?_};rw[DK (by rw[h.len];show z)];show h2
 obtain rfl:j=i:=()
 show{g,D,?_};rw[Cv (by rw[h.len];show Bh _),h.len,JG,zN hi];rfl
def WF(gs:List SG)(i:Nat)(j:gs[i]?=Y g):Eu (gs.take<|i+1)=Eu (gs.take i) ++Qt g:=by unfold Eu;rw[Oz j,Bl,List.flatten_append];simp
def A0e: ((Ah:List AT) ++ (["places"]:List AT)).Nodup:=⋯
def jt(T:Tx K mg):∅ 1 920 ["self","rows"] (C4 K):=by show(T.mf 33 O).okA Ww ?_;intro 1 hr h;let(x,dx,l,ys,O,j,z,q):=h;show{_,BO<|EC (pv 0) (qT EV T.FO EJ<|Cp (pv 1)) O,l,ys,O,.inl<|Cg.of z,λm hm=>{x,_,dx,_,O,(Bd hm) _ _ j,T.Ja,T.FJ,Aa,q m hm}}
def lz(T:Tx K mg)(hc:KD P w K 906 KN):∅ 7 955 ["field","places"] wP:=by
 show(T.df 26 O).okA Nj ?_;intro 1 hr h;let(v,wv,f,ws,p1,p2,p6,b,O,U,e1,e2,e3,D,j,e6,hw,q):=h;show{_,Bk (qS 2 Nj.nd<|DH (BA<|BH (pv 0) O) AD AD)<|AJ (qS 3 Nj.nd<|qD (@xO P w K mg base T hc) hr T.VI (Cp<|BH (pv 0) O)) (qr<|DC (AY AR<|AY (BH (pv 0) O) (AY (BH (pv 0) O)<|AY (pv 3) (AY (qD (@uc P w K mg base T) hr T.Up<|Cy (BH (pv 0) O) (pv 1))<|Cy (pv 2) (qD (@xJ P w K mg base T) hr (T.d1 25 O λ_ _ _ _ _ _ _=>rfl)<|Cp (pv 0)))))),?_};let F:=U;let(a,dx,n,z,k,m,d,O,ha,h1,h2,h3,h4,h5):=U;obtain rfl:n=JA p1:=tq<|e1 ▸ h1;obtain rfl:z=JA p2:=tq<|e2 ▸ h2;obtain rfl:m= .bl b:=(e3 ▸ h4:Th H (.bl b) m);show CD (λσ' H'=>σ'=[Y (.ref a),Y wv,Y<|.int (if b then 1 else 0),S]/\H=H') {a,_,dx,_,_,O,ha,T.Ck,T.Hl,O,_,O,?_} ?_
 ·cases b with|true=>show BX {(O),O}|false=>show BM {(O),O}
 rintro σ' H' ⟨rfl,rfl⟩;show{a,_,dx,_,_,O,ha,T.Ck,T.Dq,O,f.kind,k,O,Jh D,h3,a,_,dx,_,_,O,ha,T.Ck,T.Fc,O,a,_,dx,_,_,O,ha,T.Ck,T.Gh,O,a,_,dx,_,_,O,ha,T.Ck,T.Dq,O,f.kind,k,wv,ws,O,D,h3,hw,λH2 s2=>{_,f,O,Vx.sm (Sm.of s2) (e:=.fld f) F,Jh D,j,λu hu=>{zl 7,λt j=>?_}}};obtain rfl:u=JA p6:=tq<|e6 ▸ hu;show q t _ (s2.trans<|Bd j) Az
def tM(T:Tx K mg)(hc:KD P w K 906 KN):∅ 8 960 ["form","places"] rL:=by
 show(T.df 27 O).okA Qq ?_;intro 1 hr h;let(v,wv,gs,g,b,k,W,ws,O,hG,a9,hA,hn,a8,h8,hw,q):=h;show{_,Bk (qS 2 Qq.nd<|DH (BA<|FQ (P:=P) (w:=w) (K:=K) (mg:=mg) (base:=base) (k:=1) O O O O O (pv 0) (hr.mono Aa) DU) AD AD)<|qr (Bt JO (Cq<|Cp (DC<|AY AR (AY (BH (pv 0) O)<|Cy (pv 2) (qB Cd T.Ei De<|Cp (BH (pv 0) O)))))<|Yv Ah ["places"] [1] (.cons O (.inl O) O .nil) (DS<|BH (pv 0) O) (λC s_ H_ fp=>BQ (i:=0) A0e O (Ci O)<|DN O) (λC s_ H_ fp=>qD (@lz P w K mg base T hc) hr T.Rs<|Cy (pv 0) (pv 1))),?_};let(a,dx,z,fv,gl,O,ha,hz,b5,_):=hG;let(fl,xs,O,a1,b0):=b5;let(O,_):=hz;let fc:=QS T g.choice;let a6:g.fields.length=xs.length:=by have:=b0.length;rw[Ay]at this;show this
 let h5:=a9.len;show CD (λσ' H'=>σ'=[Y (.ref a),Y wv,Y<|.int (if g.choice then 1 else 0)]/\H=H') {a,_,dx,_,_,O,ha,by rfl,Ss T g.choice,_,O,_,O,?_} ?_
 ·cases g.choice with|true=>show BX {(O),O}|false=>show BM {(O),O}
 rintro σ' H' ⟨rfl,rfl⟩;show{a,_,dx,_,_,O,ha,fc.cl,fc.n1,O,a,_,dx,_,_,O,ha,fc.cl,fc.n2,O,fl,_,O,.inl<|Cg.of a1,zl 4,λt0 b3=>{zl 1,λl0 a7=>?_}};let s1:=(Bd (u:=.tup [.str "form",.str g.nam,.int<|if g.choice then 1 else 0,.int (xs.length:Int)]) b3).trans<|Bd (u:=.lst [.ref t0]) a7
 show{a,_,dx,_,_,O,s1 _ _ ha,fc.cl,fc.n2,O,fl,O,{_,Cg.of<|s1 _ _ a1},vo (Wk.list<|Cg.of (s1 _ _ a1)) () (λi H' v=>∃f t,g.fields[i]?=Y f/\v= .ref t/\PZ H' (Mt f) t) (λi H1 H2 v s h=>?_) (λi H1 D zs us v hD h=>?_) (λj x hx H2 R s2 hR=>?_) λD H2 ys hD s2 e2 hl hP=>?_};·let(f,t,e,O,h):=h;show{f,t,e,O,s _ _ h}
 ·let(f,t,e,O,h):=h;show{f,t,e,O,by change upd H1 D _ t=_;rw[AM (λz=>by unfold PZ at h;rw[z,hD]at h;cases h)];show h}
 ·let(e,he,b1):=GO b0 j x hx;rw[AQ]at he;let(f,hf,O):=Bp.mp he;let U:=a9.fs f<|AN hf;let(e6,ht):=xI gs U;let F:=s1.trans s2;show{Sub.set O,x,wv,Zv gs f,ws,.n f.num,.s f.nam,Gv f,f.must,O,Vx.sm (Sm.of F) (e:=.fld<|Zv gs f) b1,O,O,O,aF hA hn a8 U.kind,ht,e6,hw.sm<|Sm.of F,λt H3 s3 b7=>hR _ H3 s3 {f,t,hf,O,?_}};let e7:fy ws (IR gs f.kind) (.n f.num) (.s f.nam) f.must (Gv f)=Mt f:=by unfold fy Mt;rw[mF,gQ hA hn.nd a8 h8 U.kind]
  rw[<-e7];show b7
 let F:=s1.trans s2;let(ts,O,b2):=xo (P:=λi t=>∃f,g.fields[i]?=Y f/\PZ H2 (Mt f) t) ys λi y hy=>by
  let(f,t,e,e',h):=hP i y hy;show{(t),e',f,e,h}
 rw[Ay]at hl;show{l0,D,_,_,O,O,s2 _ _ Az,e2,by rw[Ay];show Gq (by change 1+ts.length<=1000;lia),λm hm=>?_};let s3:=Bd (u:=.lst<|[.ref t0] ++ts.map V.ref) hm;show q m (t0::ts) _ (F.trans s3) Az<|.cons ?_ ?_
 ·let h0:upd (upd H t0<|.tup [.str "form",.str g.nam,.int<|if g.choice then 1 else 0,.int (xs.length:Int)]) l0 (.lst [.ref t0]) t0=Y (.tup [.str "form",.str g.nam,.int<|if g.choice then 1 else 0,.int (xs.length:Int)]):=(Bd a7) _ _ Az
  let h1:=s3 _ _<|s2 _ _ h0;show h1.trans ?_;unfold KL;rw[a6];rfl
 show au (by rw[Ay];lia) λi ps t a5 ht=>?_;rw[AQ]at a5;let(f,hf,O):=Bp.mp a5;let(f',b6,h):=b2 i t ht;obtain rfl:f=f':=AE<|hf.symm.trans b6;show s3 _ _ h
def fW(T:Tx K mg)(hc:KD P w K 906 KN):∅ 9 967 ["book"] eX:=by
 show(T.df 28 O).okA Jz ?_;intro 1 hr h;let(v,xs,kL,gs,b,bb,Ws,O,(a,dx,l,wa,O,ha,hl,_),hp,a2,q):=h;let c3:EO (1+1) _:=hr.mono Aa;show{_,AJ (qS 1 Jz.nd<|Cq Ed)<|AJ (qS 2 Jz.nd RL) (Bk (HM Dn O (OI O T.Jw<|BH (pv 0) O) (Tl O (n:=2)<|CJ (BQ (i:=3) Jz.nd O<|Ci O) (CJ (BQ (i:=4) Jz.nd O<|Ci O) Jp))<|AJ (Ds<|Ej Bg PySem.F.slot_list_extend PySem.F.type_list_extend aB (pv 1) (Cp<|qD (@tM P w K mg base T hc) hr (T.d2 27 O λ_ _ _ _ _ _ _ _=>rfl) (Cy (pv 4)<|pv 2))) (BO<|ce (MD hr) (pv 2) (BH (pv 4) O) (pv 3) O))<|qr (Fh {(T.SZ),T.LP,T.LO,T.SY} (jt T) c3 O T.Pr T.LR .nil DU<|Cp (pv 1))),?_};let b3:gs.length=xs.length:=by have:=hp.length;rw[Ay]at this;show this
 let h4:=a2.l4;let hn:=a2.sp.nms ();show{zl 0,λL hL p a4=>?_};let s0:=(Bd (u:=.lst []) hL).trans<|Bd (u:=.dK []) a4;let a6:p≠L:=λz=>by rw[z,Az]at a4;cases a4
 let b2:H p=none:=(Bd hL).free a4;show CD (λσ' H'=>∃v3 v4 ts,σ'=[Y (.ref a),Y<|.ref L,Y<|.ref p,v3,v4]/\AZ H H'/\H' L=Y (.lst<|IK V.ref ts)/\Paired (PZ H') (Eu gs) ts) ?_ ?_
 ·show{a,_,dx,_,_,O,s0 _ _ ha,T.Vi,T.MU,O,l,O,{_,Cg.of<|s0 _ _ hl},?_};show MF (xs:=xs) (λi σ' H'=>∃v3 v4 ts ws,σ'=[Y (.ref a),Y<|.ref L,Y<|.ref p,v3,v4]/\AZ H H'/\H' L=Y (.lst<|IK V.ref ts)/\Paired (PZ H') (Eu<|gs.take i) ts/\H' p=Y (.dK<|wK ws)/\LH gs J2 i ws) {_,_,[],[],O,s0,by rw[AM a6.symm];show Az,.nil,Az,O,λi hi=>A1Q hi<|QI _} (λi σ' H' _ h=>by let(_,_,_,_,_,s',_):=h;show Cg.of<|s' _ _ hl) (λi x Tt σ' H1 hx h hT=>?_) λσ' H' h=>?_
  ·let(v3,v4,ts,ws,O,s1,D,a1,b1,hA):=h;let(gx,b4,hG):=GO hp i x hx;rw[AQ]at b4;let(g,hg,O):=Bp.mp b4;let hi:=(AO.mp hg).1;let e2:=hn.ok g.nam<|Bb.mpr {g,AN hg,O};let sT:=Bd (u:=.tup [.int i,x]) hT;show{Tt,_,O,Ec.of Az,O,_,_,O,_,_,O,O,?_};let s2:=s1.trans sT;show{.inl {O,_,Cg.of<|sT _ _ D},x,_,gs,g,b,i,_,ws,O,hG.sm<|Sm.of s2,a2.sp.ok i g hg,hA,hn,(),(),{p,O,sT _ _ b1},λl' b0 H3 s3 c7 a5=>?_};let U:=sT.trans s3;let c6: (Eu<|gs.take i).length<=6* (gs.take i).length:=cS λg' c9=>by
    let(j,hj):=CP.mp<|Dz c9;unfold Qt;rw[BJ,Ay];have:=(a2.sp.ok j g' hj).len
    lia
   rw[Cb]at c6;let e1:=a1.length;let e0:=a5.length;let d9: (Qt g).length<=6:=by
    unfold Qt;rw[BJ,Ay];have:=(a2.sp.ok i g hg).len
    lia
   show{L,l',_,_,O,O,U _ _ D,c7,by rw[Ay,Ay];show Gq (),?_};let(ga,d1,zv,fv,gl,O,a8,(O,_),_):=hG.sm<|Sm.of (s2.trans s3);let fc:=QS T g.choice;let c1:ga≠L:=λz=>by rw[z,U _ _ D]at a8;cases a8
   let a7:upd H3 L (.lst<|ts.map V.ref++b0.map V.ref) p=Y (.dK<|wK ws):=by rw[AM a6];show U _ _ b1
   let c4:JU ws g.nam=none:=by
    have:=lF (z:=g.nam) hA λj g2 hj c8 e=>by
     have:j=i:=Xb hn.nd (by rw[AQ,c8];rfl) (by rw[AQ,hg];change Y g.nam=Y g2.nam;rw[e])
     lia
    show Option.not_isSome_iff_eq_none.mp (by rw[show(JU ws g.nam).isSome=ge from this];decide)
   show{ga,_,d1,_,_,O,by rw[AM c1];show a8,fc.cl,fc.n1,O,p,_,O,ky.k (k:=.inr g.nam) a7 ?_,?_};·unfold wK;rw[Ay,hA.len];show CW ()
   rw[ix c4];show{_,_,ts++b0,ws++[(g.nam,(i:Int))],O,((s2.trans s3).put hL).put b2,by rw[AM a6.symm,Az,Bl],?_,Az,hA.more hg<|()};rw[WF gs i hg];show Hc (Paired.mapP a1 λ_ _ z=>((z.sm<|Sm.of U).upd (U _ _ D) λ_ x=>by cases x).upd a7 λ_ x=>by cases x) (Paired.mapP a5 λ_ _ z=>(z.upd (U _ _ D) λ_ x=>by cases x).upd a7 λ_ x=>by cases x)
  rw[<-b3,Dj]at h;let(v3,v4,ts,ws,O,s1,D,a1,_):=h;show{(_),_,ts,O,s1,D,a1}
 rintro σ' H1 ⟨v3,v4,ts,rfl,s1,D,a1⟩;intro x a3 hx d0 c5;let sm:=NM (C:=923) hx d0 c5;show{x,a3,L,_,O,Az,sm _ _ D,λm hm=>{O,?_}};let s2:=Bd (u:=.lst<|ts.map V.ref) hm;let c2:upd (upd (upd H1 a3<|.own x) x<|.ins 923 a3 []) m (.lst<|ts.map V.ref) x=Y (.ins 923 a3 []):=s2 _ _ Az;let b9:m≠x:=λz=>by rw[z,Az]at hm;cases hm
 show q _ _ ?_ {x,a3,m,ts,O,Az,by rw[AM b9];show Az,Paired.mapP a1 λ_ _ z=>((z.sm<|Sm.of (sm.trans s2)).upd c2 λ_ x=>by cases x)};show s1.trans<|((sm.trans s2)).put hx
open PySem.NumText
def nn(h:¬ (!b)=Z):b=true:=by cases b <;> simp at h ⊢
def RX: (BV "-")={#[45]}:=⋯
def Ps: (BV "0")={#[48]}:=⋯
def So(z:AT):decide (V.str z=V.str (BV "0"))=decide (sg z=[48]):=by
 rw[decide_eq_decide];constructor;·intro h;cases h;rw[Ps]
 intro h;show A1P V.str (VW<|by rw[Ps];show h)
def vH(n:Nat)(m:Nat):Mh (.int (n:Int)) 1 (m:Int)=(decide (1<=n) &&decide (n<=m)):=by
 change(decide ((1:Int)<= (n:Int)) &&decide ((n:Int)<= (m:Int)))=_
 grind
def PP(f:AT):Sk (sg f)=((decide (1<=f.length) &&decide (f.length<=80)) &&MC f qJ):=by rfl
def OR(h:Sk (Dc<|sg z)=ge):NY z= .non:=by
 unfold NY NP
 grind
def Uw(h:Sk (Dc<|sg z)=Z)(j: (Dc<|sg z).head?=Y 48)(h1:¬sg z=[48]):NY z= .non:=by
 unfold NY NP
 grind
def ay(h:Sk (Dc<|sg z)=Z)(j:¬ (Dc<|sg z).head?=Y 48\/sg z=[48]):NY z= .int (UG<|sg z):=by
 unfold NY NP
 grind
def gj(e:sg f=Dc (sg z)):f.length<=z.length:=by
 rw[<-Ha,<-Ha,e];unfold Dc;split;·simp
 lia
inductive ZA(vs:List V)(H:Hp)(Q:VK):Prop|mk (z:_) (_:vs=[.str z]) (_:z.length<=1000) (_:∀H',AZ H H'->Q (NY z) H')
def bD:Sp:=λvs H Q _=>ZA vs H Q
def cz(T:Tx K mg):∅ 3 229 ["word"] bD:=by
 show(T.df 5 O).okA RF ?_;intro _ _ _ s H _ Q _ hr h _ _;let(z,O,hz,q):=h;let(_,j):=(T.ui 1 O);let(_,D):=(T.us 1 O);show{_,AJ (qi (Cn<|BA (qB (Bv K O) T.Ba AW<|Cy (pv 0) (RJ T.IU GF)))<|qr DG)<|AJ (qS 1 RF.nd<|E1 (DH (BA<|Ej Cr PySem.F.slot_str_startswith PySem.F.type_str_startswith Qx (pv 0) (Cp AR)) (Gu QP (pv 0) (HH AD) HI)<|pv 0)) (AJ (qi (PW.pt<|EX (Cn<|BA (qD (@DM P w K mg base T) hr T.Dl<|AY (qB Gk T.Ei De<|Cp (pv 1)) (Cy AD<|UN j))) (ET<|Cn (BA<|qD (@Qv P w K mg base T) hr T.Qk (Cy (pv 1)<|o7 D))))<|qr DG)<|AJ (qi (PW.pt<|OG (BA<|Ej Cr PySem.F.slot_str_startswith PySem.F.type_str_startswith Qx (pv 1) (Cp AR)) (Ly<|qc Qu (pv 0) AR))<|qr DG) (qr<|qT Jt T.Kr HQ (Cp<|pv 0))),?_};show{_,.ty "str",_,_,_,O,.str z,O,jC T<|.str z,_,O,?_};show BM {λv H'=>H=H'/\∃f,v= .str f/\sg f=Dc (sg z),?_,?_}
 ·show{O,z,(BV "-"),O,O,_,O,DL (λh=>?_) λh=>?_}
  ·show{1,O,z,O,Gq hz,O,_,O,?_};rw[RX,Ng]at h;rw[Uu];unfold Dc KJ;rw[A1O h]
  show{O,z,O,?_};rw[RX,Ng]at h;unfold Dc KJ;rw[A1N h]
 rintro v H' ⟨rfl,f,rfl,ef⟩;let hf:=AU (gj ef) hz;let non:NY z= .non->∀H',AZ H H'->Q .non H':=λe H' s=>by rw[<-e];show q _ s
 show{f,O,Gq hf,_,.int f.length,_,_,O,O,_,O,DL (λh=>?_) λh=>?_};·rw[show(80:Int)=((80:Nat):Int)from O,vH,Do]at h;show BX (non (OR<|by rw[<-ef,PP,h,BR]) _<|AZ.refl _)
 rw[show(80:Int)=((80:Nat):Int)from O,vH]at h;let h':=nn h;show{f,qJ,O,hf,λH1 s1=>{_,O,DL (λh2=>?_) λh2=>?_}};·show non (OR ?_) _ s1;rw[<-ef,PP,h',BL];simpa using h2
 let hb:Sk (Dc<|sg z)=true:=by rw[<-ef,PP,h',BL];simpa using h2
 let fin:¬ (Dc<|sg z).head?=Y 48\/sg z=[48]->Q (.int<|UG (sg z)) H1:=λU=>by
  rw[<-ay hb U];show q _ s1
 let(i1,i2):=Xv hb;show{O,f,(BV "0"),O,O,_,O,DL (λU=>?_) λU=>?_}
 ·rw[Ps,Ng,ef]at U;show{O,_,O,DL (λh1=>?_) λh1=>?_}
  ·rw[So]at h1;show non (Uw hb (A1M U)<|by simpa using h1) _ s1
  rw[So]at h1;show{z,_,O,i1,i2,fin<|.inr (by simpa using h1)}
 rw[Ps,Ng,ef]at U;show BM {z,_,O,i1,i2,fin<|.inl (by simpa using U)}
def BI(z:AT):Option Int:=if NP (sg z)=Z then Y (UG<|sg z)else S
def jv(z:AT):NY z=match BI z with|some n=>.int n|none=>.non:=by
 unfold NY BI
 grind
def xZ(h:n<=20000):n<=sizeLine:=by rw[Ht];lia
def PH(z y:AT)(h:z.length<=8000): (Re z (Ep z y 0 z.length<|z.length+1) y.length).length<=20000:=by
 rw[length_partsBetween];have:=StrLaws.occ_length_le z y 0 z.length<|z.length+1
 lia
def Te(z y:AT)(h:z.length<=8000): (Ca z y).length<=20000:=by
 unfold Ca;split;·simp
 split;·simp
 show PH z y h
def MG(ys:List AT): (ys.map V.str).all Qz=true:=by rw[Bz];intro x j;let(y,_,O):=Bb.mp j;rfl
def Se(z:AT)(ys:List AT):jH (.str z) (ys.map V.str)=decide (z∈ys):=by
 by_cases h:z∈ys;·rw[A1K h];unfold jH;rw[List.any_eq_true];show{.str z,Bb.mpr {(z),h,O},beq_iff_eq.mpr O}
 rw[A1L h];unfold jH;rw[List.any_eq_false];intro x D e;let(y,j,O):=Bb.mp D;show h (by rw[<- (eq_of_beq<|show(y==z)=Z from e)];show j)
inductive Ln where
 |txt (z:AT)|thing (d:Dt)
def dm(H:Hp):Ln->V->Prop|.txt z,v=>v= .str z/\z.length<=8000|.thing d,v=>Th H d v/\jE d=ge
def Jb(z:AT):Option (List AT):=if ("" :AT)∈Ca z " " then S else Y (Ca z " ")
def Ka:Ln->Option (List AT)|.txt z=>Jb z|.thing _=>S
def zy(H:Hp)(Q:VK):Option (List AT)->Prop|none=>∀H',AZ H H'->Q .non H'|some ys=>rh H Q<|ys.map V.str
inductive dq(vs:List V)(H:Hp)(Q:VK):Prop|mk (v l:_) (_:vs=[v]) (_:dm H l v) (_:zy H Q (Ka l))
def eP:Sp:=λvs H Q _=>dq vs H Q
def fQ(T:Tx K mg):∅ 1 236 ["line"] eP:=by
 show(T.df 6 O).okA Uv ?_;intro 1 hr h;let(v,l,O,hl,q):=h;show{_,AJ (qi (Cn<|BA (qB (Bv K O) T.Ba AW<|Cy (pv 0) (RJ T.IU GF)))<|qr DG)<|AJ (qS 1 Uv.nd<|Ej Cr Qc Qb Xf (pv 0) (Cp AR)) (AJ (qi (Jo Jf AR (pv 1) O)<|qr DG)<|qr (pv 1)),?_};cases l with
 |thing d=>
  let(hd,hs):=hl;show{v,.ty "str",_,_,_,O,hd.ty,O,jC T d,_,O,?_};rw[hs];show BX<|q _ (AZ.refl _)
 |txt z=>
  let(O,U):=hl;show{_,.ty "str",_,_,_,O,.str z,O,jC T<|.str z,_,O,BM {O,z," ",O,O,Ab,xZ (),xZ<|Te z " " U,xZ<|PH z " " U,λp D=>?_}};let j:zy H Q (Jb z):=q;unfold Jb at j;show{p,_,O,.inl<|Cg.of Az,O,MG _,_,O,?_};rw[Se];by_cases h: ("" :AT)∈Ca z " ";·rw[A1O h]at j;rw[A1K h];show BX<|j _ (Bd D)
  rw[A1N h]at j;rw[A1L h];show BM<|j p _ D (Bd D) Az
def Cz(z:AT):Pt:=if z="-" then .s "" else match BI z with
 |some n=>.n n|none=>.s z
def vg:∀(n:Nat) (j:List Nat),j.length=n->PySem.NumText.AllDigits j->PySem.NumText.digitsVal j<10 ^ n
 |0,j,D,_=>by rw[IW.mp D];decide
 |n+1,j,D,h=>by
  let z:j≠[]:=λe=>by rw[e]at D;cases D
  let e:=List.dropLast_concat_getLast z;let h1:=vg n j.dropLast (by rw[List.length_dropLast,D];rfl) λd hd=>h d<|List.dropLast_subset j hd;let h2:=h _<|List.getLast_mem z;rw[<-e,PySem.NumText.digitsVal_snoc,Nat.pow_succ]
  lia
def E9(h:BI z=Y n):n.natAbs<10 ^ 80:=by
 unfold BI at h;split at h;·rename_i j;obtain rfl:=AE h;let(h1,_,h3):=JC<|TC j;have:PySem.NumText.digitsVal (Dc<|sg z) <10 ^ 80:=BK (vg _ _ O h1)<|Nat.pow_le_pow_right Aa h3;unfold UG;split <;> lia
 cases h
def D3(h:z.length<=1000)(hs:BW z=Z): (Cz z).ok:=by
 unfold Cz;split;·show(by decide+kernel: ("" :AT).length<=1000/\BW ""=Z)
 cases e:BI z with|none=>show{(h),hs}|some n=>show E9 e
def GL(l:Ln):List Pt:=((Ka l).getD []).map Cz
inductive hX(vs:List V)(H:Hp)(Q:VK):Prop|mk (z:AT) (_:vs=[.str z]) (_:z.length<=1000) (_:∀H',AZ H H'->Q (JA<|Cz z) H')
def iJ:Sp:=λvs H Q _=>hX vs H Q
inductive ke(vs:List V)(H:Hp)(Q:VK):Prop|mk (v:V) (l:Ln) (_:vs=[v]) (_:dm H l v) (_:∀ys,Ka l=some ys->ys.length<=1000/\∀y∈ys,y.length<=1000) (_:∀t H',AZ H H'->PZ H' (GL l) t->Q (.ref t) H')
def nw:Sp:=λvs H Q _=>ke vs H Q
def yQ(ws:List (AT×Int))(i:Int):AT:=((ws[i.toNat]?).map (·.1)).getD ""
def EB(ws:List (AT×Int)):Pt->Pt->Option Kx
 |.n i,q=>if i=3 then Y (.upto<|GM q)else if i=4 then Y (.text<|GM q)else if i=5 then (match q with|.n j=>if 0<=j/\j<= (ws.length:Int) - 1 then Y (.form<|.str (yQ ws j))else S|.s _=>S)
  else if i=0 then Y .truth else if i=1 then Y .count else if i=2 then Y .whole else S
 |.s _,_=>S
def KI(ws:List (AT×Int)):Pt->Pt->Option Kx|.n i,q=>if 10<=i/\i<=15 then Y (.list<|(EB ws (.n<|i - 10) q).getD (.thing .non))else EB ws (.n i) q|.s z,q=>EB ws (.s z) q
def NZ:Kx->Pt->Dt|.truth,.n i=>.bl<|decide (i=1)|.truth,.s _=>.bl ge|.list _,_=>.non|.form _,_=>.non|_,p=>GM p
def N7(H:Hp):Option Kx->V->Prop|none,v=>v= .non|some k,v=>Qa H k v
def Kx.made:Kx->Prop|.list k=>k= .thing .non\/k.flat=Z/\k.isK=Z/\k≠ .bare|.bare=>False|.thing _=>False|_=>True
def QM(h:EB ws p q=Y k):k.flat=Z/\k.isK=Z/\k≠ .bare:=by unfold EB at h;split at h <;> grind [Kx.flat,Kx.isK]
def oY(h:KI ws p q=Y k):k.made:=by
 let fl:∀{k:Kx},k.flat=Z/\k.isK=Z/\k≠ .bare->k.made:=λ{k} h=>by
  cases k with|list k=>cases h.1|bare=>show A1Q O h.2.2|thing d=>cases h.2.1|_=>trivial
 cases p with
 |s z=>cases h
 |n i=>
  let h': (if 10<=i/\i<=15 then Y (Kx.list<|(EB ws (.n<|i - 10) q).getD (.thing .non))else EB ws (.n i) q)=Y k:=h
  split at h'
  ·obtain rfl:=AE h';cases e:EB ws (.n<|i - 10) q with|none=>show .inl O|some k=>show .inr<|QM e
  show fl<|QM h'
def Xl{k:Kx}(h:k.made):k.may:=by
 cases k with
 |list k=>
  rcases h with rfl|⟨h1,h2,_⟩;·show .inl O
  cases k <;> first|trivial|cases h1|cases h2
 |bare=>show h.elim|thing d=>show h.elim|_=>trivial
def A07: ((["word"]:List AT) ++ ([]:List AT)).Nodup:=⋯
def jm(T:Tx K mg):∅ 4 1009 ["word"] iJ:=by
 let(_,D):=T.kA;show(T.df 34 O).okA Wl ?_;intro 1 hr h;let(z,O,F,q):=h;show{_,AJ (qi (qc CU (pv 0)<|o7 D)<|qr AR)<|AJ (qS 1 Wl.nd<|qD (@cz P w K mg base T) hr (T.d1 5 O λ_ _ _ _ _ _ _=>rfl) (Cp<|pv 0)) (qr<|DH (qc OK (pv 1) DG) (pv 0) (pv 1)),?_};unfold Cz at q;show{O,_,O,DL (λh=>?_) λh=>?_};·rw[A1O (V.str.inj<|A1M h)]at q;show q _<|AZ.refl _
 rw[A1N λe=>h<|A1K (A1P V.str e)]at q;show{z,O,F,λH1 s1=>?_};let j:=q H1 s1;rw[jv];cases hN:BI z with
 |none=>
  rw[hN]at j;show{O,_,O,Nt O j}
 |some n=>
  rw[hN]at j;show{O,_,O,FM (λz=>by cases z) j}
def ow(T:Tx K mg):∅ 5 1085 ["line"] nw:=by
 show(T.df 37 O).okA ae ?_;intro 1 hr h;let(v,l,O,hl,hw,q):=h;show{_,AJ (qS 1 ae.nd<|qD (@fQ P w K mg base T) hr (T.d1 6 O λ_ _ _ _ _ _ _=>rfl) (Cp<|pv 0))<|qr (DH (qc OK (pv 1) DG) (DC Ed)<|qT QA T.Rg Pe (Cp<|Yv ["word"] [] [] .nil (DS<|pv 1) (λC s_ H_ fp=>BQ (i:=0) A07 O (Ci O)<|DN O) (λC s_ H_ fp=>qD (@jm P w K mg base T) hr (T.d1 34 O λ_ _ _ _ _ _ _=>rfl)<|Cp (pv 0)))),?_};show{v,l,O,hl,?_};unfold GL at q;cases hW:Ka l with
 |none=>
  rw[hW]at q;show λH1 s1=>{O,_,O,Nt O {zl 0,λt F=>q t _ (s1.trans<|Bd F) Az}}
 |some ys=>
  rw[hW]at q;let(h1,h2):=hw ys hW;show λp H1 hp s1 e1=>{O,_,O,FM (λz=>by cases z) {p,O,{_,Cg.of e1},MI (l:=ys) (Wk.list<|Cg.of e1) (Ay ..).symm (by rw[Ay];show h1) (λy=>JA<|Cz y) (λj y x U hx H2 R s2 hR=>?_) λD H2 hD s2 e2=>{D,_,O,.inl {Cg.of e2,λt F=>q t _ (s1.trans<|s2.trans (Bd F)) ?_}}}};·rw[AQ,U]at hx;cases hx;show{Sub.set O,y,O,h2 y<|AN U,hR}
  change upd _ t _ t=Y (.tup<|(ys.map Cz).map JA);rw[Az,Br];rfl
def Lw(p:Pt)(c:Int):sK (JA p) (.int c)=true:=by cases p <;> rfl
def nY(h:decide (JA p= .int c)=Z):p= .n c:=by cases p with|n i=>rw[V.int.inj (A1M h)]|s z=>cases A1M h
def aj(h:¬decide (JA p= .int c)=Z):p≠ .n c:=λe=>h (by rw[e];show A1K O)
def VS(h3:p≠ .n 3)(D:p≠ .n 4)(j:p≠ .n 5)(F:p≠ .n 0)(h1:p≠ .n 1)(h2:p≠ .n 2):EB ws p q=none:=by
 cases p with
 |s z=>rfl
 |n i=>
  unfold EB
  dsimp only
  rw[A1N (λe=>h3<|by rw[e]),A1N (λe=>D<|by rw[e]),A1N (λe=>j<|by rw[e]),A1N (λe=>F<|by rw[e]),A1N (λe=>h1<|by rw[e]),A1N (λe=>h2<|by rw[e])]
inductive qa(vs:List V)(H:Hp)(Q:VK):Prop|mk (p q:Pt) (wv:V) (ws:List (AT×Int)) (_:vs=[JA p,JA q,wv]) (_:p.ok) (_:q.ok) (_:WD H ws wv) (_:∀x∈ws,x.1.length<=1000) (_:ws.length<=1000) (_:∀u H',AZ H H'->N7 H' (EB ws p q) u->Q u H')
def rN:Sp:=λvs H Q _=>qa vs H Q
inductive ia(vs:List V)(H:Hp)(Q:VK):Prop|mk (p q:Pt) (wv:V) (ws:List (AT×Int)) (_:vs=[JA p,JA q,wv]) (_:p.ok) (_:q.ok) (_:WD H ws wv) (_:∀x∈ws,x.1.length<=1000) (_:ws.length<=1000) (_:∀u H',AZ H H'->N7 H' (KI ws p q) u->Q u H')
def iL:Sp:=λvs H Q _=>ia vs H Q
inductive qe(vs:List V)(H:Hp)(Q:VK):Prop|mk (v:V) (k:Kx) (p:Pt) (_:vs=[v,JA p]) (_:p.ok) (_:Qa H k v) (_:k.made) (_:∀u,Th H (NZ k p) u->Fl H u->Q u H)
def rR:Sp:=λvs H Q _=>qe vs H Q
def Xy(ws:List (AT×Int)):List Pt->Option Fx|[_,p1,p2,p3,p4,p5,p6]=>(KI ws p3 p4).map λk=>{GM p1,GM p2,k,.bl<|decide (JA p5= .int 1),LW k<|NZ k p6}|_=>S
def FxO(H0 H:Hp):Option Fx->V->Prop|none,v=>v= .non|some f,v=>ZC H0 H f v/\f.kind.made
inductive vV(vs:List V)(H:Hp)(Q:VK):Prop|mk (t:AH) (ps:List Pt) (wv:V) (ws:List (AT×Int)) (_:vs=[.ref t,wv]) (_:PZ H ps t) (_:ps.length=7) (_:∀p∈ps,p.ok) (_:WD H ws wv) (_:∀x∈ws,x.1.length<=1000) (_:ws.length<=1000) (_:∀u H',AZ H H'->FxO H H' (Xy ws ps) u->Q u H')
def wU:Sp:=λvs H Q _=>vV vs H Q
def tO(T:Tx K mg)(hc:KD P w K 906 KN):∅ 3 974 Ai rN:=by
 show(T.df 29 O).okA YL ?_;intro 1 hr h;let(p,q,wv,ws,O,b0,hq,(wa,O,hw),hz,a9,U):=h;let a3:EO (1+1) _:=hr.mono Aa;show{_,AJ (qi (qc CU (pv 0)<|Np hc (My<|T.g _ _ T.Lu) AR (λ_ _=>rfl))<|qr (Fh {(T.kE),T.Uk,T.Ug,T.kB} (RP T) a3 O T.Vh T.Uq .nil DU<|Cp (pv 1)))<|AJ (qi (qc CU (pv 0)<|Np hc (My<|T.g _ _ T.Lu) AR (λ_ _=>rfl))<|qr (Fh {(T.kF),T.Ul,T.Uh,T.kC} (RQ T) a3 O T.Rm (Sx T) .nil DU<|Cp (pv 1))) (AJ (qi (qc CU (pv 0)<|Np hc (My<|T.g _ _ T.Lu) AR (λ_ _=>rfl))<|qr (DH (BA<|qD (@DM P w K mg base T) hr T.Dl (AY (pv 1)<|Cy AD (Bt Gi (qB Pc T.Ei De<|Cp (pv 2)) AD))) (Fh {(T.ZN),T.Qi,T.Qh,T.ZM} (OP T) a3 O T.Kk T.Qn .nil DU<|Cp (KE (qT (XO O) T.FO EJ<|Cp (pv 2))<|pv 1)) DG))<|AJ (qi (qc CU (pv 0)<|Np hc (My<|T.g _ _ T.Lu) AR (λ_ _=>rfl))<|qr (Mw T.dR T.Rp T.dO O T.Om)) (AJ (qi (qc CU (pv 0)<|Np hc (My<|T.g _ _ T.Lu) AR (λ_ _=>rfl))<|qr (Mw T.dS T.Rq T.dP O T.VG))<|AJ (qi (qc CU (pv 0)<|Np hc (My<|T.g _ _ T.Lu) AR (λ_ _=>rfl))<|qr (Mw T.dQ T.Ro T.dN O T.VF)) (qr DG))),?_};show{O,.inr "upto",_,O,(by kernel_rfl:IQ KN (.inr "upto")=Y (.int 3)),Lw p 3,_,O,DL (λh=>?_) λh3=>?_};·obtain rfl:=nY h;show λx dx hx F D=>{x,dx,_,O,Az,O,U _ _ (Ux hx F D) {(x),dx,_,O,Az,hq.th}}
 show{O,.inr "text",_,O,(by kernel_rfl:IQ KN (.inr "text")=Y (.int 4)),Lw p 4,_,O,DL (λh=>?_) λh4=>?_};·obtain rfl:=nY h;show λx dx hx F D=>{x,dx,_,O,Az,O,U _ _ (Ux hx F D) {(x),dx,_,O,Az,hq.th}}
 show{O,.inr "form",_,O,(by kernel_rfl:IQ KN (.inr "form")=Y (.int 5)),Lw p 5,_,O,DL (λh=>?_) λh5=>?_}
 ·obtain rfl:=nY h;show{wa,_,O,hw,_,GM q,_,_,O,hq.th,_,O,?_};let el: (wK ws).length=ws.length:=Ay ..;cases q with
  |s z=>show BM<|U _ _ (AZ.refl _) O
  |n j=>
   let e:EB ws (.n 5) (.n j)=if 0<=j/\j<= (ws.length:Int) - 1 then Y (.form<|.str (yQ ws j))else none:=rfl
   rw[e]at U;change(if (decide (0<=j) &&decide (j<= ((wK ws).length:Int) - 1))=Z then _ else _)
   rw[el];by_cases hj:0<=j/\j<= (ws.length:Int) - 1
   ·rw[A1O hj]at U;rw[A1K hj.1,A1K hj.2];let a2:j.toNat<ws.length:=()
    let ea:yQ ws j=(ws[j.toNat]'a2).1:=by unfold yQ;rw[AI a2];rfl
    show BX {wa,_,O,.inl hw,λl hl=>{l,_,_,.str<|yQ ws j,O,O,Cg.of Az,?_,λx dx hx F D=>{x,dx,_,O,Az,O,U _ _ ((Bd hl).trans<|Ux hx F D) {x,dx,_,O,Az,O,?_}}}};·rw[show j=((j.toNat:Nat):Int)by lia];show CN ?_;unfold wK;rw[Br,AQ,AI a2,<-show j=((j.toNat:Nat):Int)by lia,ea];rfl
    rw[ea];show hz _<|HW a2
   rw[A1N hj]at U;have: (decide (0<=j) &&decide (j<= (ws.length:Int) - 1))=false:=by
    rcases Ys.mp hj with h|h;·rw[A1L h];rfl
    rw[A1L h,Dg]
   rw[this];show BM<|U _ _ (AZ.refl _) O
 show{O,.inr "truth",_,O,(by kernel_rfl:IQ KN (.inr "truth")=Y (.int 0)),Lw p 0,_,O,DL (λh=>?_) λh0=>?_};·obtain rfl:=nY h;show λx dx hx F D=>U _ _ (NM hx F D) {(x),dx,O,Az}
 show{O,.inr "count",_,O,(by kernel_rfl:IQ KN (.inr "count")=Y (.int 1)),Lw p 1,_,O,DL (λh=>?_) λh1=>?_};·obtain rfl:=nY h;show λx dx hx F D=>U _ _ (NM hx F D) {(x),dx,O,Az}
 show{O,.inr "whole",_,O,(by kernel_rfl:IQ KN (.inr "whole")=Y (.int 2)),Lw p 2,_,O,DL (λh=>?_) λh2=>?_};·obtain rfl:=nY h;show λx dx hx F D=>U _ _ (NM hx F D) {(x),dx,O,Az}
 show U _ _ (AZ.refl _) ?_;rw[VS (aj h3) (aj h4) (aj h5) (aj h0) (aj h1) (aj h2)];rfl
def jp(T:Tx K mg)(hc:KD P w K 906 KN):∅ 4 981 Ai iL:=by
 let(_,F):=T.Ue;let G:=@tO P w K mg base T hc;show(T.df 30 O).okA iW ?_;intro 1 hr h;let(p,q,wv,ws,O,j,hq,hw,hz,D,U):=h;let a3:EO (1+1) _:=hr.mono Aa;show{_,AJ (qi (Cn<|BA (qD (@DM P w K mg base T) hr T.Dl<|AY (pv 0) (Cy (UN F)<|Bt Gi (Bt DV (UN F)<|qB (pO hc Aa) T.Ei De (Cp<|My (T.g _ _ T.Lu))) AD)))<|qr (qD G hr T.Qj<|AY (pv 0) (Cy (pv 1)<|pv 2)))<|qr (Fh {(T.kG),T.Um,T.Ui,T.kD} (RS T) a3 O T.Rn T.Ur .nil DU<|Cp (qD G hr T.Qj<|AY (Bt Gi (pv 0)<|UN F) (Cy (pv 1)<|pv 2))),?_};show{O,_,GM p,_,_,O,?_,_,O,?_};·show j.th
 let e6: ((10:Int) + (KN.length:Int) - 1)=15:=by decide
 change(if (!Mh (GM p) 10 ((10:Int) + (KN.length:Int) - 1))=Z then _ else _)
 rw[e6];cases p with
 |s z=>show BX {.s z,q,wv,ws,O,j,hq,hw,hz,D,U}
 |n i=>
  let e:KI ws (.n i) q=if 10<=i/\i<=15 then Y (.list<|(EB ws (.n<|i - 10) q).getD (.thing .non))else EB ws (.n i) q:=rfl
  rw[e]at U;change(if (!(decide (10<=i) &&decide (i<=15)))=Z then _ else _)
  by_cases hi:10<=i/\i<=15
  ·rw[A1O hi]at U;rw[A1K hi.1,A1K hi.2];show BM {.n<|i - 10,q,wv,ws,O,(by change(i - 10).natAbs<10 ^ 80;have: (i.natAbs:Nat) <10 ^ 80:=j;lia),hq,hw,hz,D,λu H1 s1 hu x dx hx a6 a5=>{x,dx,_,O,Az,O,?_}};let s2:=Ux (C:=576) (fs:=[("item",u)]) hx a6 a5;show U _ _ (s1.trans s2) {x,dx,u,O,Az,?_};cases e':EB ws (.n<|i - 10) q with|none=>rw[e']at hu;show hu|some k=>rw[e']at hu;show Qa.sm (Sm.of s2) hu
  rw[A1N hi]at U;have: (decide (10<=i) &&decide (i<=15))=false:=by
   rcases Ys.mp hi with h|h;·rw[A1L h];rfl
   rw[A1L h,Dg]
  rw[this];show BX {.n i,q,wv,ws,O,j,hq,hw,hz,D,U}
def yI(T:Tx K mg)(j:k.made):JR P w K mg base 1 "is_plain" k.cls (eY<|.bl (HN k)):=by cases k with|truth=>show{T.Ow,_,_,_,T.Lp,Db T,T.Dp}|count=>show{T.Oy,_,_,_,T.Lq,Db T,T.Dp}|whole=>show{T.Ov,_,_,_,T.Lo,Db T,T.Dp}|upto n=>show{T.JY,_,_,_,T.Mj,Db T,T.Dp}|text n=>show{T.JZ,_,_,_,T.Ml,Db T,T.Dp}|form z=>show{T.GD,_,_,_,T.Kv,KG T,T.Lr}|list k=>show{T.Jl,_,_,_,T.Mm,MA T,T.NE}|bare=>show j.elim|thing d=>show j.elim
def tR(T:Tx K mg):∅ 2 988 ["kind","part"] rR:=by
 show(T.df 31 O).okA Wj ?_;intro 1 hr h;let(v,k,p,O,hp,hx,j,q):=h;show{_,AJ (qi (BA<|qB (Bv K O) T.Ba AW (Cy (pv 0)<|My T.Om))<|qr (Da CU (pv 1) AD<|DW _))<|qr (DH (BA<|FQ (P:=P) (w:=w) (K:=K) (mg:=mg) (base:=base) (k:=1) O O O O O (pv 0) (hr.mono Aa) DU) (pv 1) DG),?_};have(t,ty,k0,k1,k2,k3,k4,k5,k6,k7):=UR T (Xl j) hx;let hK:k.isK=true:=by cases k with|bare=>show j.elim|thing d=>show j.elim|_=>rfl
 let fl:∀{u:V},(∀m,u≠ .ref m)->Fl H u:=λh m e=>A1Q e<|h m;let U:Fl H (JA p):=fl (by cases p <;> intro m z <;> cases z);show{v,.ref 344,_,_,_,O,ty,O,k1,_,O,?_};by_cases hn:k= .truth
 ·obtain rfl:k= .truth:=hn;show BX {Lw p 1,q _ ?_<|fl λm z=>by cases z};cases p with
  |n i=>
   change V.bl _=V.bl _;congr 1;show decide_eq_decide.mpr {V.int.inj,A1P V.int}
  |s z=>rfl
 rw[show k.isOf 1=ge by cases k <;> first|rfl|show A1Q rfl hn]
 let(ka,kx,fs,O,D,F):=hx.ins hK;show BM {ka,_,kx,fs,_,O,D,F _ Aa Aa Aa,yI T j,_,O,_,O,?_};cases k with|truth=>show A1Q O hn|list k=>show BM (q _ O<|fl λm z=>by cases z)|form d=>show BM (q _ O<|fl λm z=>by cases z)|bare=>show j.elim|thing d=>show j.elim|_=>show BX<|q _ hp.th U
def xM(T:Tx K mg)(hc:KD P w K 906 KN):∅ 5 995 ["row","places"] wU:=by
 show(T.df 32 O).okA NH ?_;intro 1 hr h;let(t,ps,wv,ws,O,ht,hl,hp,hw,hz,a2,q):=h;let a3:EO (3+1) _:=hr.mono Aa;show{_,Bk (qS 2 NH.nd<|qD (@jp P w K mg base T hc) hr (T.d3 30 O λ_ _ _ _ _ _ _ _ _=>rfl) (AY (LU (pv 0) AD)<|Cy (LU (pv 0) AD) (pv 1)))<|AJ (qi (qc OK (pv 2) DG)<|qr DG) (qr<|Fh {(T.VE),T.MZ,T.MY,T.VD} (LY T) a3 O T.On (QD T) .nil DU (AY (LU (pv 0) AD)<|AY (LU (pv 0) AD) (AY (pv 2)<|Cy (Da CU (LU (pv 0) AD) AD<|DW _) (qD (@tR P w K mg base T) hr (T.d2 31 O λ_ _ _ _ _ _ _ _=>rfl)<|Cy (pv 2) (LU (pv 0) AD))))),?_}
 match ps,hl with
 |[p0,p1,p2,p3,p4,p5,p6],_=>
  let hh:∀p∈ [p0,p1,p2,p3,p4,p5,p6],p.ok:=hp;simp only[Bf,Cm,or_false,forall_eq_or_imp,forall_eq]at hh;let(_,o1,o2,o3,o4,o5,o6):=hh;let ta:∀{H':Hp} (i:Nat) v,AZ H H'->([p0,p1,p2,p3,p4,p5,p6].map JA)[i]?=Y v->∃xs,Ec K H' t xs/\TN xs (i:Int)=Y v:=λi v s e=>{_,Ec.of<|s _ _ ht,CN e};show CD (λσ' H'=>∃u,σ'=[Y (.ref t),Y wv,Y u]/\AZ H H'/\N7 H' (KI ws p3 p4) u) {t,_,3,_,O,O,Ec.of ht,CN (j:=3) O,t,_,4,_,O,O,Ec.of ht,CN (j:=4) O,p3,p4,wv,ws,O,o3,o4,hw,hz,a2,λu H' s' D=>{(u),O,s',D}} ?_;rintro σ' H1 ⟨u,rfl,s1,D⟩;let U:∀u H',AZ H H'->FxO H H' ((KI ws p3 p4).map λk=>⟨GM p1,GM p2,k,.bl<|decide (JA p5= .int 1),LW k<|NZ k p6⟩) u->Q u H':=q;cases hk:KI ws p3 p4 with
  |none=>
   rw[hk]at D U;obtain rfl:u= .non:=D;show{O,_,O,Nt O<|U _ _ s1 O}
  |some k=>
   rw[hk]at D U;let hm:=oY hk;let D:Qa H1 k u:=D;let F:=s1 _ _ ht;let(ka,kx,fs,O,b7,_):=D.ins (by
    cases k with|bare=>show hm.elim|thing d=>show hm.elim|_=>rfl)
   show{O,_,O,FM (λz=>by cases z) {t,_,1,_,O,O,Ec.of F,CN (j:=1) O,t,_,2,_,O,O,Ec.of F,CN (j:=2) O,t,_,5,_,O,O,Ec.of F,CN (j:=5) O,Lw p5 1,t,_,6,_,O,O,Ec.of F,CN (j:=6) O,_,k,p6,O,o6,D,hm,λd hd _ x dx hx a6 a4=>?_}};show QR (f:={GM p1,GM p2,k,.bl<|decide (JA p5= .int 1),LW k<|NZ k p6}) (d:=NZ k p6) hx a6 a4 (Xl hm) o1.th o2.th D O hd O λv H' s' hF=>U v H' (s1.trans s') {hF.back s1,hm}
structure Dr where
 nam:AT
 ch:Bool
 fs:List Fx
structure TD where
 rows:List (List Pt)
 ws:List (AT×Int)
 dr:Option Dr
 lack:Int
def drF(z:AT)(c:Bool)(fl gl:AH):List (AT×V):=[("choice",.bl c),("name",.str z),("fields",.ref fl),("gone",.ref gl)]
def O3(R W:AH)(dv:V)(n:Int):List (AT×V):=[("rows",.ref R),("places",.ref W),("draft",dv),("lacking",.int n)]
def Zr:HO->Bool|.lst _=>Z|.dK _=>Z|.ins C _ _=>C==1076||C==901|_=>ge
inductive wm(H:Hp)(M:List AH)(R:AH):Option Dr->V->Prop|no:wm H M R none .non|yes (d:Dr) (b bx F G:AH) (ys:List V) (_:b∈M) (_:F∈M) (_:F≠R) (_:H b=some (.ins 901 bx<|drF d.nam d.ch F G)) (_:H F=some (.lst ys)) (_:Paired (λf v=>Vw (rm M H) f v) d.fs ys):wm H M R (Y d) (.ref b)
structure TQ(H0:Hp)(a:AH)(M:List AH)(s:TD)(dx R W:AH)(ts:List AH)(dv:V)(H:Hp):Prop where
 sa:AZ H0 H
 m:∀x∈M,H0 x=S/\∃o,H x=Y o/\Zr o=Z
 aM:a∈M
 RM:R∈M
 WM:W∈M
 ha:H a=Y (.ins 1076 dx<|O3 R W dv s.lack)
 hR:H R=Y (.lst<|ts.map V.ref)
 pr:Paired (PZ H) s.rows ts
 hW:H W=Y (.dK<|wK s.ws)
 hd:wm H M R s.dr dv
def Td(H0:Hp)(a:AH)(s:TD)(H:Hp):Prop:=∃M dx R W ts dv,TQ H0 a M s dx R W ts dv H
def Vw.sm'(s:AZ H H')(h:Vw H f v):Vw H' f v:=Vx.sm (Sm.of s) (e:=.fld f) h
def wm.go(h:wm H M R o dv)(s:AZ H H'):wm H' M R o dv:=by cases h with|no=>show .no|yes d b bx F G ys h1 h2 h3 U D j=>show .yes d b bx F G ys h1 h2 h3 (s _ _ U) (s _ _ D)<|Paired.mapP j λ_ _ z=>z.sm'<|Ke s
def TQ.go(h:TQ H0 a M s dx R W ts dv H)(t:AZ H H'):TQ H0 a M s dx R W ts dv H':={h.sa.trans t,λx j=>{(h.m x j).1,let ⟨o,e,n⟩:=(h.m x j).2;{o,t _ _ e,n}},h.aM,h.RM,h.WM,t _ _ h.ha,t _ _ h.hR,Paired.mapP h.pr λ_ _ z=>t _ _ z,t _ _ h.hW,h.hd.go t}
def Ix{x:AH}{u:HO}(h:PZ H ps t)(j:∃o,H x=Y o/\Zr o=Z):PZ (upd H x u) ps t:=by let(o,e,n):=j;show h.upd e λxs z=>by rw[z]at n;cases n
def JP(d:Dr):Int:=match d.fs.getLast? with
 |some f=>uE f.num+1|none=>1
def Xj(ws:List (AT×Int))(d:Dr)(f:Fx):Bool:=Mh f.num (JP d) 200&& (DJ f.nam&& (!decide (JL f.nam∈d.fs.map λg=>JL g.nam) && (Ek ws f.kind&&NQ f d.ch)))
deriving instance DecidableEq for Pt
structure m8(d:Dr):Prop where
 nam:∀f∈d.fs,∃z,f.nam= .str z
 num:∀f∈d.fs,∃i,f.num= .int i
 len:d.fs.length<=100
inductive zd(vs:List V)(H:Hp)(Q:VK):Prop|mk (H0:Hp) (a:AH) (M:List AH) (s:TD) (dx R W:AH) (ts:List AH) (dv v:V) (d:Dr) (f:Fx) (_:vs=[.ref a,v]) (_:TQ H0 a M s dx R W ts dv H) (_:s.dr=some d) (_:m8 d) (_:Vw H f v) (_:f.kind.may) (_:∀H',AZ H H'->Q (.bl<|Xj s.ws d f) H')
def C3:Sp:=λvs H Q _=>zd vs H Q
def tr{D z:Type}{R:D->z->Prop}:∀{l:List D} {m:List z},Paired R l m->∀(i:Nat) x y,l[i]?=Y x->m[i]?=Y y->R x y|_,_,.nil,i,x,y,e,_=>by simp at e|_,_,.cons h t,0,x,y,e,j=>by simp at e j;rw[<-e,<-j];show h|_,_,.cons h t,i+1,x,y,e,j=>tr t i x y (by simpa using e) (by simpa using j)
def U1: ((["one"]:List AT) ++ ([]:List AT)).Nodup:=⋯
inductive qE(vs:List V)(H:Hp)(Q:VK):Prop|mk (x dx c z:_) (_:vs=[.ref x,.bl c,.str z]) (_:H x=some (.ins 901 dx [])) (_:∀fl gl H',fl≠gl->H fl=none->H gl=none->zo x H H'->H' x=some (.ins 901 dx<|drF z c fl gl)->H' fl=some (.lst [])->H' gl=some (.lst [])->Q .non H')
def ss:Sp:=λvs H Q _=>qE vs H Q
def Zo(T:Tx K mg):∅ 1 877 ["self","choice","name"] ss:=by
 show(T.mf 32 O).okA Za ?_;intro 1 hr h;let(x,dx,c,z,O,hx,q):=h;show{_,AJ (EC (pv 0) (pv 1) O)<|AJ (EC (pv 0) (pv 2) O) (AJ (EC (pv 0) (Cq Ed) O)<|BO (EC (pv 0) (Cq Ed) O)),?_};show{x,_,dx,_,O,hx,T.Iq,T.Ku,Aa,?_};show{x,_,dx,_,O,Az,T.Iq,T.Rk,by change 1<1000;decide,?_};rw[Pu];show{zl 0,λfl D=>?_};let U:x≠fl:=λe=>by rw[<-e,Az]at D;cases D
 rw[AM (CL U)]at D;show{x,_,dx,_,O,by rw[AM U];show Az,T.Iq,T.Kt,by change 2<1000;decide,?_};show{zl 0,λgl j=>?_};let F:x≠gl:=λe=>by rw[<-e,Az]at j;cases j
 rw[AM (CL F)]at j;let fg:fl≠gl:=λe=>by rw[<-e,Az]at j;cases j
 rw[AM (CL fg),AM<|CL F]at j;show{x,_,dx,_,O,by rw[AM F];show Az,T.Iq,(T.fo 23 O),by change 3<1000;decide,?_};show q fl gl _ fg D j (λb o hb e=>?_) Az ?_ ?_;·rw[AM hb,AM<|BB e j,AM hb,AM<|BB e D,AM hb];show e
 ·rw[AM (CL U),AM fg,AM<|CL U,Az]
 rw[AM (CL F),Az]
def E6(T:Tx K mg):∅ 7 1066 ["self","field"] C3:=by
 let(_,c7):=T.JT;show(T.mf 39 O).okA FL ?_;intro 1 hr h;let(H0,a,M,s,dx,R,W,ts,dv,v,d,f,O,hT,b9,hok,hF,hm,q):=h;show{_,AJ (qS 2 FL.nd<|BH (BH (pv 0) O) O)<|Bk (qS 3 FL.nd<|DH (qc CU (qB Cd T.Ei De<|Cp (pv 2)) AD) AD (Bt DV (BH (KE (pv 2)<|fL VO AD) O) AD)) (AJ (qi (Cn<|BA (qD (@DM P w K mg base T) hr T.Dl<|AY (BH (pv 1) O) (Cy (pv 3)<|UN c7)))<|qr Dk)<|Bk (qi (PW.pt<|EX (Cn<|BA (qD (@Jg P w K mg base T) hr T.IZ<|Cp (BH (pv 1) O))) (ET<|Jo Jf (BH (pv 1) O) (Yv ["one"] [] [] .nil (DS<|pv 2) (λC s_ H_ fp=>BQ (i:=0) U1 O (Ci O)<|DN O) λC s_ H_ fp=>Lz K O (pv 0) O) O))<|qr Dk) (qr<|DT (qD (@lB P w K mg base T) hr T.VH<|Cy (BH (pv 1) O) (BH (pv 0) O)) (ED<|qD (@WR P w K mg base T) hr T.Ql (Cy (pv 1)<|BH (BH (pv 0) O) O)))),?_};let hD:=hT.hd;rw[b9]at hD;cases hD with
 |yes d b bx F G ys d8 e0 d9 hb a4 hp=>
  let a5:Paired (λf v=>Vw H f v) d.fs ys:=Paired.mapP hp λ_ _ z=>z.sm' bZ;let b3:d.fs.length=ys.length:=a5.length;let hl:=hok.len;show{a,_,dx,_,_,O,hT.ha,T.Bw,T.CM,O,b,_,bx,_,_,O,hb,T.Iq,T.Kt,O,?_};show CD (λσ' H'=>σ'=[Y (.ref a),Y v,Y<|.ref F,Y<|.int (JP d)]/\H=H') {F,_,O,.inl<|Cg.of a4,O,_,O,DL (λh=>?_) λh=>?_} ?_
  ·let h0:ys.length=0:=by
    have:=V.int.inj<|A1M h
    lia
   let e:d.fs=[]:=IW.mp ();show{?_,O};rw[show JP d=1 by unfold JP;rw[e];rfl];rfl
  ·let h0:0<ys.length:=by
    rcases Nat.eq_zero_or_pos ys.length with z|z;·show A1Q (A1K<|by rw[z];rfl) h
    show z
   let hy:ys[ys.length - 1]?=Y (ys[ys.length - 1]' ()):=AI _;let(g,hg,fa,a9,n,z,kk,mm,dd,e1,a7,h1,_):=GO a5 _ _ hy;let(i,hi):=hok.num g<|AN hg;obtain rfl:n= .int i:=(hi ▸ h1:Th H (.int i) n);show{_,O,F,_,_,_,O,O,Cg.of a4,cP h0,fa,_,a9,_,_,e1,a7,T.Ck,T.Fc,O,?_,O};rw[show JP d=i+1 by
    unfold JP;rw[FN,show d.fs.length - 1=ys.length - 1 by lia,hg];change uE g.num+1=i+1;rw[hi];rfl]
   rfl
  rintro σ' H' ⟨rfl,rfl⟩;let c2:=hF;let(va,a1,n,z,k,m,dd,O,a3,h1,h2,h3,h4,h5):=hF;let U:=λH' s'=>(show Q (.bl<|Mh f.num (JP d) 200&& (DJ f.nam&& (!decide (JL f.nam∈d.fs.map λg=>JL g.nam) && (Ek s.ws f.kind&&NQ f d.ch)))) H' from q H' s');show{va,_,a1,_,_,O,a3,T.Ck,T.Fc,O,n,f.num,_,_,O,h1,_,O,?_};cases b5:Mh f.num (JP d) 200 with
  |false=>
   rw[b5]at U;show BX<|U _ (AZ.refl _)
  |true=>
   rw[b5,BL]at U;show BM ?_;show CD (λσ' H'=>σ'=[Y (.ref a),Y<|.ref va,Y<|.ref F,Y<|.int (JP d)]/\AZ H H'/\DJ f.nam=Z/\decide (JL f.nam∈d.fs.map λg=>JL g.nam)=ge) {va,_,a1,_,_,O,a3,T.Ck,T.Gh,O,z,f.nam,O,h2,λH1 s1=>{_,O,?_}} ?_
   ·cases hn:DJ f.nam with
    |false=>
     rw[hn]at U;show BX<|U _ s1
    |true=>
     rw[hn,BL]at U;let(y,hy):=Hf hn;obtain⟨rfl,_⟩:z= .str y/\_:=(hy ▸ h2:Th H (.str y) z);show BM {va,_,a1,_,_,O,s1 _ _ a3,T.Ck,T.Gh,O,F,O,{_,Cg.of<|s1 _ _ a4},MI (l:=d.fs) (Wk.list<|Cg.of (s1 _ _ a4)) b3 () (λg=>.str<|JL g.nam) (λj g x hg hx H2 R s2 hR=>?_) λD H2 hD s2 e2=>?_};·let(fa,a9,n',z',kk,mm,e6,e1,a7,_,c4,_):=tr a5 j g x hg hx;let(y',b2):=hok.nam g<|AN hg;obtain⟨rfl,_⟩:z'= .str y'/\_:=(b2 ▸ c4:Th H (.str y') z');let b6:=hR H2<|AZ.refl _;rw[b2]at b6;show{Sub.set O,fa,_,a9,_,_,e1,(s1.trans s2) _ _ a7,T.Ck,T.Gh,O,b6}
     let e3:H2 D=Y (.lst<|(d.fs.map λg=>JL g.nam).map V.str):=by rw[e2,Br];rfl
     show{D,_,O,.inl<|Cg.of e3,O,MG _,_,O,?_};rw[Se];rw[hy]at U ⊢;let b1:=U H2<|s1.trans s2;change(if decide (JL (.str y)∈d.fs.map λg=>JL g.nam)=Z then _ else _)
     cases a6:decide (JL (.str y)∈d.fs.map λg=>JL g.nam)with
     |true=>
      rw[a6]at b1;show BX b1
     |false=>show BM {O,s1.trans s2,O,O}
   rintro σ' H1 ⟨rfl,s1,hn,a6⟩;rw[hn,a6,BL]at U;let U:=λH' s'=>(show Q (.bl<|Ek s.ws f.kind&&NQ f d.ch) H' from U H' s');let a8:=hT.go s1;show{va,_,a1,_,_,O,s1 _ _ a3,T.Ck,T.Dq,O,a,_,dx,_,_,O,a8.ha,T.Bw,T.CT,O,k,_,f.kind,s.ws,O,hm,h3.sm<|Sm.of s1,{(W),O,a8.hW},λH2 s2=>{_,O,?_}};let a2:=s1.trans s2;cases hk:Ek s.ws f.kind with
   |false=>
    rw[hk]at U;show BM<|U _ a2
   |true=>
    rw[hk]at U;show BX {a,_,dx,_,_,O,(a8.go s2).ha,T.Bw,T.CM,O,b,_,bx,_,_,O,a2 _ _ hb,T.Iq,T.Ku,O,_,f,d.ch,O,c2.sm' a2,Jh hk,λH3 s3=>U H3<|a2.trans s3}
def CH(s:TD):List (AT×Int):=match s.dr with
 |none=>s.ws|some d=>s.ws++[(d.nam,(s.ws.length:Int))]
def XM(s:TD):TD:={s with ws:=CH s}
structure vN(s:TD):Prop where
 new:∀d,s.dr=Y d->JU s.ws d.nam=S
 dr:∀d,s.dr=Y d->m8 d
 nam:∀d,s.dr=Y d->d.nam.length<=1000
 ws:∀x∈s.ws,x.1.length<=1000
 wv:∀x∈s.ws,0<=x.2/\x.2<=100
 len:s.ws.length<=100
 rows:s.rows.length<=500
def wm.put{x:AH}{u:HO}(h:wm H M R o dv)(U:x∈M)(hb:∀b bx fs,H b=Y (.ins 901 bx fs)->b≠x)(hF:∀F ys,F≠R->H F=Y (.lst ys)->F≠x):wm (upd H x u) M R o dv:=by cases h with|no=>show .no|yes d b bx F G ys h1 h2 h3 D j h6=>show .yes d b bx F G ys h1 h2 h3 (by rw[AM (hb _ _ _ D)];show D) (by rw[AM (hF _ _ h3 j)];show j)<|Paired.mapP h6 λ_ _ z=>z.sm'<|OF U
def TQ.mut{u:HO}(h:TQ H0 a M s dx R W ts dv H)(z:Zr u=Z)(x:AH):∀y∈M,H0 y=S/\∃o,upd H x u y=Y o/\Zr o=true:=λy j=>by
 show{(h.m y j).1,?_};by_cases e:y=x;·rw[e];show{(u),Az,z}
 rw[AM e];show(h.m y j).2
def TQ.setW(h:TQ H0 a M s dx R W ts dv H)(ws:List (AT×Int)):TQ H0 a M {s with ws:=ws} dx R W ts dv (upd H W<|.dK (wK ws)):=by
 let hm:=(h.m W h.WM).2;show{h.sa.put (h.m W h.WM).1,h.mut O W,h.aM,h.RM,h.WM,?_,?_,Paired.mapP h.pr λ_ _ z=>Ix z hm,Az,h.hd.put h.WM (λb bx fs e z=>by rw[z,h.hW]at e;cases e) λF ys _ e z=>by rw[z,h.hW]at e;cases e};·rw[AM (λz=>by have:=h.ha;rw[z,h.hW]at this;cases this)];show h.ha
 rw[AM (λz=>by have:=h.hR;rw[z,h.hW]at this;cases this)];show h.hR
def TQ.setR(h:TQ H0 a M s dx R W ts dv H)(j:PZ H ps t):TQ H0 a M {s with rows:=s.rows++[ps]} dx R W (ts++[t]) dv (upd H R<|.lst (ts.map V.ref++[.ref t])):=by
 let hm:=(h.m R h.RM).2;show{h.sa.put (h.m R h.RM).1,h.mut O R,h.aM,h.RM,h.WM,?_,by rw[Az,Bl];rfl,Hc (Paired.mapP h.pr λ_ _ z=>Ix z hm)<|.cons (Ix j hm) .nil,?_,h.hd.put h.RM (λb bx fs e z=>by rw[z,h.hR]at e;cases e) λF ys n e z=>n z};·rw[AM (λz=>by have:=h.ha;rw[z,h.hR]at this;cases this)];show h.ha
 rw[AM (λz=>by have:=h.hW;rw[z,h.hR]at this;cases this)];show h.hW
def TQ.setA(h:TQ H0 a M s dx R W ts dv H)(n:Int)(o:Option Dr)(dv':V)(hd:wm H M R o dv'):TQ H0 a M {s with dr:=o,lack:=n} dx R W ts dv' (upd H a<|.ins 1076 dx (O3 R W dv' n)):=by
 let hm:=(h.m a h.aM).2;show{h.sa.put (h.m a h.aM).1,h.mut O a,h.aM,h.RM,h.WM,Az,?_,Paired.mapP h.pr λ_ _ z=>Ix z hm,?_,hd.put h.aM (λb bx fs e z=>by rw[z,h.ha]at e;cases e) λF ys _ e z=>by rw[z,h.ha]at e;cases e};·rw[AM (λz=>by have:=h.hR;rw[z,h.ha]at this;cases this)];show h.hR
 rw[AM (λz=>by have:=h.hW;rw[z,h.ha]at this;cases this)];show h.hW
inductive qx(vs:List V)(H:Hp)(Q:VK):Prop|mk (H0:Hp) (a:AH) (M:List AH) (s:TD) (dx R W:AH) (ts:List AH) (dv:V) (_:vs=[.ref a]) (_:TQ H0 a M s dx R W ts dv H) (_:vN s) (_:∀H',TQ H0 a M (XM s) dx R W ts dv H'->(∀ps t,PZ H ps t->PZ H' ps t)->Q .non H')
def sk:Sp:=λvs H Q _=>qx vs H Q
inductive pW(vs:List V)(H:Hp)(Q:VK):Prop|mk (H0:Hp) (a:AH) (s:TD) (_:vs=[.ref a]) (_:Td H0 a s H) (_:Q (.bl<|match s.dr with|none=>ge|some d=>decide (s.lack=0) && !d.ch) H)
def rK:Sp:=λvs H Q _=>pW vs H Q
inductive wb(vs:List V)(H:Hp)(Q:VK):Prop|mk (x dx:AH) (_:vs=[.ref x]) (_:H x=some (.ins 1076 dx [])) (_:∀R W H',R≠W->H R=none->H W=none->zo x H H'->H' x=some (.ins 1076 dx<|O3 R W .non 0)->H' R=some (.lst [])->H' W=some (.dK [])->Q .non H')
def wY:Sp:=λvs H Q _=>wb vs H Q
def xQ(T:Tx K mg):∅ 1 1033 As wY:=by
 show(T.mf 34 O).okA PU ?_;intro 1 hr h;let(x,dx,O,U,q):=h;show{_,AJ (EC (pv 0) (Cq Ed) O)<|AJ (EC (pv 0) RL O) (AJ (EC (pv 0) DG O)<|BO (EC (pv 0) AD O)),?_};show{zl 0,λR hR=>?_};let D:x≠R:=λe=>by rw[<-e,U]at hR;cases hR
 show{x,_,dx,_,O,by rw[AM D];show U,T.Bw,T.Gg,Aa,?_};show λW hW=>?_;let z:x≠W:=λe=>by rw[<-e,Az]at hW;cases hW
 rw[AM z.symm]at hW;let j:R≠W:=λe=>by rw[<-e,Az]at hW;cases hW
 rw[AM j.symm]at hW;show{x,_,dx,_,O,by rw[AM z];show Az,T.Bw,T.CT,by change 1<1000;decide,?_};show{x,_,dx,_,O,Az,T.Bw,T.CM,by change 2<1000;decide,?_};show{x,_,dx,_,O,Az,T.Bw,T.DE,by change 3<1000;decide,?_};show q R W _ j hR hW (λb o F e=>?_) Az ?_ ?_;·rw[AM F,AM F,AM F,AM<|BB e hW,AM F,AM<|BB e hR];show e
 ·rw[AM D.symm,AM D.symm,AM D.symm,AM j,AM D.symm];show Az
 rw[AM z.symm,AM z.symm,AM z.symm];show Az
def ub(T:Tx K mg):∅ 2 1054 As sk:=by
 show(T.mf 37 O).okA Lg ?_;intro 1 hr h;let(H0,a,M,s,dx,R,W,ts,dv,O,j,hok,q):=h;show{_,BO<|qi (qc Vp (BH (pv 0) O) DG) (BO<|ce (MD hr) (BH (pv 0) O) (BH (BH (pv 0) O) O) (qB Pc T.Ei De<|Cp (BH (pv 0) O)) O),?_};show{a,_,dx,_,_,O,j.ha,T.Bw,T.CM,O,O,_,O,?_};let hD:=j.hd;let hn:=hok.new;let z:=hok.len;let(rows,ws,dr,lack):=s;cases hD with
 |no=>show BM<|q H j λ_ _ h=>h
 |yes d b bx F G ys D a3 a2 U a1 hp=>
  let hn:JU ws d.nam=none:=hn d O;show BX {a,_,dx,_,_,O,j.ha,T.Bw,T.CT,O,W,_,O,j.hW,a,_,dx,_,_,O,j.ha,T.Bw,T.CT,O,a,_,dx,_,_,O,j.ha,T.Bw,T.CM,O,b,_,bx,_,_,O,U,T.Iq,T.Rk,O,W,_,O,ky.k (k:=.inr d.nam) j.hW ?_,?_};·unfold wK;rw[Ay];show CW<|AU z Aa
  rw[ix hn,show(wK ws).length=ws.length from Ay ..];show q _ (j.setW<|ws++[(d.nam,(ws.length:Int))]) λps t h=>Ix h (j.m W j.WM).2
def tL(T:Tx K mg):∅ 1 1073 As rK:=by
 show(T.mf 40 O).okA JN ?_;intro 1 hr h;let(H0,a,s,O,(M,dx,R,W,ts,dv,z),q):=h;show{_,qr<|DT (Da Vp (BH (pv 0) O) DG<|DW _) (DT (Da CU (BH (pv 0) O) AD<|DW _)<|ED (Tn<|BH (BH (pv 0) O) O)),?_};show{a,_,dx,_,_,O,z.ha,T.Bw,T.CM,O,O,_,O,?_};let hD:=z.hd;let(rows,ws,dr,lack):=s;cases hD with
 |no=>show BM q
 |yes d b bx F G ys D a3 a2 U a1 hp=>
  let j:Q (.bl<|decide (lack=0) && !d.ch) H:=q;show BX {a,_,dx,_,_,O,z.ha,T.Bw,T.DE,O,O,_,O,DL (λh=>?_) λh=>?_};·rw[A1K (V.int.inj<|A1M h),BL]at j;show{(a),_,dx,_,_,O,z.ha,T.Bw,T.CM,O,b,_,bx,_,_,O,U,T.Iq,T.Ku,O,_,O,j}
  rw[A1L (λe=>h<|A1K (A1P V.int e)),BR]at j;show j
def rG:Pt->AT|.s z=>z|.n _=>""
def jG:Pt->Int|.n i=>i|.s _=>0
def TQ.setM{N:List AH}(h:TQ H0 a M s dx R W ts dv H)(hN:∀x∈N,H0 x=S/\∃o,H x=Y o/\Zr o=Z)(n:Int)(o:Option Dr)(dv':V)(hd:wm H (M++N) R o dv'):TQ H0 a (M++N) {s with dr:=o,lack:=n} dx R W ts dv' (upd H a<|.ins 1076 dx (O3 R W dv' n)):=by
 let hm:=(h.m a h.aM).2;let aM:=CC N h.aM;show{h.sa.put (h.m a h.aM).1,λx D=>?_,aM,CC N h.RM,CC N h.WM,Az,?_,Paired.mapP h.pr λ_ _ z=>Ix z hm,?_,hd.put aM (λb bx fs e z=>by rw[z,h.ha]at e;cases e) λF ys _ e z=>by rw[z,h.ha]at e;cases e}
 ·let j:H0 x=S/\∃o,H x=Y o/\Zr o=true:=(BE.mp D).elim (h.m x)<|hN x;show{j.1,?_};by_cases e:x=a
  ·rw[e];show{(_),Az,O}
  rw[AM e];show j.2
 ·rw[AM (λz=>by have:=h.hR;rw[z,h.ha]at this;cases this)];show h.hR
 rw[AM (λz=>by have:=h.hW;rw[z,h.ha]at this;cases this)];show h.hW
def zD(s:TD):List Pt->Option TD
 |[p0,p1,p2,p3]=>if p0= .s "form" /\DJ (GM p1)=Z/\JU (CH s) (rG p1)=S/\Mh (GM p2) 0 1=Z/\Mh (GM p3) (jG p2) 10=Z/\(CH s).length≠8
  then Y {s.rows++[[p0,p1,p2,p3]],CH s,Y {rG p1,decide (JA p2= .int 1),[]},jG p3}else S
 |_=>S
def wO(H0:Hp)(a t:AH)(ps:List Pt)(Q:VK):Option TD->Prop|none=>∀H',AZ H0 H'->Q (.bl ge) H'|some s=>∀H',Td H0 a s H'->Q (.bl Z) H'
inductive qd(vs:List V)(H:Hp)(Q:VK):Prop|mk (H0:Hp) (a t:AH) (s:TD) (ps:List Pt) (_:vs=[.ref a,.ref t]) (_:Td H0 a s H) (_:vN s) (_:PZ H ps t) (_:∀p∈ps,p.ok) (_:ps.length<=1000) (_:wO H0 a t ps Q (zD s ps))
def rQ:Sp:=λvs H Q _=>qd vs H Q
def xi(p:Pt)(z:AT):sK (JA p) (.str z)=true:=by cases p <;> rfl
def A05(h:decide (JA p= .str z)=Z):p= .s z:=by cases p with|s y=>rw[V.str.inj (A1M h)]|n i=>cases A1M h
def tQ(T:Tx K mg):∅ 4 1047 Ax rQ:=by
 let(_,c9):=(T.ui 15 O);let(_,d1):=T.Qg;let(_,d0):=T.Ri;let Ga:=@DM P w K mg base T;show(T.mf 36 O).okA Lf ?_;intro 1 hr h;let(H0,a,t,s,ps,O,(M,dx,R,W,ts,dv,hT),hok,b0,hp,d8,q):=h;let b8:EO (1+1) _:=hr.mono Aa;show{_,Bk (Ds<|fM (pv 0) T.Bw (T.me 44 37 O O) (ub T) (hr.mono Aa) (HL.b1 (T.mf 37 O) λ_ _ _ _ _ _ _=>rfl) .nil DU)<|Bk (qi (PW.pt<|EX (qc Qu (qB Cd T.Ei De<|Cp (pv 1))<|UN c9) (EX (qc Qu (LU (pv 1) AD) AR)<|EX (Cn<|BA (qD (@Jg P w K mg base T) hr T.IZ<|Cp (LU (pv 1) AD))) (ET<|tm (ji (MD hr) (LU (pv 1) AD)<|BH (pv 0) O) O)))<|qr Dk) (Bk (qi (PW.pt<|EX (Cn<|BA (qD Ga hr T.Dl<|AY (LU (pv 1) AD) (Cy AD AD))) (ET<|Cn (BA<|qD Ga hr T.Dl (AY (LU (pv 1) AD)<|Cy (LU (pv 1) AD) (UN d1)))))<|qr Dk)<|Bk (qi (qc CU (qB Pc T.Ei De<|Cp (BH (pv 0) O))<|UN d0)<|qr Dk) (Bk (EC (pv 0) (Fh {((T.mks 11 O).1),(T.fnd 39 O),((T.mB2 32 O).2),((T.mks 11 O).2)} (Zo T) b8 O (T.mc 23 O) (HL.b3 (T.mf 32 O) λ_ _ _ _ _ _ _ _ _=>rfl) .nil DU<|Cy (Da CU (LU (pv 1) AD) AD<|DW _) (LU (pv 1) AD)) O)<|AJ (EC (pv 0) (LU (pv 1) AD) O) (AJ (Ds<|Ej Bg BG BF Du (BH (pv 0) O) (Cp<|pv 1))<|qr Dk))),?_};show CD (λσ' H'=>σ'=[Y (.ref a),Y<|.ref t]/\TQ H0 a M (XM s) dx R W ts dv H'/\PZ H' ps t) {a,dx,_,O,hT.ha,O,H0,a,M,s,dx,R,W,ts,dv,O,hT,hok,λH' h1 h2=>{O,h1,h2 _ _ b0}} ?_;rintro σ' H1 ⟨rfl,a3,U⟩;let no:zD s ps=S->∀H',AZ H0 H'->Q (.bl ge) H':=λe=>by rw[e]at q;show q
 show CD (λσ' H'=>∃p0 p1 p2 p3 z,ps=[p0,p1,p2,p3]/\p0= .s "form" /\p1= .s z/\Ct z=Z/\JU (CH s) z=S/\σ'=[Y (.ref a),Y<|.ref t]/\AZ H1 H') ?_ ?_
 ·show{t,_,O,.inr<|Ec.of U,O,_,O,?_};rw[Ay];by_cases h4:ps.length=4
  ·rw[h4]
   match ps,h4 with
   |[p0,p1,p2,p3],_=>
    show BM {t,_,0,_,O,O,Ec.of U,Kn,xi p0 "form",_,O,?_};by_cases h0:p0= .s "form"
    ·obtain rfl:=h0;show BM {t,_,1,_,O,O,Ec.of U,dh,_,GM p1,O,(hp p1<|by simp).th,λH2 s2=>{_,O,?_}};cases hn:DJ (GM p1)with
     |false=>show BX (no (A1N λz=>by rw[hn]at z;cases z.2.1) _<|a3.sa.trans s2)
     |true=>
      cases p1 with
      |n i=>cases hn
      |s z=>
       show BM {t,_,1,_,O,O,Ec.of<|s2 _ _ U,dh,a,_,dx,_,_,O,(a3.go s2).ha,T.Bw,T.CT,O,W,_,O,KW.k (k:=.inr z) (a3.go s2).hW,_,O,?_};rw[Xs];change(if (JU (CH s) z).isSome=Z then _ else _)
       cases hw:JU (CH s) z with|some n=>show BX (no (A1N λx=>by have:=x.2.2.1;rw[show JU (CH s) (rG<|.s z)=Y n from hw]at this;cases this) _<|a3.sa.trans s2)|none=>show BM {(_),_,p2,p3,z,O,O,O,hn,hw,O,s2}
    rw[A1L λe=>h0<|A05 (A1K e)];show BX<|no (A1N λz=>h0 z.1) _ a3.sa
  rw[A1L (λe=>h4 (by have:=V.int.inj e;lia))];show BX<|no ?_ _ a3.sa
  match ps,h4 with|[],_=>rfl|[_],_=>rfl|[_,_],_=>rfl|[_,_,_],_=>rfl|[_,_,_,_],h=>show A1Q O h|_::_::_::_::_::_,_=>rfl
 rintro σ' H2 ⟨p0,p1,p2,p3,z,rfl,rfl,rfl,hz,hw,rfl,s2⟩;let a2:=a3.go s2;let D:=s2 _ _ U;let b6:DJ (GM<|.s z)=true:=hz;show CD (λσ' H'=>∃i j,p2= .n i/\p3= .n j/\Mh (GM p2) 0 1=Z/\Mh (GM p3) (jG p2) 10=Z/\σ'=[Y (.ref a),Y<|.ref t]/\H2=H') ?_ ?_
 ·show{t,_,2,_,O,O,Ec.of D,yS,_,GM p2,_,_,O,(hp p2<|by simp).th,_,O,?_};cases h2:Mh (GM p2) 0 1 with
  |false=>show BX (no (A1N λz=>by rw[h2]at z;cases z.2.2.2.1) _ a2.sa)
  |true=>
   cases p2 with
   |s y=>cases h2
   |n i=>
    show BM {t,_,3,_,O,O,Ec.of D,O7,t,_,2,_,O,O,Ec.of D,yS,_,GM p3,i,_,O,(hp p3<|by simp).th,_,O,?_};cases h3:Mh (GM p3) i 10 with
    |false=>show BX (no (A1N λz=>by have:=z.2.2.2.2.1;rw[show Mh (GM p3) (jG<|.n i) 10=ge from h3]at this;cases this) _ a2.sa)
    |true=>
     cases p3 with|s y=>cases h3|n j=>show BM {(i),j,O,O,O,h3,O,O}
 rintro σ' c8 ⟨i,j,rfl,rfl,h2,h3,rfl,rfl⟩;let el: (wK<|CH s).length=(CH s).length:=Ay ..;show CD (λσ' H'=>(CH s).length≠8/\σ'=[Y (.ref a),Y<|.ref t]/\H2=H') {a,_,dx,_,_,O,a2.ha,T.Bw,T.CT,O,W,_,O,a2.hW,O,_,O,DL (λh=>?_) λh=>?_} ?_
 ·show no (A1N λx=>x.2.2.2.2.2 ?_) _ a2.sa;have:=V.int.inj<|A1M h;rw[show(XM s).ws=CH s from O,el]at this
  lia
 ·show{λe=>h<|A1K ?_,O,O};rw[show(XM s).ws=CH s from O,el,e];rfl
 rintro σ' c8 ⟨h8,rfl,rfl⟩;let b7:zD s [.s "form",.s z,.n i,.n j]=Y ⟨s.rows++[[.s "form",.s z,.n i,.n j]],CH s,Y ⟨z,decide (V.int i= .int 1),[]⟩,j⟩:=A1O {(O),b6,hw,h2,h3,h8};rw[b7]at q;show CD (λσ' H'=>∃M' b,σ'=[Y (.ref a),Y<|.ref t]/\TQ H0 a M' {XM s with dr:=Y {z,decide (V.int i= .int 1),[]},lack:=s.lack} dx R W ts (.ref b) H'/\PZ H' [.s "form",.s z,.n i,.n j] t) ?_ ?_
 ·show{t,_,2,_,O,O,Ec.of D,yS,O,t,_,1,_,O,O,Ec.of D,dh,λb bx hb c4 c1=>{b,bx,_,z,O,Az,λfl gl H3 d6 a8 c3 bt b4 a6 b2=>{O,?_}}};let sn:=NM (C:=901) hb c4 c1;let s3:AZ H2 H3:=λx o e=>bt x o (λz=>by rw[z,hb]at e;cases e)<|sn x o e;let f0:∀{x:AH},upd (upd H2 bx<|.own b) b (.ins 901 bx []) x=S->H0 x=none:=λe=>a2.sa.free<|sn.free e;let a1:=a2.go s3;show{a,_,dx,_,O,a1.ha,T.Bw,T.CM,by change 4<1000;decide,M++[b,fl,gl],b,O,?_,Ix (s3 _ _ D) (a1.m a a1.aM).2};show a1.setM (λx hx=>?_) s.lack (Y {z,decide (V.int i= .int 1),[]}) (.ref b) (.yes {z,decide (V.int i= .int 1),[]} b bx fl gl [] (by simp) (by simp) (λe=>?_) b4 a6 .nil)
  ·rcases Bf.mp hx with rfl|hx
   ·show{a2.sa.free hb,_,b4,O}
   rcases Bf.mp hx with rfl|hx;·show{f0 a8,_,a6,O}
   rw[Bc.mp hx];show{f0 c3,_,b2,O}
  rw[e,sn _ _ a2.hR]at a8;cases a8
 rintro σ' H3 ⟨M',b,rfl,a1,a4⟩;show{t,_,3,_,O,O,Ec.of a4,O7,a,_,dx,_,O,a1.ha,T.Bw,T.DE,by change 4<1000;decide,?_};let a5:=a1.setA j _ _ a1.hd;let a7:=Ix (u:=.ins 1076 dx<|O3 R W (.ref b) j) a4 (a1.m a a1.aM).2;let hl:=a5.pr.length;let c2:=hok.rows;show{a,_,dx,_,_,O,a5.ha,T.Bw,T.Gg,O,.inl {O,_,Cg.of a5.hR},R,_,_,O,O,a5.hR,by rw[Ay,<-hl];show CW (AU c2<|show 500<=1000 by decide),q _ {M',dx,R,W,ts++[t],.ref b,a5.setR a7}}
def HC:Pt->PyData|.n i=>.int i|.s z=>.str z
def cV{K:AB}:∀ps:List Pt,KU K H (ps.map JA)<|ps.map HC|[]=>.nil|.n i::r=>.cons (.int i)<|cV r|.s z::r=>.cons (.str z)<|cV r
def mz{K:AB}(h:PZ H ps t):MK K H (.ref t) (.tuple<|ps.map HC):=.tup (Ec.of h)<|cV ps
def cN:∀ps:List Pt,(∀p∈ps,p.ok)->EH (ps.map HC)=Z
 |[],_=>rfl
 |p::r,h=>by
  rw[AV,EH,AA];show{?_,cN r λz j=>h z<|Bq _ j};have:=h p<|Bi ..;cases p with|n i=>rfl|s z=>show this.2
def TH:∀ps:List Pt,Fm (ps.map HC)<=1
 |[]=>by decide
 |p::r=>by
  rw[AV,Fm];have:=TH r;cases p <;> (simp only[HC,IS];lia)
def nS(h1:EH ds=Z)(h2:Fm ds<=2):Dy (.list ds)=Z/\Dy (.tuple ds)=true:=by unfold Dy;rw[AA,AA];show{{h1,A1K ?_},h1,A1K ?_} <;> (simp only[IS];lia)
def Wg{ps:List Pt}(h:∀p∈ps,Pt.ok p):Dy (.tuple<|ps.map HC)=true:=(nS (cN ps h)<|AU (TH ps) Aa).2
def mq:∀(xs ys:List Pt),bi (xs.map HC) (ys.map HC)=decide (xs=ys)
 |[],[]=>rfl|[],_::_=>rfl|_::_,[]=>rfl
 |x::xs,y::ys=>by
  rw[AV,AV];change(FU (HC x) (HC y) &&bi (xs.map HC) (ys.map HC))=_;rw[mq xs ys];let e:FU (HC x) (HC y)=decide (x=y):=by
   cases x with
   |n i=>cases y with
    |n j=>change(i==j)=_;grind|s z=>rfl
   |s z=>cases y with
    |n j=>rfl|s y=>change(z==y)=_;grind
  rw[e]
  grind
def yE(xs ys:List Pt):FU (.tuple<|xs.map HC) (.tuple<|ys.map HC)=decide (xs=ys):=mq xs ys
def mM:Dt->Prop|.lst l=>l=[]|.dct=>False|_=>True
def jO(U:Ek ws f.kind=Z)(h:NQ f c=Z):mM f.dfl/\(f.kind= .truth->FA f.dfl=Z)/\∃p,NJ f.kind f.dfl=GM p/\p.ok:=by
 let(num,nam,kind,must,dfl):=f;let h: (FA must&& (!(VQ must&&c) && (Hh kind dfl|| (!(VQ must|| (c|| !HN kind)) && (!(IB kind&& !DJ dfl) &&DB kind dfl)))))=true:=h;change mM dfl/\(kind= .truth->FA dfl=Z)/\∃p,NJ kind dfl=GM p/\p.ok;let h':Hh kind dfl=Z\/HN kind=Z/\DB kind dfl=Z/\(IB kind&& !DJ dfl)=false:=by
  simp only[AA,Bool.or_eq_true]at h;rcases h.2.2 with h|⟨h1,h2⟩;·show .inl h
  show .inr {?_,h2.2,(Do _).mp h2.1};cases hp:HN kind with|true=>rfl|false=>rw[hp]at h1;simp at h1
 let F:∀{k:Kx},(∀d,k≠ .form d)->Hh k dfl=Z->DB k dfl=true:=λ{k} hn h=>by
  cases k with|form d=>show A1Q O<|hn d|bare=>cases dfl <;> cases h|thing d=>cases dfl <;> cases h|_=>show((AA _ _).mp<|show(DB _ dfl&&zQ dfl)=Z from h).1
 let D:∀{a b:Int},-MN<=a->b<=MN->Mh dfl a b=Z->mM dfl/\∃p,dfl=GM p/\p.ok:=λha j h=>by
  let(n,O):=HR h;show{trivial,.n n,O,?_};let h:=(AA _ _).mp h;let h1:=A1M h.1;let h2:=A1M h.2;change n.natAbs<10 ^ 80;have:MN<10 ^ 80:=⋯
  lia
 cases kind with
 |truth=>
  let j:FA dfl=true:=h'.elim (F (k:=.truth) λd z=>by cases z) λz=>z.2.1;cases dfl with|bl b=>show{trivial,λ_=>rfl,.n _,O,by change(if b=Z then (1:Int)else 0).natAbs<10 ^ 80;cases b <;> decide}|_=>cases j
 |count=>
  let j:=h'.elim (F (k:=.count) λd z=>by cases z) λz=>z.2.1;let(h1,p,O,h2):=D Aa Aa j;show{h1,(λz=>by cases z),p,O,h2}
 |whole=>
  let j:=h'.elim (F (k:=.whole) λd z=>by cases z) λz=>z.2.1;let(h1,p,O,h2):=D Aa Aa j;show{h1,(λz=>by cases z),p,O,h2}
 |upto d=>
  let(n,O):=HR U;let j:=h'.elim (F (k:=.upto<|.int n) λd z=>by cases z) λz=>z.2.1;let(h1,p,O,h2):=D Aa (A1M ((AA _ _).mp U).2) j;show{h1,(λz=>by cases z),p,O,h2}
 |text d=>
  let(n,O):=HR U;let j:=h'.elim (F (k:=.text<|.int n) λd z=>by cases z) λz=>z.2.1;cases dfl with
  |str z=>
   show{trivial,(λz=>by cases z),.s z,O,?_};rcases h' with h|⟨_,_,h⟩;·have:=A1M ((AA _ _).mp<|show(DB (.text<|.int n) (.str z) &&decide (z=""))=Z from h).2;rw[this];show(by decide+kernel: ("" :AT).length<=1000/\BW ""=Z)
   let hn:Ct z=true:=by have: (Z&& !Ct z)=false:=h;simpa using this
   show{AU (Er hn).2.1 Aa,RA hn}
  |_=>cases j
 |form d=>
  let j:T8 dfl=true:=h'.elim (λz=>z) (λz=>by cases z.1);cases dfl with|non=>show{trivial,(λz=>by cases z),.n 0,O,(by change(0:Int).natAbs<10 ^ 80;decide)}|_=>cases j
 |list k=>
  let j: (DB (.list k) dfl&&zQ dfl)=true:=h'.elim (λz=>z) (λz=>by cases z.1);rw[AA]at j;cases dfl with|lst l=>show{ZI.mp j.2,(λz=>by cases z),.n 0,O,(by change(0:Int).natAbs<10 ^ 80;decide)}|_=>cases j.1
 |bare=>cases U|thing d=>cases U
def zk(U:∀x∈M,∃o,H x=Y o/\Zr o=Z):∀{k:Kx} {v:V},Ek ws k=Z->Qa H k v->Qa (rm M H) k v:=by
 let j:∀{b C dx:AH} {fs:List (AT×V)},H b=Y (.ins C dx fs)->(C==1076||C==901)=ge->rm M H b=Y (.ins C dx fs):=λ{b C dx fs} F n=>KC (λz=>by
  let(o,e,m):=U b z;rw[F]at e;obtain rfl:=AE e;rw[show Zr (.ins C dx fs)=(C==1076||C==901)from O,n]at m;cases m) F
 let flat:∀{k:Kx} {v:V},Fj ws k=Z->Qa H k v->Qa (rm M H) k v:=λ{k v} D h=>by
  cases k with
  |upto d=>let(n,O):=HR D;let(a,dx,u,e,h,r):=h;show{a,dx,u,e,j h O,r}|text d=>let(n,O):=HR D;let(a,dx,u,e,h,r):=h;show{a,dx,u,e,j h O,r}
  |form d=>
   let(y,O):=Hf ((AA _ _).mp D).1;let(a,dx,u,e,h,r):=h;show{a,dx,u,e,j h O,r}
  |truth=>let(a,dx,e,h):=h;show{a,dx,e,j h O}|count=>let(a,dx,e,h):=h;show{a,dx,e,j h O}|whole=>let(a,dx,e,h):=h;show{a,dx,e,j h O}|_=>cases D
 intro k v D h;cases k with|list k=>let(a,dx,u,e,h,r):=h;show{a,dx,u,e,j h O,flat D r}|_=>show flat D h
def wk(hM:∀x∈M,∃o,H0 x=Y o/\Zr o=Z)(s:AZ H0 H)(hk:Ek ws f.kind=Z)(h1:f.num=GM p1)(h2:f.nam=GM p2)(h3:f.must= .bl b)(hd:mM f.dfl)(h:ZC H0 H f v):Vw (rm M H) f v:=by
 let D:∀x∈M,∃o,H x=Y o/\Zr o=true:=λx U=>let ⟨o,e,m⟩:=hM x U;{o,s _ _ e,m};let(a,dx,n,z,k,m,d,e,ha,g1,g2,g3,g4,F,g6):=h;let tf:∀{p:Pt} {u:V},Th H (GM p) u->Th (rm M H) (GM p) u:=λ{p u} h=>by cases p <;> show h
 show{a,dx,n,z,k,m,d,e,KC (λx=>?_) ha,by rw[h1]at g1 ⊢;show tf g1,by rw[h2]at g2 ⊢;show tf g2,zk D hk g3,by rw[h3]at g4 ⊢;show g4,?_};·let(o,e,m):=D a x;rw[ha]at e;obtain rfl:=AE e;cases m
 cases j:f.dfl with
 |lst l=>
  rw[j]at F hd;obtain rfl:l=[]:=hd;let(b,xs,O,hb,U,hl):=F;obtain rfl:xs=[]:=U;show{b,[],O,KC (λx=>?_) hb,O,hl};let(o,e,m):=hM b x;let e2:=s _ _ e;rw[hb]at e2;obtain rfl:=AE e2;show g6 b O [] e
 |dct=>rw[j]at hd;show hd.elim|_=>rw[j]at F;show F
def wq:Dt->Pt|.int i=>.n i|.str z=>.s z|_=>.n 0
def Xo(h:Ek ws k=Z): (∃j,k= .list j/\Fj ws j=Z)\/Fj ws k=true:=by cases k with|list k=>show .inl {(k),O,h}|_=>show .inr h
def yK(h:Ek ws k=Z):0<=GP k/\GP k<=15:=by
 let fl:∀{k:Kx},Fj ws k=Z->0<=GP k/\GP k<=5:=λ{k} h=>by
  cases k with|list k=>cases h|bare=>cases h|thing d=>cases h|truth=>show(by decide: (0:Int)<=0/\(0:Int)<=5)|count=>show(by decide: (0:Int)<=1/\(1:Int)<=5)|whole=>show(by decide: (0:Int)<=2/\(2:Int)<=5)|upto d=>show(by decide: (0:Int)<=3/\(3:Int)<=5)|text d=>show(by decide: (0:Int)<=4/\(4:Int)<=5)|form d=>show(by decide: (0:Int)<=5/\(5:Int)<=5)
 rcases Xo h with⟨j,rfl,h⟩|h
 ·have:=fl h;change 0<=10+GP j/\10+GP j<=15
  lia
 have:=fl h;show{this.1,()}
def vB(h:Ek ws k=Z)(hw:∀x∈ws,0<=x.2/\x.2<=100): (EN ws k).natAbs<10 ^ 80:=by
 let D:MN<10 ^ 80:=⋯
 let fl:∀{k:Kx},Fj ws k=Z->(EN ws k).natAbs<10 ^ 80:=λ{k} h=>by
  cases k with
  |upto d=>
   let(n,O):=HR h;let h:=(AA _ _).mp h;let h1:=A1M h.1;let h2:=A1M h.2;change n.natAbs<_
   lia
  |text d=>
   let(n,O):=HR h;let h:=(AA _ _).mp h;let h1:=A1M h.1;let h2:=A1M h.2;change n.natAbs<_
   lia
  |form d=>
   let(z,O):=Hf ((AA _ _).mp h).1;change((JU ws z).getD 0).natAbs<_;cases e:JU ws z with
   |none=>decide
   |some n=>
    have:=hw _<|kN e;change n.natAbs<_;let h1:0<=n:=this.1;let h2:n<=100:=this.2
    lia
  |list k=>cases h|bare=>cases h|thing d=>cases h|_=>show(by decide: (0:Int).natAbs<10 ^ 80)
 rcases Xo h with⟨j,rfl,h⟩|h;·show fl (k:=j) h
 show fl h
def xm(h:Ek ws k=Z)(hw:∀x∈ws,0<=x.2/\x.2<=100)(h1:Pt.ok p1)(h2:Pt.ok p2)(D:Pt.ok p6):∀p∈fy ws k p1 p2 b p6,p.ok:=by
 let hc:=yK h;let z:=vB h hw;intro p j;unfold fy at j;simp only[Bf,Cm,or_false]at j;rcases j with rfl|rfl|rfl|rfl|rfl|rfl|rfl;·show(by decide+kernel: ("field" :AT).length<=1000/\BW "field"=Z)
 ·show h1
 ·show h2
 ·change(GP k).natAbs<_;have: (15:Nat) <10 ^ 80:=by decide
  lia
 ·show z
 ·change(if b=Z then (1:Int)else 0).natAbs<_
  cases b <;> decide
 show D
def TQ.setF{rows:List (List Pt)}{ws:List (AT×Int)}{d:Dr}{lack:Int}{bb bx F G:AH}{ys:List V}{f:Fx}{v:V}(h:TQ H0 a M {rows,ws,Y d,lack} dx R W ts (.ref bb) H)(a2:bb∈M)(j:F∈M)(U:F≠R)(hb:H bb=Y (.ins 901 bx<|drF d.nam d.ch F G))(D:H F=Y (.lst ys))(a1:Paired (λf v=>Vw (rm M H) f v) d.fs ys)(hf:Vw (rm M H) f v):
  TQ H0 a M {rows,ws,Y {d.nam,d.ch,d.fs++[f]},lack} dx R W ts (.ref bb) (upd H F<|.lst (ys++[v])):=by
 let hm:=(h.m F j).2;show{h.sa.put (h.m F j).1,h.mut O F,h.aM,h.RM,h.WM,?_,by rw[AM U.symm];show h.hR,Paired.mapP h.pr λ_ _ z=>Ix z hm,?_,.yes {d.nam,d.ch,d.fs++[f]} bb bx F G (ys++[v]) a2 j U ?_ Az<|Hc (Paired.mapP a1 λ_ _ z=>z.sm'<|OF j) (.cons (hf.sm'<|OF j) .nil)};·rw[AM (λz=>by have:=h.ha;rw[z,D]at this;cases this)];show h.ha
 ·rw[AM (λz=>by have:=h.hW;rw[z,D]at this;cases this)];show h.hW
 rw[AM (λz=>by have:=hb;rw[z,D]at this;cases this)];show hb
def cq(ws:List (AT×Int))(f:Fx):List Pt:=fy ws f.kind (wq f.num) (wq f.nam) (VQ f.must)<|wq (NJ f.kind f.dfl)
def qL(s:TD)(d:Dr)(ps:List Pt):Option TD:=match Xy s.ws ps with
 |some f=>if Xj s.ws d f=Z/\ps=cq s.ws f then Y {s.rows++[ps],s.ws,Y {d.nam,d.ch,d.fs++[f]},s.lack - 1}else S|none=>S
def qK(s:TD)(ps:List Pt):Option TD:=if s.lack=0 then zD s ps else match s.dr with
 |some d=>qL s d ps|none=>S
inductive kc(vs:List V)(H:Hp)(Q:VK):Prop|mk (H0:Hp) (a t:AH) (s:TD) (d:Dr) (ps:List Pt) (_:vs=[.ref a,.ref t]) (_:Td H0 a s H) (_:vN s) (_:s.dr=some d) (_:PZ H ps t) (_:∀p∈ps,p.ok) (_:ps.length<=1000) (_:wO H0 a t ps Q (qL s d ps))
def nv:Sp:=λvs H Q _=>kc vs H Q
inductive pY(vs:List V)(H:Hp)(Q:VK):Prop|mk (H0:Hp) (a t:AH) (s:TD) (ps:List Pt) (_:vs=[.ref a,.ref t]) (_:Td H0 a s H) (_:vN s) (_:s.lack=0\/s.dr.isSome=true) (_:PZ H ps t) (_:∀p∈ps,p.ok) (_:ps.length<=1000) (_:wO H0 a t ps Q (qK s ps))
def rM:Sp:=λvs H Q _=>pY vs H Q
def fH(p:Pt):wq (GM p)=p:=by cases p <;> rfl
def gB(h:Xy ws ps=Y f):ps.length=7/\(∃p1 p2 b,f.num=GM p1/\f.nam=GM p2/\f.must= .bl b/\p1∈ps/\p2∈ps):=by
 unfold Xy at h;split at h;·let(k,j,O):=Bp.mp h;show{O,_,_,_,O,O,O,by simp,by simp}
 cases h
def pD(h:ps.length≠7):Xy ws ps=none:=by cases e:Xy ws ps with|none=>rfl|some f=>show A1Q (gB e).1 h
def ou(T:Tx K mg)(hc:KD P w K 906 KN):∅ 8 1061 Ax nv:=by
 let(_,d8):=(T.ui 16 O);show(T.mf 38 O).okA Hb ?_;intro 1 hr h;let(H0,a,t,s,d,ps,O,(M,dx,R,W,ts,dv,hT),hok,a4,j,hp,f2,q):=h;show{_,Bk (qS 2 Hb.nd<|DH (qc CU (qB Cd T.Ei De<|Cp (pv 1))<|UN d8) (qD (@xM P w K mg base T hc) hr (T.d2 32 O λ_ _ _ _ _ _ _ _=>rfl)<|Cy (pv 1) (BH (pv 0) O)) DG)<|Bk (qi (PW.pt<|EX (qc OK (pv 2) DG) (ET<|Cn (BA<|Vn (pv 0) T.Bw (T.me 46 39 O O) (E6 T) (hr.mono Aa) (HL.b2 (T.mf 39 O) λ_ _ _ _ _ _ _ _=>rfl) .nil DU (Cp<|pv 2))))<|qr Dk) (Bk (qi (qc (LX hr.units) (pv 1)<|qD (@lz P w K mg base T hc) hr T.Rs (Cy (pv 2)<|BH (pv 0) O))<|qr Dk)<|Bk (Ds<|Ej Bg BG BF Du (BH (BH (pv 0) O) O) (Cp<|pv 2)) (AJ (EC (pv 0) (Bt Gi (BH (pv 0) O) AD) O)<|AJ (Ds<|Ej Bg BG BF Du (BH (pv 0) O) (Cp<|pv 1)) (qr Dk))),?_};show CD (λσ' H'=>∃u,σ'=[Y (.ref a),Y<|.ref t,Y u]/\AZ H H'/\FxO H H' (Xy s.ws ps) u) ?_ ?_
 ·show{t,_,O,.inr<|Ec.of j,O,_,O,?_};rw[Ay];by_cases h7:ps.length=7
  ·rw[h7];show BX {a,_,dx,_,_,O,hT.ha,T.Bw,T.CT,O,t,ps,_,s.ws,O,j,h7,hp,{(W),O,hT.hW},hok.ws,AU hok.len Aa,λu H' s' hu=>{(u),O,s',hu}}
  rw[A1L (λe=>h7 (by have:=V.int.inj e;lia))];show BM {_,O,AZ.refl _,?_};rw[pD h7];rfl
 rintro σ' H1 ⟨u,rfl,s1,hu⟩;let a3:=hT.go s1;let b6:=hok.dr d a4;unfold qL at q;cases hf:Xy s.ws ps with
 |none=>
  rw[hf]at q hu;obtain rfl:u= .non:=hu;show CD (λ_ _=>False) {O,_,O,Nt O<|q _ a3.sa} λ_ _ h=>h.elim
 |some f=>
  rw[hf]at q hu;let(b7,c7):=hu;let q:wO H0 a t ps Q (if Xj s.ws d f=Z/\ps=cq s.ws f then Y ⟨s.rows++[ps],s.ws,Y ⟨d.nam,d.ch,d.fs++[f]⟩,s.lack - 1⟩else S):=q
  let hF:=b7.isF;let(p1,p2,b,e1,e2,e3,m1,m2):=(gB hf).2;let(fa,f6,n,z,kk,mm,dd,O,f4,_):=id hF;show CD (λσ' H'=>Xj s.ws d f=Z/\σ'=[Y (.ref a),Y<|.ref t,Y<|.ref fa]/\AZ H1 H') {O,_,O,FM (λz=>by cases z) {a,dx,_,O,a3.ha,O,H0,a,M,s,dx,R,W,ts,dv,_,d,f,O,a3,a4,b6,hF,Xl c7,λH2 s2=>{_,O,?_}}} ?_
  ·cases hm:Xj s.ws d f with
   |true=>show BM {(O),O,s2}
   |false=>
    rw[A1N (λz=>by rw[hm]at z;cases z.1)]at q;show BX<|q _ (a3.sa.trans s2)
  rintro σ' H2 ⟨hm,rfl,s2⟩;let a5:=a3.go s2;let b3:=s1.trans s2;let U:Ek s.ws f.kind=Z/\NQ f d.ch=true:=by have:=hm;unfold Xj at this;simp only[AA]at this;show this.2.2.2
  let(d0,c5,p6,e6,o6):=jO U.1 U.2;let eo:cq s.ws f=fy s.ws f.kind p1 p2 b p6:=by unfold cq;rw[e1,e2,e3,e6,fH,fH,fH];rfl
  let ho:∀p∈fy s.ws f.kind p1 p2 b p6,p.ok:=xm U.1 hok.wv (hp _ m1) (hp _ m2) o6;show CD (λσ' H'=>ps=cq s.ws f/\σ'=[Y (.ref a),Y<|.ref t,Y<|.ref fa]/\AZ H2 H') {a,_,dx,_,_,O,a5.ha,T.Bw,T.CT,O,_,_,f,s.ws,p1,p2,p6,b,O,hF.sm' s2,e1,e2,e3,U.1,c5,e6,{(W),O,a5.hW},λt' H3 s3 c6=>{_,_,mz<|(b3.trans s3) _ _ j,mz c6,Wg hp,Wg ho,_,O,?_}} ?_
  ·rw[yE,<-eo];by_cases he:ps=cq s.ws f
   ·rw[A1K he];show BM {(he),O,s3}
   rw[A1L he];rw[A1N (λz=>he z.2)]at q;show BX<|q _ (a5.sa.trans s3)
  rintro σ' H3 ⟨he,rfl,s3⟩;rw[A1O {(hm),he}]at q;let a2:=a5.go s3;let c4:=b3.trans s3;let hD:=a2.hd;rw[a4]at hD;let f1:=a2.pr.length;let b4:=hok.rows;let(rows,ws,dr,lack):=s;obtain rfl:dr=Y d:=a4;cases hD with
  |yes _ bb bx F G ys d1 b8 d3 hb a9 b5=>
   let e9:d.fs.length=ys.length:=b5.length;let f5:=b6.len;let c9:Vw (rm M H3) f (.ref fa):=(wk (λx hx=>(hT.m x hx).2) s1 U.1 e1 e2 e3 d0 b7).sm'<|Ke (s2.trans s3);show CD (λσ' H'=>σ'=[Y (.ref a),Y<|.ref t,Y<|.ref fa]/\TQ H0 a M {rows,ws,Y {d.nam,d.ch,d.fs++[f]},lack} dx R W ts (.ref bb) H'/\PZ H' ps t) {a,_,dx,_,_,O,a2.ha,T.Bw,T.CM,O,bb,_,bx,_,_,O,hb,T.Iq,T.Kt,O,.inl {O,_,Cg.of a9},F,_,_,O,O,a9,CW (),O,a2.setF d1 b8 d3 hb a9 b5 c9,Ix (c4 _ _ j) (a2.m F b8).2} ?_;rintro σ' H4 ⟨rfl,D,a8⟩;show{a,_,dx,_,_,O,D.ha,T.Bw,T.DE,O,a,_,dx,_,O,D.ha,T.Bw,T.DE,by change 4<1000;decide,?_};let a1:=D.setA (lack - 1) _ _ D.hd;let a7:=Ix (u:=.ins 1076 dx<|O3 R W (.ref bb) (lack - 1)) a8 (D.m a D.aM).2;let c8:=a1.pr.length;show{a,_,dx,_,_,O,a1.ha,T.Bw,T.Gg,O,.inl {O,_,Cg.of a1.hR},R,_,_,O,O,a1.hR,by rw[Ay,<-c8];show CW (AU b4<|show 500<=1000 by decide),q _ {M,dx,R,W,ts++[t],.ref bb,a1.setR a7}}
def tN(T:Tx K mg)(hc:KD P w K 906 KN):∅ 9 1040 Ax rM:=by
 show(T.mf 35 O).okA LS ?_;intro 1 hr h;let(H0,a,t,s,ps,O,z,hok,hl,j,U,D,q):=h;show{_,AJ (qi (qc CU (BH (pv 0) O) AD)<|qr (Vn (pv 0) T.Bw (T.me 43 36 O O) (tQ T) (hr.mono Aa) (HL.b2 (T.mf 36 O) λ_ _ _ _ _ _ _ _=>rfl) .nil DU<|Cp (pv 1)))<|qr (Vn (pv 0) T.Bw (T.me 45 38 O O) (ou T hc) (hr.mono Aa) (HL.b2 (T.mf 38 O) λ_ _ _ _ _ _ _ _=>rfl) .nil DU<|Cp (pv 1)),?_};let(M,dx,R,W,ts,dv,F):=id z;unfold qK at q;show{a,_,dx,_,_,O,F.ha,T.Bw,T.DE,O,O,_,O,DL (λh=>?_) λh=>?_};·rw[A1O (V.int.inj<|A1M h)]at q;show{(a),dx,_,O,F.ha,O,H0,a,t,s,ps,O,z,hok,j,U,D,q}
 let h0:¬s.lack=0:=λe=>h<|A1K (A1P V.int e);rw[A1N h0]at q;cases hd:s.dr with
 |none=>
  rcases hl with h|h;·show A1Q h h0
  rw[hd]at h;cases h
 |some d=>
  rw[hd]at q;show{(a),dx,_,O,F.ha,O,H0,a,t,s,d,ps,O,z,hok,hd,j,U,D,q}
def rl(H:Hp)(p:Int)(E:XK):Prop:=∀d (H':Hp),AZ H H'->H' d=Y (.xd [("place",.int p)])->E (.ref 149) (Y d) H'
inductive TU(vs:List V)(H:Hp)(Q:VK):Prop|mk (e:AH) (p:Nat) (_:vs=[.ref e,.int p]) (_:H e=some (Us e 149 none)) (_:p<=100) (_:∀d (H':Hp),H d=none->(∀b o,b≠e->H b=some o->H' b=some o)->H' e=some (Us e 149<|some d)->H' d=some (.xd [("place",.int p)])->Q .non H')
def NG:Sp:=λvs H Q _=>TU vs H Q
def dm.same(s:AZ H H'):∀{l:Ln} {v:V},dm H l v->dm H' l v:=by intro l v h;cases l with|txt z=>show h|thing d=>show{Th.sm (Sm.of s) _ _ h.1,h.2}
def bv:TD:={[],[],S,0}
def QL(s:TD):Bool:=match s.dr with
 |none=>ge|some d=>decide (s.lack=0) && !d.ch
def Zu:List Ln->Nat->TD->Nat ⊕ TD
 |[],p,s=>if QL s=Z then .inr s else .inl p
 |l::r,p,s=>match qK s (GL l)with
  |some s'=>Zu r (p+1) s'|none=>.inl p
structure yV(s:TD)(j:Nat):Prop where
 new:∀d,s.dr=Y d->JU s.ws d.nam=S
 nam:∀d,s.dr=Y d->∀f∈d.fs,∃z,f.nam= .str z
 num:∀d,s.dr=Y d->∀f∈d.fs,∃i,f.num= .int i
 len:∀d,s.dr=Y d->d.fs.length<=j
 dn:∀d,s.dr=Y d->d.nam.length<=12
 ws:∀x∈s.ws,x.1.length<=12/\0<=x.2/\x.2<=8
 wl:s.ws.length<=7
 rows:s.rows.length=j
 lk:s.lack=0\/s.dr.isSome=Z
def yV.ok(h:yV s j)(D:j<=100):vN s:={h.new,λd e=>{h.nam d e,h.num d e,AU (h.len d e) D},λd e=>AU (h.dn d e) Aa,λx z=>AU (h.ws x z).1 Aa,λx z=>{(h.ws x z).2.1,Yn (h.ws x z).2.2 Aa},AU h.wl Aa,by rw[h.rows];lia}
def yV.begin:yV bv 0:={(λ_ e=>nomatch e),(λ_ e=>nomatch e),(λ_ e=>nomatch e),(λ_ e=>nomatch e),(λ_ e=>nomatch e),(λ_ h=>nomatch h),Cu _,O,.inl O}
def vv(h:yV s j): (∀x∈CH s,x.1.length<=12/\0<=x.2/\x.2<=8)/\(CH s).length<=8:=by
 unfold CH;let D:=h.wl;cases hd:s.dr with
 |none=>show{h.ws,by change s.ws.length<=8;lia}
 |some d=>
  show{λx z=>?_,by change(s.ws++_).length<=8;rw[AS];change s.ws.length+1<=8;lia};rcases BE.mp z with z|z;·show h.ws x z
  rw[Bc.mp z];show{h.dn d hd,by change(0:Int)<=s.ws.length;lia,by change(s.ws.length:Int)<=8;lia}
def yV.step(h:yV s j)(e:qK s ps=Y s'):yV s' (j+1):=by
 unfold qK at e;let hr:=h.rows;split at e
 ·unfold zD at e;split at e
  ·rename_i p0 p1 p2 p3;split at e
   ·rename_i hc;let(_,hn,hw,h2,h3,h8):=hc;obtain rfl:=AE e;let(c1,c2):=vv h;let(z,hz):=Hf hn;let F:p1= .s z:=by cases p1 with|s y=>cases hz;rfl|n i=>cases hz
    obtain rfl:=F;show{λd e=>?_,λd e f hf=>?_,λd e f hf=>?_,λd e=>?_,λd e=>?_,c1,by change(CH s).length<=7;lia,by change(s.rows++_).length=_;rw[AS,hr];rfl,.inr O};·cases e;show hw
    ·cases e;cases hf
    ·cases e;cases hf
    ·cases e;show Cu _
    cases e;show(Er hn).2.1
   cases e
  cases e
 cases hd:s.dr with
 |none=>rw[hd]at e;cases e
 |some d=>
  rw[hd]at e;let e:qL s d ps=Y s':=e;unfold qL at e;cases hf:Xy s.ws ps with
  |none=>rw[hf]at e;cases e
  |some f=>
   rw[hf]at e;let e: (if Xj s.ws d f=Z/\ps=cq s.ws f then Y (TD.mk (s.rows++[ps]) s.ws (Y ⟨d.nam,d.ch,d.fs++[f]⟩)<|s.lack - 1)else S)=Y s':=e
   split at e
   ·rename_i hc;obtain rfl:=AE e;let hm:=hc.1;unfold Xj at hm;simp only[AA]at hm;let sn:∀{U:Fx->Prop},(∀g∈d.fs,U g)->U f->∀g∈d.fs++[f],U g:=λh1 h2 g D=>by
     rcases BE.mp D with D|D;·show h1 g D
     rw[Bc.mp D];show h2
    show{λd' e=>?_,λd' e g D=>?_,λd' e g D=>?_,λd' e=>?_,λd' e=>?_,h.ws,h.wl,by change(s.rows++_).length=_;rw[AS,hr];rfl,.inr O};·cases e;show h.new d hd
    ·cases e;show sn (h.nam d hd) (Hf hm.2.1) g D
    ·cases e;show sn (h.num d hd) (HR hm.1) g D
    ·cases e;change(d.fs++[f]).length<=_;rw[AS];have:=h.len d hd;change d.fs.length+1<=_
     lia
    cases e;show h.dn d hd
   cases e
structure jY(l:Ln):Prop where
 ws:∀ys,Ka l=Y ys->ys.length<=1000/\∀y∈ys,y.length<=1000/\BW y=Z
def jY.row(h:jY l): (∀p∈GL l,p.ok)/\(GL l).length<=1000:=by
 unfold GL;cases e:Ka l with
 |none=>show{(λ_ h=>nomatch h),Cu _}
 |some ys=>
  have:=h.ws ys e;show{λp z=>?_,by change(ys.map Cz).length<=_;rw[Ay];show this.1};let(y,j,O):=Bb.mp<|show p∈ys.map Cz from z;show D3 (this.2 y j).1 (this.2 y j).2
def RdT(H:Hp)(Q:VK)(E:XK):Nat ⊕ TD->Prop|.inl p=>∀H',AZ H H'->rl H' (p:Nat) E|.inr s=>∀u H',AZ H H'->qF H' s.rows u->Q u H'
def wQ(K:AB):Sp:=λvs H Q E=>
 (∃v t,vs=[v]/\IG K H v t/\BC K t (.type "list")=Y ge/\rl H ((0:Nat):Int) E)\/
 ∃l xs ls,vs=[.ref l]/\H l=Y (.lst xs)/\Paired (dm H) ls xs/\(∀x∈ls,jY x)/\ls.length<=100/\RdT H Q E (Zu ls 0 bv)
def UQ(T:Tx K mg):∅ 1 146 ["self","place"] NG:=by
 show(T.mf 1 O).okA UK ?_;intro 1 hr h;let(e,p,O,F,hp,q):=h;show{_,AJ (Ds<|fK O T.JX T.xb T.Ks (Cy (pv 0)<|ar (PD AR<|PD (jh<|pv 1) tu)))<|BO (cc T.Ks (pv 0) (pv 1) O),?_};let(D,j):=ao p hp;let l1: (Md++ ("no such text at " :AT)).length<=100:=⋯
 let l2:=IF l1 D;show{_,O,Gq (),.inr {_,O,j,_,O,Gq (),Gq (),e,_,_,O,F,zl 1,?_}};show{e,O,T.Rl,.inl {F,λd hd=>?_}};let U:d≠e:=λz=>by rw[z,F]at hd;cases hd
 show q d _ hd (λb o hb z=>?_) Az (by rw[AM U];show Az);rw[AM hb,AM (λz2=>by rw[z2,hd]at z;cases z)];show z
def QO{H1:Hp}{p:Nat}{E:XK}(hp:p<=100)(k:rl H1 p E):∀e,H1 e=S->NG (.ref e::[.int p]) (upd H1 e<|Us e 149 S) (λv H2=>v= .non/\∃dx,H2 e=Y (Us e 149 dx)/\E (.ref 149) dx (untr H2 e)) E0:=λe he=>by
 show{e,p,O,Az,hp,λd H' hd kp D U=>{O,Y d,D,?_}};let F:d≠e:=λz=>by rw[z,Az]at hd;cases hd
 show k d _ (λb o z=>?_) (by rw[Eh F];show U);let j:b≠e:=λz2=>by rw[z2,he]at z;cases z
 rw[Eh j];show kp b o j (by rw[AM j];show z)
def cw(T:Tx K mg)(hc:KD P w K 906 KN):EE P w K mg base (XC P w Z) 11 1092 (EM K 1092) ["lines"] (wQ K):=by
 let GI:=@UQ P w K mg base T;show(T.df 38 O).okX Kd (λvs H Q E h=>?_) (λcdv A outer s H vs Q E hr h=>?_);·rcases h with⟨v,t,rfl,_⟩|⟨l,xs,ls,rfl,_⟩ <;> rfl
 let b3:EO (1+1) _:=hr.mono Aa;show{_,AJ (qi (Cn<|BA (qB (Bv K O) T.Ba AW<|Cy (pv 0) (RJ T.FO EJ)))<|BO (Km O O T.MV T.Ks GI (hr.mono Aa) T.Kz Je<|Cp AD))<|Bk (qS 1 Kd.nd<|tD {((T.mks 13 O).1),(T.fnd 41 O),((T.mB2 34 O).2),((T.mks 13 O).2)} (xQ T) b3 O (T.mc 25 O) (HL.b1 (T.mf 34 O) λ_ _ _ _ _ _ _=>rfl) .nil DU) (Bk (HM PassesOwn.leaving O (OI O T.Jw<|pv 0) (Tl O (n:=2)<|CJ (BQ (i:=2) Kd.nd O<|Ci O) (CJ (BQ (i:=3) Kd.nd O<|Ci O) Jp))<|BO (qi (Cn<|BA (Vn (pv 1) T.Bw (T.me 42 35 O O) (tN T hc) (hr.mono Aa) (HL.b2 (T.mf 35 O) λ_ _ _ _ _ _ _ _=>rfl) .nil DU<|Cp (qD (@ow P w K mg base T) hr (T.d1 37 O λ_ _ _ _ _ _ _=>rfl)<|Cp (pv 3))))<|BO (Km O O T.MV T.Ks GI (hr.mono Aa) T.Kz Je<|Cp (pv 2))))<|AJ (qi (Cn<|BA (fM (pv 1) T.Bw (T.me 47 40 O O) (tL T) (hr.mono Aa) (HL.b1 (T.mf 40 O) λ_ _ _ _ _ _ _=>rfl) .nil DU))<|BO (Km O O T.MV T.Ks GI (hr.mono Aa) T.Kz Je<|Cp (qB Cd T.Ei De<|Cp (pv 0)))) (qr<|Fh {(T.SZ),T.LP,T.LO,T.SY} (jt T) b3 O T.Pr T.LR .nil DU (Cp<|BH (pv 1) O))),?_};rcases h with⟨v,t,rfl,ty,kt,q⟩|⟨l,xs,ls,rfl,hl,b4,hok,hn,q⟩;·show{v,.ty "list",_,_,_,O,ty,O,kt,_,O,BX {zl 1,QO Aa q}}
 show{.ref l,.ty "list",_,_,_,O,.lst hl,O,T.Fu,_,O,BM ?_};let F:ls.length=xs.length:=b4.length;show CD (λσ' H'=>∃a,σ'=[Y (.ref l),Y<|.ref a,S,S]/\Td H a bv H') ?_ ?_
 ·show λa dx ha a8 a7=>{a,dx,O,Az,λR W H' d3 hR hW bt b5 b8 b6=>{O,a,O,[a,R,W],dx,R,W,[],.non,?_}};let sn:=NM (C:=1076) ha a8 a7;show{λx o e=>bt x o (λz=>by rw[z,ha]at e;cases e)<|sn x o e,λx hx=>?_,by simp,by simp,by simp,b5,b8,.nil,b6,.no};rcases Bf.mp hx with rfl|hx
  ·show{(ha),_,b5,O}
  rcases Bf.mp hx with rfl|hx;·show{sn.free hR,_,b8,O}
  rw[Bc.mp hx];show{sn.free hW,_,b6,O}
 rintro σ' H0 ⟨a,rfl,b7⟩;show CD (λσ' H'=>∃D v2 v3,Zu ls 0 bv=Zu [] ls.length D/\Td H a D H'/\σ'=[Y (.ref l),Y<|.ref a,v2,v3]) ?_ ?_
 ·let s0:AZ H H0:=by let(_,_,_,_,_,_,h):=b7;show h.sa
  show{l,O,{_,Cg.of<|s0 _ _ hl},?_};show MF (xs:=xs) (λj σ' H'=>∃D v2 v3,σ'=[Y (.ref l),Y<|.ref a,v2,v3]/\Td H a D H'/\yV D j/\Zu (ls.drop j) j D=Zu ls 0 bv) {bv,_,_,O,b7,.begin,O} (λi σ' H' _ h=>by let(_,_,_,_,(_,_,_,_,_,_,h),_):=h;show Cg.of<|h.sa _ _ hl) (λi x Tt σ' H1 hx h c6=>?_) λσ' H' h=>?_
  ·let(D,v2,v3,O,hT,hJ,hR):=h;let(M,dx,R,W,ts,dv,hI):=hT;let(ln,a2,c5):=GO b4 i x hx;let hi:i<ls.length:=(AO.mp a2).1;let ed:ls.drop i=ln::ls.drop (i+1):=by
    rw[EA hi];have:ls[i]'hi=ln:=by rw[AI hi]at a2;show AE a2
    rw[this]
   let lo:=hok ln<|AN a2;let(lr,lw):=lo.row;rw[ed]at hR;let c2:=Bd (u:=.tup [.int (i:Nat),x]) c6;let a9:=hI.go c2;show{Tt,_,O,Ec.of Az,O,_,_,O,_,_,O,O,?_};show{a,dx,_,O,a9.ha,O,x,ln,O,c5.same a9.sa,λys e=>{(lo.ws ys e).1,λy hy=>((lo.ws ys e).2 y hy).1},λt H2 s2 ht=>?_};let c8:=a9.go s2;show{H,a,t,D,GL ln,O,{(M),dx,R,W,ts,dv,c8},hJ.ok (),hJ.lk,ht,lr,lw,?_};let hR: (match qK D (GL ln)with|some s'=>Zu (ls.drop<|i+1) (i+1) s'|none=>.inl i)=Zu ls 0 bv:=hR;cases a6:qK D (GL ln)with
   |none=>
    rw[a6]at hR;let eR:Zu ls 0 bv= .inl i:=hR.symm;rw[eR]at q;show λH' s'=>{_,O,BX {zl 1,QO ()<|q H' s'}}
   |some y=>
    rw[a6]at hR;show λH' c7=>{_,O,BM {y,_,_,O,c7,hJ.step a6,hR}}
  let(D,v2,v3,O,hT,hJ,hR):=h;rw[<-F,ZK]at hR;show{(D),v2,v3,hR.symm,hT,O}
 rintro σ' H1 ⟨D,v2,v3,eR,hT,rfl⟩;rw[eR]at q;let(M,dx,R,W,ts,dv,hI):=id hT;show{a,dx,_,O,hI.ha,O,H,a,D,O,hT,_,O,?_};let q:RdT H Q E (if QL D=Z then .inr D else .inl ls.length):=q
 change(if (!QL D)=Z then _ else _)
 cases hw:QL D with
 |false=>
  rw[hw]at q;show BX {l,_,O,.inl<|Cg.of (hI.sa _ _ hl),zl 1,?_};rw[<-F];show QO ()<|q _ hI.sa
 |true=>
  rw[hw]at q;show BM {a,_,dx,_,_,O,hI.ha,T.Bw,T.Gg,O,λx U hx a8 a7=>?_};let sm:=NM (C:=923) hx a8 a7;show{x,U,R,_,O,Az,sm _ _ hI.hR,λm hm=>{O,?_}};let s2:=Bd (u:=.lst<|ts.map V.ref) hm;let c4:upd (upd (upd H1 U<|.own x) x<|.ins 923 U []) m (.lst<|ts.map V.ref) x=Y (.ins 923 U []):=s2 _ _ Az;let c3:m≠x:=λz=>by rw[z,Az]at hm;cases hm
  show q _ _ ?_ {x,U,m,ts,O,Az,by rw[AM c3];show Az,Paired.mapP hI.pr λ_ _ z=>((z.sm<|Sm.of (sm.trans s2)).upd c4 λ_ x=>by cases x)};show hI.sa.trans<|((sm.trans s2)).put hx
inductive qm(u:Unit)(k:Lk)(vs:List V)(H:Hp)(Q:VK):Prop|mk (v:V) (n:Nat) (_:vs=[v]) (_:TL H k v) (_:k.ok n) (_:∀H',AZ H H'->Q (.int<|CY k) H')
def Rx(u:Unit)(k:Lk):Sp:=λvs H Q _=>qm u k vs H Q
inductive ki(u:Unit)(k:Lk)(vs:List V)(H:Hp)(Q:VK):Prop|mk (v:V) (n:Nat) (_:vs=[v]) (_:TL H k v) (_:k.ok n) (_:Q (.int<|Fk k) H)
def Pw(u:Unit)(k:Lk):Sp:=λvs H Q _=>ki u k vs H Q
def gM:List AT:=["truth","count","whole","upto","text","form"]
def yJ(F:∀j,k≠Lk.list j):∃j:Nat,(j:Int)=CY k/\j<=1000/\gM[j]?=Y k.word/\∀i y,i<j->gM[i]?=Y y->y≠k.word:=by
 let h:∀(j:Nat) (z:AT),(j<6&& (decide (gM[j]?=Y z) && (BN j).all λi=>!decide (gM[i]?=Y z)))=Z->j<=1000/\gM[j]?=Y z/\∀i y,i<j->gM[i]?=Y y->y≠z:=λj z h=>by
  simp only[AA,decide_eq_true_eq,Bz,HG,Do,decide_eq_false_iff_not]at h;show{(),h.2.1,λi y hi e D=>h.2.2 i hi<|by rw[e,D]}
 cases k with|truth=>show{0,O,h 0 "truth" Ab}|count=>show{1,O,h 1 "count" Ab}|whole=>show{2,O,h 2 "whole" Ab}|upto n=>show{3,O,h 3 "upto" Ab}|text n=>show{4,O,h 4 "text" Ab}|form n=>show{5,O,h 5 "form" Ab}|list j=>show A1Q O<|F j
def Ze(T:Tx K mg)(u:Unit)(G:∅ (r+1) 1184 Al U)(hk:∀k',k= .list k'->∀vs H Q E,Rx u k' vs H Q E->U vs H Q E):∅ (r+3) 1184 Al (Rx u k):=by
 show(T.df 52 O).okA xj ?_;intro 1 hr h;let(v,n,O,hv,hok,q):=h;show{_,AJ (qi (qc CU (LU (pv 0) AD) AR)<|qr (Bt DV AD<|KF G (hr.mono<|()) T.kH (Cp<|LU (pv 0) AD)))<|qr (Ej Bg PySem.F.slot_list_index PySem.F.type_list_index oP (Cq<|AY AR (AY AR<|AY AR (AY AR<|Cy AR AR)))<|Cp (LU (pv 0) AD)),?_};by_cases D:∃j,k= .list j;·let(j,O):=D;let(t,x,O,z,hx):=hv;show{t,_,_,_,O,O,Ec.of z,Kn,O,_,O,Nt O {t,_,_,_,O,O,Ec.of z,dh,hk _ O _ _ _ _ {x,n,O,hx,lC hok,q}}}
 let(t,ys,O,z):=hv.word;let nl:¬V.str k.word=V.str "list":=by cases k with|list j=>show A1Q {(j),O} D|_=>show Ta
 let(j,ej,j1,j2,j3):=yJ λj e=>D {(j),e};show{t,_,_,_,O,O,Ec.of z,Kn,O,_,O,FM nl {zl 6,λl D=>?_}};let s1:=Bd (u:=.lst<|gM.map V.str) D;show{.inl {O,_,Cg.of Az},t,_,_,_,O,O,Ec.of<|s1 _ _ z,Kn,l,gM,k.word,j,O,O,Az,j2,j1,j3,?_};rw[ej];show q _ s1
def nG:Sp:=λvs H Q E=>∃i:Unit×Lk,Rx i.1 i.2 vs H Q E
def tX(T:Tx K mg):∅ 6 1184 Al nG:=Tb Rx (λa k vs H Q E h=>by let(_,n,_,_,h,_):=h;show{(n),h}) λr j a k G z=>Ze T a G z
def WQ(T:Tx K mg)(u:Unit)(G:∅ (r+1) 1191 Al F)(hk:∀U,k= .list U->∀vs H Q E,Pw u U vs H Q E->F vs H Q E):∅ (r+3) 1191 Al (Pw u k):=by
 show(T.df 53 O).okA sM ?_;intro 1 hr h;let(v,n,O,D,hok,q):=h;show{_,AJ (qi (qc CU (LU (pv 0) AD) AR)<|qr (KF G (hr.mono<|()) T.dU<|Cp (LU (pv 0) AD)))<|qr (DH (qc Mz (qB Cd T.Ei De<|Cp (pv 0)) AD) (LU (pv 0) AD) AD),?_};cases k with
 |list j=>
  let(t,x,O,z,hx):=D;show{t,_,_,_,O,O,Ec.of z,Kn,O,_,O,Nt O {t,_,_,_,O,O,Ec.of z,dh,hk _ O _ _ _ _ {x,n,O,hx,lC hok,q}}}
 |upto m=>let(t,O,z):=D;show{t,_,_,_,O,O,Ec.of z,Kn,O,_,O,FM Ta {t,_,O,.inr<|Ec.of z,_,O,BX {t,_,_,_,O,O,Ec.of z,dh,q}}}|text m=>let(t,O,z):=D;show{t,_,_,_,O,O,Ec.of z,Kn,O,_,O,FM Ta {t,_,O,.inr<|Ec.of z,_,O,BX {t,_,_,_,O,O,Ec.of z,dh,q}}}|form m=>let(t,O,z):=D;show{t,_,_,_,O,O,Ec.of z,Kn,O,_,O,FM Ta {t,_,O,.inr<|Ec.of z,_,O,BX {t,_,_,_,O,O,Ec.of z,dh,q}}}|_=>let(t,O,z):=D;show{t,_,_,_,O,O,Ec.of z,Kn,O,_,O,FM Ta {t,_,O,.inr<|Ec.of z,_,O,BM q}}
def iK:Sp:=λvs H Q E=>∃i:Unit×Lk,Pw i.1 i.2 vs H Q E
def oG(T:Tx K mg):∅ 6 1191 Al iK:=Tb Pw (λa k vs H Q E h=>by let(_,n,_,_,h,_):=h;show{(n),h}) λr j a k G z=>WQ T a G z
inductive kh(vs:List V)(H:Hp)(Q:VK):Prop|mk (fv:V) (gs:List SG) (b:Int) (Ws:List Int) (_:vs=[fv]) (_:di H gs fv) (_:yW b gs Ws) (_:rh H Q (((Eu gs).map Gw).map V.str))
def nE:Sp:=λvs H Q _=>kh vs H Q
abbrev lS(l L:AH)(j v3 v4 v5 v6 v7 v8 v9:Option V):L2.St:=[Y (.ref l),Y<|.ref L,j,v3,v4,v5,v6,v7,v8,v9]
def JB(h:Ct z=Z):EL (.s z)=z:=A1N λe=>by
 have:=(Er h).1;rw[e]at this;show A1Q this Ab
def TM(h:k.ok n)(hn:n<=8): (Fk k).natAbs<10 ^ 80:=by
 let z:MN<10 ^ 80:=⋯
 let fl:∀{k:Lk},k.plain\/(∃i,k= .form i/\i<n)->(Fk k).natAbs<10 ^ 80:=λ{k} h=>by
  rcases h with h|⟨i,rfl,hi⟩
  ·cases k with|upto m=>let h1:=h.1;let h2:=h.2;change m.natAbs<_;lia|text m=>let h1:=h.1;let h2:=h.2;change m.natAbs<_;lia|form i=>show h.elim|list j=>show h.elim|_=>show(by decide: (0:Int).natAbs<10 ^ 80)
  change((i:Int)).natAbs<_
  lia
 cases k with|list j=>show fl (k:=j) h|form i=>show fl<|.inr {(i),O,h}|upto m=>show fl (k:=.upto m)<|.inl h|text m=>show fl (k:=.text m)<|.inl h|_=>show(by decide: (0:Int).natAbs<10 ^ 80)
def XJ:∀k:Lk,k.ok n->(CY k).natAbs<10 ^ 80
 |.list k,h=>by
  rcases h with h|⟨i,rfl,_⟩
  ·cases k with|form i=>show h.elim|list j=>show h.elim|truth=>show(by decide: (10:Int).natAbs<10 ^ 80)|count=>show(by decide: (11:Int).natAbs<10 ^ 80)|whole=>show(by decide: (12:Int).natAbs<10 ^ 80)|upto _=>show(by decide: (13:Int).natAbs<10 ^ 80)|text _=>show(by decide: (14:Int).natAbs<10 ^ 80)
  show(by decide: (15:Int).natAbs<10 ^ 80)
 |.truth,_=>by decide|.count,_=>by decide|.whole,_=>by decide|.upto _,_=>(by decide: (3:Int).natAbs<10 ^ 80)|.text _,_=>(by decide: (4:Int).natAbs<10 ^ 80)|.form _,_=>(by decide: (5:Int).natAbs<10 ^ 80)
def uG(h:Ct g.nam=Z): (KL g).map EL=([("form" :AT),g.nam,toS<|if g.choice then 1 else 0,toS (g.fields.length:Int)]:List AT):=by unfold KL;rw[AV,AV,JB h];rfl
def xk(h:Ct f.nam=Z): (Mt f).map EL=([("field" :AT),toS f.num,f.nam]:List AT) ++[toS (CY f.kind),toS<|Fk f.kind,toS<|if f.must then 1 else 0,EL<|Gv f]:=by unfold Mt;rw[AV,AV,AV,JB h];rfl
def vF(b:Bool): (if b=Z then (1:Int)else 0).natAbs<10 ^ 80:=by cases b <;> decide
def Mp(h:XW n c f): (f.kind= .text m->∃z,f.dfl= .str z/\Gv f= .s z/\z.length<=12/\BW z=Z)/\((∀m,f.kind≠ .text m)->zK f.kind=ge->(∃b,f.dfl= .bl b/\Gv f= .n (if b then 1 else 0))\/∃i,f.dfl= .int i/\Gv f= .n i/\i.natAbs<10 ^ 80)/\(zK f.kind=Z->Gv f= .n 0):=by
 let hd:f.dfl=CZ f.kind\/QU f.kind f.dfl:=h.dfl.imp id λz=>z.2.2;let D:=h.kind;let U:MN<10 ^ 80:=⋯
 let(num,nam,kind,must,dfl):=f;let F: (0:Int).natAbs<10 ^ 80:=by decide
 cases kind with
 |truth=>
  show{(λe=>by cases e),λ_ _=>.inl ?_,(λe=>by cases e)};rcases hd with e|e;·show{ge,e,by rw[show dfl= .bl ge from e];rfl}
  show{Z,e,by rw[show dfl= .bl Z from e];rfl}
 |count=>
  show{(λe=>by cases e),λ_ _=>.inr ?_,(λe=>by cases e)};rcases hd with e|⟨i,e,h1,h2⟩;·show{0,e,by rw[show dfl= .int 0 from e];rfl,F}
  show{i,e,by rw[show dfl= .int i from e];rfl,()}
 |whole=>
  show{(λe=>by cases e),λ_ _=>.inr ?_,(λe=>by cases e)};rcases hd with e|⟨i,e,h1,h2⟩;·show{0,e,by rw[show dfl= .int 0 from e];rfl,F}
  show{i,e,by rw[show dfl= .int i from e];rfl,()}
 |upto m=>
  let hm:m<=MN:=D.2;show{(λe=>by cases e),λ_ _=>.inr ?_,(λe=>by cases e)};rcases hd with e|⟨i,e,h1,h2⟩;·show{0,e,by rw[show dfl= .int 0 from e];rfl,F}
  show{i,e,by rw[show dfl= .int i from e];rfl,()}
 |text m=>
  show{λ_=>?_,λe=>A1Q O<|e m,(λe=>by cases e)};rcases hd with e|⟨z,e,h1,h2⟩;·show{"",e,by rw[show dfl= .str "" from e];rfl,Ab,Ab}
  show{z,e,by rw[show dfl= .str z from e];rfl,(Er h1).2.1,RA h1}
 |form i=>show{(λe=>by cases e),(λ_ e=>by cases e),λ_=>rfl}|list j=>show{(λe=>by cases e),(λ_ e=>by cases e),λ_=>rfl}
def tH(h:XW n c f): (Gv f).ok:=by
 by_cases j:∃m,f.kind= .text m;·let(m,hm):=j;let(z,_,e,h1,h2):=(Mp h (m:=m)).1 hm;rw[e];show{AU h1 Aa,h2}
 let(_,w2,F):=Mp h (m:=0);cases D:zK f.kind with
 |true=>rw[F D];show(by decide: (0:Int).natAbs<10 ^ 80)
 |false=>
  rcases w2 (λm e=>j ⟨m,e⟩) D with⟨b,_,e⟩|⟨i,_,e,h⟩;·rw[e];show vF b
  rw[e];show h
def oF(T:Tx K mg):∅ 7 1198 ["_law_forms_here"] nE:=by
 show(T.df 54 O).okA Fv ?_;intro 1 hr h;let(fv,gs,b,Ws,O,(l,as,O,hl,hp),a1,q):=h;let U:=MD hr;show{_,AJ (qS 1 Fv.nd<|Cq Ed)<|Bk (HM Dn O (DS<|pv 0) (BQ (i:=2) Fv.nd O<|Ci O)<|AJ (qS 3 Fv.nd<|Cq (AY AR<|AY (Fy U (pv 2) AR λ_ _=>rfl) (Cy (qT DY T.IU GF<|Cp (qT Ib T.Kr HQ<|Cp (Fy U (pv 2) AR λ_ _=>rfl)))<|qT DY T.IU GF (Cp<|qB Cd T.Ei De (Cp<|Fy U (pv 2) AR (λ_ _=>rfl)))))) (Bk (Ds<|Ej Bg BG BF Du (pv 1) (Cp<|Ej Cr EG EF Nq AR (Cp<|pv 3)))<|BO (HM Dn O (DS<|Fy U (pv 2) AR (λ_ _=>rfl)) (cg O (n:=5)<|CJ (BQ (i:=4) Fv.nd O<|Ci O) (CJ (BQ (i:=5) Fv.nd O<|Ci O)<|CJ (BQ (i:=6) Fv.nd O<|Ci O) (CJ (BQ (i:=7) Fv.nd O<|Ci O)<|CJ (BQ (i:=8) Fv.nd O<|Ci O) Jp)))<|AJ (qS 9 Fv.nd AR) (Bk (OH (qc CU (LU (pv 6) AD) AR) (BO<|qS 9 Fv.nd (DH (qc Qu (pv 8) AR) (pv 8) AR))<|BO (qi (Jo cu (LU (pv 6) AD) (DC<|Cy AR AR) O)<|BO (qS 9 Fv.nd<|qT DY T.IU GF (Cp<|qT Ib T.Kr HQ (Cp<|pv 8)))))<|AJ (qS 3 Fv.nd<|Cq (AY AR<|Cy (qT DY T.IU GF<|Cp (pv 4)) (pv 5))) (AJ (qS 3 Fv.nd<|Bt JO (pv 3) (Cq<|AY (qT DY T.IU GF<|Cp (qD (@tX P w K mg base T) hr T.kH<|Cp (pv 6))) (AY (qT DY T.IU GF<|Cp (qD (@oG P w K mg base T) hr T.dU<|Cp (pv 6)))<|Cy (qT DY T.IU GF<|Cp (qT Ib T.Kr HQ<|Cp (pv 7))) (pv 9))))<|BO (Ds<|Ej Bg BG BF Du (pv 1) (Cp<|Ej Cr EG EF Nq AR (Cp<|pv 3)))))))) (qr<|pv 1),?_};let b9:gs.length=as.length:=hp.length;let h4:=a1.l4;let hn:=a1.sp.nms ();show{zl 0,λL hL=>?_};let s0:=Bd (u:=.lst []) hL;show CD (λσ' H'=>(∃v2 v3 v4 v5 v6 v7 v8 v9,σ'=lS l L v2 v3 v4 v5 v6 v7 v8 v9)/\AZ H H'/\H' L=Y (.lst<|((Eu gs).map Gw).map V.str)) ?_ ?_
 ·show{l,O,{_,Cg.of<|s0 _ _ hl},ME (xs:=as.map V.ref) (λi σ' H'=>(∃v2 v3 v4 v5 v6 v7 v8 v9,σ'=lS l L v2 v3 v4 v5 v6 v7 v8 v9)/\AZ H H'/\H' L=Y (.lst<|((Eu<|gs.take i).map Gw).map V.str)) {{(_),_,_,_,_,_,_,_,O},s0,Az} (λi σ' H' _ h=>Cg.of<|h.2.1 _ _ hl) (λi x σ' H1 hx h=>?_) λσ' H' h=>?_}
  ·let((v2,v3,v4,v5,v6,v7,v8,v9,O),s1,c8):=h;rw[AQ]at hx;let(a,ha,O):=Bp.mp hx;let(g,hg,fl,rs,hA,hF,hR):=GO hp i a ha;let a2:=a1.sp.ok i g hg;let f9:=(AO.mp hg).1;let c1:=(hn.ok g.nam<|Bb.mpr {g,AN hg,O}).1;let a9:=s1 _ _ hA;let h5:=a2.len;let b6:rs.length=g.fields.length:=hR.length.symm;let b7:∀j,(Eu<|gs.take j).length<=24:=λj=>by
    have: (Eu<|gs.take j).length<=6* (gs.take j).length:=cS λg' d9=>by
     let(m,hm):=CP.mp<|Dz d9;unfold Qt;rw[BJ,Ay];have:=(a1.sp.ok m g' hm).len
     lia
    rw[Cb]at this
    lia
   let lg:∀{z:Int},z.natAbs<10 ^ 80->z.natAbs.log2<1920:=Ts;show{a,_,O,Sh a9,a,_,O,Pa a9,.inr {_,O,_,O,lg<|vF _,a,_,O,Ji a9,fl,_,O,.inl<|Cg.of (s1 _ _ hF),_,O,?_,zl 4,λw hw=>?_}};·rw[Ay];show lg (by change((rs.length:Int)).natAbs<_;lia)
   let s2:=s1.trans<|Bd (u:=.lst [.str "form",.str g.nam,.str<|toS (if g.choice then 1 else 0),.str<|toS ((rs.map V.ref).length:Int)]) hw
   let c7:=(Bd (u:=.lst [.str "form",.str g.nam,.str<|toS (if g.choice then 1 else 0),.str<|toS ((rs.map V.ref).length:Int)]) hw) _ _ c8
   let f6:w≠L:=λz=>by rw[z,c8]at hw;cases hw
   show CD (λσ' H'=>(∃v3,σ'=lS l L (Y<|.ref a) v3 v4 v5 v6 v7 v8 v9)/\AZ H H'/\H' L=Y (.lst<|((Eu (gs.take i) ++[KL g]).map Gw).map V.str)) ?_ ?_
   ·let e1:Gw (KL g)=FD " " ["form",g.nam,toS<|if g.choice then 1 else 0,toS ((rs.map V.ref).length:Int)]:=by unfold Gw;rw[uG c1,Ay,b6]
    show{.inl {O,_,Cg.of c7},O," ",w,["form",g.nam,toS<|if g.choice then 1 else 0,toS ((rs.map V.ref).length:Int)],O,O,Cg.of Az,Sc (by change 4<=1000;decide) (λy hy=>?_) Ab,L,_,_,O,O,c7,?_,{(_),O},s2.put hL,?_}
    ·simp only[Bf,Cm,or_false]at hy;rcases hy with rfl|rfl|rfl|rfl
     ·decide+kernel
     ·show AU (Er c1).2.1 Aa
     ·show AU (Kb<|vF _) Aa
     show AU (Kb<|by rw[Ay];change((rs.length:Int)).natAbs<_;lia) Aa
    ·rw[Ay,Ay];show CW<|AU (b7 i) Aa
    rw[Az,<-e1,Bl,Bl];rfl
   rintro σ' H2 ⟨⟨f3,rfl⟩,a5,c6⟩;show{a,_,O,Ji<|a5 _ _ hA,fl,O,{_,Cg.of<|a5 _ _ hF},ME (xs:=rs.map V.ref) (λj σ' H'=>(∃v3 v4 v5 v6 v7 v8 v9,σ'=lS l L (Y<|.ref a) v3 v4 v5 v6 v7 v8 v9)/\AZ H H'/\H' L=Y (.lst<|((Eu (gs.take i) ++ (KL g:: (g.fields.take j).map Mt)).map Gw).map V.str)) {{(_),_,_,_,_,_,_,O},a5,c6} (λj σ' H' _ h=>Cg.of<|h.2.1 _ _ hF) (λj x σ' H3 hx h=>?_) λσ' H' h=>?_}
   ·let((v3,v4,v5,v6,v7,v8,v9,O),s3,a7):=h;rw[AQ]at hx;let(r,d7,O):=Bp.mp hx;let(f,hf,kv,dv,b5,hT,hD):=GO hR j r d7;let D:=a2.fs f<|AN hf;let c2:=(a2.nms.ok f.nam<|Bb.mpr {f,AN hf,O}).1;let g0:=a2.nums f<|AN hf;let c4:=hT.sm<|Sm.of s3;let hj:=(AO.mp hf).1;show{r,_,O,Cg.of<|s3 _ _ b5,O,_,_,O,_,_,O,_,_,O,_,_,O,_,_,O,O,?_};show CD (λσ' H'=>σ'=lS l L (Y<|.ref a) v3 (Y<|.int f.num) (Y<|.str f.nam) (Y kv) (Y<|.bl f.must) (Y dv) (Y<|.str (EL<|Gv f))/\AZ H3 H') ?_ ?_
    ·let(w1,w2,w3):=Mp D (m:=0);let(t,ys,O,ht):=c4.word;let a8:=Th.sm (Sm.of s3) _ _ hD;show{t,_,_,_,O,O,Ec.of ht,Kn,O,_,O,?_};by_cases a6:∃m,f.kind= .text m
     ·let(m,hm):=a6;let(z,ez,ep,_):=(Mp D (m:=m)).1 hm;obtain⟨rfl,_⟩:dv= .str z/\_:=(ez ▸ a8:Th H3 (.str z) dv);let et:EL (Gv f)=if z="" then ("-" :AT)else z:=by rw[ep];rfl
      rw[hm,et];show Nt O {O,_,O,?_};by_cases hz:z="";·rw[hz,A1O O];show BM {O,AZ.refl _}
      rw[A1N hz,A1L λe=>hz<|V.str.inj e];show BX {O,AZ.refl _}
     let nt:¬V.str f.kind.word=V.str "text":=by cases hk:f.kind with|text m=>show A1Q {(m),hk} a6|_=>show Ta
     show FM nt {t,_,_,_,O,O,Ec.of ht,Kn,zl 2,λp d8=>{p,_,O,.inr<|Ec.of Az,O,mj,_,O,?_}};let s4:=Bd (u:=.tup [.str "list",.str "form"]) d8;rw[zM];cases b8:zK f.kind with
     |true=>
      rw[w3 b8];show BM {(O),s4}
     |false=>
      rcases w2 (λm e=>a6 ⟨m,e⟩) b8 with⟨b',e1,e2⟩|⟨i',e1,e2,e3⟩;·obtain rfl:dv= .bl b':=(e1 ▸ a8:Th H3 (.bl b') dv);rw[e2];show BX<|.inr {_,O,_,O,lg<|vF _,O,s4}
      obtain rfl:dv= .int i':=(e1 ▸ a8:Th H3 (.int i') dv);rw[e2];show BX<|.inl {_,O,_,O,lg e3,O,s4}
    rintro σ' H4 ⟨rfl,s4⟩;let c3:=c4.sm<|Sm.of s4;let cd:=XJ f.kind D.kind;let bd:=TM D.kind ();let pk: (EL<|Gv f).length<=1000:=kP<|tH D;show{_,O,lg (by change f.num.natAbs<_;lia),zl 3,λw1 d6=>?_};let t1:=Bd (u:=.lst [.str "field",.str<|toS f.num,.str f.nam]) d6;show{(Unit.unit,f.kind),kv,i,O,c3.sm<|Sm.of t1,D.kind,λH5 t2=>{_,O,lg cd,(Unit.unit,f.kind),kv,i,O,(c3.sm<|Sm.of t1).sm<|Sm.of t2,D.kind,_,O,lg bd,.inr {_,O,_,O,lg<|vF _,zl 4,λw2 d5=>?_}}};let t3:=Bd (u:=.lst [.str (toS<|CY f.kind),.str<|toS (Fk f.kind),.str<|toS (if f.must then 1 else 0),.str<|EL (Gv f)]) d5
    show{w1,w2,_,_,O,O,t3 _ _<|t2 _ _ Az,Az,zl 7,λw3 d4=>?_};let t4:=Bd (u:=.lst<|[.str "field",.str<|toS f.num,.str f.nam] ++[.str (toS<|CY f.kind),.str<|toS (Fk f.kind),.str<|toS (if f.must then 1 else 0),.str<|EL (Gv f)]) d4
    let sA:=((t1.trans t2).trans t3).trans t4;let c5:=sA _ _<|s4 _ _ a7;let e1:Gw (Mt f)=FD " " (([("field" :AT),toS f.num,f.nam]:List AT) ++[toS (CY f.kind),toS<|Fk f.kind,toS<|if f.must then 1 else 0,EL<|Gv f]):=by unfold Gw;rw[xk c2]
    show{.inl {O,_,Cg.of c5},O," ",w3,([("field" :AT),toS f.num,f.nam]:List AT) ++[toS (CY f.kind),toS<|Fk f.kind,toS<|if f.must then 1 else 0,EL<|Gv f],O,O,Cg.of Az,Sc (by change 7<=1000;decide) (λy hy=>?_) Ab,L,_,_,O,O,c5,?_,{(_),_,_,_,_,_,_,O},((s3.trans s4).trans sA).put hL,?_}
    ·simp only[List.cons_append,List.nil_append,Bf,Cm,or_false]at hy;rcases hy with rfl|rfl|rfl|rfl|rfl|rfl|rfl
     ·decide+kernel
     ·show AU (Kb<|by change f.num.natAbs<_;lia) Aa
     ·show AU (Er c2).2.1 Aa
     ·show AU (Kb cd) Aa
     ·show AU (Kb bd) Aa
     ·show AU (Kb<|vF _) Aa
     show pk
    ·rw[Ay,Ay,AS,BJ,Ay,Cb];have:=b7 i;show CW ()
    rw[Az,<-e1,Oz hf];simp
   rw[Ay,b6,Dj]at h;let((v3,v4,v5,v6,v7,v8,v9,O),s3,a7):=h;show{{(_),_,_,_,_,_,_,_,O},s3,?_};rw[a7,WF gs i hg];rfl
  rw[Ay,<-b9,Dj]at h;show h
 rintro σ' H' ⟨⟨v2,v3,v4,v5,v6,v7,v8,v9,rfl⟩,s',e'⟩;show q L _ hL s' e'
def ju(z y:AT):List AT:=((sg z).filter λc=>!dG y c).map one
def lE(z y:AT):decide (ju z y=[])=MC z y:=by unfold ju MC;rw[IP,decide_eq_true_eq,Ik,List.filter_eq_nil_iff,Bz];simp
def oK(z y:AT)(j:Nat):Bool:=match (sg z)[j]? with
 |some c=>!dG y c|none=>ge
def oN(z:AT)(j:Nat):V:=match (sg z)[j]? with
 |some c=>.str<|one c|none=>.non
def ax(z y:AT): ((BN (lp z).length).filter<|oK z y).map (oN z)=(ju z y).map V.str:=by rw[Nh,<-Ha,Nl (sg z) (λc=>!dG y c) (λc=>V.str<|one c) _ _ (λi d e=>by unfold oK;rw[e]) (λi d e=>by unfold oN;rw[e])];unfold ju;rw[Br];rfl
def cE{z:AT}(h: (sg z)[j]?=Y c):oK z y j= !dG y c/\oN z j= .str (one c):=by unfold oK oN;rw[h];show{(O),O}
def lD(h:BW z=Z):∀s∈ju z y,BW s=true:=λs hs=>by
 let(c,hc,O):=Bb.mp hs;have:=Lv.mp h c (Fb.mp hc).1;show Lv.mpr λd hd=>by rw[show d=c from Bc.mp hd];show this
inductive vT(vs:List V)(H:Hp)(Q:VK):Prop|mk (z:AT) (_:vs=[.str z]) (_:z.length<=1000) (_:BW z=true) (_:z≠ "") (_:∀H',AZ H H'->Q (NY z) H')
def wS:Sp:=λvs H Q _=>vT vs H Q
inductive qj(vs:List V)(H:Hp)(Q:VK):Prop|mk (z:AT) (_:vs=[.str z]) (_:z.length<=1000) (_:BW z=true) (_:∀H',AZ H H'->Q (.bl<|Ct z) H')
def rW:Sp:=λvs H Q _=>qj vs H Q
def dF:Option Int->V|some n=>.int n|none=>.non
def RV(z:AT):NY z=dF (BI z):=by rw[jv];cases BI z <;> rfl
def GQ:Option Int->Int->Int->Bool|some n,a,b=>decide (a<=n) &&decide (n<=b)|none,_,_=>ge
inductive qA(vs:List V)(H:Hp)(Q:VK):Prop|mk (o:Option Int) (a b:Int) (_:vs=[dF o,.int a,.int b]) (_:Q (.bl<|GQ o a b) H)
def sr:Sp:=λvs H Q _=>qA vs H Q
def T9: ((["_law_sign"]:List AT) ++ ([]:List AT)).Nodup:=⋯
def Sr{K:AB}(h:H t=Y (.lst [])):MK K H (.ref t) (.list []):=.lst (Cg.of h) .nil
def MH{K:AB}{ys:List AT}(h:H t=Y (.lst<|ys.map V.str)):MK K H (.ref t) (.list<|ys.map GK):=.lst (Cg.of h)<|XG ys
def bI:Dy (.list [])=true:=GZ (ys:=[]) λ_ h=>nomatch h
def mr(ys:List AT):FU (.list<|ys.map GK) (.list [])=decide (ys=[]):=vc ys []
def WT(T:Tx K mg):∅ 1 1215 Aq sr:=by
 show(T.df 57 O).okA sQ ?_;intro 1 hr h;let(o,a,b,O,q):=h;show{_,qr<|DT (Da Vp (pv 0) DG<|DW _) (ED<|RN NK NK (pv 1) (pv 0) (pv 2)),O,_,O,?_};cases o with
 |none=>show BM q
 |some n=>
  let j:Q (.bl<|decide (a<=n) &&decide (n<=b)) H:=q;show BX {_,O,DL (λh=>?_) λh=>?_};·rw[h,BL]at j;show j
  rw[show decide (a<=n)=ge by simpa using h,BR]at j;show j
def WP(T:Tx K mg):∅ 1 1208 Ap rW:=by
 show(T.df 56 O).okA bM ?_;intro 1 hr h;let(z,O,hz,hs,q):=h;show{_,qr<|DT (RN NK NK AD (qB Gk T.Ei De<|Cp (pv 0)) AD) (ED<|Da (OL hr.units) (qp ["_law_sign"] [] [] .nil (cf<|pv 0) (λC s_ H_ fp=>BQ (i:=0) T9 O (Ci O)<|DN O) (λC s_ H_ fp=>PF<|Jo RO (pv 0) AR O) λC s_ H_ fp=>pv 0) (Cq Ed) (DW _)),?_};let e0:Ct z=((decide (1<=z.length) &&decide (z.length<=12)) &&MC z Yb):=rfl;let fin: (decide (1<=z.length) &&decide (z.length<=12))=Z->∀D H',AZ H H'->H' D=Y (.lst<|(ju z Yb).map V.str)->∀E,H' E=S->T3 K (.ref D) (.ref E) (upd H' E<|.lst []) Q:=λh D H' s' hD E hE=>by
  let s2:=Bd (u:=.lst []) hE;show{_,_,MH<|s2 _ _ hD,Sr Az,GZ<|lD hs,bI,?_};rw[mr,lE];have:=q _<|s'.trans s2;rw[e0,h,BL]at this;show this
 show{z,O,Gq hz,_,O,DL (λh1=>?_) λh1=>?_}
 ·show{_,O,DL (λh2=>?_) λh2=>?_}
  ·let a5: (decide (1<=z.length) &&decide (z.length<=12))=true:=by let a1:=A1M h1;let a2:=A1M h2;rw[A1K (show 1<=z.length by lia),A1K (show z.length<=12 by lia)];rfl
   show{z,O,Jj (Wk.str z) (by rw[Nh];show hz) (oK z Yb) (oN z) (λj x hx H2 R s2 hR hN=>?_) λD H2 hD s2 e2=>{zl 0,λE hE=>fin a5 D H2 s2 (by rw[e2,ax]) E hE}};unfold lp at hx;rw[AQ]at hx;let(c,hc,O):=Bp.mp hx;let F:=hR H2<|AZ.refl _;let U:=hN H2<|AZ.refl _;rw[(cE (y:=Yb)<|show(sg z)[j]?=Y c from hc).1]at F U;rw[(cE (y:=Yb)<|show(sg z)[j]?=Y c from hc).2]at F;show{Sub.set O,_,_,O,O,_,O,?_};change(if (!dG Yb c)=Z then _ else _)
   cases hi: (!dG Yb c)with|true=>show BX<|F hi|false=>show BM<|U hi
  have:=q H<|AZ.refl _;rw[e0,A1L (show ¬z.length<=12 by let h3:¬ ((z.length:Int)<=12):=λe=>h2<|A1K e;lia),Dg,BR]at this;show this
 have:=q H<|AZ.refl _;rw[e0,A1L (show ¬1<=z.length by let h3:¬ ((1:Int)<= (z.length:Int)):=λe=>h1<|A1K e;lia),BR,BR]at this;show{_,O,BM this}
def aa(z:AT):sg (El z S<|Y 1)=(sg z).take 1:=ac z Aa
def jx(z:AT):decide (V.str (El z S<|Y 1)=V.str (BV "-"))=KJ (sg z):=by
 unfold KJ;rw[decide_eq_decide];constructor
 ·intro h;let h:=A1P sg<|V.str.inj h;rw[aa,RX]at h;cases hs:sg z with|nil=>rw[hs]at h;cases h|cons c r=>rw[hs]at h;let h: [c]=[45]:=h;cases h;rfl
 intro h;show A1P V.str<|VW ?_;change sg (El z S<|Y 1)=sg (BV "-");rw[aa,RX];cases hs:sg z with|nil=>rw[hs]at h;cases h|cons c r=>rw[hs]at h;obtain rfl:c=45:=AE h;rfl
def uH{f:AT}{c:Nat}{r:List Nat}(h:sg f=c::r):TN f.cps.toList 0=Y c:=by rw[show f.cps.toList=c::r from h];show Kn
def lA(T:Tx K mg):∅ 1 1203 Ap wS:=by
 show(T.df 55 O).okA OD ?_;intro 1 hr h;let(z,O,hz,a4,b8,q):=h;show{_,Bk (qS 1 OD.nd<|DH (qc CU (Gu QP (pv 0) HI<|HH AD) AR) (Gu QP (pv 0) (HH AD) HI) (pv 0))<|Bk (qi (PW.pt<|EX (Cn<|fF NK NK AD (qB Gk T.Ei De<|Cp (pv 1)) AD) (ET<|qc (LX hr.units) (qp ["_law_sign"] [] [] .nil (cf<|pv 1) (λC s_ H_ fp=>BQ (i:=0) T9 O (Ci O)<|DN O) (λC s_ H_ fp=>PF<|Jo RO (pv 0) AR O) λC s_ H_ fp=>pv 0) (Cq Ed)))<|qr DG) (AJ (qi (PW.pt<|OG (qc CU (Mx TB (pv 1) AD λ_ _=>rfl) AR) (Ly<|qc Qu (pv 0) AR))<|qr DG)<|qr (qT Jt T.Kr HQ<|Cp (pv 0))),?_};let non:NY z= .non->∀H',AZ H H'->Q .non H':=λe H' s=>by rw[<-e];show q _ s
 show CD (λσ' H'=>∃f,sg f=Dc (sg z)/\σ'=[Y (.str z),Y<|.str f]/\H=H') ?_ ?_
 ·show{_,O,z,O,Gq hz,O,_,O,?_};rw[jx];cases hn:KJ (sg z)with
  |true=>
   show BX {1,O,z,O,Gq hz,_,?_,O,O};rw[Uu];unfold Dc;rw[hn];rfl
  |false=>
   show BM {z,?_,O,O};unfold Dc;rw[hn];rfl
 rintro σ' H' ⟨f,ef,rfl,rfl⟩;let hf:=AU (gj ef) hz;let b3:BW f=true:=by
  show Lv.mpr λc hc=>?_;let hc:c∈sg f:=hc;rw[ef]at hc;unfold Dc at hc;split at hc;·show Lv.mp a4 c<|FW hc
  show Lv.mp a4 c hc
 show CD (λσ' H'=>Sk (Dc<|sg z)=Z/\σ'=[Y (.str z),Y<|.str f]/\AZ H H') ?_ ?_
 ·show{f,O,Gq hf,_,O,DL (λh1=>?_) λh1=>?_}
  ·let a1: (1:Int)<= (f.length:Int):=A1M h1;show{_,O,?_};by_cases a2: (f.length:Int)<=80
   ·rw[A1K a2];show BM {f,O,Jj (Wk.str f) (by rw[Nh];show hf) (oK f qJ) (oN f) (λj x hx H2 R s2 hR hN=>?_) λD H2 hD s2 e2=>{zl 0,λE hE=>?_}}
    ·unfold lp at hx;rw[AQ]at hx;let(c,hc,O):=Bp.mp hx;let U:=hR H2<|AZ.refl _;let a6:=hN H2<|AZ.refl _;rw[(cE (y:=qJ)<|show(sg f)[j]?=Y c from hc).1]at U a6;rw[(cE (y:=qJ)<|show(sg f)[j]?=Y c from hc).2]at U;show{Sub.set O,_,_,O,O,_,O,?_};change(if (!dG qJ c)=Z then _ else _)
     cases hi: (!dG qJ c)with|true=>show BX<|U hi|false=>show BM<|a6 hi
    let s3:=Bd (u:=.lst []) hE;let e2:H2 D=Y (.lst<|(ju f qJ).map V.str):=by rw[e2,ax]
    show{_,_,MH<|s3 _ _ e2,Sr Az,GZ<|lD b3,bI,_,O,?_};rw[mr,lE];let a8:Sk (Dc<|sg z)=MC f qJ:=by rw[<-ef,PP,A1K (show 1<=f.length by lia),A1K (show f.length<=80 by lia)];rfl
    cases hm:MC f qJ with|true=>show BM {a8.trans hm,O,s2.trans s3}|false=>show BX<|non (OR<|a8.trans hm) _ (s2.trans s3)
   rw[A1L a2];show BX (non (OR<|by rw[<-ef,PP,A1L (show ¬f.length<=80 by lia),Dg,BR]) _<|AZ.refl _)
  let a1:¬ (1:Int)<= (f.length:Int):=λe=>h1<|A1K e;show{_,O,BX<|non (OR<|by rw[<-ef,PP,A1L (show ¬1<=f.length by lia),BR,BR]) _ (AZ.refl _)}
 rintro σ' H1 ⟨hb,rfl,s1⟩;let(i1,i2):=Xv hb;let fin:¬ (Dc<|sg z).head?=Y 48\/sg z=[48]->Q (.int<|UG (sg z)) H1:=λh0=>by
  rw[<-ay hb h0];show q _ s1
 let(_,a5,_):=JC hb;cases F:Dc (sg z)with
 |nil=>show A1Q F a5
 |cons c r=>
  show{f,_,_,O,O,Gq hf,uH<|ef.trans F,O,_,O,DL (λh0=>?_) λh0=>?_}
  ·let hc: (Dc<|sg z).head?=Y 48:=by have:=A1P sg<|V.str.inj (A1M h0);rw[Ps]at this;have: [c]=[48]:=this;rw[F,(Fi this).1];rfl
   show{O,_,O,DL (λh1=>?_) λh1=>?_};·rw[So]at h1;show non (Uw hb hc<|by simpa using h1) _ s1
   rw[So]at h1;show{z,_,O,i1,i2,fin<|.inr (by simpa using h1)}
  let hc:¬ (Dc<|sg z).head?=Y 48:=λe=>h0 (A1K (A1P V.str (VW (by
   rw[F]at e;obtain rfl:c=48:=AE e;rw[Ps]))))
  show BM {z,_,O,i1,i2,fin<|.inl hc}
structure yU(y:AT):Prop where
 len:y.length<=1000
 sok:BW y=Z
 ne:y≠ ""
def ml(ys zs:List AT):Bool:=match ys with
 |[_,a,b,c]=>Ct a&& (!decide (a∈zs) && (!decide (zs.length>7) && (GQ (BI b) 0 1&&GQ (BI c) ((BI b).getD 0) 10)))|_=>ge
inductive qu(vs:List V)(H:Hp)(Q:VK):Prop|mk (p q:AH) (ys zs:List AT) (_:vs=[.ref p,.ref q]) (_:H p=some (.lst<|ys.map V.str)) (_:H q=some (.lst<|zs.map V.str)) (_:∀y∈ys,yU y) (_:∀H',AZ H H'->Q (.bl<|ml ys zs) H')
def se:Sp:=λvs H Q _=>qu vs H Q
def FS(h:GQ o a b=Z):∃n,o=Y n/\a<=n/\n<=b:=by
 cases o with
 |none=>cases h
 |some n=>
  have:=(AA _ _).mp h;show{n,O,A1M this.1,A1M this.2}
def tZ(T:Tx K mg):∅ 2 1222 ["_law_words","_law_names"] se:=by
 let Gn:=@lA P w K mg base T;show(T.df 58 O).okA RG ?_;intro 1 hr h;let(p,q,ys,zs,O,hp,hq,hw,qQ):=h;show{_,Bk (qi (PW.pt<|EX (qc Qu (qB Cd T.Ei De<|Cp (pv 0)) AD) (EX (Cn<|BA (qD (@WP P w K mg base T) hr T.Nc<|Cp (KE (pv 0) AD)))<|EX (Jo Jf (KE (pv 0) AD) (pv 1) O) (ET<|qc Mz (qB Cd T.Ei De<|Cp (pv 1)) AD)))<|qr Dk)<|AJ (D6 (i:=2) (j:=3) O RG.nd O O Aa O O (Cy (qD Gn hr T.Ip<|Cp (KE (pv 0) AD))<|qD Gn hr T.Ip (Cp<|KE (pv 0) AD)) O) (qr<|DT (qD (@WT P w K mg base T) hr T.Ky<|AY (pv 2) (Cy AD AD)) (ED<|qD (@WT P w K mg base T) hr T.Ky (AY (pv 3)<|Cy (pv 2) AD))),?_};let no:ml ys zs=ge->∀H',AZ H H'->Q (.bl ge) H':=λe H' s=>e ▸ qQ H' s;show CD (λσ' H'=>∃z a b c,ys=[z,a,b,c]/\Ct a=Z/\decide (a∈zs)=ge/\decide (zs.length>7)=ge/\σ'=[Y (.ref p),Y<|.ref q,S,S]/\AZ H H') ?_ ?_
 ·show{p,_,O,.inl<|Cg.of hp,O,_,O,?_};rw[Ay];by_cases h4:ys.length=4
  ·rw[h4]
   match ys,h4 with
   |[z,a,b,c],_=>
    let ha:=hw a (by simp);let e0:ml [z,a,b,c] zs=(Ct a&& (!decide (a∈zs) && (!decide (zs.length>7) && (GQ (BI b) 0 1&&GQ (BI c) ((BI b).getD 0) 10)))):=rfl;rw[e0]at no;show BM {p,_,1,_,O,O,Cg.of hp,dh,a,O,ha.len,ha.sok,λH1 s1=>{_,O,?_}};cases hn:Ct a with
    |false=>rw[hn]at no;show BX<|no O _ s1
    |true=>
     rw[hn]at no;show BM {p,_,1,_,O,O,Cg.of<|s1 _ _ hp,dh,q,_,O,.inl<|Cg.of (s1 _ _ hq),O,MG _,_,O,?_};rw[Se];cases hi:decide (a∈zs)with
     |true=>rw[hi]at no;show BX<|no O _ s1
     |false=>
      rw[hi]at no;show BM {q,_,O,.inl<|Cg.of (s1 _ _ hq),_,O,?_};rw[Ay,show decide ((zs.length:Int) >7)=decide (zs.length>7)from decide_eq_decide.mpr ()];cases hl:decide (zs.length>7)with|true=>rw[hl]at no;show BX<|no O _ s1|false=>show BM {(z),a,b,c,O,hn,hi,O,O,s1}
  rw[A1L (λe=>h4 (by have:=V.int.inj e;lia))];show BX<|no ?_ _ (AZ.refl _)
  match ys,h4 with|[],_=>rfl|[_],_=>rfl|[_,_],_=>rfl|[_,_,_],_=>rfl|[_,_,_,_],h=>show A1Q O h|_::_::_::_::_::_,_=>rfl
 rintro σ' H1 ⟨z,a,b,c,rfl,hn,hi,hl,rfl,s1⟩;let hb:=hw b (by simp);let hc:=hw c (by simp);let e0:ml [z,a,b,c] zs=(GQ (BI b) 0 1&&GQ (BI c) ((BI b).getD 0) 10):=by change(Ct a&& (!decide (a∈zs) && (!decide (zs.length>7) && (GQ (BI b) 0 1&&GQ (BI c) ((BI b).getD 0) 10))))=_;rw[hn,hi,hl];rfl
 rw[e0]at qQ;let F:=s1 _ _ hp;show{p,_,2,_,O,O,Cg.of F,yS,b,O,hb.len,hb.sok,hb.ne,λH2 s2=>{p,_,3,_,O,O,Cg.of<|s2 _ _ F,O7,c,O,hc.len,hc.sok,hc.ne,λH3 s3=>{_,_,O,BI b,_,_,by rw[<-RV];rfl,_,O,?_}}};let D:=qQ H3<|s1.trans (s2.trans s3);cases h1:GQ (BI b) 0 1 with
 |false=>rw[h1]at D;show BM D
 |true=>
  rw[h1,BL]at D;let(n,U,_):=FS h1;rw[U]at D;show BX {BI c,n,_,?_,D};rw[<-RV];change [NY c,NY b,V.int 10]=_;rw[RV b,U];rfl
def FR(m c:Int):Int:=if c=3 then MN else if c=4 then 100 else if c=5 then m - 1 else 0
def Nd(b c:Int):Int:=if c=0 then 1 else if c=1 then MN else if c=2 then MW else if c=3 then b else 0
def Ge(ah:List (List AT)):Int:=match ah.getLast? with
 |some a=>(BI<|a.getD 1 "").getD 0|none=>0
def Gd(cd bd ms:Int)(pr:Bool)(j:AT):Bool:=if cd=4 then (decide (j="-") || (Ct j&& (decide ((j.length:Int)<=bd) && (decide (ms=0) && !pr))))else GQ (BI j) (if cd=2 then -MW - 1 else 0) (Nd bd cd) && (decide ((BI j).getD 0=0) || (decide (ms=0) && !pr))
def dH(ys:List AT)(ah:List (List AT))(m:Int)(pr:Bool):Bool:=match ys with
 |[_,w1,w2,j,D,z,F]=>Ct w2&& (!decide (w2∈ah.map λa=>a.getD 2 "") && (GQ (BI w1) (Ge ah+1) 200&& (GQ (BI j) 0 15&& (!(decide (5< (BI j).getD 0) &&decide ((BI j).getD 0<10)) && (GQ (BI D) (if (BI j).getD 0%10=3\/(BI j).getD 0%10=4 then 1 else 0) (FR m<|(BI j).getD 0%10) && (GQ (BI z) 0 (1 - if pr then 1 else 0) &&Gd ((BI j).getD 0) ((BI D).getD 0) ((BI z).getD 0) pr F))))))|_=>ge
def AhI(H:Hp)(ah:List (List AT))(v:V):Prop:=∃q as,v= .ref q/\H q=Y (.lst<|IK V.ref as)/\Paired (λys a=>H a=Y (.lst<|IK V.str ys)) ah as
structure n5(ah:List (List AT)):Prop where
 w2:∀a∈ah,∃z,a[2]?=Y z
 w1:∀a∈ah,∃z n,a[1]?=Y z/\BI z=Y n
 len:ah.length<=100
inductive kl(vs:List V)(H:Hp)(Q:VK):Prop|mk (p:AH) (qv:V) (ys:List AT) (ah:List (List AT)) (m:Int) (pr:Bool) (_:vs=[.ref p,qv,.int m,.bl pr]) (_:H p=some (.lst<|ys.map V.str)) (_:AhI H ah qv) (_:n5 ah) (_:∀y∈ys,yU y) (_:∀H',AZ H H'->Q (.bl<|dH ys ah m pr) H')
def nK:Sp:=λvs H Q _=>kl vs H Q
def A0a: ((["_law_one"]:List AT) ++ ([]:List AT)).Nodup:=⋯
def A0c: ((["_law_k"]:List AT) ++ (["_law_words"]:List AT)).Nodup:=⋯
def Xw(h:BI z=Y n):PySem.intText? z=Y n/\z.length<=640:=by
 unfold BI at h;split at h;·rename_i j;have:=Xv<|TC j;obtain rfl:=AE h;show this
 cases h
def d3(a b c:V):List (Hn×V):=[(.inl 3,a),(.inl 4,b),(.inl 5,c)]
def K5(a b c:Int)(k:Int): (IQ (Iz []<|d3 (.int a) (.int b) (.int c))<|.inl k).getD (.int 0)= .int (if k=3 then a else if k=4 then b else if k=5 then c else 0):=by
 rw[show Iz [] (d3 (.int a) (.int b)<|.int c)=d3 (.int a) (.int b) (.int c)by kernel_rfl];unfold d3;let n:∀{i:Int},¬k=i->¬ (Sum.inl i:Hn)= .inl k:=λh e=>h (Sum.inl.inj e).symm;split;·rename_i h;rw[GX (by rw[h])];rfl
 rename_i h;rw[GY (n h)];split;·rename_i h;rw[GX (by rw[h])];rfl
 rename_i h;rw[GY (n h)];split;·rename_i h;rw[GX (by rw[h])];rfl
 rename_i h;rw[GY (n h)];rfl
def d4(a b c d:V):List (Hn×V):=[(.inl 0,a),(.inl 1,b),(.inl 2,c),(.inl 3,d)]
def K4(a b c d:Int)(k:Int): (IQ (Iz []<|d4 (.int a) (.int b) (.int c) (.int d))<|.inl k).getD (.int 0)= .int (if k=0 then a else if k=1 then b else if k=2 then c else if k=3 then d else 0):=by
 rw[show Iz [] (d4 (.int a) (.int b) (.int c)<|.int d)=d4 (.int a) (.int b) (.int c) (.int d)by kernel_rfl];unfold d4;let n:∀{i:Int},¬k=i->¬ (Sum.inl i:Hn)= .inl k:=λh e=>h (Sum.inl.inj e).symm;split;·rename_i h;rw[GX (by rw[h])];rfl
 rename_i h;rw[GY (n h)];split;·rename_i h;rw[GX (by rw[h])];rfl
 rename_i h;rw[GY (n h)];split;·rename_i h;rw[GX (by rw[h])];rfl
 rename_i h;rw[GY (n h)];split;·rename_i h;rw[GX (by rw[h])];rfl
 rename_i h;rw[GY (n h)];rfl
def in2(a:Int)(x y:Int):L2.jH (.int a) [.int x,.int y]=decide (a=x\/a=y):=by
 unfold L2.jH;simp only[Kp,List.any_nil,yF,Bool.or_false]
 grind
def mL:big/2=MW+1:=⋯
abbrev gS(p:AH)(qv:V)(m:Int)(pr:Bool)(v4 v5 v6 v7 v8 v9 v10 v11 z j:Option V):L2.St:=[Y (.ref p),Y qv,Y<|.int m,Y<|.bl pr,v4,v5,v6,v7,v8,v9,v10,v11,z,j]
def oH(T:Tx K mg):∅ 2 1227 ["_law_words","_law_ahead","_law_forms_here","_law_is_pair"] nK:=by
 let Gn:=@lA P w K mg base T;let Ga:=@WT P w K mg base T;show(T.df 59 O).okA DF ?_;intro 1 hr h;let(p,qv,ys,ah,m,pr,O,hp,hq,b5,hw,qQ):=h;let hu:=hr.units;let c4:=MD hr;show{_,Bk (qi (PW.pt<|EX (qc Qu (qB Cd T.Ei De<|Cp (pv 0)) AD) (EX (Cn<|BA (qD (@WP P w K mg base T) hr T.Nc<|Cp (KE (pv 0) AD)))<|ET (Jo Jf (KE (pv 0) AD) (Yv ["_law_one"] [] [] .nil (DS<|pv 1) (λC s_ H_ fp=>BQ (i:=0) A0a O (Ci O)<|DN O) λC s_ H_ fp=>Mx (OY K O) (pv 0) AD λ_ _=>rfl) O)))<|qr Dk)<|Bk (Nn (Yv ["_law_k"] ["_law_words"] [0] (.cons O (.inl O) O .nil) (jf<|DC (AY AD<|AY AD (Cy AD AD))) (λC s_ H_ fp=>BQ (i:=0) A0c O (Ci O)<|DN O) λC s_ H_ fp=>qD Gn hr T.Ip<|Cp (Mx (OY K O) (pv 1) (pv 0) λ_ _=>rfl))<|cg O (n:=4) (CJ (BQ (i:=4) DF.nd O<|Ci O)<|CJ (BQ (i:=5) DF.nd O<|Ci O) (CJ (BQ (i:=6) DF.nd O<|Ci O)<|CJ (BQ (i:=7) DF.nd O<|Ci O) Jp))) (Bk (qS 8 DF.nd<|DH (qc (tI hu) (pv 1)<|Cq Ed) (qT Jt T.Kr HQ<|Cp (KE (KE (pv 1)<|fL VO AD) AD)) AD)<|Bk (qi (PW.pt<|EX (Cn<|BA (qD Ga hr T.Ky<|AY (pv 4) (Cy (Bt DV (pv 8) AD) AD))) (EX (Cn<|BA (qD Ga hr T.Ky<|AY (pv 5) (Cy AD AD)))<|ET (fF fO fO AD (pv 5) AD)))<|qr Dk) (AJ (qS 9 DF.nd<|Bt LA (Bt LA AD AD) AD)<|Bk (qS 10 DF.nd<|WH c4 (Vo (Fw AD (Bt Gi (pv 9) AD)<|Fw AD AD (Fw AD (Bt Gi (pv 2) AD) Vm)) O O Aa Aa) (Bt Di (pv 5) AD) AD {(O),O,O,O}) (Bk (qi (Cn<|BA (qD Ga hr T.Ky<|AY (pv 6) (Cy (qT Ib T.Kr HQ<|Cp (Da Jf (Bt Di (pv 5) AD) (DC<|Cy AD AD) O))<|pv 10)))<|qr Dk)<|Bk (qi (Cn<|BA (qD Ga hr T.Ky<|AY (pv 7) (Cy AD<|Bt Gi AD (qT Ib T.Kr HQ<|Cp (pv 3)))))<|qr Dk) (Bk (qi (qc CU (pv 5) AD)<|AJ (qi (qc CU (KE (pv 0) AD) AR)<|qr Dk) (qr<|DT (qD (@WP P w K mg base T) hr T.Nc<|Cp (KE (pv 0) AD)) (DT (Da NK (qB Gk T.Ei De<|Cp (KE (pv 0) AD)) (pv 6)<|DW _)<|DT (Da CU (pv 7) AD<|DW _) (ED<|Tn (pv 3)))))<|AJ (qS 11 DF.nd<|qD Gn hr T.Ip (Cp<|KE (pv 0) AD)) (Bk (qS 12 DF.nd<|DH (qc CU (pv 5) AD) (Bt Gi AD<|Bt Ey (pv 9) AD) AD)<|Bk (qS 13 DF.nd<|qD Ga hr T.Ky (AY (pv 11)<|Cy (pv 12) (WH c4 (Vo (Fw AD AD<|Fw AD (Bt Gi (pv 9) AD) (Fw AD (Bt Gi (Bt Ey (pv 9) AD) AD)<|Fw AD (pv 6) Vm)) O O Aa Aa) (pv 5) AD {(O),O,O,O}))) (qr<|DT (pv 13) (ED<|T4 (Da CU (pv 11) AD<|DW _) (ED<|DT (Da CU (pv 7) AD<|DW _) (ED<|Tn (pv 3)))))))))),?_};let no:dH ys ah m pr=ge->∀H',AZ H H'->Q (.bl ge) H':=λe H' s=>e ▸ qQ H' s;let(q,as,O,b2,b3):=id hq;let b1:ah.length=as.length:=b3.length;let f8:=b5.len;show CD (λσ' H'=>∃w0 w1 w2 w3 U F w6,ys=[w0,w1,w2,w3,U,F,w6]/\Ct w2=Z/\decide (w2∈ah.map λa=>a.getD 2 "")=ge/\σ'=gS p (.ref q) m pr S S S S S S S S S S/\AZ H H') ?_ ?_
 ·show{p,_,O,.inl<|Cg.of hp,O,_,O,?_};rw[Ay];by_cases h7:ys.length=7
  ·rw[h7]
   match ys,h7 with
   |[w0,w1,w2,w3,U,F,w6],_=>
    let ha:=hw w2 (by simp);show BM {p,_,2,_,O,O,Cg.of hp,yS,w2,O,ha.len,ha.sok,λH1 s1=>{_,O,?_}};cases hn:Ct w2 with
    |false=>show BX (no (by unfold dH;dsimp only;rw[hn];rfl) _ s1)
    |true=>
     show BM {p,_,2,_,O,O,Cg.of<|s1 _ _ hp,yS,q,O,{_,Cg.of<|s1 _ _ b2},MI (l:=ah) (Wk.list<|Cg.of (s1 _ _ b2)) (by rw[Ay];show b1) (by rw[Ay];lia) (λa=>.str<|a.getD 2 "") (λj a x hj hx H2 R s2 hR=>?_) λD H2 hD s2 e2=>?_};·let(b,hb,g3):=Tj b3 j a hj;rw[AQ,hb]at hx;cases hx;let(z,hz):=b5.w2 a<|AN hj;let d1:=hR H2<|AZ.refl _;rw[show a.getD 2 ""=z by rw[Bx,hz];rfl]at d1;show{Sub.set O,b,_,2,_,O,O,Cg.of<|(s1.trans s2) _ _ g3,CN (j:=2) (by rw[AQ,hz];rfl),d1}
     let e3:H2 D=Y (.lst<|(ah.map λa=>a.getD 2 "").map V.str):=by rw[e2,Br];rfl
     show{D,_,O,.inl<|Cg.of e3,O,MG _,_,O,?_};rw[Se];cases hi:decide (w2∈ah.map λa=>a.getD 2 "")with|true=>show BX (no (by unfold dH;dsimp only;rw[hn,hi];rfl) _<|s1.trans s2)|false=>show BM {w0,w1,w2,w3,U,F,w6,O,hn,hi,O,s1.trans s2}
  rw[A1L (λe=>h7 (by have:=V.int.inj e;lia))];show BX<|no ?_ _ (AZ.refl _);unfold dH;split
  ·show A1Q O h7
  rfl
 rintro σ' H1 ⟨w0,w1,w2,w3,U,F,w6,rfl,hn,hi,rfl,s1⟩;let e0:dH [w0,w1,w2,w3,U,F,w6] ah m pr=(GQ (BI w1) (Ge ah+1) 200&& (GQ (BI w3) 0 15&& (!(decide (5< (BI w3).getD 0) &&decide ((BI w3).getD 0<10)) && (GQ (BI U) (if (BI w3).getD 0%10=3\/(BI w3).getD 0%10=4 then 1 else 0) (FR m<|(BI w3).getD 0%10) && (GQ (BI F) 0 (1 - if pr then 1 else 0) &&Gd ((BI w3).getD 0) ((BI U).getD 0) ((BI F).getD 0) pr w6))))):=by
  unfold dH
  dsimp only
  rw[hn,hi];rfl
 rw[e0]at qQ no;let f7:=s1 _ _ hp;let f6:=hw w1 (by simp);let f5:=hw w3 (by simp);let f4:=hw U (by simp);let f3:=hw F (by simp);let a5:=hw w6 (by simp);show CD (λσ' H'=>σ'=gS p (.ref q) m pr (Y<|dF (BI w1)) (Y<|dF (BI w3)) (Y<|dF (BI U)) (Y<|dF (BI F)) S S S S S S/\AZ H H') ?_ ?_
 ·show{zl 4,λt ht=>{t,O,{_,Ec.of Az},MI (l:=[(1,w1),(3,w3),(4,U),(5,F)]) (Wk.tup<|Ec.of Az) O (by change 4<=1000;decide) (λx=>dF<|BI x.2) (λj x v hj hx H2 R s2 hR=>?_) λD H2 hD s2 e2=>?_}}
  ·let st:=Bd (u:=.tup [.int 1,.int 3,.int 4,.int 5]) ht;let hk:∃k:Nat,v= .int (k:Int)/\([w0,w1,w2,w3,U,F,w6]:List AT)[k]?=Y x.2/\yU x.2:=by match j,hj,hx with|0,hj,hx=>cases hj;cases hx;show{1,O,O,f6}|1,hj,hx=>cases hj;cases hx;show{3,O,O,f5}|2,hj,hx=>cases hj;cases hx;show{4,O,O,f4}|3,hj,hx=>cases hj;cases hx;show{5,O,O,f3}|j+4,hj,_=>simp at hj
   let(k,O,g0,b4):=hk;show{Sub.set O,p,_,_,_,O,O,Cg.of<|s2 _ _ (st _ _ f7),CN (by rw[AQ,g0];rfl),x.2,O,b4.len,b4.sok,b4.ne,λH3 s3=>?_};rw[RV];show hR H3 s3
  show{D,_,O,Cg.of e2,O,_,_,O,_,_,O,_,_,O,_,_,O,O,O,(s1.trans<|Bd ht).trans s2}
 rintro σ' H2 ⟨rfl,s2⟩;show CD (λσ' H'=>σ'=gS p (.ref q) m pr (Y<|dF (BI w1)) (Y<|dF (BI w3)) (Y<|dF (BI U)) (Y<|dF (BI F)) (Y<|.int (Ge ah)) S S S S S/\AZ H H') ?_ ?_
 ·show{zl 0,λE hE=>?_};let sE:=Bd (u:=.lst []) hE;let c5:=sE _ _<|s2 _ _ b2;show{q,E,_,O,O,c5,Az,_,O,?_};cases ha:ah.getLast? with
  |none=>
   let e1:ah=[]:=List.getLast?_eq_none_iff.mp ha;let e2:as=[]:=IW.mp (by rw[<-b1,e1];rfl);rw[e2,show Ge ah=0 by unfold Ge;rw[ha]];show BM {O,s2.trans sE}
  |some a=>
   let c9:0<as.length:=by rw[<-b1];cases ah with|nil=>cases ha|cons x r=>show Nat.succ_pos _
   let g2:as[as.length - 1]?=Y (as[as.length - 1]' ()):=AI _;let(a',d0,hb):=GO b3 _ _ g2;obtain rfl:a=a':=by rw[FN,b1]at ha;show AE<|ha.symm.trans d0
   let(z,n,hz,c8):=b5.w1 a<|AN d0;let(i1,i2):=Xw c8;let el:Ge ah=n:=by unfold Ge;rw[ha];change(BI<|a.getD 1 "").getD 0=n;rw[Bx,hz];change(BI z).getD 0=n;rw[c8];rfl
   rw[el,show((as.map V.ref).isEmpty)=ge by cases as with|nil=>cases c9|cons x r=>rfl];show BX {_,O,q,_,_,_,O,O,Cg.of c5,cP (by rw[Ay];show c9),as[as.length - 1]' (),_,1,_,?_,O,Cg.of<|sE _ _ (s2 _ _ hb),CN (j:=1) (by rw[AQ,hz];rfl),z,n,O,i1,i2,O,s2.trans sE};simp
 rintro σ' H3 ⟨rfl,s3⟩;show CD (λσ' H'=>∃n1 cd,BI w1=Y n1/\BI w3=Y cd/\GQ (BI w1) (Ge ah+1) 200=Z/\GQ (BI w3) 0 15=Z/\(decide (5<cd) &&decide (cd<10))=ge/\σ'=gS p (.ref q) m pr (Y<|.int n1) (Y<|.int cd) (Y<|dF (BI U)) (Y<|dF (BI F)) (Y<|.int (Ge ah)) S S S S S/\H3=H') {BI w1,_,_,O,_,O,?_} ?_
 ·cases h1:GQ (BI w1) (Ge ah+1) 200 with
  |false=>rw[h1]at no;show BX<|no O _ s3
  |true=>
   rw[h1]at no;show BM {BI w3,_,_,O,_,O,?_};cases h3:GQ (BI w3) 0 15 with
   |false=>rw[h3]at no;show BX<|no O _ s3
   |true=>
    rw[h3]at no;let(n1,e1,_):=FS h1;let(cd,e3,_):=FS h3;rw[e3]at no;let no: (decide (5<cd) &&decide (cd<10))=Z->Q (.bl ge) H3:=λe=>no (by change(Z&& (Z&& (!(decide (5<cd) &&decide (cd<10)) &&_)))=ge;rw[e];rfl) H3 s3;rw[e1,e3];show BM {_,O,DL (λh5=>?_) λh5=>?_}
    ·show{_,O,?_};change(if decide (cd<10)=Z then _ else _)
     cases d2:decide (cd<10)with|true=>show BX (no<|by rw[show decide (5<cd)=Z from h5,d2];rfl)|false=>show BM {n1,cd,O,O,O,O,by rw[d2,Dg],O,O}
    let a6:decide (5<cd)=false:=by simpa using h5
    show{_,O,BM {n1,cd,O,O,O,O,by rw[a6];rfl,O,O}}
 rintro σ' j9 ⟨n1,cd,e1,e3,h1,h3,h5,rfl,rfl⟩;rw[h1,h3,e3]at no qQ;let j4:=(FS h3);let i9:0<=cd/\cd<=15:=by let(n,e,a,b):=FS h3;rw[e3]at e;obtain rfl:=AE e;show{(a),b}
 let no: (GQ (BI U) (if cd%10=3\/cd%10=4 then 1 else 0) (FR m<|cd%10) && (GQ (BI F) 0 (1 - if pr then 1 else 0) &&Gd cd ((BI U).getD 0) ((BI F).getD 0) pr w6))=ge->∀H',AZ H H'->Q (.bl ge) H':=λe=>no (by
  change(Z&& (Z&& (!(decide (5<cd) &&decide (cd<10)) &&_)))=ge;rw[h5];show e)
 let qQ:∀H',AZ H H'->Q (.bl<|GQ (BI U) (if cd%10=3\/cd%10=4 then 1 else 0) (FR m<|cd%10) && (GQ (BI F) 0 (1 - if pr then 1 else 0) &&Gd cd ((BI U).getD 0) ((BI F).getD 0) pr w6)) H':=λH' s=>by
  have:=qQ H' s;let e: (Z&& (Z&& (!(decide (5< (Y cd).getD 0) &&decide ((Y cd).getD 0<10)) && (GQ (BI U) (if (Y cd).getD 0%10=3\/(Y cd).getD 0%10=4 then 1 else 0) (FR m<|(Y cd).getD 0%10) && (GQ (BI F) 0 (1 - if pr then 1 else 0) &&Gd ((Y cd).getD 0) ((BI U).getD 0) ((BI F).getD 0) pr w6)))))=(GQ (BI U) (if cd%10=3\/cd%10=4 then 1 else 0) (FR m<|cd%10) && (GQ (BI F) 0 (1 - if pr then 1 else 0) &&Gd cd ((BI U).getD 0) ((BI F).getD 0) pr w6)):=by change(Z&& (Z&& (!(decide (5<cd) &&decide (cd<10)) &&_)))=_;rw[h5];rfl
  rw[e]at this;show this
 show{xr,o0,?_};show CD (λσ' H'=>σ'=gS p (.ref q) m pr (Y<|.int n1) (Y<|.int cd) (Y<|dF (BI U)) (Y<|dF (BI F)) (Y<|.int (Ge ah)) (Y<|.int big) (Y<|.int (FR m<|cd%10)) S S S/\AZ H H') ?_ ?_
 ·show λd hd=>{Az,d3 (.int<|big - 1) (.int 100)<|.int (m - 1),O,by change 3<=15;decide,d,O,.inl {_,.inl Az},(by change(0:Int) <10;decide),_,KW.k (k:=.inl<|cd%10) Az,?_};rw[K5,show(if cd%10=3 then big - 1 else if cd%10=4 then 100 else if cd%10=5 then m - 1 else 0)=FR m (cd%10)by unfold FR;rw[show big - 1=MN by rw[jV];lia]]
  show{O,s3.trans<|AZ.put (Bd hd) hd}
 rintro σ' H4 ⟨rfl,s4⟩;show CD (λσ' H'=>∃bd,BI U=Y bd/\GQ (BI U) (if cd%10=3\/cd%10=4 then 1 else 0) (FR m<|cd%10)=Z/\σ'=gS p (.ref q) m pr (Y<|.int n1) (Y<|.int cd) (Y<|.int bd) (Y<|dF (BI F)) (Y<|.int (Ge ah)) (Y<|.int big) (Y<|.int (FR m<|cd%10)) S S S/\AZ H H') ?_ ?_
 ·show{(by change(0:Int) <10;decide),zl 2,λt ht=>{t,_,O,.inr<|Ec.of Az,O,O,.inr {_,O,BI U,_,_,O,_,O,?_}}};rw[in2];let sT:=s4.trans<|Bd (u:=.tup [.int 3,.int 4]) ht;let e: (if decide (cd%10=3\/cd%10=4)=Z then (1:Int)else 0)=if cd%10=3\/cd%10=4 then 1 else 0:=by
   by_cases h:cd%10=3\/cd%10=4;·rw[A1K h,A1O h,A1O O]
   rw[A1L h,A1N h,A1N Aa]
  change(if (!GQ (BI U) (if decide (cd%10=3\/cd%10=4)=Z then (1:Int)else 0) _)=Z then _ else _)
  rw[e];cases h4:GQ (BI U) (if cd%10=3\/cd%10=4 then 1 else 0) (FR m<|cd%10)with
  |false=>rw[h4]at no;show BX<|no O _ sT
  |true=>
   let(bd,e4,_):=FS h4;show BM {bd,e4,O,?_,sT};rw[e4];rfl
 rintro σ' H5 ⟨bd,e4,h4,rfl,s5⟩;rw[h4,e4]at no qQ;show CD (λσ' H'=>∃ms,BI F=Y ms/\GQ (BI F) 0 (1 - if pr then 1 else 0)=Z/\σ'=gS p (.ref q) m pr (Y<|.int n1) (Y<|.int cd) (Y<|.int bd) (Y<|.int ms) (Y<|.int (Ge ah)) (Y<|.int big) (Y<|.int (FR m<|cd%10)) S S S/\H5=H') (.inr {_,O,BI F,_,_,O,_,O,?_}) ?_
 ·cases a6:GQ (BI F) 0 (1 - if pr then 1 else 0)with
  |false=>rw[a6]at no;show BX<|no O _ s5
  |true=>
   let(ms,e5,_):=FS a6;show BM {ms,e5,O,?_,O};rw[e5];rfl
 rintro σ' g7 ⟨ms,e5,a6,rfl,rfl⟩;rw[a6,e5]at qQ;let qQ:∀H',AZ H H'->Q (.bl<|Gd cd bd ms pr w6) H':=qQ;unfold Gd at qQ;let b0:=s5 _ _ hp;show CD (λσ' H'=>cd≠4/\σ'=gS p (.ref q) m pr (Y<|.int n1) (Y<|.int cd) (Y<|.int bd) (Y<|.int ms) (Y<|.int (Ge ah)) (Y<|.int big) (Y<|.int (FR m<|cd%10)) S S S/\H5=H') {O,_,O,DL (λhc=>?_) λhc=>{λe=>hc<|A1K (A1P V.int e),O,O}} ?_
 ·rw[A1O (V.int.inj<|A1M hc)]at qQ;show{p,_,6,_,O,O,Cg.of b0,CN (j:=6) O,O,_,O,DL (λh6=>?_) λh6=>?_}
  ·rw[A1K (V.str.inj<|A1M h6),JK]at qQ;show qQ _ s5
  rw[A1L (λe=>h6<|A1K (A1P V.str e)),Kq]at qQ;show{p,_,6,_,O,O,Cg.of b0,CN (j:=6) O,w6,O,a5.len,a5.sok,λH6 s6=>{_,O,?_}};let q6:=qQ H6<|s5.trans s6;cases c7:Ct w6 with
  |false=>rw[c7]at q6;show BM q6
  |true=>
   rw[c7,BL]at q6;show BX {p,_,6,_,O,O,Cg.of<|s6 _ _ b0,CN (j:=6) O,w6,O,Gq a5.len,_,O,DL (λhl=>?_) λhl=>?_}
   ·rw[hl,BL]at q6;show{O,_,O,DL (λhm=>?_) λhm=>?_}
    ·rw[A1K (V.int.inj<|A1M hm),BL]at q6;show{(_),O,q6}
    rw[A1L (λe=>hm<|A1K (A1P V.int e)),BR]at q6;show q6
   rw[show decide ((w6.length:Int)<=bd)=ge by simpa using hl,BR]at q6;show q6
 rintro σ' g7 ⟨g1,rfl,rfl⟩;rw[A1N g1]at qQ;show{p,_,6,_,O,O,Cg.of b0,CN (j:=6) O,w6,O,a5.len,a5.sok,a5.ne,λH6 s6=>?_};let f2:=s5.trans s6;show CD (λσ' H'=>σ'=gS p (.ref q) m pr (Y<|.int n1) (Y<|.int cd) (Y<|.int bd) (Y<|.int ms) (Y<|.int (Ge ah)) (Y<|.int big) (Y<|.int (FR m<|cd%10)) (Y<|dF (BI w6)) (Y<|.int (if cd=2 then -MW - 1 else 0)) S/\H6=H') ?_ ?_
 ·rw[RV];show{O,_,O,DL (λh=>?_) λh=>?_}
  ·rw[A1O (V.int.inj<|A1M h)];show{{(Aa),Aa},?_,O};rw[show(-MW - 1:Int)=0 - big/2 by rw[mL];lia];rfl
  rw[A1N λe=>h<|A1K (A1P V.int e)];show{(O),O}
 rintro σ' j8 ⟨rfl,rfl⟩;show CD (λσ' H'=>σ'=gS p (.ref q) m pr (Y<|.int n1) (Y<|.int cd) (Y<|.int bd) (Y<|.int ms) (Y<|.int (Ge ah)) (Y<|.int big) (Y<|.int (FR m<|cd%10)) (Y<|dF (BI w6)) (Y<|.int (if cd=2 then -MW - 1 else 0)) (Y<|.bl (GQ (BI w6) (if cd=2 then -MW - 1 else 0)<|Nd bd cd))/\AZ H H') ?_ ?_
 ·show λd hd=>{{(Aa),Aa},Az,d4 (.int 1) (.int<|big - 1) (.int<|big/2 - 1)<|.int bd,O,by change 4<=15;decide,d,O,.inl {_,.inl Az},_,KW.k (k:=.inl cd) Az,?_};rw[K4,show(if cd=0 then 1 else if cd=1 then big - 1 else if cd=2 then big/2 - 1 else if cd=3 then bd else 0)=Nd bd cd by unfold Nd;rw[show big - 1=MN by rw[jV];lia,show big/2 - 1=MW by rw[mL];lia]]
  show{BI w6,_,_,O,O,f2.trans<|AZ.put (Bd hd) hd}
 rintro σ' H7 ⟨rfl,s7⟩;let q7:=qQ H7 s7;show{_,O,?_};cases h6:GQ (BI w6) (if cd=2 then -MW - 1 else 0) (Nd bd cd)with
 |false=>rw[h6]at q7;show BM q7
 |true=>
  rw[h6,BL]at q7;let(wo,e6,_):=FS h6;rw[e6]at q7 ⊢;show BX {O,_,O,DL (λh0=>?_) λh0=>?_};·rw[A1K (show(Y wo).getD 0=0 from V.int.inj<|A1M h0),JK]at q7;show q7
  rw[A1L (show ¬ (Y wo).getD 0=0 from λe=>h0<|A1K (A1P V.int e)),Kq]at q7;show{O,_,O,DL (λhm=>?_) λhm=>?_};·rw[A1K (V.int.inj<|A1M hm),BL]at q7;show{(_),O,q7}
  rw[A1L (λe=>hm<|A1K (A1P V.int e)),BR]at q7;show q7
structure WS where
 ns:List AT
 ah:List (List AT)
 lack:Int
 pr:Bool
def kL:WS:={[],[],0,Z}
def GV:Ln->List AT|.txt z=>Ca z " "|.thing _=>[""]
def Sa(s:WS):AT:=if s.lack>0 then "field" else "form"
def ZY(s:WS)(ys:List AT):Option WS:=if ("" :AT)∈ys then S else if ys.getD 0 ""=Sa s then
  (if s.lack>0 then (if dH ys s.ah ((s.ns.length:Int) - 1) s.pr=Z then Y {s.ns,s.ah++[ys],s.lack - 1,s.pr}else S)
   else if ml ys s.ns=Z then Y {s.ns++[ys.getD 1 ""],[],(BI<|ys.getD 3 "").getD 0,decide (ys.getD 2 ""="1")}else S)else S
def Zt:List Ln->Nat->WS->Option Nat
 |[],p,s=>if s.lack>0\/s.pr=Z then Y p else S
 |l::r,p,s=>match ZY s (GV l)with
  |some s'=>Zt r (p+1) s'|none=>Y p
def owV:Option Nat->V|some n=>.int (n:Nat)|none=>.non
inductive pV(vs:List V)(H:Hp)(Q:VK):Prop|mk (l:AH) (xs:List V) (ls:List Ln) (_:vs=[.ref l]) (_:H l=some (.lst xs)) (_:Paired (dm H) ls xs) (_:∀x∈ls,jY x) (_:ls.length<=100) (_:∀H',AZ H H'->Q (owV<|Zt ls 0 kL) H')
def rJ:Sp:=λvs H Q _=>pV vs H Q
def eN(z y:AT):Ca z y≠[]:=by have:=PyProof.Rows.split_pos z y;intro e;rw[e]at this;show A1Q this Aa
def A3(l:Ln):∃a r,GV l=a::r:=by
 cases l with
 |thing d=>show{(_),_,O}
 |txt z=>
  change ∃a r,Ca z " "=a::r;cases h:Ca z " " with|nil=>show A1Q h<|eN z " "|cons a r=>show{(a),r,O}
def A2(h:jY l)(hn:¬ ("" :AT)∈GV l):∀y∈GV l,yU y:=λy D=>by
 cases l with
 |thing d=>show A1Q (Bc.mpr O) hn
 |txt z=>
  let j:¬ ("" :AT)∈Ca z " ":=hn;have:=(h.ws (Ca z " ")<|by change Jb z=_;unfold Jb;rw[A1N j]).2 y D;show{this.1,this.2,λe=>hn<|e ▸ D}
def uV(h:dH ys ah m pr=Z): (∃z,ys[2]?=Y z)/\∃z n,ys[1]?=Y z/\BI z=Y n:=by
 unfold dH at h;split at h;·simp only[AA]at h;let(n,e,_):=FS h.2.2.1;show{{(_),O},_,n,O,e}
 cases h
def uX(h:ml ys zs=Z):∃j a b c n,ys=[j,a,b,c]/\BI c=Y n/\0<=n/\n<=10:=by
 unfold ml at h;split at h;·simp only[AA]at h;let(n,e,h1,h2):=FS h.2.2.2.2;let(m,z,h3,D):=FS h.2.2.2.1;rw[z]at h1;let h1:m<=n:=h1;show{_,_,_,_,n,O,e,(),h2}
 cases h
structure WsJ(s:WS)(j:Nat):Prop where
 ah:n5 s.ah
 al:s.ah.length<=j
 nl:s.ns.length<=j
structure wy(H:Hp)(s:WS)(N A:AH)(as:List AH)(H':Hp):Prop where
 sa:AZ H H'
 fN:H N=S
 fA:H A=S
 ne:N≠A
 hN:H' N=Y (.lst<|s.ns.map V.str)
 hA:H' A=Y (.lst<|as.map V.ref)
 pr:Paired (λys a=>a≠N/\a≠A/\H' a=Y (.lst<|IK V.str ys)) s.ah as
def wy.go(h:wy H s N A as H1)(t:AZ H1 H2):wy H s N A as H2:={h.sa.trans t,h.fN,h.fA,h.ne,t _ _ h.hN,t _ _ h.hA,Paired.mapP h.pr λ_ _ z=>{z.1,z.2.1,t _ _ z.2.2}}
def wy.ahI(h:wy H s N A as H1):AhI H1 s.ah (.ref A):={A,as,O,h.hA,Paired.mapP h.pr λ_ _ z=>z.2.2}
abbrev P5(l N A:AH)(k:Int)(b:Bool)(v5 v6 v7:Option V):L2.St:=[Y (.ref l),Y<|.ref N,Y<|.ref A,Y<|.int k,Y<|.bl b,v5,v6,v7]
def tK(T:Tx K mg):∅ 3 1234 Ar rJ:=by
 show(T.df 60 O).okA Gr ?_;intro 1 hr h;let(l,xs,ls,O,hl,b9,hok,hn,q):=h;show{_,AJ (qS 1 Gr.nd<|Cq Ed)<|AJ (qS 2 Gr.nd<|Cq Ed) (AJ (qS 3 Gr.nd AD)<|AJ (qS 4 Gr.nd Dk) (Bk (HM Dn O (OI O T.Jw<|pv 0) (Tl O (n:=2)<|CJ (BQ (i:=5) Gr.nd O<|Ci O) (CJ (BQ (i:=6) Gr.nd O<|Ci O) Jp))<|Bk (qS 7 Gr.nd<|DH (BA<|qB (Bv K O) T.Ba AW (Cy (pv 6)<|RJ T.IU GF)) (Ej Cr Qc Qb Xf (pv 6)<|Cp AR) (Cq<|Cp AR)) (Bk (qi (PW.pt<|EX (Jo Jf AR (pv 7) O) (ET<|qc Qu (KE (pv 7) AD) (KE (Cq<|Cy AR AR)<|qT Ib T.Kr HQ (Cp<|Da Mz (pv 3) AD (DW _)))))<|qr (pv 5))<|BO (OH (qc Mz (pv 3) AD) (AJ (qi (Cn<|BA (qD (@oH P w K mg base T) hr (T.d4 59 O λ_ _ _ _ _ _ _ _ _ _=>rfl)<|AY (pv 7) (AY (pv 2)<|Cy (Bt Gi (qB Cd T.Ei De<|Cp (pv 1)) AD) (pv 4))))<|qr (pv 5))<|AJ (Ds<|Ej Bg BG BF Du (pv 2) (Cp<|pv 7)) (BO<|qS 3 Gr.nd (Bt Gi (pv 3) AD)))<|AJ (qi (Cn<|BA (qD (@tZ P w K mg base T) hr (T.d2 58 O λ_ _ _ _ _ _ _ _=>rfl)<|Cy (pv 7) (pv 1)))<|qr (pv 5)) (AJ (Ds<|Ej Bg BG BF Du (pv 1) (Cp<|KE (pv 7) AD))<|AJ (qS 2 Gr.nd<|Cq Ed) (AJ (qS 3 Gr.nd<|qT Jt T.Kr HQ (Cp<|KE (pv 7) AD))<|BO (qS 4 Gr.nd<|Da CU (KE (pv 7) AD) AR (DW _)))))))<|AJ (qi (PW.pt<|EX (qc Mz (pv 3) AD) (ET<|BA (pv 4)))<|qr (qB Cd T.Ei De<|Cp (pv 0))) (qr DG))),?_};show{zl 0,λN hN=>{zl 0,λA hA=>?_}};let s0:=Bd (u:=.lst []) hN;let s1:=Bd (u:=.lst []) hA;let c7:N≠A:=λe=>by rw[<-e,Az]at hA;cases hA
 let a6:ls.length=xs.length:=b9.length;let c5:wy H kL N A [] (upd (upd H N<|.lst []) A<|.lst []):={s0.trans s1,hN,s0.free hA,c7,s1 _ _ Az,Az,.nil};show CD (λσ' H'=>∃s N A as v5 v6 v7,Zt ls 0 kL=Zt [] ls.length s/\wy H s N A as H'/\σ'=P5 l N A s.lack s.pr v5 v6 v7) ?_ ?_
 ·show{l,O,{_,Cg.of<|c5.sa _ _ hl},?_};show MF (xs:=xs) (λj σ' H'=>∃s N A as v5 v6 v7,σ'=P5 l N A s.lack s.pr v5 v6 v7/\wy H s N A as H'/\WsJ s j/\Zt (ls.drop j) j s=Zt ls 0 kL) {kL,N,A,[],_,_,_,O,c5,{{(λ_ h=>nomatch h),(λ_ h=>nomatch h),Cu _},Cu _,Cu _},O} (λi σ' H' _ h=>by let(_,_,_,_,_,_,_,_,h,_):=h;show Cg.of<|h.sa _ _ hl) (λi x Tt σ' H1 hx h d0=>?_) λσ' H' h=>?_
  ·let(s,N,A,as,v5,v6,v7,O,hI,hJ,hR):=h;let(U,a9,c9):=GO b9 i x hx;let hi:i<ls.length:=(AO.mp a9).1;let ed:ls.drop i=U::ls.drop (i+1):=by
    rw[EA hi];have:ls[i]'hi=U:=by rw[AI hi]at a9;show AE a9
    rw[this]
   let lo:=hok U<|AN a9;rw[ed]at hR;let hR: (match ZY s (GV U)with|some s'=>Zt (ls.drop<|i+1) (i+1) s'|none=>Y i)=Zt ls 0 kL:=hR;let a4:=hI.go<|Bd (u:=.tup [.int (i:Nat),x]) d0;let no:ZY s (GV U)=S->∀H',AZ H H'->Q (.int (i:Nat)) H':=λe H' s'=>by
    have:=q H' s';rw[<-hR,e]at this;show this
   let b6:=c9.same a4.sa;show{Tt,_,O,Ec.of Az,O,_,_,O,_,_,O,O,?_};show CD (λσ' H'=>∃p,σ'=P5 l N A s.lack s.pr (Y<|.int (i:Nat)) (Y x) (Y<|.ref p)/\wy H s N A as H'/\H' p=Y (.lst<|(GV U).map V.str)/\p≠N/\p≠A) ?_ ?_
   ·cases U with
    |thing d=>
     let(hd,hs):=b6;show{x,.ty "str",_,_,_,O,hd.ty,O,jC T d,_,O,?_};rw[hs];show BM {zl 1,λp hp=>{p,O,a4.go<|Bd hp,Az,λe=>?_,λe=>?_}};·rw[e,a4.hN]at hp;cases hp
     rw[e,a4.hA]at hp;cases hp
    |txt z=>
     let(O,hz):=b6;show{_,.ty "str",_,_,_,O,.str z,O,jC T<|.str z,_,O,BX {O,z," ",O,O,Ab,xZ (),xZ<|Te z " " hz,xZ<|PH z " " hz,λp hp=>{p,O,a4.go<|Bd hp,Az,λe=>?_,λe=>?_}}};·rw[e,a4.hN]at hp;cases hp
     rw[e,a4.hA]at hp;cases hp
   rintro σ' H2 ⟨p,rfl,c4,hp,b4,b5⟩;let(a0,r0,e0):=A3 U;show CD (λσ' H'=>¬ ("" :AT)∈GV U/\a0=Sa s/\σ'=P5 l N A s.lack s.pr (Y<|.int (i:Nat)) (Y x) (Y<|.ref p)/\wy H s N A as H'/\H' p=Y (.lst<|(GV U).map V.str)) ?_ ?_
   ·show{p,_,O,.inl<|Cg.of hp,O,MG _,_,O,?_};rw[Se];by_cases h: ("" :AT)∈GV U
    ·rw[A1K h];show BX (no (by unfold ZY;rw[A1O h]) _ c4.sa)
    rw[A1L h];show BM {p,_,0,_,O,O,Cg.of hp,by rw[e0];show Kn,zl 2,λt ht=>.inr {_,O,t,_,_,.str<|Sa s,O,O,Cg.of Az,?_,O,_,O,?_}}
    ·unfold Sa;by_cases hk:s.lack>0
     ·rw[A1O hk,A1K hk];show dh
     rw[A1N hk,A1L hk];show Kn
    let a3:=c4.go<|Bd (u:=.lst [.str "form",.str "field"]) ht;by_cases hk:a0=Sa s
    ·rw[A1K (A1P V.str hk)];show BM {h,hk,O,a3,Bd ht _ _ hp}
    rw[A1L λe=>hk<|V.str.inj e];show BX (no (by unfold ZY;rw[A1N h,e0,A1N<|show ¬ (a0::r0).getD 0 ""=Sa s from hk]) _ a3.sa)
   rintro σ' H3 ⟨b8,rfl,rfl,a3,a8⟩;let hw:=A2 lo b8;let eS:ZY s (GV U)=if s.lack>0 then (if dH (GV U) s.ah ((s.ns.length:Int) - 1) s.pr=Z then Y ⟨s.ns,s.ah++[GV U],s.lack - 1,s.pr⟩else S)
     else if ml (GV U) s.ns=Z then Y {s.ns++[(GV U).getD 1 ""],[],(BI<|(GV U).getD 3 "").getD 0,decide ((GV U).getD 2 ""="1")}else none:=by unfold ZY;rw[A1N b8,A1O (by rw[e0];rfl)]
   rw[eS]at no hR;show{_,O,DL (λhk=>?_) λhk=>?_}
   ·let hk:s.lack>0:=A1M hk;rw[A1O hk]at no hR;show{N,_,O,.inl<|Cg.of a3.hN,p,.ref A,GV U,s.ah,(s.ns.length:Int) - 1,s.pr,by rw[Ay];rfl,a8,a3.ahI,hJ.ah,hw,λH4 s4=>{_,O,?_}};let D:=a3.go s4;cases hf:dH (GV U) s.ah ((s.ns.length:Int) - 1) s.pr with
    |false=>
     rw[hf]at no;show BX<|no O _ D.sa
    |true=>
     rw[hf]at hR;let(f2,f1):=uV hf;let sn:∀{Pp:List AT->Prop},(∀g∈s.ah,Pp g)->Pp (GV U)->∀g∈s.ah++[GV U],Pp g:=λh1 h2 g hg=>by
      rcases BE.mp hg with hg|hg;·show h1 g hg
      rw[Bc.mp hg];show h2
     let ll: (s.ah++[GV U]).length<=i+1:=by rw[AS];show ZG hJ.al
     let e5:as.length=s.ah.length:=D.pr.length.symm;let e6:=hJ.al;show BM {.inl {O,_,Cg.of D.hA},A,_,_,O,O,D.hA,?_,{s.ns,s.ah++[GV U],s.lack - 1,s.pr},N,A,as++[p],_,_,_,O,{D.sa.put D.fA,D.fN,D.fA,D.ne,?_,?_,?_},{{sn hJ.ah.w2 f2,sn hJ.ah.w1 f1,by change(s.ah++[GV U]).length<=100;lia},ll,Nat.le_succ_of_le hJ.nl},hR};·rw[Ay];show CW ()
     ·rw[AM D.ne];show D.hN
     ·rw[Az,Bl];rfl
     show Hc (Paired.mapP D.pr λ_ _ z=>{z.1,z.2.1,by rw[AM z.2.1];show z.2.2}) (.cons {b4,b5,by rw[AM b5];show s4 _ _ a8} .nil)
   let hk:¬s.lack>0:=λe=>hk<|A1K e;rw[A1N hk]at no hR;show{p,N,GV U,s.ns,O,a8,a3.hN,hw,λH4 s4=>{_,O,?_}};let D:=a3.go s4;cases hf:ml (GV U) s.ns with
   |false=>
    rw[hf]at no;show BX<|no O _ D.sa
   |true=>
    rw[hf]at hR;let(w0,a,b,c,n,ew,hc,_):=uX hf;let b1:=s4 _ _ a8;rw[ew]at b1 hR;let(c1,c2):=Xw hc;let c8:=hJ.nl;let hR:Zt (ls.drop<|i+1) (i+1) ⟨s.ns++[a],[],(BI c).getD 0,decide (b="1")⟩=Zt ls 0 kL:=hR;let sN:AZ H (upd H4 N<|.lst (s.ns.map V.str++[.str a])):=D.sa.put D.fN;let b7:upd H4 N (.lst<|s.ns.map V.str++[.str a]) p=Y (.lst<|[w0,a,b,c].map V.str):=by rw[AM b4];show b1
    show BM {.inl {O,_,Cg.of D.hN},p,_,1,_,O,O,Cg.of b1,dh,N,_,_,O,O,D.hN,?_,zl 0,λA' a5=>{p,_,3,_,O,O,Cg.of<|Bd a5 _ _ b7,O7,c,n,O,c1,c2,p,_,2,_,O,O,Cg.of<|Bd a5 _ _ b7,yS,O,{s.ns++[a],[],(BI c).getD 0,decide (b="1")},N,A',[],Y<|.int (i:Nat),Y x,Y<|.ref p,?_,{sN.trans<|Bd a5,D.fN,sN.free a5,?_,?_,Az,.nil},{{(λ_ h=>nomatch h),(λ_ h=>nomatch h),Cu _},Cu _,?_},hR}};·rw[Ay];show CW ()
    ·rw[hc];change _=P5 l N A' n (decide (b="1")) _ _ _;rw[<-show decide (V.str b=V.str "1")=decide (b="1")from decide_eq_decide.mpr {V.str.inj,A1P V.str}];rfl
    ·intro e;rw[<-e,Az]at a5;cases a5
    ·show Bd a5 _ _ ?_;rw[Az,Bl];rfl
    change(s.ns++[a]).length<=_;rw[AS];show ZG c8
  let(s,N,A,as,v5,v6,v7,O,hI,hJ,hR):=h;rw[<-a6,ZK]at hR;show{(s),N,A,as,v5,v6,v7,hR.symm,hI,O}
 rintro σ' H1 ⟨s,N,A,as,v5,v6,v7,eR,hI,rfl⟩;let q1:=q H1 hI.sa;rw[eR]at q1;let q1:Q (owV<|if s.lack>0\/s.pr=Z then Y ls.length else S) H1:=q1
 show{_,O,DL (λhk=>?_) λhk=>?_};·rw[A1O (.inl<|A1M hk)]at q1;show{l,_,O,.inl<|Cg.of (hI.sa _ _ hl),by rw[<-a6];show q1}
 let hk:¬s.lack>0:=λe=>hk<|A1K e;show{_,O,?_};cases hp:s.pr with
 |true=>
  rw[A1O (.inr hp)]at q1;show BX {l,_,O,.inl<|Cg.of (hI.sa _ _ hl),by rw[<-a6];show q1}
 |false=>
  rw[A1N (by rw[hp];rintro(h|h);show hk h;cases h)]at q1;show BM q1
def L1:List (AT×Bool):=[("number",ge),("row",ge),("book",ge),("value",ge),("text",Z),("wire",ge),("check",ge),("kin",ge),("key",ge),("version",ge)]
def wZ:Sp:=λvs H Q _=>∃e dx a0 tb,vs=[.ref e,.str "text"]/\H e=Y (qW e<|Jy (.ref 149) dx a0 tb)/\(dx=S\/∃d fs,dx=Y d/\H d=Y (.xd fs))/\∀H',AZ H H'->Q (.bl Z) H'
def U2: ((["_law_one","_law_is_so"]:List AT) ++ ([]:List AT)).Nodup:=⋯
def X5:∀{j:Nat} {p:AT×Bool},L1[j]?=Y p->p.2=decide (j=4)/\(j=4->p.1="text")
 |0,_,h=>by obtain rfl:=AE h;show{O,λe=>by cases e}
 |1,_,h=>by obtain rfl:=AE h;show{O,λe=>by cases e}
 |2,_,h=>by obtain rfl:=AE h;show{O,λe=>by cases e}
 |3,_,h=>by obtain rfl:=AE h;show{O,λe=>by cases e}
 |4,_,h=>by obtain rfl:=AE h;show{O,λ_=>rfl}
 |5,_,h=>by obtain rfl:=AE h;show{O,λe=>by cases e}
 |6,_,h=>by obtain rfl:=AE h;show{O,λe=>by cases e}
 |7,_,h=>by obtain rfl:=AE h;show{O,λe=>by cases e}
 |8,_,h=>by obtain rfl:=AE h;show{O,λe=>by cases e}
 |9,_,h=>by obtain rfl:=AE h;show{O,λe=>by cases e}
 |_+10,_,h=>nomatch h
def dc{H:Hp}{t:AH}{o:HO}(h:H t=Y o)(u:HO):upd H t u t=Y u:=Az
def rj{H:Hp}{t l:AH}{a b:List V}(h1:H t=Y (.tup a))(h2:H l=Y (.lst b))(u:HO):upd H l u t=Y (.tup a):=by rw[AM (λe=>by rw[e,h2]at h1;cases h1)];show h1
def Df{H:Hp}{t:AH}(h:H t=S)(u:HO):upd H t u t=Y u:=Az
def tw{X:Cx}(K:AB)(z:X.K=K){pos:Ij}{es:List Expr}{k:Nat}{t:pU}{n:Nat}(hc:X.suit=Z)(h:zX X es t)(hn: ~~~((EW es X.env).length=n))(j: ~~~((EW es X.env).findIdx? (·.1)=none)):PG X (.Tuple es k pos) (J4 K n t):=by subst z;show xF hc h hn j
inductive P3(H:Hp)(e:AH)(j:Nat):L2.St->Hp->Prop|mk (H':Hp) (l:AH) (ts:List AH) (_:AZ H H') (_:H l=none) (_:H' l=some (.lst<|ts.map V.ref)) (_:Paired (λ(p:AT×Bool) a=>H' a=Y (.tup [.str p.1,.bl p.2])) (L1.take j) ts):P3 H e j [Y (.ref e),Y<|.str "text",Y<|.ref l] H'
def TR{k:Nat}{A:CA}{v:Option AC}(r:EO k A):EO k (A.mark v):=⟨r.dp,r.un⟩
def fX(T:Tx K mg):EE P w K mg base CXS 1 1177 (EM K 1177) ["_law_e","_law_word"] wZ:=by
 show(T.df 51 O).ok OE (λvs H Q E h=>?_) (λcdv A outer s H vs Q E hr h=>?_);·let(e,dx,a0,tb,O,_):=h;rfl
 let(e,dx,a0,tb,O,hE,b3,q):=h;let hu:=hr.units;let U:∀{H':Hp},AZ H H'->(dx=S\/∃d fs,dx=Y d/\H' d=Y (.xd fs)):=λs=>b3.imp id λa8=>(by let(d,fs,e,h):=a8;show{d,fs,e,s _ _ h});let xz:=T.MT;show{_,Bk (qS 2 OE.nd<|Cq (AY (DC<|Cy AR (qB DZ T.Ba AW<|Cy (pv 0) (My<|T.mc 1 O)))<|Cy (DC<|Cy AR (qB DZ T.Ba AW<|Cy (pv 0) (My<|T.mc 2 O))) (DC<|Cy AR (qB DZ T.Ba AW<|Cy (pv 0) (My T.MX)))))<|Bk (qS 2 OE.nd<|Bt JO (pv 2) (Cq<|Cy (DC<|Cy AR (qB DZ T.Ba AW<|Cy (pv 0) (My<|T.mc 7 O))) (DC<|Cy AR (qB DZ T.Ba AW<|Cy (pv 0) (My T.MV))))) (Bk (qS 2 OE.nd<|Bt JO (pv 2) (Cq<|Cy (DC<|Cy AR (qB DZ T.Ba AW<|Cy (pv 0) (My<|T.mc 9 O))) (DC<|Cy AR (qB DZ T.Ba AW<|Cy (pv 0) (My<|T.mc 3 O)))))<|Bk (qS 2 OE.nd<|Bt JO (pv 2) (Cq<|Cy (DC<|Cy AR (qB DZ T.Ba AW<|Cy (pv 0) (My<|T.mc 10 O))) (DC<|Cy AR (qB DZ T.Ba AW<|Cy (pv 0) (My<|T.mc 4 O))))) (Bk (Ds<|Ej Bg BG BF Du (pv 2) (Cp<|DC (Cy AR<|qB DZ T.Ba AW (Cy (pv 0)<|My (T.mc 5 O)))))<|qr (DT (Da (OL hu) (tE (ts:=["_law_one","_law_is_so"]) (xs:=[]) (js:=[]) O {O,O,Ab,Ab,jK O} .nil Ab (DS<|pv 2) (λC s_ H_ fp=>tw K O (n:=2) O<|CJ (BQ (i:=0) U2 O (Ci O)<|DN O) (CJ (BQ (i:=1) U2 O (Ci O)<|DN O) Jp)) (λC s_ H_ fp=>PF<|BA (pv 1)) λC s_ H_ fp=>pv 0) (Cq<|Cp (pv 1))<|DW _)<|ED (qB DZ T.Ba AW<|Cy (pv 0) (RJ (T.y 16 O) Zx))))),?_};show CD (P3 H e 3) ?_ ?_;·let s0:AZ H H:=AZ.refl H;show{e,_,dx,a0,tb,_,_,_,O,s0 _ _ hE,xz,U s0,.inl {(_),O,O},(T.q 72 O),zl 2,λt0 h0=>?_};let u0:=Bd (u:=.tup [.str "number",.bl ge]) h0;let p0:=Df h0<|.tup [.str "number",.bl ge];let s1:=s0.trans u0;show{e,_,dx,a0,tb,_,_,_,O,s1 _ _ hE,xz,U s1,.inl {(_),O,O},(T.q 73 O),zl 2,λt1 h1=>?_};let u1:=Bd (u:=.tup [.str "row",.bl ge]) h1;let p1:=Df h1<|.tup [.str "row",.bl ge];let s2:=s1.trans u1;show{e,_,dx,a0,tb,_,_,_,O,s2 _ _ hE,xz,U s2,.inl {(_),O,O},(T.q 74 O),zl 2,λt2 h2=>?_};let u2:=Bd (u:=.tup [.str "book",.bl ge]) h2;let p2:=Df h2<|.tup [.str "book",.bl ge];let s3:=s2.trans u2;show{zl 3,λl h=>?_};let u:=Bd (u:=.lst [.ref t0,.ref t1,.ref t2]) h;show{_,l,[t0,t1,t2],s3.trans u,s3.free h,Df h _,.cons (u _ _<|u2 _ _ (u1 _ _ p0))<|.cons (u _ _<|u2 _ _ p1) (.cons (u _ _ p2) .nil)}
 rintro σ' H' ⟨_,l,ts,s,hl,el,pr⟩;show CD (P3 H e 5) ?_ ?_
 ·skip
  show{e,_,dx,a0,tb,_,_,_,O,s _ _ hE,xz,U s,.inl {(_),O,O},(T.q 75 O),zl 2,λt3 h3=>?_};let u3:=Bd (u:=.tup [.str "value",.bl ge]) h3;let p3:=Df h3<|.tup [.str "value",.bl ge];let s4:=s.trans u3;show{e,_,dx,a0,tb,_,_,_,O,s4 _ _ hE,xz,U s4,.inl {(_),O,O},(T.q 76 O),zl 2,λt4 h4=>?_};let u4:=Bd (u:=.tup [.str "text",.bl Z]) h4;let p4:=Df h4<|.tup [.str "text",.bl Z];let s5:=s4.trans u4;show{zl 2,λm h=>?_};let u:=Bd (u:=.lst [.ref t3,.ref t4]) h;let a1:=u _ _<|u4 _ _ (u3 _ _ el);show{l,m,_,_,O,O,a1,Df h _,by rw[Ay,<-pr.length];change 5<=sizeLine;decide,λl' h'=>?_};let u':=Bd (u:=.lst<|ts.map V.ref++[.ref t3,.ref t4]) h';let sA:=((u3.trans u4).trans u).trans u';show{_,l',ts++[t3,t4],s.trans sA,(s5.trans u).free h',?_,?_}
  ·rw[Df h',Bl];rfl
  show Hc (l:=L1.take 3) (Paired.mapP pr λ_ _ z=>sA _ _ z)<|.cons (u' _ _<|u _ _ (u4 _ _ p3)) (.cons (u' _ _<|u _ _ p4) .nil)
 rintro σ' H' ⟨_,l,ts,s,hl,el,pr⟩;show CD (P3 H e 7) ?_ ?_
 ·skip
  show{e,_,dx,a0,tb,_,_,_,O,s _ _ hE,xz,U s,.inl {(_),O,O},(T.q 77 O),zl 2,λt5 h5=>?_};let u5:=Bd (u:=.tup [.str "wire",.bl ge]) h5;let p5:=Df h5<|.tup [.str "wire",.bl ge];let s6:=s.trans u5;show{e,_,dx,a0,tb,_,_,_,O,s6 _ _ hE,xz,U s6,.inl {(_),O,O},(T.q 78 O),zl 2,λt6 h6=>?_};let u6:=Bd (u:=.tup [.str "check",.bl ge]) h6;let p6:=Df h6<|.tup [.str "check",.bl ge];let s7:=s6.trans u6;show{zl 2,λm h=>?_};let u:=Bd (u:=.lst [.ref t5,.ref t6]) h;let a1:=u _ _<|u6 _ _ (u5 _ _ el);show{l,m,_,_,O,O,a1,Df h _,by rw[Ay,<-pr.length];change 7<=sizeLine;decide,λl' h'=>?_};let u':=Bd (u:=.lst<|ts.map V.ref++[.ref t5,.ref t6]) h';let sA:=((u5.trans u6).trans u).trans u';show{_,l',ts++[t5,t6],s.trans sA,(s7.trans u).free h',?_,?_}
  ·rw[Df h',Bl];rfl
  show Hc (l:=L1.take 5) (Paired.mapP pr λ_ _ z=>sA _ _ z)<|.cons (u' _ _<|u _ _ (u6 _ _ p5)) (.cons (u' _ _<|u _ _ p6) .nil)
 rintro σ' H' ⟨_,l,ts,s,hl,el,pr⟩;show CD (P3 H e 9) ?_ ?_
 ·skip
  show{e,_,dx,a0,tb,_,_,_,O,s _ _ hE,xz,U s,.inl {(_),O,O},(T.q 79 O),zl 2,λt7 h7=>?_};let u7:=Bd (u:=.tup [.str "kin",.bl ge]) h7;let p7:=Df h7<|.tup [.str "kin",.bl ge];let s8:=s.trans u7;show{e,_,dx,a0,tb,_,_,_,O,s8 _ _ hE,xz,U s8,.inl {(_),O,O},(T.q 80 O),zl 2,λt8 h8=>?_};let u8:=Bd (u:=.tup [.str "key",.bl ge]) h8;let p8:=Df h8<|.tup [.str "key",.bl ge];let s9:=s8.trans u8;show{zl 2,λm h=>?_};let u:=Bd (u:=.lst [.ref t7,.ref t8]) h;let a1:=u _ _<|u8 _ _ (u7 _ _ el);show{l,m,_,_,O,O,a1,Df h _,by rw[Ay,<-pr.length];change 9<=sizeLine;decide,λl' h'=>?_};let u':=Bd (u:=.lst<|ts.map V.ref++[.ref t7,.ref t8]) h';let sA:=((u7.trans u8).trans u).trans u';show{_,l',ts++[t7,t8],s.trans sA,(s9.trans u).free h',?_,?_}
  ·rw[Df h',Bl];rfl
  show Hc (l:=L1.take 7) (Paired.mapP pr λ_ _ z=>sA _ _ z)<|.cons (u' _ _<|u _ _ (u8 _ _ p7)) (.cons (u' _ _<|u _ _ p8) .nil)
 rintro σ' H' ⟨_,l,ts,s,hl,el,pr⟩;show CD (P3 H e 10) ?_ ?_
 ·show{.inl {O,_,Cg.of el},e,_,dx,a0,tb,_,_,_,O,s _ _ hE,xz,U s,.inl {(_),O,O},(T.q 81 O),zl 2,λt9 h9=>?_};let u9:=Bd (u:=.tup [.str "version",.bl ge]) h9;let a1:=u9 _ _ el;show{l,_,_,O,O,a1,by rw[Ay,<-pr.length];change 9<sizeLine;decide,?_};show{_,l,ts++[t9],(s.trans u9).put hl,hl,?_,?_}
  ·rw[Az,Bl];rfl
  show Hc (l:=L1.take 9) (Paired.mapP pr λ_ _ z=>rj (u9 _ _ z) a1 _)<|.cons (rj (Df h9 _) a1 _) .nil
 rintro σ' HF ⟨_,l,ts,sF,hl,hL,pr⟩;let b2:ts.length=10:=pr.length.symm;show{l,O,{_,Cg.of hL},O,Jj (Wk.list<|Cg.of hL) (by rw[Ay,b2];decide) (λj=>decide (j=4)) (λ_=>.str "text") (λj x hx H2 R s2 hR hN=>?_) λD H2 hD s2 e2=>{zl 1,λE d8=>?_}}
 ·rw[AQ]at hx;let(t,d4,O):=Bp.mp hx;let(p,hp,ht):=GO pr j t d4;let hp:L1[j]?=Y p:=hp;let(e1,e2):=X5 hp;show{t,_,O,Ec.of<|s2 _ _ ht,O,_,_,O,_,_,O,O,(Sub.set O).trans<|Sub.set O,_,O,?_};let d6:=hR H2<|AZ.refl _;let d7:=hN H2<|AZ.refl _;change(if p.2=Z then _ else _)
  rw[e1];by_cases h4:j=4;·rw[A1K h4];show BX ?_;have:=d6<|A1K h4;rw[<-e2 h4]at this;show this
  rw[A1L h4];show BM<|d7 (A1L h4)
 let s3:=Bd (u:=.lst [.str "text"]) d8;let d9:H2 D=Y (.lst<|([("text" :AT)]:List AT).map V.str):=by rw[e2,Ay,b2];rfl
 let sG:=(sF.trans s2).trans s3;show{_,_,MH<|s3 _ _ d9,MH (ys:=[("text" :AT)]) Az,GZ Ab,GZ Ab,_,O,?_};rw[vc];show BX {e,_,dx,a0,tb,_,_,_,O,sG _ _ hE,xz,U sG,.inr {(_),O,O},(AE<|T.cn (i:=0)),q _ sG}
def Jq:Ln->V|.txt z=>.str z|.thing _=>.non
structure XU(W:Nat)(y:AT):Prop where
 len:y.length<=W
 sok:BW y=Z
 nb:32∉sg y
def Mi(n W:Nat):Ln->Prop|.txt z=>(Ca z " ").length<=n/\∀y∈Ca z " ",XU W y|.thing d=>d= .non
def XU.mono(h:XU W y)(hw:W<=j):XU j y:={AU h.len hw,h.sok,h.nb}
def Mi.mono(h:Mi n W l)(hn:n<=j)(hw:W<=F):Mi j F l:=by cases l with|txt z=>show{AU h.1 hn,λy D=>(h.2 y D).mono hw}|thing d=>show h
def cQ(ys:List AT):FD " " ys=Str.join {#[32]} ys:=by change Builtin.Str.glued (BV " ") ys=_;rw[StrLaws.glued_eq_join,vD]
def Tz(z:AT):FD " " (Ca z " ")=z:=by rw[cQ,<-vD];show StrLaws.join_split _ _
def VY{ys:List AT}(z:ys≠[])(j:∀y∈ys,32∉sg y):Ca (FD " " ys) " "=ys:=by rw[cQ];change Ca _ (BV " ")=ys;rw[vD];show iI z j
def gw(W:Nat):∀xs:List (List Nat),(∀x∈xs,x.length<=W)->(OZ xs).length<=xs.length* (W+1)
 |[],_=>Cu _
 |[x],h=>by
  have:=h x<|Bi ..;change x.length<=1* (W+1)
  lia
 |x::y::r,h=>by
  let h1:=h x<|Bi ..;let h2:=gw W (y::r) λz j=>h z<|Bq _ j;change(x++32::OZ (y::r)).length<= ((y::r).length+1) * (W+1);rw[AS,BJ,Nat.succ_mul]
  lia
def uD{ys:List AT}(hn:ys.length<=n)(h:∀y∈ys,XU W y): (FD " " ys).length<=n* (W+1):=by
 rw[cQ,<-Ha,RD];have:=gw W (ys.map sg) λx z=>by
  let(y,j,O):=Bb.mp z;rw[Ha];show(h y j).len
 rw[Ay]at this;show AU this<|Nat.mul_le_mul_right _ hn
def Mi.len(h:Mi n W (.txt z)):z.length<=n* (W+1):=by have:=uD h.1 h.2;rw[Tz]at this;show this
def Mi.sok(h:Mi n W (.txt z)):BW z=true:=by have:=nR (Ca z " ") λy j=>(h.2 y j).sok;rw[show FD (BV " ") (Ca z " ")=z from Tz z]at this;show this
def ZZ:Ca "" " "=[("" :AT)]:=⋯
def ra(W:Nat):XU W "":={by change("" :AT).length<=W;show Cu _,Ab,Ab}
def Mi.join{ys:List AT}(hn:ys.length<=n)(h1:1<=n)(h:∀y∈ys,XU W y):Mi n W (.txt<|FD " " ys):=by
 by_cases z:ys=[];·rw[z,show FD " " []=("" :AT)by decide+kernel];show{by rw[ZZ];show h1,λy j=>?_};rw[ZZ,Bc]at j;rw[j];show ra W
 let e:=VY z λy j=>(h y j).nb;show{by rw[e];show hn,λy j=>h y<|by rw[e]at j;show j}
def Mi.ok(h:Mi n W l)(hn:n<=20)(hw:W<=200):jY l:=⟨λys e=>by
 cases l with
 |thing d=>cases e
 |txt z=>
  let e:Jb z=Y ys:=e;unfold Jb at e;split at e;·cases e
  obtain rfl:=AE e;show{AU h.1 (),λy j=>{AU (h.2 y j).len (),(h.2 y j).sok}}⟩
def Mi.is(h:Mi n W l)(hn:n<=20)(hw:W<=200):dm H l (Jq l):=by
 cases l with
 |thing d=>
  obtain rfl:d= .non:=h;show{(O),O}
 |txt z=>
  show{O,AU h.len ?_};have:n* (W+1)<=20*201:=Nat.mul_le_mul hn ()
  lia
def jD{ls:List Ln}(h:∀x∈ls,Mi n W x)(hn:n<=20)(hw:W<=200):Paired (dm H) ls (ls.map Jq):=by induction ls with|nil=>show .nil|cons l r j=>show .cons ((h l<|Bi ..).is hn hw)<|j λx z=>h x<|Bq _ z
def wA{y:AT}(h:XU W y)(hw:1<=W):XU (W+1) (y++ "a"):=by
 show{IF h.len Ab,bG h.sok Ab,?_};rw[Wh,BE];rintro(e|e);·show h.nb e
 show A1Q e Ab
def Qp:List AT:=["0","1","2","3","4","5","9","10","11","13","14","15","16","-1","200","201"]
def Qo(y:AT):List AT:=["256","a","-","","00","01","field","form","ab",y++ "a","A"]
def Ut:List AT:=["abcdefghijklm","100","101",toS big,toS<|big - 1]
def A5(y:AT):Bool:=decide (y.length<=80) && (BW y&& !decide (32∈sg y))
def iw(h:A5 y=Z):XU 80 y:=by unfold A5 at h;simp only[AA,decide_eq_true_eq,Do,decide_eq_false_iff_not]at h;show{(h.1),h.2.1,h.2.2}
def sy:Qp.all A5=true:=⋯
def sw:Ut.all A5=true:=⋯
def lh{y:AT}(h:XU W y)(hw:80<=W):∀x∈Qp++Qo y++Ut,XU (W+1) x:=λx j=>by
 let lit:∀{x:AT},A5 x=Z->XU (W+1) x:=λh=>(iw h).mono ();rcases BE.mp j with j|j
 ·rcases BE.mp j with j|j
  ·show lit<|Bz.mp sy x j
  unfold Qo at j;simp only[Bf,Cm,or_false]at j;rcases j with rfl|rfl|rfl|rfl|rfl|rfl|rfl|rfl|rfl|rfl|rfl
  all_goals first|show wA h ()|show lit Ab
 show lit<|Bz.mp sw x j
structure BnQ(H:Hp)(Q:VK)(n W m:Nat):Prop where
 go:∀D H' (ls':List Ln),AZ H H'->H' D=Y (.lst<|ls'.map Jq)->(∀x∈ls',Mi n W x)->ls'.length<=m->Q (.ref D) H'
inductive vZ(vs:List V)(H:Hp)(Q:VK):Prop|mk (l:AH) (cell:Int) (ls:List Ln) (n W:Nat) (_:vs=[.ref l,.int cell]) (_:0<=cell) (_:H l=some (.lst<|ls.map Jq)) (_:∀x∈ls,Mi n W x) (_:7<=n) (_:n<20) (_:80<=W) (_:W<200) (_:ls≠[]) (_:ls.length<=90) (_:BnQ H Q (n+1) (W+1) (ls.length+1))
def wX:Sp:=λvs H Q _=>vZ vs H Q
abbrev bS(L:AH)(c:Int)(j v3 v4 v5 v6:Option V):L2.St:=[Y (.ref L),Y<|.int c,j,v3,v4,v5,v6]
def cH{c:Int}{n:Nat}(h:0<n):∃a:Nat,c% (n:Int)=(a:Int)/\a<n:=by let h1:=Hj c (show(n:Int)≠0 by lia);let h2:=FG c (show(0:Int) <n by lia);show{(c% (n:Int)).toNat,(),()}
def Xd{H:Hp}{t b:AH}{o:HO}(h:H t=S)(e:H b=Y o):t≠b:=λz=>by rw[z,e]at h;cases h
def aQ{j z:Type}(f:j->z):∀(l:List j) (i:Nat),(l.map f).eraseIdx i=(l.eraseIdx i).map f
 |[],_=>rfl|_::_,0=>rfl
 |x::l,i+1=>by
  change f x:: (l.map f).eraseIdx i=f x:: (l.eraseIdx i).map f;rw[aQ f l i]
def XS{z:Type}{xs:List z}(f:z->V){i:Int}(F:0<=i)(h1:i< (xs.length:Int)):∃x,TN (xs.map f) i=Y (f x)/\x∈xs:=by
 obtain⟨j,rfl⟩:∃j:Nat,i=(j:Int):={i.toNat,()};let D:j<xs.length:=()
 show{xs[j],CN ?_,HW _};rw[AQ,AI D];rfl
def xT:List Ln:=[.thing .non,.txt "",.txt "form",.txt "form zz 0 0",.txt "form zz 1 1",.txt "field 1 a 0 0 0 0",.txt "form zz 1 0",.txt "form yy 1 0"]
def cL{z:AT}(h: (decide ((Ca z " ").length<=7) && (Ca z " ").all A5)=Z):Mi 7 80 (.txt z):=by rw[AA]at h;show{A1M h.1,λy j=>iw<|Bz.mp h.2 y j}
def xS:∀x∈xT,Mi 7 80 x:=λx j=>by
 unfold xT at j;simp only[Bf,Cm,or_false]at j;rcases j with rfl|rfl|rfl|rfl|rfl|rfl|rfl|rfl;·rfl
 all_goals show cL Ab
def xP(T:Tx K mg):∅ 1 1241 ["_law_lines_here","_law_cell"] wX:=by
 show(T.df 61 O).okA Jn ?_;intro 1 hr h;let(l,cell,ls,n,W,O,m3,hl,e5,l9,hn,f1,hW,g8,i7,q):=h;let hu:=hr.units;show{_,AJ (qS 0 Jn.nd<|qT EV T.FO EJ (Cp<|pv 0))<|AJ (qS 2 Jn.nd<|Bt Di (Bt Ey (pv 1) AD) (qB Cd T.Ei De<|Cp (pv 0))) (Bk (qS 3 Jn.nd<|DH (qc OK (KE (pv 0)<|pv 2) DG) (Cq<|Cp AR) (Ej Cr Qc Qb Xf (KE (pv 0)<|pv 2)<|Cp AR))<|AJ (qS 4 Jn.nd<|Bt Di (Bt Ey (pv 1) AD) (qB Cd T.Ei De<|Cp (pv 3))) (AJ (qS 5 Jn.nd<|Bt Di (pv 1) AD)<|AJ (qS 6 Jn.nd<|Cq (AY AR<|AY AR (AY AR<|AY AR (AY AR<|AY AR (AY AR<|AY AR (AY AR<|AY AR (AY AR<|AY AR (AY AR<|AY AR (Cy AR AR))))))))) (AJ (qS 6 Jn.nd<|Bt JO (pv 6) (Cq<|AY AR (AY AR<|AY AR (AY AR<|AY AR (AY AR<|AY AR (AY AR<|AY AR (Cy (Bt Fd (KE (pv 3)<|pv 4) AR) AR)))))))<|Bk (qS 6 Jn.nd<|Bt JO (pv 6) (Cq<|AY AR (AY AR<|AY AR (Cy (qT DY T.IU GF<|Cp (Bt LA (Bt LA AD AD) AD))<|qT DY T.IU GF (Cp<|Bt Gi (Bt LA (Bt LA AD AD) AD) AD))))) (Bk (OH (PW.pt<|EX (qc CU (pv 5) AD) (ET<|qc (OL hu) (pv 3) (Cq<|Cp AR))) (BO<|Ds (Ej Bg PySem.F.slot_list_pop PySem.F.type_list_pop uk (pv 0)<|Cp (pv 2)))<|BO (OH (qc CU (pv 5) AD) (BO<|Ds (Ej Bg Od Oc Tp (pv 0)<|Cy (pv 2) (KE (pv 0)<|pv 2)))<|BO (OH (qc CU (pv 5) AD) (BO<|Nn (DC<|Cy (KE (pv 0)<|Bt Gi (pv 2) AD) (KE (pv 0)<|pv 2)) (Tl O (n:=2)<|CJ (No (pv 0) (pv 2) Iu) (CJ (No (pv 0) (Bt Gi (pv 2) AD) Iu) Jp)))<|BO (OH (qc CU (pv 5) AD) (BO<|Nn (Ej Cr EG EF Nq AR<|Cp (Bt JO (Gu RC (pv 3) HI<|HH (pv 4))<|Gu RC (pv 3) (HH<|Bt DV (pv 4) AD) HI)) (No (pv 0) (pv 2) Iu))<|BO (OH (qc CU (pv 5) AD) (AJ (Ds<|Ej Bg Od Oc Tp (pv 3) (Cy (pv 4)<|KE (pv 6) (Bt Di (Bt Ey (pv 1) AD) AD)))<|BO (Nn (Ej Cr EG EF Nq AR<|Cp (pv 3))<|No (pv 0) (pv 2) Iu))<|BO (OH (qc CU (pv 5) AD) (AJ (Nn (KE (pv 6)<|Bt Di (Bt Ey (pv 1) AD) AD)<|No (pv 3) (pv 4) Iu)<|BO (Nn (Ej Cr EG EF Nq AR<|Cp (pv 3))<|No (pv 0) (pv 2) Iu))<|AJ (qS 6 Jn.nd<|Cq (AY DG<|AY AR (AY AR (AY AR (AY AR (AY AR (Cy AR AR))))))) (BO<|Ds (Ej Bg Od Oc Tp (pv 0)<|Cy (pv 2) (KE (pv 6) (Bt Di (Bt Ey (pv 1) AD) AD))))))))))<|qr (pv 0))))),?_};let hpos:0<ls.length:=Im.mpr g8;show{l,_,O,.inl<|Cg.of hl,λL hL=>?_};let sL:=Bd (u:=.lst<|ls.map Jq) hL;let eL:=Df hL<|.lst (ls.map Jq);let(a,ea,ha):=cH (c:=cell/7) hpos;let cd:∀{c k:Int},0<k->k<1073741824->n0 c k:=λh1 h2=>{(h1),h2};show{cd Aa Aa,L,_,O,.inl<|Cg.of eL,by change(0:Int) < ((ls.map Jq).length:Int);rw[Ay];lia,?_}
 dsimp only
 rw[Ay,ea];obtain⟨ln,b7⟩:∃ln,ls[a]?=Y ln:={_,AI ha};let d1:=e5 ln<|AN b7;let c2:TN (ls.map Jq) ((a:Nat):Int)=Y (Jq ln):=CN (by rw[AQ,b7];rfl);let b8:ij (ls.map Jq).length ((a:Nat):Int)=Y a:=by unfold ij;rw[A1O (),Ay,A1O (),EZ]
 show CD (λσ' H'=>∃(p:AH) (ys:List AT),σ'=bS L cell (Y<|.int (a:Nat)) (Y<|.ref p) S S S/\AZ H H'/\H' L=Y (.lst<|ls.map Jq)/\H' p=Y (.lst<|ys.map V.str)/\H p=S/\p≠L/\ys≠[]/\ys.length<=n/\∀y∈ys,XU W y) ?_ ?_
 ·show{L,_,_,_,O,O,Cg.of eL,c2,?_};cases ln with
  |thing d=>
   show{O,_,O,Nt O {zl 1,λp hp=>{p,[""],O,sL.trans<|Bd hp,Bd hp _ _ eL,Az,sL.free hp,?_,(λz=>by cases z),by change 1<=n;lia,λy hy=>?_}}};·intro e;rw[e,eL]at hp;cases hp
   rw[Bc.mp hy];show ra W
  |txt z=>
   let D:z.length<=8000:=by
    have:=d1.len;have:n* (W+1)<=20*201:=Nat.mul_le_mul () ()
    lia
   show{O,_,O,FM (λz=>by cases z) {L,_,_,_,O,O,Cg.of eL,c2,O,z," ",O,O,Ab,xZ (),xZ<|Te z " " D,xZ<|PH z " " D,λp hp=>{p,Ca z " ",O,sL.trans<|Bd hp,Bd hp _ _ eL,Az,sL.free hp,?_,eN _ _,d1.1,d1.2}}};intro e;rw[e,eL]at hp;cases hp
 rintro σ' H1 ⟨p,ys,rfl,s1,i0,hp,fp,e0,g5,l7,d0⟩;let hyp:0<ys.length:=Im.mpr g5;let(k,ek,hk):=cH (c:=cell/300) hyp;obtain⟨y,hy⟩:∃y,ys[k]?=Y y:={_,AI hk};let c1:=d0 y<|AN hy;let e1:TN (ys.map V.str) ((k:Nat):Int)=Y (.str y):=CN (by rw[AQ,hy];rfl);show{cd Aa Aa,p,_,O,.inl<|Cg.of hp,by change(0:Int) < ((ys.map V.str).length:Int);rw[Ay];lia,?_}
 dsimp only
 rw[Ay,ek];show{by change(0:Int) <7;decide,zl 16,λt1 h1=>?_};let u1:=Bd (u:=.lst<|Qp.map V.str) h1;let a1:=Df h1<|.lst (Qp.map V.str);let yl:y.length<=1000:=by have:=c1.len;lia
 let ya:=IF yl (show("a" :AT).length<=1 by decide+kernel);show{p,_,_,_,O,O,Cg.of<|u1 _ _ hp,e1,_,_,O,O,by have:=c1.len;rw[show("a" :AT).length=1 by decide+kernel];show Gq (),zl 11,λt2 h2=>?_};let u2:=Bd (u:=.lst<|(Qo y).map V.str) h2;let a2:=Df h2<|.lst ((Qo y).map V.str);show{t1,t2,_,_,O,O,u2 _ _ a1,a2,zl 27,λt3 h3=>?_};let u3:=Bd (u:=.lst<|Qp.map V.str++ (Qo y).map V.str) h3;let a3:=Df h3<|.lst (Qp.map V.str++ (Qo y).map V.str);let lb:big.natAbs.log2<1920:=⋯
 let g3: (big - 1).natAbs.log2<1920:=⋯
 let s3:=((s1.trans u1).trans u2).trans u3;show CD (λσ' H'=>∃t,σ'=bS L cell (Y<|.int (a:Nat)) (Y<|.ref p) (Y<|.int (k:Nat)) (Y<|.int (cell%7)) (Y<|.ref t)/\AZ H H'/\H' L=Y (.lst<|ls.map Jq)/\H' p=Y (.lst<|ys.map V.str)/\H' t=Y (.lst<|(Qp++Qo y++Ut).map V.str)/\t≠L/\t≠p) ?_ ?_;·show{xr,o0,_,O,lb,xr,o0,_,O,g3,zl 5,λt4 h4=>?_};let u4:=Bd (u:=.lst<|Ut.map V.str) h4;let a4:=Df h4<|.lst (Ut.map V.str);show{t3,t4,_,_,O,O,u4 _ _ a3,a4,zl 32,λt5 h5=>?_};let u5:=Bd (u:=.lst<|Qp.map V.str++ (Qo y).map V.str++Ut.map V.str) h5;let f3:=u4 _ _<|u3 _ _ (u2 _ _<|u1 _ _ i0);let f2:=u4 _ _<|u3 _ _ (u2 _ _<|u1 _ _ hp);show{t5,O,(s3.trans u4).trans u5,u5 _ _ f3,u5 _ _ f2,?_,Xd h5 f3,Xd h5 f2};rw[Az,Bl,Bl]
 clear a1 u1 u2 a2 u3 a3 s3 h1 h2 h3;rintro σ' H2 ⟨t,rfl,s2,d3,g7,g6,l5,l4⟩;show CD (λσ' H'=>∃v2 v3 v4 v5 v6,∃ls':List Ln,σ'=bS L cell v2 v3 v4 v5 v6/\AZ H H'/\H' L=Y (.lst<|ls'.map Jq)/\(∀x∈ls',Mi (n+1) (W+1) x)/\ls'.length<=ls.length+1) ?_ ?_
 ·let a9:∀x∈ls,Mi (n+1) (W+1) x:=λx hx=>(e5 x hx).mono () ();let e4:seqIndex? ((a:Nat):Int) (ls.map Jq).length=Y a:=by rw[Ay,seqIndex_of () (),EZ]
  let i1: -(2 ^ 63:Int)<= ((a:Nat):Int):=Yn Aa<|Int.natCast_nonneg a;let i2: ((a:Nat):Int) <2 ^ 63:=Int.lt_of_lt_of_le (show((a:Nat):Int) <1000 by lia) Aa;let e9: (ls.map Jq)[a]?=Y (Jq ln):=by rw[AQ,b7];rfl
  let er: (ls.map Jq).eraseIdx a=(ls.eraseIdx a).map Jq:=aQ ..;let c5:∀x∈ls.eraseIdx a,Mi (n+1) (W+1) x:=λx hx=>a9 x<|List.mem_of_mem_eraseIdx hx;let c4: (ls.eraseIdx a).length<=ls.length+1:=AU (List.length_eraseIdx_le ..)<|ER _;show{O,_,O,DL (λh=>?_) λh=>{zl 1,λt6 h6=>?_}}
  ·show{.inl {O,_,Cg.of d3},L,_,_,a,_,O,O,d3,i1,i2,e4,e9,_,_,_,_,_,ls.eraseIdx a,O,s2.put hL,by rw[Az,er],c5,c4}
  let u6:=Bd (u:=.lst<|([("" :AT)]:List AT).map V.str) h6;let s6:=s2.trans u6;let U:=u6 _ _ d3;let a8:=u6 _ _ g7;let e2:=u6 _ _ g6;let i8:∀{m:Nat},m=ls.length->ij m ((a:Nat):Int)=Y a:=λ{m} e=>by
   rw[e,<-Ay (f:=Jq)];show b8
  let c7:∀x:Ln,(ls.take a++x::ls.drop a).length<=ls.length+1:=λx=>by
   rw[AS,BJ,Cb,DD];lia
  let c6:∀{x:Ln},Mi (n+1) (W+1) x->∀z∈ls.take a++x::ls.drop a,Mi (n+1) (W+1) z:=λ{x} hx z D=>by
   rcases BE.mp D with D|D;·show a9 z<|Dz D
   rcases Bf.mp D with rfl|D;·show hx
   show a9 z<|FW D
  let c8:∀x:Ln,(ls.map Jq).take a++Jq x:: (ls.map Jq).drop a=(ls.take a++x::ls.drop a).map Jq:=λx=>by simp
  let setW:∀{x:Ln},Mi (n+1) (W+1) x->∀z∈ls.set a x,Mi (n+1) (W+1) z:=λ{x} hx z D=>by
   rcases NB D with D|rfl;·show a9 z D
   show hx
  let b2:∀x:Ln,(ls.set a x).length<=ls.length+1:=λx=>by rw[IM];lia
  let b3:∀x:Ln,(ls.map Jq).set a (Jq x)=(ls.set a x).map Jq:=λx=>Ym.symm;let b0:∀{zs:List AT},zs.length<=n+1->(∀z∈zs,XU (W+1) z)->Mi (n+1) (W+1) (.txt<|FD " " zs):=λh1 h2=>Mi.join h1 () h2;let d2:∀{zs:List AT},zs.length<=n+1->(∀z∈zs,XU (W+1) z)->(zs.map (·.length)).sum+zs.length* (" " :AT).length<=16777216:=λh1 h2=>Sc () (λz D=>by have:=(h2 z D).len;lia) Ab;let yw:∀z∈ys,XU (W+1) z:=λz D=>(d0 z D).mono ();show{_,_,MH a8,MH (ys:=[("" :AT)]) Az,GZ λz D=>(d0 z D).sok,GZ Ab,_,O,DL (λh7=>?_) λh7=>{O,_,O,DL (λw1=>?_) λw1=>{O,_,O,DL (λw2=>?_) λw2=>{O,_,O,DL (λw3=>?_) λw3=>{O,_,O,DL (λw4=>?_) λw4=>{O,_,O,DL (λw5=>?_) λw5=>?_}}}}}};·show{.inl {O,_,Cg.of U},L,_,_,a,_,O,O,U,i1,i2,e4,e9,_,_,_,_,_,ls.eraseIdx a,O,s6.put hL,by rw[Az,er],c5,c4}
  ·show{.inl {O,_,Cg.of U},L,_,_,_,O,O,Cg.of U,c2,L,_,a,_,O,O,U,by rw[Ay];lia,by rw[Ay];lia,_,_,_,_,_,ls.take a++ln::ls.drop a,O,s6.put hL,by rw[Az,c8],c6<|a9 ln (AN b7),c7 ln}
  ·obtain⟨j,hj,ej⟩:∃j,j<ls.length/\ij ls.length (((a:Nat):Int) - 1)=Y j:=by
    unfold ij;by_cases h0:a=0;·show{ls.length - 1,(),by rw[A1N (),A1O ()];congr 1;lia}
    show{a - 1,(),by rw[A1O (),A1O ()];congr 1;lia}
   obtain⟨lj,e6⟩:∃lj,ls[j]?=Y lj:={_,AI hj};let f0:TN (ls.map Jq) (((a:Nat):Int) - 1)=Y (Jq lj):=by unfold TN;rw[Ay,ej];change(ls.map Jq)[j]?=_;rw[AQ,e6];rfl
   show{L,_,_,_,O,O,Cg.of U,f0,L,_,_,_,O,O,Cg.of U,c2,zl 2,λt7 h7=>?_};let u7:=Bd (u:=.tup [Jq lj,Jq ln]) h7;show{t7,_,O,Ec.of Az,O,_,_,O,L,_,_,a,O,O,u7 _ _ U,b8,_,_,O,L,_,_,j,O,O,Az,by rw[IM,Ay];show ej,O,_,_,_,_,_,(ls.set a lj).set j ln,O,((s6.trans u7).put hL).put hL,?_,λx hx=>?_,by rw[IM,IM];lia};·rw[Az,Ym,Ym]
   rcases NB hx with hx|rfl;·show setW (a9 lj<|AN e6) x hx
   show a9 _<|AN b7
  ·show{O,_,O,p,_,O,Cg.of a8,λt7 h7=>?_};let u7:=Bd (u:=.lst<|Oa (ys.map V.str) S (Y ((k:Nat):Int))) h7;show{_,O,p,_,O,Cg.of<|u7 _ _ a8,λt8 h8=>?_};let u8:=Bd (u:=.lst<|Oa (ys.map V.str) (Y<|((k:Nat):Int) +1) S) h8;let e7:Oa (ys.map V.str) S (Y ((k:Nat):Int))=(ys.take k).map V.str:=by rw[Pb O,List.map_take]
   let e8:Oa (ys.map V.str) (Y<|((k:Nat):Int) +1) S=(ys.drop<|k+1).map V.str:=by rw[XI (k:=k+1) (),List.map_drop]
   let a6: (ys.take k++ys.drop (k+1)).length<=n+1:=by rw[AS,Cb,DD];lia
   let a5:∀z∈ys.take k++ys.drop (k+1),XU (W+1) z:=λz D=>by
    rcases BE.mp D with D|D;·show yw z<|Dz D
    show yw z<|FW D
   let eC:Oa (ys.map V.str) S (Y ((k:Nat):Int)) ++Oa (ys.map V.str) (Y<|((k:Nat):Int) +1) S=(ys.take k++ys.drop (k+1)).map V.str:=by rw[e7,e8,Bl]
   show{t7,t8,_,_,O,O,u8 _ _<|Df h7 _,Df h8 _,?_,λt9 h9=>?_};·rw[<-AS,eC,Ay];show Gq ()
   let u9:=Bd (u:=.lst<|Oa (ys.map V.str) S (Y ((k:Nat):Int)) ++Oa (ys.map V.str) (Y<|((k:Nat):Int) +1) S) h9;let s9:=((s6.trans u7).trans u8).trans u9;show{" ",t9,ys.take k++ys.drop (k+1),O,O,Cg.of (by rw[<-eC];show Df h9 _),d2 a6 a5,L,_,_,a,O,O,u9 _ _<|u8 _ _ (u7 _ _ U),b8,_,_,_,_,_,ls.set a<|.txt (FD " "<|ys.take k++ys.drop (k+1)),O,s9.put hL,?_,setW<|b0 a6 a5,b2 _};rw[Az,<-b3];rfl
  ·let(x,hx,b6):=XS (xs:=Qp++Qo y++Ut) V.str (i:=cell/2100%32) (Hj _ Aa)<|FG _ Aa;let b5:=lh c1 f1 x b6;let a6: (ys.take k++x::ys.drop k).length<=n+1:=by rw[AS,BJ,Cb,DD];lia
   let a5:∀z∈ys.take k++x::ys.drop k,XU (W+1) z:=λz D=>by
    rcases BE.mp D with D|D;·show yw z<|Dz D
    rcases Bf.mp D with rfl|D;·show b5
    show yw z<|FW D
   let eC: (ys.map V.str).take k++V.str x:: (ys.map V.str).drop k=(ys.take k++x::ys.drop k).map V.str:=by simp
   show{.inl {O,_,Cg.of a8},cd Aa Aa,by change(0:Int) <32;decide,t,_,_,_,O,O,Cg.of e2,hx,p,_,k,_,O,O,a8,by rw[Ay];lia,by rw[Ay];lia,?_};show{O," ",p,ys.take k++x::ys.drop k,O,O,Cg.of (by rw[<-eC];show dc a8 _),d2 a6 a5,L,_,_,a,O,O,by rw[AM (CL e0)];show U,b8,_,_,_,_,_,ls.set a<|.txt (FD " " (ys.take k++x::ys.drop k)),O,(s6.put fp).put hL,?_,setW<|b0 a6 a5,b2 _};rw[Az,<-b3];rfl
  ·let(x,hx,b6):=XS (xs:=Qp++Qo y++Ut) V.str (i:=cell/2100%32) (Hj _ Aa)<|FG _ Aa;let b5:=lh c1 f1 x b6;let a6: (ys.set k x).length<=n+1:=by rw[IM];lia
   let a5:∀z∈ys.set k x,XU (W+1) z:=λz D=>by
    rcases NB D with D|rfl;·show yw z D
    show b5
   let eC: (ys.map V.str).set k (V.str x)=(ys.set k x).map V.str:=Ym.symm;let g4:ij (ys.map V.str).length ((k:Nat):Int)=Y k:=by unfold ij;rw[A1O (),Ay,A1O (),EZ]
   show{cd Aa Aa,by change(0:Int) <32;decide,t,_,_,_,O,O,Cg.of e2,hx,p,_,_,k,O,O,a8,g4,?_};show{O," ",p,ys.set k x,O,O,Cg.of (by rw[<-eC];show dc a8 _),d2 a6 a5,L,_,_,a,O,O,by rw[AM (CL e0)];show U,b8,_,_,_,_,_,ls.set a<|.txt (FD " "<|ys.set k x),O,(s6.put fp).put hL,?_,setW<|b0 a6 a5,b2 _};rw[Az,<-b3];rfl
  show{zl 8,λt7 h7=>?_};let u7:=Bd (u:=.lst<|xT.map Jq) h7;let(x,hx,b6):=XS (xs:=xT) Jq (i:=cell/300%8) (Hj _ Aa)<|FG _ Aa;let b5:Mi (n+1) (W+1) x:=(xS x b6).mono () ();show{.inl {O,_,Cg.of<|u7 _ _ U},cd Aa Aa,by change(0:Int) <8;decide,t7,_,_,_,O,O,Cg.of<|Df h7 _,hx,L,_,a,_,O,O,u7 _ _ U,by rw[Ay];lia,by rw[Ay];lia,_,_,_,_,_,ls.take a++x::ls.drop a,O,(s6.trans u7).put hL,by rw[Az,c8],c6 b5,c7 x}
 rintro σ' H3 ⟨v2,v3,v4,v5,v6,ls',rfl,s3,e3,w3,n3⟩;show q.go L H3 ls' s3 e3 w3 n3
open PySem.NumText in
def aV{f:List Nat}(h:AllDigits f)(j:f≠[])(D:f.head?=Y 48->f=[48]): (Jd<|digitsVal f).reverse=f:=by
 rw[<-Lx];let e:Qd 10 (digitsVal f)=f.map Char.ofNat:=by
  cases f with
  |nil=>show A1Q O j
  |cons c r=>
   show toDigits_digitsVal r.length (c::r) O h ?_;by_cases hc:c=48
   ·have:=D (by rw[hc];rfl);left;have:r=[]:=by simp_all
    rw[this];rfl
   show .inr {c,r,O,by have:=h c<|Bi ..;lia}
 rw[e,Br];show(Il λc hc=>?_).trans (SO _);have:=h c hc;change(Char.ofNat c).toNat=c;let z:Nat.isValidChar c:=.inl ();unfold Char.ofNat;rw[dif_pos z];change(UInt32.ofNatLT c _).toNat=c;rfl
open PySem.NumText in
def fY(h:BI y=Y n):toS n=y:=by
 unfold BI at h;split at h
 ·rename_i hg;obtain rfl:=AE h;unfold NP at hg;simp only[AA,Do,Hq,decide_eq_false_iff_not,Bool.not_eq_false',decide_eq_true_eq]at hg;let(hb,z):=hg;let(hd,j,_):=JC hb;show VW ?_;change sg (BV<|QE (UG<|sg y))=sg y;rw[bJ];unfold UG;by_cases hn:KJ (sg y)=Z
  ·rw[A1O hn];let F:Dc (sg y)=(sg y).drop 1:=by unfold Dc;rw[A1O hn]
   let U:sg y=45::Dc (sg y):=by
    rw[F];unfold KJ at hn;cases hs:sg y with
    |nil=>rw[hs]at hn;cases hn
    |cons c r=>
     rw[hs]at hn;have:c=45:=by simpa using hn
     rw[this];rfl
   let D: (Dc<|sg y).head?≠Y 48:=λe=>by
    rcases z with h|h;·show h e
    rw[h]at U;cases U
   let eb:=aV hd j λe=>A1Q e D;let hp:0<digitsVal (Dc<|sg y):=by
    rcases Nat.eq_zero_or_pos (digitsVal<|Dc (sg y))with e|e;·rw[e,Jc Aa]at eb;rw[<-eb]at D;show A1Q O D
    show e
   rw[A1O (),Int.natAbs_neg,Int.natAbs_natCast,eb];show U.symm
  rw[A1N hn];let F:Dc (sg y)=sg y:=by unfold Dc;rw[A1N hn]
  let D: (Dc<|sg y).head?=Y 48->Dc (sg y)=[48]:=λe=>by
   rcases z with h|h;·show A1Q e h
   rw[F,h]
  rw[A1N (),Int.natAbs_natCast,aV hd j D,F];rfl
 cases h
def fZ:BI "-"=none:=⋯
def xU:BI ""=none:=⋯
def OS(h:Ct y=Z):BI y=none:=by
 cases e:BI y with
 |none=>rfl
 |some n=>
  exfalso;unfold BI at e;split at e
  ·rename_i D;let(hd,j,_):=JC<|TC D;let z:=Vs h;cases hf:Dc (sg y)with
   |nil=>show j hf
   |cons c r=>
    let hc:c∈Dc (sg y):=by rw[hf];show Bi ..
    let h1:=hd c hc;let h2:c∈sg y:=by
     unfold Dc at hc;split at hc;·show FW hc
     show hc
    have:=z c h2
    lia
  cases e
def cG(h:Ct y=Z):y≠ "-":=λe=>by
 rw[e]at h;show A1Q h Ab
def Mv(h:Ct y=Z):Cz y= .s y:=by unfold Cz;rw[A1N (cG h),OS h]
def Kg(h:BI y=Y n):Cz y= .n n:=by unfold Cz;rw[A1N (λe=>by rw[e,fZ]at h;cases h),h]
def Fq(y:AT): (∃n,BI y=Y n/\Cz y= .n n)\/(BI y=S/\((y="-" /\Cz y= .s "")\/(y≠ "-" /\Cz y= .s y))):=by
 cases e:BI y with
 |some n=>show .inl {n,O,Kg e}
 |none=>
  show .inr {O,?_};by_cases h:y="-";·show .inl {h,by unfold Cz;rw[A1O h]}
  show .inr {h,by unfold Cz;rw[A1N h,e]}
def rg{y:AT}(h:y≠ ""):EL (Cz y)=y:=by
 rcases Fq y with⟨n,h1,h2⟩|⟨_,⟨h1,h2⟩|⟨h1,h2⟩⟩;·rw[h2];show fY h1
 ·rw[h2,h1];rfl
 rw[h2];show A1N h
def ak(y:AT):DJ (GM<|Cz y)=Ct y:=by
 rcases Fq y with⟨n,h1,h2⟩|⟨_,⟨h1,h2⟩|⟨h1,h2⟩⟩
 ·rw[h2];cases j:Ct y with|false=>rfl|true=>rw[OS j]at h1;cases h1
 ·rw[h2,h1];change Ct ""=Ct "-";decide+kernel
 rw[h2];rfl
def Vk(y:AT)(a b:Int):Mh (GM<|Cz y) a b=GQ (BI y) a b:=by
 rcases Fq y with⟨n,h1,h2⟩|⟨j,⟨h1,h2⟩|⟨h1,h2⟩⟩;·rw[h2,h1];rfl
 ·rw[h2,j];rfl
 rw[h2,j];rfl
def fG(y:AT):jG (Cz y)=(BI y).getD 0:=by
 rcases Fq y with⟨n,h1,h2⟩|⟨j,⟨h1,h2⟩|⟨h1,h2⟩⟩;·rw[h2,h1];rfl
 ·rw[h2,j];rfl
 rw[h2,j];rfl
def zI(y:AT)(n:Int):Cz y= .n n ↔ BI y=Y n:=by
 constructor
 ·intro h;rcases Fq y with⟨m,h1,h2⟩|⟨j,⟨h1,h2⟩|⟨h1,h2⟩⟩
  ·rw[h2]at h;cases h;show h1
  ·rw[h2]at h;cases h
  rw[h2]at h;cases h
 show Kg
def RK(j:Ct z=Z)(y:AT):Cz y= .s z ↔ y=z:=by
 constructor
 ·intro h;rcases Fq y with⟨m,h1,h2⟩|⟨D,⟨h1,h2⟩|⟨h1,h2⟩⟩
  ·rw[h2]at h;cases h
  ·rw[h2]at h;cases h;show A1Q j Ab
  rw[h2]at h;cases h;rfl
 rintro rfl;show Mv j
def xt(y:AT):decide (JA (Cz y)= .int 1)=decide (y="1"):=by
 rw[decide_eq_decide];constructor
 ·intro h;have:Cz y= .n 1:=by cases e:Cz y with|n i=>rw[e]at h;rw[V.int.inj h]|s z=>rw[e]at h;cases h
  have:=fY<|(zI y 1).mp this;rw[<-this];decide+kernel
 rintro rfl;rw[Kg (show BI "1"=Y 1 by decide+kernel)];rfl
def xY(j:AT)(ch:Bool): (decide (Cz j= .n (if decide (JA (Cz j)= .int 1)=Z then 1 else 0)) && !(decide (JA (Cz j)= .int 1) &&ch))=GQ (BI j) 0 (1 - if ch=Z then 1 else 0):=by
 rcases Fq j with⟨n,h1,h2⟩|⟨F,h⟩
 ·rw[h1,h2];change(decide (Pt.n n= .n (if decide (V.int n= .int 1)=Z then 1 else 0)) && !(decide (V.int n= .int 1) &&ch))=(decide (0<=n) &&decide (n<=1 - if ch=Z then 1 else 0))
  rw[show decide (V.int n= .int 1)=decide (n=1)from decide_eq_decide.mpr {V.int.inj,A1P V.int}];rw[show decide (Pt.n n= .n (if decide (n=1)=Z then 1 else 0))=decide (n=if decide (n=1)=Z then 1 else 0)from decide_eq_decide.mpr {Pt.n.inj,A1P Pt.n}]
  by_cases h:n=1;·subst h;cases ch <;> decide
  by_cases h':n=0;·subst h';cases ch <;> decide
  simp only[h,decide_false,Vf,if_false,h',BR]
  symm
  rw[Hq,decide_eq_false_iff_not,decide_eq_false_iff_not];cases ch <;> simp <;> lia
 have:∃z,Cz j= .s z:=by rcases h with⟨_,h⟩|⟨_,h⟩ <;> show{(_),h}
 let(z,D):=this;rw[F,D];rfl
def lG(h:GQ (BI j) 0 (1 - if ch=Z then 1 else 0)=Z):decide (JA (Cz j)= .int 1)= !decide ((BI j).getD 0=0):=by
 let(n,e,h1,h2):=FS h;rw[Kg e,e];change decide (V.int n= .int 1)= !decide (n=0);rw[show decide (V.int n= .int 1)=decide (n=1)from decide_eq_decide.mpr {V.int.inj,A1P V.int}];let h2:n<=1:=by split at h2 <;> lia
 have:n=0\/n=1:=()
 rcases this with rfl|rfl <;> rfl
def jP(k:Kx)(b5 ch:Bool)(d:Dt):Bool:=Hh k d|| (!(b5|| (ch|| !HN k)) && (!(IB k&& !DJ d) &&DB k d))
def HX(k:Kx)(b5 ch:Bool)(p6:Pt):Bool:=decide (p6=wq (NJ k<|LW k (NZ k p6))) &&jP k b5 ch (LW k<|NZ k p6)
def tj(n m:Int):decide (Pt.n n= .n m)=decide (n=m):=decide_eq_decide.mpr {Pt.n.inj,A1P Pt.n}
def VT(k:Kx)(lo hi:Int)(hs:∀d,DB k d=Mh d lo hi)(hb:∀d,Hh k d=(DB k d&&zQ d))(F:HN k=Z)(z:IB k=ge)(hd:∀p,NZ k p=GM p)(U:∀p,LW k (GM p)=GM p)(D:∀p,wq (NJ k<|GM p)=p)(j:AT)(ms:Int)(ch:Bool):
  HX k (!decide (ms=0)) ch (Cz j)=(GQ (BI j) lo hi&& (decide ((BI j).getD 0=0) || (decide (ms=0) && !ch))):=by
 unfold HX jP;rw[hd,U,D,A1K O,hb,hs,F,z,Vk];rcases Fq j with⟨n,h1,h2⟩|⟨h0,h⟩;·rw[h1,h2];change(Z&& ((_&&decide (n=0)) ||_))=(_&& (decide (n=0) ||_));cases GQ (Y n) lo hi <;> cases decide (n=0) <;> cases decide (ms=0) <;> cases ch <;> rfl
 rw[h0];cases decide (ms=0) <;> cases ch <;> simp[GQ]
def iE(j:AT)(ms:Int)(ch:Bool)(bd:Int):HX .truth (!decide (ms=0)) ch (Cz j)=Gd 0 bd ms ch j:=by
 unfold Gd;rw[A1N Aa,A1N Aa];change _=(GQ (BI j) 0 1&&_);unfold HX jP;rcases Fq j with⟨n,h1,h2⟩|⟨F,h⟩
 ·rw[h1,h2];change(decide (Pt.n n= .n (if decide (n=1)=Z then 1 else 0)) && (!decide (n=1) || (!(!decide (ms=0) || (ch||false)) && (true&&true))))=((decide (0<=n) &&decide (n<=1)) && (decide (n=0) || (decide (ms=0) && !ch)))
  rw[tj];by_cases h:n=1;·subst h;cases decide (ms=0) <;> cases ch <;> rfl
  by_cases h':n=0;·subst h';cases decide (ms=0) <;> cases ch <;> rfl
  have: (decide (0<=n) &&decide (n<=1))=false:=by rw[Hq,decide_eq_false_iff_not,decide_eq_false_iff_not];lia
  rw[this];simp[h,h']
 have:∃z,Cz j= .s z:=by rcases h with⟨_,h⟩|⟨_,h⟩ <;> show{(_),h}
 let(z,D):=this;rw[F,D];rfl
def iF(j:AT)(ms:Int)(ch:Bool)(bd:Int):HX .count (!decide (ms=0)) ch (Cz j)=Gd 1 bd ms ch j:=by rw[VT .count 0 MN (λ_=>rfl) (λ_=>rfl) O O (λp=>rfl) (λp=>by cases p <;> rfl) (λp=>by cases p <;> rfl)];rfl
def iD(j:AT)(ms:Int)(ch:Bool)(bd:Int):HX .whole (!decide (ms=0)) ch (Cz j)=Gd 2 bd ms ch j:=by rw[VT .whole (-MW - 1) MW (λ_=>rfl) (λ_=>rfl) O O (λp=>rfl) (λp=>by cases p <;> rfl) (λp=>by cases p <;> rfl)];rfl
def ng(j:AT)(ms:Int)(ch:Bool)(bd:Int):HX (.upto<|.int bd) (!decide (ms=0)) ch (Cz j)=Gd 3 bd ms ch j:=by rw[VT (.upto<|.int bd) 0 bd (λ_=>rfl) (λ_=>rfl) O O (λp=>rfl) (λp=>by cases p <;> rfl) (λp=>by cases p <;> rfl)];rfl
def ZW(k:Kx)(U: (∃d,k= .form d)\/∃j,k= .list j)(cd:Int)(hc:cd=5\/10<=cd)(D:AT)(ms:Int)(ch:Bool)(bd:Int):HX k (!decide (ms=0)) ch (Cz D)=Gd cd bd ms ch D:=by
 let hw:Nd bd cd=0:=by unfold Nd;rw[A1N (),A1N (),A1N (),A1N ()]
 unfold Gd;rw[A1N (),A1N (),hw];let e:HX k (!decide (ms=0)) ch (Cz D)=decide (Cz D= .n 0):=by
  rcases U with⟨d,rfl⟩|⟨j,rfl⟩;·unfold HX jP;change(decide (Cz D= .n 0) && (Z||_))=_;rw[JK,Bool.and_true]
  unfold HX jP;change(decide (Cz D= .n 0) && ((((!decide ((0:Int) >20)) &&Z) &&Z) ||_))=_;rw[show(((!decide ((0:Int) >20)) &&Z) &&Z)=Z by decide,JK,Bool.and_true]
 rw[e];rcases Fq D with⟨n,h1,h2⟩|⟨h0,h⟩
 ·rw[h1,h2,tj];change decide (n=0)=((decide (0<=n) &&decide (n<=0)) && (decide (n=0) ||_));by_cases h:n=0
  ·subst h;rfl
  rw[A1L h,show(decide (0<=n) &&decide (n<=0))=ge by rw[Hq,decide_eq_false_iff_not,decide_eq_false_iff_not];lia];rfl
 have:∃z,Cz D= .s z:=by rcases h with⟨_,h⟩|⟨_,h⟩ <;> show{(_),h}
 let(z,F):=this;rw[h0,F];rfl
def oO(h:Ct z=Z):z.cps.toList.all HK=true:=by
 rw[Bz];intro c hc;have:=Vs h c hc;unfold HK;simp only[AA,decide_eq_true_eq]
 lia
def nh(j:AT)(z:j≠ "")(ms:Int)(ch:Bool)(bd:Int)(D:0<=bd):HX (.text<|.int bd) (!decide (ms=0)) ch (Cz j)=Gd 4 bd ms ch j:=by
 unfold Gd;rw[A1O O];unfold HX jP;rcases Fq j with⟨n,h1,h2⟩|⟨F,⟨h1,h2⟩|⟨h1,h2⟩⟩
 ·rw[h2];let hn:Ct j=false:=by cases h:Ct j with|false=>rfl|true=>rw[OS h]at h1;cases h1
  let hd:j≠ "-":=λe=>by rw[e,fZ]at h1;cases h1
  rw[hn,A1L hd];change(decide (Pt.n n= .n n) && ((ge&&decide (n=0)) || (!(!decide (ms=0) || (ch||false)) && ((!(true&& !false)) &&false))))=_;simp
 ·rw[h2,h1];change(decide (Pt.s ""= .s "") && (((!decide ((("" :AT).length:Int) >bd) && ("" :AT).cps.toList.all HK) &&decide (("" :AT)="")) ||_))=_;rw[A1K O,A1K (O: ("" :AT)=""),show("" :AT).cps.toList.all HK=Z by decide+kernel,show decide ((("" :AT).length:Int) >bd)=ge by rw[show("" :AT).length=0 by decide+kernel];show A1L ()];rfl
 rw[h2,A1L h1];change(decide (Pt.s j= .s j) && (((!decide ((j.length:Int) >bd) &&j.cps.toList.all HK) &&decide (j="")) || (!(!decide (ms=0) || (ch||false)) && ((!(true&& !Ct j)) && (!decide ((j.length:Int) >bd) &&j.cps.toList.all HK)))))=_;rw[A1K O,A1L z,Dg,Kq,BL];cases hn:Ct j with
 |false=>cases decide (ms=0) <;> cases ch <;> rfl
 |true=>
  rw[oO hn,show(!decide ((j.length:Int) >bd))=decide ((j.length:Int)<=bd)by rw[<-decide_not];show decide_eq_decide.mpr ()];cases decide (ms=0) <;> cases ch <;> cases decide ((j.length:Int)<=bd) <;> rfl
structure gY(ws:List (AT×Int)):Prop where
 idx:∀(i:Nat) x,ws[i]?=Y x->x.2=(i:Int)
 nod: (ws.map (·.1)).Nodup
 nam:∀x∈ws,Ct x.1=Z
def dZ(ws:List (AT×Int))(z:AT):JU ws z=S ↔ z∉ws.map (·.1):=by unfold JU;rw[Option.map_eq_none_iff,Ve];simp only[decide_eq_true_eq,Bb,not_exists,not_and]
def gY.at{ws:List (AT×Int)}{i:Nat}{x:AT×Int}(h:gY ws)(hx:ws[i]?=Y x):JU ws x.1=Y (i:Int):=by
 let(hi,a2):=AO.mp hx;cases e:ws.find? λp=>decide (p.1=x.1)with
 |none=>
  have:=Ve.mp e x<|AN hx;simp at this
 |some y=>
  let h1:=List.find?_some e;let h2:=List.mem_of_find?_eq_some e;let(j,hj,z):=List.getElem_of_mem h2;let e1:y.1=x.1:=A1M h1;let hp:=Ig.mp h.nod;let U:i< (ws.map (·.1)).length:=by rw[Ay];show hi
  let F:j< (ws.map (·.1)).length:=by rw[Ay];show hj
  let a1: (ws.map (·.1))[i]=(ws.map (·.1))[j]:=by rw[ZJ,ZJ,a2,z,e1]
  have:i=j:=by
   rcases Nat.lt_trichotomy i j with D|D|D;·show A1Q a1<|hp i j U F D
   ·show D
   show A1Q a1.symm<|hp j i F U D
  unfold JU;rw[e];change Y y.2=_;rw[h.idx j y (by rw[AI hj,z]),this]
inductive wz(ws:List (AT×Int))(bd:Int):Int->Kx->Prop|truth:bd=0->wz ws bd 0 .truth|count:bd=0->wz ws bd 1 .count|whole:bd=0->wz ws bd 2 .whole|upto:wz ws bd 3 (.upto<|.int bd)|text:1<=bd->wz ws bd 4 (.text<|.int bd)|form (z:AT):JU ws z=some bd->wz ws bd 5 (.form<|.str z)
def wz.code(h:wz ws bd cd k):GP k=cd/\EN ws k=bd/\(∀j,k≠ .list j):=by cases h with|truth h=>show{O,h.symm,λ_=>nofun}|count h=>show{O,h.symm,λ_=>nofun}|whole h=>show{O,h.symm,λ_=>nofun}|upto=>show{O,O,λ_=>nofun}|text h=>show{O,O,λ_=>nofun}|form z h=>show{O,by change(JU ws z).getD 0=bd;rw[h];rfl,λ_=>nofun}
def wu(c:Int):Int:=if c=3\/c=4 then 1 else 0
def gp(hw:gY ws)(F:0<=cd)(D:cd<=5)(h:GQ (BI z) (wu cd) (FR ws.length cd)=Z):∃k bd,BI z=Y bd/\EB ws (.n cd) (Cz z)=Y k/\Fj ws k=Z/\wz ws bd cd k:=by
 let(bd,e,h1,h2):=FS h;rw[Kg e];let hc:cd=0\/cd=1\/cd=2\/cd=3\/cd=4\/cd=5:=()
 rcases hc with rfl|rfl|rfl|rfl|rfl|rfl;·show{_,bd,e,O,O,.truth<|Int.le_antisymm h2 h1}
 ·show{_,bd,e,O,O,.count<|Int.le_antisymm h2 h1}
 ·show{_,bd,e,O,O,.whole<|Int.le_antisymm h2 h1}
 ·show{_,bd,e,O,by change(decide (1<=bd) &&decide (bd<=MN))=Z;rw[A1K (show 1<=bd from h1),A1K<|show bd<=MN from h2];rfl,.upto}
 ·show{_,bd,e,O,by change(decide (1<=bd) &&decide (bd<=100))=Z;rw[A1K (show 1<=bd from h1),A1K<|show bd<=100 from h2];rfl,.text h1}
 let h1:0<=bd:=h1;let h2:bd<= (ws.length:Int) - 1:=h2;obtain⟨i,rfl⟩:∃i:Nat,bd=(i:Int):={bd.toNat,()};let hi:i<ws.length:=()
 let j:ws[i]?=Y ws[i]:=AI hi;let ha:yQ ws (i:Int)=ws[i].1:=by unfold yQ;rw[EZ,j];rfl
 show{.form<|.str ws[i].1,_,e,?_,?_,.form _<|hw.at j}
 ·change(if 0<= (i:Int)/\(i:Int)<= (ws.length:Int) - 1 then Y (Kx.form<|.str (yQ ws i))else S)=_
  rw[A1O {(h1),h2},ha]
 change(Ct ws[i].1&& (JU ws ws[i].1).isSome)=Z;rw[hw.nam _ (HW hi),hw.at j];rfl
def lO(h0:0<=cd)(U:cd<=5)(e:EB ws (.n cd) (Cz j)=Y k)(F:Fj ws k=Z)(D:Cz j= .n (EN ws k)):GQ (BI j) (wu cd) (FR ws.length cd)=true:=by
 let en:=(zI j _).mp D;rw[D]at e;rw[en];change(decide (wu cd<=EN ws k) &&decide (EN ws k<=FR ws.length cd))=Z;let hc:cd=0\/cd=1\/cd=2\/cd=3\/cd=4\/cd=5:=()
 generalize z:EN ws k=B at e;rcases hc with rfl|rfl|rfl|rfl|rfl|rfl;·obtain rfl:Kx.truth=k:=AE e;rw[<-z];rfl
 ·obtain rfl:Kx.count=k:=AE e;rw[<-z];rfl
 ·obtain rfl:Kx.whole=k:=AE e;rw[<-z];rfl
 ·obtain rfl:Kx.upto (.int B)=k:=AE e;show F
 ·obtain rfl:Kx.text (.int B)=k:=AE e;show F
 let e: (if 0<=B/\B<= (ws.length:Int) - 1 then Y (Kx.form<|.str (yQ ws B))else S)=Y k:=e
 split at e;·rename_i h;change(decide (0<=B) &&decide (B<= (ws.length:Int) - 1))=Z;rw[A1K h.1,A1K h.2];rfl
 cases e
def gq(ws:List (AT×Int))(p3 p4 p5 p6:Pt)(ch:Bool):Bool:=match KI ws p3 p4 with
 |some k=>Ek ws k&& (decide (p3= .n (GP k)) && (decide (p4= .n (EN ws k)) && ((decide (p5= .n (if decide (JA p5= .int 1)=Z then 1 else 0)) && !(decide (JA p5= .int 1) &&ch)) &&HX k (decide (JA p5= .int 1)) ch p6)))|none=>ge
def oX(m:Int)(j D z F:AT)(ch:Bool):Bool:=GQ (BI j) 0 15&& (!(decide (5< (BI j).getD 0) &&decide ((BI j).getD 0<10)) && (GQ (BI D) (if (BI j).getD 0%10=3\/(BI j).getD 0%10=4 then 1 else 0) (FR m<|(BI j).getD 0%10) && (GQ (BI z) 0 (1 - if ch=Z then 1 else 0) &&Gd ((BI j).getD 0) ((BI D).getD 0) ((BI z).getD 0) ch F)))
def wI(h:wz ws bd cd k)(j:AT)(D:j≠ "")(ms:Int)(ch:Bool):HX k (!decide (ms=0)) ch (Cz j)=Gd cd bd ms ch j:=by cases h with|truth h=>show iE ..|count h=>show iF ..|whole h=>show iD ..|upto=>show ng ..|text h=>show nh _ D _ _ _ ()|form z h=>show ZW _ (.inl {(_),O}) 5 (.inl O) ..
def iC(h:Fj ws k=Z):Ek ws k=true:=by cases k with|list j=>cases h|_=>show h
def iB(e:EB ws p q=Y k):Ek ws k=Fj ws k:=by have:=(QM e).1;cases k with|list j=>cases this|_=>rfl
def yj(hw:gY ws)(w3 j U F:AT)(h6:F≠ "")(ch:Bool):gq ws (Cz w3) (Cz j) (Cz U) (Cz F) ch=oX ws.length w3 j U F ch:=by
 unfold oX;rcases Fq w3 with⟨cd,h1,h2⟩|⟨h0,h⟩
 ·rw[h1];change _=((decide (0<=cd) &&decide (cd<=15)) && (!(decide (5<cd) &&decide (cd<10)) && (GQ (BI j) (wu<|cd%10) (FR ws.length<|cd%10) && (GQ (BI U) 0 (1 - if ch=Z then 1 else 0) &&Gd cd ((BI j).getD 0) ((BI U).getD 0) ch F))))
  unfold gq;rw[xY,h2];by_cases hf:0<=cd/\cd<=5
  ·let ek:KI ws (.n cd) (Cz j)=EB ws (.n cd) (Cz j):=A1N ();rw[ek,A1K hf.1,A1K (show cd<=15 by lia),A1L (show ¬5<cd by lia),show cd%10=cd by lia];cases hA:GQ (BI j) (wu cd) (FR ws.length cd)with
   |true=>
    let(k,bd,en,D,eb,sh):=gp hw hf.1 hf.2 hA;let(c1,c2,_):=sh.code;rw[D];change(Ek ws k&& (decide (Pt.n cd= .n (GP k)) && (decide (Cz j= .n (EN ws k)) &&_)))=_;rw[iC eb,c1,c2,A1K O,Kg en,A1K O,en];cases hm:GQ (BI U) 0 (1 - if ch=Z then 1 else 0)with
    |false=>rfl
    |true=>
     rw[lG hm,wI sh F h6];rfl
   |false=>
    cases D:EB ws (.n cd) (Cz j)with
    |none=>rfl
    |some k=>
     change(Ek ws k&& (decide (Pt.n cd= .n (GP k)) && (decide (Cz j= .n (EN ws k)) &&_)))=_;rw[iB D];cases hb:Fj ws k with
     |false=>rfl
     |true=>
      have:decide (Cz j= .n (EN ws k))=false:=A1L λe=>by
       rw[lO hf.1 hf.2 D hb e]at hA;cases hA
      rw[this,BR,Dg];rfl
  by_cases hl:10<=cd/\cd<=15
  ·let ek:KI ws (.n cd) (Cz j)=Y (.list<|(EB ws (.n<|cd - 10)<|Cz j).getD (.thing .non)):=A1O hl;rw[ek,A1K (show 0<=cd by lia),A1K hl.2,A1L (show ¬cd<10 by lia),Dg,show cd%10=cd - 10 by lia];change(Fj ws ((EB ws (.n<|cd - 10)<|Cz j).getD<|.thing .non) && (decide (Pt.n cd= .n (10+GP ((EB ws (.n<|cd - 10)<|Cz j).getD<|.thing .non))) && (decide (Cz j= .n (EN ws<|(EB ws (.n<|cd - 10)<|Cz j).getD (.thing .non))) &&_)))=_;cases hA:GQ (BI j) (wu<|cd - 10) (FR ws.length<|cd - 10)with
   |true=>
    let(k,bd,en,D,eb,sh):=gp hw () () hA;let(c1,c2,_):=sh.code;rw[D];change(Fj ws k&& (decide (Pt.n cd= .n (10+GP k)) && (decide (Cz j= .n (EN ws k)) && (_&&HX (.list k) _ ch _))))=_;rw[eb,c1,c2,show 10+ (cd - 10)=cd by lia,A1K O,Kg en,A1K O,en];cases hm:GQ (BI U) 0 (1 - if ch=Z then 1 else 0)with
    |false=>rfl
    |true=>
     rw[lG hm,ZW (.list k) (.inr {(k),O}) cd (.inr hl.1) F _ ch bd];rfl
   |false=>
    cases D:EB ws (.n<|cd - 10) (Cz j)with
    |none=>rfl
    |some k=>
     change(Fj ws k&& (decide (Pt.n cd= .n (10+GP k)) && (decide (Cz j= .n (EN ws k)) &&_)))=_;cases hb:Fj ws k with
     |false=>rfl
     |true=>
      have:decide (Cz j= .n (EN ws k))=false:=A1L λe=>by
       rw[lO () () D hb e]at hA;cases hA
      rw[this,BR,Dg];rfl
  let ek:KI ws (.n cd) (Cz j)=none:=by let e1:KI ws (.n cd) (Cz j)=EB ws (.n cd) (Cz j):=A1N hl;rw[e1];show VS (λe=>by cases e;lia) (λe=>by cases e;lia) (λe=>by cases e;lia) (λe=>by cases e;lia) (λe=>by cases e;lia) (λe=>by cases e;lia)
  rw[ek];change ge=_
  symm
  by_cases b1:0<=cd/\cd<=15;·rw[A1K (show 5<cd by lia),A1K (show cd<10 by lia)];cases decide (0<=cd) <;> cases decide (cd<=15) <;> rfl
  have: (decide (0<=cd) &&decide (cd<=15))=false:=by rw[Hq,decide_eq_false_iff_not,decide_eq_false_iff_not];lia
  rw[this];rfl
 have:∃z,Cz w3= .s z:=by rcases h with⟨_,h⟩|⟨_,h⟩ <;> show{(_),h}
 let(z,hz):=this;rw[h0,hz];rfl
def pA(s:TD)(ys:List AT)(h8: (CH s).length<=8): (zD s (ys.map Cz)=S/\¬ (ys.getD 0 ""="form" /\ml ys ((CH s).map (·.1))=Z))\/(ys.getD 0 ""="form" /\ml ys ((CH s).map (·.1))=Z/\Ct (ys.getD 1 "")=Z/\ys.getD 1 "" ∉ (CH s).map (·.1)/\(CH s).length<8/\zD s (ys.map Cz)=Y {s.rows++[ys.map Cz],CH s,Y {ys.getD 1 "",decide (ys.getD 2 ""="1"),[]},(BI<|ys.getD 3 "").getD 0}):=by
 match ys with
 |[]=>show .inl {O,λh=>by cases h.2}|[_]=>show .inl {O,λh=>by cases h.2}|[_,_]=>show .inl {O,λh=>by cases h.2}|[_,_,_]=>show .inl {O,λh=>by cases h.2}|_::_::_::_::_::_=>show .inl {O,λh=>by cases h.2}
 |[j,a,b,c]=>
  let e0:ml [j,a,b,c] ((CH s).map (·.1))=(Ct a&& (!decide (a∈ (CH s).map (·.1)) && (!decide (((CH s).map (·.1)).length>7) && (GQ (BI b) 0 1&&GQ (BI c) ((BI b).getD 0) 10)))):=rfl;let U:zD s ([j,a,b,c].map Cz)=if Cz j= .s "form" /\DJ (GM<|Cz a)=Z/\JU (CH s) (rG<|Cz a)=S/\Mh (GM<|Cz b) 0 1=Z/\Mh (GM<|Cz c) (jG<|Cz b) 10=Z/\(CH s).length≠8
   then Y {s.rows++[[Cz j,Cz a,Cz b,Cz c]],CH s,Y {rG<|Cz a,decide (JA (Cz b)= .int 1),[]},jG<|Cz c}else none:=rfl
  rw[U,e0,ak,Vk,Vk,fG,fG,xt,Ay];cases hn:Ct a with
  |false=>
   show .inl {A1N (λh=>by cases h.2.1),λh=>by cases h.2}
  |true=>
   rw[Mv hn];change((if Cz j= .s "form" /\Z=Z/\JU (CH s) a=S/\_ then _ else _)=S/\_)\/_
   by_cases hc:j="form" /\(Z&& (!decide (a∈ (CH s).map (·.1)) && (!decide ((CH s).length>7) && (GQ (BI b) 0 1&&GQ (BI c) ((BI b).getD 0) 10))))=Z;·let h2:=hc.2;simp only[AA,Do,decide_eq_false_iff_not]at h2;show .inr {hc.1,hc.2,hn,h2.2.1,(),?_};rw[A1O {(RK (z:="form") Ab j).mpr hc.1,O,(dZ _ _).mpr h2.2.1,h2.2.2.2.1,h2.2.2.2.2,()}];change Y (TD.mk (s.rows++[[Cz j,.s a,Cz b,Cz c]]) _ _ _)=Y (TD.mk (s.rows++[[Cz j,Cz a,Cz b,Cz c]]) _ _ _);rw[Mv hn];rfl
   show .inl {A1N λh=>hc {(RK (z:="form") Ab j).mp h.1,?_},hc};let(_,_,h3,F,D,h6):=h;simp only[AA,Do,decide_eq_false_iff_not];show{trivial,(dZ _ _).mp h3,(),F,D}
def uU(s:TD)(d:Dr)(ys:List AT)(ah:List (List AT))(hw:gY s.ws)(a2:¬ ("" :AT)∈ys)(hl:JP d=Ge ah+1)(hn:d.fs.map (λg=>JL g.nam)=ah.map λa=>a.getD 2 ""): (qL s d (ys.map Cz)=S/\¬ (ys.getD 0 ""="field" /\dH ys ah s.ws.length d.ch=Z))\/(ys.getD 0 ""="field" /\dH ys ah s.ws.length d.ch=Z/\∃f,f.num=GM (Cz<|ys.getD 1 "")/\f.nam=GM (Cz<|ys.getD 2 "")/\Ct (ys.getD 2 "")=Z/\qL s d (ys.map Cz)=Y {s.rows++[ys.map Cz],s.ws,Y {d.nam,d.ch,d.fs++[f]},s.lack - 1}):=by
 match ys,a2 with
 |[],_=>show .inl {O,λh=>by cases h.2}|[_],_=>show .inl {O,λh=>by cases h.2}|[_,_],_=>show .inl {O,λh=>by cases h.2}|[_,_,_],_=>show .inl {O,λh=>by cases h.2}|[_,_,_,_],_=>show .inl {O,λh=>by cases h.2}|[_,_,_,_,_],_=>show .inl {O,λh=>by cases h.2}|[_,_,_,_,_,_],_=>show .inl {O,λh=>by cases h.2}|_::_::_::_::_::_::_::_::_,_=>show .inl {O,λh=>by cases h.2}
 |[w0,w1,w2,U,F,j,D],a2=>
  let h6:D≠ "":=λe=>a2 (by rw[e];simp);let e0:dH [w0,w1,w2,U,F,j,D] ah s.ws.length d.ch=(Ct w2&& (!decide (w2∈ah.map λa=>a.getD 2 "") && (GQ (BI w1) (Ge ah+1) 200&&oX s.ws.length U F j D d.ch))):=rfl;rw[<-yj hw U F j D h6 d.ch]at e0;rw[e0];cases ek:KI s.ws (Cz U) (Cz F)with
  |none=>
   show .inl {?_,λh=>?_};·unfold qL;rw[show Xy s.ws ([w0,w1,w2,U,F,j,D].map Cz)=(KI s.ws (Cz U)<|Cz F).map _ from O,ek];rfl
   let h2:=h.2;unfold gq at h2;rw[ek]at h2;simp at h2
  |some k=>
   let eE:qL s d ([w0,w1,w2,U,F,j,D].map Cz)=if Xj s.ws d ⟨GM<|Cz w1,GM<|Cz w2,k,.bl<|decide (JA (Cz j)= .int 1),LW k<|NZ k (Cz D)⟩=Z/\[Cz w0,Cz w1,Cz w2,Cz U,Cz F,Cz j,Cz D]=cq s.ws ⟨GM<|Cz w1,GM<|Cz w2,k,.bl<|decide (JA (Cz j)= .int 1),LW k<|NZ k (Cz D)⟩
     then Y {s.rows++[[w0,w1,w2,U,F,j,D].map Cz],s.ws,Y {d.nam,d.ch,d.fs++[{GM<|Cz w1,GM<|Cz w2,k,.bl<|decide (JA (Cz j)= .int 1),LW k<|NZ k (Cz D)}]},s.lack - 1}else none:=by unfold qL;rw[show Xy s.ws ([w0,w1,w2,U,F,j,D].map Cz)=(KI s.ws (Cz U)<|Cz F).map (λk=>{GM<|Cz w1,GM<|Cz w2,k,.bl<|decide (JA (Cz j)= .int 1),LW k<|NZ k (Cz D)})from O,ek];rfl
   let eK:gq s.ws (Cz U) (Cz F) (Cz j) (Cz D) d.ch=(Ek s.ws k&& (decide (Cz U= .n (GP k)) && (decide (Cz F= .n (EN s.ws k)) && ((decide (Cz j= .n (if decide (JA (Cz j)= .int 1)=Z then 1 else 0)) && !(decide (JA (Cz j)= .int 1) &&d.ch)) &&HX k (decide (JA (Cz j)= .int 1)) d.ch (Cz D))))):=by unfold gq;rw[ek]
   let eM:Xj s.ws d ⟨GM<|Cz w1,GM<|Cz w2,k,.bl<|decide (JA (Cz j)= .int 1),LW k<|NZ k (Cz D)⟩=(GQ (BI w1) (Ge ah+1) 200&& (Ct w2&& (!decide (JL (GM<|Cz w2)∈ah.map λa=>a.getD 2 "") && (Ek s.ws k&& (!(decide (JA (Cz j)= .int 1) &&d.ch) &&jP k (decide (JA (Cz j)= .int 1)) d.ch (LW k<|NZ k (Cz D))))))):=by unfold Xj;rw[hl,hn];change(Mh (GM<|Cz w1) _ _&& (DJ (GM<|Cz w2) &&_))=_;rw[Vk,ak];rfl
   let eO: [Cz w0,Cz w1,Cz w2,Cz U,Cz F,Cz j,Cz D]=cq s.ws ⟨GM<|Cz w1,GM<|Cz w2,k,.bl<|decide (JA (Cz j)= .int 1),LW k<|NZ k (Cz D)⟩ ↔ (Cz w0= .s "field" /\Cz U= .n (GP k)/\Cz F= .n (EN s.ws k)/\Cz j= .n (if decide (JA (Cz j)= .int 1)=Z then 1 else 0)/\Cz D=wq (NJ k<|LW k (NZ k<|Cz D))):=by
    change _=[Pt.s "field",wq<|GM (Cz w1),wq<|GM (Cz w2),.n<|GP k,.n<|EN s.ws k,.n<|if decide (JA (Cz j)= .int 1)=Z then 1 else 0,wq<|NJ k (LW k<|NZ k (Cz D))] ↔ _
    rw[fH,fH];simp only[List.cons.injEq,true_and,and_true]
   rw[eE,eK,eM];cases a3:Ct w2 with
   |false=>
    show .inl {A1N λh=>?_,λh=>by cases h.2};have:=h.1;simp at this
   |true=>
    rw[show JL (GM<|Cz w2)=w2 by rw[Mv a3];rfl];by_cases hc:w0="field" /\(Z&& (!decide (w2∈ah.map λa=>a.getD 2 "") && (GQ (BI w1) (Ge ah+1) 200&& (Ek s.ws k&& (decide (Cz U= .n (GP k)) && (decide (Cz F= .n (EN s.ws k)) && ((decide (Cz j= .n (if decide (JA (Cz j)= .int 1)=Z then 1 else 0)) && !(decide (JA (Cz j)= .int 1) &&d.ch)) &&HX k (decide (JA (Cz j)= .int 1)) d.ch (Cz D))))))))=Z;·show .inr {hc.1,hc.2,{GM<|Cz w1,GM<|Cz w2,k,.bl<|decide (JA (Cz j)= .int 1),LW k<|NZ k (Cz D)},O,O,a3,A1O ?_};let h2:=hc.2;unfold HX at h2;rw[AA,AA,AA,AA,AA,AA,AA,AA,AA]at h2;let(_,g1,g2,g3,g4,g5,(g6,g7),g8,g9):=h2;show{?_,eO.mpr {(RK (z:="field") Ab w0).mpr hc.1,A1M g4,A1M g5,A1M g6,A1M g8}};rw[g1,g2,g3,g7,g9];rfl
    show .inl {A1N λh=>hc {(RK (z:="field") Ab w0).mp (eO.mp h.2).1,?_},hc};let(hm,ho):=h;let(_,g4,g5,g6,g8):=eO.mp ho;rw[AA,AA,AA,AA,AA]at hm;let(g2,_,g1,g3,g7,g9):=hm;unfold HX;rw[g1,g2,g3,A1K g4,A1K g5,A1K g6,g7,A1K g8,g9];rfl
def okO:Nat ⊕ TD->Option Nat|.inl p=>Y p|.inr _=>S
def O0(f:Fx)(ys:List AT):Prop:=f.num=GM (Cz<|ys.getD 1 "")/\f.nam=GM (Cz<|ys.getD 2 "")/\(∃n,BI (ys.getD 1 "")=Y n)/\Ct (ys.getD 2 "")=Z
structure zV(s:TD)(t:WS):Prop where
 ns:t.ns=(CH s).map (·.1)
 lk:t.lack=s.lack
 l0:0<=s.lack
 wn:gY (CH s)
 l8: (CH s).length<=8
 no:s.dr=S->s.ws=[]/\s.lack=0/\t.pr=Z
 ch:∀d,s.dr=Y d->t.pr=d.ch
 fs:∀d,s.dr=Y d->Paired O0 d.fs t.ah
def gY.nil:gY []:={(λ_ _ h=>by cases h),List.nodup_nil,(λ_ h=>nomatch h)}
def zV.begin:zV bv kL:={O,O,FX _,gY.nil,Aa,λ_=>{(O),O,O},(λ_ h=>nomatch h),(λ_ h=>nomatch h)}
def gY.pre(h:gY (ws++r)):gY ws:=⟨λi x e=>h.idx i x (by rw[DK (AO.mp e).1];show e),by
 have:=h.nod;rw[Bl]at this;show(JI.mp this).1,λx j=>h.nam x<|CC _ j⟩
def gY.snoc{ws:List (AT×Int)}(h:gY ws)(hn:Ct a=Z)(hm:a∉ws.map (·.1)):gY (ws++[(a,(ws.length:Int))]):=by
 show{λi x e=>?_,?_,λx j=>?_}
 ·by_cases hi:i<ws.length
  ·rw[DK hi]at e;show h.idx i x e
  rw[Cv ()]at e;have:=(AO.mp e).1;let h1:i - ws.length=0:=by simpa using this
  rw[h1]at e;obtain rfl:=AE e;change(ws.length:Int)=i
  lia
 ·rw[Bl,JI];show{h.nod,Lh.mpr {(Cm),List.nodup_nil},λx j y z e=>?_};rw[Bc.mp z]at e;let e:x=a:=e;rw[e]at j;show hm j
 rcases BE.mp j with j|j;·show h.nam x j
 rw[Bc.mp j];show hn
def lv{z j:Type}{R:z->j->Prop}:∀{l:List z} {m:List j},Paired R l m->(l.getLast?=S/\m.getLast?=S)\/∃x y,l.getLast?=Y x/\m.getLast?=Y y/\R x y
 |_,_,.nil=>.inl {(O),O}|[a],[b],.cons r .nil=>.inr {(a),b,O,O,r}
 |a::F::l,b::D::m,.cons r t=>by
  rcases lv t with⟨h,_⟩|⟨x,y,h1,h2,h3⟩;·simp at h
  show .inr {x,y,by rw[List.getLast?_cons_cons];show h1,by rw[List.getLast?_cons_cons];show h2,h3}
def uO(h:Paired O0 d.fs ah):JP d=Ge ah+1:=by
 unfold JP Ge;rcases lv h with⟨h1,h2⟩|⟨f,ys,h1,h2,h3,_,⟨n,j⟩,_⟩;·rw[h1,h2];rfl
 rw[h1,h2];change uE f.num+1=(BI<|ys.getD 1 "").getD 0+1;rw[h3,j,Kg j];rfl
def gz:∀{fs:List Fx} {ah:List (List AT)},Paired O0 fs ah->fs.map (λg=>JL g.nam)=ah.map λa=>a.getD 2 ""
 |_,_,.nil=>rfl
 |f::_,ys::_,.cons h t=>by
  rw[AV,AV,gz t,h.2.1,Mv h.2.2.2];rfl
def oU(j:¬ ("" :AT)∈Ca z " "):Gw ((Ca z " ").map Cz)=z:=by
 unfold Gw;let e: ((Ca z " ").map Cz).map EL=Ca z " ":=by rw[Br];show(Il λy D=>?_).trans (SO _);show rg λe=>j<|e ▸ D
 rw[e];show Tz z
def uB{s:TD}{t:WS}(h:s.lack=0)(j:t.lack=s.lack):Sa t="form":=by unfold Sa;rw[A1N ()]
def wN(h:zV s t)(l:Ln): (qK s (GL l)=S/\ZY t (GV l)=S)\/∃s' t',qK s (GL l)=Y s'/\ZY t (GV l)=Y t'/\zV s' t'/\s'.rows=s.rows++[GL l]/\l= .txt (Gw<|GL l):=by
 let bad:Ka l=S->("" :AT)∈GV l:=λe=>by
  cases l with
  |thing d=>show Bc.mpr O
  |txt z=>
   let e:Jb z=none:=e;unfold Jb at e;split at e;·assumption
   cases e
 cases hw:Ka l with
 |none=>
  left;let er:GL l=[]:=by unfold GL;rw[hw];rfl
  rw[er];show{?_,by unfold ZY;rw[A1O (bad hw)]};unfold qK;split;·rfl
  cases s.dr <;> rfl
 |some ys=>
  obtain⟨z,rfl,rfl,j⟩:∃z,l= .txt z/\ys=Ca z " " /\¬ ("" :AT)∈Ca z " ":=by
   cases l with
   |thing d=>cases hw
   |txt z=>
    let e:Jb z=Y ys:=hw;unfold Jb at e;split at e;·cases e
    rename_i h;show{z,O,(AE e).symm,h}
  let er:GL (.txt z)=(Ca z " ").map Cz:=by unfold GL;rw[hw];rfl
  rw[er,oU j];change(_/\ZY t (Ca z " ")=S)\/∃s' t',_/\ZY t (Ca z " ")=Y t'/\_;generalize Ca z " "=ys at j;unfold qK ZY;rw[A1N j];by_cases h0:s.lack=0
  ·rw[A1O h0,uB h0 h.lk,A1N (show ¬t.lack>0 by rw[h.lk];lia),h.ns];rcases pA s ys h.l8 with⟨e1,D⟩|⟨e1,D,e3,e4,e5,e6⟩
   ·show .inl {e1,?_};by_cases F:ys.getD 0 ""="form"
    ·rw[A1O F,A1N λz=>D {(F),z}]
    rw[A1N F]
   rw[A1O e1,A1O D];show .inr {_,_,e6,O,{?_,O,?_,h.wn.snoc e3 e4,?_,(λe=>by cases e),(λd e=>by cases e;rfl),(λd e=>by cases e;show .nil)},O,O};·change _=IK (λx:AT×Int=>x.1) (CH s++[(ys.getD 1 "",((CH s).length:Int))]);rw[Bl];rfl
   ·let(w0,a,b,c,n,ew,hc,h1,_):=uX D;rw[ew];change 0<= (BI c).getD 0;rw[hc];show h1
   change(CH s++[(ys.getD 1 "",_)]).length<=8;rw[AS];change(CH s).length+1<=8
   lia
  let hl:=h.l0;rw[A1N h0,show Sa t="field" by unfold Sa;rw[A1O (by rw[h.lk];lia)],A1O (show t.lack>0 by rw[h.lk];lia)];cases hd:s.dr with
  |none=>show A1Q (h.no hd).2.1 h0
  |some d=>
   let ec:CH s=s.ws++[(d.nam,(s.ws.length:Int))]:=by unfold CH;rw[hd]
   let a3:gY s.ws:=gY.pre<|ec ▸ h.wn;let hp:=h.fs d hd;let en: (t.ns.length:Int) - 1=s.ws.length:=by rw[h.ns,ec,Ay,AS];change((s.ws.length+1:Nat):Int) - 1=_;lia
   rw[en,h.ch d hd];change(qL s d (ys.map Cz)=S/\_)\/∃s' t',qL s d (ys.map Cz)=Y s'/\_;rcases uU s d ys t.ah a3 j (uO hp) (gz hp)with⟨e1,D⟩|⟨e1,D,f,f1,f2,f3,e3⟩
   ·show .inl {e1,?_};by_cases F:ys.getD 0 ""="field"
    ·rw[A1O F,A1N λz=>D {(F),z}]
    rw[A1N F]
   rw[A1O e1,A1O D];let(_,z1,n1,g1,g2):=uV D;let U:CH (TD.mk (s.rows++[ys.map Cz]) s.ws (Y ⟨d.nam,d.ch,d.fs++[f]⟩)<|s.lack - 1)=CH s:=by rw[ec];rfl
   show .inr {_,_,e3,O,{?_,?_,?_,?_,?_,(λe=>by cases e),(λd' e=>by cases e;rfl),(λd' e=>by cases e;show Hc hp<|.cons {f1,f2,{n1,by rw[Bx,g1];show g2},f3} .nil)},O,O};·rw[U];show h.ns
   ·change t.lack - 1=s.lack - 1;rw[h.lk]
   ·change 0<=s.lack - 1
    lia
   ·rw[U];show h.wn
   rw[U];show h.l8
def lX:∀(ls:List Ln) (p:Nat) (s:TD) (t:WS),zV s t->Zt ls p t=okO (Zu ls p s)/\∀s',Zu ls p s= .inr s'->s'.rows=s.rows++ls.map GL/\ls=(ls.map GL).map λr=>.txt<|Gw r
 |[],p,s,t,h=>by
  let F:Zu [] p s=if QL s=Z then .inr s else .inl p:=rfl
  let D:Zt [] p t=if t.lack>0\/t.pr=Z then Y p else none:=rfl
  let hw:QL s= !decide (t.lack>0\/t.pr=Z):=by
   unfold QL;cases hd:s.dr with
   |none=>
    rw[A1K (show t.lack>0\/t.pr=Z from .inr (h.no hd).2.2)];rfl
   |some d=>
    rw[h.ch d hd,h.lk];change(decide (s.lack=0) && !d.ch)=_;have:=h.l0;cases d.ch with
    |true=>rw[A1K (show s.lack>0\/Z=Z from .inr O)];simp
    |false=>
     by_cases z:s.lack=0;·rw[A1K z,A1L (by rw[z];simp)];rfl
     rw[A1L z,A1K (show s.lack>0\/ge=Z from .inl<|())];rfl
  rw[F,D,hw];by_cases hc:t.lack>0\/t.pr=Z;·rw[A1O hc,A1K hc];show{O,λs' e=>by cases e}
  rw[A1N hc,A1L hc];show{O,λs' e=>?_};let e: (Sum.inr s:Nat ⊕ TD)= .inr s':=e;obtain rfl:=Sum.inr.inj e;show{(CI _).symm,O}
 |l::r,p,s,t,h=>by
  let F:Zu (l::r) p s=match qK s (GL l)with|some s'=>Zu r (p+1) s'|none=>.inl p:=rfl;let D:Zt (l::r) p t=match ZY t (GV l)with|some t'=>Zt r (p+1) t'|none=>Y p:=rfl;rw[F,D];rcases wN h l with⟨h1,h2⟩|⟨s',t',h1,h2,h3,h4,U⟩
  ·rw[h1,h2];show{O,λs' e=>by cases e}
  rw[h1,h2];let(g1,g2):=lX r (p+1) s' t' h3;show{g1,λj e=>?_};let(k1,k2):=g2 j e;show{by rw[k1,h4,JJ];rfl,?_};rw[AV,AV,<-U,<-k2]
def aE(ls:List Ln):Zt ls 0 kL=okO (Zu ls 0 bv):=(lX ls 0 bv kL zV.begin).1
def Xn{ls:List Ln}(e:Zu ls 0 bv= .inr s):s.rows=ls.map GL:=by have:=((lX ls 0 bv kL zV.begin).2 s e).1;show this
def uv{ls:List Ln}(e:Zu ls 0 bv= .inr s):ls=(s.rows.map Gw).map Ln.txt:=by rw[Xn e,Br];have:=((lX ls 0 bv kL zV.begin).2 s e).2;rw[Br]at this ⊢;show this
def F9{ls:List Ln}(h:∀x∈ls,Mi n W x)(hn:n<=20)(hw:W<=200)(j:ls.length<=100)(e:Zu ls 0 bv= .inr s):yX s.rows:=by rw[Xn e];show{by rw[Ay];lia,λps z=>?_};let(l,j,O):=Bb.mp z;show((h l j).ok hn hw).row
def qO(p:Pt):Prop:=(∃i,p= .n i/\i.natAbs<10 ^ 80)\/p= .s "" \/∃z,p= .s z/\Ct z=Z
def He{i:Int}(h:i.natAbs<10 ^ 80):BI (toS i)=Y i:=by let e:NY (toS i)= .int i:=ue h;rw[jv]at e;cases hn:BI (toS i)with|none=>rw[hn]at e;cases e|some n=>rw[hn]at e;rw[V.int.inj e]
def wC(h:Ct z=Z):XU 81 z:={AU (Er h).2.1 Aa,RA h,λhc=>by have:=Vs h 32 hc;lia}
def xX(h:Ct z=Z):z≠ "":=λe=>by rw[e]at h;show A1Q h Ab
def A4{i:Int}(h:i.natAbs<10 ^ 80):XU 81 (toS i):=by
 show{Kb h,sB _,λhc=>?_};let hc:32∈sg (BV<|QE i):=hc;rw[bJ]at hc;rcases BE.mp hc with hc|hc
 ·split at hc
  ·have:=Bc.mp hc;lia
  cases hc
 have:=fE i.natAbs 32<|ZH.mp hc
 lia
def qO.wd(h:qO p):XU 81 (EL p)/\EL p≠ "" /\Cz (EL p)=p:=by
 rcases h with⟨i,rfl,hi⟩|rfl|⟨z,rfl,j⟩;·show{A4 hi,λe=>?_,Kg<|He hi};let h1:=He hi;rw[show toS i="" from e,xU]at h1;cases h1
 ·show{(iw Ab).mono Aa,Ab,Ab}
 rw[JB j];show{wC j,xX j,Mv j}
def ag{ps:List Pt}(h:∀p∈ps,qO p)(D:ps≠[]):Ca (Gw ps) " "=ps.map EL:=VY (λe=>D<|Ik.mp e) λy j=>by
  let(p,z,O):=Bb.mp j;show(h p z).wd.1.nb
def sV{ps:List Pt}(h:∀p∈ps,qO p)(z:ps≠[]):GL (.txt<|Gw ps)=ps:=by
 let hs:=ag h z;let hn:¬ ("" :AT)∈Ca (Gw ps) " ":=λhm=>by
  rw[hs]at hm;let(p,j,e):=Bb.mp hm;show(h p j).wd.2.1 e
 let e:Ka (.txt<|Gw ps)=Y (ps.map EL):=by change Jb _=_;unfold Jb;rw[A1N hn,hs]
 unfold GL;rw[e];change(ps.map EL).map Cz=ps;rw[Br];show(Il λp j=>(h p j).wd.2.2).trans (SO _)
def xl{ps:List Pt}(h:∀p∈ps,qO p)(D:ps.length<=7):Mi 7 81 (.txt<|Gw ps):=by show Mi.join (by rw[Ay];show D) Aa λy j=>?_;let(p,z,O):=Bb.mp j;show(h p z).wd.1
def qO.ok(h:qO p):p.ok:=by
 rcases h with⟨i,rfl,hi⟩|rfl|⟨z,rfl,j⟩;·show hi
 ·show(by decide+kernel: ("" :AT).length<=1000/\BW ""=Z)
 show{AU (Er j).2.1 Aa,RA j}
def oo(h:XW n c f):qO (Gv f):=by
 by_cases j:∃m,f.kind= .text m
 ·let(m,hm):=j;let(z,e1,e2,_):=(Mp h (m:=m)).1 hm;rw[e2];let hd:f.dfl=CZ f.kind\/QU f.kind f.dfl:=h.dfl.imp id λz=>z.2.2;rw[hm,e1]at hd;rcases hd with hd|⟨y,U,hn,_⟩
  ·have:Dt.str z= .str "":=hd;cases this;show .inr<|.inl O
  cases U;show .inr<|.inr {(z),O,hn}
 let(_,w2,F):=Mp h (m:=0);cases D:zK f.kind with
 |true=>rw[F D];show .inl {0,O,Aa}
 |false=>
  rcases w2 (λm e=>j ⟨m,e⟩) D with⟨b,_,e⟩|⟨i,_,e,h⟩;·rw[e];show .inl {_,O,vF b}
  rw[e];show .inl {(i),O,h}
def aJ(hn:Ct g.nam=Z)(z:g.fields.length<=5):∀p∈KL g,qO p:=λp j=>by
 unfold KL at j;simp only[Bf,Cm,or_false]at j;rcases j with rfl|rfl|rfl|rfl;·show .inr<|.inr {(_),O,Ab}
 ·show .inr<|.inr {(_),O,hn}
 ·show .inl {_,O,vF _}
 show .inl {_,O,()}
def UB(hf:XW k c f)(z:k<=8)(hn:Ct f.nam=Z)(D:1<=f.num/\f.num<=150):∀p∈Mt f,qO p:=λp j=>by
 unfold Mt at j;simp only[Bf,Cm,or_false]at j;rcases j with rfl|rfl|rfl|rfl|rfl|rfl|rfl;·show .inr<|.inr {(_),O,Ab}
 ·show .inl {_,O,()}
 ·show .inr<|.inr {(_),O,hn}
 ·show .inl {_,O,XJ f.kind hf.kind}
 ·show .inl {_,O,TM hf.kind z}
 ·show .inl {_,O,vF _}
 show oo hf
def Zs(gs:List SG):List Ln:=((Eu gs).map Gw).map Ln.txt
structure m7(gs:List SG):Prop where
 nm:Ju (gs.map (·.nam))
 ok:∀k g,gs[k]?=Y g->k<=8/\∃W,zZ k W g
def yW.gsn{b:Int}(h:yW b gs Ws):m7 gs:={h.sp.nms (by have:=h.l4;lia),λk g e=>{by have:=(AO.mp e).1;have:=h.l4;lia,_,h.sp.ok k g e}}
def m7.good(h:m7 gs):∀ps∈Eu gs,(∀p∈ps,qO p)/\ps≠[]/\ps.length<=7:=λps j=>by
 unfold Eu at j;let(r,hr,j):=List.mem_flatten.mp j;let(g,z,O):=Bb.mp hr;let(k,F):=CP.mp z;let(D,W,go):=h.ok k g F;let U:=(h.nm.ok g.nam<|Bb.mpr {(g),z,O}).1;unfold Qt at j;rcases Bf.mp j with rfl|j;·show{aJ U go.len,(λe=>by cases e),by change 4<=7;decide}
 let(f,hf,O):=Bb.mp j;show{UB (go.fs f hf) D (go.nms.ok f.nam<|Bb.mpr {(f),hf,O}).1<|go.nums f hf,(λe=>by cases e),by change 7<=7;decide}
def yh{b:Int}(h:yW b gs Ws):∀x∈Zs gs,Mi 7 81 x:=λx z=>by
 unfold Zs at z;let(y,D,O):=Bb.mp z;let(ps,j,O):=Bb.mp D;let(g1,_,g3):=h.gsn.good ps j;show xl g1 g3
def yg{b:Int}(h:yW b gs Ws):yX (Eu gs)/\(Eu gs).length<=24:=by
 let l: (Eu gs).length<=6*gs.length:=cS λg F=>by
  let(k,D):=CP.mp F;let(_,W,go):=h.gsn.ok k g D;unfold Qt;rw[BJ,Ay];have:=go.len
  lia
 have:=h.l4;show{{(),λps j=>?_},()};let(g1,_,g3):=h.gsn.good ps j;show{λp z=>(g1 p z).ok,()}
def nW(h:m7 gs): (Zs gs).map GL=Eu gs:=by unfold Zs;rw[Br,Br];show(Il λps j=>sV (h.good ps j).1 (h.good ps j).2.1).trans (SO _)
def Xz(k:Nat)(j:Lk)(h:j.plain\/∃i,j= .form i/\i<k):0<=CY j/\CY j<=5/\GQ (Y<|Fk j) (wu<|CY j) (FR k<|CY j)=true:=by
 let two:∀{a b x:Int},a<=x->x<=b->GQ (Y x) a b=true:=λ{a b x} h1 h2=>by
  change(decide (a<=x) &&decide (x<=b))=Z;rw[A1K h1,A1K h2];rfl
 cases j with
 |truth=>show{Aa,Aa,two (FX 0)<|FX 0}|count=>show{Aa,Aa,two (FX 0)<|FX 0}|whole=>show{Aa,Aa,two (FX 0)<|FX 0}
 |upto n=>
  let hp:1<=n/\n<=MN:=h.elim id λa1=>by(let(_,e,_):=a1;cases e)
  show{(by decide: (0:Int)<=3),(by decide: (3:Int)<=5),two hp.1 hp.2}
 |text n=>
  let hp:1<=n/\n<=100:=h.elim id λU=>by(let(_,e,_):=U;cases e)
  show{(by decide: (0:Int)<=4),(by decide: (4:Int)<=5),two hp.1 hp.2}
 |form i=>
  let hp:i<k:=h.elim (λz=>z.elim) λF=>by(let(j,e,hj):=F;cases e);show hj
  show{(by decide: (0:Int)<=5),(by decide: (5:Int)<=5),two (show(0:Int)<= (i:Int)by lia)<|show(i:Int)<= (k:Int) - 1 by lia}
 |list j=>show h.elim (λz=>z.elim) λD=>by(let(_,e,_):=D;cases e)
def GE{lo hi i:Int}{ms:Int}{ch:Bool}(j:i.natAbs<10 ^ 80)(h1:lo<=i)(h2:i<=hi)(h3:i=0\/(ms=0/\ch=ge)): (GQ (BI<|toS i) lo hi&& (decide ((BI<|toS i).getD 0=0) || (decide (ms=0) && !ch)))=true:=by
 rw[He j];change((decide (lo<=i) &&decide (i<=hi)) && (decide (i=0) ||_))=Z;rw[A1K h1,A1K h2];rcases h3 with rfl|⟨rfl,rfl⟩;·rfl
 simp
def B0(hf:XW k ch f):Gd (CY f.kind) (Fk f.kind) (if f.must then 1 else 0) ch (EL<|Gv f)=true:=by
 let(num,nam,kind,must,dfl):=f;let(D,hm,hd):=hf;let hd:dfl=CZ kind\/(must=ge/\ch=ge/\QU kind dfl):=hd;change Gd (CY kind) (Fk kind) (if must then 1 else 0) ch (EL<|Gv {(num),nam,kind,must,dfl})=Z
 let sm:∀{i:Int},-2147483648<=i->i<=2147483648->i.natAbs<10 ^ 80:=λh1 h2=>IT (show _<=2147483648 by lia) Ab;let mN: (2147483648:Int)<=MN:=⋯
 let U: (2147483648:Int)<=MW:=⋯
 cases kind with
 |truth=>
  rcases hd with rfl|⟨rfl,rfl,rfl⟩;·show GE (i:=0) (lo:=0) (hi:=1) Aa Aa Aa<|.inl O
  show GE (i:=1) (lo:=0) (hi:=1) Aa Aa Aa<|.inr {(O),O}
 |count=>
  rcases hd with rfl|⟨rfl,rfl,i,rfl,h1,h2⟩;·show GE (i:=0) (lo:=0) (hi:=MN) Aa Aa Ab<|.inl O
  show GE (i:=i) (lo:=0) (hi:=MN) (sm () h2) h1 ()<|.inr {(O),O}
 |whole=>
  rcases hd with rfl|⟨rfl,rfl,i,rfl,h1,h2⟩;·show GE (i:=0) (lo:=-MW - 1) (hi:=MW) Aa Ab Ab<|.inl O
  show GE (i:=i) (lo:=-MW - 1) (hi:=MW) (sm h1 h2) () ()<|.inr {(O),O}
 |upto n=>
  let hp:1<=n/\n<=MN:=D;let hM:MN<10 ^ 80:=⋯
  rcases hd with rfl|⟨rfl,rfl,i,rfl,h1,h2⟩;·show GE (i:=0) (lo:=0) (hi:=n) Aa Aa ()<|.inl O
  show GE (i:=i) (lo:=0) (hi:=n) () h1 h2<|.inr {(O),O}
 |text n=>
  rcases hd with rfl|⟨rfl,rfl,z,rfl,h1,h2⟩;·unfold Gd;rw[A1O (show CY (.text n)=4 from O),A1K (show EL (Gv {num,nam,.text n,must,CZ<|.text n})="-" from(by decide+kernel:EL (.s "")="-")),JK]
  change(decide (EL (.s z)="-") || (Ct (EL<|.s z) && (decide (((EL<|.s z).length:Int)<=n) && (decide ((0:Int)=0) && !false))))=Z;rw[JB h1,h1,A1K h2];simp
 |form i=>show GE (i:=0) (lo:=0) (hi:=0) Aa Aa Aa<|.inl O
 |list j=>
  let F:j.plain\/∃i,j= .form i/\i<k:=D;let(c1,c2,_):=Xz k j F;change Gd (10+CY j) _ _ ch (toS 0)=Z;unfold Gd;let hw:Nd (Fk<|.list j) (10+CY j)=0:=by unfold Nd;rw[A1N (),A1N (),A1N (),A1N ()]
  rw[A1N (),A1N (),hw];show GE (i:=0) (lo:=0) (hi:=0) Aa Aa Aa<|.inl O
def G0(hf:XW k ch f)(hk:k<=8):oX k (toS<|CY f.kind) (toS<|Fk f.kind) (toS<|if f.must then 1 else 0) (EL<|Gv f) ch=true:=by
 let ht:=B0 hf;let hm:GQ (Y<|if f.must then (1:Int)else 0) 0 (1 - if ch=Z then 1 else 0)=true:=by have:=hf.must;cases ch with|true=>rw[this O];rfl|false=>cases f.must <;> rfl
 unfold oX;rw[He (XJ f.kind hf.kind),He<|TM hf.kind hk,He<|vF f.must,hm];change((decide (0<=CY f.kind) &&decide (CY f.kind<=15)) && (!(decide (5<CY f.kind) &&decide (CY f.kind<10)) && (GQ (Y<|Fk f.kind) (wu<|CY f.kind%10) (FR k<|CY f.kind%10) && (Z&&Gd (CY f.kind) (Fk f.kind) (if f.must then 1 else 0) ch (EL<|Gv f)))))=Z
 rw[ht];let flat: (f.kind.plain\/∃i,f.kind= .form i/\i<k)->((decide (0<=CY f.kind) &&decide (CY f.kind<=15)) && (!(decide (5<CY f.kind) &&decide (CY f.kind<10)) && (GQ (Y<|Fk f.kind) (wu<|CY f.kind%10) (FR k<|CY f.kind%10) && (Z&&Z))))=true:=λh=>by
  let(U,c2,F):=Xz k f.kind h;rw[show CY f.kind%10=CY f.kind by lia,F,A1K U,A1K (show CY f.kind<=15 by lia),A1L (show ¬5<CY f.kind by lia)];show(O: ((Z&&Z) && (!(ge&&decide (CY f.kind<10)) && (Z&& (Z&&Z))))=Z)
 let D:=hf.kind;cases z:f.kind with
 |list j=>
  rw[z]at D;let(U,c2,F):=Xz k j D;change((decide (0<=10+CY j) &&decide (10+CY j<=15)) && (!(decide (5<10+CY j) &&decide (10+CY j<10)) && (GQ (Y<|Fk j) (wu<|(10+CY j) %10) (FR k<|(10+CY j) %10) && (Z&&Z))))=Z;rw[show(10+CY j) %10=CY j by lia,F,A1K (show 0<=10+CY j by lia),A1K (show 10+CY j<=15 by lia),A1L (show ¬10+CY j<10 by lia),Dg];rfl
 |form i=>rw[<-z];rw[z]at D;show flat<|.inr {(i),z,D}|truth=>rw[<-z];show flat (.inl<|by rw[z];trivial)|count=>rw[<-z];show flat (.inl<|by rw[z];trivial)|whole=>rw[<-z];show flat (.inl<|by rw[z];trivial)|upto n=>rw[<-z];rw[z]at D;show flat (.inl<|by rw[z];show D)|text n=>rw[<-z];rw[z]at D;show flat (.inl<|by rw[z];show D)
def PQ(f:SF):List AT:=(Mt f).map EL
def jB(ps:List Pt):Ln:=.txt<|Gw ps
def kM{ps:List Pt}(h:∀p∈ps,qO p)(z:ps≠[]):GV (jB ps)=ps.map EL/\¬ ("" :AT)∈ps.map EL:=by show{ag h z,λhm=>?_};let(p,j,e):=Bb.mp hm;show(h p j).wd.2.1 e
def yi(j:List SF)(F:∀f∈j,1<=f.num/\f.num<=150)(f:SF)(hf:1<=f.num)(z:∀g∈j,g.num<f.num):Ge (j.map PQ) +1<=f.num:=by
 unfold Ge;rw[List.getLast?_map];cases e:j.getLast? with
 |none=>change(0:Int) +1<=f.num;lia
 |some g=>
  let D:=List.mem_of_getLast? e;change(BI<|toS g.num).getD 0+1<=f.num;rw[He (by have:=F g D;lia)];have:=z g D;change g.num+1<=f.num
  lia
def W0{W:List Int}(go:zZ k W g)(hk:k<=8)(hs:g.fields=j++f::r):dH (PQ f) (j.map PQ) k g.choice=true:=by
 let D:f∈g.fields:=by rw[hs];simp
 let hf:=go.fs f D;let hn:=(go.nms.ok f.nam<|Bb.mpr {(f),D,O}).1;let hu:=go.nums f D;let F:=go.ri;let U:=go.nms.nd;rw[hs,Bl,AV]at F U;let e0:dH (PQ f) (j.map PQ) k g.choice=(Ct (EL<|.s f.nam) && (!decide (EL (.s f.nam)∈ (j.map PQ).map λa=>a.getD 2 "") && (GQ (BI<|toS f.num) (Ge (j.map PQ) +1) 200&&oX k (toS<|CY f.kind) (toS<|Fk f.kind) (toS<|if f.must then 1 else 0) (EL<|Gv f) g.choice))):=rfl
 rw[e0,JB hn,hn,G0 hf hk,He ()];let h1:decide (f.nam∈ (j.map PQ).map λa=>a.getD 2 "")=false:=A1L λhm=>by
  rw[Br]at hm;let(g',z,e):=Bb.mp hm;let a2:g'∈g.fields:=by rw[hs];show CC _ z
  let a1:=(go.nms.ok g'.nam<|Bb.mpr {(g'),a2,O}).1;let e:EL (.s g'.nam)=f.nam:=e;rw[JB a1]at e;show(JI.mp U).2.2 g'.nam (Bb.mpr {(g'),z,O}) f.nam (Bi ..) e
 rw[h1];let hl:=yi j (λg' z=>go.nums g'<|by rw[hs];show CC _ z) f hu.1 λg' z=>(List.pairwise_append.mp F).2.2 g'.num (Bb.mpr {(g'),z,O}) f.num<|Bi ..;change(Z&& (!ge&& ((decide (Ge (j.map PQ) +1<=f.num) &&decide (f.num<=200)) &&Z)))=Z;rw[A1K hl,A1K (show f.num<=200 by lia)];rfl
def WC{W:List Int}(go:zZ k W g)(F:k<=8)(ns:List AT)(D:ns.length=k+1)(rest:List Ln):∀(fs' j:List SF),g.fields=j++fs'->∀p,∃q ah,Zt (fs'.map (λf=>jB<|Mt f) ++rest) p {ns,j.map PQ,(fs'.length:Int),g.choice}=Zt rest q {ns,ah,0,g.choice}
 |[],j,_,p=>{(p),_,O}
 |f::fs',j,hs,p=>by
  let z:f∈g.fields:=by rw[hs];simp
  let hn:=(go.nms.ok f.nam<|Bb.mpr {(f),z,O}).1;let(w1,w2):=kM (UB (go.fs f z) F hn<|go.nums f z) (λe=>by cases e);let U:=W0 go F hs;let e1:ZY ⟨ns,j.map PQ,((f::fs').length:Int),g.choice⟩ (GV<|jB (Mt f))=Y ⟨ns,(j++[f]).map PQ,(fs'.length:Int),g.choice⟩:=by
   rw[w1];unfold ZY;rw[A1N w2,A1O (show((Mt f).map EL).getD 0 ""=Sa _ by
    unfold Sa;rw[A1O (show((f::fs').length:Int) >0 by change((fs'.length+1:Nat):Int) >0;lia)];change EL (.s "field")="field";decide+kernel),A1O (show((f::fs').length:Int) >0 by change((fs'.length+1:Nat):Int) >0;lia),A1O (show dH ((Mt f).map EL) (j.map PQ) ((ns.length:Int) - 1) g.choice=Z by rw[D,show((k+1:Nat):Int) - 1=(k:Int)by lia];show U)]
   change Y (WS.mk ns (j.map PQ++[PQ f]) (((fs'.length+1:Nat):Int) - 1) g.choice)=_;rw[Bl,show((fs'.length+1:Nat):Int) - 1=(fs'.length:Int)by lia];rfl
  let(q,ah,e2):=WC go F ns D rest fs' (j++[f]) (by rw[hs,JJ];rfl)<|p+1;show{q,ah,?_};change(match ZY {ns,j.map PQ,((f::fs').length:Int),g.choice} (GV<|jB (Mt f))with|some s'=>Zt (fs'.map (λf=>jB<|Mt f) ++rest) (p+1) s'|none=>Y p)=_;rw[e1];show e2
def af(h:m7 gs)(h4:gs.length<=7)(F:∀(i:Nat) g,gs[i]?=Y g->g.choice=Z->i+1<gs.length):∀(D j:List SG),gs=j++D->∀p ah pr,(j.getLast?.map (·.choice)).getD Z=pr->gs≠[]->Zt ((Eu D).map jB) p {j.map (·.nam),ah,0,pr}=S
 |[],j,hs,p,ah,pr,hp,U=>by
  rw[CI]at hs;change(if (0:Int) >0\/pr=Z then Y p else S)=S
  show A1N λhc=>?_;let a5:pr=true:=hc.elim (λz=>A1Q z Aa) id;rw[<-hs]at hp;cases e:gs.getLast? with
  |none=>show U<|List.getLast?_eq_none_iff.mp e
  |some g=>
   rw[e]at hp;let hp:g.choice=pr:=hp;rw[FN]at e;have:=F _ g e<|hp.trans a5
   lia
 |g::D,j,hs,p,ah,pr,hp,U=>by
  let a1:gs[j.length]?=Y g:=by rw[hs,Cv<|Bh _,JG];rfl
  let(k8,W,go):=h.ok _ g a1;let a6:=AN a1;let gn:=(h.nm.ok g.nam<|Bb.mpr {(g),a6,O}).1;let a3:=h.nm.nd;rw[hs,Bl,AV]at a3;let a9:j.length<gs.length:=(AO.mp a1).1;let(w1,w2):=kM (aJ gn go.len) (λe=>by cases e);let b1:=go.len;let hb:ml ((KL g).map EL) (j.map (·.nam))=true:=by
   let e0:ml ((KL g).map EL) (j.map (·.nam))=(Ct (EL<|.s g.nam) && (!decide (EL (.s g.nam)∈j.map (·.nam)) && (!decide ((j.map (·.nam)).length>7) && (GQ (BI<|toS (if g.choice then 1 else 0)) 0 1&&GQ (BI<|toS (g.fields.length:Int)) ((BI<|toS (if g.choice then 1 else 0)).getD 0) 10)))):=rfl
   rw[e0,JB gn,gn,He<|vF _,He (),A1L λhm=>(JI.mp a3).2.2 g.nam hm g.nam (Bi ..) O,Ay,A1L (show ¬j.length>7 by lia)];change(Z&& (!ge&& (!ge&& ((decide (0<=if g.choice=Z then (1:Int)else 0) &&decide ((if g.choice=Z then (1:Int)else 0)<=1)) && (decide ((if g.choice=Z then (1:Int)else 0)<= (g.fields.length:Int)) &&decide ((g.fields.length:Int)<=10))))))=Z
   rw[A1K (show(g.fields.length:Int)<=10 by lia)];let hc:=go.ne;cases a7:g.choice with
   |true=>
    have:=Im.mpr<|hc a7;rw[A1K (show(if Z=Z then (1:Int)else 0)<= (g.fields.length:Int)by rw[A1O O];lia)]
    rfl
   |false=>
    rw[A1K (show(if ge=Z then (1:Int)else 0)<= (g.fields.length:Int)by rw[A1N Aa];lia)]
    rfl
  let e1:ZY ⟨j.map (·.nam),ah,0,pr⟩ (GV<|jB (KL g))=Y ⟨(j++[g]).map (·.nam),[],(g.fields.length:Int),g.choice⟩:=by
   rw[w1];unfold ZY;rw[A1N w2,A1O (show((KL g).map EL).getD 0 ""=Sa _ by
    unfold Sa;rw[A1N (show ¬ (0:Int) >0 by decide)];change EL (.s "form")="form";decide+kernel),A1N (show ¬ (0:Int) >0 by decide),A1O hb]
   change Y (WS.mk (j.map (·.nam) ++[EL (.s g.nam)]) [] ((BI<|toS (g.fields.length:Int)).getD 0)<|decide (toS (if g.choice then 1 else 0)="1"))=_
   rw[JB gn,He (),Bl,show decide (toS (if g.choice=Z then 1 else 0)="1")=g.choice by cases g.choice <;> decide+kernel]
   rfl
  let(q,a8,e2):=WC go k8 ((j++[g]).map (·.nam)) (by rw[Ay,AS];rfl) ((Eu D).map jB) g.fields [] O<|p+1;let e3: (Eu (g::D)).map jB=jB (KL g):: (g.fields.map (λf=>jB<|Mt f) ++ (Eu D).map jB):=by unfold Eu;rw[AV,NW,Bl];unfold Qt;rw[AV,Br];rfl
  rw[e3];change(match ZY {j.map (·.nam),ah,0,pr} (GV<|jB (KL g))with|some s'=>Zt (g.fields.map (λf=>jB<|Mt f) ++ (Eu D).map jB) (p+1) s'|none=>Y p)=S;rw[e1];show Eq.trans e2 (af h h4 F D (j++[g]) (by rw[hs,JJ];rfl) q a8 g.choice ?_ U);rw[List.getLast?_append];rfl
def uu{b:Int}(h:yW b gs Ws):∃s,Zu (Zs gs) 0 bv= .inr s/\s.rows=Eu gs:=by
 let z:=h.l4;let h1:=h.l1;let e:Zt (Zs gs) 0 kL=none:=by have:=af h.gsn () h.last gs [] O 0 [] Z O (λe=>by rw[e]at h1;show A1Q h1 Aa);unfold Zs;rw[Br];show this
 rw[aE]at e;cases j:Zu (Zs gs) 0 bv with|inl p=>rw[j]at e;cases e|inr s=>show{s,O,by rw[Xn j,nW h.gsn]}
def yd:Ln->PyData|.txt z=>.str z|.thing _=>.none
def cM{K:AB}:∀ls:List Ln,KU K H (ls.map Jq)<|ls.map yd|[]=>.nil|.txt z::r=>.cons (.str z)<|cM r|.thing d::r=>.cons .non<|cM r
def Hm{K:AB}{ls:List Ln}(h:H t=Y (.lst<|ls.map Jq)):MK K H (.ref t) (.list<|ls.map yd):=.lst (Cg.of h)<|cM ls
def cO:∀(ls:List Ln),(∀x∈ls,Mi n W x)->EH (ls.map yd)=Z
 |[],_=>rfl
 |l::r,h=>by
  rw[AV,EH,AA];show{?_,cO r λz j=>h z<|Bq _ j};cases l with|txt z=>show(h _<|Bi ..).sok|thing d=>rfl
def aX:∀(ls:List Ln),Fm (ls.map yd)<=1
 |[]=>by decide
 |l::r=>by
  rw[AV,Fm];have:=aX r;cases l <;> simp only[IS,yd] <;> lia
def OC{ls:List Ln}(h:∀x∈ls,Mi n W x):Dy (.list<|ls.map yd)=true:=by
 unfold Dy;rw[AA];show{cO ls h,A1K ?_};have:=aX ls;simp only[IS]
 lia
def cU{ls:List Ln}(h:∀x∈ls,Mi n W x):FU (.list<|ls.map yd) (.list<|ls.map yd)=true:=SeqAt.eqv_refl _<|cO ls h
inductive kg(vs:List V)(H:Hp)(Q:VK):Prop|mk (l:AH) (ls:List Ln) (n W:Nat) (_:vs=[.ref l]) (_:H l=some (.lst<|ls.map Jq)) (_:∀x∈ls,Mi n W x) (_:n<=20) (_:W<=200) (_:ls.length<=100) (_:∀H',AZ H H'->Q (.bl true) H')
def nB:Sp:=λvs H Q _=>kg vs H Q
inductive kf(K:AB)(vs:List V)(H:Hp)(Q:VK):Prop|mk (v:V) (t:_) (_:vs=[v]) (_:IG K H v t) (_:BC K t (.type "list")=some false) (_:∀H',AZ H H'->Q (.bl true) H')
def ny(K:AB):Sp:=λvs H Q _=>kf K vs H Q
def mu(i:Int):FU (.int i) (.int i)=true:=by simp[FU]
def jo(T:Tx K mg):EE P w K mg base CXS 1 1113 (EM K 1113) Ak OB:=by
 show T.kK.okA eZ ?_;intro _ _ _ _ H _ Q _ hr h D z;let(x,d,O,j,q):=h;show{_,qr<|DT (qB (Bv K O) T.Ba AW<|Cy (pv 0) (RJ T.Kr HQ)) (ED<|Tn (qB (Bv K O) T.Ba AW<|Cy (pv 0) (RJ T.Vy Sv))),?_};show{x,.ty "int",_,_,_,O,j.ty,O,G1 T d,_,O,DL (λh=>?_) λh=>?_};·rw[h,BL]at q;show{x,.ty "bool",_,_,_,O,j.ty,O,uz T d,_,O,q}
 simp_all [z]
def oy(T:Tx K mg)(hc:KD P w K 906 KN):∅ 12 1260 Ak (ny K):=by let GA:=@fX P w K mg base T;let U:=@cw P w K mg base T hc;show(T.df 64 O).okA Wp ?_;intro 1 hr h;let(v,t,O,ty,kt,q):=h;let F:=hr.units;show{_,AJ (xA O O (λE=>fJ (E:=E) (cm:=Z) U (hr.mono Aa) O T.ES.m T.ES.k T.ES.b .nil (λ_=>rfl)<|Cp (pv 0)) O T.JX (v0:=.ref 31) O (λe=>qr<|DT (WI GA (TR<|hr.mono Aa) O T.Mo.m T.Mo.k T.Mo.b<|Cy (pv 1) AR) (ED<|Da (OL F) (ci (pv 1) O) AD (DW _))) Wp.nd (i:=1) O O)<|qr Dk,?_};show .inl {v,t,O,ty,kt,λd H2 s2 hd=>{T.ZL,λe a0 tb z=>?_}};let D:=s2.trans<|Bd (u:=qW e<|Jy (.ref 149) (Y d) a0 tb) z;show{{(e),_,_,a0,tb,O,Az},e,Y d,a0,tb,O,Az,.inr {d,_,O,lP hd z},λH4 j=>{_,O,BX ?_}};show{e,_,d,a0,tb,_,_,O,j _ _ Az,j _ _<|lP hd z,T.MT,T.Rl,O,_,_,.int _,.int 0,O,O,?_};rw[show FU (.int ((0:Nat):Int)) (.int 0)=Z from mu 0];show q _<|D.trans j
def oE(T:Tx K mg)(hc:KD P w K 906 KN):∅ 12 1248 Ar nB:=by
 let GA:=@fX P w K mg base T;let GW:=@jo P w K mg base T;let GB:=@cw P w K mg base T hc;show(T.df 62 O).okA FP ?_;intro 1 hr h;let(l,ls,n,W,O,hl,j,hn,hW,z,q):=h;let hu:=hr.units;show{_,AJ (qS 1 FP.nd<|qD (@tK P w K mg base T) hr (T.d1 60 O λ_ _ _ _ _ _ _=>rfl) (Cp<|pv 0))<|AJ (qS 2 FP.nd<|qT EV T.FO EJ (Cp<|pv 0)) (AJ (xy O O (λE=>xu (i:=3) FP.nd O (Ci O)<|fJ (E:=E) (cm:=Z) GB (hr.mono Aa) O T.ES.m T.ES.k T.ES.b .nil (λ_=>rfl) (Cp<|pv 2)) O T.JX (v0:=.ref 31) O (λe=>AJ (qS 5 FP.nd<|DT (WI GA (TR<|hr.mono Aa) O T.Mo.m T.Mo.k T.Mo.b<|Cy (pv 4) AR) (DT (WI GW (TR<|hr.mono Aa) O T.Rr.m T.Rr.k T.Rr.b<|Cp (ci (pv 4) O))<|ED (Da (OL hu) (ci (pv 4) O) (pv 1)<|DW _)))<|qr (DT (pv 5)<|ED (Da (OL hu) (pv 2) (pv 0)<|DW _))) FP.nd (i:=4) O O)<|AJ (qi (PW.pt<|EX (qc Vp (pv 1) DG) (EX (Cn<|BA (qB (Bv K O) T.Ba AW<|Cy (pv 3) (My T.Pr)))<|ET (qc (LX hu) (pv 2)<|pv 0)))<|qr Dk) (qr<|Da (OL hu) (qD (@OM P w K mg base T) hr T.Io<|Cp (pv 3)) (pv 0) (DW _))),?_};let hok:∀x∈ls,jY x:=λx hx=>(j x hx).ok hn hW;show{l,_,ls,O,hl,jD j hn hW,hok,z,λH1 s1=>{l,_,O,.inl<|Cg.of (s1 _ _ hl),λL hL=>?_}};let sL:=Bd (u:=.lst<|ls.map Jq) hL;let s2:=s1.trans sL;let eL:=Df hL<|.lst (ls.map Jq);let a3:=s2 _ _ hl;show .inr {L,_,ls,O,eL,jD j hn hW,hok,z,?_};rw[aE ls];cases e:Zu ls 0 bv with
 |inl p=>
  show λH3 s3 d H4 s4 hd=>{T.ZL,λex a0 tb he=>?_};let sx:=Bd (u:=qW ex<|Jy (.ref 149) (Y d) a0 tb) he;let U:=Df he<|qW ex (Jy (.ref 149) (Y d) a0 tb);let a5:=sx _ _ hd;show{{(ex),_,_,a0,tb,O,U},ex,Y d,a0,tb,O,U,.inr {(d),_,O,a5},λH5 s5=>{_,O,BX ?_}};let F:=s5 _ _ U;let a4:=s5 _ _ a5;show{ex,_,d,a0,tb,_,_,O,F,a4,T.MT,T.Rl,O,{(ex),_,_,a0,tb,O,F},_,.int (p:Nat),O,O,?_};let s6:=((s3.trans s4).trans sx).trans s5;let b0:=s6 _ _ a3;let b2:=s6 _ _ eL;show{_,O,BX {ex,_,d,a0,tb,_,_,O,F,a4,T.MT,T.Rl,O,_,_,.int _,.int _,O,O,?_}};rw[mu];show{_,O,BX {_,_,Hm b2,Hm b0,OC j,OC j,?_}};rw[cU j];show q _<|s2.trans s6
 |inr s=>
  intro u H3 s3 hT;let a2:=s3 _ _ a3;let b3:=s3 _ _ eL;let(a,dx,R,ts,O,ha,hR,hp):=id hT;show{O,_,O,BM {.ref a,.ref 923,_,_,_,O,(T.mP 14 O) ha,O,(T.q 70 O),_,O,BM {_,_,Hm b3,Hm a2,OC j,OC j,_,O,?_}}};rw[cU j];show BM {_,s.rows,O,hT,F9 j hn hW z e,λD H4 hD s4 e4=>?_};let eb:=uv e;let e5:H4 D=Y (.lst<|ls.map Jq):=by rw[e4,eb,Br,Br,Br];rfl
  show{_,_,Hm e5,Hm<|s4 _ _ a2,OC j,OC j,?_};rw[cU j];show q _<|(s2.trans s3).trans s4
def mh(k:Nat):AT:="form zz" ++one (97+k) ++ " 0 0"
def mi(k:Nat):AT:="form " ++one (97+k) ++ " 0 10"
def cT(w:AT)(j:Nat):AT:="field " ++toS (0+ (j:Int) +1) ++ " " ++one (97+j) ++w
def lnB(z:AT):Bool:=decide ((Ca z " ").length<=7) && (Ca z " ").all A5
def wF:List AT:=[" 1 0 1 0"," 5 0 1 0"]
def uQ:∀k<9,lnB (mh k)=true:=⋯
def uR:∀k<2,lnB (mi k)=true:=⋯
def pF:∀w∈wF,∀j<10,lnB (cT w j)=true:=⋯
def A0C:∀k<9,(BV "abcdefghi").cps.toList[k]?=Y (97+k):=⋯
def X6:∀k<10,(BV "abcdefghij").cps.toList[k]?=Y (97+k):=⋯
def A0D:∀k<2,(BV "ab").cps.toList[k]?=Y (97+k):=⋯
inductive qh(vs:List V)(H:Hp)(Q:VK):Prop|mk (l:AH) (m:Nat) (ls:List Ln) (n W:Nat) (_:vs=[.ref l,.int (m:Nat)]) (_:m<=9) (_:H l=some (.lst<|ls.map Jq)) (_:∀x∈ls,Mi n W x) (_:7<=n) (_:80<=W) (_:ls.length<=60) (_:BnQ H Q n W 100)
def rV:Sp:=λvs H Q _=>qh vs H Q
def ndK: ((["_law_k"]:List AT) ++ ([]:List AT)).Nodup:=⋯
def A0d: ((["_law_j"]:List AT) ++ (["_law_words"]:List AT)).Nodup:=⋯
abbrev mfS(l:AH)(m:Nat)(j v3 v4:Option V):L2.St:=[Y (.ref l),Y<|.int (m:Nat),j,v3,v4]
def tU(T:Tx K mg):∅ 1 1253 ["_law_lines_here","_law_many"] rV:=by
 show(T.df 63 O).okA Jm ?_;intro 1 hr h;let(l,m,ls,n,W,O,hm,hl,b2,hn,hW,c2,q):=h;show{_,AJ (qi (qc Mz (pv 1) AD)<|qr (Bt JO (pv 0)<|Yv ["_law_k"] [] [] .nil (HY O T.Li<|Cp (pv 1)) (λC s_ H_ fp=>BQ (i:=0) ndK O (Ci O)<|DN O) (λC s_ H_ fp=>Bt Fd (Bt Fd AR<|Mx TB AR (pv 0) (λ_ _=>rfl)) AR)))<|AJ (qS 2 Jm.nd<|Cq Ed) (Bk (HM Dn O (OI O T.Jw<|Cq (Cy AR AR)) (Tl O (n:=2)<|CJ (BQ (i:=3) Jm.nd O<|Ci O) (CJ (BQ (i:=4) Jm.nd O<|DN O) Jp))<|AJ (Ds<|Ej Bg BG BF Du (pv 2) (Cp<|Bt Fd (Bt Fd AR<|Mx TB AR (pv 3) (λ_ _=>rfl)) AR)) (BO<|Ds (Ej Bg PySem.F.slot_list_extend PySem.F.type_list_extend aB (pv 2)<|Cp (Yv ["_law_j"] ["_law_words"] [4] (.cons O (.inl O) O .nil) (HY O T.Li<|Cp AD) (λC s_ H_ fp=>BQ (i:=0) A0d O (Ci O)<|DN O) λC s_ H_ fp=>Bt Fd (Bt Fd (Bt Fd (Bt Fd AR<|qT DY T.IU GF (Cp<|Bt DV (pv 0) AD)) AR)<|Mx TB AR (pv 0) (λ_ _=>rfl))<|pv 1))))<|qr (pv 2)),?_};let o1:∀c:Nat,(one c).length<=1:=λc=>Bh 1;let ad:∀{x y:AT},x.length<=200->y.length<=200->x.length+y.length<=sizeLine:=λh1 h2=>Gq ();let low:∀{x:Ln},Mi 7 80 x->Mi n W x:=λh=>h.mono hn hW;show{_,O,DL (λh0=>?_) λh0=>?_}
 ·show{_,O,(),(),Et (Wk.rng 0 _) (by rw[Ay,Ce];change((m:Nat):Int).toNat<=1000;lia) (λj=>.str<|mh j) (λj x U H2 R s2 hR=>?_) λD H2 hD s2 e2=>?_}
  ·let(O,hj):=bY U;let b3:j<9:=()
   show{Sub.set O,"abcdefghi",_,_,O,O,Ab,by rw[Qe];show CN<|A0C j b3,_,_,O,O,ad Ab<|AU (o1 _) Aa,_,_,O,O,ad (AU (IF (n:=7) Ab<|o1 _) Aa) Ab,?_};show hR H2 λ_ _ e=>e
  let e3:H2 D=Y (.lst<|((BN m).map λj=>Ln.txt<|mh j).map Jq):=by rw[e2,Ay,Ce,Br];rfl
  show{l,D,_,_,O,O,s2 _ _ hl,e3,by rw[Ay,Ay,Ay,Ce];show Gq (),λp hp=>?_};show q.go p _ (ls++ (BN m).map λj=>Ln.txt<|mh j) (s2.trans<|Bd hp) (by rw[Az,Bl]) (λx U=>?_) (by rw[AS,Ay,Ce];lia);rcases BE.mp U with U|U;·show b2 x U
  let(j,hj,O):=Bb.mp U;have:=HG.mp hj;show low (cL<|uQ j ())
 show{zl 0,λL hL=>?_};let sL:=Bd (u:=.lst []) hL;show CD (λσ' H'=>∃(v3 v4:Option V) (ls':List Ln),σ'=mfS l m (Y<|.ref L) v3 v4/\AZ H H'/\H' L=Y (.lst<|ls'.map Jq)/\(∀x∈ls',Mi 7 80 x)/\ls'.length<=22) ?_ ?_
 ·show{zl 2,λE hE=>?_};let sE:=Bd (u:=.lst<|wF.map V.str) hE;let eE:=Df hE<|.lst (wF.map V.str);let a6:E≠L:=Xd hE<|Df hL (.lst []);show{E,O,{_,Cg.of eE},MF (xs:=wF.map V.str) (λi σ' H'=>∃(v3 v4:Option V) (ls':List Ln),σ'=mfS l m (Y<|.ref L) v3 v4/\AZ H H'/\H' E=Y (.lst<|wF.map V.str)/\H' L=Y (.lst<|ls'.map Jq)/\(∀x∈ls',Mi 7 80 x)/\ls'.length<=11*i) {_,_,[],O,sL.trans sE,eE,sE _ _<|Df hL (.lst []),(λ_ h=>nomatch h),Cu _} (λi σ' H' _ h=>by let(_,_,_,_,_,h,_):=h;show Cg.of h) (λi x Tt σ' H1 U h b4=>?_) λσ' H' h=>?_}
  ·let(v3,v4,ls',O,s1,a9,a4,w1,n1):=h;rw[AQ]at U;let(y,hy,O):=Bp.mp U;let hi:i<2:=(AO.mp hy).1;let a7:=AN hy;let yl:y.length<=20:=(by decide+kernel:∀w∈wF,w.length<=20) y a7;let sT:=Bd (u:=.tup [.int (i:Nat),.str y]) b4;let a3:=sT _ _ a4;let b5:=sT _ _ a9;show{Tt,_,O,Ec.of Az,O,_,_,O,_,_,O,O,?_};show{.inl {O,_,Cg.of a3},"ab",_,_,O,O,Ab,CN<|A0D i hi,_,_,O,O,ad Ab<|AU (o1 _) Aa,_,_,O,O,ad (AU (IF (n:=7) Ab<|o1 _) Aa) Ab,L,_,_,O,O,a3,by rw[Ay];show CW (),?_};let sP:AZ H (upd _ L<|.lst (ls'.map Jq++[.str (mi i)])):=(s1.trans sT).put hL;let a8:=dc a3<|.lst (ls'.map Jq++[.str (mi i)]);show{.inl {O,_,Cg.of a8},_,O,Aa,Aa,Et (Wk.rng 0 _) (by rw[Ay,Ce];decide) (λj=>.str<|cT y j) (λj x U H2 R s2 hR=>?_) λD H2 hD s2 e2=>?_}
   ·let(O,hj):=bY U;let hj:j<10:=hj;let t1: (toS<|0+ (j:Int) +1).length<=81:=Kb ();let l1:=IF (show(BV "field ").length<=6 by decide+kernel) t1;let l2:=IF l1 (show(BV " ").length<=1 by decide+kernel);let l3:=IF l2<|o1 (97+j);show{Sub.set O,_,O,Ts (),_,_,O,O,ad Ab<|AU t1 Aa,_,_,O,O,ad (AU l1 Aa) Ab,"abcdefghij",_,_,O,O,Ab,by rw[Qe];show CN<|X6 j hj,_,_,O,O,ad (AU l2 Aa)<|AU (o1 _) Aa,_,_,O,O,ad (AU l3 Aa)<|AU yl Aa,?_};show hR H2 λ_ _ e=>e
   let e3:H2 D=Y (.lst<|((BN 10).map λj=>Ln.txt<|cT y j).map Jq):=by rw[e2,Ay,Ce,Br];rfl
   show{L,D,_,_,O,O,s2 _ _ a8,e3,?_,_,_,ls'++[.txt (mi i)] ++ (BN 10).map λj=>Ln.txt<|cT y j,O,(sP.trans s2).put hL,?_,?_,λz hz=>?_,?_};·rw[AS,Ay,Ay,Ay,Ce];show Gq (by change ls'.length+1+10<=1000;lia)
   ·rw[AM a6];show s2 _ _ (by rw[AM a6];show b5)
   ·rw[Az,Bl,Bl];rfl
   ·rcases BE.mp hz with hz|hz
    ·rcases BE.mp hz with hz|hz
     ·show w1 z hz
     rw[Bc.mp hz];show cL<|uR i hi
    let(j,hj,O):=Bb.mp hz;show cL<|pF y a7 j (HG.mp hj)
   rw[AS,AS,Ay,Ce];change ls'.length+1+10<=11* (i+1)
   lia
  let(v3,v4,ls',O,s1,a9,a4,w1,n1):=h;show{(v3),v4,ls',O,s1,a4,w1,n1}
 rintro σ' H3 ⟨v3,v4,ls',rfl,s3,e3,w3,n3⟩;show q.go L H3 ls' s3 e3 (λx U=>low<|w3 x U) ()
def bA{K:AB}(s:Sm H H'){a:AH}{xs:List V}(h:Cg K H a xs):Cg K H' a xs:=h.imp (λz=>z.imp (λe=>s _ _ e O) λj=>(by let(o,e):=j;show{o,s _ _ e O})) id
def RW{K:AB}{x y:V}{d:PyData}{Q:VK}(h1:MK K H x d)(h2:MK K H y d)(hs:Dy d=Z)(q:Q (.bl ge) H):S9 K x y H Q:={d,d,h1,h2,hs,hs,by rw[SeqAt.eqv_refl d (SeqAt.canLay_of_shaped hs)];show q}
def bX{K:AB}:∀ps:List Pt,KU K H (ps.map JA)<|ps.map HC|[]=>.nil|.n i::r=>.cons (.int i)<|bX r|.s z::r=>.cons (.str z)<|bX r
def WE{K:AB}:∀{rs:List (List Pt)} {ts:List AH},Paired (PZ H) rs ts->KU K H (ts.map V.ref) (rs.map λps=>.tuple<|ps.map HC)|_,_,.nil=>.nil|ps::_,t::_,.cons h r=>.cons (.tup (Ec.of h)<|bX ps)<|WE r
def gm:∀(rs:List (List Pt)),(∀ps∈rs,∀p∈ps,p.ok)->EH (rs.map λps=>.tuple<|ps.map HC)=Z
 |[],_=>rfl
 |ps::r,h=>by
  rw[AV,EH,AA];show{cN ps<|h ps (Bi ..),gm r λz j=>h z<|Bq _ j}
def XF:∀(rs:List (List Pt)),Fm (rs.map λps=>.tuple<|ps.map HC)<=3
 |[]=>by decide
 |ps::r=>by
  rw[AV,Fm];let h1:=XF r;let h2:=TH ps;simp only[IS]
  lia
def xa{rs:List (List Pt)}(h:yX rs):Dy (.list<|rs.map λps=>.tuple<|ps.map HC)=true:=by
 unfold Dy;rw[AA];show{gm rs λps j=>(h.ok ps j).1,A1K ?_};have:=XF rs;simp only[IS]
 lia
def vb(ls:List Ln):FU (.list<|ls.map yd) (.list [])=decide (ls=[]):=by cases ls with|nil=>rfl|cons l r=>rfl
structure im(K:AB)(ns:List Int)(gs:List SG)(sc ta dx R D:AH)(ts:List AH)(H:Hp):Prop where
 hSc:Cg K H sc (ns.map V.int)
 hTa:H ta=Y (.ins 923 dx [("rows",.ref R)])
 hRr:H R=Y (.lst<|ts.map V.ref)
 hPr:Paired (PZ H) (Eu gs) ts
 hDd:H D=Y (.lst<|(Zs gs).map Jq)
def im.go(h:im K ns gs a1 U F D j ts H)(s:AZ H H'):im K ns gs a1 U F D j ts H':={bA (Sm.of s) h.hSc,s _ _ h.hTa,s _ _ h.hRr,Paired.mapP h.hPr λ_ _ z=>s _ _ z,s _ _ h.hDd}
def im.tb(h:im K ns gs U j D z F ts H):qF H (Eu gs) (.ref j):={(j),D,z,ts,O,h.hTa,h.hRr,h.hPr}
def Vu(gs:List SG): (Zs gs).map Jq=((Eu gs).map Gw).map V.str:=by unfold Zs;rw[Br];rfl
inductive ze(K:AB)(vs:List V)(H:Hp)(Q:VK):Prop|mk (a:AH) (ns:List Int) (_:vs=[.ref a]) (_:Cg K H a (ns.map V.int)) (_:Lm H) (_:∀H',Q (.bl true) H')
def rZ(K:AB):Sp:=λvs H Q _=>ze K vs H Q
def A0b: ((["_law_part"]:List AT) ++ ([]:List AT)).Nodup:=⋯
abbrev Tv(sc:AH)(fv:V)(ta D:AH)(v4 v5 v6 v7 v8 v9 v10 v11:Option V):L2.St:=[Y (.ref sc),Y fv,Y<|.ref ta,Y<|.ref D,v4,v5,v6,v7,v8,v9,v10,v11]
def E7(T:Tx K mg)(kb:K.In base)(hc:KD P w K 906 KN):∅ 13 1265 An (rZ K):=by
 let Gc:=@Vq P w K mg base T;let GT:=@OM P w K mg base T;let GR:=@oE P w K mg base T hc;let GB:=@cw P w K mg base T hc;show T.zr.okA Iw ?_;intro 1 hr h;let(sc,ns,O,hS,i1,q):=h;let hu:=hr.units;let h3:EO (1+1) _:=hr.mono Aa;show{_,AJ (qS 1 Iw.nd<|qD (@tY P w K mg base T) hr (T.d1 48 O λ_ _ _ _ _ _ _=>rfl) (Cp<|pv 0))<|AJ (qS 2 Iw.nd<|qD (@fW P w K mg base T hc) hr (T.d1 28 O λ_ _ _ _ _ _ _=>rfl) (Cp<|qD (@tV P w K mg base T kb) hr (T.d2 50 O λ_ _ _ _ _ _ _ _=>rfl) (Cy (pv 1)<|qD Gc hr T.FK (Cy (pv 0) AD)))) (Bk (qS 3 Iw.nd<|qD (@oF P w K mg base T) hr (T.d1 54 O λ_ _ _ _ _ _ _=>rfl) (Cp<|pv 1))<|Bk (HM Dn O (HY O T.Li<|Cp AD) (BQ (i:=4) Iw.nd O<|Ci O)<|AJ (qS 5 Iw.nd<|qD GT hr T.Io (Cp<|pv 2)) (AJ (qi (PW.pt<|EX (Cn<|BA (qB (Bv K O) T.Ba AW<|Cy (pv 5) (RJ T.FO EJ))) (ET<|qc (LX hu) (pv 5) (pv 3)))<|qr Dk)<|BO (Ds<|Ej Bg BG BF Du (pv 5) (Cp AR)))) (Bk (qS 6 Iw.nd<|ck GB (hr.mono Aa) O T.ES.m T.ES.k T.ES.b .nil tG (Cp<|qT EV T.FO EJ (Cp<|pv 3)))<|Bk (qi (PW.pt<|EX (Cn<|BA (qB (Bv K O) T.Ba AW<|Cy (BH (pv 2) O) (RJ T.FO EJ))) (ET<|qc (LX hu) (BH (pv 6) O) (BH (pv 2) O)))<|qr Dk) (Bk (qi (qc (LX hu) (qD GT hr T.Io<|Cp (pv 6))<|pv 3)<|qr Dk)<|Bk (HM Dn O (DS<|BH (pv 2) O) (BQ (i:=7) Iw.nd O<|Ci O)<|AJ (qi (Cn<|BA (qB (Bv K O) T.Ba AW<|Cy (pv 7) (RJ T.Rg Pe)))<|qr Dk) (BO<|qi (qc (LX hu) (qp ["_law_part"] [] [] .nil (jf<|pv 7) (λC s_ H_ fp=>BQ (i:=0) A0b O (Ci O)<|DN O) (λC s_ H_ fp=>PF<|PW.pt (OG (Cn<|BA (qB (Bv K O) T.Ba AW<|Cy (pv 0) (RJ T.IU GF)))<|Ly (Cn<|BA (qD (@oz P w K mg base T) hr T.Rr<|Cp (pv 0))))) λC s_ H_ fp=>pv 0)<|Cq Ed) (qr Dk))) (AJ (qS 8 Iw.nd<|pv 3)<|Bk (HM Dn O (HY O T.Li<|Cp (KE (Cq<|AY AD (AY AD<|Cy AD AD))<|Bt Di (qD Gc hr T.FK<|Cy (pv 0) AD) AD)) (BQ (i:=4) Iw.nd O<|Ci O)<|BO (qi (qc (LX hu) (pv 8)<|Cq Ed)<|AJ (qS 8 Iw.nd<|qD (@xP P w K mg base T) hr (T.d2 61 O λ_ _ _ _ _ _ _ _=>rfl) (Cy (pv 8)<|qD (@WO P w K mg base T) hr T.Op (Cy (qD Gc hr T.FK<|Cy (pv 0) (Bt DV AD<|pv 4))<|pv 4))) (BO<|qi (Cn<|BA (qD GR hr T.Kw<|Cp (pv 8))) (qr Dk)))) (AJ (qS 9 Iw.nd<|qT EV T.FO EJ (Cp<|BH (pv 2) O))<|AJ (qS 10 Iw.nd<|Fh {(T.SZ),T.LP,T.LO,T.SY} (jt T) h3 O T.Pr T.LR .nil DU (Cp<|pv 9)) (Bk (Ds<|Ej Bg BG BF Du (pv 9) (Cp<|DC (AY AR<|AY AR (Cy AD AD))))<|Bk (qi (PW.pt<|EX (qc (LX hu) (qD GT hr T.Io<|Cp (pv 10))<|pv 3) (ET<|Cn (BA<|qD GR hr T.Kw (Cp<|qD (@tU P w K mg base T) hr (T.d2 63 O λ_ _ _ _ _ _ _ _=>rfl) (Cy (pv 3)<|Bt Di (qD Gc hr T.FK (Cy (pv 0) AD)) AD)))))<|qr Dk) (Bk (qS 11 Iw.nd<|KE (Cq<|AY DG (AY AD<|AY (qT QA T.Rg Pe<|Cp (pv 3)) (Cy AR RL))) (Bt Di (qD Gc hr T.FK<|Cy (pv 0) AD) AD))<|qr (DT (qD (@oy P w K mg base T hc) hr (T.d1 64 O λ_ _ _ _ _ _ _=>rfl)<|Cp (pv 11))<|ED (qD GR hr T.Kw<|Cp (Cq Ed)))))))))),?_};show{sc,ns,O,hS,λgs Ws fv H1 a5 s1 b8=>?_};let b9:=bA (Sm.of s1) hS;show{sc,ns,12,O,b9,Aa,fv,EU ns 12,EU ns 0,gs,Ws,O,b8,a5,i1.same s1,λv xs ws H2 s2 l2 hB hG=>{v,xs,ws,gs,_,_,Ws,O,hB,hG,a5,λu H3 s3 hT=>?_}};let(ta,dx,R,ts,O,d6,hR,d7):=hT;let b7:=s2.trans<|Sm.of s3;let b4:=b8.sm b7;show CD (λσ' H'=>∃D,im K ns gs sc ta dx R D ts H'/\σ'=Tv sc fv ta D S S S S S S S S) ?_ ?_
 ·show{fv,gs,_,Ws,O,b4,a5,λD H4 hD s4 e4=>{D,{bA (Sm.of s4)<|bA b7 b9,s4 _ _ d6,s4 _ _ hR,Paired.mapP d7 λ_ _ z=>s4 _ _ z,by rw[e4,Vu]},O}}
 clear b4 b7 d7 hR d6 s3 hB hG l2 s2 b8 s1 b9;rintro σ' H4 ⟨D,f0,rfl⟩;let lw:=yh a5;let(rk,g9):=yg a5;let g8: (Zs gs).length<=24:=by unfold Zs;rw[Ay,Ay];show g9
 let sh:=OC lw;show CD (λσ' H'=>∃v4 v5,im K ns gs sc ta dx R D ts H'/\σ'=Tv sc fv ta D v4 v5 S S S S S S) ?_ ?_
 ·show{_,O,Aa,Aa,PM (λi σ' H'=>∃v4 v5,im K ns gs sc ta dx R D ts H'/\σ'=Tv sc fv ta D v4 v5 S S S S S S) {(_),_,f0,O} (λi σ' H' hi h=>?_) λσ' H' h=>h};let(v4,v5,hI,O):=h;show{_,Eu gs,O,hI.tb,rk,λF H5 hF s5 e5=>?_};let e5:H5 F=Y (.lst<|(Zs gs).map Jq):=by rw[e5,Vu]
  let a9:=hI.go s5;show{.ref F,.ty "list",_,_,_,O,.lst e5,O,T.Fu,_,O,BM<|RW (Hm e5) (Hm a9.hDd) sh {_,O,BM {.inl {O,_,Cg.of e5},F,_,_,O,O,e5,by rw[Ay];show CW (),_,_,hI.go<|s5.put hF,O}}}
 rintro σ' H5 ⟨v4,v5,a9,rfl⟩;show CD (λσ' H'=>∃v4 v5 oa,qF H' (Eu gs) (.ref oa)/\im K ns gs sc ta dx R D ts H'/\σ'=Tv sc fv ta D v4 v5 (Y<|.ref oa) S S S S S) ?_ ?_;·show{D,_,O,.inl<|Cg.of a9.hDd,λL hL=>.inr {L,_,Zs gs,O,Az,jD lw Aa Aa,λx hx=>(lw x hx).ok Aa Aa,(),?_}};let(s,es,er):=uu a5;rw[es];intro u H6 s6 hT;rw[er]at hT;let h9:=hT;let(oa,d3,oR,g6,O,_):=h9;show{_,_,oa,hT,a9.go<|(Bd hL).trans s6,O}
 rintro σ' H6 ⟨v4,v5,oa,hO,a1,rfl⟩;let(k6,d3,oR,g6,eo,ho,d9,d8):=id hO;obtain rfl:=V.ref.inj eo;show CD (λσ' H'=>σ'=Tv sc fv ta D v4 v5 (Y<|.ref oa) S S S S S/\H6=H') ?_ ?_;·show{ta,_,dx,_,_,O,a1.hTa,T.Ja,T.FJ,O,.ref R,.ty "list",_,_,_,O,.lst a1.hRr,O,T.Fu,_,O,BM {oa,_,d3,_,_,O,ho,T.Ja,T.FJ,O,ta,_,dx,_,_,O,a1.hTa,T.Ja,T.FJ,O,?_}};show RW (.lst (Cg.of d9)<|WE d8) (.lst (Cg.of a1.hRr)<|WE a1.hPr) (xa rk) {_,O,BM {(O),O}}
 rintro σ' m1 ⟨rfl,rfl⟩;show CD (λσ' H'=>∃v4 v5,im K ns gs sc ta dx R D ts H'/\σ'=Tv sc fv ta D v4 v5 (Y<|.ref oa) S S S S S) ?_ ?_
 ·show{_,Eu gs,O,hO,rk,λF H7 hF s7 e7=>?_};let e7:H7 F=Y (.lst<|(Zs gs).map Jq):=by rw[e7,Vu]
  show RW (Hm e7) (Hm (a1.go s7).hDd) sh {_,O,BM {_,_,a1.go s7,O}}
 clear hO ho d9 d8 a1 a9 f0 v4 v5;rintro σ' H7 ⟨v4,v5,b3,rfl⟩;show CD (λσ' H'=>∃v7,im K ns gs sc ta dx R D ts H'/\σ'=Tv sc fv ta D v4 v5 (Y<|.ref oa) v7 S S S S) ?_ ?_
 ·show{ta,_,dx,_,_,O,b3.hTa,T.Ja,T.FJ,O,R,O,{_,Cg.of b3.hRr},ME (xs:=ts.map V.ref) (λi σ' H'=>∃v7,im K ns gs sc ta dx R D ts H'/\σ'=Tv sc fv ta D v4 v5 (Y<|.ref oa) v7 S S S S) {(_),b3,O} (λi σ' H' _ h=>by let(_,h,_):=h;show Cg.of h.hRr) (λi x σ' H' hx h=>?_) λσ' H' h=>h};let(v7,hI,O):=h;rw[AQ]at hx;let(t,ht,O):=Bp.mp hx;let(ps,h4,a8):=GO hI.hPr i t ht;let po:=rk.ok ps<|AN h4;show{.ref t,.ty "tuple",_,_,_,O,.tup a8,O,T.YE,_,O,BM {t,O,{_,Ec.of a8},Jj (Wk.tup<|Ec.of a8) (by rw[Ay];show po.2) (λ_=>ge) (λ_=>.non) (λj x hx H2 R' s2 hR hN=>?_) λF H2 hD s2 e2=>{zl 0,λE hE=>?_}}}
  ·rw[AQ]at hx;let(p,hp,O):=Bp.mp hx;let e8:=hN H2 (AZ.refl _) O;cases p with|s z=>show{Sub.set O,.str z,.ty "str",_,_,_,O,.str z,O,T.SV,_,O,BM e8}|n i=>show{Sub.set O,.int i,.ty "str",_,_,_,O,.int i,O,T.SW,_,O,BX {_,.int i,O,O,_,O,BM e8}}
  let e3:H2 F=Y (.lst []):=by rw[e2];simp
  let sE:=Bd (u:=.lst []) hE;show RW (Sr<|sE _ _ e3) (Sr Az) bI {_,O,BM {_,hI.go<|s2.trans sE,O}}
 clear b3;rintro σ' H8 ⟨v7,e9,rfl⟩;show CD (λσ' H'=>∃v4 v8,im K ns gs sc ta dx R D ts H'/\σ'=Tv sc fv ta D v4 v5 (Y<|.ref oa) v7 v8 S S S) ?_ ?_
 ·show{zl 4,λt ht=>?_};let st:=Bd (u:=.lst<|([0,1,1,2]:List Int).map V.int) ht;let c1:=e9.go st;let(k,hk,h7):=XS (xs:=([0,1,1,2]:List Int)) V.int (i:=EU ns 12%4) (Hj _ Aa)<|FG _ Aa;let k9:0<=k/\k<=2:=(by decide:∀k∈ ([0,1,1,2]:List Int),0<=k/\k<=2) k h7;show{sc,ns,12,O,c1.hSc,Aa,(by change(0:Int) <4;decide),t,_,_,_,O,O,Cg.of<|Df ht _,hk,_,O,(),(),?_};show PM (λi σ' H'=>∃(v4:Option V) (B:AH) (ls':List Ln),im K ns gs sc ta dx R D ts H'/\H' B=Y (.lst<|ls'.map Jq)/\(∀x∈ls',Mi (7+i) (81+i) x)/\ls'.length<=24+i/\σ'=Tv sc fv ta D v4 v5 (Y<|.ref oa) v7 (Y<|.ref B) S S S) {_,D,Zs gs,c1,c1.hDd,lw,g8,O} (λi σ' H' hi h=>?_) λσ' H' h=>?_
  ·let(a7,B,ls',hI,hB,hw,hl,O):=h;let l1:i<2:=()
   show{zl 0,λE hE=>?_};let sE:=Bd (u:=.lst []) hE;let c2:=hI.go sE;let c3:=sE _ _ hB;show{_,_,Hm c3,Sr<|Df hE _,OC hw,bI,_,O,?_};rw[vb];by_cases h0:ls'=[];·rw[A1K h0];show BM {_,B,ls',c2,c3,λx hx=>(hw x hx).mono () (),(),O}
   rw[A1L h0];show BX {sc,ns,_,O,c2.hSc,(),_,_,O,(),(),B,_,ls',7+i,81+i,O,(um _ _).1,c3,hw,(),(),(),(),h0,(),{λB2 H2 b1 s2 e2 w2 n2=>?_}};let i2:=c2.go s2;show{B2,b1,7+i+1,81+i+1,O,e2,w2,(),(),(),λH3 s3=>{_,O,BM {_,B2,b1,i2.go s3,s3 _ _ e2,w2,(),O}}}
  let(a7,B,ls',hI,_,_,_,O):=h;show{(_),_,hI,O}
 clear e9;rintro σ' H9 ⟨a7,v8,a6,rfl⟩;show{ta,_,dx,_,_,O,a6.hTa,T.Ja,T.FJ,O,R,_,O,.inl<|Cg.of a6.hRr,λR2 b2=>λx c6 hx h8 h5=>?_};let sR:=Bd (u:=.lst<|ts.map V.ref) b2;let eR:=Df b2<|.lst (ts.map V.ref);let sm:=NM (C:=923) hx h8 h5;let nx:x≠R2:=Xd hx eR;show{x,c6,R2,_,O,Az,sm _ _ eR,λm hm=>{O,?_}};let s2:=Bd (u:=.lst<|ts.map V.ref) hm;let nm:m≠R2:=Xd hm<|sm _ _ eR;let g7:m≠x:=λz=>by rw[z,Az]at hm;cases hm
 let sX:=(sm.trans s2).put (o:=.ins 923 c6 [("rows",.ref m)]) hx;let c4:=sX _ _ eR;show CD (λσ' H'=>qF H' (Eu gs) (.ref x)/\im K ns gs sc ta dx R D ts H'/\σ'=Tv sc fv ta D a7 v5 (Y<|.ref oa) v7 v8 (Y<|.ref R2) (Y<|.ref x) S) ?_ ?_
 ·show{.inl {O,_,Cg.of c4},zl 4,λt ht=>{R2,_,_,O,O,Bd ht _ _ c4,?_,?_,?_,O}}
  ·rw[Ay,<-a6.hPr.length];show CW ()
  ·let hF:=a6.go<|((sR.trans sX).trans<|Bd (u:=.tup [.str "form",.str "more",.int 0,.int 0]) ht).put (o:=.lst<|ts.map V.ref++[.ref t]) b2;show{x,c6,m,ts,O,?_,?_,hF.hPr}
   ·rw[AM nx];show Bd ht _ _ Az
   rw[AM nm];show Bd ht _ _ (by rw[AM g7];show Az)
  show a6.go<|((sR.trans sX).trans<|Bd (u:=.tup [.str "form",.str "more",.int 0,.int 0]) ht).put (o:=.lst<|ts.map V.ref++[.ref t]) b2
 clear c4 sX s2 sm sR eR a6;rintro σ' m5 ⟨e0,f2,rfl⟩;show CD (λσ' H'=>im K ns gs sc ta dx R D ts H'/\σ'=Tv sc fv ta D a7 v5 (Y<|.ref oa) v7 v8 (Y<|.ref R2) (Y<|.ref x) S) ?_ ?_
 ·show{_,Eu gs,O,e0,rk,λF f6 hF g5 c5=>?_};let c5:f6 F=Y (.lst<|(Zs gs).map Jq):=by rw[c5,Vu]
  let U:=f2.go g5;let(c,ec,l3):=cH (c:=EU ns 14) (n:=10) Aa;show RW (Hm c5) (Hm U.hDd) sh {_,O,BM {sc,ns,14,O,U.hSc,Aa,(by change(0:Int) <10;decide),D,c,Zs gs,7,81,?_,(),U.hDd,lw,Aa,Aa,(),{λB2 H2 b1 s2 e2 w2 n2=>?_}}};·change [V.ref D,V.int<|EU ns 14%10]=_;rw[show EU ns 14%10=(c:Int)from ec]
  show{B2,b1,7,81,O,e2,w2,Aa,Aa,n2,λH3 s3=>{_,O,BM {(U.go s2).go s3,O}}}
 rintro σ' f6 ⟨U,rfl⟩;show CD (λσ' H'=>∃v t,IG K H' v t/\BC K t (.type "list")=Y ge/\σ'=Tv sc fv ta D a7 v5 (Y<|.ref oa) v7 v8 (Y<|.ref R2) (Y<|.ref x) (Y v)) ?_ ?_
 ·show{D,_,O,.inl {Cg.of U.hDd,λt ht=>?_}};let u1:=Bd (u:=.tup<|(Zs gs).map Jq) ht;let e1:=Df ht<|.tup ((Zs gs).map Jq);show λd hd=>{zl 5,λl hl=>?_};let u2:=Bd (u:=.dK []) hd;let e2:=Df hd<|.dK [];let u3:=Bd (u:=.lst [.non,.int 5,.ref t,.str "form a 0 0",.ref d]) hl;let f1:=((U.go u1).go u2).go u3;let(v,hv,d5):=XS (xs:=([.non,.int 5,.ref t,.str "form a 0 0",.ref d]:List V)) id (i:=EU ns 13%5) (Hj _ Aa)<|FG _ Aa;rw[SO]at hv;show{sc,ns,13,O,f1.hSc,Aa,(by change(0:Int) <5;decide),l,_,_,_,O,O,Cg.of<|Df hl _,hv,v,?_};simp only[Bf,Cm,or_false]at d5;rcases d5 with rfl|rfl|rfl|rfl|rfl
  ·show{_,.non,T.NC,O}
  ·show{_,.int 5,T.VA,O}
  ·show{_,.tup<|u3 _ _ (u2 _ _ e1),T.bp,O}
  ·show{_,.str _,T.Vz,O}
  show{_,.dK<|u3 _ _ e2,T.Uf,O}
 rintro σ' m4 ⟨v,t,ty,kt,rfl⟩;show{v,t,O,ty,kt,λm3 k4=>{_,O,BX {zl 0,λE hE=>{E,[],7,81,O,Az,(λ_ h=>nomatch h),Aa,Aa,Aa,λi5 j9=>q i5}}}}
def vE{K:AB}{mg:AT->Option AC}(T:Tx K mg)(s:AK)(u:AC):BindsTo s (EM K 1265) {[u],[]} [("_law_script",u)]:=by let(oc,od,kV,doc,pm,an,cdv,ct,osl,e,lk,j):=T.zr.ex;rw[e];show .of_eq O
def wH:S7.Holds:=holds (k:=13) {(Aa),Aa} (sp:=rZ) (λw K mg base T j D=>E7 T j D) (λK mg T s u=>vE T s u) λK H a ns _ _ z h=>{a,ns,O,h,.inl z.1,λ_=>rfl}
end K9
theorem PySem.Challenge.cw_formkin_k24_tables_as_lines_holds : PySem.Challenge.rw_formkin_k24_tables_as_lines.Holds := by
 show K9.wH
#print axioms PySem.Challenge.cw_formkin_k24_tables_as_lines_holds
