import PyProof.Rows.All
import Lean
import KE.KDictList
import KE.KIntText
import KE.IntTextLaws
import KE.KLam
import KE.KRevSl
import KE.KSortTup
import KE.KTryMore
import OpenK.KEqL
import OpenK.XOpen
import Wide.Once
import Wide.Txt2
import PySem.Challenge.RW_formkin_k10_whole_books_by_lines
set_option Elab.async false
set_option linter.all false
set_option maxRecDepth 1000000
set_option maxHeartbeats 0
set_option genSizeOf false
set_option compiler.extract_closed false
theorem O{α:Sort u}{a:α}:a=a:=rfl
open Option renaming some->Y,none->S
open Bool renaming true->Z,false->ge
open List renaming length_map->Aw,getElem?_eq_getElem->AA,length_append->AI,mem_of_getElem?->AL,mem_cons->AM,mem_singleton->AN,getElem?_eq_some_iff->AQ,mem_map->AS,map_map->AX,map_cons->Ba,getElem?_map->Be,range->Bg,map_append->Bh,mem_cons_of_mem->Bi,getD_eq_getElem?_getD->Bj,mem_cons_self->Bl,mem_append->Bt,size_toArray->Bu,all_eq_true->By,length_cons->BD,append_nil->BE,length_take->BG,mem_append_right->BJ,append_assoc->BS,length_range->BZ,mem_of_mem_take->Cg,map_congr_left->Cm,mem_append_left->Cu,not_mem_nil->Cw,cons_ne_nil->Cy,mem_iff_getElem?->Cz,replicate->CO,mem_range->Dv,getElem?_append_right->Dw,length_drop->DD,mem_of_mem_drop->DU,flatten_cons->Ee,mem_filter->Eg,lookup->Eh,getElem?_append_left->Eo,drop_eq_getElem_cons->Ep,filter_append->Ew,map_nil->EE,getElem?_take_of_lt->EF,filter_cons_of_pos->EU,filterMap_cons->Fe,take_length->Fk,lookup_cons->Fm,take_append_drop->FE,length_singleton->FF,nodup_cons->FP,pairwise_map->FZ,take_succ->Gr,filter_cons_of_neg->Gs,cons_append->Gu,take_of_length_le->GM,contains_cons->GO,map_drop->Hi,all_cons->Hk,getElem?_eq_none->Hz,pairwise_iff_getElem->Iw,any_cons->Ja,find?_cons->Jc,length->Jg,length_replicate->JZ,map_take->Kz,mem_iff_getElem->KW,nil_append->Le,take_succ_cons->LD,map_eq_nil_iff->LF,mem_filterMap->MH,map->MI,reverse_eq_nil_iff->OS,getElem_mem->OT,getElem?_replicate->OU,length_filter_le->QF,getElem?_set_ne->Sh,append->Si,replicate_succ->Tq,length_reverse->Tr,length_zipIdx->UJ,take_sublist->XY,take_add_one->XZ,ext_getElem?->Yb,any_eq_false->Yc,mem_reverse->ZQ,map_flatten->ZR,drop_length->ZS,take_append_of_le_length->bw
open PySem renaming Value->Ay,wpAny_bind->AC,Addr->AH,Shared->AJ,Str->AO,wpAny_pure->Bf,starEach->Br,Program->Bv,wpAny->Bz,World->BP,mainGlobals->Ca,bootBuiltins->Cf,Heap->CA,wpAny_Call_Name_kw->CF,Around->CH,eval->Dh,compareOp->DB,backTo->DK,wpAny_mono->DZ,sizeLine_eq->Ec,wpAny_holding->En,FuncData->Eu,OsState->EZ,mem_of_lookup->Fd,wpAny_newObj_type->Fh,wpAny_truthy_bool->Gn,codeAny_mono->Go,codeAny_call_builtin->Gp,wpAny_call->GD,sysModules->GE,attributeBase->GF,wpAny_field->HB,keywordEach->HC,codeAny->Iv,Pos->IZ,behindInMarks->JA,letOwnedTupleGo->JH,call_meets->JV,Stmt->JW,Arguments->Ka,KeyKind->Ky,wpAny_loadPart_at->KR,foldedSetIterable->KS,assignEach->LZ,wpAny_standAt->Me,strIterType->MB,sliceBounds->MC,binaryOp->MD,backToKw->ME,wpAny_passesOwn->No,rawInt->Np,treeTable->NV,wpAny_setField->OK,typeIs_str->OL,tupleKind_room_in1->OM,isInstance->ON,builtinsNs->OO,wpAny_pyIter_list->Qc,wpAny_pyIter_enum->Qd,excClassObj->Qe,wpAny_execs_cons->RU,swapsWith->RV,getMethod->RW,cLine->RX,wpAny_pyNext_enum_endD->Tj,callerA->Tl,codeAny_builtin->Uh,wpAny_loadPart->XI,recursionLimit->XJ,tupleKind->Yp,scanBound->Yr,noteFrame->Ys,getItem->Yt,Keyword->Yu,strLen_append->bo
open PySem.W renaming Frag->Az,kitOne->Bo,emptyDict->CL,findIn->CM,instObj->CU,findIn->Dq,kia_one->Dy,kia_tup->DQ,InstAt->Ed,kitAny->EI,keepIn->EJ,Frag->Fn,boot_heap->Fs,callWith_K->FA,behindTheImports->FY,hideAll->Hg,SharedT->Hh,methodCall_KW->Hv,kitOne->HN,topFrame->Ie,clsIn->IX,kla_obj->Jb,keepIn->Je,sortI->Kw,looks_findIn->KU,kas_asc->Ld,looks_clsIn->Lz,hideAll_get->LA,callWith_K0->LC,fnOf->Mc,sortI_perm->MF,CodeHd->MG,specialIn->NC,kitx_list->ND,kitx_dict->NE,hasDictIn->NF,mroIn->NL,plainGet->OP,any_some->OQ,makesIn->Qf,tabObj->RZ,lookIn->Sa,kitCls->Sc,hideAll_none->Sd,kas_tail3->Tk,plainGet_of->To,check_slot->UH,set_plain->XN,nsIn->XO,methodObj->XQ,isFn->XR,makes_of->ZN,handedIn->ZO,kas_place->bp
open Bool renaming and_eq_true->AB,false_ne_true->Bm,noConfusion->BL,true_and->CQ,and_eq_true_iff->Db,false_and->Dx,or_eq_false_iff->EK,not_eq_true->Fo,not_eq_true'->Gb,and_false->Gv,eq_false_iff->HD,eq_iff_iff->Lf,false_or->NR,or_eq_true->Qj,or_true->Yj
open PySem.Heap renaming get?_push_of_some->AD,lt_size->Bs,get?_push_size->Bx,get?_update_other->DL,get?_update_self->Ih,size_push->KY,SameBut->NP,get?_push_ne->Qh,get?_none_of_le->Yh
open PySem.Str renaming ofString->AG,empty->Mb
open Option.some renaming inj->AK,injEq->JB
open Nat renaming le_trans->AR,le_refl->AU,ne_of_lt->BH,lt_of_lt_of_le->BK,zero_le->BY,add_le_add->Ct,le_succ->Da,add_le_add_left->DH,lt_irrefl->DO,lt_of_le_of_lt->Ev,le_of_lt->GL,lt_succ_self->Ig,ne_of_gt->JD,lt_trans->JE,lt_succ_of_lt->JF,succ_le_succ->Ko,not_lt_zero->Qg,zero_add->XS,toDigits->XT,sub_self->XU,le_of_eq->XW,add_comm->XX
open PySem.F renaming plainAttrs_list->Bk,type_list_append->BB,slot_list_append->BC,plainAttrs_str->DC,slot_list_index->Gq,type_str_join->Hw,slot_str_join->Hx,slot_dict_get->Hy,type_list_extend->NM,slot_list_extend->NN,type_list_index->OR,entry_dict_get->Pt
open PySem.PyData renaming strOk->BF,canLayAll0->Dd,depthAll->HP,str->IY,depth->NO
open PySem.Challenge renaming pw_formkin_k10_whole_books_by_lines->BI
open False renaming elim->BM
open Or renaming inl->Cd,inr->CV
open Option renaming map_eq_some_iff->Ce,bind_some->ZP
open PySem.Txt renaming join->Cj,slice->Cq,split->HS,slice_le->Tn
open PySem.Value renaming bool->CG,none->CT,type->DP,int->FM,str->Ma,float->XM
open Ne renaming symm->CI
open True renaming intro->Du
open PyProof.Rows renaming callWith_type1->DW,envOfC->FD,callWith_builtin1->Kn,seqObj->Kv,AllBare->UL
open PySem.SeqAt renaming shaped->DX
open PySem.PassesOwn renaming never->EC
open Array renaming length_toList->Ff,toList_append->IB,getD->UK
open PySem.Builtin.Str renaming occurrences->Fi,strSliceIndices->NQ,partsBetween->QG
open PySem.Builtin.Int renaming intBits->FC
open Int renaming emod_nonneg->FQ,emod_lt_of_pos->GP,toNat_of_nonneg->LG,lt_trans->Md,toNat_natCast->Ye,ne_of_gt->Yg
open PySem.Calls renaming spliced_cons->Ga,spliced_nil->Ix,callWith_builtin->KZ,evalArgs_plain->MJ
open Prod.mk renaming injEq->Gd
open PySem.BindsTo renaming of_defaults->GQ
open List.cons renaming inj->Hj
open PySem.Obj renaming mapSeq->HH,mapFields->JC
open PyProof.Rows.F renaming plain_set_update_loop->Iz,entry_set_update_loop->Tp
open Pure renaming pure->ID
open PySem.Builtin.Slice renaming slicePlaces->Jh,sliceAdjust->Pw
open PySem.Builtin.Tuple renaming tupleExact->JG
open Classical renaming not_not->NG
open Except renaming ok->OV,error->Yi
open Nat.succ renaming inj->Pu
open ForInStep renaming yield->Qi
open PySem.W.excIn renaming match_6->QE
open PySem.Builtin.List renaming listTooLong->QH
open Sum.inr renaming inj->RY
open PySem.W.R renaming mapR->Se
open Prod renaming snd->Sg
open PySem.Data renaming dict->Sj
open LawfulBEq renaming eq_of_beq->UF
open PySem.W.WData renaming weight->UG,int->bq
open PySem.W.Looks renaming here->UI
open List.Pairwise renaming nil->Yd
open ToString renaming toString->bn
open PySem.Paired renaming length->br
open PySem.NameKind renaming cell->bu
noncomputable section
abbrev Ac:List AO:=["thing","least","most"]
abbrev Ad:List AO:=["number"]
abbrev Ae:List AO:=["kind","default"]
abbrev Af:List AO:=["kind","ahead"]
abbrev Ag:List AO:=["form","weights"]
abbrev Ah:List AO:=["field"]
abbrev Ai:List AO:=["words","at"]
abbrev Aj:List AO:=["_law_number_here","_law_k"]
abbrev Ak:List AO:=["_law_kind_here","_law_number_here"]
abbrev Al:List AO:=["_law_kind_here","_law_weights"]
abbrev Am:List AO:=["_law_script","_law_base","_law_most"]
abbrev An:List AO:=["_law_kind_here","_law_spec_here","_law_bit"]
abbrev Ao:List AO:=["_law_spec_here","_law_bit","_law_number_here"]
abbrev Ap:List AO:=["self"]
abbrev Aq:List AO:=["self","value"]
abbrev Ar:List AO:=["self","most"]
abbrev As:List AO:=["self","number","name","kind","must","default"]
abbrev At:List AO:=["self","name","fields","gone"]
abbrev Au:List AO:=["self","forms"]
abbrev Av:List AO:=["_law_field_here"]
def A3j{p:Prop}[inst:Decidable p](h:p):decide p=true:=decide_eq_true h
def A3k{p:Prop}[inst:Decidable p](h:¬p):decide p=false:=decide_eq_false h
def A3l{p:Prop}[inst:Decidable p](h:decide p=Z):p:=of_decide_eq_true h
def A3m{c:Prop}[h:Decidable c](n:¬c){α:Sort u}{t e:α}:ite c t e=e:=if_neg n
def A3n{c:Prop}[h:Decidable c](n:c){α:Sort u}{t e:α}:ite c t e=t:=if_pos n
def A3o{α:Sort u}{β:Sort v}{a b:α}(f:α->β)(h:a=b):f a=f b:=congrArg f h
def A3p{a:Prop}{b:Sort v}(h:a)(n:¬a):b:=absurd h n
def Ab{p:Prop}[i:Decidable p](h:decide p=true:=by kernel_rfl):p:=of_decide_eq_true h
def Aa{p:Prop}[i:Decidable p](h:decide p=true:=by exact Eq.refl Z):p:=of_decide_eq_true h
def an_{a b:Bool}(h:a=true)(k:b=true): (a&&b)=true:=by rw[h,k];rfl
def k10.ws:PySem.Challenge.rw_formkin_k10_whole_books_by_lines.wellSaid=true:=by
 unfold PySem.W.OpenLaw.wellSaid;refine an_ (an_ (an_ (an_ (an_ (an_ (an_ (an_ (an_ (an_ (an_ (an_ (an_ (an_ (an_ (an_ (an_ (an_ ?_ ?_) ?_) ?_) ?_) ?_) ?_) ?_) ?_) ?_) ?_) ?_) ?_) ?_) ?_) ?_) ?_) ?_) ?_
 all_goals decide+kernel
def k10.law_of(h:PySem.Challenge.rw_formkin_k10_whole_books_by_lines.row.wellSaid=Z->PySem.Challenge.rw_formkin_k10_whole_books_by_lines.row.Holds):PySem.Challenge.rw_formkin_k10_whole_books_by_lines.Holds:=PySem.W.holds_law k10.ws h
set_option hygiene false
local macro_rules|`(tactic|show $e)=>`(tactic|refine $e)
local macro_rules|`(let $d:letDecl;$b)=>if d.raw[0].isOfKind `Lean.Parser.Term.letIdDecl then `(have $d:letDecl;$b)else Lean.Macro.throwUnsupported
def cv_:Nat->Lean.Syntax->Lean.MacroM Lean.Syntax
 |0,_=>Lean.Macro.throwUnsupported
 |n+1,s=>do
  if s.isIdent then return<-`(rcasesPat|$(if s.getId== `O then Lean.mkIdent `rfl else ⟨s⟩):ident)
  if s.isOfKind `Lean.Parser.Term.hole then return<-`(rcasesPat|_)
  let a<-(s[1].getArgs[:1]++s[1][2].getSepArgs).mapM (cv_ n)
  let a:=a.map λx=>(⟨x⟩:Lean.TSyntax `Lean.Parser.Tactic.rcasesPatLo)
  `(rcasesPat|⟨$a,*⟩)
local macro_rules|`(tactic|let $d:letDecl)=>do
  let p:=d.raw[0]
  if p.isOfKind `Lean.Parser.Term.letPatDecl then
   let q:Lean.TSyntax `rcasesPat:=⟨<-cv_ 9 p[0]⟩
   `(tactic|obtain $q:rcasesPat:=$(⟨p[4]⟩):term)
  else `(tactic|have $d:letDecl)
local macro_rules|`(tactic|have $d:letDecl)=>do
  let p:=d.raw[0]
  if p.isOfKind `Lean.Parser.Term.letPatDecl then
   let q:Lean.TSyntax `rcasesPat:=⟨<-cv_ 9 p[0]⟩
   `(tactic|(refine Ef fun U_ g_=>?_;obtain $q:rcasesPat:=$(⟨p[4]⟩):term;refine g_ ?_;clear g_ U_))
  else Lean.Macro.throwUnsupported
def zr_(_:0=0:=by rfl):=0
def zd_(_:0=0:=by decide):=0
local macro_rules|`(~~~$x)=>`(autoParam $x zr_._auto_1)
local macro_rules|`(↑($x))=>`(autoParam $x zd_._auto_1)
local macro_rules|`(⋯)=>`(by decide+kernel)
local macro_rules|`(())=>`(by lia)
local macro_rules|`(↑$x:ident)=>`(($x).heap.objs.size)
local macro_rules|`(∅)=>`(HL.Fg P w K mg base)
local macro_rules|`(tactic|intro 0 $x*)=>`(tactic|intro pZ s σ H $x*)
local macro_rules|`(tactic|intro 1 $x*)=>`(tactic|intro _ _ _ _ H _ Q _ $x* _ _)
local macro_rules (kind:=«term{_}»)|s=>`(⟨$(Lean.Syntax.TSepArray.mk (sep:=",") (ks:= `term) s[1].getArgs),*⟩)
set_option bootstrap.genMatcherCode false
local macro_rules (kind:=Lean.Parser.Command.declaration)|s=>do
  if (s[1].isOfKind `Lean.Parser.Command.definition||s[1].isOfKind `Lean.Parser.Command.abbrev)&&s[0].getArgs.all (·.getArgs.isEmpty) then return s.setArg 0 (<-`(command|noncomputable def x:=0)).raw[0]
  Lean.Macro.throwUnsupported
namespace HL
open PySem PySem.W PyProof.Rows
abbrev iu:String->Option Builtin:=PySem.W.Fast.tw14364793385576792824
abbrev Vt:=PySem.W.Fast.tw15667345088766844465
abbrev QY:=PySem.W.Fast.tw14374325043358763698
abbrev sX:=PySem.W.Fast.tw10110043849684766642
abbrev RI:=PySem.W.Fast.tw11892475500146522536
abbrev HE:IZ:={0,0,0,0}
abbrev Mz:Option Ay:=Y<|.ref 6
noncomputable def env(p:Bv):Env:={scope:=p.main.scope,locals:=mainNs,globals:=mainNs,cells:=[],code:=.ref 13,frame:=Y 14}
noncomputable def code(p:Bv):Code:=.body (FY p)<|env p
noncomputable def qs(l:List Nat):AO:={{(l)}}
noncomputable def j2:AO:=qs [60,109,111,100,117,108,101,62]
noncomputable def o5:AO:=qs [47,99,108,97,105,109,47,99,117,116,46,112,121]
noncomputable def o1:AO:=qs [95,95,109,97,105,110,95,95]
noncomputable def o11:Obj:={cls:=.type PySem.W.SL.s2766695959194262286x5,data:=.seq #[]}
noncomputable def o12:Obj:={cls:=.none,data:=.fields #[]}
noncomputable def o13:Obj:={cls:=.type PySem.W.SL.s5856160107412720595x4,data:=.fields #[.str j2 182,.str j2 183,.str o5 184,.int 1 0,.int 0 0,.int 0 0,.int 0 0,.int 0 0,.ref 11,.bool ge,.int 181 0,.ref 12,.none,.none,.none,.none,.int 185 0,.int 1 0,.str o5 186]}
noncomputable def o14:Obj:={cls:=.type PySem.W.SL.s658472552662922059x5,slots:=#[Y (.ref 13),Y<|.ref 3,Y<|.ref 3,S,Y<|.str o1 164,S,Y<|.ref 0]}
abbrev lf(o:Obj):BT:=.node o .nil .nil
noncomputable def X7(P:Params):BT:=.node (boot_o_0 P) (.node (boot_o_1 P) (.node (boot_o_3 P) (lf<|boot_o_7 P)<|lf o11)<|.node (boot_o_5 P) (lf<|boot_o_9 P) (lf o13))<|.node (boot_o_2 P) (.node (boot_o_4 P) (lf<|boot_o_8 P)<|lf o12) (.node (boot_o_6 P) (lf<|boot_o_10 P)<|lf o14)
noncomputable def S0(w:BP)(os:EZ):Hh:={X7 w.params,15,{},#[],{},187,os}
noncomputable def nB(w:BP)(os:EZ):AJ:={Fs w.params,#[],boot_drawn,boot_toks,os}
noncomputable def T0(p:Bv):Thread:=piecesOf (FY p) (env p) (code p) HE [Ie HE]
noncomputable def R(p:Bv)(n:Nat)(w:BP)(os:EZ):Option (Flow×Hh×Code×IZ):=sX iu p w 11 Mz 1 n (S0 w os)<|T0 p
abbrev B9(p:Bv):=PySem.W.Fast.tw5923862056798008813 p.main.body
abbrev B3(q:Bv):=PySem.W.Fast.tw3399658132070893891 q
abbrev cA(q:Bv)(lo:List AO):=PySem.W.Fast.tw821141287760084731 q lo
abbrev vt(q:Bv):=PySem.W.Fast.tw3247288618530077131 q
noncomputable def y7(p:Bv)(P:Params)(s:AJ):Bool:=staticsOk (B9 p) (Fs P) s.heap&&namesBound p s.heap&&gensDone s&&laidKept (Fs P) s.heap
noncomputable def y6(q:Bv)(s:AJ):=PySem.W.Fast.tw5160383126252970620 (Se (λx=>x.name)<|B3 q) (PySem.W.Fast.tw5991557255702980513 q) [] {s with gens:=#[]}
noncomputable def y3(p q:Bv)(lo:List AO)(s:AJ):Bool:=PySem.W.Fast.tw10880121769531294198 s.heap (cA q lo) (Se (λx=>x.name)<|B3 q) (Se (λx=>x.fst)<|PySem.W.Fast.tw7409074990110511671 q) (Se (λx=>x.name)<|PySem.W.Fast.tw13664370479719496447 q (cA q lo))
  &&PySem.W.Fast.tw14722251495701143533 s.heap (B9 p) &&s.heap.isNs Ca&&s.heap.isNs OO&&PySem.W.Fast.tw10994771534591457954 q s.heap&& (xlAt q [] s&&recOk [] s) && (s.gens.size==0)
noncomputable def TW(p q:Bv)(lo:List AO)(P:Params)(s:AJ):=(y7 p P s,y6 q s,s.heap.bltView,y3 p q lo s,PySem.W.Fast.tw479339242167458305 q s,PySem.W.Fast.tw16090120013241838585 q (vt q) s,PySem.W.Fast.tw2386780881361962483 q (cA q lo) s,PySem.W.Fast.tw11698064438423848299 q lo s,PySem.W.Fast.tw7317090234206586261 q s,PySem.W.Fast.tw7369524293546568484 q lo s)
noncomputable def aM(q:Bv)(lo:List AO):=(Z,expectedOf q,bltViewBooted,Z,Z,pinGoodD<|vt q,plainGoodE q<|cA q lo,plainGoodD q lo,wideGood q,clsGoodW q lo)
open PySem.W.Fast in
def sQ{p:Bv}{w:BP}{os:EZ}(h:Vt iu p w 11 Mz 12 (nB w os) (topStub p)=Y ((S0 w os).abs,{RI iu<|code p,code p,HE,[Ie HE]})):
  topGo NV p w 11 Mz 12 (nB w os) (topStub p)=Y ((S0 w os).abs,{denote NV<|code p,code p,HE,[Ie HE]}):=by rw[te15667345088766844465,te14364793385576792824,te11892475500146522536];show h
open PySem.W.Fast in
def jb{p:Bv}{w:BP}{s:AJ}(h:QY iu p w 11 Mz 1 1 s (blockOf (FY p) (env p) (code p) HE [Ie HE])=Y (.next,s,code p,HE)):
  segRun NV p w 11 Mz 1 1 s (blockOf (FY p) (env p) (code p) HE [Ie HE])=Y (.next,s,code p,HE):=by rw[te14374325043358763698,te14364793385576792824];show h
open PySem.W.Fast in
def sP{p:Bv}{n:Nat}{w:BP}{os:EZ}{x:Flow×Hh×Code×IZ}(h:R p n w os=Y x):segRunT NV p w 11 Mz 1 n (S0 w os) (T0 p)=Y x:=by rw[te10110043849684766642,te14364793385576792824];show h
def zf{p:Bv}{w:BP}{c:Code}{q:IZ}:∀s:AJ,topRun NV p w 11 Mz 2 s {doneF .next,c,q,[Ie HE]}=Y s:=λj=>by
 let(_,_,_,_,_):=j;show O
def nR{p:Bv}{n:Nat}{w:BP}{os:EZ}{s:Hh}{q:IZ}(RA:Vt iu p w 11 Mz 12 (nB w os) (topStub p)=Y ((S0 w os).abs,{RI iu<|code p,code p,HE,[Ie HE]}))(jU:∀s,QY iu p w 11 Mz 1 1 s (blockOf (FY p) (env p) (code p) HE [Ie HE])=Y (.next,s,code p,HE))(h:R p n w os=Y (.next,s,code p,q)):topRun NV p w 11 Mz (12+ (1+ (n+2))) (nB w os) (topStub p)=Y s.abs:=by show go_top (sQ RA)<|piece_block (jb<|jU _) ?_;let e:=piece_app (rest:=[]) (segRun_of<|sP h)<|piece_nil (zf (q:=q) s.abs);rw[BE]at e;show e
open PySem.W.Fast in
def ja{p q:Bv}{lo:List AO}{P:Params}{s:AJ}(h:TW p q lo P s=aM q lo): (staticsOk (importedModules p.main.body) (Fs P) s.heap&&namesBound p s.heap&&gensDone s&&laidKept (Fs P) s.heap)=Z/\openSeen q lo (importedModules p.main.body) (λs=>xlAt q [] s&&recOk [] s) Z s=openGood q lo:=by
 simp only[TW,aM,Gd]at h;let(a,b,c,d,e,f,g,i,j,k):=h;show{?_,?_};·rw[te5923862056798008813];show a
 unfold openSeen openGood;simp only[Gd];show{?_,c,?_,?_,?_,?_,?_,?_,?_};·rw[PySem.W.R.mapR_eq,te5160383126252970620,te3399658132070893891,te5991557255702980513];show b
 ·rw[PySem.W.R.mapR_eq,te10880121769531294198,te821141287760084731,te3399658132070893891,te7409074990110511671,te13664370479719496447,te14722251495701143533,te5923862056798008813,te10994771534591457954];show d
 ·rw[te479339242167458305];show e
 ·rw[te16090120013241838585,te3247288618530077131];show f
 ·rw[te2386780881361962483,te821141287760084731];show g
 ·rw[te11698064438423848299];show i
 ·rw[te7317090234206586261];show j
 rw[te7369524293546568484];show k
noncomputable def lk{j:Type}(p q:Bv)(lo:List AO)(Yf:AJ->j)(w:BP)(s:Hh):=(TW p q lo w.params s.abs,Yf s.abs)
def some_of{F D j:Type}{o:Option (Flow×F×D)}{f:F->j}{y:Flow}{z:D}{g:j}(h:o.map (λx=>(x.1,x.2.2,f x.2.1))=Y (y,z,g)):∃s,o=Y (y,s,z)/\f s=g:=by
 cases o with
 |none=>cases h
 |some x=>
  let(a,b,c):=x;let e:=AK h;simp only[Gd]at e;let(O,O,O):=e;show{(b),O,O}
def yB{p q:Bv}{lo:List AO}{n N:Nat}{pos:IZ}{U:Type}{Yf:AJ->U}{Ya:BP->U}(h1:opening p=plainProg p.main.scope.names)(h2:∀s,fenceModules? p s=Y s)(RA:∀w os,Vt iu p w 11 Mz 12 (nB w os) (topStub p)=Y ((S0 w os).abs,{RI iu<|code p,code p,HE,[Ie HE]}))(jU:∀w s,QY iu p w 11 Mz 1 1 s (blockOf (FY p) (env p) (code p) HE [Ie HE])=Y (.next,s,code p,HE))(j:∀w os,(R p n w os).map (λx=>(x.1,x.2.2,lk p q lo Yf w x.2.1))=Y (.next,(code p,pos),(aM q lo,Ya w)))(hsz:∀P:Params,(Fs P).isNs Ca=Z/\(Fs P).objs.size=11/\(Fs P).nsMap Ca "__annotations__"=Mz)(hN:Nat.ble 600 N=Z)(hM:12+ (1+ (n+2))<=N):LeftO p q lo (λs=>xlAt q [] s&&recOk [] s) Yf Ya N:=by
 intro w;let((hp,gs,d,k,os),e,e'):=Ce.mp<|boot_open h1 hN h2 w;simp only[Gd]at e';let(O,O,O,O):=e';let(s,hs,hf):=some_of (f:=lk p q lo Yf w)<|j w os;let F:TW p q lo w.params s.abs=aM q lo:=A3o Prod.fst hf;let D:Yf s.abs=Ya w:=A3o Sg hf;let(l1,l2):=ja F;let r:=topRun_mono (N - (12+ (1+ (n+2)))) _ _ _ _<|nR (RA w os) (jU w) hs;rw[Nat.add_sub_cancel' hM]at r;let(z1,z2,z3):=hsz w.params;let t:topFrom NV p w N (nB w os)=Y s.abs:=by
  unfold topFrom;let z: ((nB w os).heap.isNs Ca&& (nB w os).gens.size==0)=true:=by change((Fs w.params).isNs Ca&&_)=Z;rw[z1];rfl
  rw[z]
  dsimp only
  rw[show(nB w os).heap.objs.size=11 from z2,show(nB w os).heap.nsMap Ca "__annotations__"=Mz from z3,r]
  dsimp only[Option.bind]
  rw[show(nB w os).heap=Fs w.params from O,l1]
 unfold openEnds;rw[e];change((topFrom NV p w N<|nB w os).map _)=_;rw[t];show A3o Y<|Prod.ext l2 D
end HL
namespace L2
open PySem PySem.Spec PyProof.Rows
abbrev Ib:=Sum Int AO
def aI:Ib->Ay->Bool|.inl k,v=>Value.isInt k v|.inr x,v=>Value.isStrOf x v
def O6(w:BP):Ib->Int|.inl k=>hashInt k|.inr x=>hashStr w x
def Fw:∀{k:Ib} {v:Ay},aI k v=Z->(∃i t,k=Sum.inl i/\v=FM i t)\/(∃x t,k=Sum.inr x/\v=Ma x t)
 |.inl i,v,h=>by
  let(t,e):=Value.isInt_shape (k:=i) (v:=v) h;show .inl {(i),t,O,e}
 |.inr x,v,h=>by
  let(t,e):=Value.isStrOf_shape (x:=x) (v:=v) h;show .inr {(x),t,O,e}
def pL(i:Int)(t:Tok):aI (.inl i) (.int i t)=true:=by simp[aI,Value.isInt]
def pK(x:AO)(t:Tok):aI (.inr x) (.str x t)=true:=by simp[aI,Value.isStrOf]
def O5(a b:Int):decide ((Sum.inl a:Ib)=Sum.inl b)=(a==b):=by
 by_cases e:a=b;·subst e;simp
 let h:¬ (Sum.inl a:Ib)=Sum.inl b:=λq=>e<|Sum.inl.inj q;rw[A3k h];show(beq_eq_false_iff_ne.mpr e).symm
def O2(a b:AO):decide ((Sum.inr a:Ib)=Sum.inr b)=decide (a=b):=by
 by_cases e:a=b;·subst e;simp
 let h:¬ (Sum.inr a:Ib)=Sum.inr b:=λq=>e<|RY q;rw[A3k h,A3k e]
def O4(a:Int)(b:AO):decide ((Sum.inl a:Ib)=Sum.inr b)=false:=A3k λq=>nomatch q
def O3(a:AO)(b:Int):decide ((Sum.inr a:Ib)=Sum.inl b)=false:=A3k λq=>nomatch q
noncomputable def Ea(prog:Bv)(w:BP):Ky prog w Ib where
 is:=aI
 hash:=O6 w
 inj:=λv a b ha F=>by
  rcases Fw ha with⟨i,t,rfl,rfl⟩|⟨x,t,rfl,rfl⟩
  ·rcases Fw F with⟨j,u,rfl,e⟩|⟨y,u,rfl,e⟩
   ·injection e with z _;rw[z]
   show nomatch e
  rcases Fw F with⟨j,u,rfl,e⟩|⟨y,u,rfl,e⟩;·show nomatch e
  injection e with z _;rw[z]
 byValue:=λk v h=>by
  rcases Fw h with⟨i,t,rfl,rfl⟩|⟨x,t,rfl,rfl⟩ <;> rfl
 pyHash:=λD h=>by
  rcases Fw D with⟨i,t,rfl,rfl⟩|⟨x,t,rfl,rfl⟩;·show wpAny_pyHash_int h
  show wpAny_pyHash_str h
 eqBool:=λU D h=>by
  rcases Fw U with⟨i,t,rfl,rfl⟩|⟨x,t,rfl,rfl⟩
  ·rcases Fw D with⟨j,u,rfl,rfl⟩|⟨y,u,rfl,rfl⟩
   ·rw[O5]at h;show wpAny_eqBool_int h
   rw[O4]at h;show SeqAt.EqAt.int_str i t y u _ _ _ _ h
  rcases Fw D with⟨j,u,rfl,rfl⟩|⟨y,u,rfl,rfl⟩;·rw[O3]at h;show SeqAt.EqAt.str_int x t j u _ _ _ _ h
  rw[O2]at h;show wpAny_eqBool_str h
 «strs»:=λk x t v h=>by
  rcases Fw h with⟨i,u,rfl,e⟩|⟨y,u,rfl,e⟩;·show nomatch e
  injection e with z _;subst z;cases v <;> rfl
def fZ(prog:Bv)(w:BP)(i:Int)(t:Tok): (Ea prog w).is (.inl i) (.int i t)=true:=pL i t
def Oy(prog:Bv)(w:BP)(x:AO)(t:Tok): (Ea prog w).is (.inr x) (.str x t)=true:=pK x t
inductive V where
 |non|bl (b:Bool)|int (i:Int)|str (x:AO)|byt (b:Array UInt8)|flt (b:UInt64)|ref (a:AH)|ty (n:String)
 deriving DecidableEq
def CZ:V->Ay->Prop|.non,u=>u=CT|.bl b,u=>u=CG b|.int i,u=>∃t,u=FM i t|.str x,u=>∃t,u=Ma x t|.byt b,u=>∃t,u=Value.bytes b t|.flt b,u=>∃t,u=XM b t|.ref a,u=>u=Value.ref a|.ty n,u=>u=DP n
abbrev CB:List V->List Ay->Prop:=Paired CZ
def CB.length{xs:List V}{us:List Ay}(r:CB xs us):xs.length=us.length:=br r
def CB.get:∀{xs:List V} {us:List Ay} {i:Nat} {x:V},CB xs us->xs[i]?=Y x->∃u,us[i]?=Y u/\CZ x u
 |_,_,_,_,.nil,e=>by simp at e|_,_,0,_,.cons r _,e=>by simp at e;subst e;show{(_),O,r}
 |_,_,i+1,x,.cons _ t,e=>by
  let(u,h1,h2):=CB.get (i:=i) (x:=x) t (by simpa using e);show{u,by simpa using h1,h2}
def CB.append:∀{xs ys:List V} {us ws:List Ay},CB xs us->CB ys ws->CB (xs++ys) (us++ws)|_,_,_,_,.nil,s=>s|_,_,_,_,.cons r t,s=>.cons r<|CB.append t s
def CB.take:∀{xs:List V} {us:List Ay} (n:Nat),CB xs us->CB (xs.take n) (us.take n)|_,_,0,_=>.nil|_,_,_+1,.nil=>.nil|_,_,n+1,.cons r t=>.cons r<|CB.take n t
def CB.drop:∀{xs:List V} {us:List Ay} (n:Nat),CB xs us->CB (xs.drop n) (us.drop n)|_,_,0,r=>r|_,_,_+1,.nil=>.nil|_,_,n+1,.cons _ t=>CB.drop n t
def Lc:Option V->Option Ay->Prop|some v,some u=>CZ v u|none,none=>True|_,_=>False
def KV{κ:Type}:List (κ×V)->List (κ×Ay)->Prop:=Paired λ(p:κ×V) (q:κ×Ay)=>p.1=q.1/\CZ p.2 q.2
def kV:Ib->V|.inl i=>.int i|.inr x=>.str x
inductive HO where
 |lst (xs:List V)|tup (xs:List V)|dK (kvs:List (Ib×V))|dT (kvs:List (List Ib×V))|set (Sq:Int->Bool) (n:Nat)|ins (C dx:AH) (fs:List (AO×V))|own (x:AH)|xd (fs:List (AO×V))|met (f x:AH)|rng (lo hi:Int)|frz (o:Obj) (u:HO)|tbl (ps:Array Ay)|ext (φ:CA->Prop)
abbrev Hp:=AH->Option HO
def upd(H:Hp)(a:AH)(o:HO):Hp:=λb=>if b=a then Y o else H b
def Ax{H:Hp}{a:AH}{o:HO}:upd H a o a=Y o:=by unfold upd;rw[A3n O]
def AT{H:Hp}{a b:AH}{o:HO}(h:b≠a):upd H a o b=H b:=by unfold upd;rw[A3m h]
def Lp{H:Hp}{a:AH}{o u:HO}:upd (upd H a o) a u=upd H a u:=by funext b;unfold upd;split <;> rfl
def fX{H:Hp}{a b:AH}{o u:HO}(h:H a=Y o)(h':H b=Y u)(d:o≠u):a≠b:=by intro e;subst e;rw[h]at h';show d<|AK h'
def Bp{H:Hp}{a b:AH}{o:HO}(h:H a=Y o)(h':H b=S):a≠b:=by intro e;subst e;rw[h]at h';cases h'
section
variable(P:Bv)(w:BP)
def Dk(H:Hp)(h:CA)(a:AH):HO->Prop|.lst xs=>xs.length<=sizeLine/\∃(j:List Ay) (n:Nat),CB xs j/\h.get? a=Y {cls:=.type "list",data:=.seq j.toArray n}|.tup xs=>xs.length<=sizeLine/\∃j:List Ay,CB xs j/\IsTup h a j.toArray|.dK kvs=>kvs.length<=sizeLine/\(a==GE)=ge/\∃vs,KV kvs vs/\h.DictOf (Ea P w) a vs|.dT kvs=>kvs.length<=sizeLine/\(a==GE)=ge/\∃xs:List (List Ib×AH×Ay),Paired (λ(p:List Ib×V) (q:List Ib×AH×Ay)=>p.1=q.1/\H q.2.1=Y (.tup<|p.1.map kV)/\CZ p.2 q.2.2) kvs xs/\∃o es z,h.get? a=Y o/\o.ExactDict/\o.data= .dict es z/\es.toList=xs.map (entryOfKey<|Yp (Ea P w))/\(xs.map (·.1)).Nodup|.set Sq n=>h.SetOf (intKind P w) a Sq n|.ins C dx fs=>H dx=Y (.own a)/\fs.length<=1000/\dx≠a/\h.get? a=Y (CU C dx)/\∃mA,h.Ns1 dx mA/\(∀f,Lc (fs.lookup f)<|mA f)/\PySem.Within mA (fs.map (·.1))|.own _=>∃o,h.get? a=Y o|.xd fs=>∃mA,h.Ns1 a mA/\∀f,Lc (fs.lookup f)<|mA f|.rng lo hi=>∃t u v,h.get? a=Y {cls:=.type "range",data:=.fields #[.int lo t,.int hi u,.int 1 v]}|.frz o u=>h.get? a=Y o/\Dk H h a u|.tbl ps=>h.get? a=Y {cls:=.none,data:=.fields ps}|.met f x=>h.get? a=Y (XQ (.ref f)<|.ref x)|.ext φ=>φ h/\(∃o,h.get? a=Y o)/\∀h1 h2:CA,φ h1->(∀o,h1.get? a=Y o->h2.get? a=Y o)->φ h2
def Jr(H:Hp)(h:CA):Prop:=∀a o,H a=Y o->Dk P w H h a o
end
section
variable{P:Bv}{w:BP}{H H':Hp}{h h':CA}{a:AH}{o:HO}
def Dk.lt(x:Dk P w H h a o):a<h.objs.size:=by cases o with|lst xs=>let(_,_,_,_,e):=x;show Bs e|tup xs=>let(_,_,_,p):=x;show p.lt|dK kvs=>let(_,_,_,_,o,_,_,e,_):=x;show Bs e|dT kvs=>let(_,_,_,_,o,_,_,e,_):=x;show Bs e|set Sq n=>let(o,_,_,_,e,_):=x;show Bs e|ins C dx fs=>let(_,_,_,e,_):=x;show Bs e|own y=>let(_,e):=x;show Bs e|xd fs=>let(_,(_,_,_,e,_),_):=x;show Bs e|rng lo hi=>let(_,_,_,e):=x;show Bs e|frz ob u=>let(e,_):=x;show Bs e|tbl ps=>show Bs<|show h.get? a=Y _ from x|met f y=>show Bs<|show h.get? a=Y _ from x|ext φ=>let(_,(_,e),_):=x;show Bs e
def Paired.mapP{U D:Type}{F G:U->D->Prop}:∀{z:List U} {j:List D},Paired F z j->(∀a b,F a b->G a b)->Paired G z j|_,_,.nil,_=>.nil|_,_,.cons r t,f=>.cons (f _ _ r)<|Paired.mapP t f
def Paired.imp'{U D:Type}{F G:U->D->Prop}(f:∀a b,F a b->G a b){z:List U}{j:List D}(r:Paired F z j):Paired G z j:=Paired.mapP r f
def Dk.stay(x:Dk P w H h a o)(k:∀b u,(b=a\/H b=Y (.own a))->h.get? b=Y u->h'.get? b=Y u)(ho:∀b,H b=Y (.own a)->H' b=Y (.own a))(U:∀b xs,H b=Y (.tup xs)->H' b=Y (.tup xs)):Dk P w H' h' a o:=by
 induction o with
 |lst xs=>let(z,D,n,r,e):=x;show{z,D,n,r,k _ _ (.inl O) e}|tup xs=>let(z,D,r,ob,e,c):=x;show{z,D,r,ob,k _ _ (.inl O) e,c}|dK kvs=>let(z,y,vs,r,ob,es,j,e,c):=x;show{z,y,vs,r,ob,es,j,k _ _ (.inl O) e,c}
 |dT kvs=>
  let(z,y,xs,r,ob,es,j,e,c):=x;show{z,y,xs,Paired.mapP r λp q z=>{z.1,U _ _ z.2.1,z.2.2},ob,es,j,k _ _ (.inl O) e,c}
 |set Sq n=>let(ob,es,j,t,e,c):=x;show{ob,es,j,t,k _ _ (.inl O) e,c}
 |ins C dx fs=>
  let(d,z,ne,e,mA,(od,es,j,e2,c),r):=x;show{ho _ d,z,ne,k _ _ (.inl O) e,mA,{od,es,j,k _ _ (.inr d) e2,c},r}
 |own y=>let(ob,e):=x;show{ob,k _ _ (.inl O) e}|xd fs=>let(mA,(od,es,j,e,c),r):=x;show{mA,{od,es,j,k _ _ (.inl O) e,c},r}|rng lo hi=>let(t,u,v,e):=x;show{t,u,v,k _ _ (.inl O) e}|frz ob u F=>let(e,q):=x;show{k _ _ (.inl O) e,F q}
 |tbl ps=>
  let e:h.get? a=Y {cls:=.none,data:=.fields ps}:=x;change h'.get? a=Y {cls:=.none,data:=.fields ps};show k a _ (.inl O) e
 |met f y=>
  let e:h.get? a=Y (XQ (.ref f)<|.ref y):=x;change h'.get? a=Y (XQ (.ref f)<|.ref y);show k a _ (.inl O) e
 |ext φ=>let(p,(o,e),st):=x;show{st _ _ p λo q=>k _ _ (.inl O) q,{o,k _ _ (.inl O) e},st}
def Jr.lt(x:Jr P w H h)(e:H a=Y o):a<h.objs.size:=(x a o e).lt
def Jr.fresh(x:Jr P w H h)(e:h.objs.size<=a):H a=none:=by cases q:H a with|none=>rfl|some u=>show A3p (BK (x.lt q) e)<|DO _
def Jr.kept(x:Jr P w H h)(k:∀b u,h.get? b=Y u->h'.get? b=Y u):Jr P w H h':=λa o e=>
 (x a o e).stay (λb u _ q=>k b u q) (λ_ q=>q) λ_ _ q=>q
def Jr.laid(x:Jr P w H h)(k:∀b u,h.get? b=Y u->h'.get? b=Y u)(hp:h.objs.size<=a)(new:Dk P w (upd H a o) h' a o):Jr P w (upd H a o) h':=λb u e=>by
 let hn:=x.fresh hp;by_cases j:b=a;·subst j;rw[Ax]at e;cases e;show new
 rw[AT j]at e;show(x b u e).stay (λc v _ q=>k c v q) (λc q=>by rw[AT (Bp q hn)];show q) λc xs q=>by rw[AT (Bp q hn)];show q
end
def Rd(H:Hp)(a:AH)(u:HO):Prop:=H a=Y u\/∃o,H a=Y (.frz o u)
def Rd.ok{P:Bv}{w:BP}{H:Hp}{h:CA}{a:AH}{u:HO}(r:Rd H a u)(x:Jr P w H h):Dk P w H h a u:=by
 rcases r with r|⟨o,r⟩;·show x a u r
 let(_,q):=x a _ r;show q
def Mut:Option HO->Prop|some (.lst _)=>True|some (.dK _)=>True|some (.dT _)=>True|some (.set _ _)=>True|some (.ins _ _ _)=>True|some (.xd _)=>True|some (.ext _)=>True|_=>False
section
variable{P:Bv}{w:BP}{H:Hp}{h h':CA}{x e:AH}{o':HO}
def Jr.write(ok:Jr P w H h)(U:Mut (H x))(he:e=x\/H e=Y (.own x))(k:∀b u,b≠e->h.get? b=Y u->h'.get? b=Y u)(a2:∃u,h'.get? e=Y u)(new:Dk P w (upd H x o') h' x o'):Jr P w (upd H x o') h':=λb u q=>by
 let D:∀c y,H c=Y (.own y)->c≠x:=λc y r z=>by subst z;rw[r]at U;show U
 let F:∀c xs,H c=Y (.tup xs)->c≠x:=λc xs r z=>by subst z;rw[r]at U;show U
 by_cases hb:b=x;·subst hb;rw[Ax]at q;cases q;show new
 rw[AT hb]at q;by_cases j:b=e
 ·let q':H b=Y (.own x):=by
   rcases he with z|z;·show A3p (j.trans z) hb
   rw[j];show z
  rw[q]at q';cases q';let(v,hv):=a2;show{v,by rw[j];show hv}
 show(ok b u q).stay (λc v hc r=>k c v ?_ r) (λc r=>by rw[AT (D c b r)];show r) λc xs r=>by rw[AT (F c xs r)];show r
 rcases hc with rfl|hc;·show j
 rintro rfl;rcases he with z|z;·show D c b hc z
 rw[hc]at z;cases z;show hb O
end
structure Un(fs ex:List AH)(H H':Hp)(h h':CA):Prop where
 keep:∀b o,h.get? b=Y o->H b=S->b∉fs->b∉ex->h'.get? b=Y o
 slot:∀b o,h.get? b=Y o->H b=S->b∈fs->b∉ex->∃sl,h'.get? b=Y {o with slots:=sl}
 free:∀b o,h.get? b=Y o->H b=S->b∉ex->H' b=S
 there:∀b o,h.get? b=Y o->b∉ex->∃o',h'.get? b=Y o'
 tups:∀b xs,H b=Y (.tup xs)->H' b=Y (.tup xs)
 frzs:∀b o u,H b=Y (.frz o u)->H' b=Y (.frz o u)
 tbls:∀b ps,H b=Y (.tbl ps)->∃more,H' b=Y (.tbl<|ps++more)
section
variable{fs fs' ex ex':List AH}{H H1 H2:Hp}{h h1 h2 h':CA}{a x e:AH}{o:HO}
def Un.any(u:Un fs ex H H1 h h1){b:AH}{ob:Obj}(q:h.get? b=Y ob)(n:H b=S)(hx:b∉ex):∃sl,h1.get? b=Y {ob with slots:=sl}:=by
 by_cases j:b∈fs;·show u.slot b ob q n j hx
 show{ob.slots,u.keep b ob q n j hx}
def Un.kept(k:∀b u,h.get? b=Y u->h'.get? b=Y u):Un fs ex H H h h':={λb ob q _ _ _=>k b ob q,λb ob q _ _ _=>{ob.slots,k b ob q},λ_ _ _ n _=>n,λb ob q _=>{ob,k b ob q},λ_ _ q=>q,λ_ _ _ q=>q,λ_ ps q=>{#[],by rw[q];simp}}
def Un.refl:Un fs ex H H h h:=Un.kept λ_ _ q=>q
def Un.laid(k:∀b u,h.get? b=Y u->h'.get? b=Y u)(hp:h.objs.size<=a)(hn:H a=S):Un fs ex H (upd H a o) h h' where
 keep:=λb u q _ _ _=>k b u q
 slot:=λb u q _ _ _=>{u.slots,k b u q}
 free:=λb u q n _=>by rw[AT (BH<|BK (Bs q) hp)];show n
 there:=λb u q _=>{u,k b u q}
 tups:=λb xs q=>by rw[AT (Bp q hn)];show q
 frzs:=λb u xs q=>by rw[AT (Bp q hn)];show q
 tbls:=λb ps q=>{#[],by rw[AT (Bp q hn),q];simp}
def Un.write(D:Mut (H x))(he:e=x\/H e=Y (.own x))(k:∀b u,b≠e->h.get? b=Y u->h'.get? b=Y u)(F:∃u,h'.get? e=Y u):Un fs ex H (upd H x o) h h':=by
 let hx:∀b,H b=S->b≠x:=λb n z=>by subst z;rw[n]at D;show D
 let U:∀b,H b=S->b≠e:=λb n z=>by
  subst z;rcases he with r|r;·show hx b n r
  rw[n]at r;cases r
 let hm:∀b u,H b=Y u->¬Mut (Y u)->b≠x:=λb u q nm z=>by subst z;rw[q]at D;show nm D
 show{λb u q n _ _=>k b u (U b n) q,λb u q n _ _=>{u.slots,k b u (U b n) q},λb u q n _=>by rw[AT (hx b n)];show n,λb u q _=>?_,λb xs q=>by rw[AT (hm b _ q λz=>z)];show q,λb u xs q=>by rw[AT (hm b _ q λz=>z)];show q,λb ps q=>{#[],by rw[AT (hm b _ q λz=>z),q];simp}};by_cases j:b=e;·subst j;show F
 show{u,k b u j q}
end
def trk(h:CA)(H:Hp):List AH:=(Bg h.objs.size).filter λa=>(H a).isSome
def cG(h:CA)(H:Hp):CA:=Hg h<|trk h H
def pR(h:CA)(H:Hp): (cG h H).objs.size=h.objs.size:=PySem.W.hideAll_size _ _
def uT{h:CA}{H:Hp}{b:AH}{o:Obj}(e:h.get? b=Y o)(n:H b=S): (cG h H).get? b=Y o:=LA _ e λhm=>by
  let q: (H b).isSome=true:=(Eg.mp hm).2;rw[n]at q;simp at q
def yn{h:CA}{H:Hp}{b:AH}{o:Obj}(e: (cG h H).get? b=Y o):h.get? b=Y o/\H b=none:=by
 let j:h.get? b=Y o:=PySem.W.of_hideAll (trk h H) e;show{j,?_};cases q:H b with
 |none=>rfl
 |some x=>
  let hm:b∈trk h H:=Eg.mpr {Dv.mpr<|Bs j,by simp[q]};let z: (cG h H).get? b=none:=Sd (trk h H) hm;rw[z]at e;cases e
def zD(g h:CA)(L:AH):List (AH×Obj):=(Bg h.objs.size).filterMap λa=>if a=L\/(g.get? a).isSome=Z then S else (h.get? a).map λo=>(a,o)
def rest(g h:CA)(L d:AH):List (AH×Obj):=(zD g h L).filter λp=>decide (p.1≠d)
structure Mod(K:Az)(mg:AO->Option Ay)(base:CA):Prop where
 kin:K.In base
 glob:base.Ns Ca mg
 blt:∃mb,base.Ns OO mb/\∀x:AO,x≠ "__name__" ->mb x=Cf x
 nolimit:base.NoLimit
abbrev JI(cls:Ay)(dx:Option AH)(a0 tb:Ay):Obj:={cls:=cls,dict:=dx,data:=.fields #[a0,tb,.none,.none,.bool ge,.none]}
def wN(e:AH)(ob:Obj):HO:=.frz ob<|.ext λh=>h.get? e=Y ob
def Hd(A:CH)(H:Hp):Prop:=∃e cls dx a0 tb,A.handled=Y (.ref e)/\H e=Y (wN e<|JI cls dx a0 tb)
structure Cx where
 prog:Bv
 w:BP
 K:Az
 mg:AO->Option Ay
 base:CA
 A:CH
 N:List AO
 s_:AJ
 H_:Hp
 env:Env
 outer:List Env
 stack:List Env
 ex:List AH
 fn:AO->Bool
 calm:Bool
 suit:Bool
 pn:List (AH×Obj)
 xe:Ay->AJ->Prop
def NT(l:List Env):List AH:=l.filterMap (·.frame)
abbrev Cx.fs(X:Cx):List AH:=NT X.outer
def Vis(sc:Scope)(x:AO):Prop:=sc.names.lookup x=Y .local\/sc.names.lookup x=Y .cell\/sc.names.lookup x=Y .free
def V8(sc:Scope)(x:AO):Prop:=sc.names.lookup x=Y .local\/sc.names.lookup x=Y .cell
def A2k(env:Env)(h:CA)(m:AO->Option Ay)(x:AO)(u:Ay):Prop:=(env.kindOf x=Y .local/\m x=Y u)\/((env.kindOf x=Y .cell\/env.kindOf x=Y .free)/\∃c,env.cells.lookup x=Y c/\h.IsCell c (Y u))
structure Cx.Ok(X:Cx):Prop where
 mod:Mod X.K X.mg X.base
 kind:X.env.scope.kind= .function
 glob:X.env.globals=Ca
 blt:X.env.builtins=OO
 above:X.s_.heap.objs.size<=X.env.locals
 inj:∀x y c,X.env.cells.lookup x=Y c->X.env.cells.lookup y=Y c->x=y
 has:∀x,(X.env.kindOf x=Y .cell\/X.env.kindOf x=Y .free)->∃c,X.env.cells.lookup x=Y c
 cab:∀x c,X.fn x=Z->X.env.cells.lookup x=Y c->X.s_.heap.objs.size<=c
 hd:X.calm=Z->X.A.handled=S
 frames:X.A.frames=Y X.stack
 stk:X.stack=X.outer\/(X.stack=X.env::X.outer/\X.env.frame=Y X.env.locals)
 exf:∀b∈X.ex,b≠X.env.locals/\∀x c,X.env.cells.lookup x=Y c->c≠b
 bs:∀b o,X.base.get? b=Y o->X.s_.heap.get? b=Y o/\X.H_ b=S
 bsz:X.base.objs.size<=X.s_.heap.objs.size
 noex:∀b o,X.base.get? b=Y o->b∉X.ex
 exfs:∀b∈X.ex,b∉X.fs
 funs:X.s_.heap.FunFrames X.base X.outer
 frf:∀b∈X.fs,X.H_ b=S
 hs:X.suit=Z->Hd X.A X.H_
structure Ck(X:Cx)(pZ:List (AH×Obj))(σ:List (Option V))(H:Hp)(s:AJ):Prop where
 ok:X.Ok
 os:s.os=X.s_.os
 bare:UL s.gens
 base:Un X.fs X.ex X.H_ H X.s_.heap s.heap
 loc:∃m,s.heap.Ns X.env.locals m/\∀(i:Nat) (x:AO) (v:V),X.N[i]?=Y x->σ[i]?=Y (Y v)->Vis X.env.scope x->∃u,CZ v u/\A2k X.env s.heap m x u
 cell:∀x c,X.env.cells.lookup x=Y c->∃v,s.heap.IsCell c v
 free:H X.env.locals=S
 freeC:∀x c,X.env.cells.lookup x=Y c->H c=S
 pin:∀p∈X.pn++pZ,s.heap.get? p.1=Y p.2/\H p.1=S/\p.1≠X.env.locals/\p.1∉X.fs/\∀v,p.2.data≠ .cell v
 hok:Jr X.prog X.w H s.heap
 len:σ.length=X.N.length
section
variable{X:Cx}{pZ:List (AH×Obj)}{σ:List (Option V)}{H H':Hp}{s:AJ}{h':CA}
def Cx.Ok.nofr(ok:X.Ok){b:AH}{o:Obj}(e:X.base.get? b=Y o):b∉X.fs:=λj=>by
 have:=(ok.funs.mem j).1;rw[e]at this;cases this
def Ck.bs(I:Ck X pZ σ H s):∀b o,X.base.get? b=Y o->s.heap.get? b=Y o/\H b=none:=λb o e=>
 {I.base.keep b o (I.ok.bs b o e).1 (I.ok.bs b o e).2 (I.ok.nofr e)<|I.ok.noex b o e,I.base.free b o (I.ok.bs b o e).1 (I.ok.bs b o e).2<|I.ok.noex b o e}
def Ck.bk(I:Ck X pZ σ H s):∀b o,X.base.get? b=Y o->s.heap.get? b=Y o:=λb o e=>(I.bs b o e).1
def Ck.mod(I:Ck X pZ σ H s):Mod X.K X.mg X.base:=I.ok.mod
def Ck.kIn(I:Ck X pZ σ H s):X.K.In s.heap:=I.ok.mod.kin.keeps I.bk
def Ck.lt(I:Ck X pZ σ H s):X.env.locals<↑s:=let ⟨_,hn,_⟩:=I.loc;hn.lt
def Ck.sz(I:Ck X pZ σ H s):X.s_.heap.objs.size<=↑s:=AR I.ok.above<|GL I.lt
def Ck.nofs(I:Ck X pZ σ H s){a:AH}(h:↑s<=a):a∉X.fs:=λz=>by
 let(_,o,j,_):=I.ok.funs.mem z;show A3p (BK (Bs j)<|AR I.sz h)<|DO _
def Ck.cne(I:Ck X pZ σ H s):∀x c,X.env.cells.lookup x=Y c->c≠X.env.locals:=λx c e z=>by
 let(v,o,F,hd):=I.cell x c e;let(m,(o',es,U,j,D,_),_):=I.loc;rw[z,j]at F;cases F;rw[D]at hd;cases hd
def Ck.funs(I:Ck X pZ σ H s):s.heap.FunFrames X.base X.outer:=by
 let all:∀(l:List Env),(∀b∈NT l,b∈X.fs)->X.s_.heap.FunFrames X.base l->s.heap.FunFrames X.base l:=by
  intro l;induction l with
  |nil=>intro _ _;trivial
  |cons env r F=>
   intro hs hl;let(hk,(L,o,hf,hn,ho,hd),U):=hl;let D:L∈X.fs:=hs L (by unfold NT;rw[Fe,hf];show Bl);let(sl,e):=I.base.slot L o ho (I.ok.frf L D) D λz=>I.ok.exfs L z D;show{hk,{(L),_,hf,hn,e,hd},F (λb j=>hs b<|by unfold NT;rw[Fe,hf];show Bi _ j) U}
 show all X.outer (λ_ j=>j) I.ok.funs
def Ck.stack(I:Ck X pZ σ H s):s.heap.FunFrames X.base X.stack:=by
 rcases I.ok.stk with e|⟨e,hf⟩;·rw[e];show I.funs
 rw[e];let(m,hn,_):=I.loc;show .cons (by rw[I.ok.kind];decide) hf hn ?_ I.funs;show Yh<|AR I.ok.bsz I.ok.above
def Ck.stkSub(I:Ck X pZ σ H s):∀b∈NT X.stack,b∈X.env.locals::X.fs:=λb j=>by
 rcases I.ok.stk with e|⟨e,hf⟩;·rw[e]at j;show Bi _ j
 rw[e]at j;unfold NT at j;rw[Fe,hf]at j;show j
def Ck.stkFree(I:Ck X pZ σ H s):∀b∈NT X.stack,H b=none:=λb j=>by
 rcases AM.mp (I.stkSub b j)with e|j;·rw[e];show I.free
 let(_,o,D,_):=I.ok.funs.mem j;show I.base.free b o D (I.ok.frf b j) λz=>I.ok.exfs b z j
def Ck.step{g':Array GenState}{t':Nat}{d':Drawn}{ch:List AH}(I:Ck X pZ σ H s)(D:∀b∈ch,(b∈X.ex\/X.s_.heap.objs.size<=b)/\b≠X.env.locals/\(∀x c,X.env.cells.lookup x=Y c->c≠b)/\∀p∈X.pn++pZ,p.1≠b)(keep:∀b o,b≠X.env.locals->b∉X.fs->b∉ch->s.heap.get? b=Y o->H b=S->h'.get? b=Y o)(slot:∀b o,b≠X.env.locals->b∈X.fs->b∉ch->s.heap.get? b=Y o->H b=S->∃sl,h'.get? b=Y {o with slots:=sl})(free:∀b o,b∉ch->s.heap.get? b=Y o->H b=S->H' b=S)(there:∀b o,b∉ch->s.heap.get? b=Y o->∃o',h'.get? b=Y o')(tups:∀b xs,H b=Y (.tup xs)->H' b=Y (.tup xs))(frzs:∀b o u,H b=Y (.frz o u)->H' b=Y (.frz o u))(tbls:∀b ps,H b=Y (.tbl ps)->∃more,H' b=Y (.tbl<|ps++more))(ns:∀m,s.heap.Ns X.env.locals m->h'.Ns X.env.locals m)(hok:Jr X.prog X.w H' h')(hg:UL g'):
  Ck X pZ σ H' {s with heap:=h',gens:=g',drawn:=d',toks:=t'}:=by
 let a4:∀b o,X.s_.heap.get? b=Y o->b≠X.env.locals:=λb o e=>BH<|BK (Bs e) I.ok.above;let U:∀b o,X.s_.heap.get? b=Y o->b∉X.ex->b∉ch:=λb o e hx hb=>by
  rcases(D b hb).1 with z|z;·show hx z
  show A3p (BK (Bs e) z)<|DO _
 let F:∀x c,X.env.cells.lookup x=Y c->∀v,s.heap.IsCell c v->h'.IsCell c v:=λx c e v a5=>by
  let(o,ho,hd):=a5;let j:c∉ch:=λz=>(D c z).2.2.1 x c e O;by_cases hc:c∈X.fs;·let(sl,q):=slot c o (I.cne x c e) hc j ho<|I.freeC x c e;show{(_),q,hd}
  show{o,keep c o (I.cne x c e) hc j ho<|I.freeC x c e,hd}
 show{I.ok,I.os,hg,{λb o e n hb hx=>?_,λb o e n hb hx=>?_,λb o e n hx=>?_,λb o e hx=>?_,λb xs e=>tups b xs<|I.base.tups b xs e,λb o xs e=>frzs b o xs<|I.base.frzs b o xs e,λb ps e=>?_},?_,λx c e=>?_,?_,λx c e=>?_,λp hp=>?_,hok,I.len};·show keep b o (a4 b o e) hb (U b o e hx) (I.base.keep b o e n hb hx)<|I.base.free b o e n hx
 ·let(sl,e1):=I.base.slot b o e n hb hx;let(a7,e2):=slot b _ (a4 b o e) hb (U b o e hx) e1<|I.base.free b o e n hx;show{(a7),e2}
 ·let(o',e1):=I.base.there b o e hx;show free b o' (U b o e hx) e1<|I.base.free b o e n hx
 ·let(o',e1):=I.base.there b o e hx;show there b o' (U b o e hx) e1
 ·let(m1,e1):=I.base.tbls b ps e;let(m2,e2):=tbls b _ e1;show{m1++m2,by rw[e2,Array.append_assoc]}
 ·let(m,hn,hl):=I.loc;show{m,ns m hn,λi x v e1 e2 e3=>?_};let(u,r,l):=hl i x v e1 e2 e3;show{u,r,?_};rcases l with l|⟨k,c,e,z⟩
  ·show .inl l
  show .inr {k,c,e,F x c e _ z}
 ·let(v,z):=I.cell x c e;show{v,F x c e v z}
 ·let(m,(o,_,_,ho,_),_):=I.loc;show free _ o (λz=>(D _ z).2.1 O) ho I.free
 ·let(v,o,ho,hd):=I.cell x c e;show free c o (λz=>(D c z).2.2.1 x c e O) ho<|I.freeC x c e
 let(e,n,ne,nf,d):=I.pin p hp;let j:p.1∉ch:=λz=>(D p.1 z).2.2.2 p hp O;show{keep p.1 p.2 ne nf j e n,free p.1 p.2 j e n,ne,nf,d}
def Ck.un{t':Nat}(I:Ck X pZ σ H s)(u:Un X.fs [] H H' s.heap h')(hok:Jr X.prog X.w H' h'):Ck X pZ σ H' {s with heap:=h',toks:=t'}:=by
 let(m,(o,es,ep,U,r),_):=id I.loc;let(sl,hL):=u.any U I.free (by simp);show I.step (g':=s.gens) (d':=s.drawn) (ch:=[]) (λ_ z=>nomatch z) (λb o _ D _ e n=>u.keep b o e n D<|by simp) (λb o _ D _ e n=>u.slot b o e n D<|by simp) (λb o _ e n=>u.free b o e n<|by simp) (λb o _ e=>u.there b o e<|by simp) u.tups u.frzs u.tbls (λm' hm=>by
  let(o',es',F,j,r'):=hm;rw[U]at j;cases j;show{(_),es',F,hL,r'}) hok I.bare
def Ck.call{g':Array GenState}{t':Nat}{d':Drawn}{ch:List AH}(I:Ck X pZ σ H s)(u:Un (NT X.stack) ch H H' s.heap h')(hok:Jr X.prog X.w H' h')(hg:UL g')(D:∀b∈ch,(b∈X.ex\/X.s_.heap.objs.size<=b)/\b≠X.env.locals/\(∀x c,X.env.cells.lookup x=Y c->c≠b)/\∀p∈X.pn++pZ,p.1≠b):
  Ck X pZ σ H' {s with heap:=h',gens:=g',drawn:=d',toks:=t'}:=by
 let(m,(o,es,ep,ho,r),_):=id I.loc;let(sl,F):=u.any ho I.free λz=>(D _ z).2.1 O;show I.step (ch:=ch) D (λb o F hb hc e n=>u.keep b o e n (λz=>(AM.mp<|I.stkSub b z).elim F hb) hc) (λb o _ _ hc e n=>u.any e n hc) (λb o hc e n=>u.free b o e n hc) (λb o hc e=>u.there b o e hc) u.tups u.frzs u.tbls (λm' hm=>by
  let(o',es',U,j,r'):=hm;rw[ho]at j;cases j;show{(_),es',U,F,r'}) hok hg
def Ck.turned{t':Nat}{it:AH}(I:Ck X pZ σ H s)(k:∀b o,b≠it->s.heap.get? b=Y o->h'.get? b=Y o)(hn:H it=S)(D:it≠X.env.locals)(h1:it∈X.ex\/X.s_.heap.objs.size<=it)(h2:∀x c,X.env.cells.lookup x=Y c->c≠it)(h3:∀p∈X.pn++pZ,p.1≠it):Ck X pZ σ H {s with heap:=h',toks:=t'}:=by
 let j:∀b u,H b=Y u->b≠it:=λb u e z=>by rw[z,hn]at e;cases e
 show I.step (g':=s.gens) (d':=s.drawn) (ch:=[it]) (λb U=>?_) (λb o _ _ hc e _=>k b o (λz=>hc<|by simp[z]) e) (λb o _ _ hc e _=>{o.slots,k b o (λz=>hc<|by simp[z]) e}) (λ_ _ _ _ n=>n) (λb o hc e=>{o,k b o (λz=>hc<|by simp[z]) e}) (λ_ _ e=>e) (λ_ _ _ e=>e) (λb ps e=>{#[],by rw[e];simp}) (λm hm=>?_) (λb u e=>?_) I.bare
 ·let e:b=it:=by simpa using U
  subst e;show{(h1),D,h2,h3}
 ·let(o,es,ep,F,r):=hm;show{o,es,ep,k _ o (CI D) F,r}
 show(I.hok b u e).stay (λc v hc q=>k c v ?_ q) (λ_ q=>q) λ_ _ q=>q;rcases hc with z|z;·rw[z];show j b u e
 show j c _ z
def Ck.tok(I:Ck X pZ σ H s)(t:Nat):Ck X pZ σ H {s with toks:=t}:=I.un (h':=s.heap) (t':=t) Un.refl I.hok
def Ck.kept{t':Nat}(I:Ck X pZ σ H s)(k:∀b u,s.heap.get? b=Y u->h'.get? b=Y u):Ck X pZ σ H {s with heap:=h',toks:=t'}:=I.un (Un.kept k)<|I.hok.kept k
def Ck.laid{a:AH}{o:HO}{t':Nat}(I:Ck X pZ σ H s)(k:∀b u,s.heap.get? b=Y u->h'.get? b=Y u)(hp:↑s<=a)(new:Dk X.prog X.w (upd H a o) h' a o):
  Ck X pZ σ (upd H a o) {s with heap:=h',toks:=t'}:=I.un (Un.laid k hp<|I.hok.fresh hp)<|I.hok.laid k hp new
def Ck.write{x e:AH}{o:HO}{t':Nat}(I:Ck X pZ σ H s)(z:Mut (H x))(D:e=x\/H e=Y (.own x))(k:∀b u,b≠e->s.heap.get? b=Y u->h'.get? b=Y u)(j:∃u,h'.get? e=Y u)(new:Dk X.prog X.w (upd H x o) h' x o):Ck X pZ σ (upd H x o) {s with heap:=h',toks:=t'}:=I.un (Un.write z D k j)<|I.hok.write z D k j new
def Ck.weak{σ':List (Option V)}(I:Ck X pZ σ H s)(z:σ'.length=σ.length)(w:∀(i:Nat) v,σ'[i]?=Y (Y v)->σ[i]?=Y (Y v)):Ck X pZ σ' H s:={I.ok,I.os,I.bare,I.base,let ⟨m,hn,j⟩:=I.loc;{m,hn,λi x v U F D=>j i x v U (w i v F) D},I.cell,I.free,I.freeC,I.pin,I.hok,z.trans I.len}
def Ck.pins_of{j:List (AH×Obj)}(I:Ck X pZ σ H s)(h:∀p∈j,s.heap.get? p.1=Y p.2/\H p.1=S/\p.1≠X.env.locals/\p.1∉X.fs/\∀v,p.2.data≠ .cell v):Ck X j σ H s:={I.ok,I.os,I.bare,I.base,I.loc,I.cell,I.free,I.freeC,λp hp=>(Bt.mp hp).elim (λz=>I.pin p<|Cu _ z)<|h p,I.hok,I.len}
def fW{N:List AO}(z:N.Nodup){i j:Nat}{x:AO}(a:N[i]?=Y x)(b:N[j]?=Y x):i=j:=by let(h1,F):=AQ.mp a;let(h2,D):=AQ.mp b;show(List.getElem_inj z).mp (F.trans D.symm)
def af{M:Model}{A:CH}{E:Ay->AJ->Prop}{i:Nat}{x:AO}{v:V}{u:Ay}{Q:Unit->AJ->Prop}(I:Ck X pZ σ H s)(hN:X.N.Nodup)(hi:X.N[i]?=Y x)(hx:V8 X.env.scope x)(r:CZ v u)(h:∀s',Ck X pZ (σ.set i<|Y v) H s'->(∃a,NP a s.heap s'.heap/\(a=X.env.locals\/X.env.cells.lookup x=Y a))->Q Unit.unit s')(hf:X.fn x=Z\/X.env.scope.names.lookup x=Y .local:=by first|show .inl rfl|show .inr rfl|assumption):Bz M A (storeName X.env x u) Q E s:=by
 let(m,hn,hl):=id I.loc;let a9: (X.env.scope.kind== .class|| (X.env.scope.kind== .module&&X.env.locals != X.env.globals))=false:=by rw[I.ok.kind];rfl
 let a3:i<σ.length:=by rw[I.len];show(AQ.mp hi).1
 let cne:=I.cne;let D:∀{a:AH} {h':CA},(∃o,s.heap.get? a=Y o/\H a=S)->NP a s.heap h'->Jr X.prog X.w H h':=λ{a h'} ha hs b ob e=>by
  let(_,_,U):=ha;show(I.hok b ob e).stay (λc w' hc q=>(hs.2 c ?_).trans q) (λ_ q=>q) λ_ _ q=>q;rintro rfl;rcases hc with rfl|hc;·rw[U]at e;cases e
  rw[U]at hc;cases hc
 rcases hx with hk|hk
 ·show wpAny_storeName_local hk hn (λh' b8 hs=>?_) a9;let(oL,_,_,b7,_):=id hn;show h _ {I.ok,I.os,I.bare,{λb o e n hb hx=>?_,λb o e n hb hx=>?_,I.base.free,λb o e hx=>?_,I.base.tups,I.base.frzs,I.base.tbls},{_,b8,λj y v' F e2 e3=>?_},λy c e=>?_,I.free,I.freeC,λp hp=>?_,D {(oL),b7,I.free} hs,by simpa using I.len} {_,hs,.inl O}
  ·show(hs.2 b<|BH (BK (Bs e) I.ok.above)).trans (I.base.keep b o e n hb hx)
  ·let(sl,F):=I.base.slot b o e n hb hx;show{sl,(hs.2 b<|BH (BK (Bs e) I.ok.above)).trans F}
  ·let(o',F):=I.base.there b o e hx;show{o',(hs.2 b<|BH (BK (Bs e) I.ok.above)).trans F}
  ·by_cases hj:j=i
   ·subst hj;rw[hi]at F;cases F;rw[List.getElem?_set_self a3]at e2;cases e2;show{u,r,.inl {hk,by simp}}
   rw[Sh (CI hj)]at e2;let(u',r',q):=hl j y v' F e2 e3;show{u',r',?_};rcases q with⟨k,e⟩|⟨k,c,e,z⟩;·show .inl {k,?_};have:y≠x:=λe=>hj<|fW hN F (e ▸ hi);simp[this,e]
   show .inr {k,c,e,z.sameBut hs<|cne y c e}
  ·let(w',z):=I.cell y c e;show{w',z.sameBut hs<|cne y c e}
  let(e,n,ne,nf,d):=I.pin p hp;show{(hs.2 p.1 ne).trans e,n,ne,nf,d}
 let a5:X.fn x=true:=by
  rcases hf with z|z;·show z
  rw[z]at hk;cases hk
 let(c,hc):=I.ok.has x<|.inl hk;let(w',z):=I.cell x c hc;show wpAny_storeName_cell I.ok.kind hk hc z λh' b1 hs=>?_;let(oc,a8,a7):=id z;show h {s with heap:=h'} {I.ok,I.os,I.bare,{λb o e n hb hx=>?_,λb o e n hb hx=>?_,I.base.free,λb o e hx=>?_,I.base.tups,I.base.frzs,I.base.tbls},{m,hn.sameBut hs<|CI (cne x c hc),λj y v' F e2 e3=>?_},λy c' e=>?_,I.free,I.freeC,λp hp=>?_,D {oc,a8,I.freeC x c hc} hs,by simpa using I.len} {c,hs,.inr hc}
 ·show(hs.2 b<|BH (BK (Bs e)<|I.ok.cab x c a5 hc)).trans (I.base.keep b o e n hb hx)
 ·let(sl,F):=I.base.slot b o e n hb hx;show{sl,(hs.2 b<|BH (BK (Bs e)<|I.ok.cab x c a5 hc)).trans F}
 ·let(o',F):=I.base.there b o e hx;show{o',(hs.2 b<|BH (BK (Bs e)<|I.ok.cab x c a5 hc)).trans F}
 ·by_cases hj:j=i
  ·subst hj;rw[hi]at F;cases F;rw[List.getElem?_set_self a3]at e2;cases e2;show{u,r,.inr {.inl hk,c,hc,b1}}
  rw[Sh (CI hj)]at e2;let(u',r',q):=hl j y v' F e2 e3;show{u',r',?_};rcases q with q|⟨k,c',e,z'⟩;·show .inl q
  show .inr {k,c',e,z'.sameBut hs ?_};rintro rfl;show hj<|fW hN F (I.ok.inj _ _ _ e hc ▸ hi)
 ·by_cases b0:c'=c
  ·subst b0;show{(_),b1}
  let(w2,z2):=I.cell y c' e;show{w2,z2.sameBut hs b0}
 let(e,n,ne,nf,d):=I.pin p hp;show{(hs.2 p.1 ?_).trans e,n,ne,nf,d};intro q;rw[q,a8]at e;let q':oc=p.2:=AK e;show d w' (by rw[<-q'];show a7)
def Vy{M:Model}{A:CH}{E:Ay->AJ->Prop}{i:Nat}{x:AO}{v:V}{u:Ay}{Q:Unit->AJ->Prop}(I:Ck X pZ σ H s)(j:X.N.Nodup)(hi:X.N[i]?=Y x)(hx:V8 X.env.scope x)(r:CZ v u)(h:∀s',Ck X pZ (σ.set i<|Y v) H s'->Q Unit.unit s')(hf:X.fn x=Z\/X.env.scope.names.lookup x=Y .local:=by first|show .inl rfl|show .inr rfl|assumption):Bz M A (storeName X.env x u) Q E s:=af I j hi hx r (λs' z _=>h s' z) hf
def Ck.call'{s':AJ}{ch:List AH}(I:Ck X pZ σ H s)(z:s'.os=s.os)(u:Un (NT X.stack) ch H H' s.heap s'.heap)(hok:Jr X.prog X.w H' s'.heap)(hg:UL s'.gens)(j:∀b∈ch,(b∈X.ex\/X.s_.heap.objs.size<=b)/\b≠X.env.locals/\(∀x c,X.env.cells.lookup x=Y c->c≠b)/\∀p∈X.pn++pZ,p.1≠b):Ck X pZ σ H' s':=by let(h',g',d',t',o'):=s';let e:o'=s.os:=z;subst e;show I.call (g':=g') (t':=t') (d':=d') u hok hg j
end
abbrev XK:=Ay->Option AH->Hp->Prop
abbrev St:=List<|Option V
abbrev VK:=V->Hp->Prop
abbrev TE:=St->Hp->VK->Prop
abbrev TT:=St->Hp->(Bool->Hp->Prop)->Prop
abbrev TA:=St->Hp->(List V->Hp->Prop)->Prop
structure UE where
 nx:St->Hp->Prop
 rt:VK
 bk:St->Hp->Prop:=λ_ _=>False
 ct:St->Hp->Prop:=λ_ _=>False
abbrev TS:=UE->St->Hp->Prop
def EP(X:Cx)(pZ:List (AH×Obj))(σ:St)(Q:VK)(u:Ay)(s':AJ):Prop:=∃v H',Ck X pZ σ H' s'/\CZ v u/\Q v H'
def TP(X:Cx)(pZ:List (AH×Obj))(σ:St)(Q:Bool->Hp->Prop)(b:Bool)(s':AJ):Prop:=∃H',Ck X pZ σ H' s'/\Q b H'
def AP(X:Cx)(pZ:List (AH×Obj))(σ:St)(Q:List V->Hp->Prop)(us:List Ay)(s':AJ):Prop:=∃vs H',Ck X pZ σ H' s'/\CB vs us/\Q vs H'
def SP(X:Cx)(pZ:List (AH×Obj))(D:UE)(f:Flow)(s':AJ):Prop:=match f with
 |.next=>∃σ' H',Ck X pZ σ' H' s'/\D.nx σ' H'|.brk=>∃σ' H',Ck X pZ σ' H' s'/\D.bk σ' H'|.cont=>∃σ' H',Ck X pZ σ' H' s'/\D.ct σ' H'|.ret u=>∃v σ' H',Ck X pZ σ' H' s'/\CZ v u/\D.rt v H'
def PE(X:Cx)(e:Expr)(t:TE):Prop:=∀(pZ:List (AH×Obj)) (s:AJ) (σ:St) (H:Hp) (Q:VK),Ck X pZ σ H s->t σ H Q->Bz (model X.prog X.w) X.A (Dh e X.env) (EP X pZ σ Q) X.xe s
def PT(X:Cx)(e:Expr)(t:TT):Prop:=∀(pZ:List (AH×Obj)) (s:AJ) (σ:St) (H:Hp) (Q:Bool->Hp->Prop),Ck X pZ σ H s->t σ H Q->Bz (model X.prog X.w) X.A (isTrue e X.env<|Dh e X.env) (TP X pZ σ Q) X.xe s
def PW(X:Cx)(e:Expr)(t:TT):Prop:=∀(whole:Sem Ay) (pZ:List (AH×Obj)) (s:AJ) (σ:St) (H:Hp) (Q:Bool->Hp->Prop),Ck X pZ σ H s->t σ H Q->Bz (model X.prog X.w) X.A (isTrue e X.env whole) (TP X pZ σ Q) X.xe s
def PW.pt{X:Cx}{e:Expr}{t:TT}(h:PW X e t):PT X e t:=h _
def PA(X:Cx)(es:List Expr)(t:TA):Prop:=∀(pos:IZ) (pZ:List (AH×Obj)) (s:AJ) (σ:St) (H:Hp) (Q:List V->Hp->Prop),Ck X pZ σ H s->t σ H Q->Bz (model X.prog X.w) X.A (spliced<|DK pos (Br es X.env)) (AP X pZ σ Q) X.xe s
def PS(X:Cx)(st:JW)(t:TS):Prop:=∀(pZ:List (AH×Obj)) (s:AJ) (σ:St) (H:Hp) (D:UE),Ck X pZ σ H s->t D σ H->Bz (model X.prog X.w) X.A (exec st X.env) (SP X pZ D) X.xe s
def Ug(X:Cx)(st:List JW)(t:TS):Prop:=∀(pZ:List (AH×Obj)) (s:AJ) (σ:St) (H:Hp) (D:UE),Ck X pZ σ H s->t D σ H->Bz (model X.prog X.w) X.A (execs st X.env) (SP X pZ D) X.xe s
def DY{j:Type}{t:Sem j}{Q z:j->AJ->Prop}{M:Model}{A:CH}{E:Ay->AJ->Prop}{s:AJ}(h:Bz M A t Q E s)(D:∀a s,Q a s->z a s):Bz M A t z E s:=DZ h D λ_ _ x=>x
section
variable{X:Cx}
inductive A0B(i:Nat)(σ:St)(H:Hp)(Q:VK):Prop|mk (v:_) (_:σ[i]?=some (some v)) (_:Q v H)
def Y0(i:Nat):TE:=λσ H Q=>A0B i σ H Q
def tC(v:V):TE:=λ_ H Q=>Q v H
def K5{i:Nat}{x:AO}{pos:IZ}(hN:X.N[i]?=Y x)(F:Vis X.env.scope x)(hd:↑((x==("__debug__" :AO))=false))(D:↑((x==("__classdict__" :AO))=false)):PE X (.Name x pos) (Y0 i):=by
 intro 0 Q I h;let(v,e,h):=h;let(m,hn,U):=I.loc;let(u,r,l):=U i x v hN e F;let fin:EP X pZ σ Q u s:={(v),H,I,r,h};rcases l with⟨z,hm⟩|⟨z,c,hc,j⟩;·show wpAny_Name (wpAny_loadName_local I.ok.kind z hn hm fin) hd
 rcases z with z|z;·show wpAny_Name (wpAny_loadName_cell I.ok.kind z hc j fin) hd
 show wpAny_Name (wpAny_loadName_free I.ok.kind z hc j fin D) hd
def AF{i j pos}:PE X (.Constant (.int i) j pos) (tC<|.int i):=λ_ _ _ H _ I h=>wpAny_Constant_int {.int i,H,I.tok _,{(_),O},h}
def ER{b j pos}:PE X (.Constant (.bool b) j pos) (tC<|.bl b):=λ_ _ _ H _ I h=>Constant_bool {.bl b,H,I,O,h}
def DJ{j pos}:PE X (.Constant .none j pos) (tC .non):=λ_ _ _ H _ I h=>Constant_none {.non,H,I,O,h}
def AE{x j pos}:PE X (.Constant (.str x) j pos) (tC<|.str x):=λ_ _ _ H _ I h=>Calls.Constant_str {.str x,H,I.tok _,{(_),O},h}
def Gl(X:Cx)(x:AO):Prop:=X.env.kindOf x=Y .globalImplicit
def IK{E:Ay->AJ->Prop}{pZ:List (AH×Obj)}{s:AJ}{σ:St}{H:Hp}{x:AO}{u:Ay}{pos:IZ}{Q:Ay->AJ->Prop}(I:Ck X pZ σ H s)(hg:Gl X x)(hm:X.mg x=Y u)(h:Q u s)(hd:↑((x==("__debug__" :AO))=false)):Bz (model X.prog X.w) X.A (Dh (.Name x pos) X.env) Q E s:=Calls.Name_function_global I.ok.kind hg (Calls.loadGlobal_global (by rw[I.ok.glob];show I.mod.glob.keeps I.bk) hm h) hd
def LR{E:Ay->AJ->Prop}{pZ:List (AH×Obj)}{s:AJ}{σ:St}{H:Hp}{x:AO}{u:Ay}{pos:IZ}{Q:Ay->AJ->Prop}(I:Ck X pZ σ H s)(hg:Gl X x)(hm:X.mg x=S)(j:Cf x=Y u)(h:Q u s)(hn:↑(x≠ "__name__"))(hd:↑((x==("__debug__" :AO))=false)):Bz (model X.prog X.w) X.A (Dh (.Name x pos) X.env) Q E s:=by let(mb,h1,h2):=I.mod.blt;show Calls.Name_function_global I.ok.kind hg (Calls.loadGlobal_builtin (by rw[I.ok.glob];show I.mod.glob.keeps I.bk) hm (by rw[I.ok.blt];show h1.keeps I.bk) ((h2 x hn).trans j) h) hd
def cj{x:AO}{v:V}{u:Ay}{pos:IZ}(hg:Gl X x)(hm:X.mg x=Y u)(r:CZ v u)(hd:↑((x==("__debug__" :AO))=false)):PE X (.Name x pos) (tC v):=λ_ _ _ H _ I h=>IK I hg hm {(v),H,I,r,h} hd
def yd{x:AO}{v:V}{u:Ay}{pos:IZ}(hg:Gl X x)(hm:X.mg x=S)(j:Cf x=Y u)(r:CZ v u)(hn:↑(x≠ "__name__"))(hd:↑((x==("__debug__" :AO))=false)):PE X (.Name x pos) (tC v):=λ_ _ _ H _ I h=>LR I hg hm j {(v),H,I,r,h} hn hd
variable{a b:Expr}{ta tb:TE}{pos:IZ}
def PC(X:Cx)(op:CmpOp)(a b:Expr)(t:TE):Prop:=∀(pZ:List (AH×Obj)) (s:AJ) (σ:St) (H:Hp) (Q:VK),Ck X pZ σ H s->t σ H Q->Bz (model X.prog X.w) X.A (Dh a X.env) (λv z=>Bz (model X.prog X.w) X.A (Dh b X.env) (λu j=>Bz (model X.prog X.w) X.A (DB op v u) (EP X pZ σ Q) X.xe j) X.xe z) X.xe s
inductive JtB(Q:Bool->Hp->Prop)(x:V)(H1:Hp):Prop|mk (c:_) (_:x= .bl c) (_:Q c H1)
def tB(t:TE):TT:=λσ H Q=>t σ H λx H1=>JtB Q x H1
def K6{op:CmpOp}{t:TE}(h:PC X op a b t)(h1:JA op b=false:=by first|show nobehind _ Aa Aa|rfl):PE X (.Compare a [op] [b] pos) t:=λpZ s σ H Q I hw=>wpAny_Compare1 (h pZ s σ H Q I hw) h1
def K0{op:CmpOp}{t:TE}(h:PC X op a b t)(h1:JA op b=false:=by first|show nobehind _ Aa Aa|rfl):PT X (.Compare a [op] [b] pos) (tB t):=by intro 0 Q I hw;show wpAny_isTrue_Compare1 (DY (h pZ s σ H _ I hw) λv s1 h1=>DY h1 λu s2 h2=>DY h2 λc U j=>?_) h1;let(x,H1,F,z,D):=j;let(d,O,q):=D;cases z;show Gn {(H1),F,q}
def BN{e:Expr}{t:TE}(h:PE X e t)(F:∀whole,isTrue e X.env whole=(do let v <-whole;standAt e.pos;holding [v] (truthy v)):=by intro _;rfl):PT X e (tB t):=by intro 0 Q I hw;show isTrue_plain (DY (h pZ s σ H _ I hw) λv s1 j=>?_)<|F _;let(x,H1,U,z,D):=j;let(d,O,q):=D;cases z;show Gn {(H1),U,q}
variable{tA tB':TT}{rest:List Expr}
def A1z(t u:TT):TT:=λσ H Q=>t σ H λc H1=>if c=Z then u σ H1 Q else Q ge H1
def tOr(t u:TT):TT:=λσ H Q=>t σ H λc H1=>if c=Z then Q Z H1 else u σ H1 Q
def A1t(t:TT):TT:=λσ H Q=>t σ H λc H1=>Q (!c) H1
def Fu(ha:PT X a tA):PW X (.BoolOp .And [a] pos) tA:=by intro j pZ s σ H Q I h;show isTrue_and<|DY (ha pZ s σ H Q I h) λc s1 e=>?_;cases c with|true=>show isTrue_and_nil e|false=>show e
def HX(ha:PT X a tA):PW X (.BoolOp .Or [a] pos) tA:=by intro j pZ s σ H Q I h;show isTrue_or<|DY (ha pZ s σ H Q I h) λc s1 e=>?_;cases c with|false=>show isTrue_or_nil e|true=>show e
def FT(ha:PT X a tA)(U:PW X (.BoolOp .And (b::rest) pos) tB'):PW X (.BoolOp .And (a::b::rest) pos) (A1z tA tB'):=by intro F pZ s σ H Q I h;show isTrue_and<|DY (ha pZ s σ H _ I h) λc s1 j=>?_;let(H1,D,z):=j;cases c with|true=>show U F pZ s1 σ H1 Q D z|false=>show{(H1),D,z}
def Jf(ha:PT X a tA)(U:PW X (.BoolOp .Or (b::rest) pos) tB'):PW X (.BoolOp .Or (a::b::rest) pos) (tOr tA tB'):=by intro F pZ s σ H Q I h;show isTrue_or<|DY (ha pZ s σ H _ I h) λc s1 j=>?_;let(H1,D,z):=j;cases c with|true=>show{(H1),D,z}|false=>show U F pZ s1 σ H1 Q D z
def Dn(ha:PT X a tA):PT X (.UnaryOp .Not a pos) (A1t tA):=by intro 0 Q I h;show isTrue_not<|ha pZ s σ H (λc H1=>Q (!c) H1) I h
inductive T3(tb:TE)(σ:St)(Q:VK)(x:V)(H1:Hp):Prop|mk (c:_) (_:x= .bl c) (_:if c=true then tb σ H1 Q else Q (.bl false) H1)
def Z5(ta tb:TE):TE:=λσ H Q=>ta σ H λx H1=>T3 tb σ Q x H1
inductive S7(Q:VK)(x:V)(H1:Hp):Prop|mk (c:_) (_:x= .bl c) (_:Q (.bl<|!c) H1)
def Y4(ta:TE):TE:=λσ H Q=>ta σ H λx H1=>S7 Q x H1
def JO{op}{t:TE}(h:PE X a t):PE X (.BoolOp op [a] pos) t:=λpZ s σ H Q I hw=>BoolOp_one<|h pZ s σ H Q I hw
def JP(ha:PE X a ta)(U:PE X (.BoolOp .And (b::rest) pos) tb):PE X (.BoolOp .And (a::b::rest) pos) (Z5 ta tb):=by intro 0 Q I h;show BoolOp_and<|DY (ha pZ s σ H _ I h) λv s1 j=>?_;let(x,H1,D,F,z):=j;let(c,O,z):=z;cases F;show Gn ?_;cases c with|true=>show U pZ s1 σ H1 Q D z|false=>show{.bl ge,H1,D,O,z}
def tO(ha:PE X a ta):PE X (.UnaryOp .Not a pos) (Y4 ta):=by intro 0 Q I h;show UnaryOp_<|DY (ha pZ s σ H _ I h) λv s1 j=>?_;let(x,H1,F,D,z):=j;let(c,O,z):=z;cases D;show not_of<|Gn {.bl<|!c,H1,F,O,z}
def tIf(t:TT)(ta tb:TE):TE:=λσ H Q=>t σ H λc H1=>if c=Z then ta σ H1 Q else tb σ H1 Q
def HM{c:Expr}(hc:PT X c tA)(ha:PE X a ta)(F:PE X b tb):PE X (.IfExp c a b pos) (tIf tA ta tb):=by intro 0 Q I h;show wpAny_IfExp<|DY (hc pZ s σ H _ I h) λd s1 j=>?_;let(H1,D,z):=j;cases d with|true=>show ha pZ s1 σ H1 Q D z|false=>show F pZ s1 σ H1 Q D z
end
def BX(K:Az)(H:Hp)(a:AH)(xs:List V):Prop:=Rd H a (.lst xs)\/
  ∃(o:Obj) (j:Array Ay) (n:Nat),K.lookup a=Y o/\o.cls= .type "list" /\o.dict=S/\o.data= .seq j n/\j.size<=sizeLine/\CB xs j.toList
def GK(K:Az)(H:Hp)(a:AH)(xs:List V):Prop:=Rd H a (.tup xs)\/
  ∃(o:Obj) (j:Array Ay) (n:Nat),K.lookup a=Y o/\o.cls= .type "tuple" /\o.data= .seq j n/\j.size<=sizeLine/\CB xs j.toList
def A2e:Ay->Option V|.none=>Y .non|.bool b=>Y<|.bl b|.int i _=>Y<|.int i|.str x _=>Y<|.str x|.bytes b _=>Y<|.byt b|.float b _=>Y<|.flt b|.ref a=>Y<|.ref a|.type n=>Y<|.ty n|_=>S
def CZ.abs{x:V}{u:Ay}(r:CZ x u):A2e u=Y x:=by cases x with|non=>cases r;rfl|bl _=>cases r;rfl|int _=>let(t,O):=r;rfl|str _=>let(t,O):=r;rfl|byt _=>let(t,O):=r;rfl|flt _=>let(t,O):=r;rfl|ref _=>cases r;rfl|ty _=>cases r;rfl
def CZ.inj{x y:V}{u:Ay}(r:CZ x u)(q:CZ y u):x=y:=AK<|r.abs.symm.trans q.abs
def CB.inj:∀{xs ys:List V} {us:List Ay},CB xs us->CB ys us->xs=ys|_,_,_,.nil,.nil=>rfl|_,_,_,.cons r t,.cons j t'=>by rw[r.inj j,CB.inj t t']
section
variable{X:Cx}{pZ:List (AH×Obj)}{σ:St}{H:Hp}{s:AJ}{a:AH}{xs ys:List V}
def BX.of{K:Az}(h:H a=Y (.lst xs)):BX K H a xs:=.inl<|.inl h
def GK.of{K:Az}(h:H a=Y (.tup xs)):GK K H a xs:=.inl<|.inl h
def Ck.list(I:Ck X pZ σ H s)(h:BX X.K H a xs):∃j:List Ay,CB xs j/\PlainL s.heap a j.toArray/\xs.length<=sizeLine:=by
 rcases h with h|⟨o,j,n,D,hc,hd,hs,F,r⟩;·let(z,j,n,r,e):=h.ok I.hok;show{j,r,{(_),n,e,O,O,O},z}
 show{j.toList,r,{o,n,I.kIn a o D,hc,hd,by simpa using hs},?_};let e:=r.length;simp only[Ff]at e
 lia
def Ck.tuple(I:Ck X pZ σ H s)(h:GK X.K H a xs):∃j:List Ay,CB xs j/\IsTup s.heap a j.toArray/\xs.length<=sizeLine:=by
 rcases h with h|⟨o,j,n,D,hc,hs,F,r⟩;·let(z,j,r,p):=h.ok I.hok;show{(j),r,p,z}
 show{j.toList,r,{o,I.kIn a o D,hc,n,by simpa using hs},?_};let e:=r.length;simp only[Ff]at e
 lia
def Ck.list_inj(I:Ck X pZ σ H s)(h:BX X.K H a xs)(h':BX X.K H a ys):xs=ys:=by
 let(j,r,(o,n,e,_,_,d),_):=I.list h;let(its',D,(o',F,z,_,_,d'),_):=I.list h';rw[e]at z;cases z;rw[d]at d';injection d' with d1 _;have:j=its':=by simpa using A3o Array.toList d1
 subst this;show r.inj D
def Ck.tuple_inj(I:Ck X pZ σ H s)(h:GK X.K H a xs)(h':GK X.K H a ys):xs=ys:=by
 let(j,r,(o,e,_,n,d),_):=I.tuple h;let(its',D,(o',z,_,F,d'),_):=I.tuple h';rw[e]at z;cases z;rw[d]at d';injection d' with d1 _;have:j=its':=by simpa using A3o Array.toList d1
 subst this;show r.inj D
end
abbrev Cx.wish(X:Cx)(E:Ay->AJ->Prop):Cx:={X with xe:=E}
abbrev Cx.nox(X:Cx):Cx:=X.wish λ_ _=>False
def Cx.Ok.wish{X:Cx}(ok:X.Ok)(E:Ay->AJ->Prop): (X.wish E).Ok:={(ok.mod),ok.kind,ok.glob,ok.blt,ok.above,ok.inj,ok.has,ok.cab,ok.hd,ok.frames,ok.stk,ok.exf,ok.bs,ok.bsz,ok.noex,ok.exfs,ok.funs,ok.frf,ok.hs}
def Cx.Ok.unwish{X:Cx}{E:Ay->AJ->Prop}(ok: (X.wish E).Ok):X.Ok:={(ok.mod),ok.kind,ok.glob,ok.blt,ok.above,ok.inj,ok.has,ok.cab,ok.hd,ok.frames,ok.stk,ok.exf,ok.bs,ok.bsz,ok.noex,ok.exfs,ok.funs,ok.frf,ok.hs}
section
variable{X:Cx}{pZ:List (AH×Obj)}{σ:St}{H:Hp}{s:AJ}{E:Ay->AJ->Prop}
def Ck.wish(I:Ck X pZ σ H s)(E:Ay->AJ->Prop):Ck (X.wish E) pZ σ H s:={I.ok.wish E,I.os,I.bare,I.base,I.loc,I.cell,I.free,I.freeC,I.pin,I.hok,I.len}
def Ck.unwish(I:Ck (X.wish E) pZ σ H s):Ck X pZ σ H s:={(I.ok.unwish),I.os,I.bare,I.base,I.loc,I.cell,I.free,I.freeC,I.pin,I.hok,I.len}
def SP.unwish{D:UE}{f:Flow}{s':AJ}(h:SP (X.wish E) pZ D f s'):SP X pZ D f s':=by cases f with|next=>let(σ',H',I,q):=h;show{(σ'),H',I.unwish,q}|brk=>let(σ',H',I,q):=h;show{(σ'),H',I.unwish,q}|cont=>let(σ',H',I,q):=h;show{(σ'),H',I.unwish,q}|ret u=>let(v,σ',H',I,r,q):=h;show{(v),σ',H',I.unwish,r,q}
def Ug.nox{st:List JW}{t:TS}(h:Ug X.nox st t):Ug X st t:=λpZ s σ H D I hw=>
 DZ (h pZ s σ H D (I.wish _) hw) (λ_ _ q=>q.unwish) λ_ _ z=>BM z
end
section
variable{X:Cx}{st:JW}{rest:List JW}{t u:TS}{e:Expr}{te:TE}{pos:IZ}
def B0:TS:=λD σ H=>D.nx σ H
def A1s(t u:TS):TS:=λD σ H=>t {D with nx:=u D} σ H
def xY:Ug X [] B0:=λ_ _ σ H _ I h=>wpAny_execs_nil {(σ),H,I,h}
def AW(h1:PS X st t)(h2:Ug X rest u):Ug X (st::rest) (A1s t u):=by
 intro 0 D I h;show RU<|DY (h1 pZ s σ H {D with nx:=u D} I h) λf s1 q=>?_;cases f with
 |next=>
  let(σ',H',j,q):=q;show h2 pZ s1 σ' H' D j q
 |ret v=>show q|brk=>show q|cont=>show q
def Cc(h1:PS X st t):Ug X [st] t:=by intro 0 D I h;show RU<|DY (h1 pZ s σ H D I h) λf s1 q=>?_;cases f with|next=>show wpAny_execs_nil q|ret v=>show q|brk=>show q|cont=>show q
def Ck.quiet{pZ:List (AH×Obj)}{σ:St}{H:Hp}{s:AJ}(I:Ck X pZ σ H s):interactive X.env=false:=by simp[interactive,I.ok.kind]
def Z1(te:TE):TS:=λD σ H=>te σ H λ_ H1=>D.nx σ H1
def DG(F:PE X e te)(hs: ~~~(RV e S pos.line X.env=ID false)):PS X (.Expr e pos) (Z1 te):=by intro 0 D I h;show wpAny_Expr_any (DY (F pZ s σ H _ I h) λv s1 j=>(by let(x,H1,U,r1,z):=j;show{(σ),H1,U,z})) I.quiet hs
def Y2(te:TE):TS:=λD σ H=>te σ H D.rt
def K2(U:PE X e te):PS X (.Return (Y e) pos) (Y2 te):=by intro 0 D I h;show wpAny_Return_some (DY (U pZ s σ H _ I h) λv s1 j=>(by let(x,H1,I1,z,F):=j;show{(x),σ,H1,I1,z,F}))
def Y7(c:TT)(t u:TS):TS:=λD σ H=>c σ H λb H1=>if b=Z then t D σ H1 else u D σ H1
def B5{c:Expr}{a b:List JW}{tc:TT}(hc:PT X c tc)(ha:Ug X a t)(U:Ug X b u):PS X (.If c a b pos) (Y7 tc t u):=by intro 0 D I h;show wpAny_If<|DY (hc pZ s σ H _ I h) λd s1 j=>?_;let(H1,F,z):=j;cases d with|true=>show ha pZ s1 σ H1 D F z|false=>show U pZ s1 σ H1 D F z
def G0:TS:=λ_ _ _=>False
def Mo:PS X st G0:=λ_ _ _ _ _ _ h=>h.elim
end
abbrev TG:=V->St->Hp->(St->Hp->Prop)->Prop
abbrev zF:=List V->St->Hp->(St->Hp->Prop)->Prop
def PG(X:Cx)(target:Expr)(t:TG):Prop:=∀(pZ:List (AH×Obj)) (s:AJ) (σ:St) (H:Hp) (v:V) (u:Ay) (Q:St->Hp->Prop),Ck X pZ σ H s->CZ v u->t v σ H Q->Bz (model X.prog X.w) X.A (assign target X.env u) (λ_ s'=>∃σ' H',Ck X pZ σ' H' s'/\Q σ' H') X.xe s
def V7(X:Cx)(ts:List Expr)(t:zF):Prop:=∀(pZ:List (AH×Obj)) (s:AJ) (σ:St) (H:Hp) (vs:List V) (us:List Ay) (Q:St->Hp->Prop),Ck X pZ σ H s->CB vs us->t vs σ H Q->Bz (model X.prog X.w) X.A (assignInOrder ((LZ ts X.env).map (·.2)) us) (λ_ s'=>∃σ' H',Ck X pZ σ' H' s'/\Q σ' H') X.xe s
section
variable{X:Cx}{pos:IZ}
def Ub(i:Nat):TG:=λv σ H Q=>Q (σ.set i<|Y v) H
def BQ{i:Nat}{x:AO}(j:X.N.Nodup)(hi:X.N[i]?=Y x)(hx:V8 X.env.scope x)(hf:X.fn x=Z\/X.env.scope.names.lookup x=Y .local:=by first|show .inl rfl|show .inr rfl|assumption):PG X (.Name x pos) (Ub i):=by intro 0 v u Q I r h;show wpAny_assign_Name<|Vy I j hi hx r (λs' z=>{(_),H,z,h}) hf
inductive A0T(vs:List V)(σ:St)(H:Hp)(Q:St->Hp->Prop):Prop|mk (_:vs=[]) (_:Q σ H)
def A27:zF:=λvs σ H Q=>A0T vs σ H Q
inductive T8(t:TG)(u:zF)(vs:List V)(σ:St)(H:Hp)(Q:St->Hp->Prop):Prop|mk (v r:_) (_:vs=v::r) (_:t v σ H λσ' H'=>u r σ' H' Q)
def A0e(t:TG)(u:zF):zF:=λvs σ H Q=>T8 t u vs σ H Q
def Lv:V7 X [] A27:=by intro 0 vs us Q I r h;let(e,h):=h;subst e;cases r;show assignInOrder_nil {(σ),H,I,h}
def EG{e:Expr}{es:List Expr}{t:TG}{u:zF}(h1:PG X e t)(h2:V7 X es u)(hs: ~~~((LZ (e::es) X.env).map (·.2)=assign e X.env:: (LZ es X.env).map (·.2))):V7 X (e::es) (A0e t u):=by
 intro 0 vs us Q I r h;let(v,vr,F,h):=h;subst F;cases r with
 |cons r rr=>
  rw[hs];show assignInOrder_cons<|DY (h1 pZ s σ H _ _ _ I r h) λ_ s1 j=>?_;let(z,H1,U,D):=j;show h2 pZ s1 z H1 _ _ Q U rr D
inductive A0S(K:Az)(n:Nat)(t:zF)(v:V)(σ:St)(H:Hp)(Q:St->Hp->Prop):Prop|mk (a xs:_) (_:v= .ref a) (_:GK K H a xs) (_:xs.length=n) (_:t xs σ H Q)
def A0d(K:Az)(n:Nat)(t:zF):TG:=λv σ H Q=>A0S K n t v σ H Q
def Op{es:List Expr}{k:Nat}{t:zF}{n:Nat}(hc:X.calm=Z)(h:V7 X es t)(hn: ~~~((LZ es X.env).length=n))(j: ~~~((LZ es X.env).findIdx? (·.1)=none)):PG X (.Tuple es k pos) (A0d X.K n t):=by intro 0 v u Q I r hw;let(a,xs,e1,U,hl,hw):=hw;subst e1;cases r;let(D,z,F,hz):=I.tuple U;show assign_Tuple_tuple (I.ok.hd hc) F (by simp[hn,<-hl,z.length]) j λh' hx=>?_;let I1:Ck X pZ σ H {s with heap:=h'}:=I.kept (t':=s.toks) λb o e=>hx b o (BH<|Bs e) e;show h pZ _ σ H xs _ Q I1 (by simpa using z) hw
def xk(te:TE)(g:TG):TS:=λD σ H=>te σ H λx H1=>g x σ H1 D.nx
def jq{tg e:Expr}{te:TE}{g:TG}(U:PE X e te)(hg:PG X tg g)(hs: ~~~(swapsWithSole [tg] e pos.line X.env=ID false))(hw: ~~~(swappedStores [tg] e X.env=ID none))(h1: ~~~((LZ [tg] X.env).map (·.2)=[assign tg X.env])):PS X (.Assign [tg] e pos) (xk te g):=by intro 0 D I h;show wpAny_Assign_stores (DY (U pZ s σ H _ I h) λv s1 j=>?_) hs hw;let(x,H1,I1,z,F):=j;rw[h1];show DY (hg pZ s1 σ H1 x v _ I1 z F) λ_ s2 q=>q
def K1{i:Nat}{x:AO}{e:Expr}{te:TE}{pos':IZ}(hN:X.N.Nodup)(hi:X.N[i]?=Y x)(hx:V8 X.env.scope x)(U:PE X e te)(hs: ~~~(RV e (Y<|.Name x pos') pos.line X.env=ID false))(hf:X.fn x=Z\/X.env.scope.names.lookup x=Y .local:=by first|show .inl rfl|show .inr rfl|assumption):
  PS X (.Assign [.Name x pos'] e pos) (xk te<|Ub i):=by intro 0 D I h;show wpAny_Assign_Name (DY (U pZ s σ H _ I h) λv s1 j=>?_) hs;let(y,H1,I1,z,F):=j;show Vy I1 hN hi hx z (λs2 I2=>{(_),H1,I2,F}) hf
end
section
variable{X:Cx}{pos:IZ}
end
structure It where
 go:Nat->Hp->Prop
 yld:Nat->Hp->V->Hp->Prop
 stop:Nat->Hp->Prop
 sok:Bool
def Ti(X:Cx)(pZ:List (AH×Obj))(H:Hp)(b:AH):Prop:=H b=S/\b≠X.env.locals/\b∉X.fs/\(b∈X.ex\/X.s_.heap.objs.size<=b)/\(∀x c,X.env.cells.lookup x=Y c->c≠b)/\∀p∈X.pn++pZ,p.1≠b
def Ck.fpOk{X:Cx}{pZ:List (AH×Obj)}{σ:St}{H H':Hp}{s:AJ}{b:AH}(I:Ck X pZ σ H s)(j:↑s<=b)(hn:H' b=S):Ti X pZ H' b:=by
 show{hn,JD<|BK I.lt j,I.nofs j,.inr<|AR I.sz j,λx c e z=>?_,λp hp z=>?_};·let(v,q):=I.cell x c e;show A3p (BK q.lt<|by rw[z];show j)<|DO _
 show A3p (BK (Bs (I.pin p hp).1)<|by rw[z];show j)<|DO _
structure kA(P:Bv)(w:BP)(K:Az)(tg:Expr)(J:It)(fp:List AH)(it:AH)(tn:Nat->CA->Prop):Prop where
 mem:it∈fp
 obj:∀i h,tn i h->∀b∈fp,∃o,h.get? b=Y o/\∀v,o.data≠ .cell v
 keep:∀i h h',tn i h->(∀b∈fp,∀o,h.get? b=Y o->h'.get? b=Y o)->tn i h'
 item:∀(X:Cx),X.prog=P->X.w=w->X.K=K->(X.calm=Z\/J.sok=Z/\X.suit=Z)->∀(i:Nat) (pZ:List (AH×Obj)) (s:AJ) (σ:St) (H:Hp) (E:Ay->AJ->Prop),Ck X pZ σ H s->(∀b∈fp,Ti X pZ H b)->tn i s.heap->J.go i H->Bz (model P w) X.A (pyNext<|.ref it) (λr s1=>∃u,r=Y u/\Bz (model P w) X.A (JH tg (.ref it) u) (λ_ s2=>∃x H',Ck X pZ σ H' s2/\CZ x u/\J.yld i H x H'/\tn (i+1) s2.heap/\∀b∈fp,H' b=S) E s1) E s
 done:∀(X:Cx),X.prog=P->X.w=w->X.K=K->(X.calm=Z\/J.sok=Z/\X.suit=Z)->∀(i:Nat) (pZ:List (AH×Obj)) (s:AJ) (σ:St) (H:Hp) (E:Ay->AJ->Prop),Ck X pZ σ H s->(∀b∈fp,Ti X pZ H b)->tn i s.heap->J.stop i H->Bz (model P w) X.A (pyNext<|.ref it) (λr s1=>r=S/\Ck X pZ σ H s1) E s
 self:∀(A:CH) (i:Nat) (s:AJ) (Q:Ay->AJ->Prop) (E:Ay->AJ->Prop),tn i s.heap->Q (.ref it) s->Bz (model P w) A (pyIter<|.ref it) Q E s
abbrev TI:=St->Hp->(It->Hp->Prop)->Prop
def D3(X:Cx)(pZ:List (AH×Obj))(σ:St)(tg:Expr)(R:It->Hp->Prop)(j:Ay)(s2:AJ):Prop:=∃(it:AH) (fp:List AH) (tn:Nat->CA->Prop) (J:It) (H':Hp),j= .ref it/\Ck X pZ σ H' s2/\kA X.prog X.w X.K tg J fp it tn/\tn 0 s2.heap/\(∀b∈fp,Ti X pZ H' b)/\R J H'
def PI(X:Cx)(tg iter:Expr)(wi:TI):Prop:=∀(pZ:List (AH×Obj)) (s:AJ) (σ:St) (H:Hp) (R:It->Hp->Prop),Ck X pZ σ H s->wi σ H R->Bz (model X.prog X.w) X.A (Dh iter X.env) (λv s1=>Bz (model X.prog X.w) X.A (pyIter v) (D3 X pZ σ tg R) X.xe s1) X.xe s
def mL{M:Model}{A:CH}{E:Ay->AJ->Prop}{s:AJ}{tg:Expr}{it:AH}{u:Ay}{o:Obj}{n:String}{vs:Array Ay}{Q:Unit->AJ->Prop}(z:s.heap.get? it=Y o)(hc:o.cls= .type n)(hd:o.data= .fields vs)(hn: ["enumerate","zip","dict_itemiterator","dict_reverseitemiterator","odict_iterator","itertools.zip_longest","itertools.pairwise"].contains n=ge)(j:Q Unit.unit s):Bz M A (JH tg (.ref it) u) Q E s:=by
 unfold JH;cases tg <;> first
  |show Bf j
  |(cases u <;> first
    |show Bf j
    |(show AC<|wpAny_load z ?_
      rw[hc,hd];change Bz M A (if (["enumerate","zip","dict_itemiterator","dict_reverseitemiterator","odict_iterator","itertools.zip_longest","itertools.pairwise"].contains n&&vs[0]?==Y (Np _))=Z then _ else _) Q E s
      rw[A3m (by intro h;rw[hn,Dx]at h;cases h)];show Bf j))
section
variable{prog:Bv}{w:BP}{A:CH}{E:Ay->AJ->Prop}{s:AJ}
def ZC:entryFor table "proto.unchain"=Y Builtin.«proto.unchain»:=entryFor_of_tree (by kernel_rfl)
def jp{j:Type}{e x:AH}{D oe:Obj}{xs es:Array Ay}{Q:j->AJ->Prop}(hA:A.handled=Y (.ref x))(hx:s.heap.get? x=Y D)(dx:D.data= .fields xs)(F:xs[2]?=Y .none)(ne:x≠e)(U:s.heap.get? e=Y oe)(de:oe.data= .fields es)(z:2<es.size)(k:E (.ref e) {s with heap:=s.heap.update e (JC (·.setIfInBounds 2 (.ref x)))}):Bz (model prog w) A (raiseNew (.ref e):Sem j) Q E s:=by
 unfold raiseNew;show AC<|wpAny_handled ?_;rw[hA]
 dsimp only
 rw[A3n (show(Value.ref x != Value.ref e)=Z from by simp[ne])];show AC<|En (wpAny_runValue<|Uh ZC ?_);unfold Builtin.«proto.unchain»
 dsimp only
 show AC<|HB hx dx F ?_;rw[A3n Aa];show Bf ?_;change Bz _ _ (setField (.ref e) 2 (.ref x) >>= λ_=>throw<|Value.ref e) _ _ _;show AC<|OK U de z (wpAny_throw k)
def G9{z:Type}{x it:AH}{j:Obj}{xs:Array Ay}{h0:CA}{Q:Option Ay->AJ->Prop}{R:z->AJ->Prop}(hA:A.handled=Y (.ref x))(hx:s.heap.get? x=Y j)(dx:j.data= .fields xs)(F:xs[2]?=Y .none)(kp:∀b o,b≠it->s.heap.get? b=Y o->h0.get? b=Y o)(ne:x≠it)(k:∀h',Heap.ExtBut it s.heap h'->Q S {s with heap:=h'}):
  Bz (model prog w) A.in1 (newExc (.type "StopIteration") [] >>= λe=>(raiseNew e:Sem z)) R (λe s'=>Bz (model prog w) A (do if <-ON e (.type "StopIteration")then ID S else throw e) Q E s') {s with heap:=h0}:=by
 show AC ?_;simp only[newExc,newTuple];show AC (Fh ?_<|by size_fits);show AC (m:=firstArgMember _ _) (wpAny_of_eq (a:=CT) (by simp only[firstArgMember];rfl) ?_);show Fh ?_ (by size_fits)
 dsimp only
 let U: (h0.push {cls:=.type "tuple",data:=.seq ([]:List Ay).toArray}).objs.size≠x:=JD<|Bs (AD _<|kp x j ne hx);show jp (x:=x) hA (AD _<|AD _ (kp x j ne hx)) dx F (CI U) (Bx _ O) O (by change 2<6;decide) ?_;show AC<|wpAny_isInstance (T:="StopIteration") (b:=Z) ⟨_,Ih _ (Bx _ O) O,O⟩ isSubtype_stop ?_;show Bf<|k _ λb o hb q=>?_;let D:=AD {cls:=.type "tuple",data:=.seq ([]:List Ay).toArray}<|kp b o hb q
 dsimp only
 rw[DL _ _ (JD<|Bs D)];show AD _ D
def Ww{x it l:AH}{i:Nat}{items:Array Ay}{F:Obj}{xs:Array Ay}{Q:Option Ay->AJ->Prop}(hA:A.handled=Y (.ref x))(hx:s.heap.get? x=Y F)(dx:F.data= .fields xs)(U:xs[2]?=Y .none)(hit:s.heap.IsListIter it l i)(hl:s.heap.IsList l items)(hi:items[i]?=S)(ne:x≠it)(k:∀h',Heap.ExtBut it s.heap h'->Q S {s with heap:=h'}):Bz (model prog w) A (pyNext<|.ref it) Q E s:=by let(oi,j,_,D):=id hit;let(ol,el,_,nl,dl):=hl;unfold pyNext;show AC<|wpAny_attempt (wpAny_callSpecial?_slot (name:="__next__") hit.typeIs slot_listiter_next<|wpAny_call_entry slot_listiter_next hit.typeIs entry_listiter_next ?_ (args_listiter_next _));show AC (m:=field (.ref it) 0)<|HB j D (x:=.ref l) O ?_;rw[A3m (by intro z;cases z)];show AC (m:=field (.ref it) 1)<|HB j D (x:=.int i 0) O ?_;show AC (m:=seqItems?<|.ref l)<|wpAny_seqItems el dl ?_;simp only[Ye,hi];show AC (wpAny_rule<|AC (OK j D (by simp) ?_));show G9 hA hx dx U (λb o hb q=>(DL _ _<|CI hb).trans q) ne k
end
def T9(K:Az)(a:AH):It:={λi H=>∃xs x,BX K H a xs/\xs[i]?=Y x,λi H x H'=>H'=H/\∀xs,BX K H a xs->xs[i]?=Y x,λi H=>∃xs,BX K H a xs/\xs.length<=i,Z}
def Itt(K:Az)(a:AH):It:={λi H=>∃xs x,GK K H a xs/\xs[i]?=Y x,λi H x H'=>H'=H/\∀xs,GK K H a xs->xs[i]?=Y x,λi H=>∃xs,GK K H a xs/\xs.length<=i,ge}
def D6(lo:Int)(n:Nat):It:={λi _=>i<n,λi H x H'=>H'=H/\x= .int (lo+i),λi _=>n<=i,ge}
def nW{P:Bv}{w:BP}{K:Az}{tg:Expr}(a it:AH):kA P w K tg (T9 K a) [it] it (λi h=>h.IsListIter it a i) where
 mem:=by simp
 obj:=λi h st b j=>by
  let e:b=it:=by simpa using j
  subst e;let(o,e,c,d):=st;show{o,e,λv z=>by rw[d]at z;cases z}
 keep:=λi h h' st k=>st.at λo e=>k it (by simp) o e
 item:=by intro X hP hw hK hc i pZ s σ H E I hf st hg;subst hP hw hK;let(xs,x,hq,hx):=hg;let(a4,rv,p,hz):=I.list hq;let(u,hu,ru):=rv.get hx;let(U,f1,f2,f3,f4,f5):=hf it (by simp);show wpAny_pyNext_list_item st p.isList (x:=u) (by simpa using hu) λh' F sb=>?_;let I1:Ck X pZ σ H {s with heap:=h'}:=I.turned (t':=s.toks) (λb o j e=>(sb.2 b j).trans e) U f1 f3 f4 f5;let(o,e,c,d):=id F;show{u,O,mL (s:={s with heap:=h'}) e c d Aa {x,H,I1,ru,{O,λys hy=>by rw[I.list_inj hy hq];show hx},F,λb j=>(hf b j).1}}
 done:=by
  intro X hP hw hK hc i pZ s σ H E I hf st hg;subst hP hw hK;let(xs,hq,hx):=hg;let(a4,rv,p,hz):=I.list hq;let(U,f1,f2,f3,f4,f5):=hf it (by simp);let hl:=rv.length;rcases hc with hc|⟨_,hc⟩
  rotate_left;·let(e,cls,dx,a0,tb,hA,hE):=I.ok.hs hc;let D:=I.base.frzs e _ _ hE;let(he,_):=I.hok e _ D;show Ww hA he O O st p.isList (by simp;lia) (λz=>by rw[z,U]at D;cases D) λh' eb=>{O,I.turned (t':=s.toks) (λb o j e=>eb b o j e) U f1 f3 f4 f5}
  show wpAny_pyNext_list_end (I.ok.hd hc) st p.isList (by simp;lia) λh' eb=>{O,I.turned (t':=s.toks) (λb o j e=>eb b o j e) U f1 f3 f4 f5}
 self:=λ_ _ _ _ _ st h=>wpAny_pyIter_listiter st h
def iH{P:Bv}{w:BP}{K:Az}{tg:Expr}(a it:AH):kA P w K tg (Itt K a) [it] it (λi h=>h.IsTupleIter it a i) where
 mem:=by simp
 obj:=λi h st b D=>by
  let e:b=it:=by simpa using D
  subst e;let(o,e,c,d):=st;show{o,e,λv z=>by rw[d]at z;cases z}
 keep:=λi h h' st k=>st.at λo e=>k it (by simp) o e
 item:=by intro X hP hw hK hc i pZ s σ H E I hf st hg;subst hP hw hK;let(xs,x,U,hx):=hg;let(j,rv,p,hz):=I.tuple U;let(u,hu,ru):=rv.get hx;let(f0,f1,f2,f3,f4,f5):=hf it (by simp);show wpAny_pyNext_tuple_item st (show s.heap.IsTuple a j.toArray from p) (x:=u) (by simpa using hu) λh' F sb=>?_;let I1:Ck X pZ σ H {s with heap:=h'}:=I.turned (t':=s.toks) (λb o D e=>(sb.2 b D).trans e) f0 f1 f3 f4 f5;let(o,e,c,d):=id F;show{u,O,mL (s:={s with heap:=h'}) e c d Aa {x,H,I1,ru,{O,λys hy=>by rw[I.tuple_inj hy U];show hx},F,λb D=>(hf b D).1}}
 done:=by intro X hP hw hK hc i pZ s σ H E I hf st hg;subst hP hw hK;let(xs,U,hx):=hg;let(j,rv,p,hz):=I.tuple U;let(f0,f1,f2,f3,f4,f5):=hf it (by simp);let hl:=rv.length;show wpAny_pyNext_tuple_end (I.ok.hd<|hc.resolve_right λz=>BL<|show ge=Z from z.1) st (show s.heap.IsTuple a j.toArray from p) (by simp;lia) λh' eb=>{O,I.turned (t':=s.toks) (λb o D e=>eb b o D e) f0 f1 f3 f4 f5}
 self:=λ_ _ _ _ _ st h=>wpAny_pyIter_tupleiter st h
def iI{P:Bv}{w:BP}{K:Az}{tg:Expr}(it:AH)(lo:Int)(n:Nat):kA P w K tg (D6 lo n) [it] it (λi h=>IsRangeIter h it (lo+ (i:Nat) *1) ((n:Int) - (i:Nat)) 1) where
 mem:=by simp
 obj:=λi h st b j=>by
  let e:b=it:=by simpa using j
  subst e;show⟨_,st,λv z=>by
   let z':Data.fields _=Data.cell v:=z;cases z'⟩
 keep:=λi h h' st k=>k it (by simp) _ st
 item:=by intro X F hw U hc i pZ s σ H E I hf st hg;subst F hw U;let(f0,f1,f2,f3,f4,f5):=hf it (by simp);let hc:=hc.resolve_right λz=>BL<|show ge=Z from z.1;show(Walks.range (prog:=X.prog) (w:=X.w) (I.ok.hd hc) it lo 1 n).item i s _ _ hg st λv h' tk hv D kk=>?_;let(t,O):=hv;let I1:Ck X pZ σ H {s with heap:=h',toks:=tk}:=I.turned (λb o j e=>kk b o (by simpa using j) e) f0 f1 f3 f4 f5;show{_,O,mL (s:={s with heap:=h',toks:=tk}) (n:="range_iterator") D O O Aa {.int<|lo+i,H,I1,{t,?_},{(O),O},D,λb j=>(hf b j).1}};rw[Int.mul_one]
 done:=by intro X F hw U hc i pZ s σ H E I hf st hg;subst F hw U;let(f0,f1,f2,f3,f4,f5):=hf it (by simp);let hc:=hc.resolve_right λz=>BL<|show ge=Z from z.1;show wpAny_pyNext_range_end (I.ok.hd hc) st (by have:n<=i:=hg;lia) λh' eb=>{O,I.turned (t':=s.toks) (λb o j e=>eb b o j e) f0 f1 f3 f4 f5}
 self:=λ_ _ _ _ _ st h=>wpAny_pyIter_rangeiter st h
section
variable{X:Cx}{tg:Expr}
inductive T7(K:Az)(R:It->Hp->Prop)(x:V)(H1:Hp):Prop|mk (a:_) (_:x= .ref a) (_: (∃xs,BX K H1 a xs)) (_:R (T9 K a) H1)
def C3(K:Az)(tl:TE):TI:=λσ H R=>tl σ H λx H1=>T7 K R x H1
inductive A0Q(K:Az)(R:It->Hp->Prop)(x:V)(H1:Hp):Prop|mk (a:_) (_:x= .ref a) (_: (∃xs,GK K H1 a xs)) (_:R (Itt K a) H1)
def A25(K:Az)(tl:TE):TI:=λσ H R=>tl σ H λx H1=>A0Q K R x H1
def CY{l:Expr}{tl:TE}(hl:PE X l tl):PI X tg l (C3 X.K tl):=by
 intro 0 R I h;show DY (hl pZ s σ H _ I h) λv s1 j=>?_;let(x,H1,z,D,F):=j;let(a,e,(xs,hq),q):=F;subst e;cases D;let(U,rv,p,hz):=z.list hq;show Qc p.isList ?_;show{↑s1,[↑s1],_,_,H1,O,z.kept (t':=s1.toks) λb o e=>AD _ e,nW a _,{_,Bx _ O,O,O},λb hb=>?_,q};let e:b=↑s1:=by simpa using hb
 subst e;show z.fpOk (AU _)<|z.hok.fresh (AU _)
def K4{l:Expr}{tl:TE}(hl:PE X l tl):PI X tg l (A25 X.K tl):=by
 intro 0 R I h;show DY (hl pZ s σ H _ I h) λv s1 j=>?_;let(x,H1,z,F,U):=j;let(a,e,(xs,hq),q):=U;subst e;cases F;let(D,rv,p,hz):=z.tuple hq;show wpAny_pyIter_tuple (show s1.heap.IsTuple a D.toArray from p) ?_;show{↑s1,[↑s1],_,_,H1,O,z.kept (t':=s1.toks) λb o e=>AD _ e,iH a _,{_,Bx _ O,O,O},λb hb=>?_,q};let e:b=↑s1:=by simpa using hb
 subst e;show z.fpOk (AU _)<|z.hok.fresh (AU _)
def fC{pZ:List (AH×Obj)}{σ:St}{H:Hp}{s:AJ}{R:It->Hp->Prop}{E:Ay->AJ->Prop}{lo hi:Int}{t u v:Tok}{tk:Nat}(I:Ck X pZ σ H s)(h1: -(2 ^ 62)<=lo)(h2:lo<2 ^ 62)(h3: -(2 ^ 62)<=hi)(D:hi<2 ^ 62)(q:R (D6 lo (hi - lo).toNat) H):Bz (model X.prog X.w) X.A (pyIter<|.ref ↑s) (D3 X pZ σ tg R) E {s with heap:=s.heap.push {cls:=.type "range",data:=.fields #[.int lo t,.int hi u,.int 1 v]},toks:=tk}:=by
 show wpAny_pyIter_range (IsRange.new ..) (small_one h1 h2 h3 D) ?_;let j:Ck X pZ σ H {s with heap:=s.heap.push {cls:=.type "range",data:=.fields #[.int lo t,.int hi u,.int 1 v]},toks:=tk}:=I.kept λb o e=>AD _ e;show{(s.heap.push {cls:=.type "range",data:=.fields #[.int lo t,.int hi u,.int 1 v]}).objs.size,[(s.heap.push {cls:=.type "range",data:=.fields #[.int lo t,.int hi u,.int 1 v]}).objs.size],_,_,H,O,j.kept (t':=tk) λb o e=>AD _ e,iI _ lo (hi - lo).toNat,?_,λb z=>?_,q}
 ·let U:lo+ ((0:Nat):Int) *1=lo:=by simp
  let F: (((hi - lo).toNat:Nat):Int) - ((0:Nat):Int)=Builtin.Range.rangeSize lo hi 1:=by rw[rangeSize_one];split <;> lia
  change IsRangeIter _ _ (lo+ ((0:Nat):Int) *1) ((((hi - lo).toNat:Nat):Int) - ((0:Nat):Int)) 1;rw[U,F];show Bx _ O
 let e:b=(s.heap.push {cls:=.type "range",data:=.fields #[.int lo t,.int hi u,.int 1 v]}).objs.size:=by simpa using z
 subst e;show j.fpOk (AU _)<|j.hok.fresh (AU _)
inductive T5(R:It->Hp->Prop)(vs:List V)(H1:Hp):Prop|mk (j:Int) (_:vs=[.int j]) (_: -(2 ^ 62)<=j) (_:j<2 ^ 62) (_:R (D6 0 j.toNat) H1)
def A09(ta:TA):TI:=λσ H R=>ta σ H λvs H1=>T5 R vs H1
inductive T4(R:It->Hp->Prop)(vs:List V)(H1:Hp):Prop|mk (i j:Int) (_:vs=[.int i,.int j]) (_: (-(2 ^ 62)<=i/\i<2 ^ 62/\ -(2 ^ 62)<=j/\j<2 ^ 62)) (_:R (D6 i (j - i).toNat) H1)
def A08(ta:TA):TI:=λσ H R=>ta σ H λvs H1=>T4 R vs H1
def Hq{a:Expr}{ta:TA}{p pos:IZ}(hg:Gl X "range")(hm:X.mg "range"=S)(ha:PA X [a] ta)(hs: ~~~(Br [a] X.env=[(ge,Dh a X.env)])):PI X tg (.Call (.Name "range" p) [a] [] pos) (A09 ta):=by
 intro 0 R I h;show Call_<|LR I hg hm boot_range (DW (DY (ha pos pZ s σ H _ I h) λus s1 z=>?_) hs O);let(vs,H1,I1,F,D):=z;let(j,e,D,U,q):=D;subst e;cases F with
 |cons r rr=>
  cases rr;let(t,O):=r;show call_range_1 (fC I1 () () D U<|by simpa using q)
def oU{a b:Expr}{ta:TA}{p pos:IZ}(hg:Gl X "range")(hm:X.mg "range"=S)(ha:PA X [a,b] ta)(hs: ~~~(Br [a,b] X.env=[(ge,Dh a X.env),(ge,Dh b X.env)]))(z: ~~~(Br [b] X.env=[(ge,Dh b X.env)])):
  PI X tg (.Call (.Name "range" p) [a,b] [] pos) (A08 ta):=by
 intro 0 R I h;show Call_ (LR I hg hm boot_range<|DW (DY (ha pos pZ s σ H _ I h) λus s1 D=>?_) (by rw[hs,z]) (by rw[z];rfl));let(vs,H1,I1,U,F):=D;let(i,j,e,(F,q2,q3,q4),q):=F;subst e;cases U with
 |cons r rr=>
  cases rr with
  |cons r' rr=>
   cases rr;let(t,O):=r;let(t',O):=r';show call_range_2<|fC I1 F q2 q3 q4 q
def A1v(wi:TI)(g:TG)(tb:TS):TS:=λD σ H=>wi σ H λJ H1=>∃W:Nat->Nat->St->Hp->Prop,(∃m,W 0 m σ H1)/\∀i m σ H,W i m σ H->(J.stop i H/\D.nx σ H)\/(J.go i H/\∃N:St->Hp->Prop,(∀σ' H',N σ' H'->∃z,z<m/\W (i+1) z σ' H')/\∀x H',J.yld i H x H'->g x σ H' λj H2=>tb {D with nx:=N,ct:=N,bk:=D.nx} j H2)
def SH(fp:List AH)(h:CA):List (AH×Obj):=fp.filterMap λb=>(h.get? b).map λo=>(b,o)
def Ni{fp:List AH}{h:CA}{b:AH}{o:Obj}(j:b∈fp)(e:h.get? b=Y o): (b,o)∈SH fp h:=MH.mpr {b,j,by rw[e];rfl}
def px{fp:List AH}{h:CA}{p:AH×Obj}(hp:p∈SH fp h):p.1∈fp/\h.get? p.1=Y p.2:=by
 let(b,j,e):=MH.mp hp;cases q:h.get? b with
 |none=>rw[q]at e;cases e
 |some o=>
  rw[q]at e;let z: (b,o)=p:=AK e;subst z;show{(j),q}
def Ck.pinned{pZ:List (AH×Obj)}{σ:St}{H:Hp}{s:AJ}{fp:List AH}(I:Ck X pZ σ H s)(hf:∀b∈fp,Ti X pZ H b)(F:∀b∈fp,∃o,s.heap.get? b=Y o/\∀v,o.data≠ .cell v):Ck X (pZ++SH fp s.heap) σ H s:=I.pins_of λp hp=>(Bt.mp hp).elim (λz=>I.pin p<|BJ _ z) λz=>by
  let(j,e):=px z;let(U,f1,f2,_):=hf p.1 j;let(o,D,d):=F p.1 j;rw[e]at D;cases D;show{(e),U,f1,f2,d}
def Ck.unpinned{pZ pl:List (AH×Obj)}{σ:St}{H:Hp}{s:AJ}(I:Ck X (pZ++pl) σ H s):Ck X pZ σ H s:=I.pins_of λp hp=>I.pin p<|BJ _ (Cu _ hp)
def JN{iter:Expr}{body:List JW}{wi:TI}{g:TG}{tb:TS}{pos:IZ}(hp:PassesOwn (model X.prog X.w) X.A X.env X.xe)(hc:X.calm=Z)(hi:PI X tg iter wi)(hg:PG X tg g)(U:Ug X body tb)(hs:∀x,KS iter X.env x=ID x:=by intro _;rfl):PS X (.For tg iter body [] pos) (A1v wi g tb):=by
 intro 0 D I h;show wpAny_For (DY (hi pZ s σ H _ I h) λv s1 h1=>DY h1 λe1 s2 h2=>?_) hs;let(it,fp,tn,J,H2,e,I2,T,b8,f2,W,(m0,w0),a6):=h2;subst e;let F:∀{H':Hp},(∀b∈fp,H' b=S)->∀b∈fp,Ti X pZ H' b:=λhn b U=>{hn b U,(f2 b U).2};show codeAny_forLoop_any (λn s'=>∃i σ' H',Ck X pZ σ' H' s'/\tn i s'.heap/\(∀b∈fp,H' b=S)/\W i n σ' H') ?_ m0 {0,σ,H2,I2,b8,λb U=>(f2 b U).1,w0};rintro n s3 ⟨i,z,H3,I3,a7,b4,w3⟩;rcases a6 i n z H3 w3 with⟨stop,qn⟩|⟨go,N,hN,step⟩;·show No hp<|DY (T.done X O O O (.inl hc) i pZ s3 z H3 X.xe I3 (F b4) a7 stop) λr s4 b3=>?_;let(hr,I4):=b3;subst hr;show wpAny_execs_nil {(z),H3,I4,qn}
 show No hp<|DY (T.item X O O O (.inl hc) i pZ s3 z H3 X.xe I3 (F b4) a7 go) λr s4 b2=>?_;let(u,hr,h4):=b2;subst hr;show No hp<|DY h4 λ_ s5 b1=>?_;let(x,H5,I5,r5,y5,a5,c2):=b1;show No hp<|DY (hg _ s5 z H5 x u _ (I5.pinned (F c2)<|T.obj _ _ a5) r5<|step x H5 y5) λ_ s6 b0=>?_;let(b5,H6,I6,q6):=b0;show No hp<|DY (U _ s6 b5 H6 _ I6 q6) λf s7 q7=>?_;let again:∀{j:St} {H7:Hp},Ck X (pZ++SH fp s5.heap) j H7 s7->N j H7->∃m,m<n/\∃i σ' H',Ck X pZ σ' H' s7/\tn i s7.heap/\(∀b∈fp,H' b=S)/\W i m σ' H':=λ{j H7} I7 n7=>by
  let(m',hm,w7):=hN j H7 n7;show{m',hm,i+1,j,H7,I7.unpinned,T.keep _ _ _ a5 λb U o e=>(I7.pin (b,o)<|BJ _ (BJ _<|Ni U e)).1,λb U=>?_,w7};let(o,e,d):=T.obj _ _ a5 b U;show(I7.pin (b,o)<|BJ _ (BJ _<|Ni U e)).2.1
 cases f with|next=>let(j,H7,I7,n7):=q7;show again I7 n7|cont=>let(j,H7,I7,n7):=q7;show again I7 n7|brk=>let(j,H7,I7,q7):=q7;show{(j),H7,I7.unpinned,q7}|ret v=>let(x7,j,H7,I7,r7,q7):=q7;show{(x7),j,H7,I7.unpinned,r7,q7}
end
def OF{K:Az}{a:AH}{xs:List V}{g:TG}{tb:TS}{D:UE}{σ:St}{H:Hp}(Pv:Nat->St->Hp->Prop)(h0:Pv 0 σ H)(hl:∀i σ H,i<=xs.length->Pv i σ H->BX K H a xs)(hs:∀i x σ H,xs[i]?=Y x->Pv i σ H->g x σ H λj H2=>tb {D with nx:=Pv<|i+1,ct:=Pv<|i+1,bk:=D.nx} j H2)(hd:∀σ H,Pv xs.length σ H->D.nx σ H):
  ∃W:Nat->Nat->St->Hp->Prop,(∃m,W 0 m σ H)/\∀i m σ H,W i m σ H->((T9 K a).stop i H/\D.nx σ H)\/((T9 K a).go i H/\∃N:St->Hp->Prop,(∀σ' H',N σ' H'->∃F,F<m/\W (i+1) F σ' H')/\∀x H',(T9 K a).yld i H x H'->g x σ H' λj H2=>tb {D with nx:=N,ct:=N,bk:=D.nx} j H2):=by
 show{λi m σ H=>m=xs.length - i/\i<=xs.length/\Pv i σ H,{xs.length,by simp,BY _,h0},?_};rintro i m σ H ⟨rfl,hi,p⟩;let q:=hl i σ H hi p;by_cases z:i<xs.length;·show .inr {{xs,xs[i],q,by simp[z]},Pv<|i+1,λσ' H' U=>{xs.length - (i+1),(),O,z,U},λx H' y=>?_};let(e,y):=y;subst e;show hs i x σ _ (y xs q) p
 let e:i=xs.length:=()
 subst e;show .inl {{xs,q,AU _},hd σ H p}
def SW{lo:Int}{n:Nat}{g:TG}{tb:TS}{D:UE}{σ:St}{H:Hp}(Pv:Nat->St->Hp->Prop)(h0:Pv 0 σ H)(hs:∀i σ H,i<n->Pv i σ H->g (.int<|lo+i) σ H λj H2=>tb {D with nx:=Pv<|i+1,ct:=Pv<|i+1,bk:=D.nx} j H2)(hd:∀σ H,Pv n σ H->D.nx σ H):
  ∃W:Nat->Nat->St->Hp->Prop,(∃m,W 0 m σ H)/\∀i m σ H,W i m σ H->((D6 lo n).stop i H/\D.nx σ H)\/((D6 lo n).go i H/\∃N:St->Hp->Prop,(∀σ' H',N σ' H'->∃F,F<m/\W (i+1) F σ' H')/\∀x H',(D6 lo n).yld i H x H'->g x σ H' λj H2=>tb {D with nx:=N,ct:=N,bk:=D.nx} j H2):=by
 show{λi m σ H=>m=n - i/\i<=n/\Pv i σ H,{n,by simp,BY _,h0},?_};rintro i m σ H ⟨rfl,hi,p⟩;by_cases z:i<n;·show .inr {z,Pv<|i+1,λσ' H' U=>{n - (i+1),(),O,z,U},λx H' y=>?_};let(e,y):=y;subst e y;show hs i σ _ z p
 let e:i=n:=()
 subst e;show .inl {AU _,hd σ H p}
abbrev R2:=V->V->Hp->VK->Prop
def NA(X:Cx)(f:Ay->Ay->Sem Ay)(r:R2):Prop:=∀(pZ:List (AH×Obj)) (s:AJ) (σ:St) (H:Hp) (x y:V) (v u:Ay) (Q:VK),Ck X pZ σ H s->CZ x v->CZ y u->r x y H Q->Bz (model X.prog X.w) X.A (f v u) (EP X pZ σ Q) X.xe s
def UnR(X:Cx)(f:Ay->Sem Ay)(r:V->Hp->VK->Prop):Prop:=∀(pZ:List (AH×Obj)) (s:AJ) (σ:St) (H:Hp) (x:V) (v:Ay) (Q:VK),Ck X pZ σ H s->CZ x v->r x H Q->Bz (model X.prog X.w) X.A (f v) (EP X pZ σ Q) X.xe s
def FK(X:Cx)(f:Ay)(r:List V->Hp->VK->Prop):Prop:=∀(pZ:List (AH×Obj)) (s:AJ) (σ:St) (H:Hp) (xs:List V) (us:List Ay) (Q:VK),Ck X pZ σ H s->CB xs us->r xs H Q->Bz (model X.prog X.w) X.A (call f us) (EP X pZ σ Q) X.xe s
def F9(r:R2)(ta tb:TE):TE:=λσ H Q=>ta σ H λx H1=>tb σ H1 λy H2=>r x y H2 Q
def tUn(r:V->Hp->VK->Prop)(ta:TE):TE:=λσ H Q=>ta σ H λx H1=>r x H1 Q
inductive JrI(C:Int->Int->Prop)(g:Int->Int->V)(x:V)(y:V)(H:Hp)(Q:VK):Prop|mk (i j:_) (_:x= .int i) (_:y= .int j) (_:C i j) (_:Q (g i j) H)
def rI(C:Int->Int->Prop)(g:Int->Int->V):R2:=λx y H Q=>JrI C g x y H Q
inductive A2r(g:Int->Int->V)(x:V)(y:V)(H:Hp)(Q:VK):Prop|mk (i j:_) (_:x= .int i) (_:y= .int j) (_:Q (g i j) H)
def J5(g:Int->Int->V):R2:=λx y H Q=>A2r g x y H Q
inductive JrU(g:Int->V)(x:V)(H:Hp)(Q:VK):Prop|mk (i:_) (_:x= .int i) (_:Q (g i) H)
def rU(g:Int->V):V->Hp->VK->Prop:=λx H Q=>JrU g x H Q
section
variable{X:Cx}{a b c:Expr}{ta tb tc:TE}{pos:IZ}
def R9(ha:PE X a ta)(hb:PE X b tb){pZ:List (AH×Obj)}{s:AJ}{σ:St}{H:Hp}{R:V->V->Hp->Prop}(I:Ck X pZ σ H s)(h:ta σ H λx H1=>tb σ H1 λy H2=>R x y H2){Q:Ay->AJ->Prop}{f:Ay->Ay->Sem Ay}(hf:∀v u s2 x y H2,Ck X pZ σ H2 s2->CZ x v->CZ y u->R x y H2->Bz (model X.prog X.w) X.A (f v u) Q X.xe s2):
  Bz (model X.prog X.w) X.A (Dh a X.env) (λv z=>Bz (model X.prog X.w) X.A (Dh b X.env) (λu j=>Bz (model X.prog X.w) X.A (f v u) Q X.xe j) X.xe z) X.xe s:=by show DY (ha pZ s σ H _ I h) λv s1 F=>?_;let(x,H1,I1,r1,q1):=F;show DY (hb pZ s1 σ H1 _ I1 q1) λu s2 D=>?_;let(y,H2,I2,U,q2):=D;show hf v u s2 x y H2 I2 r1 U q2
def Bb{op:Operator}{r:R2}(D:NA X (MD op) r)(ha:PE X a ta)(F:PE X b tb):PE X (.BinOp a op b pos) (F9 r ta tb):=by intro 0 Q I h;show wpAny_BinOp<|R9 ha F I h λv u s2 x y H2 U z j q=>D pZ s2 σ H2 x y v u Q U z j q
def lQ{op:UnaryOp}{r:V->Hp->VK->Prop}(F:UnR X (unaryOp op) r)(ha:PE X a ta):PE X (.UnaryOp op a pos) (tUn r ta):=by intro 0 Q I h;show UnaryOp_ (DY (ha pZ s σ H _ I h) λv s1 j=>(by let(x,H1,U,z,D):=j;show F pZ s1 σ H1 x v Q U z D))
def opI{f:Ay->Ay->Sem Ay}{C:Int->Int->Prop}{g:Int->Int->Int}(rule:∀(i j:Int) (t u:Tok) (s:AJ) (Q:Ay->AJ->Prop) (E:Ay->AJ->Prop),C i j->Q (.int (g i j) s.toks) {s with toks:=s.toks+1}->Bz (model X.prog X.w) X.A (f (.int i t)<|.int j u) Q E s):
  NA X f (rI C λi j=>.int<|g i j):=by intro 0 x y v u Q I D z h;let(i,j,O,O,hc,q):=h;let(t,O):=D;let(t',O):=z;show rule i j t t' s _ _ hc {.int<|g i j,H,I.tok _,{(_),O},q}
def x2{f:Ay->Ay->Sem Ay}{g:Int->Int->Int}(rule:∀(i j:Int) (t u:Tok) (s:AJ) (Q:Ay->AJ->Prop) (E:Ay->AJ->Prop),Q (.int (g i j) s.toks) {s with toks:=s.toks+1}->Bz (model X.prog X.w) X.A (f (.int i t)<|.int j u) Q E s):
  NA X f (J5 λi j=>.int<|g i j):=by intro 0 x y v u Q I D z h;let(i,j,O,O,q):=h;let(t,O):=D;let(t',O):=z;show rule i j t t' s _ _ {.int<|g i j,H,I.tok _,{(_),O},q}
def L8{f:Ay->Ay->Sem Ay}{g:Int->Int->Bool}(rule:∀(i j:Int) (t u:Tok) (s:AJ) (Q:Ay->AJ->Prop) (E:Ay->AJ->Prop),Q (.bool<|g i j) s->Bz (model X.prog X.w) X.A (f (.int i t)<|.int j u) Q E s):
  NA X f (J5 λi j=>.bl<|g i j):=by intro 0 x y v u Q I D z h;let(i,j,O,O,q):=h;let(t,O):=D;let(t',O):=z;show rule i j t t' s _ _ {.bl<|g i j,H,I,O,q}
def rh(i j:Int):Prop:=0<j/\j<1073741824
def U5(i j:Int):Prop:=(-(2 ^ 64) <i/\i<2 ^ 64)\/(-(2 ^ 64) <j/\j<2 ^ 64)
def U5.ok{i j:Int}(h:U5 i j):IntMulOk i j:=by
 rcases h with⟨h1,h2⟩|⟨h1,h2⟩;·show .of_left<|intBits_le_64 h1 h2
 show .of_right<|intBits_le_64 h1 h2
def CS:NA X (MD .Add) (J5 λi j=>.int<|i+j):=x2 λ_ _ _ _ _ _ _ q=>add_int q
def Wf:NA X (MD .Sub) (J5 λi j=>.int<|i - j):=x2 λ_ _ _ _ _ _ _ q=>sub_int q
def LN:NA X (MD .Mult) (rI U5 λi j=>.int<|i*j):=opI λ_ _ _ _ _ _ _ hc q=>mul_int q hc.ok
def Dc:NA X (MD .FloorDiv) (rI rh λi j=>.int<|i/j):=opI λi j _ _ _ _ _ hc q=>by
 let h1: (0:Int) <j:=hc.1;let h2:j<1073741824:=hc.2;show floordiv_int () (by rw[Int.fdiv_eq_ediv_of_nonneg i ()];show q) (.inl<|PyProof.noPylong_small ())
def CD:NA X (MD .Mod) (rI (λ_ j=>0<j) λi j=>.int<|i%j):=opI λi j _ _ _ _ _ hc q=>by
 let h1: (0:Int) <j:=hc;show mod_int' () (by rw[Int.fmod_eq_emod_of_nonneg i ()];show q)
def unI{f:Ay->Sem Ay}{g:Int->Int}(rule:∀(i:Int) (t:Tok) (s:AJ) (Q:Ay->AJ->Prop) (E:Ay->AJ->Prop),Q (.int (g i) s.toks) {s with toks:=s.toks+1}->Bz (model X.prog X.w) X.A (f<|.int i t) Q E s):
  UnR X f (rU λi=>.int<|g i):=by intro 0 x v Q I j h;let(i,O,q):=h;let(t,O):=j;show rule i t s _ _ {.int<|g i,H,I.tok _,{(_),O},q}
def bI:UnR X (unaryOp .USub) (rU λi=>.int<|-i):=unI λ_ _ _ _ _ q=>neg_int q
end
def xK:V->V->Bool|.non,.non=>Z|.non,.int _=>Z|.int _,.non=>Z|.non,.bl _=>Z|.bl _,.non=>Z|.non,.str _=>Z|.str _,.non=>Z|.int _,.int _=>Z|.bl _,.bl _=>Z|.str _,.str _=>Z|.byt _,.byt _=>Z|.int _,.str _=>Z|.str _,.int _=>Z|.bl _,.str _=>Z|.str _,.bl _=>Z|_,_=>ge
inductive A2s(x:V)(y:V)(H:Hp)(Q:VK):Prop|mk (_:xK x y=true) (_:Q (.bl<|decide (x=y)) H)
def rEq:R2:=λx y H Q=>A2s x y H Q
inductive A2p(x:V)(y:V)(H:Hp)(Q:VK):Prop|mk (_:xK x y=true) (_:Q (.bl<|!decide (x=y)) H)
def rNe:R2:=λx y H Q=>A2p x y H Q
def mV{i j:Int}:decide (V.int i=V.int j)=(i==j):=by rw[Lf];simp
def vy{i j:Bool}:decide (V.bl i=V.bl j)=(i==j):=by rw[Lf];simp
def mU{i j:AO}:decide (V.str i=V.str j)=(i==j):=by rw[Lf];simp
def mW{i j:Array UInt8}:decide (V.byt i=V.byt j)=(i.toList==j.toList):=by rw[Lf];cases i;cases j;simp
section
variable{X:Cx}{a b c:Expr}{ta tb tc:TE}{pos:IZ}
def Dz{pZ:List (AH×Obj)}{σ:St}{H:Hp}{s:AJ}{Q:VK}{k j:Bool}(I:Ck X pZ σ H s)(q:Q (.bl k) H)(e:k=j):EP X pZ σ Q (.bool j) s:=by subst e;show{.bl k,H,I,O,q}
def Do:NA X (DB .Eq) rEq:=by
 intro 0 x y v u Q I D z h;let(hs,q):=h;cases x with
 |non=>
  cases D;cases y with|non=>cases z;show PySem.EqNone.eq_none_none (Dz I q<|by simp)|bl j=>cases z;show PySem.EqNone.eq_none_bool (Dz I q<|by simp)|int j=>let(t',O):=z;show PySem.EqNone.eq_none_int (Dz I q<|by simp)|str j=>let(t',O):=z;show PySem.EqNone.eq_none_str (Dz I q<|by simp)|_=>show A3p (show ge=Z from hs) Bm
 |bl i=>
  cases D;cases y with|non=>cases z;show PySem.EqNone.eq_bool_none (Dz I q<|by simp)|bl j=>cases z;show eq_bool<|Dz I q vy|str j=>let(t',O):=z;show PySem.EqMixed.eq_bool_str (Dz I q<|by simp)|_=>show A3p (show ge=Z from hs) Bm
 |int i=>
  let(t,O):=D;cases y with|non=>cases z;show PySem.EqNone.eq_int_none (Dz I q<|by simp)|int j=>let(t',O):=z;show eq_int<|Dz I q mV|str j=>let(t',O):=z;show PySem.EqMixed.eq_int_str (Dz I q<|by simp)|_=>show A3p (show ge=Z from hs) Bm
 |str i=>
  let(t,O):=D;cases y with|non=>cases z;show PySem.EqNone.eq_str_none (Dz I q<|by simp)|bl j=>cases z;show PySem.EqMixed.eq_str_bool (Dz I q<|by simp)|int j=>let(t',O):=z;show PySem.EqMixed.eq_str_int (Dz I q<|by simp)|str j=>let(t',O):=z;show eq_str<|Dz I q mU|_=>show A3p (show ge=Z from hs) Bm
 |byt i=>
  let(t,O):=D;cases y with|byt j=>let(t',O):=z;show PySem.W.eq_bytes<|Dz I q mW|_=>show A3p (show ge=Z from hs) Bm
 |_=>cases y <;> show A3p (show ge=Z from hs) Bm
def Ri:NA X (DB .NotEq) rNe:=by
 intro 0 x y v u Q I D z h;let(hs,q):=h;cases x with
 |non=>
  cases D;cases y with|non=>cases z;show PySem.EqNone.ne_none_none (Dz I q<|by simp)|bl j=>cases z;show PySem.EqNone.ne_none_bool (Dz I q<|by simp)|int j=>let(t',O):=z;show PySem.EqNone.ne_none_int (Dz I q<|by simp)|str j=>let(t',O):=z;show PySem.EqNone.ne_none_str (Dz I q<|by simp)|_=>show A3p (show ge=Z from hs) Bm
 |bl i=>
  cases D;cases y with|non=>cases z;show PySem.EqNone.ne_bool_none (Dz I q<|by simp)|bl j=>cases z;show ne_bool<|Dz I q (A3o not vy)|str j=>let(t',O):=z;show PySem.EqMixed.ne_bool_str (Dz I q<|by simp)|_=>show A3p (show ge=Z from hs) Bm
 |int i=>
  let(t,O):=D;cases y with|non=>cases z;show PySem.EqNone.ne_int_none (Dz I q<|by simp)|int j=>let(t',O):=z;show ne_int<|Dz I q (A3o not mV)|str j=>let(t',O):=z;show PySem.EqMixed.ne_int_str (Dz I q<|by simp)|_=>show A3p (show ge=Z from hs) Bm
 |str i=>
  let(t,O):=D;cases y with|non=>cases z;show PySem.EqNone.ne_str_none (Dz I q<|by simp)|bl j=>cases z;show PySem.EqMixed.ne_str_bool (Dz I q<|by simp)|int j=>let(t',O):=z;show PySem.EqMixed.ne_str_int (Dz I q<|by simp)|str j=>let(t',O):=z;show ne_str<|Dz I q (A3o not mU)|_=>show A3p (show ge=Z from hs) Bm
 |byt i=>
  let(t,O):=D;cases y with|byt j=>let(t',O):=z;show PySem.W.ne_bytes<|Dz I q (A3o not mW)|_=>show A3p (show ge=Z from hs) Bm
 |_=>cases y <;> show A3p (show ge=Z from hs) Bm
def B7:NA X (DB .Lt) (J5 λi j=>.bl<|decide (i<j)):=L8 λ_ _ _ _ _ _ _ q=>lt_int q
def au:NA X (DB .LtE) (J5 λi j=>.bl<|decide (i<=j)):=L8 λ_ _ _ _ _ _ _ q=>le_int q
def TR:NA X (DB .Gt) (J5 λi j=>.bl<|decide (j<i)):=L8 λ_ _ _ _ _ _ _ q=>gt_int q
def ph:NA X (DB .In) (λx y H Q=>∃i j,x= .str i/\y= .str j/\Q (.bl<|!(Fi j i 0 j.length 1).isEmpty) H):=by intro 0 x y v u Q I D z h;let(i,j,O,O,q):=h;let(t,O):=D;let(t',O):=z;show in_str<|Dz I q O
def Ng:NA X (DB .Is) (λx y H Q=>y= .non/\Q (.bl<|decide (x= .non)) H):=by
 intro 0 x y v u Q I j z h;let(O,q):=h;cases z;show is_none_gen<|Dz I q ?_;cases x <;> first
  |(cases j;rfl)|(let(t,O):=j;rfl)
def lV:NA X (DB .IsNot) (λx y H Q=>y= .non/\Q (.bl<|!decide (x= .non)) H):=by
 intro 0 x y v u Q I j z h;let(O,q):=h;cases z;show isnot_none_gen<|Dz I q ?_;cases x <;> first
  |(cases j;rfl)|(let(t,O):=j;rfl)
def NA.or{f:Ay->Ay->Sem Ay}{r D:R2}(h:NA X f r)(h':NA X f D):NA X f (λx y H Q=>r x y H Q\/D x y H Q):=by
 intro 0 x y v u Q I z j q;rcases q with q|q;·show h pZ s σ H x y v u Q I z j q
 show h' pZ s σ H x y v u Q I z j q
def IJ(b:Expr){op:CmpOp}(h:↑(op≠ .In))(h2:↑(op≠ .NotIn)):JA op b=false:=by
 let z: (op==CmpOp.In)=false:=by cases op <;> first|rfl|show A3p rfl h
 let j: (op==CmpOp.NotIn)=false:=by cases op <;> first|rfl|show A3p rfl h2
 cases b <;> simp[JA,z,j]
def GH{op:CmpOp}{r:R2}(D:NA X (DB op) r)(ha:PE X a ta)(F:PE X b tb)(hm:JA op b=ge):PE X (.Compare a [op] [b] pos) (F9 r ta tb):=by intro 0 Q I h;show wpAny_Compare1 (R9 ha F I h λv u s2 x y H2 U z j q=>D pZ s2 σ H2 x y v u Q U z j q) hm
inductive S5(Q:Bool->Hp->Prop)(x:V)(H':Hp):Prop|mk (k:_) (_:x= .bl k) (_:Q k H')
def A9(t:TE):TT:=λσ H Q=>t σ H λx H'=>S5 Q x H'
def Lu{op:CmpOp}{r:R2}(ho:NA X (DB op) r)(ha:PE X a ta)(hb:PE X b tb)(hm:JA op b=ge):PT X (.Compare a [op] [b] pos) (A9<|F9 r ta tb):=by
 intro 0 Q I h;show wpAny_isTrue_Compare1 (DY (ha pZ s σ H _ I h) λv s1 {(x),H1,I1,F,q1}=>DY (hb pZ s1 σ H1 _ I1 q1) λu s2 {(y),H2,I2,D,q2}=>
  DY (ho pZ s2 σ H2 x y v u _ I2 F D q2) λc s3 {(z),H3,I3,j,k,e,U}=>?_) hm
 subst e;cases j;show Gn {(H3),I3,U}
def G5(r D:R2)(ta tb tc:TE):TE:=λσ H Q=>ta σ H λx H1=>tb σ H1 λy H2=>r x y H2 λz H3=>∃k,z= .bl k/\(if k=Z then tc σ H3 λj F=>D y j F Q else Q (.bl ge) H3)
def fH{op j:CmpOp}{r U:R2}(ho:NA X (DB op) r)(D:NA X (DB j) U)(ha:PE X a ta)(hb:PE X b tb)(hc:PE X c tc)(hm:lastMarks [op,j] [b,c]=false:=by with_unfolding_all rfl):PE X (.Compare a [op,j] [b,c] pos) (G5 r U ta tb tc):=by
 intro 0 Q I h;show Compare_chain (DY (ha pZ s σ H _ I h) λv s1 {(x),H1,I1,r1,q1}=>chain_link (DY (hb pZ s1 σ H1 _ I1 q1) λu s2 {(y),H2,I2,F,q2}=>
  DY (ho pZ s2 σ H2 x y v u _ I2 r1 F q2) λd s3 {(z),H3,I3,r3,k,e,q3}=>?_)) hm
 subst e;cases r3;show Gn ?_;cases k with|false=>show ite_ff {.bl ge,H3,I3,O,q3}|true=>show ite_tt<|chain_last (DY (hc pZ s3 σ H3 _ I3 q3) λw' s4 {(z'),H4,I4,r4,q4}=>D pZ s4 σ H4 y z' u w' Q I4 F r4 q4)
def WF: (sizeLine:Nat) <2 ^ 63:=by rw[Ec];decide
def BO:NA X (MD .Add) (λx y H Q=>∃i j,x= .str i/\y= .str j/\i.length+j.length<=sizeLine/\Q (.str<|i++j) H):=by intro 0 x y v u Q I D z h;let(i,j,O,O,F,q):=h;let(t,O):=D;let(t',O):=z;show add_str (λt' tk=>{.str<|i++j,H,I.tok _,{(_),O},q}) F
def Lo{x:V}{us:List Ay}(r:CB [x] us):∃u,us=[u]/\CZ x u:=by cases r with|cons z j=>cases j;show{(_),O,z}
def dR{x y:V}{us:List Ay}(r:CB [x,y] us):∃u j,us=[u,j]/\CZ x u/\CZ y j:=by
 cases r with
 |cons U F=>
  cases F with|cons D z=>cases z;show{(_),_,O,U,D}
def Ta(hc:X.calm=Z):FK X (.builtin "max") (λxs H Q=>∃i j,xs=[.int i,.int j]/\Q (.int<|if j>i then j else i) H):=by
 intro 0 xs us Q I r h;let(i,j,O,q):=h;let(u,D,O,(t,O),(t',O)):=dR r;show max_two_ints (I.ok.hd hc) λh' tk k=>{_,H,I.kept k,?_,q};by_cases z:j>i;·rw[A3n z,A3n z];show{(_),O}
 rw[A3m z,A3m z];show{(_),O}
def Tb:FK X (.type "int") (λxs H Q=>(∃i,xs=[.int i]/\Q (.int i) H)\/∃k,xs=[.bl k]/\Q (.int<|if k then 1 else 0) H):=by
 intro 0 xs us Q I r h;rcases h with⟨i,rfl,q⟩|⟨k,rfl,q⟩;·let(u,O,t,O):=Lo r;show call_int_int {.int i,H,I,{(_),O},q}
 let(u,O,j):=Lo r;cases j;show call_int_bool {.int<|if k then 1 else 0,H,I.tok _,{(_),O},q}
def Em:FK X (.type "str") (λxs H Q=>∃i,xs=[.int i]/\i.natAbs.log2<1920/\Q (.str<|bn i) H):=by intro 0 xs us Q I r h;let(i,O,j,q):=h;let(u,O,t,O):=Lo r;show PySem.P.str_of_int j {.str _,H,I.tok _,{(_),O},q}
def vG:FK X (.builtin "ord") (λxs H Q=>∃x,xs=[.str x]/\x.length=1/\Q (.int (x.cps.getD 0 0:Nat)) H):=by intro 0 xs us Q I r h;let(x,O,j,q):=h;let(u,O,t,O):=Lo r;show ord_of_one j {.int _,H,I.tok _,{(_),O},q}
end
structure kC(h:CA)(x dx C:AH)(mA:AO->Option Ay):Prop where
 obj:h.get? x=Y (CU C dx)
 ns:h.Ns1 dx mA
 ne:dx≠x
def SO{h:CA}{dx:AH}{mA:AO->Option Ay}(n:h.Ns1 dx mA):∃od,h.get? dx=Y od/\∀name,Sa name od=Y (mA name):=by
 let(o,es,ep,F,hd,U,_,hm):=n;show{o,F,λname=>?_};let e:=hm name;unfold nsFind findBy at e;rw[<-Array.find?_toList]at e;unfold Sa;rw[hd]
 dsimp only
 split;·rename_i y q;rw[q]at e;show A3o Y e
 rename_i q;rw[q]at e;let a:es.toList.any (·.refKey)=false:=by rw[Yc];intro y D;let(z,t,j):=U y<|Array.mem_toList_iff.mp D;simp[DictEntry.refKey,j]
 let a':¬es.toList.any (·.refKey)=true:=by rw[a];show Bm
 rw[A3m a'];show A3o Y e
def kC.look{h:CA}{x dx C:AH}{mA:AO->Option Ay}(I:kC h x dx C mA):∃od,Ed h x (CU C dx) C (Y od)/\∀name,Sa name od=Y (mA name):=let ⟨od,j,z⟩:=SO I.ns
 {od,{(I.obj),O,O,j},z}
section
variable{prog:Bv}{w:BP}{A:CH}{E:Ay->AJ->Prop}{s:AJ}{K:Az}{x dx C f:AH}{mA:AO->Option Ay}{name:AO}{v:Ay}
def mO{expr:Bool}{Q:Ay->AJ->Prop}(X:K.In s.heap)(I:kC s.heap x dx C mA)(hg:OP K C name=Z)(F:NF K C=Z)(ha:CM K (.ref C) name=Y S)(z:mA name=Y v)(j:ZO v=Z)(h:Q v {s with toks:=s.toks+1}):
  Bz (model prog w) A (getAttr (.ref x) name expr) Q E s:=by let(od,J,D):=I.look;show PySem.W.get_value X J (To hg).1 (PySem.W.findObj_own F ha O<|by rw[D,z]) j h
def uZ{pl:Sem Bool}{Q:Ay×List Ay->AJ->Prop}(X:K.In s.heap)(I:kC s.heap x dx C mA)(hg:OP K C name=Z)(hf:CM K (.ref C) name=Y (Y<|.ref f))(z:XR K (.ref f)=Z)(j:mA name=S)(h:Q (.ref f,[.ref x]) s):
  Bz (model prog w) A (RW (.ref x) name pl) Q E s:=by let(od,J,D):=I.look;show PySem.W.method_fn X J (To hg).1 (To hg).2 hf (beq_iff_eq.mp z) (by change(Sa name od).map (·.isSome)=Y ge;rw[D,j];rfl) h
def xJ{ns:List AO}{Q:Unit->AJ->Prop}(X:K.In s.heap)(I:kC s.heap x dx C mA)(hs:CM K (.ref C) "__setattr__"=Y (Y<|.builtin "object.__setattr__"))(hp:PySem.W.plainOver K C=Z)(ht:PySem.W.takerIn K C name=Y S)(hh:NF K C=Z)(hw:PySem.Within mA ns)(hsz:ns.length<=sizeLine)(h:∀h',kC h' x dx C (λy=>if y=name then Y v else mA y)->NP dx s.heap h'->Q Unit.unit {s with heap:=h',toks:=s.toks+2}):
  Bz (model prog w) A (setAttr (.ref x) name v) Q E s:=by let(od,J,hl):=I.look;show XN X J hs<|PySem.W.osa_open (s:={s with toks:=s.toks+1}) (r:=S) X J hp ht λb=>?_;let(cd,hc,U):=OQ hh;let hx:s.heap.get? x=Y ⟨.ref C,Y dx,.plain,#[]⟩:=I.obj;show AC<|Bf (AC<|AC (XI hx<|AC (UI (s:={s with toks:=s.toks+1}) (Lz X hc) ?_)));rw[U];show Bf (a:=Y dx)<|AC (Bf<|AC ?_);show wpAny_nsSet1 (s:={s with toks:=s.toks+1}) I.ns λh' z j=>?_;let(oD,a4,a5,D,F,a1):=z.count<|PySem.Within.cons name v hw;show AC (wpAny_lookBehind D (by rw[F];show pastItsLine_dict<|AR a1 (by rw[BD];lia)) ?_);show Bf<|h _ {(j.2 _<|CI I.ne).trans I.obj,z,I.ne} j
def uD{R:Result->AJ->Prop}{vs:List Ay}{kw:List (AO×Ay)}(X:K.In s.heap)(hm:Qf K C=Z)(hi:CM K (.ref C) "__init__"=Y (Y<|.ref f))(hf:PySem.W.typeIn K (.ref f)=Y (.type "function"))(h:Iv (model prog w) (A.under<|.builtin "type.__call__" {.ref C::vs,kw}) (.call (.ref f) {.ref (↑s+1)::vs,kw}) (PySem.W.InitBack (↑s+1) R)
   {s with heap:=(s.heap.push CL).push (CU C ↑s)}):
  Iv (model prog w) A (.call (.ref C) {(vs),kw}) R s:=by let(j,g,d,t,os):=s;show PySem.W.make_core (ZN X hm) (KU X hi) (λself=>PySem.W.bind_fn X self hf) (.inl O) h
def pD{R:Result->AJ->Prop}(X:K.In s.heap)(hm:Qf K C=Z)(hi:CM K (.ref C) "__init__"=Y (Y<|.builtin "object.__init__"))(j:∀self,PySem.W.Looks (model prog w) s.heap (bindSpecial (.builtin "object.__init__") self) (.builtin "object.__init__",[self]))(h:Iv (model prog w) (A.under<|.builtin "type.__call__" {[.ref C],[]}) (.call (.builtin "object.__init__") {[.ref (↑s+1)],[]}) (PySem.W.InitBack (↑s+1) R)
   {s with heap:=(s.heap.push CL).push (CU C ↑s)}):
  Iv (model prog w) A (.call (.ref C) {[],[]}) R s:=by let(z,g,d,t,os):=s;show PySem.W.make_core (ZN X hm) (KU X hi) j (.inr {(O),O}) h
end
def Mm(f:AO)(v:V):List (AO×V)->List (AO×V)|[]=>[(f,v)]|(g,x)::r=>if g=f then (g,v)::r else (g,x)::Mm f v r
def OA(f g:AO)(v:V):∀fs:List (AO×V),(Mm f v fs).lookup g=if g=f then Y v else fs.lookup g
 |[]=>by
  change Eh g [(f,v)]=_;by_cases h:g=f;·let j: (g==f)=true:=beq_iff_eq.mpr h;simp only[Eh,j,A3n h]
  let j: (g==f)=false:=beq_eq_false_iff_ne.mpr h;simp only[Eh,j,A3m h]
 |(k,x)::r=>by
  rw[show Mm f v ((k,x)::r)=(if k=f then (k,v)::r else (k,x)::Mm f v r)from O]
  by_cases z:k=f
  ·rw[A3n z];by_cases h:g=k
   ·let j: (g==k)=true:=beq_iff_eq.mpr h;simp only[Eh,j,A3n<|h.trans z]
   let j: (g==k)=false:=beq_eq_false_iff_ne.mpr h;simp only[Eh,j,A3m λe:g=f=>h<|e.trans z.symm]
  rw[A3m z];by_cases h:g=k;·let j: (g==k)=true:=beq_iff_eq.mpr h;simp only[Eh,j,A3m λe:g=f=>z<|h.symm.trans e]
  let j: (g==k)=false:=beq_eq_false_iff_ne.mpr h;simp only[Eh,j];show(OA f g v r)
def SQ(f:AO)(v:V):∀fs:List (AO×V),f∈ (Mm f v fs).map (·.1)/\∀g,g∈fs.map (·.1)->g∈ (Mm f v fs).map (·.1)
 |[]=>{by simp[Mm],λg h=>by simp at h}
 |(k,x)::r=>by
  let(D,z):=SQ f v r;rw[show Mm f v ((k,x)::r)=(if k=f then (k,v)::r else (k,x)::Mm f v r)from O]
  by_cases j:k=f;·rw[A3n j];subst j;show{by simp,λg h=>by simpa using h}
  rw[A3m j];show{?_,λg h=>?_};·rw[Ba];show Bi _ D
  rw[Ba]at h ⊢;rcases AM.mp h with e|e;·show AM.mpr<|.inl e
  show Bi _<|z g e
def TY(f:AO)(v:V):∀fs:List (AO×V),(Mm f v fs).length<=fs.length+1
 |[]=>by simp[Mm]
 |(k,x)::r=>by
  let z:=TY f v r;rw[show Mm f v ((k,x)::r)=(if k=f then (k,v)::r else (k,x)::Mm f v r)from O]
  by_cases j:k=f;·rw[A3n j,BD,BD];lia
  rw[A3m j,BD,BD];lia
def Lc.some_of{v:V}{o:Option Ay}(r:Lc (Y v) o):∃u,o=Y u/\CZ v u:=by cases o with|none=>show(show False from r).elim|some u=>show{(u),O,r}
def Lc.none_of{o:Option Ay}(r:Lc S o):o=none:=by cases o with|none=>rfl|some u=>show(show False from r).elim
def aL{v:V}{u:Ay}(r:CZ v u):ZO u=true:=by cases v with|non=>cases (show u=CT from r);rfl|bl b=>cases (show u=CG b from r);rfl|int i=>let(t,e):=(show ∃t,u=FM i t from r);cases e;rfl|str x=>let(t,e):=(show ∃t,u=Ma x t from r);cases e;rfl|byt b=>let(t,e):=(show ∃t,u=Value.bytes b t from r);cases e;rfl|flt b=>let(t,e):=(show ∃t,u=XM b t from r);cases e;rfl|ref a=>cases (show u=Value.ref a from r);rfl|ty n=>cases (show u=DP n from r);rfl
section
variable{P:Bv}{w:BP}{H H':Hp}{h h':CA}{a C dx:AH}{fs fs':List (AO×V)}
def Pj(hok:Jr P w H h)(e:H a=Y (.ins C dx fs)):∃mA,kC h a dx C mA/\(∀f,Lc (fs.lookup f)<|mA f)/\PySem.Within mA (fs.map (·.1))/\fs.length<=1000/\H dx=Y (.own a):=by let(d,z,ne,ob,mA,n,r,q):=(show Dk P w H h a (.ins C dx fs)from hok a _ e);show{mA,{(ob),n,ne},r,q,z,d}
end
structure RT(K:Az)(C:AH):Prop where
 pg:OP K C Mb=Z
 hd:NF K C=Z
 po:PySem.W.plainOver K C=Z
 sa:CM K (.ref C) "__setattr__"=Y (Y<|.builtin "object.__setattr__")
def RT.get{K:Az}{C:AH}(c:RT K C)(f:AO):OP K C f=true:=c.pg
def HG(K:Az)(C:AH)(f:AO):Prop:=CM K (.ref C) f=Y S
def HG.taker{K:Az}{C:AH}{f:AO}(n:HG K C f):PySem.W.takerIn K C f=Y none:=by unfold PySem.W.takerIn;rw[show CM K (.ref C) f=Y S from n];rfl
structure Con(K:Az)(C:AH)(f:AO)(v:V)(u:Ay):Prop where
 at_:CM K (.ref C) f=Y (Y u)
 rel:CZ v u
 get:NC K u "__get__"=Y S
 cp:PySem.W.copiedNames.contains f=ge
structure qJ(K:Az)(C:AH)(m:AO)(f:AH):Prop where
 at_:CM K (.ref C) m=Y (Y<|.ref f)
 fn:XR K (.ref f)=Z
 kp:EJ K (.ref f)=Z
section
variable{X:Cx}{pZ:List (AH×Obj)}{σ:St}{H:Hp}{s:AJ}{a C dx:AH}{fs:List (AO×V)}{f:AO}{v:V}{A:CH}{E:Ay->AJ->Prop}
def jV{b:Bool}{Q:Ay->AJ->Prop}(I:Ck X pZ σ H s)(e:H a=Y (.ins C dx fs))(c:RT X.K C)(n:HG X.K C f)(l:fs.lookup f=Y v)(h:∀u s',Ck X pZ σ H s'->CZ v u->Q u s'):Bz (model X.prog X.w) A (getAttr (.ref a) f b) Q E s:=by let(mA,Oq,r,_,_,_):=Pj I.hok e;let(u,z,j):=Lc.some_of (v:=v) (o:=mA f) (by rw[<-l];show r f);show mO I.kIn Oq (c.get f) c.hd n z (aL j)<|h u _ (I.tok _) j
def Nm{m:AO}{g:AH}{pl:Sem Bool}{Q:Ay×List Ay->AJ->Prop}(I:Ck X pZ σ H s)(e:H a=Y (.ins C dx fs))(c:RT X.K C)(k:qJ X.K C m g)(l:fs.lookup m=S)(h:Q (.ref g,[.ref a]) s):Bz (model X.prog X.w) A (RW (.ref a) m pl) Q E s:=by let(mA,Oq,r,_,_,_):=Pj I.hok e;let hn:mA m=none:=Lc.none_of (by rw[<-l];show r m);show uZ I.kIn Oq (c.get m) k.at_ k.fn hn h
def jg{y:V}{u:Ay}{Q:Unit->AJ->Prop}(I:Ck X pZ σ H s)(e:H a=Y (.ins C dx fs))(c:RT X.K C)(n:HG X.K C f)(hl:fs.length<1000)(F:CZ y u)(h:∀s',Ck X pZ σ (upd H a<|.ins C dx (Mm f y fs)) s'->Q Unit.unit s'):Bz (model X.prog X.w) A (setAttr (.ref a) f u) Q E s:=by
 let(mA,Oq,r,wi,_,D):=Pj I.hok e;let U: (fs.map (·.1)).length<=sizeLine:=by rw[Aw,Ec];lia
 show xJ I.kIn Oq c.sa c.po n.taker c.hd wi U λh' j sb=>h _ ?_;let hd:∃o,h'.get? dx=Y o:=let ⟨o,_,_,e',_⟩:=j.ns;{(o),e'};show I.write (x:=a) (e:=dx) (by rw[e];show Du) (.inr D) (λb q hb z=>(sb.2 b hb).trans z) hd ?_;show{by rw[AT Oq.ne];show D,?_,Oq.ne,j.obj,_,j.ns,λg=>?_,λg hg=>?_};·have:=TY f y fs;lia
 ·change Lc ((Mm f y fs).lookup g) (if g=f then Y u else mA g)
  rw[OA];by_cases q:g=f;·rw[A3n q,A3n q];show F
  rw[A3m q,A3m q];show r g
 by_cases q:g=f;·rw[q];show(SQ f y fs).1
 show(SQ f y fs).2 g (wi g λz=>hg ?_);change(if g=f then Y u else mA g)=S
 rw[A3m q];show z
def Ck.made(I:Ck X pZ σ H s):Ck X pZ σ (upd (upd H ↑s<|.own (↑s+1)) (↑s+1)<|.ins C ↑s [])
  {s with heap:=(s.heap.push CL).push (CU C ↑s)}:=by
 let j: (s.heap.push CL).get? ↑s=Y CL:=Bx s.heap O;let U: ((s.heap.push CL).push<|CU C ↑s).get? (↑s+1)=Y (CU C ↑s):=by
  have:=Bx (s.heap.push CL) (o:=CU C ↑s) O
  rwa [KY]at this
 let F: (s.heap.push CL).Ns ↑s (λ_=>S):={CL,#[],_,j,O,(λe D=>A3p D<|by simp),λ_=>rfl};let I1:=I.laid (a:=↑s) (o:=.own<|↑s+1) (h':=s.heap.push CL) (t':=s.toks) (λb u q=>AD _ q) (AU _) {(_),j};show I1.laid (a:=↑s+1) (o:=.ins C ↑s []) (t':=s.toks) (λb u q=>AD _ q) (XW<|KY _ _) ?_;let ne:↑s≠↑s+1:=BH<|Ig _;show{by rw[AT ne,Ax],BY _,ne,U,λ_=>S,(Heap.Ns1.of_empty F).at λo q=>AD _ q,λ_=>Du,λy z=>A3p O z}
def cT{prog:Bv}{w:BP}{env:Env}{e:Expr}{f:AO}{pos:IZ}{s:AJ}{Q:Ay->AJ->Prop}(z:GF e f env (Dh e env)=Dh e env)(h:Bz (model prog w) A (Dh e env) (λo j=>Bz (model prog w) A (getAttr o f Z) Q E j) E s):Bz (model prog w) A (Dh (.Attribute e f pos) env) Q E s:=Attribute_any_ h (by rw[arm_eval_Attribute,z])
end
inductive wn(K:Az)(f:AO)(Q:VK)(x:V)(H1:Hp):Prop|mk (a C dx fs v:_) (_:x= .ref a) (_:H1 a=some (.ins C dx fs)) (_:RT K C) (_:HG K C f) (_:fs.lookup f=some v) (_:Q v H1)
def Y9(K:Az)(ta:TE)(f:AO):TE:=λσ H Q=>ta σ H λx H1=>wn K f Q x H1
def A1A(K:Az)(ta tv:TE)(f:AO):TS:=λD σ H=>tv σ H λy H1=>ta σ H1 λx H2=>∃a C dx fs,x= .ref a/\H2 a=Y (.ins C dx fs)/\RT K C/\HG K C f/\fs.length<1000/\D.nx σ (upd H2 a<|.ins C dx (Mm f y fs))
section
variable{X:Cx}{o e value:Expr}{f:AO}{pos pos' tpos:IZ}{ta tv:TE}
def Cb(F:PE X e ta)(U:GF e f X.env (Dh e X.env)=Dh e X.env):PE X (.Attribute e f pos) (Y9 X.K ta f):=by intro 0 Q I h;show cT U<|DY (F pZ s σ H _ I h) λu s1 j=>?_;let(x,H1,I1,z,a,C,dx,fs,v,ex,ea,c,n,l,q):=j;subst ex;obtain rfl:u=Value.ref a:=z;show jV I1 ea c n l λu' s2 I2 D=>{(v),H1,I2,D,q}
def GA(ha:PE X o ta)(hv:PE X value tv)(hs:RV value (Y<|.Attribute o f pos') pos.line X.env=ID ge):PS X (.Assign [.Attribute o f pos'] value pos) (A1A X.K ta tv f):=by intro 0 D I h;show plainObj_wpAny_Assign_Attribute (DY (hv pZ s σ H _ I h) λu s1 z=>?_) hs;let(y,H1,I1,F,q):=z;show DY (ha pZ s1 σ H1 _ I1 q) λov s2 j=>?_;let(x,H2,I2,U,a,C,dx,fs,ex,ea,c,n,l,q2):=j;subst ex;obtain rfl:ov=Value.ref a:=U;show jg I2 ea c n l F λs3 I3=>{(σ),_,I3,q2}
end
section
variable{X:Cx}{pZ:List (AH×Obj)}{σ:St}{H:Hp}{s:AJ}{A:CH}{E:Ay->AJ->Prop}{Q:Ay->AJ->Prop}{c:Ay}{b:Bool}
inductive IV(K:Az)(H:Hp):V->Ay->Prop where
 |non:IV K H .non (.type "NoneType")|bl (x:Bool):IV K H (.bl x) (.type "bool")|int (i:Int):IV K H (.int i) (.type "int")|str (x:AO):IV K H (.str x) (.type "str")|flt (x:UInt64):IV K H (.flt x) (.type "float")|lst {a:AH} {xs:List V} (e:H a=some (.lst xs)):IV K H (.ref a) (.type "list")|frz {a:AH} {o:Obj} {xs:List V} (e:H a=some (.frz o<|.lst xs)):IV K H (.ref a) (.type "list")|tup {a:AH} {xs:List V} (e:H a=some (.tup xs)):IV K H (.ref a) (.type "tuple")|dK {a:AH} {kvs:List (Ib×V)} (e:H a=some (.dK kvs)):IV K H (.ref a) (.type "dict")|dT {a:AH} {kvs:List (List Ib×V)} (e:H a=some (.dT kvs)):IV K H (.ref a) (.type "dict")|ins {a C dx:AH} {fs:List (AO×V)} (e:H a=some (.ins C dx fs)) (cl:RT K C) (ha:CM K (.ref C) "__class__"=some (some<|.builtin "object.__class__")) (hn:NC K (.builtin "object.__class__") "__get__"=some (some<|.builtin "getset_descriptor.__get__")) (htk:PySem.W.takesIn K (.builtin "object.__class__")=some true) (hm:NL K C (.type "object")=some true):IV K H (.ref a) (.ref C)
def pO{x:V}{u t:Ay}(I:Ck X pZ σ H s)(j:CZ x u)(ty:IV X.K H x t)(e:Bo X.K t c=Y b)(h:∀tk,Q (.bool b) {s with toks:=tk}):
  Bz (model X.prog X.w) A (call (.builtin "isinstance") [u,c]) Q E s:=by
 cases ty with
 |non=>cases (show u=CT from j);show Dy PySem.W.kitx_none I.kIn Du e (λz=>nomatch z) h|bl y=>cases (show u=CG y from j);show Dy PySem.W.kitx_bool I.kIn Du e (λz=>nomatch z) h|int i=>let(t,q):=(show ∃t,u=FM i t from j);cases q;show Dy PySem.W.kitx_int I.kIn Du e (λz=>nomatch z) h|str y=>let(t,q):=(show ∃t,u=Ma y t from j);cases q;show Dy PySem.W.kitx_str I.kIn Du e (λz=>nomatch z) h|flt y=>let(t,q):=(show ∃t,u=XM y t from j);cases q;show Dy PySem.W.kitx_float I.kIn Du e (λz=>nomatch z) h
 |@lst a xs D=>
  cases (show u=Value.ref a from j);let(_,_,n,_,h1):=(show Dk X.prog X.w H s.heap a (.lst xs)from I.hok a _ D);show Dy ND I.kIn {(_),h1,O} e (λz=>nomatch z) h
 |@frz a ob xs D=>
  cases (show u=Value.ref a from j);let(_,_,_,n,_,h1):=(show Dk X.prog X.w H s.heap a (.frz ob<|.lst xs)from I.hok a _ D);show Dy ND I.kIn {(_),h1,O} e (λz=>nomatch z) h
 |@tup a xs D=>
  cases (show u=Value.ref a from j);let(_,_,_,p):=(show Dk X.prog X.w H s.heap a (.tup xs)from I.hok a _ D);let(o,h1,h2,_):=p;show Dy PySem.W.kitx_tuple I.kIn {(o),h1,h2} e (λz=>nomatch z) h
 |@dK a kvs D=>
  cases (show u=Value.ref a from j);let(_,_,vs,_,p):=(show Dk X.prog X.w H s.heap a (.dK kvs)from I.hok a _ D);let(o,es,F,h1,h2,_):=p;show Dy NE I.kIn {(o),h1,h2.1} e (λz=>nomatch z) h
 |@dT a kvs D=>
  cases (show u=Value.ref a from j);let(_,_,xs,_,o,es,F,h1,h2,_):=(show Dk X.prog X.w H s.heap a (.dT kvs)from I.hok a _ D);show Dy NE I.kIn {(o),h1,h2.1} e (λz=>nomatch z) h
 |@ins a C dx fs D cl ha hn htk hm=>
  cases (show u=Value.ref a from j);let(mA,Oq,_):=Pj I.hok D;let(od,J,_):=Oq.look;show Dy (PySem.W.kitx_own (cl.get _) cl.hd ha hn htk hm) I.kIn J e (λz=>nomatch z) h
end
structure EX(k:Nat)(A:CH):Prop where
 dp:A.depth+3*k+5<XJ
 un:A.units+16*k+200<RX
def EX.mono{j k:Nat}{A:CH}(r:EX k A)(h:j<=k):EX j A:={by have:=r.dp;lia,by have:=r.un;lia}
def EX.deeper{k:Nat}{A:CH}(r:EX (k+1) A)(env:Env):EX k (A.deeper env):={by have:=r.dp;change A.depth+1+3*k+5<_;lia,by have:=r.un;change A.units+3+16*k+200<_;lia}
def jK{A:CH}{C:AH}{us:List Ay}{kw:List (AO×Ay)}: (A.under<|.builtin "type.__call__" {.ref C::us,kw}).depth=A.depth+1:=by first|rfl|simp[Around.under,Code.weight,Code.isCreation,Code.isGuard,Code.isCaller,Code.frames,Code.isFrame,guardIds]
def jJ{A:CH}{C:AH}{us:List Ay}{kw:List (AO×Ay)}: (A.under<|.builtin "type.__call__" {.ref C::us,kw}).units=A.units+1:=by first|rfl|simp[Around.under,Code.cUnits,Code.frames,Code.isFrame]
def EX.make{k:Nat}{A:CH}(r:EX (k+1) A)(C:AH)(us:List Ay)(kw:List (AO×Ay)):EX k (A.under<|.builtin "type.__call__" {.ref C::us,kw}):={by have:=r.dp;rw[jK];lia,by have:=r.un;rw[jJ];lia}
def EX.depth{k:Nat}{A:CH}(r:EX k A):A.depth<XJ:=by have:=r.dp;lia
def EX.units{k:Nat}{A:CH}(r:EX k A):A.units+64<RX:=by have:=r.un;lia
def Yw:TA:=λ_ H Q=>Q [] H
def TM(ta:TE)(j:TA):TA:=λσ H Q=>ta σ H λx H1=>j σ H1 λxs H2=>Q (x::xs) H2
section
variable{X:Cx}{e:Expr}{es:List Expr}{te:TE}{t:TA}{pos:IZ}
def FU:PA X [] Yw:=λ_ _ _ _ H Q I h=>Ix {[],H,I,.nil,h}
def Bc(ha:PE X e te)(hr:PA X es t)(hs: ~~~(Br (e::es) X.env=(ge,Dh e X.env)::Br es X.env)):PA X (e::es) (TM te t):=by intro pos pZ s σ H Q I h;rw[hs];change Bz _ _ (spliced ((ge,Dh e X.env)::DK pos (Br es X.env))) _ _ s;show Ga<|DY (ha pZ s σ H _ I h) λu s1 z=>?_;let(x,H1,I1,F,q1):=z;show DY (hr pos pZ s1 σ H1 _ I1 q1) λus s2 j=>(by let(xs,H2,I2,D,U):=j;show{x::xs,H2,I2,.cons F D,U})
inductive A0C(Q:VK)(xs:List V)(H1:Hp):Prop|mk (_:xs.length<=sizeLine) (_:∀p,H1 p=none->Q (.ref p) (upd H1 p<|.tup xs))
def A1r(t:TA):TE:=λσ H Q=>t σ H λxs H1=>A0C Q xs H1
inductive A0D(Q:VK)(xs:List V)(H1:Hp):Prop|mk (_:xs.length<=sizeLine) (_:∀p,H1 p=none->Q (.ref p) (upd H1 p<|.lst xs))
def A1u(t:TA):TE:=λσ H Q=>t σ H λxs H1=>A0D Q xs H1
def Cn{x1}(h:PA X es t):PE X (.Tuple es x1 pos) (A1r t):=by intro 0 Q I F;show wpAny_Tuple_spliced<|DY (h pos pZ s σ H _ I F) λus s1 j=>?_;let(xs,H1,D,r,z,q):=j;show{by rw[<-r.length];show z,?_};let hf:H1 ↑s1=none:=D.hok.fresh<|AU _;show{.ref ↑s1,upd H1 ↑s1<|.tup xs,D.laid (t':=s1.toks) (λb u e=>AD _ e) (AU _) ?_,O,q _ hf};show{z,us,r,{_,Bx _ O,O,_,O}}
def Ci(h:PA X es t):PE X (.List es pos) (A1u t):=by intro 0 Q I F;show wpAny_List_spliced<|DY (h pos pZ s σ H _ I F) λus s1 j=>?_;let(xs,H1,D,r,z,q):=j;show{by rw[<-r.length];show z,?_};let hf:H1 ↑s1=none:=D.hok.fresh<|AU _;show{.ref ↑s1,upd H1 ↑s1<|.lst xs,D.laid (t':=s1.toks) (λb u e=>AD _ e) (AU _) ?_,O,q _ hf};show{z,us,0,r,Bx _ O}
end
abbrev Sp:=List V->Hp->VK->XK->Prop
structure dr where
 cm:Bool
 sm:Bool
 cx:List Env->Hp->AJ->XK->Ay->AJ->Prop
structure kQ(P:Bv)(w:BP)(K:Az)(mg:AO->Option Ay)(base:CA)(A:CH)(outer:List Env)(s:AJ)(H:Hp):Prop where
 frames:A.frames=Y outer
 mod:Mod K mg base
 bs:∀b o,base.get? b=Y o->s.heap.get? b=Y o/\H b=S
 bsz:base.objs.size<=↑s
 funs:s.heap.FunFrames base outer
 frf:∀b∈NT outer,H b=S
 hok:Jr P w H s.heap
 bare:UL s.gens
def CE(outer:List Env)(P:Bv)(w:BP)(H:Hp)(s:AJ)(Q:VK)(u:Ay)(s':AJ):Prop:=∃v H',s'.os=s.os/\UL s'.gens/\Un (NT outer) [] H H' s.heap s'.heap/\Jr P w H' s'.heap/\CZ v u/\Q v H'
def CR(CX:dr)(outer:List Env)(P:Bv)(w:BP)(H:Hp)(s:AJ)(Q:VK)(E:XK)(r:Result)(s':AJ):Prop:=match r with
 |.ok (.ret u)=>CE outer P w H s Q u s'|.ok _=>False|.error e=>CX.cx outer H s E e s'
structure EY(P:Bv)(w:BP)(K:Az)(mg:AO->Option Ay)(base:CA)(CX:dr)(k:Nat)(f:AH)(fd:Eu)(ps:List AO)(sp:Sp):Prop where
 len:∀vs H Q E,sp vs H Q E->vs.length=ps.length
 run:∀(A:CH) (outer:List Env) (s:AJ) (H:Hp) (args:Args) (us:List Ay) (vs:List V) (Q:VK) (E:XK),EX k A->(CX.cm=Z->A.handled=S)->(CX.sm=Z->Hd A H)->kQ P w K mg base A outer s H->BindsTo s fd args (ps.zip us)->CB vs us->sp vs H Q E->Iv (model P w) A (.call (.ref f) args) (CR CX outer P w H s Q E) s
def EY.mono{P:Bv}{w:BP}{K:Az}{mg:AO->Option Ay}{base:CA}{CX:dr}{j k:Nat}{f:AH}{fd:Eu}{ps:List AO}{sp:Sp}(F:EY P w K mg base CX j f fd ps sp)(h:j<=k):
  EY P w K mg base CX k f fd ps sp:={F.len,λA outer s H args us vs Q E z=>F.run A outer s H args us vs Q E<|z.mono h}
def EY.imp{P:Bv}{w:BP}{K:Az}{mg:AO->Option Ay}{base:CA}{CX:dr}{k:Nat}{f:AH}{fd:Eu}{ps:List AO}{sp j:Sp}(F:EY P w K mg base CX k f fd ps sp)(h:∀vs H Q E,j vs H Q E->sp vs H Q E):EY P w K mg base CX k f fd ps j:={λvs H Q E q=>F.len vs H Q E<|h _ _ _ _ q,λA outer s H args us vs Q E U hc z he hb D hs=>F.run A outer s H args us vs Q E U hc z he hb D<|h _ _ _ _ hs}
def kQ.make{P:Bv}{w:BP}{K:Az}{mg:AO->Option Ay}{base:CA}{A:CH}{outer:List Env}{s:AJ}{H:Hp}(e:kQ P w K mg base A outer s H)(C:AH)(us:List Ay)(kw:List (AO×Ay)):
  kQ P w K mg base (A.under<|.builtin "type.__call__" {.ref C::us,kw}) outer s H:={by first|show e.frames|(simpa [Around.under,Code.envs,Code.isFrame,pushEnvs]using e.frames),e.mod,e.bs,e.bsz,e.funs,e.frf,e.hok,e.bare}
section
variable{X:Cx}{pZ:List (AH×Obj)}{σ:St}{H:Hp}{s s':AJ}
def Ck.env0(I:Ck X pZ σ H s):kQ X.prog X.w X.K X.mg X.base X.A X.stack s H:={I.ok.frames,I.ok.mod,I.bs,AR I.ok.bsz I.sz,I.stack,I.stkFree,I.hok,I.bare}
def Ck.after{Q:VK}{u:Ay}(I:Ck X pZ σ H s)(h:CE X.stack X.prog X.w H s Q u s'):EP X pZ σ Q u s':=by let(v,H',os,bare,un,hok,r,q):=h;let(D,g,d,t,j):=s';obtain rfl:j=s.os:=os;show{v,H',I.call (h':=D) (g':=g) (d':=d) (t':=t) (ch:=[]) un hok bare (λb z=>A3p z<|by simp),r,q}
end
def er(sp:Sp)(dvs:List V)(E:XK)(t:TA):TE:=λσ H Q=>t σ H λvs H1=>sp (vs++dvs) H1 Q E
inductive S8(C:AH)(m:AO)(sp:Sp)(dvs:List V)(E:XK)(t:TA)(σ:St)(Q:VK)(x:V)(H1:Hp):Prop|mk (a dx fs:_) (_:x= .ref a) (_:H1 a=some (.ins C dx fs)) (_:fs.lookup m=none) (_:t σ H1 λvs H2=>sp (x:: (vs++dvs)) H2 Q E)
def B1(C:AH)(m:AO)(sp:Sp)(dvs:List V)(E:XK)(ta:TE)(t:TA):TE:=λσ H Q=>ta σ H λx H1=>S8 C m sp dvs E t σ Q x H1
def B2(C:AH)(sp:Sp)(dvs:List V)(E:XK)(t:TA):TE:=λσ H Q=>t σ H λvs H1=>∀x dx,H1 x=S->H1 dx=S->dx≠x->sp (.ref x:: (vs++dvs)) (upd (upd H1 dx<|.own x) x<|.ins C dx []) (λv H2=>v= .non/\Q (.ref x) H2) E
def EB(K:Az)(fd:Eu)(ps:List AO)(ds:List Ay):Prop:=∀(s:AJ) (us:List Ay),K.In s.heap->(us++ds).length=ps.length->BindsTo s fd {us,[]} (ps.zip<|us++ds)
def EB.all{K:Az}{fd:Eu}{ps:List AO}(h:∀us:List Ay,us.length=ps.length->bindArgs fd {us,[]}=ID (ps.zip us)):EB K fd ps []:=λs us _ j=>by
 rw[BE]at j ⊢;show .of_eq<|h us j
def JT(CX:dr)(X:Cx)(E:XK):Prop:=(CX.cm=Z->X.calm=Z)/\CX.sm=ge/\∀(pZ:List (AH×Obj)) (σ:St) (H:Hp) (s:AJ) (e:Ay) (s':AJ),Ck X pZ σ H s->CX.cx X.stack H s E e s'->X.xe e s'
section
variable{X:Cx}{CX:dr}{k:Nat}{f C:AH}{fd:Eu}{ps:List AO}{sp:Sp}{dvs:List V}{ds:List Ay}{E:XK}{x m:AO}{p pos apos:IZ}{e o:Expr}{es:List Expr}{ta:TE}{t:TA}
def SA{pZ:List (AH×Obj)}{σ:St}{H:Hp}{s:AJ}{Q:VK}{us:List Ay}{vs:List V}(F:EY X.prog X.w X.K X.mg X.base CX k f fd ps sp)(U:EX k X.A)(hb:EB X.K fd ps ds)(hd:CB dvs ds)(hx:JT CX X E)(I:Ck X pZ σ H s)(r:CB vs us)(h:sp (vs++dvs) H Q E):Bz (model X.prog X.w) X.A (call (.ref f) us) (EP X pZ σ Q) X.xe s:=by
 let D:CB (vs++dvs) (us++ds):=r.append hd;let hl: (us++ds).length=ps.length:=by rw[<-D.length];show F.len _ _ _ _ h
 show GD (Go (F.run X.A X.stack s H {us,[]} (us++ds) (vs++dvs) Q E U (λz=>I.ok.hd<|hx.1 z) (λz=>by rw[hx.2.1]at z;cases z) I.env0 (hb s us I.kIn hl) D h) λr s' j=>?_);cases r with
 |error e=>show hx.2.2 pZ σ H s e s' I j
 |ok fl=>
  cases fl with|ret u=>show I.after j|next=>show BM j|brk=>show BM j|cont=>show BM j
def lT(F:EY X.prog X.w X.K X.mg X.base CX k f fd ps sp)(hr:EX k X.A)(hg:Gl X x)(hm:X.mg x=Y (.ref f))(hk:EJ X.K (.ref f)=Z)(hb:EB X.K fd ps ds)(hd:CB dvs ds)(hx:JT CX X E)(ha:PA X (e::es) t)(D:↑((x==("__debug__" :AO))=false))(he: ~~~(Br (e::es) X.env=(ge,Dh e X.env)::Br es X.env))(z: ~~~((DK pos<|Br es X.env).any (·.1)=false)):
  PE X (.Call (.Name x p) (e::es) [] pos) (er sp dvs E t):=by intro 0 Q I h;show CF<|IK I hg hm ?_ D;show FA (h₀:=X.base) I.ok.mod.kin hk (DY (ha pos pZ s σ H _ I h) λus s1 j=>?_) he z;let(vs,H1,U,r,q):=j;show{U.kIn,?_};show SA F hr hb hd hx U r q
def lR{pl:Sem Bool}(he:PE X o ta)(c:RT X.K C)(hm:qJ X.K C m f)(F:EY X.prog X.w X.K X.mg X.base CX k f fd ps sp)(hr:EX k X.A)(hb:EB X.K fd ps ds)(hd:CB dvs ds)(hx:JT CX X E)(ha:PA X (e::es) t)(D: ~~~(Br (e::es) X.env=(ge,Dh e X.env)::Br es X.env))(U: ~~~((DK pos<|Br es X.env).any (·.1)=false))(ht:Dh (.Call (.Attribute o m apos) (e::es) [] pos) X.env=(do
   let ov <-Dh o X.env
   standAt apos.atName
   let (f,first) <-holding [ov] (RW ov m pl)
   callWith pos f first (DK pos<|Br (e::es) X.env) (ME pos<|HC [] X.env)):=by rfl):
  PE X (.Call (.Attribute o m apos) (e::es) [] pos) (B1 C m sp dvs E ta t):=by
 intro 0 Q I h;show Hv (pl:=pl) (DY (he pZ s σ H _ I h) λu s1 z=>?_) ht;let(x,H1,I1,rx,a,dx,fs,ex,ea,l,q):=z;subst ex;obtain rfl:u=Value.ref a:=rx;show Nm I1 ea c hm l ?_;show FA (first:=[.ref a]) (h₀:=X.base) I.ok.mod.kin hm.kp (DY (ha pos pZ s1 σ H1 _ I1 q) λus s2 j=>?_) D U
 let(vs,H2,I2,r,q2):=j;show{I2.kIn,?_};show SA (us:=.ref a::us) (vs:=.ref a::vs) F hr hb hd hx I2 (.cons O r) q2
def fF{pl:Sem Bool}(he:PE X o ta)(c:RT X.K C)(hm:qJ X.K C m f)(F:EY X.prog X.w X.K X.mg X.base CX k f fd ps sp)(hr:EX k X.A)(hb:EB X.K fd ps ds)(hd:CB dvs ds)(hx:JT CX X E)(ht:Dh (.Call (.Attribute o m apos) [] [] pos) X.env=(do
   let D <-Dh o X.env
   standAt apos.atName
   let (f,first) <-holding [D] (RW D m pl)
   callWith pos f first (DK pos<|Br [] X.env) (ME pos<|HC [] X.env)):=by rfl):
  PE X (.Call (.Attribute o m apos) [] [] pos) (B1 C m sp dvs E ta Yw):=by intro 0 Q I h;show Hv (pl:=pl) (DY (he pZ s σ H _ I h) λu s1 j=>?_) ht;let(x,H1,z,U,a,dx,fs,ex,ea,l,q):=j;subst ex;obtain rfl:u=Value.ref a:=U;show Nm z ea c hm l ?_;show LC (first:=[.ref a]) z.kIn hm.kp<|SA (us:=[.ref a]) (vs:=[.ref a]) F hr hb hd hx z (.cons O .nil) q
structure Mk(K:Az)(C f:AH):Prop where
 makes:Qf K C=Z
 init:CM K (.ref C) "__init__"=Y (Y<|.ref f)
 fn:XR K (.ref f)=Z
 kp:EJ K (.ref C)=Z
def ff{pZ:List (AH×Obj)}{σ:St}{H:Hp}{s:AJ}{Q:VK}{us:List Ay}{vs:List V}(M:Mk X.K C f)(F:EY X.prog X.w X.K X.mg X.base CX k f fd ps sp)(hr:EX (k+1) X.A)(hb:EB X.K fd ps ds)(hd:CB dvs ds)(hx:JT CX X E)(I:Ck X pZ σ H s)(r:CB vs us)(h:∀x dx,H x=S->H dx=S->dx≠x->sp (.ref x:: (vs++dvs)) (upd (upd H dx<|.own x) x<|.ins C dx []) (λv H2=>v= .non/\Q (.ref x) H2) E):
  Bz (model X.prog X.w) X.A (call (.ref C) us) (EP X pZ σ Q) X.xe s:=by
 let hq:=h (↑s+1) ↑s (I.hok.fresh<|Da _) (I.hok.fresh<|AU _)<|BH (Ig _);let D:=Ck.made (C:=C) I;let U:CB (V.ref (↑s+1):: (vs++dvs)) (Value.ref (↑s+1):: (us++ds)):=.cons O<|r.append hd;let hl: (Value.ref (↑s+1)::us++ds).length=ps.length:=by let e:=U.length;rw[F.len _ _ _ _ hq]at e;show e.symm
 show GD (uD (f:=f) I.kIn M.makes M.init (beq_iff_eq.mp M.fn)<|Go (F.run _ X.stack _ _ {Value.ref (↑s+1)::us,[]} (Value.ref (↑s+1):: (us++ds)) _ _ E (hr.make C us []) (λz=>I.ok.hd<|hx.1 z) (λz=>by rw[hx.2.1]at z;cases z) (D.env0.make C us []) (hb _ (Value.ref (↑s+1)::us) D.kIn hl) U hq) λr s' j=>?_);cases r with
 |error e=>show hx.2.2 pZ σ _ _ e s' D j
 |ok fl=>
  cases fl with
  |ret u=>
   let(v,H',I3,rv,ev,q3):=D.after j;subst ev;show{rv,{V.ref<|↑s+1,H',I3,O,q3}}
  |next=>show BM j|brk=>show BM j|cont=>show BM j
def HR(M:Mk X.K C f)(F:EY X.prog X.w X.K X.mg X.base CX k f fd ps sp)(hr:EX (k+1) X.A)(hg:Gl X x)(hm:X.mg x=Y (.ref C))(hb:EB X.K fd ps ds)(hd:CB dvs ds)(hx:JT CX X E)(ha:PA X (e::es) t)(D:↑((x==("__debug__" :AO))=false))(he: ~~~(Br (e::es) X.env=(ge,Dh e X.env)::Br es X.env))(z: ~~~((DK pos<|Br es X.env).any (·.1)=false)):
  PE X (.Call (.Name x p) (e::es) [] pos) (B2 C sp dvs E t):=by intro 0 Q I h;show CF<|IK I hg hm ?_ D;show FA (h₀:=X.base) I.ok.mod.kin M.kp (DY (ha pos pZ s σ H _ I h) λus s1 j=>?_) he z;let(vs,H1,U,r,q):=j;show{U.kIn,?_};show ff M F hr hb hd hx U r q
def tP(M:Mk X.K C f)(F:EY X.prog X.w X.K X.mg X.base CX k f fd ps sp)(z:EX (k+1) X.A)(hg:Gl X x)(hm:X.mg x=Y (.ref C))(D:EB X.K fd ps ds)(hd:CB dvs ds)(hx:JT CX X E)(j:↑((x==("__debug__" :AO))=false)):PE X (.Call (.Name x p) [] [] pos) (B2 C sp dvs E Yw):=by intro 0 Q I h;show CF<|IK I hg hm ?_ j;show LC I.kIn M.kp<|ff (us:=[]) M F z D hd hx I .nil h
end
def PK(X:Cx)(kws:List Yu)(t:TA):Prop:=∀(pos:IZ) (pZ:List (AH×Obj)) (s:AJ) (σ:St) (H:Hp) (Q:List V->Hp->Prop),Ck X pZ σ H s->t σ H Q->Bz (model X.prog X.w) X.A (evalAll<|(ME pos<|HC kws X.env).map (·.2)) (AP X pZ σ Q) X.xe s
section
variable{X:Cx}{CX:dr}{k:Nat}{f C:AH}{fd:Eu}{ps ks:List AO}{sp:Sp}{E:XK}{x m:AO}{p pos apos kpos:IZ}{e o:Expr}{es:List Expr}{kws:List Yu}{te ta:TE}{t tk:TA}{nm:Option AO}
def K3:PK X [] Yw:=λ_ _ _ _ H Q I h=>wpAny_evalAll_nil {[],H,I,.nil,h}
def ya(ha:PE X e te)(hr:PK X kws t):PK X ({(nm),e,kpos}::kws) (TM te t):=by intro pos pZ s σ H Q I h;change Bz _ _ (evalAll ((do let v <-Dh e X.env;standAt pos;ID v):: (ME pos<|HC kws X.env).map (·.2))) _ _ s;show wpAny_evalAll_cons<|AC (DY (ha pZ s σ H _ I h) λu s1 z=>?_);let(x,H1,I1,F,q1):=z;show AC<|Me (Bf ?_);show DY (hr pos pZ s1 σ H1 _ I1 q1) λus s2 j=>(by let(xs,H2,I2,D,U):=j;show{x::xs,H2,I2,.cons F D,U})
structure A2m(K:Az)(fd:Eu)(ps ks:List AO)(g:List Ay->List Ay->List Ay)(gV:List V->List V->List V):Prop where
 to:∀(s:AJ) (us ws:List Ay),K.In s.heap->(g us ws).length=ps.length->BindsTo s fd {us,ks.zip ws} (ps.zip<|g us ws)
 rel:∀{vs:List V} {us:List Ay} {zs:List V} {ws:List Ay},CB vs us->CB zs ws->CB (gV vs zs) (g us ws)
variable{g:List Ay->List Ay->List Ay}{gV:List V->List V->List V}
end
structure Bn(N P:List AO)(sc:Scope):Prop where
 kind:sc.kind= .function
 co:sc.isCoroutine=ge
 gen:sc.isGenerator=ge
 nd:N.Nodup
 pre:N.take P.length=P
 par:∀x∈P,sc.names.lookup x=Y .local\/sc.names.lookup x=Y .cell
 nofree:∀y∈sc.names,y.2≠ .free
def be{kindOf:AO->Option NameKind}{x:AO}:∀{binds:List (AO×Ay)} {m:AO->Option Ay},(∀v,(x,v) ∉binds)->bindL kindOf binds m x=m x
 |[],_,_=>rfl
 |(n,v)::r,m,h=>by
  unfold bindL;rw[be λw hw=>h w<|Bi _ hw];split
  ·have:x≠n:=by rintro rfl;show h v Bl
   simp[this]
  rfl
def bg{kindOf:AO->Option NameKind}{x:AO}:∀{binds:List (AO×Ay)} {m:AO->Option Ay},(∀v,(x,v) ∉binds)->bindC kindOf binds m x=m x
 |[],_,_=>rfl
 |(n,v)::r,m,h=>by
  unfold bindC;rw[bg λw hw=>h w<|Bi _ hw];split;·rfl
  have:x≠n:=by rintro rfl;show h v Bl
  simp[this]
def bf{kindOf:AO->Option NameKind}{x:AO}{v:Ay}:∀{P:List AO} {vs:List Ay} {i:Nat} {m:AO->Option Ay},P.Nodup->P[i]?=Y x->vs[i]?=Y v->kindOf x=Y .local->bindL kindOf (P.zip vs) m x=Y v
 |[],_,_,_,_,h,_,_=>by simp at h|_::_,[],_,_,_,_,h,_=>by simp at h
 |p::P,w::vs,0,m,nd,h1,h2,j=>by
  simp at h1 h2;subst h1;subst h2;change bindL kindOf ((p,w)::P.zip vs) m p=_;unfold bindL;rw[be λv z=>(FP.mp nd).1 (List.of_mem_zip z).1,A3n j];simp
 |p::P,w::vs,i+1,m,nd,h1,h2,j=>by
  change bindL kindOf ((p,w)::P.zip vs) m x=_;unfold bindL;show bf (i:=i) (FP.mp nd).2 (by simpa using h1) (by simpa using h2) j
def bh{kindOf:AO->Option NameKind}{x:AO}{v:Ay}:∀{P:List AO} {vs:List Ay} {i:Nat} {m:AO->Option Ay},P.Nodup->P[i]?=Y x->vs[i]?=Y v->kindOf x≠Y .local->bindC kindOf (P.zip vs) m x=Y v
 |[],_,_,_,_,h,_,_=>by simp at h|_::_,[],_,_,_,_,h,_=>by simp at h
 |p::P,w::vs,0,m,nd,h1,h2,j=>by
  simp at h1 h2;subst h1;subst h2;change bindC kindOf ((p,w)::P.zip vs) m p=_;unfold bindC;rw[bg λv z=>(FP.mp nd).1 (List.of_mem_zip z).1,A3m j];simp
 |p::P,w::vs,i+1,m,nd,h1,h2,j=>by
  change bindC kindOf ((p,w)::P.zip vs) m x=_;unfold bindC;show bh (i:=i) (FP.mp nd).2 (by simpa using h1) (by simpa using h2) j
def Og(N:List AO)(vs:List V):St:=vs.map Y++CO (N.length - vs.length) S
noncomputable def Uy(CX:dr)(P:Bv)(w:BP)(K:Az)(mg:AO->Option Ay)(base:CA)(N:List AO)(qual:AO)(scope:Scope)(f:AH)(cd:Ay)(A:CH)(outer:List Env)(s:AJ)(H:Hp)(E:XK):Cx where
 prog:=P
 w:=w
 K:=K
 mg:=mg
 base:=base
 A:=A.deeper (FD qual scope ↑s f cd)
 N:=N
 s_:=s
 H_:=H
 env:=FD qual scope ↑s f cd
 outer:=outer
 stack:=FD qual scope ↑s f cd::outer
 ex:=[]
 calm:=CX.cm
 suit:=CX.sm
 fn:=λ_=>Z
 pn:=[]
 xe:=λe s'=>Bz (model P w) (A.deeper<|FD qual scope ↑s f cd) (leaving (FD qual scope ↑s f cd) e) (λ_ j=>CX.cx outer H s E e j) (λz j=>CX.cx outer H s E z j) s'
def gZ{sc:Scope}{n:Nat}{x:AO}(h:sc.names.lookup x=Y .cell):∃c,(cellsFrom n sc.names []).lookup x=Y c:=by show Option.isSome_iff_exists.mp<|PySem.W.cellsFrom_some sc.names n [] (.inl h)
def pP{CX:dr}{P:Bv}{w:BP}{K:Az}{mg:AO->Option Ay}{base:CA}{N ps:List AO}{qual:AO}{scope:Scope}{f:AH}{cd:Ay}{A:CH}{outer:List Env}{s s1:AJ}{H:Hp}{E:XK}{us:List Ay}{vs:List V}(Sq:Bn N ps scope)(hd:CX.cm=Z->A.handled=S)(a1:CX.sm=Z->Hd A H)(j:kQ P w K mg base A outer s H)(hl:vs.length=ps.length)(r:CB vs us)(x:InCallC s ↑s (bindL (FD qual scope ↑s f cd).kindOf (ps.zip us) λ_=>S) (cellsFrom (↑s+1) scope.names []) (bindC (FD qual scope ↑s f cd).kindOf (ps.zip us) λ_=>S) s1):
  Ck (Uy CX P w K mg base N qual scope f cd A outer s H E) [] (Og N vs) H s1:=by
 let a5:ps.length<=N.length:=by have:=A3o Jg Sq.pre;rw[BG]at this;lia
 let(h1,tk,O,hk):=x.done;let D:∀b:AH,b∉ (Uy CX P w K mg base N qual scope f cd A outer s H E).ex:=λb z=>A3p (show b∈ ([]:List AH)from z) (by simp);show{{j.mod,Sq.kind,O,O,AU _,λy z c h1 h2=>?_,λy F=>?_,λy c _ h=>?_,hd,Around.frames_deeper j.frames,.inr {(O),O},λb z=>A3p z<|D b,j.bs,j.bsz,λb _ _=>D b,λb z=>A3p z<|D b,j.funs,j.frf,a1},O,j.bare,Un.kept hk,{_,x.toInCall.ns,λi y v h1 h2 h3=>?_},λy c h=>{_,x.cell y c h},j.hok.fresh<|AU _,λy c h=>?_,λp hp=>A3p (show p∈ ([]:List (AH×Obj))from hp) (by simp),j.hok.kept hk,?_};·show name_of_addr x.apart (Fd h1)<|Fd h2
 ·let F:scope.names.lookup y=Y .cell\/scope.names.lookup y=Y .free:=F;rcases F with F|F
  ·show gZ F
  show A3p O<|Sq.nofree _ (Fd F)
 ·show GL<|x.above y c (Fd h)
 ·let hi:i<vs.length:=by
   unfold Og at h2;by_cases hi:i<vs.length;·show hi
   rw[Dw (by simpa using hi)]at h2;rw[OU]at h2;split at h2 <;> cases h2
  let ha:vs[i]?=Y v:=by unfold Og at h2;rw[Eo (by simpa using hi),Be]at h2;cases e:vs[i]? with|none=>rw[e]at h2;cases h2|some a=>rw[e]at h2;cases h2;rfl
  let(u,hu,rv):=r.get ha;let hp:ps[i]?=Y y:=by rw[<-Sq.pre,EF ()];show h1
  let U:ps.Nodup:=by rw[<-Sq.pre];show Sq.nd.sublist<|XY _ _
  show{u,rv,?_};rcases Sq.par y (AL hp)with k|k;·show .inl {k,bf U hp hu k}
  let(c,e):=gZ (n:=↑s+1) k;show .inr {.inl k,c,e,?_};let q:=x.cell y c e;rw[bh U hp hu (by change scope.names.lookup y≠_;rw[k];decide)]at q;show q
 ·show j.hok.fresh<|GL (x.above y c<|Fd h)
 unfold Og;change _=N.length;rw[AI,Aw,JZ]
 lia
def gD{CX:dr}{P:Bv}{w:BP}{K:Az}{mg:AO->Option Ay}{base:CA}{k:Nat}{f:AH}{name qual:AO}{params:Ka}{body:List JW}{scope:Scope}{dV kV doc pm cdv ct oc:Ay}{an od:Option AH}
  {osl:Array (Option Ay)}{N ps:List AO}{sp:Sp}(lk:K.lookup f=Y {oc,od,.func<|Mc name qual params body scope dV kV doc pm an cdv ct,osl})(a5:PySem.W.codeIn K cdv qual=Z)(Sq:Bn N ps scope)
  (len:∀vs H Q E,sp vs H Q E->vs.length=ps.length)
  (D:∀(A:CH) (outer:List Env) (s:AJ) (H:Hp) (vs:List V) (Q:VK) (E:XK),EX k (A.deeper<|FD qual scope ↑s f cdv)->sp vs H Q E->∃t,Ug (Uy CX P w K mg base N qual scope f cdv A outer s H E) body t/\t {nx:=λ_ H'=>Q .non H',rt:=Q} (Og N vs) H):
  EY P w K mg base CX (k+1) f (Mc name qual params body scope dV kV doc pm an cdv ct) ps sp:=by
 show{len,λA outer s H args us vs Q E hr a4 a3 U hb r F=>?_};let KX:K.In s.heap:=U.mod.kin.keeps λb o e=>(U.bs b o e).1;let a2:s.heap.NoLimit:=U.mod.nolimit.keeps λb o e=>(U.bs b o e).1;let j:∀y∈ps.zip us,scope.names.lookup y.1=Y .local\/(scope.names.lookup y.1=Y .cell/\((cellsFrom (↑s+1) scope.names []).lookup y.1).isSome=Z):=λz hy=>by
  let(n,v):=z;rcases Sq.par n (List.of_mem_zip hy).1 with q|q;·show .inl q
  show .inr {q,PySem.W.cellsFrom_some _ _ _<|.inl q}
 show codeAny_call_function hr.depth (KX _ _ lk) O Sq.co Sq.gen O (PySem.W.codeRec_of KX a5)<|hb _ _ _ _ ?_;show wpAny_newFunctionEnv_cells Sq.kind j λenv he s1 x=>?_;subst he;show{a2.keeps x.toInCall.keep,codeAny_func ?_};let(t,ht,hq):=D A outer s H vs Q E (hr.deeper _) F;let I:Ck (Uy CX P w K mg base N qual scope f cdv A outer s H E) [] (Og N vs) H s1:=pP Sq a4 a3 U (len _ _ _ _ F) r x;show DZ (ht [] s1 (Og N vs) H _ I hq) (λfl s' hs=>?_) λe s' hs=>hs;let fin:∀{σ':St} {H':Hp} {v:V} {u:Ay},Ck (Uy CX P w K mg base N qual scope f cdv A outer s H E) [] σ' H' s'->CZ v u->Q v H'->CE outer P w H s Q u s':=λ{σ' H' v u} J rv q=>{(v),H',J.os,J.bare,J.base,J.hok,rv,q};cases fl with
 |ret u=>
  let(v,σ',H',J,rv,q):=hs;show fin J rv q
 |next=>
  let(σ',H',J,q):=hs;show fin (v:=V.non) (u:=CT) J O q
 |brk=>
  let(_,_,_,q):=hs;show BM q
 |cont=>
  let(_,_,_,q):=hs;show BM q
section
variable{X:Cx}{x:AO}{p pos:IZ}{e:Expr}{es:List Expr}{t:TA}{id T:String}{r:List V->Hp->VK->Prop}
def tCB(r:List V->Hp->VK->Prop)(t:TA):TE:=λσ H Q=>t σ H λvs H1=>r vs H1 Q
def tV(hc:FK X (.builtin id) r)(hg:Gl X x)(hm:X.mg x=S)(hv:Cf x=Y (.builtin id))(ha:PA X (e::es) t)(hn:↑(x≠ "__name__"))(D:↑((x==("__debug__" :AO))=false))(he: ~~~(Br (e::es) X.env=(ge,Dh e X.env)::Br es X.env))(z: ~~~((DK pos<|Br es X.env).any (·.1)=false)):PE X (.Call (.Name x p) (e::es) [] pos) (tCB r t):=by intro 0 Q I h;show CF<|LR I hg hm hv ?_ hn D;show Kn (DY (ha pos pZ s σ H _ I h) λus s1 j=>(by let(vs,H1,I1,F,U):=j;show hc pZ s1 σ H1 vs us Q I1 F U)) he z
def oZ(hc:FK X (.type T) r)(hg:Gl X x)(hm:X.mg x=S)(hv:Cf x=Y (.type T))(ha:PA X (e::es) t)(hn:↑(x≠ "__name__"))(D:↑((x==("__debug__" :AO))=false))(he: ~~~(Br (e::es) X.env=(ge,Dh e X.env)::Br es X.env))(z: ~~~((DK pos<|Br es X.env).any (·.1)=false)):PE X (.Call (.Name x p) (e::es) [] pos) (tCB r t):=by intro 0 Q I h;show CF<|LR I hg hm hv ?_ hn D;show DW (DY (ha pos pZ s σ H _ I h) λus s1 j=>(by let(vs,H1,I1,F,U):=j;show hc pZ s1 σ H1 vs us Q I1 F U)) he z
end
end L2
namespace HT
open PySem PyProof.Rows
def y9:List Int->List Int->Bool|[],[]=>ge|[],_::_=>Z|_::_,[]=>ge|x::xs,y::ys=>if x=y then y9 xs ys else decide (x<y)
section
open PySem.SeqAt
open PySem.AutoSeq1 (wpAny_loadPart')
open PySem.MeetsSeq PySem.MeetsSeq2 PySem.MeetsSeq3
end
section
variable{prog:Bv}{w:BP}{A:CH}{E:Ay->AJ->Prop}{s:AJ}
def sIx(n d:Nat):Option Int->Nat|none=>d|some v=>if v<0 then (v+ (n:Int)).toNat else min v.toNat n
def sIx_nat(n d k:Nat):sIx n d (Y (k:Int))=min k n:=by
 change(if (k:Int) <0 then ((k:Int) + (n:Int)).toNat else min (k:Int).toNat n)=min k n
 rw[A3m (),Ye]
def J2(n d:Nat)(hd:d<=n)(o:Option Int):sIx n d o<=n:=by
 cases o with
 |none=>show hd
 |some v=>
  change(if v<0 then (v+ (n:Int)).toNat else min v.toNat n)<=n
  by_cases j:v<0;·rw[A3n j];lia
  rw[A3m j];show Nat.min_le_right _ _
def nh(v:Int)(n d:Nat): (if v<0 then max (v+ (n:Int)) 0 else min v (n:Int))=((sIx n d (Y v):Nat):Int):=by
 change(if v<0 then max (v+ (n:Int)) 0 else min v (n:Int))=(((if v<0 then (v+ (n:Int)).toNat else min v.toNat n):Nat):Int)
 by_cases j:v<0;·simp only[A3n j];lia
 simp only[A3m j];lia
def ku(lo hi:Option Int)(n:Nat):Pw lo hi 1 (n:Int)=(((sIx n 0 lo:Nat):Int),((sIx n n hi:Nat):Int)):=by
 let h1:¬ ((1:Int) <0):=()
 unfold Pw;simp only[h1,if_false];show Prod.ext ?_ ?_
 ·cases lo with|none=>rfl|some v=>show nh v n 0
 cases hi with|none=>rfl|some v=>show nh v n n
def jr(i j:Nat):Jh (i:Int) (j:Int) 1=j - i:=by
 unfold Jh;let h1: (1:Int) >0:=()
 simp only[h1,if_true,Int.ediv_one];split <;> lia
def VG{v:Ay}{o:Option Int}{Q:Option Int->AJ->Prop}(p:IsPart v o)(h:Q o s):Bz (model prog w) A (Builtin.Slice.slicePartIndex v) Q E s:=by cases p with|none=>show slicePart_none h|int i t=>show slicePart_int h
def Su{sl:AH}{F D:Ay}{lo hi:Option Int}{n:Nat}{Q:Int×Int×Nat->AJ->Prop}(hs:s.heap.IsSliceOf sl F D .none)(pl:IsPart F lo)(U:IsPart D hi)(h:Q (((sIx n 0 lo:Nat):Int),1,sIx n n hi - sIx n 0 lo) s):Bz (model prog w) A (Builtin.Slice.sliceApplied (.ref sl)<|ID (n:Int)) Q E s:=by
 let(os,j,a1,z):=id hs;unfold Builtin.Slice.sliceApplied Builtin.Slice.sliceFields;show AC<|AC (HB j z (x:=F) O<|AC (HB j z (x:=D) O<|AC (HB j z (x:=.none) O<|Bf ?_)));show AC<|slicePart_none ?_;change Bz _ _ (if ((1:Int)==0)=Z then _ else _) _ _ s
 rw[A3m Aa];show AC<|VG pl (AC<|VG U (AC<|Bf ?_));change Bz _ _ (match Pw lo hi 1 (n:Int)with|(lo,hi)=>ID (lo,(1:Int),Jh lo hi 1)) _ _ s;rw[ku lo hi n];change Bz _ _ (ID (((sIx n 0 lo:Nat):Int),(1:Int),Jh ((sIx n 0 lo:Nat):Int) ((sIx n n hi:Nat):Int) 1)) _ _ s;rw[jr];show Bf h
def tK(xs:Array Ay)(i k:Nat): ((Bg k).filterMap λ(m:Nat)=>xs[((i:Int) + (m:Int) *1).toNat]?).toArray=((xs.toList.drop i).take k).toArray:=by
 let e: (λ(m:Nat)=>xs[((i:Int) + (m:Int) *1).toNat]?)= λm=>xs[i+m]?:=by
  funext m;have: ((i:Int) + (m:Int) *1).toNat=i+m:=()
  rw[this]
 rw[e];have:=pick_run xs i k;rw[List.filterMap_map]at this;let j: ((λx=>xs[x]?) ∘ λx=>i+x)= λm=>xs[i+m]?:=rfl;rw[j]at this;rw[this]
def getItem_tuple_cut{t sl:AH}{items:Array Ay}{vl vu:Ay}{lo hi:Option Int}{Q:Ay->AJ->Prop}(z:IsTup s.heap t items)(hs:s.heap.IsSliceOf sl vl vu .none)(pl:IsPart vl lo)(pu:IsPart vu hi)(hw:¬ (sIx items.size 0 lo=0/\sIx items.size items.size hi=items.size))(h:Q (.ref ↑s) {s with heap:=s.heap.push {cls:=.type "tuple",data:=.seq ((items.toList.drop<|sIx items.size 0 lo).take<|sIx items.size items.size hi - sIx items.size 0 lo).toArray}})(hsz:items.size<=sizeLine):Bz (model prog w) A (Yt (.ref t)<|.ref sl) Q E s:=by
 let j:sizeOk (.seq ((items.toList.drop<|sIx items.size 0 lo).take<|sIx items.size items.size hi - sIx items.size 0 lo).toArray):=by
  change((items.toList.drop<|sIx items.size 0 lo).take<|sIx items.size items.size hi - sIx items.size 0 lo).toArray.size<=sizeLine;rw[Bu,BG,DD,Ff]
  lia
 let hj:sIx items.size items.size hi<=items.size:=J2 _ _ (AU _) hi;let(os,D,U,a5):=id hs;let a1:s.TypeIs (.ref sl) "slice":={(os),D,U};unfold Yt
 try with_reducible show En ?_
 first|show AC (Bf ?_)|skip
 show AC<|wpAny_sequenceKey z.typeIs Aa ?_;show AC<|wpAny_callSpecial?_slot (name:=AG "__getitem__") z.typeIs PyProof.Rows.slot_tuple_getitem (wpAny_call_entry PyProof.Rows.slot_tuple_getitem z.typeIs entry_tuple_getitem ?_<|args_tuple_getitem _ _);change Bz _ _ (Builtin.Tuple.tupleItemsOf (.ref t) >>= _) _ _ s;show AC<|tupleItemsOf_ z ?_;show AC<|wpAny_typeOf a1 ?_;rw[A3n Aa];show AC<|Su hs pl pu ?_;let F:¬ ((((sIx items.size 0 lo:Nat):Int)==0&& (1:Int)==1&& (sIx items.size items.size hi - sIx items.size 0 lo)==items.size)=Z):=by intro q;rw[AB,AB]at q;let q1: ((sIx items.size 0 lo:Nat):Int)=0:=UF q.1.1;let q2:sIx items.size items.size hi - sIx items.size 0 lo=items.size:=UF q.2;show hw {(),()}
 change Bz _ _ (if (((sIx items.size 0 lo:Nat):Int)==0&& (1:Int)==1&& (sIx items.size items.size hi - sIx items.size 0 lo)==items.size)=Z then _ else _) _ _ s
 rw[A3m F,tK]
 first
  |show AC (m:=JG _)<|Fh (Bf ⟨_,rfl,Bf h⟩) j|show AC (m:=JG _)<|Fh (AC<|Bf (Bf ⟨_,rfl,Bf h⟩)) j|show AC<|AC (m:=JG _) (Fh (Bf<|Bf ⟨_,rfl,Bf h⟩) j)|show AC<|AC (m:=JG _) (Fh (Bf ⟨_,rfl,Bf h⟩) j)
end
end HT
namespace L2
open PySem PySem.Spec PyProof.Rows
abbrev TO:=St->Hp->(Option Int->Hp->Prop)->Prop
def PO(X:Cx)(e:Option Expr)(t:TO):Prop:=∀(pZ:List (AH×Obj)) (s:AJ) (σ:St) (H:Hp) (Q:Option Int->Hp->Prop),Ck X pZ σ H s->t σ H Q->Bz (model X.prog X.w) X.A (evalPart e X.env) (λu s'=>∃o H',Ck X pZ σ H' s'/\IsPart u o/\Q o H') X.xe s
def xi:TO:=λ_ H Q=>Q S H
inductive S6(Q:Option Int->Hp->Prop)(x:V)(H1:Hp):Prop|mk (i:_) (_:x= .int i) (_:Q (some i) H1)
def Y3(t:TE):TO:=λσ H Q=>t σ H λx H1=>S6 Q x H1
def WP{ns:List Int}:∀{us:List Ay},CB (ns.map V.int) us->IntsAre us ns:=by
 induction ns with
 |nil=>intro us r;rw[EE]at r;cases r;show .nil
 |cons n ns D=>
  intro us r;rw[Ba]at r;cases r with
  |cons z j=>
   let(t,e):=z;subst e;show .cons n t<|D j
section
variable{X:Cx}{e:Expr}{te:TE}{lo hi:Option Expr}{tl th:TO}{pos p2:IZ}
def Ek:PO X S xi:=by intro 0 Q I h;rw[evalPart_none];show Bf {S,H,I,.none,h}
def Ej(h:PE X e te):PO X (Y e) (Y3 te):=by intro 0 Q I hw;rw[evalPart_some];show DY (h pZ s σ H _ I hw) λu s1 j=>?_;let(x,H1,F,z,D):=j;let(i,O,q):=D;let(t,O):=z;show{Y i,H1,F,.int i t,q}
def SlR(X:Cx)(r:V->Option Int->Option Int->Hp->VK->Prop):Prop:=∀(pZ:List (AH×Obj)) (s:AJ) (σ:St) (H:Hp) (x:V) (v z j:Ay) (lo hi:Option Int) (sl:AH) (Q:VK),Ck X pZ σ H s->CZ x v->s.heap.IsSliceOf sl z j .none->IsPart z lo->IsPart j hi->r x lo hi H Q->∃T id,typeLookup (.type T) "__getitem__"=ID (Y<|.builtin id)/\s.TypeIs v T/\Bz (model X.prog X.w) X.A (Yt v<|.ref sl) (EP X pZ σ Q) X.xe s
def tSl(r:V->Option Int->Option Int->Hp->VK->Prop)(te:TE)(tl th:TO):TE:=λσ H Q=>te σ H λx H1=>tl σ H1 λl H2=>th σ H2 λu H3=>r x l u H3 Q
def DE{r:V->Option Int->Option Int->Hp->VK->Prop}(hr:SlR X r)(he:PE X e te)(hl:PO X lo tl)(hu:PO X hi th):PE X (.Subscript e (.Slice lo hi S p2) pos) (tSl r te tl th):=by intro 0 Q I h;show Subscript_<|DY (he pZ s σ H _ I h) λv s1 F=>?_;let(x,H1,I1,r1,q1):=F;show wpAny_Slice<|DY (hl pZ s1 σ H1 _ I1 q1) λvl s2 D=>?_;let(l,H2,I2,pl,q2):=D;show DY (hu pZ s2 σ H2 _ I2 q2) λU j z=>?_;let(u,H3,I3,pu,q3):=z;rw[evalPart_none];show Bf ?_;let I4:Ck X pZ σ H3 {j with heap:=j.heap.push {cls:=.type "slice",data:=.fields #[vl,U,.none]}}:=I3.kept (t':=j.toks) λb ob q=>AD _ q;let(T,id,hT,ht,hg):=hr pZ {j with heap:=j.heap.push {cls:=.type "slice",data:=.fields #[vl,U,.none]}} σ H3 x v vl U l u ↑j Q I4 r1 (Heap.IsSliceOf.new ..) pl pu q3;change Bz (model X.prog X.w) X.A (subscriptTail e (.Slice lo hi S p2) v<|.ref ↑j) (EP X pZ σ Q) X.xe {j with heap:=j.heap.push {cls:=.type "slice",data:=.fields #[vl,U,.none]}};show tail_any (ops:=[.ref ↑j,v]) ht hT hg (by with_unfolding_all rfl)
def IT(xs:List V)(lo hi:Option Int):List V:=(xs.drop<|HT.sIx xs.length 0 lo).take<|HT.sIx xs.length xs.length hi - HT.sIx xs.length 0 lo
def Gh(xs:List V)(lo hi:Option Int): (IT xs lo hi).length<=xs.length:=by
 unfold IT;rw[BG,DD]
 lia
inductive A0H(K:Az)(x:V)(lo:Option Int)(hi:Option Int)(H:Hp)(Q:VK):Prop|mk (a xs:_) (_:x= .ref a) (_:GK K H a xs) (_:¬ (HT.sIx xs.length 0 lo=0/\HT.sIx xs.length xs.length hi=xs.length)) (_:∀p,H p=none->Q (.ref p) (upd H p<|.tup (IT xs lo hi)))
def A1B(K:Az):V->Option Int->Option Int->Hp->VK->Prop:=λx lo hi H Q=>A0H K x lo hi H Q
def J0:SlR X (A1B X.K):=by
 intro 0 x v vl vu lo hi sl Q I U hs pl pu h;let(a,xs,O,hx,hw,q):=h;cases U;let(z,r,F,D):=I.tuple hx;let j:z.toArray.size=xs.length:=by rw[Bu];show r.length.symm
 show{"tuple",_,PyProof.Rows.slot_tuple_getitem.lookup,F.typeIs,?_};show HT.getItem_tuple_cut F hs pl pu (by rw[j];show hw) ?_ (by rw[j];show D);rw[j];show{.ref ↑s,_,I.laid (t':=s.toks) (o:=.tup<|IT xs lo hi) (λb ob q=>AD _ q) (AU _) ?_,O,q _<|I.hok.fresh (AU _)};show{AR (Gh xs lo hi) D,_,(r.drop<|HT.sIx xs.length 0 lo).take<|HT.sIx xs.length xs.length hi - HT.sIx xs.length 0 lo,IsTup.new _ _}
end
def C2(n:Nat)(i:Int):Option Nat:=if 0<=i then (if i<n then Y i.toNat else S)else if -(n:Int)<=i then Y (i+n).toNat else S
def Yn{z:Type}(xs:List z)(i:Int):Option z:=(C2 xs.length i).bind λj=>xs[j]?
def yJ{n:Nat}{i:Int}{j:Nat}(h:C2 n i=Y j):seqIndex? i n=Y j/\j<n/\ -(n:Int)<=i/\i<n:=by
 unfold C2 at h;by_cases h0:0<=i
 ·rw[A3n h0]at h;by_cases h1:i<n
  ·rw[A3n h1]at h;let e:i.toNat=j:=AK h;show{by rw[seqIndex_of h0 h1,e],(),(),h1}
  rw[A3m h1]at h;cases h
 rw[A3m h0]at h;by_cases h1: -(n:Int)<=i;·rw[A3n h1]at h;let e: (i+n).toNat=j:=AK h;show{by rw[seqIndex_neg () h1,e],(),h1,()}
 rw[A3m h1]at h;cases h
def cU{z:Type}{xs:List z}{i:Int}{v:z}(h:Yn xs i=Y v):∃j,seqIndex? i xs.length=Y j/\xs[j]?=Y v/\j<xs.length/\ -(xs.length:Int)<=i/\i<xs.length:=by
 unfold Yn at h;cases e:C2 xs.length i with
 |none=>rw[e]at h;cases h
 |some j=>
  rw[e]at h;let(h1,h2,h3,D):=yJ e;show{(j),h1,h,h2,h3,D}
def FN{z:Type}{xs:List z}{j:Nat}{v:z}(h:xs[j]?=Y v):Yn xs (j:Int)=Y v:=by
 let D:j<xs.length:=(AQ.mp h).1;let e:C2 xs.length (j:Int)=Y j:=by unfold C2;rw[A3n (),A3n ()];simp
 unfold Yn;rw[e];show h
def cV(b:Expr):Prop:=∀o i,subscripted b ge o i=operate [o,i] (Yt o i)
def IxR(X:Cx)(r:R2):Prop:=∀(value slice:Expr) (pZ:List (AH×Obj)) (s:AJ) (σ:St) (H:Hp) (x y:V) (v u:Ay) (Q:VK),Ck X pZ σ H s->CZ x v->CZ y u->r x y H Q->subscripted slice ge v u=operate [v,u] (Yt v u)->Bz (model X.prog X.w) X.A (subscriptTail value slice v u) (EP X pZ σ Q) X.xe s
def D4(X:Cx)(id:String)(r:V->List V->Hp->VK->Prop):Prop:=∀(pZ:List (AH×Obj)) (s:AJ) (σ:St) (H:Hp) (x:V) (xs:List V) (v:Ay) (us:List Ay) (Q:VK),Ck X pZ σ H s->CZ x v->CB xs us->r x xs H Q->Bz (model X.prog X.w) X.A (call (.builtin id) (v::us)) (EP X pZ σ Q) X.xe s
section
variable{X:Cx}{a b:Expr}{ta tb:TE}{pos:IZ}
def ao{r:R2}(D:IxR X r)(ha:PE X a ta)(F:PE X b tb)(hs:cV b):PE X (.Subscript a b pos) (F9 r ta tb):=by intro 0 Q I h;show Subscript_<|R9 ha F I h λv u s2 x y H2 U z j q=>D a b pZ s2 σ H2 x y v u Q U z j q<|hs _ _
inductive A0N(K:Az)(x:V)(y:V)(H:Hp)(Q:VK):Prop|mk (p xs i v:_) (_:x= .ref p) (_:y= .int i) (_:BX K H p xs) (_:Yn xs i=some v) (_:Q v H)
def J4(K:Az):R2:=λx y H Q=>A0N K x y H Q
inductive A0L(K:Az)(x:V)(y:V)(H:Hp)(Q:VK):Prop|mk (p xs i v:_) (_:x= .ref p) (_:y= .int i) (_:GK K H p xs) (_:Yn xs i=some v) (_:Q v H)
def u1(K:Az):R2:=λx y H Q=>A0L K x y H Q
inductive A0M(x:V)(y:V)(H:Hp)(Q:VK):Prop|mk (z i c:_) (_:x= .str z) (_:y= .int i) (_:z.length<=sizeLine) (_:Yn z.cps.toList i=some c) (_:Q (.str ⟨#[c]⟩) H)
def A1E:R2:=λx y H Q=>A0M x y H Q
def mF:IxR X (J4 X.K):=by
 intro value slice pZ s σ H x y v u Q I rx ry h hs;let(p,xs,i,z,O,O,hq,he,q):=h;cases rx;let(t,O):=ry;let(F,r,pl,hz):=I.list hq;let(j,h1,h2,h3,h4,h5):=cU he;let(w,ew,D):=r.get h2;let hl:=r.length;let hn:=WF;let fin:EP X pZ σ Q w s:={(z),H,I,D,q};by_cases h0:0<=i
 ·let U:i.toNat=j:=by rw[seqIndex_of h0 h5]at h1;show AK h1
  show item_listR pl.isList h0 () (by rw[U];simpa using ew) fin hs
 let U: (i+ (F.toArray.size:Int)).toNat=j:=by rw[seqIndex_neg () h4]at h1;rw[Bu,<-hl];show AK h1
 show subscriptTail_builtinR (x:=w) pl.isList.typeIs slot_list_getitem.lookup (wpAny_getItem_list_neg (Q:=λr s'=>r=w/\EP X pZ σ Q r s') pl.isList () (by rw[Bu] <;> lia) () (by rw[U];simpa using ew) {(O),fin}) hs
def O8:IxR X (u1 X.K):=by intro value slice pZ s σ H x y v u Q I U F h hs;let(p,xs,i,z,O,O,hq,he,q):=h;cases U;let(t,O):=F;let(a1,r,pl,hz):=I.tuple hq;let(j,h1,h2,h3,h4,h5):=cU he;let(w,ew,D):=r.get h2;let hn:=WF;let fin:EP X pZ σ Q w s:={(z),H,I,D,q};show subscriptTail_builtinR (x:=w) pl.typeIs slot_tuple_getitem.lookup (getItem_tuple (j:=j) (Q:=λr s'=>r=w/\EP X pZ σ Q r s') pl () () (by rw[Bu,<-r.length];show h1) (by simpa using ew) {(O),fin}) hs
def uO:IxR X A1E:=by
 intro value slice pZ s σ H x y v u Q I F D h hs;let(z,i,c,O,O,hz,he,q):=h;let(t,O):=F;let(t',O):=D;let(j,h1,h2,h3,h4,h5):=cU he;let U:z.cps.toList.length=z.length:=by simp[Str.length]
 rw[U]at h1 h4 h5;let hn:=WF;show tail_any (OL s z t) slot_str_getitem.lookup (getItem_str (c:=c) (by
  let e1:decide (i< -(2 ^ 63:Int))=false:=A3k ();let e2:decide (i>=2 ^ 63)=false:=A3k ();rw[e1,e2,Bool.or_false]) (by rw[h1];simpa using h2) {.str {#[c]},H,I.tok _,{(_),O},q}) hs
def bP(lo hi:Option Int)(n:Nat): (MC lo hi S n).1=((HT.sIx n 0 lo:Nat):Int)/\(MC lo hi S n).2.1=((HT.sIx n n hi:Nat):Int)/\(MC lo hi S n).2.2=1:=by
 show{?_,?_,O}
 ·cases lo with
  |none=>simp[MC,HT.sIx]
  |some i=>
   simp only[MC,HT.sIx,Option.getD_none,show(1:Int) >0 by decide,if_true];by_cases h:i<0;·simp only[h,if_true] <;> lia
   simp only[h,if_false] <;> lia
 cases hi with
 |none=>simp[MC,HT.sIx]
 |some i=>
  simp only[MC,HT.sIx,Option.getD_none,show(1:Int) >0 by decide,if_true];by_cases h:i<0;·simp only[h,if_true] <;> lia
  simp only[h,if_false] <;> lia
def YH(j:List Ay)(lo hi:Option Int):slicePick j.toArray lo hi S=((j.drop<|HT.sIx j.length 0 lo).take<|HT.sIx j.length j.length hi - HT.sIx j.length 0 lo).toArray:=by let(h1,h2,h3):=bP lo hi j.toArray.size;unfold slicePick;rw[h1,h2,h3];simp only[sliceRange_one,pick_run,Bu] <;> rfl
inductive A0J(K:Az)(x:V)(lo:Option Int)(hi:Option Int)(H:Hp)(Q:VK):Prop|mk (a xs:_) (_:x= .ref a) (_:BX K H a xs) (_:∀p,H p=none->Q (.ref p) (upd H p<|.lst (IT xs lo hi)))
def A1D(K:Az):V->Option Int->Option Int->Hp->VK->Prop:=λx lo hi H Q=>A0J K x lo hi H Q
def HQ:SlR X (A1D X.K):=by intro 0 x v vl vu lo hi sl Q I D hs pl F h;let(a,xs,O,hx,q):=h;cases D;let(U,r,z,hz):=I.list hx;let j:=r.length;show{"list",_,slot_list_getitem.lookup,z.isList.typeIs,?_};show wpAny_getItem_list_slice z.isList hs pl F .none (by simp) ?_ (by rw[Bu] <;> lia);rw[YH,<-j];show{.ref ↑s,_,I.laid (t':=s.toks) (o:=.lst<|IT xs lo hi) (λb ob q=>AD _ q) (AU _) ?_,O,q _<|I.hok.fresh (AU _)};show{AR (Gh xs lo hi) hz,_,0,(r.drop<|HT.sIx xs.length 0 lo).take<|HT.sIx xs.length xs.length hi - HT.sIx xs.length 0 lo,Bx _ O}
def Nz:V->Bool|.non=>Z|.bl _=>Z|.int _=>Z|.str _=>Z|_=>ge
def zm:V->V->Bool|.non,.non=>Z|.bl a,.bl b=>a==b|.bl a,.int b=>(if a then 1 else 0)==b|.int a,.bl b=>a==(if b then 1 else 0)|.int a,.int b=>a==b|.str a,.str b=>a==b|_,_=>ge
def Q6{A:CH}{s:AJ}{y x:V}{u v:Ay}(z:CZ y u)(j:CZ x v)(D:Nz y=Z)(fx:Nz x=Z):SeqAt.EqAt A s u v (zm y x):=by
 cases y with
 |non=>
  cases z;cases x with|non=>cases j;show SeqAt.EqAt.same _|bl b=>cases j;show SeqAt.EqAt.none_bool b|int b=>let(t,O):=j;show SeqAt.EqAt.none_int b t|str b=>let(t,O):=j;show SeqAt.EqAt.none_str b t|_=>show A3p (show ge=Z from fx) Bm
 |bl a=>
  cases z;cases x with|non=>cases j;show SeqAt.EqAt.bool_none a|bl b=>cases j;show SeqAt.EqAt.bool_bool a b|int b=>let(t,O):=j;show SeqAt.EqAt.bool_int a b t|str b=>let(t,O):=j;show SeqAt.EqAt.bool_str a b t|_=>show A3p (show ge=Z from fx) Bm
 |int a=>
  let(t',O):=z;cases x with|non=>cases j;show SeqAt.EqAt.int_none a t'|bl b=>cases j;show SeqAt.EqAt.int_bool a t' b|int b=>let(t,O):=j;show SeqAt.EqAt.int_int a t' b t|str b=>let(t,O):=j;show SeqAt.EqAt.int_str a t' b t|_=>show A3p (show ge=Z from fx) Bm
 |str a=>
  let(t',O):=z;cases x with|non=>cases j;show SeqAt.EqAt.str_none a t'|bl b=>cases j;show SeqAt.EqAt.str_bool a t' b|int b=>let(t,O):=j;show SeqAt.EqAt.str_int a t' b t|str b=>let(t,O):=j;show SeqAt.EqAt.str_str a t' b t|_=>show A3p (show ge=Z from fx) Bm
 |_=>show A3p (show ge=Z from D) Bm
def ke(x:V)(u:Ay):Bool:=match u with
 |.none=>zm .non x|.bool b=>zm (.bl b) x|.int i _=>zm (.int i) x|.str z _=>zm (.str z) x|_=>ge
def vm{x y:V}{u:Ay}(r:CZ y u)(f:Nz y=Z):ke x u=zm y x:=by cases y with|non=>cases r;rfl|bl b=>cases r;rfl|int i=>let(t,O):=r;rfl|str z=>let(t,O):=r;rfl|_=>show A3p (show ge=Z from f) Bm
def RO{x:V}:∀{xs:List V} {us:List Ay},CB xs us->xs.all Nz=Z->us.any (ke x)=xs.any λy=>zm y x
 |_,_,.nil,_=>rfl
 |y::xs,u::us,.cons r t,f=>by
  rw[Hk,AB]at f;rw[Ja,Ja,vm r f.1,RO t f.2]
def Oz{A:CH}{s:AJ}{x:V}{v:Ay}(z:CZ x v)(fx:Nz x=Z):∀{xs:List V} {us:List Ay},CB xs us->xs.all Nz=Z->∀u∈us,SeqAt.EqAt A s u v<|ke x u
 |_,_,.nil,_=>λu j=>by cases j
 |y::xs,u::us,.cons r t,f=>λD j=>by
  rw[Hk,AB]at f;rcases AM.mp j with rfl|j;·rw[vm r f.1];show Q6 r z f.1 fx
  show Oz z fx t f.2 D j
def Ym(x:V)(xs:List V):Bool:=xs.any λy=>zm y x
inductive A2q(K:Az)(neg:Bool)(x:V)(y:V)(H:Hp)(Q:VK):Prop|mk (p xs:_) (_:y= .ref p) (_: (BX K H p xs\/GK K H p xs)) (_:Nz x=true) (_:xs.all Nz=true) (_:Q (.bl<|if neg then !Ym x xs else Ym x xs) H)
def rIn(K:Az)(neg:Bool):R2:=λx y H Q=>A2q K neg x y H Q
def Mq:NA X (DB .In) (rIn X.K ge):=by
 intro 0 x y v u Q I D F h;let(p,xs,O,z,fx,fs,q):=h;cases F;rcases z with z|z;·let(j,r,pl,U):=I.list z;show SeqAt.in_listAt (ke x) pl.isList (λw hw=>Oz D fx r fs w<|by simpa using hw) {.bl _,H,I,O,?_};rw[show j.toArray.any (ke x)=j.any (ke x)by simp,RO r fs];show q
 let(j,r,pl,U):=I.tuple z;show SeqAt.in_tupleAt (ke x) pl (λw hw=>Oz D fx r fs w<|by simpa using hw) {.bl _,H,I,O,?_};rw[show j.toArray.any (ke x)=j.any (ke x)by simp,RO r fs];show q
def Rh:NA X (DB .NotIn) (rIn X.K Z):=by
 intro 0 x y v u Q I D F h;let(p,xs,O,z,fx,fs,q):=h;cases F;rcases z with z|z;·let(j,r,pl,U):=I.list z;show SeqAt.notIn_listAt (ke x) pl.isList (λw hw=>Oz D fx r fs w<|by simpa using hw) {.bl _,H,I,O,?_};rw[show j.toArray.any (ke x)=j.any (ke x)by simp,RO r fs];show q
 let(j,r,pl,U):=I.tuple z;show SeqAt.notIn_tupleAt (ke x) pl (λw hw=>Oz D fx r fs w<|by simpa using hw) {.bl _,H,I,O,?_};rw[show j.toArray.any (ke x)=j.any (ke x)by simp,RO r fs];show q
def BU:FK X (.builtin "len") (λxs H Q=>∃p ys,xs=[.ref p]/\(BX X.K H p ys\/GK X.K H p ys)/\Q (.int ys.length) H):=by
 intro 0 xs us Q I r h;let(p,ys,O,z,q):=h;let(u,O,U):=Lo r;cases U;let hn:=WF;rcases z with z|z;·let(F,D,pl,hz):=I.list z;let j:=D.length;show Calls.call_len_list pl.isList (by simp only[Bu] <;> lia) {.int ys.length,H,I.tok _,{s.toks+1,by rw[Bu,j]},q}
 let(F,D,pl,hz):=I.tuple z;let j:=D.length;show len_tuple pl (by simp only[Bu] <;> lia) {.int ys.length,H,I.tok _,{s.toks+1,by rw[Bu,j]},q}
def Km:FK X (.builtin "len") (λxs H Q=>∃z,xs=[.str z]/\z.length<=sizeLine/\Q (.int z.length) H):=by intro 0 xs us Q I r h;let(z,O,j,q):=h;let(u,O,t,O):=Lo r;let hn:=WF;show len_str () {.int z.length,H,I.tok _,{(_),O},q}
def FK.or{f:Ay}{r z:List V->Hp->VK->Prop}(h:FK X f r)(h':FK X f z):FK X f (λxs H Q=>r xs H Q\/z xs H Q):=by
 intro 0 xs us Q I j q;rcases q with q|q;·show h pZ s σ H xs us Q I j q
 show h' pZ s σ H xs us Q I j q
def Ht:FK X (.type "list") (λxs H Q=>∃p ys,xs=[.ref p]/\(BX X.K H p ys\/GK X.K H p ys)/\∀l,H l=S->Q (.ref l) (upd H l<|.lst ys)):=by
 intro 0 xs us Q I r h;let(p,ys,O,F,q):=h;let(u,O,rx):=Lo r;cases rx;let fin:∀(j:List Ay),CB ys j->ys.length<=sizeLine->∀(h':CA) (c':Nat),(∀b o',s.heap.get? b=Y o'->h'.get? b=Y o')->h'.get? ↑s=Y {cls:=.type "list",dict:=S,data:=.seq j.toArray c',slots:=#[]}->EP X pZ σ Q (.ref ↑s) {s with heap:=h'}:=λj z D h' c' kp e=>
  {.ref ↑s,_,I.laid (t':=s.toks) kp (AU _)<|show Dk X.prog X.w _ h' _ (.lst ys)from{(D),j,c',z,e},O,q _<|I.hok.fresh (AU _)}
 rcases F with F|F;·let(j,z,pl,D):=I.list F;let U:=z.length;let(o,ho,hc,n,hd):=pl.isList;show call_list_seq p (.inl O) ho hc hd (λh' c' kp e=>fin j z D h' c' kp e) (by simp only[Bu] <;> lia)
 let(j,z,pl,D):=I.tuple F;let U:=z.length;let(o,ho,hc,n,hd):=pl;show call_list_seq p (.inr O) ho hc hd (λh' c' kp e=>fin j z D h' c' kp e) (by simp only[Bu] <;> lia)
def tyV(K:Az)(T:String)(x:V)(H:Hp):Prop:=match x with
 |.str _=>T="str"|.int _=>T="int"|.ref p=>(T="list" /\∃xs,BX K H p xs)\/(T="tuple" /\∃o,K.lookup p=Y o/\o.cls= .type "tuple" /\o.dict=S)\/(T="dict" /\((∃kvs,H p=Y (.dK kvs))\/∃kvs,H p=Y (.dT kvs)))\/(T="set" /\∃Sq n,H p=Y (.set Sq n))|_=>False
def rX{pZ:List (AH×Obj)}{σ:St}{H:Hp}{s:AJ}{T:String}{x:V}{v:Ay}(I:Ck X pZ σ H s)(r:CZ x v)(ty:tyV X.K T x H):
  s.TypeIs v T/\∀a,v= .ref a->∃ob,s.heap.get? a=Y ob/\ob.dict=none:=by
 cases x with
 |str z=>
  let(t,O):=r;cases (show T="str" from ty);show{OL s z t,λ_ e=>nomatch e}
 |int i=>
  let(t,O):=r;cases (show T="int" from ty);show{typeIs_int s i t,λ_ e=>nomatch e}
 |ref p=>
  cases r;rcases ty with⟨rfl,xs,U⟩|⟨rfl,o,j,hc,hd⟩|⟨rfl,j⟩|⟨rfl,Sq,n,j⟩;·let(F,_,pl,_):=I.list U;show{pl.isList.typeIs,λa e=>?_};cases e;let(o,n,e,c,hd,_):=pl;show{(o),e,hd}
  ·show{{o,I.kIn p o j,hc},λa e=>?_};cases e;show{o,I.kIn _ o j,hd}
  ·let z:∃o,s.heap.get? p=Y o/\o.ExactDict:=by
    rcases j with⟨kvs,j⟩|⟨kvs,j⟩;·let(_,_,_,_,o,_,_,e,ex,_):=I.hok p _ j;show{(o),e,ex}
    let(_,_,_,_,o,_,_,e,ex,_):=I.hok p _ j;show{(o),e,ex}
   let(o,e,ex):=z;show{{(o),e,ex.1},λa D=>?_};cases D;show{(o),e,ex.2.1}
  let(o,_,_,_,e,ex,_):=I.hok p _ j;show{{(o),e,ex.1},λa D=>?_};cases D;show{(o),e,ex.2.1}
 |_=>show BM ty
inductive A0G(K:Az)(T:String)(r:V->List V->Hp->VK->Prop)(Q:VK)(x:V)(H1:Hp):Prop|mk (_:tyV K T x H1) (_:r x [] H1 Q)
def A1y(K:Az)(T:String)(r:V->List V->Hp->VK->Prop)(to:TE):TE:=λσ H Q=>to σ H λx H1=>A0G K T r Q x H1
inductive A2n(K:Az)(T:String)(r:V->List V->Hp->VK->Prop)(t:TA)(σ:St)(Q:VK)(x:V)(H1:Hp):Prop|mk (_:tyV K T x H1) (_:t σ H1 λxs H2=>r x xs H2 Q)
def tBM(K:Az)(T:String)(r:V->List V->Hp->VK->Prop)(to:TE)(t:TA):TE:=λσ H Q=>to σ H λx H1=>A2n K T r t σ Q x H1
variable{o e:Expr}{es:List Expr}{to:TE}{t:TA}{name:AO}{apos cpos:IZ}{T id:String}{r:V->List V->Hp->VK->Prop}
def K8(pa:PlainAttrs T)(slot:Slot T name id)(F:typeOf (.builtin id)=ID (.type "method_descriptor"))(hm:D4 X id r)(ho:PE X o to)(D: ~~~(GF o name X.env (Dh o X.env)=Dh o X.env))(j: ~~~((apos.endLine==cpos.line)=true)):PE X (.Call (.Attribute o name apos) [] [] cpos) (A1y X.K T r to):=by intro 0 Q I h;show wpAny_Call_method0_late D j<|DY (ho pZ s σ H _ I h) λv s1 z=>?_;let(x,H1,I1,U,ty,q1):=z;let(h1,h2):=rX I1 U ty;show{T,id,pa,slot,F,h1,h2,KZ O<|PySem.evalArgs_none (hm pZ s1 σ H1 x [] v [] Q I1 U .nil q1)}
def EA(pa:PlainAttrs T)(slot:Slot T name id)(a2:typeOf (.builtin id)=ID (.type "method_descriptor"))(hm:D4 X id r)(ho:PE X o to)(ha:PA X (e::es) t)(U: ~~~(GF o name X.env (Dh o X.env)=Dh o X.env))(a1: ((DK cpos<|Br (e::es) X.env).all (λx=>!x.1) && (ME cpos<|HC [] X.env).all (λx=>x.1.isSome)
   &&decide ((e::es).length+ ([]:List Yu).length+ (if ([]:List Yu).isEmpty then 0 else 1) <30))=true:=by rfl)
  (z: ~~~((apos.endLine==cpos.line)=true))(hs: ~~~(Br (e::es) X.env=(ge,Dh e X.env)::Br es X.env))(j: ~~~((DK cpos<|Br es X.env).any (·.1)=false)):
  PE X (.Call (.Attribute o name apos) (e::es) [] cpos) (tBM X.K T r to t):=by intro 0 Q I h;show wpAny_Call_method_late U a1 z O<|DY (ho pZ s σ H _ I h) λv s1 F=>?_;let(x,H1,I1,r1,ty,q1):=F;let(h1,h2):=rX I1 r1 ty;show{T,id,pa,slot,a2,h1,h2,?_};let hA:=ha cpos pZ s1 σ H1 _ I1 q1;rw[hs]at hA ⊢;show KZ (by change(ge|| (DK cpos<|Br es X.env).any (·.1))=ge;rw[j] <;> rfl)<|MJ ?_;show DY hA λus s2 D=>(by let(vs,H2,I2,r2,q2):=D;show hm pZ s2 σ H2 x vs v us Q I2 r1 r2 q2)
end
def MtM(X:Cx)(id:String)(r:V->List V->Hp->VK->Prop):Prop:=∀(pZ:List (AH×Obj)) (s:AJ) (σ:St) (H:Hp) (x:V) (xs:List V) (v:Ay) (us:List Ay) (Q:VK),Ck X pZ σ H s->CZ x v->CB xs us->r x xs H Q->Bz (model X.prog X.w) X.A (call (.builtin id) (v::us)) (EP X pZ σ Q) X.xe s
def CB.one:∀{x:V} {us:List Ay},CB [x] us->∃u,us=[u]/\CZ x u:=λh=>by
 cases h with|cons r t=>cases t;show{(_),O,r}
def CB.two:∀{x y:V} {us:List Ay},CB [x,y] us->∃u v,us=[u,v]/\CZ x u/\CZ y v:=λh=>by
 cases h with
 |cons r t=>
  cases t with|cons q t=>cases t;show{(_),_,O,r,q}
def CB.zero:∀{us:List Ay},CB [] us->us=[]|_,.nil=>rfl
section
variable{X:Cx}{pZ:List (AH×Obj)}{σ:St}{H:Hp}{s:AJ}{l b:AH}{xs ys zs:List V}
def Ck.lset{j its':List Ay}{n:Nat}{f:Array Ay->Array Ay}{t':Nat}(I:Ck X pZ σ H s)(hH:H l=Y (.lst xs))(e:s.heap.get? l=Y {cls:=.type "list",data:=.seq j.toArray n})(hf:f j.toArray=its'.toArray)(D:CB ys its')(z:ys.length<=sizeLine):
  Ck X pZ σ (upd H l<|.lst ys) {s with heap:=s.heap.update l<|HH f,toks:=t'}:=by let q:=PySem.IsL.update e f;rw[hf]at q;show I.write (x:=l) (e:=l) (by rw[hH];show trivial) (.inl O) (λb' u U F=>(DL s.heap (HH f)<|CI U).trans F) {(_),q} ?_;show{(z),its',_,D,q}
def Ck.lnew{j:List Ay}{t':Nat}(I:Ck X pZ σ H s)(D:CB ys j)(z:ys.length<=sizeLine):
  Ck X pZ σ (upd H ↑s<|.lst ys) {s with heap:=s.heap.push {cls:=.type "list",data:=.seq j.toArray},toks:=t'}:=I.laid (λ_ _ q=>AD _ q) (AU _) {z,j,0,D,Bx _ O}
def Ck.fresh(I:Ck X pZ σ H s):H ↑s=none:=I.hok.fresh<|AU _
def Ck.lstM(I:Ck X pZ σ H s)(D:H l=Y (.lst xs)):xs.length<=sizeLine/\∃(j:List Ay) (n:Nat),CB xs j/\xs.length=j.length/\s.heap.get? l=Y {cls:=.type "list",data:=.seq j.toArray n}:=by let(z,j,n,r,e):=I.hok l _ D;show{(z),j,n,r,r.length,e}
def uv{n:Nat}(h:n<=sizeLine):QH n=false:=by unfold QH;show A3k ()
end
section
variable{X:Cx}
inductive wH(x:V)(vs:List V)(H:Hp)(Q:VK):Prop|mk (l xs y:_) (_:x= .ref l) (_:vs=[y]) (_:H l=some (.lst xs)) (_:xs.length<sizeLine) (_:Q .non (upd H l<|.lst (xs++[y])))
def xX:V->List V->Hp->VK->Prop:=λx vs H Q=>wH x vs H Q
def Dp:MtM X "list.append" xX:=by
 intro 0 x vs v us Q I U rv h;let(l,xs,y,O,O,D,hz,q):=h;cases U;let(u,O,ru):=rv.one;let(z,j,n,r,hl,e):=I.lstM D;show JV F.slot_list_append {(_),e,O} F.entry_list_append (F.args_list_append_2 _ _) (PySem.list_append l j.toArray n u<|by rw[Bu];lia) {e,?_};show{.non,_,I.lset (its':=j++[u]) D e (by simp) (r.append<|.cons ru .nil) ?_,O,q};rw[AI,FF]
 lia
inductive wG(x:V)(vs:List V)(H:Hp)(Q:VK):Prop|mk (l b xs zs:_) (_:x= .ref l) (_:vs=[.ref b]) (_:H l=some (.lst xs)) (_:H b=some (.lst zs)) (_:xs.length+zs.length<=sizeLine) (_:Q .non (upd H l<|.lst (xs++zs)))
def xV:V->List V->Hp->VK->Prop:=λx vs H Q=>wG x vs H Q
def SM:MtM X "list.extend" xV:=by
 intro 0 x vs v us Q I rx rv h;let(l,b,xs,zs,O,O,hH,hB,hz,q):=h;cases rx;let(u,O,ru):=rv.one;cases ru;let(z,D,n,r,hl,e):=I.lstM hH;let(z2,j,n2,r2,a6,e2):=I.lstM hB;let hsz:D.toArray.size+j.toArray.size<=sizeLine:=by rw[Bu,Bu];lia
 let U:¬ (!D.toArray.isEmpty&&QH (D.toArray.size+j.toArray.size))=true:=by rw[uv hsz,Gv];show Bm
 show JV F.slot_list_extend {(_),e,O} F.entry_list_extend (F.args_list_extend_2 _ _) (AutoSeq1.list_extend_list_list_0 l D.toArray n b j.toArray n2 U (by rw[Bu];lia)<|()) {e,e2,?_};show{.non,_,I.lset (its':=D++j) hH e (by simp) (r.append r2) ?_,O,q};rw[AI]
 lia
inductive zR(x:V)(vs:List V)(H:Hp)(Q:VK):Prop|mk (l xs:_) (_:x= .ref l) (_:vs=[]) (_:H l=some (.lst xs)) (_:Q .non (upd H l<|.lst []))
def J7:V->List V->Hp->VK->Prop:=λx vs H Q=>zR x vs H Q
def uC:MtM X "list.clear" J7:=by intro 0 x vs v us Q I rx rv h;let(l,xs,O,O,U,q):=h;cases rx;let D:=rv.zero;subst D;let(z,j,n,r,hl,e):=I.lstM U;show JV F.slot_list_clear {(_),e,O} F.entry_list_clear (F.args_list_clear_1 _) (AutoSeq1.list_clear_list_0 l j.toArray n<|by rw[Bu];lia) {e,?_};show{.non,_,I.lset (its':=[]) (ys:=[]) U e O .nil<|BY _,O,q}
inductive A0P(x:V)(y:V)(H:Hp)(Q:VK):Prop|mk (l b xs zs:_) (_:x= .ref l) (_:y= .ref b) (_:H l=some (.lst xs)) (_:H b=some (.lst zs)) (_:xs.length+zs.length<=sizeLine) (_:∀p,H p=none->Q (.ref p) (upd H p<|.lst (xs++zs)))
def A1G:R2:=λx y H Q=>A0P x y H Q
def DS:NA X (MD .Add) A1G:=by
 intro 0 x y v u Q I U F h;let(l,b,xs,zs,O,O,hH,hB,hz,q):=h;cases U;cases F;let(z,D,n,r,hl,e):=I.lstM hH;let(z2,j,n2,r2,a2,e2):=I.lstM hB;show PySem.P.add_list e e2 ?_ (by rw[Bu,Bu];lia);let ea:D.toArray++j.toArray=(D++j).toArray:=by simp
 rw[ea];show{.ref _,_,I.lnew (t':=s.toks) (r.append r2) (by rw[AI];lia),O,q _ I.fresh}
end
section
variable{prog:Bv}{w:BP}{A:CH}{E:Ay->AJ->Prop}{s:AJ}
end
section
variable{X:Cx}
end
end L2
namespace Att
open PySem PySem.W PySem.Calls PyProof.Rows
def Ux{P:Params}{h:CA}:∀(ns:List Int) (vs:List Ay),WellAll P h vs (ns.map bq)->IntsAre vs ns:=by
 intro ns;induction ns with
 |nil=>
  intro vs w;rw[EE]at w;cases w;show .nil
 |cons n ns j=>
  intro vs w;rw[Ba]at w;cases w with
  |cons a b=>
   cases a;show .cons _ _<|j _ b
def oH{l:OpenLaw}{n:Nat}(hn:l.most=Y n){P:Params}{h:CA}{args:List WData}{j:List Ay}(RA:l.row.toRowW.claim.pre args=Z)(hwl:WellAll P h j args):
  ∃a vs ns,j=[Value.ref a]/\args=[WData.list (ns.map bq)]/\h.get? a=Y {cls:=.type "list",data:=.seq vs.toArray}/\IntsAre vs ns/\ns.length<=n:=by
 let a1:WShape.hasAll [] args [.list .int]=true:=(pre_splitW RA).1;let hc:l.pre.holds [] {args:=args}=true:=(pre_splitW RA).2;let(d,r,O,h1,h2):=hasAllW_cons a1;obtain rfl:=hasAllW_nil h2;let(xs,O,h3):=hasW_list h1;let(ns,O):=items_int h3;let z:ns.length<=n:=by
  unfold OpenLaw.pre at hc;let U: (WTm.not<|.lt (.lit<|.int (n:Int)) (.len<|.arg 0)).holds [] {args:=[.list (ns.map .int)]}=true:=by let U:=(holds_andW hc).1;rw[hn]at U;show U
  let F:=condW_of U<|w_not (w_lt w_lit<|w_len_list (w_arg O));rw[Aw]at F;show Nat.le_of_not_lt λq=>?_;let q': (n:Int) < ((ns.length:Nat):Int):=()
  first
   |(rw[A3j q']at F;show A3p F Aa)|(simp at F;lia)
 cases hwl with
 |cons w1 w2=>
  cases w2;cases w1 with|list ho D=>show{_,_,ns,O,O,ho,Ux ns _ D,z}
def oS(l:OpenLaw)(args:List WData):l.row.toRowW.claim.post args (.bool Z) args=true:=postW_of (r:=l.row.toRowW) (X:=(Z==Z)) (show WShape.has [] (.bool Z) .bool=Z by first|rfl|decide|simp[WShape.has,WShape.arms,WShape.armsAll])
  (show(WTm.eq .res<|.lit (.bool Z)).value [] {args:=args,res:=Y<|.bool Z,after:=args}=Y (.bool<|Z==Z)from w_eq_bool (w_res O) w_lit) O
def dP{ns:List Int}{i:Int}(hi:i∈ns):UG (.int i)<=WData.weightAll (ns.map bq):=by
 induction ns with
 |nil=>cases hi
 |cons a r j=>
  rw[Ba,WData.weightAll];rcases AM.mp hi with rfl|h;·lia
  have:=j h
  lia
def hV{ns:List Int}(h:WData.layableAll [WData.list (ns.map bq)]=Z):∀i∈ns,FC i<=1048576:=by
 intro i hi;let h1: (WData.list<|ns.map bq).layable=true:=By.mp h _ Bl;let h2:UG (.list<|ns.map bq)<=2 ^ 20:=by show A3l<|(Db.mp h1).2
 rw[UG]at h2;let z:=dP hi;let j:UG (.int i)=FC i:=by rw[UG];rfl
 rw[j]at z;let e: (2:Nat) ^ 20=1048576:=by decide
 lia
def attach_call{l:OpenLaw}{n:Nat}{q:Bv}{loose:List AO}{XP: (AO->Option Ay)->CA->Prop}{YP:BP->CA->Prop}{d:DefRec}(hn:l.most=Y n)(a3:d.params.defaults=[])(call:∀(w:BP) (s_ j:AJ) (mg mb:AO->Option Ay) (fa:AH) (o:Obj) (pm cd doc:Ay) (a:AH) (vs:List Ay) (ns:List Int),Ground q loose [] XP w s_ mg mb j.heap->YP w j.heap->j.heap.get? fa=Y o->o.data= .func (docDef d.name d.params d.body d.scope pm cd doc)->j.heap.CodeRec cd d.name->mg d.name=Y (.ref fa)->j.heap.get? a=Y {cls:=.type "list",data:=.seq vs.toArray}->IntsAre vs ns->ns.length<=n->j.gens=#[]->(∀i∈ns,FC i<=1048576)->Iv (model l.prog w) Tl (.call (.ref fa) {[.ref a],[]}) (λr s'=>r= .ok (.ret<|.bool Z)/\OldK j.heap s'.heap/\s'.os=j.os/\UL s'.gens) j):
  WalkO q loose XP YP l.row.toRowW d [] (λf vs=>PySem.call f vs):=by intro w s_ j mg mb G Yq fa o pm cd doc dV kV ho hd a4 hD a2 hg args a5 as RA U a7 hwl b0;obtain rfl:dV= .none:=Dflts.none hD a3;obtain rfl:kV= .none:=Dflts.noKw hD;let(a,vs,ns,O,O,D,z,F):=oH hn RA hwl;show enter_call<|Go (call w s_ j mg mb fa o pm cd doc a vs ns G Yq ho (fd_plain hd) a4 a2 D z F hg<|hV U) λr s' hq=>?_;let(O,h2,h3,h4):=hq;show{.inl {.bool Z,.bool Z,[],O,λ_=>rfl,.bool Z,oS l _,λ_=>{Yd,λ_ hm=>(nomatch hm)}},h2,h3,h4}
section
variable{prog:Bv}{w:BP}{A:CH}{E:Ay->AJ->Prop}{s:AJ}{K:Fn}
def noObjs(h:CA):CA:={h with objs:=#[]}
def noObjs_get(h:CA)(b:AH): (noObjs h).get? b=none:=by cases e: (noObjs h).get? b with|none=>rfl|some o=>show A3p (Bs e)<|Qg _
def ledger(h:CA)(L d:AH):List (AH×Obj):=(Bg h.objs.size).filterMap λa=>if a=L\/a=d then S else (h.get? a).map λo=>(a,o)
def mem_ledger{h:CA}{L d a:AH}{o:Obj}: (a,o)∈ledger h L d ↔ a≠L/\a≠d/\h.get? a=Y o:=by
 unfold ledger;rw[MH];constructor
 ·rintro⟨b,_,e⟩;split at e
  ·cases e
  rename_i z;let(o',j,D):=Ce.mp e;cases D;show{λq=>z<|.inl q,λq=>z<|.inr q,j}
 rintro⟨n1,n2,j⟩;show{a,Dv.mpr<|Bs j,?_};rw[A3m (show ¬ (a=L\/a=d)from λq=>q.elim n1 n2),j] <;> rfl
def fr_all{h:CA}{L:AH}{m:AO->Option Ay}(n:h.Ns L m):Fr (noObjs h) L h m:={n,λb o e=>(by rw[noObjs_get]at e;cases e),BY _}
end
end Att
namespace L2
open PySem PySem.Spec PyProof.Rows
def ae:∀{vs:List Ay} {ns:List Int},IntsAre vs ns->CB (ns.map V.int) vs|_,_,.nil=>.nil|_,_,.cons n t h=>.cons {(t),O}<|ae h
def Ch(s:JW)(j:Nat):JW:=match s with
 |.ClassDef _ _ _ body _ _ _ _ _ _ _=>body.getD j<|.Pass {0,0,0,0}|_=>.Pass {0,0,0,0}
def Jq(s:JW):Ka:=match s with
 |.FunctionDef _ a _ _ _ _ _ _ _ _=>a|_=>{posonlyargs:=[],args:=[],vararg:=S,kwonlyargs:=[],kw_defaults:=[],kwarg:=S,defaults:=[]}
def GJ(s:JW):List JW:=match s with
 |.FunctionDef _ _ b _ _ _ _ _ _ _=>b|_=>[]
def AV(s:JW):Scope:=match s with
 |.FunctionDef _ _ _ _ _ _ sc _ _ _=>sc|_=>{kind:=.function,names:=[],isGenerator:=ge,isCoroutine:=ge}
abbrev ZM:dr:={Z,ge,λ_ _ _ _ _ _=>False}
abbrev CXS:dr:={ge,Z,λ_ _ _ _ _ _=>False}
abbrev E0:XK:=λ_ _ _=>False
def ES{X:Cx}(hc: ~~~(X.calm=true)):JT ZM X E0:={λ_=>hc,O,λ_ _ _ _ _ _ _ h=>h.elim}
structure Yo(K:Az)(x qual:AO)(st:JW)(f:AH)(fd:Eu):Prop where
 ex:∃(oc:Ay) (od:Option AH) (kV doc pm:Ay) (an:Option AH) (cdv ct:Ay) (osl:Array (Option Ay)),fd=Mc x qual (Jq st) (GJ st) (AV st) .none kV doc pm an cdv ct/\K.lookup f=Y {oc,od,.func fd,osl}/\PySem.W.codeIn K cdv qual=Z
 kp:EJ K (.ref f)=Z
section
variable{P:Bv}{w:BP}{K:Az}{mg:AO->Option Ay}{base:CA}
def Yo.okX{x qual:AO}{st:JW}{f:AH}{fd:Eu}{N ps:List AO}{k:Nat}{sp:Sp}{CX:dr}(F:Yo K x qual st f fd)(Sq:Bn N ps (AV st))(len:∀vs H Q E,sp vs H Q E->vs.length=ps.length)(j:∀(cdv:Ay) (A:CH) (outer:List Env) (s:AJ) (H:Hp) (vs:List V) (Q:VK) (E:XK),EX k (A.deeper<|FD qual (AV st) ↑s f cdv)->sp vs H Q E->∃t,Ug (Uy CX P w K mg base N qual (AV st) f cdv A outer s H E) (GJ st) t/\t {nx:=λ_ H'=>Q .non H',rt:=Q} (Og N vs) H):EY P w K mg base CX (k+1) f fd ps sp:=by let(oc,od,kV,doc,pm,an,cdv,ct,osl,O,lk,D):=F.ex;show gD lk D Sq len λA outer s H vs Q E U z=>j cdv A outer s H vs Q E U z
def Yo.ok{x qual:AO}{st:JW}{f:AH}{fd:Eu}{N ps:List AO}{k:Nat}{sp:Sp}{CX:dr}(F:Yo K x qual st f fd)(Sq:Bn N ps (AV st))(len:∀vs H Q E,sp vs H Q E->vs.length=ps.length)(j:∀(cdv:Ay) (A:CH) (outer:List Env) (s:AJ) (H:Hp) (vs:List V) (Q:VK) (E:XK),EX k (A.deeper<|FD qual (AV st) ↑s f cdv)->sp vs H Q E->∃t,Ug (Uy CX P w K mg base N qual (AV st) f cdv A outer s H E).nox (GJ st) t/\t {nx:=λ_ H'=>Q .non H',rt:=Q} (Og N vs) H):EY P w K mg base CX (k+1) f fd ps sp:=by show F.okX Sq len λcdv A outer s H vs Q E D z=>?_;let(t,h,q):=j cdv A outer s H vs Q E D z;show{(t),h.nox,q}
def Yo.binds{x qual:AO}{st:JW}{f:AH}{fd:Eu}{ps:List AO}(F:Yo K x qual st f fd)(h:∀(kV doc pm:Ay) (an:Option AH) (cdv ct:Ay) (us:List Ay),us.length=ps.length->bindArgs (Mc x qual (Jq st) (GJ st) (AV st) .none kV doc pm an cdv ct) {us,[]}=ID (ps.zip us)):EB K fd ps []:=by let(oc,od,kV,doc,pm,an,cdv,ct,osl,O,lk,j):=F.ex;show .all<|h kV doc pm an cdv ct
def P8{x qual:AO}{st:JW}{f:AH}{oc:Ay}{od an:Option AH}{osl:Array (Option Ay)}{kV doc pm cdv ct:Ay}(l:K.lookup f=Y {oc,od,.func<|Mc x qual (Jq st) (GJ st) (AV st) .none kV doc pm an cdv ct,osl})(c:PySem.W.codeIn K cdv qual=Z)(k:EJ K (.ref f)=Z):Yo K x qual st f (Mc x qual (Jq st) (GJ st) (AV st) .none kV doc pm an cdv ct):={{(oc),od,kV,doc,pm,an,cdv,ct,osl,O,l,c},k}
end
def Ny{A:CH}{k:Nat}(j:EX k A):A.units+1<RX:=Ev (DH (by decide:1<=64) _) j.units
def DM{n:Nat}(h:n<=1000):n<sizeLine:=Ev h Aa
section
variable{X:Cx}
def pv(i:Nat){x:AO}{pos:IZ}(D: ~~~(X.N[i]?=Y x))(z:Vis X.env.scope x:=by first|show Cd rfl|show CV (Cd rfl)|show CV<|CV rfl)(hd:↑((x==("__debug__" :AO))=false))(j:↑((x==("__classdict__" :AO))=false)):PE X (.Name x pos) (Y0 i):=K5 D z hd j
end
def BW{A B:Prop}(h:B):if ge=Z then A else B:=by rw[A3m Bm];show h
def CP{A B:Prop}(h:A):if Z=Z then A else B:=by rw[A3n O];show h
def Hs{c A B:Prop} [Decidable c](h1:c->A)(h2:¬c->B):if c then A else B:=by
 by_cases h:c;·rw[A3n h];show h1 h
 rw[A3m h];show h2 h
def WN{c A B:Prop} [Decidable c](hc:c)(h:B):if (!decide c)=Z then A else B:=by rw[A3j hc];show BW h
def Bd(H H':Hp):Prop:=∀b o,H b=Y o->H' b=Y o
def Bd.refl(H:Hp):Bd H H:=λ_ _ h=>h
def Bd.trans{H H1 H2:Hp}(a:Bd H H1)(b:Bd H1 H2):Bd H H2:=λc o h=>b c o<|a c o h
def Bd.free{H H':Hp}(e:Bd H H'){l:AH}(h:H' l=Option.none):H l=Option.none:=by
 cases q:H l with
 |none=>rfl
 |some o=>
  rw[e l o q]at h;cases h
def Bd.seq{K:Az}{H H':Hp}{a:AH}{xs:List V}(e:Bd H H')(h:BX K H a xs):BX K H' a xs:=by
 rcases h with(h|⟨o,h⟩)|h;·show .inl<|.inl (e _ _ h)
 ·show .inl<|.inr {o,e _ _ h}
 show .inr h
section
variable{X:Cx}
def nJ(i j:Int):Prop:=0<=j/\(FC i:Int) *j<=2 ^ 27
def Ph:NA X (MD .Pow) (rI nJ λi j=>.int<|i ^ j.toNat):=opI λ_ _ _ _ _ _ _ hc q=>pow_int hc.1 hc.2 q
end
mutual
inductive LY(K:Az)(H:Hp):V->PyData->Prop where
 |non:LY K H .non .none|bl (b:Bool):LY K H (.bl b) (.bool b)|int (i:Int):LY K H (.int i) (.int i)|str (x:AO):LY K H (.str x) (.str x)|lst {a:AH} {xs:List V} {ds:List PyData} (h:BX K H a xs) (r:MA K H xs ds):LY K H (.ref a) (.list ds)|tup {a:AH} {xs:List V} {ds:List PyData} (h:GK K H a xs) (r:MA K H xs ds):LY K H (.ref a) (.tuple ds)
inductive MA(K:Az)(H:Hp):List V->List PyData->Prop where
 |nil:MA K H [] []|cons {x:V} {d:PyData} {xs:List V} {ds:List PyData} (h:LY K H x d) (r:MA K H xs ds):MA K H (x::xs) (d::ds)
end
section
variable{X:Cx}{pZ:List (AH×Obj)}{σ:St}{H:Hp}{s:AJ}
mutual
def LY.reads(I:Ck X pZ σ H s):∀{x:V} {d:PyData},LY X.K H x d->∀{u:Ay},CZ x u->∃as,Reads s.heap u d as
 |_,_,.non,u,r=>by cases (show u=CT from r);show{_,.none}|_,_,.bl b,u,r=>by cases (show u=CG b from r);show{_,.bool b}|_,_,.int i,u,r=>by let(t,O):=(show ∃t,u=FM i t from r);show{_,.int i t}|_,_,.str x,u,r=>by let(t,O):=(show ∃t,u=Ma x t from r);show{_,.str x t}
 |_,_,.lst (a:=a) h z,u,r=>by
  cases (show u=Value.ref a from r);let(F,j,(o,n,e,hc,_,hd),_):=I.list h;let(as,D):=MA.reads I z j;show{_,.list e hc hd<|by simpa using D}
 |_,_,.tup (a:=a) h z,u,r=>by
  cases (show u=Value.ref a from r);let(F,j,(o,e,hc,n,hd),_):=I.tuple h;let(as,D):=MA.reads I z j;show{_,.tuple e hc hd<|by simpa using D}
def MA.reads(I:Ck X pZ σ H s):∀{xs:List V} {ds:List PyData},MA X.K H xs ds->∀{us:List Ay},CB xs us->∃as,ReadsAll s.heap us ds as
 |_,_,.nil,us,r=>by cases r;show{_,.nil}
 |_,_,.cons h j,us,r=>by
  cases r with
  |cons D z=>
   let(as,U):=LY.reads I h D;let(bs,F):=MA.reads I j z;show{_,.cons U F}
end
end
inductive A0O(K:Az)(x:V)(y:V)(H:Hp)(Q:VK):Prop|mk (d d':_) (_:LY K H x d) (_:LY K H y d') (_:DX d=true) (_:DX d'=true) (_:Q (.bl<|PyData.eqv d d') H)
def u4(K:Az):R2:=λx y H Q=>A0O K x y H Q
inductive A0K(K:Az)(x:V)(y:V)(H:Hp)(Q:VK):Prop|mk (d d':_) (_:LY K H x d) (_:LY K H y d') (_:DX d=true) (_:DX d'=true) (_:Q (.bl<|!PyData.eqv d d') H)
def t8(K:Az):R2:=λx y H Q=>A0K K x y H Q
section
variable{X:Cx}
def jy(U:X.A.units+64<RX):NA X (DB .Eq) (u4 X.K):=by intro 0 x y v u Q I z j h;let(d,d',h1,h2,h3,h4,q):=h;let(as,F):=h1.reads I z;let(bs,D):=h2.reads I j;show eq_dataH F D h3 h4 U {.bl _,H,I,O,q}
def Nf(U:X.A.units+64<RX):NA X (DB .NotEq) (t8 X.K):=by intro 0 x y v u Q I z j h;let(d,d',h1,h2,h3,h4,q):=h;let(as,F):=h1.reads I z;let(bs,D):=h2.reads I j;show ne_dataH F D h3 h4 U {.bl _,H,I,O,q}
end
def Xg{K:Az}{H:Hp}:∀ns:List Int,MA K H (ns.map V.int)<|ns.map PyData.int|[]=>.nil|n::r=>.cons (.int n)<|Xg r
section
variable{X:Cx}
def hJ:FK X (.builtin "isinstance") (λxs H Q=>∃x c t cv b,xs=[x,c]/\IV X.K H x t/\CZ c cv/\Bo X.K t cv=Y b/\Q (.bl b) H):=by
 intro 0 xs us Q I r h;let(x,c,t,cv,b,O,ty,D,e,q):=h;let(u,F,O,U,z):=dR r;let ec:F=cv:=by
  cases c with
  |non=>show(show F=_ from z).trans (show cv=_ from D).symm|bl _=>show(show F=_ from z).trans (show cv=_ from D).symm|ref _=>show(show F=_ from z).trans (show cv=_ from D).symm|ty _=>show(show F=_ from z).trans (show cv=_ from D).symm
  |int i=>
   let(j,O):=(show ∃j,cv=FM i j from D);show A3p e (by unfold Bo Sc;cases ty <;> simp)
  |str i=>
   let(j,O):=(show ∃j,cv=Ma i j from D);show A3p e (by unfold Bo Sc;cases ty <;> simp)
  |byt i=>
   let(j,O):=(show ∃j,cv=Value.bytes i j from D);show A3p e (by unfold Bo Sc;cases ty <;> simp)
  |flt i=>
   let(j,O):=(show ∃j,cv=XM i j from D);show A3p e (by unfold Bo Sc;cases ty <;> simp)
 subst ec;show pO I U ty e λtk=>{.bl b,H,I.tok tk,O,q}
end
def Uz(names:List (AO×NameKind))(env:Env):List (AO×AH):=(names.filter λp=>p.2== .free).reverse.map λp=>(p.1,(env.cells.lookup p.1).getD 0)
def Xh(X:Cx)(N:List AO)(scope:Scope)(C:AH)(j:AJ)(z:Hp)(fp:List AH):Cx where
 prog:=X.prog
 w:=X.w
 K:=X.K
 mg:=X.mg
 base:=X.base
 A:=X.A
 N:=N
 s_:=j
 H_:=z
 env:=compEnvC scope (Uz scope.names X.env) C X.env
 outer:=X.stack
 stack:=X.stack
 ex:=fp
 fn:=λ_=>ge
 calm:=X.calm
 suit:=X.suit
 pn:=[]
 xe:=λ_ _=>False
def WB{names:List (AO×NameKind)}{f:AO->NameKind->NameKind}{x:AO}{k:NameKind}: (names.map λp=>(p.1,f p.1 p.2)).lookup x=Y k->∃k0,names.lookup x=Y k0/\k=f x k0:=by
 induction names with
 |nil=>intro h;simp at h
 |cons p r j=>
  let(n,k1):=p;intro h;rw[Ba,Fm]at h;rw[Fm];cases hx:x==n with
  |true=>
   rw[hx]at h;let e:x=n:=beq_iff_eq.mp hx;subst e;show{k1,O,(AK h).symm}
  |false=>
   rw[hx]at h;show j h
def Zh: (relabel scope env).names=scope.names.map λp=>(p.1,if (p.2== .free&&env.scope.kind== .function&&env.kindOf p.1==Y .cell)=Z then bu else p.2):=by
 unfold relabel;show Cm λp _=>?_;let(n,k):=p;change(if (k== .free&&env.scope.kind== .function&&env.kindOf n==Y .cell)=Z then (n,bu)else (n,k))=_
 split <;> rfl
def gh{z j:Type}{l:List (AO×z)}{f:AO->j}{x:AO}{c:j}: (l.map λp=>(p.1,f p.1)).lookup x=Y c->c=f x/\∃a,(x,a)∈l:=by
 induction l with
 |nil=>intro h;simp at h
 |cons p r D=>
  intro h;rw[Ba,Fm]at h;cases hx:x==p.1 with
  |true=>
   rw[hx]at h;let e:x=p.1:=beq_iff_eq.mp hx;show{?_,p.2,?_};·rw[e];show(AK h).symm
   rw[e];show Bl
  |false=>
   rw[hx]at h;let(e,a,m):=D h;show{e,a,Bi _ m}
def SN{j z:Type}{l:List (AO×j)}{f:AO->z}{x:AO}{a:j}(h: (x,a)∈l): (l.map λp=>(p.1,f p.1)).lookup x=Y (f x):=by
 induction l with
 |nil=>cases h
 |cons p r D=>
  rw[Ba,Fm];cases hx:x==p.1 with
  |true=>
   let e:x=p.1:=beq_iff_eq.mp hx;rw[e]
  |false=>
   rcases AM.mp h with e|m;·rw[<-e]at hx;simp at hx
   show D m
structure QD(X:Cx)(scope:Scope):Prop where
 kind:scope.kind= .function
 clos:closureFor scope X.env=ID (Uz scope.names X.env)
 cell:∀y∈scope.names,y.2≠ .cell
 names:∀y∈scope.names,y.2= .local->scope.names.lookup y.1=Y .local
 free:∀y∈scope.names,y.2= .free->(X.env.cells.lookup y.1).isSome=Z
def Iq{X:Cx}{scope:Scope}(ok:QD X scope){x:AO}{c:AH}(h: (Uz scope.names X.env).lookup x=Y c):X.env.cells.lookup x=Y c:=by unfold Uz at h;let(e,a,m):=gh (f:=λn=>(X.env.cells.lookup n).getD 0) h;let j:=Eg.mp<|ZQ.mp m;let fr:=ok.free _ j.1 (by simpa using j.2);cases q:X.env.cells.lookup x with|none=>rw[q]at fr;cases fr|some d=>rw[e,q];rfl
def gX{X:Cx}{scope:Scope}{x:AO}(h: (x,NameKind.free)∈scope.names): (Uz scope.names X.env).lookup x=Y ((X.env.cells.lookup x).getD 0):=by unfold Uz;show SN (f:=λn=>(X.env.cells.lookup n).getD 0) (ZQ.mpr<|Eg.mpr {h,by simp})
inductive QC(X:Cx)(scope:Scope):List Nat->List AO->Prop where
 |nil:QC X scope [] []|cons {j:Nat} {x:AO} {js:List Nat} {xs:List AO} (h1:X.N[j]?=some x) (h2:X.env.kindOf x=some .cell\/X.env.kindOf x=some .free) (h3:scope.names.lookup x=some .free) (r:QC X scope js xs):QC X scope (j::js) (x::xs)
def ro(k:Nat)(js:List Nat)(σ:St):St:=CO k S++js.map λj=>(σ[j]?).getD S
def KJ{j:Type}{l:List (AO×j)}{x:AO}{a:j}(h:l.lookup x=Y a): (x,a)∈l:=Fd h
def QC.len:∀{js:List Nat} {xs:List AO},QC X scope js xs->js.length=xs.length|_,_,.nil=>rfl|_,_,.cons _ _ _ r=>by simp[QC.len r]
def QC.at:∀{js:List Nat} {xs:List AO},QC X scope js xs->∀{i:Nat} {x:AO},xs[i]?=Y x->∃j,js[i]?=Y j/\X.N[j]?=Y x/\(X.env.kindOf x=Y .cell\/X.env.kindOf x=Y .free)/\scope.names.lookup x=Y .free
 |_,_,.nil,i,x,h=>by simp at h|_,_,.cons h1 h2 h3 r,0,x,h=>by simp at h;subst h;show{(_),O,h1,h2,h3}
 |_,_,.cons h1 h2 h3 r,i+1,x,h=>by
  let(j,e,q):=QC.at r (i:=i) (x:=x) (by simpa using h);show{j,by simpa using e,q}
def kf{X:Cx}{pZ:List (AH×Obj)}{σ:St}{H2:Hp}{D:AJ}{scope:Scope}{fp:List AH}{ts xs:List AO}{js:List Nat}{F:CA}{C:AH}{tk:Nat}(I:Ck X pZ σ H2 D)(ok:QD X scope)(fr:QC X scope js xs)(b4:∀x∈ts,scope.names.lookup x=Y .local)(a2:∀b∈fp,Ti X pZ H2 b)(b0:∀b∈fp,b<↑D)(hC:C=↑D+1)(a9:F.Ns C (λ_=>S))(old:∀b o,D.heap.get? b=Y o->F.get? b=Y o)(hD:F.get? ↑D=Y {cls:=.type "list",data:=.seq ([]:List Ay).toArray 0}):
  Ck (Xh X (ts++xs) scope C D H2 fp) [] (ro ts.length js σ) (upd H2 ↑D<|.lst []) {D with heap:=F,toks:=tk}:=by
 let a4:∀{x:AO} {k:NameKind},(compEnvC scope (Uz scope.names X.env) C X.env).kindOf x=Y k->∃k0,scope.names.lookup x=Y k0/\k=if (k0== .free&&X.env.scope.kind== .function&&X.env.kindOf x==Y .cell)=Z then bu else k0:=λ{x k} h=>by
  let h': (relabel scope X.env).names.lookup x=Y k:=h;rw[Zh]at h';show WB (f:=λn k=>if (k== .free&&X.env.scope.kind== .function&&X.env.kindOf n==Y .cell)=Z then bu else k) h'
 let freeOf:∀{x:AO},((compEnvC scope (Uz scope.names X.env) C X.env).kindOf x=Y .cell\/(compEnvC scope (Uz scope.names X.env) C X.env).kindOf x=Y .free)->scope.names.lookup x=Y .free:=λ{x} h=>by
  rcases h with h|h
  ·let(k0,e,q):=a4 h;by_cases c: (k0== .free&&X.env.scope.kind== .function&&X.env.kindOf x==Y .cell)=Z
   ·rw[AB,AB]at c;rw[e,beq_iff_eq.mp c.1.1]
   rw[A3m c]at q;show A3p q.symm<|ok.cell _ (KJ e)
  let(k0,e,q):=a4 h;by_cases c: (k0== .free&&X.env.scope.kind== .function&&X.env.kindOf x==Y .cell)=Z;·rw[A3n c]at q;cases q
  rw[A3m c]at q;rw[e,q]
 show{{I.ok.mod,ok.kind,I.ok.glob,I.ok.blt,?_,λx y c h1 h2=>I.ok.inj x y c (Iq ok h1)<|Iq ok h2,λx hx=>{_,gX<|KJ (freeOf hx)},λx c h _=>BL<|show ge=Z from h,I.ok.hd,I.ok.frames,.inl O,λb hb=>{?_,λx c h=>(a2 b hb).2.2.2.2.1 x c<|Iq ok h},I.bs,AR I.ok.bsz I.sz,λb o e hb=>?_,λb hb hs=>?_,I.stack,I.stkFree,λz=>?_},O,I.bare,Un.laid old (AU _)<|I.hok.fresh (a:=↑D) (AU _),{_,a9,λi x v h1 h2 h3=>?_},λx c h=>?_,?_,λx c h=>?_,λp hp=>A3p (show p∈ ([]:List (AH×Obj))from hp) (by simp),?_,?_};·change ↑D<=C;rw[hC];show Da _
 ·change b≠C;rw[hC];show BH<|JF (b0 b hb)
 ·let h1:=(a2 b hb).2.2.2.1;rcases h1 with z|z
  ·show I.ok.noex b o e z
  show A3p (BK (Bs e)<|AR I.ok.bsz z)<|DO _
 ·rcases AM.mp (I.stkSub b hs)with z|z
  ·show(a2 b hb).2.1 z
  show(a2 b hb).2.2.1 z
 ·let(ex,cls,dx,a0,tb,hA,hE):=I.ok.hs z;show{ex,cls,dx,a0,tb,hA,I.base.frzs ex _ _ hE}
 ·
  let hi:ts.length<=i:=by show Nat.le_of_not_lt λhi=>?_;unfold ro at h2;rw[Eo (by simpa using hi),OU,A3n hi]at h2;cases h2
  let b2:xs[i - ts.length]?=Y x:=by let a3: (ts++xs)[i]?=Y x:=h1;rw[Dw hi]at a3;show a3
  let(j,ej,hN,hk,U):=fr.at b2;let a8:σ[j]?=Y (Y v):=by unfold ro at h2;rw[Dw (by simpa using hi),JZ,Be,ej]at h2;simp only[Option.map_some,JB]at h2;cases q:σ[j]? with|none=>rw[q]at h2;cases h2|some z=>rw[q]at h2;show A3o Y h2
  let(m,hn,hl):=I.loc;let a7:Vis X.env.scope x:=by
   rcases hk with hk|hk;·show .inr<|.inl hk
   show .inr<|.inr hk
  let(u,r,l):=hl j x v hN a8 a7;show{u,r,.inr ?_};rcases l with⟨k,_⟩|⟨_,c,hc,z⟩;·rcases hk with hk|hk <;> (rw[k]at hk;cases hk)
  show{?_,c,?_,z.keeps old}
  ·rcases h3 with q|q|q
   ·let(k0,e,w):=a4 (x:=x) (k:=.local) q;rw[U]at e;cases e;split at w <;> cases w
   ·show .inl q
   show .inr q
  let e:=gX (X:=X)<|KJ U;rw[hc]at e;show e
 ·let(v,z):=I.cell x c<|Iq ok h;show{v,z.keeps old}
 ·change(upd H2 ↑D<|.lst []) C=S;rw[hC,AT<|JD (Ig _)];show I.hok.fresh<|Da _
 ·let(v,z):=I.cell x c<|Iq ok h;rw[AT (BH z.lt)];show I.freeC x c<|Iq ok h
 ·show I.hok.laid old (AU _) {BY _,[],0,.nil,hD}
 unfold ro;change _=(ts++xs).length;rw[AI,AI,JZ,Aw,fr.len]
def V6(X:Cx)(ifs:List Expr)(t:TT):Prop:=∀(pZ:List (AH×Obj)) (s:AJ) (σ:St) (H:Hp) (Q:Bool->Hp->Prop),Ck X pZ σ H s->t σ H Q->Bz (model X.prog X.w) X.A (forIn ifs Z λc r=>if r=Z then do let ok <-isTrue c X.env (Dh c X.env);ID (Qi ok)else ID (Qi r)) (TP X pZ σ Q) X.xe s
def Vw:TT:=λ_ H Q=>Q Z H
def US:V6 X [] Vw:=λ_ _ _ H _ I h=>wpAny_tests_nil {(H),I,h}
def Rg(hc:PT X c t):V6 X [c] t:=λpZ s σ H Q I h=>wpAny_tests_one<|hc pZ s σ H Q I h
def cM(J:Nat->AJ->Prop)(a4:∀n s,J n s->Bz (model prog w) A (pyNext it) (λr z=>match r with
   |none=>R (.ok .next) z
   |some v=>Bz (model prog w) A (JH target it v) (λ_ a1=>Bz (model prog w) A (assign target env v) (λ_ U=>
     Bz (model prog w) A (forIn ifs Z λc r=>if r=Z then do let ok <-isTrue c env (Dh c env);ID (Qi ok)else ID (Qi r)) (λok j=>
      if ok=Z then Bz (model prog w) A (Dh elt env) (λx F=>
       Bz (model prog w) A (call (.builtin "list.append") [a9,x]) (λ_ D=>∃m,m<n/\J m D) (λ_ _=>False) F) (λ_ _=>False) j
      else ∃m,m<n/\J m j) (λ_ _=>False) U) (λ_ _=>False) a1) (λ_ _=>False) z) (λ_ _=>False) s)
  (n:Nat)(h:J n s):Iv (model prog w) A (.compLoop (.ListComp elt [{target,iter,ifs,0}] scope pos) 0 it a9 env) R s:=by
 show codeAny_loop O J (λn s hI=>?_) n h;change Bz _ A ((compTurn (.ListComp elt [{target,iter,ifs,0}] scope pos) 0 it a9 env).onRaise λx=>do Ys x env;theTreesLotGoes x) _ _ s;show wpAny_noted<|wpAny_noRaise ?_;rw[compTurn_list];show AC<|Me (AC<|DY (a4 n s hI) λr z a3=>?_);cases r with
 |none=>show Bf a3
 |some v=>
  show AC<|DY a3 λ_ a1 a8=>AC<|DY a8 λ_ U a7=>AC<|DY a7 λok j a2=>?_;cases ok with|false=>show Bf {(O),a2}|true=>show AC<|AC (DY a2 λx F a6=>AC<|DY a6 λ_ D a5=>Bf<|Bf {(O),a5})
def Sub(σ j:St):Prop:=∀(i:Nat) v,σ[i]?=Y (Y v)->j[i]?=Y (Y v)
def Sub.set(h:σ[i]?=Y S):Sub σ (σ.set i x):=λj v e=>by
 by_cases z:i=j;·subst z;rw[h]at e;cases e
 rw[Sh z];show e
def Sub.trans(a:Sub σ z)(b:Sub z j):Sub σ j:=λi v e=>b i v<|a i v e
def RS(J:It)(H1:Hp)(z:St)(g:TG)(tif:TT)(te:TE)(Q:VK):Prop:=∀D,H1 D=S->∃W:Nat->Nat->List V->Hp->Prop,(∃m,W 0 m []<|upd H1 D (.lst []))/\∀i m ys H,W i m ys H->H D=Y (.lst ys)/\((J.stop i H/\Q (.ref D) H)\/(J.go i H/\∀x H',J.yld i H x H'->g x z H' λj H2=>Sub z j/\tif j H2 λb H3=>
  if b=Z then te j H3 λy U=>U D=Y (.lst ys)/\ys.length<sizeLine/\∃F,F<m/\W (i+1) F (ys++[y]) (upd U D<|.lst (ys++[y]))else ∃F,F<m/\W (i+1) F ys H3))
def lC(mk:St->St)(wi:TI)(g:TG)(tif:TT)(te:TE):TE:=λσ H Q=>wi σ H λJ H1=>RS J H1 (mk σ) g tif te Q
section
variable{X:Cx}{scope:Scope}{ts xs:List AO}{js:List Nat}{target iter elt:Expr}{ifs:List Expr}{wi:TI}{g:TG}{tif:TT}{te:TE}{pos:IZ}
def D3.mono(h:D3 X pZ σ tg R v s)(k:∀J H1,R J H1->j J H1):D3 X pZ σ tg j v s:=by let(it,fp,tn,J,H',e,I,T,st,f,r):=h;show{it,fp,tn,J,H',e,I,T,st,f,k _ _ r}
def gW{pZ:List (AH×Obj)}{σ:St}{j:AJ}{Q:VK}{c5:Ay}{E:Ay->AJ->Prop}{RR:Ay->AH->Result->AJ->Prop}(ok:QD X scope)(fr:QC X scope js xs)(d4:∀x∈ts,scope.names.lookup x=Y .local)(hg:∀C s_ H_ fp,PG (Xh X (ts++xs) scope C s_ H_ fp) target g)(d7:∀C s_ H_ fp,V6 (Xh X (ts++xs) scope C s_ H_ fp) ifs tif)(he:∀C s_ H_ fp,PE (Xh X (ts++xs) scope C s_ H_ fp) elt te)(h:D3 X pZ σ target (λJ H1=>(X.calm=Z\/J.sok=Z/\X.suit=Z)/\RS J H1 (ro ts.length js σ) g tif te Q) c5 j)(e6:∀D C s' H' m',Ck X pZ σ H' s'->s'.heap.Ns C m'->Ti X pZ H' C->Q (.ref D) H'->RR (.ref D) C (.ok .next) s'):
  Bz (model X.prog X.w) X.A (newList []) (λc9 c1=>Bz (model X.prog X.w) X.A (newFunctionEnv scope X.env.globals (Uz scope.names X.env) [] X.env.qual S .none<|Y X.env) (λb2 b9=>
   Iv (model X.prog X.w) X.A (.compStart (.ListComp elt [{target,iter,ifs,0}] scope pos) 0 c5 c9 {b2 with scope:=relabel scope X.env}) (RR c9 b2.locals) b9) E c1) E j:=by
 let(it,fp,tn,J,H2,e,I2,T,c3,f2,hc,hw):=h;subst e;let c6:∀b∈fp,b<↑j:=λb z=>by
  let(o,e,_):=T.obj _ _ c3 b z;show Bs e
 show Fh (wpAny_newFunctionEnv ok.cell (by intro y hy;simp at hy) (λa1 U F=>?_) ok.kind)
 dsimp only at U F ⊢
 let hsz: (j.heap.push {cls:=.type "list",dict:=S,data:=.seq ([]:List Ay).toArray}).objs.size=↑j+1:=KY _ _;generalize hC: (j.heap.push {cls:=.type "list",dict:=S,data:=.seq ([]:List Ay).toArray}).objs.size=C at U F hsz ⊢;let a6:∀b o,(j.heap.push {cls:=.type "list",dict:=S,data:=.seq ([]:List Ay).toArray}).get? b=Y o->a1.get? b=Y o:=λb o e=>by
  let z:b≠C:=by rw[<-hC];show BH<|Bs e
  show(F.2 b z).trans (AD _ e)
 let old:∀b o,j.heap.get? b=Y o->a1.get? b=Y o:=λb o e=>a6 b o<|AD _ e;let b5:a1.get? ↑j=Y {cls:=.type "list",data:=.seq ([]:List Ay).toArray 0}:=a6 _ _<|Bx _ O;let e5:=I2.hok.fresh (a:=↑j)<|AU _;let(W,(m0,w0),b8):=hw ↑j e5;let IC:=kf (tk:=j.toks+ ([]:List (AO×Ay)).length) I2 ok fr d4 f2 c6 hsz U old b5;let a2:tn 0 a1:=T.keep _ _ _ c3 λb z o e=>old b o e;let a4:∀{H':Hp},(∀b∈fp,H' b=S)->∀b∈fp,Ti (Xh X (ts++xs) scope C j H2 fp) [] H' b:=λ{H'} hn b z=>
  {hn b z,(IC.ok.exf b z).1,IC.ok.exfs b z,.inl z,λx c e=>(IC.ok.exf b z).2 x c e,λp hp=>A3p (show p∈ ([]:List (AH×Obj))from hp)<|by simp}
 let f0:∀b∈fp,(upd H2 ↑j<|.lst []) b=none:=λb z=>by
  rw[AT (BH<|c6 b z)];show(f2 b z).1
 let b1:Iv (model X.prog X.w) X.A (.compLoop (.ListComp elt [⟨target,iter,ifs,0⟩] scope pos) 0 (.ref it) (.ref ↑j)<|compEnvC scope (Uz scope.names X.env) C X.env)
   (RR (.ref ↑j) C) {j with heap:=a1,toks:=j.toks+ ([]:List (AO×Ay)).length}:=by
  show cM (λn s'=>∃i H' ys,Ck (Xh X (ts++xs) scope C j H2 fp) [] (ro ts.length js σ) H' s'/\tn i s'.heap/\(∀b∈fp,H' b=S)/\W i n ys H') ?_ m0 {0,_,[],IC,a2,f0,w0};rintro n s3 ⟨i,H3,ys,I3,c2,c8,w3⟩;let(i6,alt):=b8 i n ys H3 w3;rcases alt with⟨stop,qn⟩|⟨go,step⟩;·show DY (T.done (Xh X (ts++xs) scope C j H2 fp) O O O hc i [] s3 _ H3 _ I3 (a4 c8) c2 stop) λr s4 e4=>?_;let(hr,I4):=e4;subst hr;let e8:H3 C=none:=I4.free;let I5:Ck X pZ σ H3 s4:=I2.call' (ch:=fp) (s':=s4) I4.os I4.base I4.hok I4.bare λb z=>{(f2 b z).2.2.2.1,(f2 b z).2.1,(f2 b z).2.2.2.2.1,(f2 b z).2.2.2.2.2};let(m',d6,_):=I4.loc;show e6 _ _ s4 H3 m' I5 d6 (I2.fpOk (by rw[hsz];show Da _) e8) qn
  show DY (T.item (Xh X (ts++xs) scope C j H2 fp) O O O hc i [] s3 _ H3 _ I3 (a4 c8) c2 go) λr s4 e3=>?_;let(u,hr,h4):=e3;subst hr;show DY h4 λ_ s5 e2=>?_;let(x,H5,I5,r5,y5,b4,e9):=e2;let b0:∀{a3:St} {H7:Hp} {s7:AJ},Ck (Xh X (ts++xs) scope C j H2 fp) ([] ++SH fp s5.heap) a3 H7 s7->tn (i+1) s7.heap/\∀b∈fp,H7 b=none:=λ{a3 H7 s7} I7=>by
   show{T.keep _ _ _ b4 λb z o e=>(I7.pin (b,o)<|BJ _ (BJ _<|Ni z e)).1,λb z=>?_};let(o,e,d):=T.obj _ _ b4 b z;show(I7.pin (b,o)<|BJ _ (BJ _<|Ni z e)).2.1
  let back:∀{a3:St} {H7:Hp} {s7:AJ},Ck (Xh X (ts++xs) scope C j H2 fp) ([] ++SH fp s5.heap) a3 H7 s7->Sub (ro ts.length js σ) a3->Ck (Xh X (ts++xs) scope C j H2 fp) [] (ro ts.length js σ) H7 s7:=λ{a3 H7 s7} I7 sb=>
   I7.unpinned.weak (IC.len.trans I7.len.symm) sb
  show DY (hg _ _ _ _ _ s5 _ H5 x u _ (I5.pinned (a4 e9)<|T.obj _ _ b4) r5<|step x H5 y5) λ_ s6 e1=>?_;let(b3,H6,I6,c4,q6):=e1;show DY (d7 _ _ _ _ _ s6 b3 H6 _ I6 q6) λd3 s7 e0=>?_;let(H7,I7,q7):=e0;cases d3 with
  |false=>
   let(m',hm,w7):=(show ∃m',m'<n/\W (i+1) m' ys H7 from q7);let(t7,n7):=b0 I7;show{m',hm,i+1,H7,ys,back I7 c4,t7,n7,w7}
  |true=>
   show DY (he _ _ _ _ _ s7 b3 H7 _ I7 q7) λu8 s8 d9=>?_;let(y,H8,I8,r8,e7,c7,m',hm,w8):=d9;show DY (Dp (X:=Xh X (ts++xs) scope C j H2 fp) _ s8 b3 H8 (.ref ↑j) [y] (.ref ↑j) [u8] (λ_ H9=>W (i+1) m' (ys++[y]) H9) I8 O (.cons r8 .nil) {(_),ys,y,O,O,e7,c7,w8}) λu9 s9 d8=>?_;let(_,H9,I9,_,w9):=d8;let(t9,n9):=b0 I9;show{m',hm,i+1,H9,ys++[y],back I9 c4,t9,n9,w9}
 show codeAny_compStart_list b1<|T.self _ 0 _ _ _ a2 b1
def lS(hc:X.calm=Z)(ok:QD X scope)(fr:QC X scope js xs)(j:∀x∈ts,scope.names.lookup x=Y .local)(hi:PI X target iter wi)(hg:∀C s_ H_ fp,PG (Xh X (ts++xs) scope C s_ H_ fp) target g)(U:∀C s_ H_ fp,V6 (Xh X (ts++xs) scope C s_ H_ fp) ifs tif)(he:∀C s_ H_ fp,PE (Xh X (ts++xs) scope C s_ H_ fp) elt te)(hs:∀x,KS iter X.env x=ID x:=by intro _;rfl):PE X (.ListComp elt [{target,iter,ifs,0}] scope pos) (lC (ro ts.length js) wi g tif te):=by intro 0 Q I h;rw[eval_ListComp];show wpAny_comprehension_free (use:=S) O hs ok.clos ok.kind ok.names<|DY (hi pZ s σ H _ I h) λv s1 h1=>DY h1 λa3 s2 h2=>?_;show gW (Q:=Q) ok fr j hg U he (D3.mono h2 λJ H1 z=>{.inl hc,z}) λD C s' H' m' I' hn a1 q=>?_;show{m',hn,λh' F=>?_};let(f0,f1,f2,f3,f4,f5):=a1;show{.ref D,H',I'.turned (t':=s'.toks) (λb o hb e=>(F.2 b hb).trans e) f0 f1 f3 f4 f5,O,q}
def Nb(hc:X.calm=Z)(ok:QD X scope)(fr:QC X scope js xs)(U:∀x∈ts,scope.names.lookup x=Y .local)(hi:PI X target iter wi)(hg:∀C s_ H_ fp,PG (Xh X (ts++xs) scope C s_ H_ fp) target g)(a3:∀C s_ H_ fp,V6 (Xh X (ts++xs) scope C s_ H_ fp) ifs tif)(he:∀C s_ H_ fp,PE (Xh X (ts++xs) scope C s_ H_ fp) elt te)(hN:X.N.Nodup)(hy:X.N[i]?=Y y)(hx:V8 X.env.scope y)(a1:RV (.ListComp elt [{target,iter,ifs,0}] scope pos) (Y<|.Name y py) j.line X.env=ID Z)(hs:∀x,KS iter X.env x=ID x:=by intro _;rfl)(hf:X.fn y=Z\/X.env.scope.names.lookup y=Y .local:=by first|show .inl rfl|show .inr rfl|assumption):
  PS X (.Assign [.Name y py] (.ListComp elt [{target,iter,ifs,0}] scope pos) j) (xk (lC (ro ts.length js) wi g tif te)<|Ub i):=by
 intro 0 D I h;rw[exec_Assign_Name_used _ _ _ _ a1];show AC<|Me (AC ?_);change Bz _ X.A (do let _ <-comprehension (.ListComp elt [⟨target,iter,ifs,0⟩] scope pos) scope X.env _ (newList []) ge (Dh iter X.env) (Y<|assign (.Name y py) X.env)) _ _ s;show AC<|DY (wpAny_comprehension_free (use:=Y<|assign (.Name y py) X.env) (Q:=λ_ s'=>SP X pZ D .next s') O hs ok.clos ok.kind ok.names<|DY (hi pZ s σ H _ I h) λv s1 h1=>DY h1 λa8 s2 h2=>?_) λ_ s' hq=>Bf<|Bf hq;show gW (Q:=λx H1=>Ub i x σ H1 D.nx) ok fr U hg a3 he (D3.mono h2 λJ H1 z=>{.inl hc,z}) λDl C s' H' m' I' hn a5 q=>?_;change Bz _ X.A (assign (.Name y py) X.env<|.ref Dl) _ _ _;let(f0,f1,f2,f3,f4,f5):=a5;show wpAny_assign_Name<|af (v:=.ref Dl) I' hN hy hx O (λs2 I2 a4=>?_) hf;let(a,sb,ha):=a4;let F:C≠a:=by
  rcases ha with z|z;·rw[z];show f1
  show λe=>f4 y a z e.symm
 show{m',hn.sameBut sb F,λh' a2=>?_};show{_,H',I2.turned (t':=s2.toks) (λb o hb e=>(a2.2 b hb).trans e) f0 f1 f3 f4 f5,q}
end
structure rb(B:CA)(l:List Env)(e:AH)(cls:Ay)(dx:Option AH)(fl:Ay)(h:CA):Prop where
 st:B.StaysIn h
 ne:B.get? e=S
 fr:h.FunFrames B l
 ob:∃a0 T oT ts,h.get? e=Y (JI cls dx a0<|.ref T)/\B.get? T=S/\T≠e/\h.get? T=Y oT/\oT.data= .fields ts/\ts[3]?=Y fl
def rb.drop(F:rb B (env::l) e cls dx fl h):rb B l e cls dx fl h:={(F.st),F.ne,F.fr.2.2,F.ob}
section
variable{M:Model}{A:CH}{E:Ay->AJ->Prop}{s:AJ}{B:CA}{env:Env}{outer:List Env}{L e:AH}{cls fl a0 head:Ay}{dx:Option AH}{Q:Unit->AJ->Prop}
def aP(a6:A.frames=Y (env::outer))(hl:s.heap.FunFrames B (env::outer))(hf:env.frame=Y L)(he:s.heap.get? e=Y (JI cls dx a0 head))(st:B.StaysIn s.heap)(ne:B.get? e=S)(k:∀h',rb B (env::outer) e cls dx (Np L) h'->s.heap.UpToSlots h'->Q Unit.unit {s with heap:=h'}):
  Bz M A (do let a <-frameOf env;let pl <-entryPlaceOf L a2;let b <-EntryCells.newEntry head a .none (Np L) .none pl;setField (.ref e) 1 b) Q E s:=by
 let nofr:e∉ (env::outer).filterMap (·.frame):=λhm=>by
  let(_,o,ho,F):=hl.mem hm;rw[he]at ho;cases ho;show F _ O
 show AC<|wpAny_frameOf_fun a6 hl hf λh1 so=>?_;show AC<|wpAny_entryPlaceOf λpl a1=>?_;unfold EntryCells.newEntry newFields;show AC<|Fh ?_ (a1.sizeOk5 _ _ _ _ _);generalize hE: ([head,.ref L,.none,Np L,.none] ++ (if pl.isEmpty then CO 6 CT else pl)).toArray=j
 let f3:j[3]?=Y (Np L):=by
  rw[<-hE]
  first|(simp;done)|(rcases a1 with rfl|⟨_,_,_,_,_,_,_,rfl⟩ <;> simp)
 let e1:h1.get? e=Y (JI cls dx a0 head):=(so.2.1 e nofr).trans he;let U:B.StaysIn h1:=λb o q=>(so.2.1 b λhm=>by rw[(hl.mem hm).1]at q;cases q).trans<|st b o q;let e2:=AD (h:=h1) {cls:=.type "traceback",dict:=S,data:=.fields j} e1;let neT:h1.objs.size≠e:=JD<|Bs e1;let keep:∀b o,b≠e->h1.get? b=Y o->((h1.push {cls:=.type "traceback",dict:=S,data:=.fields j}).update e<|JC (·.setIfInBounds 1 (Value.ref h1.objs.size))).get? b=Y o:=λb o hb q=>by
  rw[DL _ _ (CI hb)];show AD _ q
 let D:∀b o,s.heap.get? b=Y o->(∀vs,o.data≠ .fields vs)->b≠e:=λb o q F z=>by
  rw[z,he]at q;cases q;show F _ O
 show OK e2 O (by change 1<6;decide)<|k _ ?_ ?_
 ·show{λb o q=>keep b o (λz=>by rw[z,ne]at q;cases q)<|U b o q,ne,hl.of_keeps λb o q F=>?_,a0,h1.objs.size,{cls:=.type "traceback",dict:=S,data:=.fields j},j,?_,U.fresh,neT,?_,O,f3}
  ·let(sl,q1):=so.2.2 b o q;show{_,keep b _ (D b o q F) q1,O}
  ·rw[Ih _ e2 O];rfl
  rw[DL _ _ (CI neT)];show Bx h1 O
 intro b o q F;let(sl,q1):=so.2.2 b o q;show{sl,keep b _ (D b o q F) q1}
def zb(j:A.frames=Y (env::outer))(D:s.heap.FunFrames B (env::outer))(hf:env.frame=Y L)(z:s.heap.get? e=Y (JI cls dx a0 .none))(st:B.StaysIn s.heap)(ne:B.get? e=S)(k:∀h',rb B (env::outer) e cls dx (Np L) h'->s.heap.UpToSlots h'->Q Unit.unit {s with heap:=h'}):Bz M A (Ys (.ref e) env) Q E s:=by unfold Ys;simp only[hf];show AC<|HB z O (x:=.none) O ?_;rw[A3m Aa];show aP j D hf z st ne k
def vf(U:A.frames=Y (env::outer))(hf:env.frame=Y L)(F:rb B (env::outer) e cls dx .none s.heap)(k:∀h',rb B (env::outer) e cls dx (Np L) h'->s.heap.UpToSlots h'->Q Unit.unit {s with heap:=h'}):Bz M A (Ys (.ref e) env) Q E s:=by
 let(st,ne,fr,a0,T,oT,ts,he,nT,a1,hT,dT,t3):=F;unfold Ys;simp only[hf];show AC<|HB he O (x:=.ref T) O ?_;rw[A3n (show(Value.ref T != CT)=Z from by simp)];show AC<|HB hT dT t3 ?_;rw[A3m (show ¬ ((CT==Np L)=Z)from by simp[Np])];show AC<|OK hT dT (Array.getElem?_eq_some_iff.mp t3).1 ?_;let other:∀b,b≠T->(s.heap.update T<|JC (·.setIfInBounds 3 CT)).get? b=s.heap.get? b:=λb hb=>DL _ _<|CI hb;let j:∀b o,s.heap.get? b=Y o->(∀vs,o.data≠ .fields vs)->b≠T:=λb o q D z=>by
  rw[z,hT]at q;cases q;show D ts dT
 show aP U (fr.of_keeps λb o q D=>{o,(other b<|j b o q D).trans q,O}) hf ((other e<|CI a1).trans he) (λb o q=>(other b λz=>by rw[z,nT]at q;cases q).trans<|st b o q) ne λh' F' up=>k h' F' λb o q D=>?_;show up b o ((other b<|j b o q D).trans q) D
def RG(F:rb B l e cls dx fl s.heap)(k:∀h',rb B l e cls dx .none h'->s.heap.UpToSlots h'->Q Unit.unit {s with heap:=h'}):Bz M A (setFlight (.ref e) S) Q E s:=by
 let(st,ne,fr,a0,T,oT,ts,he,nT,U,hT,dT,t3):=F;let h3:3<ts.size:=(Array.getElem?_eq_some_iff.mp t3).1;let other:∀b,b≠T->(s.heap.update T<|JC (·.setIfInBounds 3 CT)).get? b=s.heap.get? b:=λb hb=>DL _ _<|CI hb;let j:∀b o,s.heap.get? b=Y o->(∀vs,o.data≠ .fields vs)->b≠T:=λb o q D z=>by
  rw[z,hT]at q;cases q;show D ts dT
 let a1:=Obj.data_mapFields dT (·.setIfInBounds 3 CT);unfold setFlight;show AC<|HB he O (x:=.ref T) O ?_;rw[A3n (show(Value.ref T != CT)=Z from by simp)];show OK hT dT h3 (k _ {λb o q=>(other b λz=>by rw[z,nT]at q;cases q).trans<|st b o q,ne,fr.of_keeps λb o q D=>{o,(other b<|j b o q D).trans q,O},a0,T,_,_,(other e<|CI U).trans he,nT,U,Ih _ hT<|Obj.isFreed_of_fields a1,a1,by simp[h3]} λb o q D=>{o.slots,(other b<|j b o q D).trans q})
end
structure S3(fs:List AH)(H H':Hp)(h B:CA):Prop where
 k1:∀b o,h.get? b=Y o->H b=S->b∉fs->B.get? b=Y o
 k2:∀b o,h.get? b=Y o->b∉fs->∃o',B.get? b=Y o'
 tk:∀b,H' b≠S->∃u,B.get? b=Y u
section
variable{P:Bv}{w:BP}{H H':Hp}{h h' h2 B:CA}{l l2:List Env}{e:AH}{cls fl fl2:Ay}{dx:Option AH}
def Dk.some_of(x:Dk P w H h a o):∃u,h.get? a=Y u:=by cases o with|lst xs=>let(_,_,_,_,e):=x;show{(_),e}|tup xs=>let(_,_,_,o,e,_):=x;show{(_),e}|dK kvs=>let(_,_,_,_,o,_,_,e,_):=x;show{(_),e}|dT kvs=>let(_,_,_,_,o,_,_,e,_):=x;show{(_),e}|set Sq n=>let(o,_,_,_,e,_):=x;show{(_),e}|ins C dx fs=>let(_,_,_,e,_):=x;show{(_),e}|own y=>show x|xd fs=>let(_,(o,_,_,e,_),_):=x;show{(_),e}|rng lo hi=>let(_,_,_,e):=x;show{(_),e}|frz ob u=>let(e,_):=x;show{(_),e}|tbl ps=>show{_,(show h.get? a=Y _ from x)}|met f y=>show{_,(show h.get? a=Y _ from x)}|ext φ=>let(_,e,_):=x;show e
def Jr.flown(ok:Jr P w H' h')(tk:∀b,H' b≠S->∃u,B.get? b=Y u)(s1:B.StaysIn h')(s2:B.StaysIn h2):Jr P w H' h2:=λa o q=>by
 let same:∀b u,H' b≠S->h'.get? b=Y u->h2.get? b=Y u:=λb u n z=>by
  let(F,D):=tk b n;have:=s1 b F D;rw[z]at this;cases this;show s2 b _ D
 show(ok a o q).stay (λb u j z=>same b u ?_ z) (λ_ z=>z) λ_ _ z=>z;rcases j with rfl|j;·rw[q];simp
 rw[j];simp
def Un.flown(u:Un (NT l) [] H H' h h')(k:S3 (NT l) H H' h B)(a3:∀b∈NT l,H b=S)(F:rb B l e cls dx fl h')(up:h'.UpToSlots h2)(s2:B.StaysIn h2):Un (NT l) [] H H' h h2 where
 keep:=λb o q n j _=>s2 b o (k.k1 b o q n j)
 slot:=λb o q n j hx=>by
  let(sl,U):=u.slot b o q n j hx;let(_,o',D,nf):=F.fr.mem j;rw[U]at D;cases D;let(z,q3):=up b _ U nf;show{(z),q3}
 free:=u.free
 there:=λb o q hx=>by
  by_cases j:b∈NT l;·let(sl,U):=u.slot b o q (a3 b j) j hx;let(_,o',D,nf):=F.fr.mem j;rw[U]at D;cases D;let(z,q3):=up b _ U nf;show{(_),q3}
  let(o',q'):=k.k2 b o q j;show{o',s2 b o' q'}
 tups:=u.tups
 frzs:=u.frzs
 tbls:=u.tbls
end
def Uc{base h:CA}{as:List AH}:∀{l:List Env},h.FunFrames base l->(∀env∈l,∀a,env.frame=Y a->a∈as)->h.FunFrames (Hg h as) l
 |[],_,_=>trivial
 |env::r,x,k=>by
  let(x1,(L,o,j,_,F,D),z):=x;show{x1,{L,o,j,Sd _<|k env Bl L j,F,D},Uc z λe U=>k e<|Bi _ U}
def XCx(P:Bv)(w:BP)(outer:List Env)(H:Hp)(s:AJ)(E:XK)(e:Ay)(s':AJ):Prop:=∃(j:AH) (cls:Ay) (dx:Option AH) (H':Hp) (B:CA),e= .ref j/\s'.os=s.os/\UL s'.gens/\Un (NT outer) [] H H' s.heap s'.heap/\Jr P w H' s'.heap/\rb B outer j cls dx .none s'.heap/\H' j=S/\s.heap.get? j=S/\S3 (NT outer) H H' s.heap B/\E cls dx H'
abbrev XC(P:Bv)(w:BP)(cm:Bool):dr:={cm,ge,XCx P w}
section
variable{cm:Bool}{P:Bv}{w:BP}{K:Az}{mg:AO->Option Ay}{base:CA}{N:List AO}{qual:AO}{scope:Scope}{f:AH}{cd:Ay}{A:CH}{outer:List Env}{s:AJ}{H:Hp}{E:XK}
def lU(a8:a9=Z->cm=Z):JT (XC P w a9) (Uy (XC P w cm) P w K mg base N qual scope f cd A outer s H E) E:=by
 show{a8,O,λpZ σ H1 s1 e s' I hx=>?_};let(ea,cls,dx,H',B,O,os,bare,un,hok,F,hn,a7,kp,q):=(show XCx P w (FD qual scope ↑s f cd::outer) H1 s1 E e s' from hx);change Bz (model P w) (A.deeper<|FD qual scope ↑s f cd) (leaving (FD qual scope ↑s f cd)<|.ref ea) _ _ _;unfold leaving;show AC<|vf I.ok.frames O F λh1 F1 up1=>?_;show RG F1 λh2 F2 a4=>?_;let a6:∀b∈NT (FD qual scope ↑s f cd::outer),H1 b=none:=I.stkFree;let a5:Un (NT (FD qual scope ↑s f cd::outer)) [] H1 H' s1.heap h2:=un.flown kp a6 F (up1.trans a4) F2.st;let D:Jr P w H' h2:=hok.flown kp.tk F.st F2.st;let I2:Ck (Uy (XC P w cm) P w K mg base N qual scope f cd A outer s H E) pZ σ H' {s' with heap:=h2}:=I.call' (ch:=[]) (s':={s' with heap:=h2}) os a5 D bare (λb z=>A3p z<|by simp);let a1:∀b o,s.heap.get? b=Y o->b∉NT outer->b∉NT (FD qual scope ↑s f cd::outer):=λb o q U z=>by
  let z':b∈↑s::NT outer:=z;rcases AM.mp z' with e|e;·show A3p (Bs q) (by rw[e];show DO _)
  show U e
 let j:∀b,b∉ ([]:List AH):=λb z=>A3p z (by simp);show{ea,cls,dx,H',B,O,I2.os,bare,I2.base,D,F2.drop,hn,?_,{λb o z n U=>?_,λb o z U=>?_,kp.tk},q}
 ·cases z:s.heap.get? ea with
  |none=>rfl
  |some o=>
   let(o',q'):=I.base.there ea o z<|j ea;rw[a7]at q';cases q'
 ·show kp.k1 b o (I.base.keep b o z n U<|j b) (I.base.free b o z n<|j b)<|a1 b o z U
 let(o',q'):=I.base.there b o z<|j b;show kp.k2 b o' q'<|a1 b o z U
end
def Q1{o:Option Obj}{f:Option AH->ClassData->Array (Option Ay)->Bool}(t:QE (λ_=>Bool) o f (λ_=>ge)=Z):∃dd cd sl,o=Y {.type "type",dd,.cls cd,sl}/\f dd cd sl=true:=by
 cases o with
 |none=>show BL t
 |some o=>
  let(cls,dd,data,sl):=o;cases cls with
  |type s=>
   by_cases hs:s="type"
   ·subst hs;cases data with|cls cd=>show{(dd),cd,sl,O,t}|_=>show BL t
   let e:QE (λ_=>Bool) (Y ⟨.type s,dd,data,sl⟩) f (λ_=>ge)=false:=by delta QE;show dif_neg hs
   show BL<|e.symm.trans t
  |_=>show BL t
def Q3{l:List (Option Ay)}{mro:List Ay}{g:AH->List Ay->String->Bool}(t:PySem.W.excIn.match_1 (λ_ _=>Bool) mro l (λc b _ _ _ _ n _=>g c b n) (λ_ _=>ge)=Z):
  ∃C bm k0 k1 k2 k3 n k5,mro= .ref C::bm/\l=[k0,k1,k2,k3,Y<|.builtin n,k5]/\g C bm n=true:=by
 cases mro with
 |nil=>show BL t
 |cons v bm=>
  cases v with
  |ref z=>
   rcases l with _|⟨k0,_|⟨k1,_|⟨k2,_|⟨k3,_|⟨j,l⟩⟩⟩⟩⟩
   iterate 5 show BL t
   cases j with
   |none=>show BL t
   |some v=>
    cases v with
    |builtin n=>
     rcases l with _|⟨k5,_|⟨D,l⟩⟩;·show BL t
     ·show{(z),bm,k0,k1,k2,k3,n,k5,O,O,t}
     show BL t
    |_=>show BL t
  |_=>show BL t
def ql{K:Az}{h:CA}{C:AH}{rA:List Ay}{newId:String}(kin:K.In h)(t:PySem.W.excIn K C rA newId=Z):
  ∃bm N nm j bs hd sn sub ab col dd k0 k1 k2 k3 k5 z,h.get? C=Y (Qe nm j C N bs bm hd sn sub ab col dd k0 k1 k2 k3 k5 newId)/\h.Ns N z/\z "__init__"=S/\OwnTail h rA bm:=by let(dd,cd,sl,lk,t):=Q1 t;let(nm,bs,mro,ns,j,hd,sn,sub,ab,col,del):=cd;obtain⟨l⟩:=sl;let(F,bm,k0,k1,k2,k3,n,k5,hm,D,t):=Q3 (l:=l) (mro:=mro) (g:=λF bm n=>F==C&&n==newId&& !del&&PySem.W.tailIn K rA bm&&PySem.W.nsOkIn K ns&&XO K ns "__init__"==Y S) t;let t:=Db.mp t;let u:=Db.mp t.1;let v:=Db.mp u.1;let x:=Db.mp v.1;let y:=Db.mp x.1;rw[beq_iff_eq.mp y.1]at hm;rw[beq_iff_eq.mp y.2]at D;rw[hm,D,(Gb del).mp x.2]at lk;show{bm,ns,nm,j,bs,hd,sn,sub,ab,col,dd,k0,k1,k2,k3,k5,_,kin _ _ lk,.of_isNs<|PySem.W.isNs_of_in kin u.2,PySem.W.nsMap_none_of_in kin u.2<|beq_iff_eq.mp t.2,PySem.W.tail_of_in kin v.2}
def PEX(X:Cx)(E:XK)(j:Expr)(t:TE):Prop:=∀(pZ:List (AH×Obj)) (s:AJ) (σ:St) (H:Hp) (Q:VK),Ck X pZ σ H s->t σ H Q->Bz (model X.prog X.w) X.A (Dh j X.env) (EP X pZ σ Q) (λe s'=>∃H1 s1,Ck X pZ σ H1 s1/\XCx X.prog X.w X.stack H1 s1 E e s') s
def tN(F:EY X.prog X.w X.K X.mg X.base (XC X.prog X.w cm) k f fd ps sp)(hr:EX k X.A)(hg:Gl X x)(hm:X.mg x=Y (.ref f))(hk:EJ X.K (.ref f)=Z)(hb:EB X.K fd ps ds)(hd:CB dvs ds)(a2:cm=Z->X.calm=Z)(ha:PA X.nox (e::es) t)(a1:↑((x==("__debug__" :AO))=false))(he: ~~~(Br (e::es) X.env=(ge,Dh e X.env)::Br es X.env))(U: ~~~((DK pos<|Br es X.env).any (·.1)=false)):
  PEX X E (.Call (.Name x p) (e::es) [] pos) (er sp dvs E t):=by
 intro 0 Q I h;show CF<|IK I hg hm ?_ a1;show FA (h₀:=X.base) I.ok.mod.kin hk (DZ (ha pos pZ s σ H _ (I.wish _) h) (λus s1 D=>?_) λ_ _ z=>BM z) he U;let(vs,H1,I1,r,q):=D;show{I1.unwish.kIn,?_};let r2:CB (vs++dvs) (us++ds):=r.append hd;let hl: (us++ds).length=ps.length:=by rw[<-r2.length];show F.len _ _ _ _ q
 let J:=I1.unwish;show GD<|Go (F.run X.A X.stack s1 H1 {us,[]} (us++ds) (vs++dvs) Q E hr (λz=>J.ok.hd<|a2 z) (λz=>BL z) J.env0 (hb s1 us J.kIn hl) r2 q) λr s' j=>?_;cases r with
 |error e=>show{(H1),s1,J,j}
 |ok fl=>
  cases fl with|ret u=>show J.after j|next=>show BM j|brk=>show BM j|cont=>show BM j
abbrev cxS(X:Cx)(e:AH):Cx:={X with A:=X.A.mark<|Y (.ref e),calm:=ge,suit:=ge,xe:=λ_ _=>False}
def Ck.suite(I:Ck X pZ σ H s)(e:AH):Ck (cxS X e) pZ σ H s:={{I.ok.mod,I.ok.kind,I.ok.glob,I.ok.blt,I.ok.above,I.ok.inj,I.ok.has,I.ok.cab,λz=>BL z,I.ok.frames,I.ok.stk,I.ok.exf,I.ok.bs,I.ok.bsz,I.ok.noex,I.ok.exfs,I.ok.funs,I.ok.frf,λz=>BL z},I.os,I.bare,I.base,I.loc,I.cell,I.free,I.freeC,I.pin,I.hok,I.len}
def Ck.forget(I:Ck X pZ σ H s)(hn:h'.Ns X.env.locals m')(sb:NP X.env.locals s.heap h'):
  Ck X pZ (CO X.N.length S) H {s with heap:=h',toks:=t'}:=by
 let j:∀b o,X.s_.heap.get? b=Y o->b≠X.env.locals:=λb o e=>BH<|BK (Bs e) I.ok.above;let kp:∀b o,b≠X.env.locals->s.heap.get? b=Y o->h'.get? b=Y o:=λb o D e=>(sb.2 b D).trans e;show{I.ok,I.os,I.bare,{λb o e n D hx=>kp b o (j b o e)<|I.base.keep b o e n D hx,λb o e n D hx=>?_,I.base.free,λb o e hx=>?_,I.base.tups,I.base.frzs,I.base.tbls},{m',hn,λi x v e1 F _=>?_},λx c e=>?_,I.free,I.freeC,λp hp=>?_,λb o e=>?_,by simp}
 ·let(sl,q):=I.base.slot b o e n D hx;show{sl,kp b _ (j b o e) q}
 ·let(o',q):=I.base.there b o e hx;show{o',kp b o' (j b o e) q}
 ·rw[OU]at F;split at F <;> cases F
 ·let(v,z):=I.cell x c e;show{v,z.sameBut sb<|I.cne x c e}
 ·let(e,n,ne,U,d):=I.pin p hp;show{kp p.1 p.2 ne e,n,ne,U,d}
 show(I.hok b o e).stay (λc u hc q=>kp c u ?_ q) (λ_ q=>q) λ_ _ q=>q;rintro rfl;rcases hc with z|z;·rw[<-z,I.free]at e;cases e
 rw[I.free]at z;cases z
def Jr.track(x:Jr P w H h)(hn:H a=S)(new:Dk P w (upd H a o) h a o):Jr P w (upd H a o) h:=λb u e=>by
 by_cases j:b=a;·subst j;rw[Ax]at e;cases e;show new
 rw[AT j]at e;show(x b u e).stay (λ_ _ _ q=>q) (λc q=>by rw[AT (Bp q hn)];show q) λc xs q=>by rw[AT (Bp q hn)];show q
def Un.track(u:Un fs [] H H' h h')(ha:h.get? a=S)(hn:H' a=S):Un fs [] H (upd H' a o) h h' where
 keep:=u.keep
 slot:=u.slot
 free:=λb ob e n hx=>by
  rw[AT (by rintro rfl;rw[ha]at e;cases e)];show u.free b ob e n hx
 there:=u.there
 tups:=λb xs e=>by
  have:=u.tups b xs e;rw[AT (Bp this hn)];show this
 frzs:=λb ob z e=>by
  have:=u.frzs b ob z e;rw[AT (Bp this hn)];show this
 tbls:=λb ps e=>by
  let(m,q):=u.tbls b ps e;show{m,by rw[AT (Bp q hn)];show q}
def D8(q:h.get? e=Y ob):Dk P w H h e (wN e ob):={q,q,{(ob),q},λh1 h2 a k=>k ob a}
def W4(K:Az)(c:Ay)(i:Nat)(ts:AH->TS)(D:UE)(σ:St):XK:=λcls dx H'=>PySem.W.exmOne K cls c=Y Z/\∀e a0 tb,H' e=S->ts e {D with nx:=λ_ _=>False,bk:=λ_ _=>False,ct:=λ_ _=>False} (σ.set i<|Y (.ref e)) (upd H' e<|wN e (JI cls dx a0 tb))
section
variable{X:Cx}{x n:AO}{np hpos pos p1:IZ}{c0:Expr}{b_:JW}{suite:List JW}{i:Nat}{ts:AH->TS}{tc:XK->TE}{c:Ay}{v0:V}
def P7(b1:X.stack=X.env::X.outer)(hf:X.env.frame=Y X.env.locals)(hg:Gl X x)(hm:X.mg x=Y c)(rc:CZ v0 c)(hs:∀e,Ug (cxS X e) (b_::suite)<|ts e)(hN:X.N.Nodup)(hi:X.N[i]?=Y n)(hl:X.env.scope.names.lookup n=Y .local)(I:Ck X pZ σ H1 s1)(hx:XCx X.prog X.w X.stack H1 s1 (W4 X.K c i ts D σ) e s')(d2:↑((x==("__debug__" :AO))=false)):
  Bz (model X.prog X.w) X.A (Ys e X.env) (λ_ a9=>Bz (model X.prog X.w) X.A (setFlight e S) (λ_ a8=>Bz (model X.prog X.w) X.A (handleBy e X.env [.ExceptHandler (Y<|.Name x np) (Y n) (b_::suite) hpos]) (SP X pZ D) X.xe a8) X.xe a9) X.xe s':=by
 let(j,cls,dx,H',B,O,os,bare,un,hok,F,hn,c9,kp,c7,hq):=hx;let U:X.A.frames=Y (X.env::X.outer):=by rw[<-b1];show I.ok.frames
 let F0:rb B (X.env::X.outer) j cls dx .none s'.heap:=by rw[<-b1];show F
 show vf U hf F0 λh4 F4 a5=>?_;show RG F4 λh5 F5 a4=>?_;let a3:∀{h6:CA} {fl:Ay},rb B (X.env::X.outer) j cls dx fl h6->s'.heap.UpToSlots h6->Un (NT X.stack) [] H1 H' s1.heap h6/\Jr X.prog X.w H' h6:=λ{h6 fl} F6 up=>by
  show{un.flown kp I.stkFree F up F6.st,hok.flown kp.tk F.st F6.st}
 let(c2,b4):=a3 F5<|a5.trans a4;let I5:Ck X pZ σ H' {s' with heap:=h5}:=I.call' (ch:=[]) (s':={s' with heap:=h5}) os c2 b4 bare (λb z=>A3p z<|by simp);let(a0,T,oT,e3,d1,_):=F5.ob;let LT:PySem.W.Looks (model X.prog X.w) h5 (typeOf<|.ref j) cls:=(PySem.W.Looks.ld d1).andThen .now;show wpAny_handleBy_cons (codeAny_handlers_test<|IK (X:=cxS X j) (I5.suite j) hg hm ?_ d2) (by intro z;cases z);show(PySem.W.exm_one I5.kIn LT c7).here ?_;show codeAny_handlers_suite_as<|wpAny_noRaise ?_;show RG F5 λh6 F6 b9=>?_;let(c1,b3):=a3 F6<|(a5.trans a4).trans b9;let(a6,T6,e8,e4,d0,_):=F6.ob;let b2:Jr X.prog X.w (upd H' j<|wN j (JI cls dx a6<|.ref T6)) h6:=b3.track hn<|D8 d0;let I6:Ck X pZ σ (upd H' j<|wN j (JI cls dx a6<|.ref T6)) {s' with heap:=h6}:=I.call' (ch:=[]) (s':={s' with heap:=h6}) os (c1.track c9 hn) b2 bare (λb z=>A3p z<|by simp);show Vy (X:=cxS X j) (i:=i) (v:=.ref j) (I6.suite j) hN hi (.inl hl) O (λs7 I7=>?_)<|.inr hl;show DZ (hs j pZ s7 _ _ _ I7<|hq j a6 (.ref T6) hn) (λfl s8 q8=>?_) λ_ _ z=>BM z;change Bz (model X.prog X.w) X.A (do bindName X.env n .none;unbindBehindTheSuite X.env n hpos) (λ_ s9=>SP X pZ D fl s9) X.xe s8;cases fl with
 |next=>let(_,_,_,z):=q8;show BM z|brk=>let(_,_,_,z):=q8;show BM z|cont=>let(_,_,_,z):=q8;show BM z
 |ret u=>
  let(v,b8,H8,I8,r8,z8):=q8;let J8:Ck X pZ b8 H8 s8:={(I.ok),I8.os,I8.bare,I8.base,I8.loc,I8.cell,I8.free,I8.freeC,I8.pin,I8.hok,I8.len};let(m,c6,_):=J8.loc;show wpAny_nameGoes hl c6 (by rw[I.ok.kind];rfl) λh9 m9 c5 c4=>{v,_,H8,J8.forget c5 c4,r8,z8}
def xZ(j:X.stack=X.env::X.outer)(hf:X.env.frame=Y X.env.locals)(hc:∀E,PEX X E c0<|tc E)(hg:Gl X x)(hm:X.mg x=Y c)(U:CZ v0 c)(hs:∀e,Ug (cxS X e) (b_::suite)<|ts e)(hN:X.N.Nodup)(hi:X.N[i]?=Y n)(hl:X.env.scope.names.lookup n=Y .local)(z:↑((x==("__debug__" :AO))=false)):
  PS X (.Try [.Return (Y c0) p1] [.ExceptHandler (Y<|.Name x np) (Y n) (b_::suite) hpos] [] [] pos) (λD σ H=>tc (W4 X.K c i ts D σ) σ H D.rt):=by
 intro 0 D I h;show wpAny_Try_except<|RU (wpAny_Return_some<|DZ (hc _ pZ s σ H _ I h) (λv s1 {(y),H1,F,r1,q1}=>?_) λe s' {(H1),s1,F,hx}=>?_)
 ·show{(y),σ,H1,F,r1,q1}
 show P7 j hf hg hm U hs hN hi hl F hx z
end
section
variable{K:Az}
structure ZI(K:Az)(C:AH):Prop where
 hd:NF K C=Z
 ga:CM K (.ref C) "__getattribute__"=Y (Y<|.builtin "BaseException.__getattribute__")
 gx:CM K (.ref C) "__getattr__"=Y S
 ca:CM K (.ref C) "__class__"=Y (Y<|.builtin "object.__class__")
 gs:NC K (.builtin "object.__class__") "__get__"=Y (Y<|.builtin "getset_descriptor.__get__")
 ts:PySem.W.takesIn K (.builtin "object.__class__")=Y Z
 mo:NL K C (.type "object")=Y Z
 mb:NL K C (.type "BaseException")=Y Z
variable{prog:Bv}{w:BP}{A:CH}{E:Ay->AJ->Prop}{s:AJ}{e C:AH}{oe:Obj}{od:Option Obj}{name:AO}
def qC:builtinKind "BaseException.__getattribute__"=Y .slot:=⋯
def kn:splitId "BaseException.__getattribute__"=Y ("BaseException","__getattribute__"):=⋯
def Xn:plainId "BaseException.__getattribute__"=true:=⋯
def Xo(L:PySem.W.Looks M s.heap (ON (.ref e)<|.type "BaseException") Z)(q:Q Unit.unit s):
  Bz M A (checkBuiltinCall "BaseException.__getattribute__" {[.ref e,v],[]}) Q E s:=UH (i:="BaseException.__getattribute__") (owner:="BaseException") (n:="__getattribute__") (self:=.ref e) (rest:=[v]) (kw:=[]) qC kn L (F.args_bexc_ga _ _) q
def W3(Zq:ZI K C)(X:K.In s.heap)(I:Ed s.heap e oe C od):PySem.W.Looks M s.heap (ON (.ref e)<|.type "BaseException") true:=by unfold ON;show PySem.W.Looks.andThen I.type<|PySem.W.looks_mroIn X Zq.mb
def A3{tk:Tok}{expr fill:Bool}{Q:Ay->AJ->Prop}(Zq:ZI K C)(X:K.In s.heap)(I:Ed s.heap e oe C od)(h:Iv (model prog w) A (.call (.builtin "BaseException.__getattribute__") {[.ref e,.str name tk],[]}) (λr s'=>match r with|.ok (.ret v)=>Bz (model prog w) A (handedOut v) Q E s'|_=>False) s):
  Bz (model prog w) A (getAttrBy (.ref e) (.str name tk) fill expr) Q E s:=by
 let(D,g,d,t,os):=s;unfold getAttrBy;show En<|AC ((I.type (M:=model prog w)).at<|AC ((KU (M:=model prog w) X Zq.ga).at ?_))
 dsimp only
 let z: (Value.builtin "BaseException.__getattribute__"==Value.builtin "object.__getattribute__")=false:=⋯
 rw[A3m (by rw[z,Gv];show Bm)];unfold getAttrByItsOwn;show AC ((PySem.W.looks_hook (M:=model prog w) X (mc:=.ref C) (r:=S)<|by change(if Z=Z then _ else _)=_;rw[A3n O];show Zq.gx).at ?_)
 unfold callGetattribute;rw[A3m (by change ¬ ((expr&&ge)=Z);rw[Gv];show Bm)];unfold boundAndCalled;show AC<|wpAny_attempt (En<|AC (wpAny_of_eq (F.excAttr_ValueError.ga.bind<|.ref e) ?_))
 dsimp only
 show GD<|Go h λr s' j=>?_;cases r with
 |error x=>show BM j
 |ok f=>
  cases f with|ret v=>show j|next=>show BM j|brk=>show BM j|cont=>show BM j
def nN{Q:Option Ay->AJ->Prop}(Zq:ZI K C)(X:K.In s.heap)(I:Ed s.heap e oe C od)(h:Q (Y<|.ref C) {s with toks:=s.toks+1}):Bz (model prog w) A (getAttr? (.ref e) "__class__") Q E s:=by
 let(j,g,d,t,os):=s;let hf:PySem.W.findObj K C od "__class__"=Y (.bind (.builtin "getset_descriptor.__get__")<|.builtin "object.__class__"):=by let(cd,hc,_):=OQ Zq.hd;unfold PySem.W.findObj;rw[hc,ZP,Zq.ca,ZP];simp[Zq.gs,Zq.ts]
 unfold getAttr? getAttrBy?;show AC<|wpAny_mkText (AC<|wpAny_attempt (A3 Zq X I<|Gp Xn F.entry_bexc_ga (Xo (W3 Zq X I) ?_)));unfold Builtin.«object.__getattribute__»;show AC<|Bf ?_
 dsimp only
 show AC<|Bf (AC<|(I.type (M:=model prog w)).at (AC<|(PySem.W.looks_find (M:=model prog w) X I hf).at ?_))
 dsimp only
 unfold Builtin.ObjectAttr.bindTo
 dsimp only
 show AC<|En (GD<|PySem.W.class_get (od:=od) X I Zq.mo ?_);show Bf ?_;change Bz _ _ (handedOut<|.ref C) _ _ _;rw[PySem.W.handedOut_of O];show Bf<|Bf h
def uL{K:Az}{C e:AH}{oe:Obj}{od:Option Obj}(Zq:ZI K C):PySem.W.KitX K (.ref e) (.ref C) (λh=>Ed h e oe C od) where
 ty:=λ_ _ _ I=>I.type
 it:=λ_ _ X _=>by
  let(U,j,_):=OQ Zq.hd;unfold IX at j;split at j;·rename_i c' d' a1 z F;intro A' Q' E' s' k q;unfold isType loadHead;show AC<|XI (k _ _<|X _ _ F) (Bf q)
  cases j
 ne:=λh tp dd a2 n sl X D=>by
  let(U,j,_):=OQ Zq.hd;show HD.mpr λq=>?_;let e:C=tp:=Value.ref.inj<|beq_iff_eq.mp q;subst e;unfold IX at j;split at j
  ·rename_i c' d' a1 z F;have:=X _ _ F;rw[D]at this;cases this
  cases j
 ca:=λX I q=>nN Zq X I q
def DT:FK X (.builtin "isinstance") (λxs H Q=>∃e C dx a0 tb c cv b,xs=[.ref e,c]/\H e=Y (wN e<|JI (.ref C) dx a0 tb)/\ZI X.K C/\(dx=S\/∃d fs,dx=Y d/\H d=Y (.xd fs))/\((∃a,c= .ref a/\cv= .ref a)\/∃T,c= .ty T/\cv= .type T)/\Bo X.K (.ref C) cv=Y b/\Q (.bl b) H):=by
 intro 0 xs us Q I r h;let(e,C,dx,a0,tb,c,cv,b,O,hE,Zq,D,F,hk,q):=h;let(u,w',O,rx,j):=dR r;cases (show u=Value.ref e from rx);let(he,_):=I.hok e _ hE;let ec:w'=cv:=by
  rcases F with⟨a,rfl,rfl⟩|⟨T,rfl,rfl⟩;·show j
  show j
 subst ec;let U:∃od,Ed s.heap e (JI (.ref C) dx a0 tb) C od:=by
  rcases D with rfl|⟨d,fs,rfl,hd⟩;·show{(S),he,O,O,trivial}
  let(o,eo):=(I.hok d _ hd).some_of;show{Y o,he,O,O,eo}
 let(od,U):=U;show Dy (uL Zq) I.kIn U hk (λz=>nomatch z) λtk=>{.bl b,H,I.tok tk,O,q}
end
section
variable{X:Cx}{pZ:List (AH×Obj)}{σ:St}{H:Hp}{s:AJ}
def Ck.big(I:Ck X pZ σ H s):GE<↑s:=by let h:Ca<↑s:=(I.mod.glob.keeps I.bk).lt;show JE Aa h
def gO(h:CA)(j:GE<h.objs.size):Dk P w H (h.push {cls:=.type "dict",data:=.dict #[]}) h.objs.size (.dK []):={BY _,beq_eq_false_iff_ne.mpr<|CI (BH j),[],.nil,Heap.DictOf.new h}
def G3:TE:=λ_ H Q=>∀p,H p=S->Q (.ref p) (upd H p<|.dK [])
def fG:PE X (.Dict [] [] pos) G3:=λpZ s σ H Q I h=>
 wpAny_Dict_empty {.ref ↑s,_,I.laid (a:=↑s) (o:=.dK []) (t':=s.toks) (λ_ _ q=>AD _ q) (AU _)<|gO s.heap I.big,O,h _<|I.hok.fresh (AU _)}
inductive zM(X:Cx)(sp:Sp)(Q:VK)(vs:List V)(H1:Hp):Prop|mk (_:Hd X.A H1) (_:sp vs H1 Q E0)
def G6(X:Cx)(sp:Sp)(t:TA):TE:=λσ H Q=>t σ H λvs H1=>zM X sp Q vs H1
def tU(F:EY X.prog X.w X.K X.mg X.base CXS k f fd ps sp)(hr:EX k X.A)(hg:Gl X x)(hm:X.mg x=Y (.ref f))(hk:EJ X.K (.ref f)=Z)(hb:EB X.K fd ps [])(ha:PA X (e::es) t)(a2:↑((x==("__debug__" :AO))=false))(he: ~~~(Br (e::es) X.env=(ge,Dh e X.env)::Br es X.env))(a1: ~~~((DK pos<|Br es X.env).any (·.1)=false)):
  PE X (.Call (.Name x p) (e::es) [] pos) (G6 X sp t):=by
 intro 0 Q I h;show CF<|IK I hg hm ?_ a2;show FA (h₀:=X.base) I.ok.mod.kin hk (DY (ha pos pZ s σ H _ I h) λus s1 D=>?_) he a1;let(vs,H1,U,r,hd,q):=D;show{U.kIn,?_};let hl:us.length=ps.length:=by rw[<-r.length];show F.len _ _ _ _ q
 show GD (Go (F.run X.A X.stack s1 H1 {us,[]} us vs Q E0 hr (λz=>BL z) (λ_=>hd) U.env0 (by let z:=hb s1 us U.kIn (by rw[BE];show hl);rw[BE]at z;show z) r q) λr s' j=>?_);cases r with
 |error e=>show BM j
 |ok fl=>
  cases fl with|ret u=>show U.after j|next=>show BM j|brk=>show BM j|cont=>show BM j
end
section
variable{X:Cx}
def PJ(X:Cx)(es:List Expr)(t:AO->TE):Prop:=∀(pZ:List (AH×Obj)) (s:AJ) (σ:St) (H:Hp) (Q:VK) (j:AO),Ck X pZ σ H s->t j σ H Q->Bz (model X.prog X.w) X.A (joinParts j<|evalEach es X.env) (EP X pZ σ Q) X.xe s
def A23:AO->TE:=λj _ H Q=>j.length<=sizeLine/\Q (.str j) H
def A01(t:TE)(u:AO->TE):AO->TE:=λj σ H Q=>t σ H λx H1=>∃y,x= .str y/\(j++y).length<=sizeLine/\u (j++y) σ H1 Q
def tJ:PJ X [] A23:=λpZ s σ H Q j I h=>joinParts_nil (show EP X pZ σ Q _ _ from{.str j,H,I.tok _,{(_),O},h.2}) h.1
def Pe(U:PE X e t)(F:PJ X es u):PJ X (e::es) (A01 t u):=λpZ s σ H Q z I h=>by
 change Bz _ _ (joinParts z (Dh e X.env::evalEach es X.env)) _ _ _;show joinParts_cons<|DY (U pZ s σ H _ I h) λv s1 j=>?_;let(x,H1,I1,r,y,ex,D,q):=j;subst ex;let(t,O):=r;show{D,F pZ s1 σ H1 Q (z++y) I1 q}
def al{z j:Expr}{rest:List Expr}{pos:IZ}{t:AO->TE}(h:PJ X (z::j::rest) t):PE X (.JoinedStr (z::j::rest) pos) (t Mb):=λpZ s σ H Q I q=>
 JoinedStr_many (h pZ s σ H Q Mb I q)
def A1w(t:TE):TE:=λσ H Q=>t σ H λx H1=>(∃y,x= .str y/\y.length<=sizeLine/\Q (.str y) H1)\/∃i,x= .int i/\i.natAbs.log2<1920/\Q (.str<|bn i) H1
def jw(U:PE X e t):PE X (.FormattedValue e (-1) S pos) (A1w t):=λpZ s σ H Q I h=>by
 show FormattedValue_plain<|DY (U pZ s σ H _ I h) λv s1 j=>?_;let(x,H1,z,r,q):=j;rcases q with⟨y,ex,D,q⟩|⟨i,ex,F,q⟩;·subst ex;let(t,O):=r;show formatField_str (λt' tk=>(show EP X pZ σ Q _ _ from{.str y,H1,z.tok tk,{(_),O},q})) D
 subst ex;let(t,O):=r;show PySem.wpAny_formatField_int F<|show EP X pZ σ Q _ _ from{.str<|bn i,H1,z.tok _,{(_),O},q}
end
def TJ(e C:AH)(dx:Option AH):HO:=.ext λh=>∃a0,h.get? e=Y (JI (.ref C) dx a0 .none)
def iD(q:h.get? e=Y (JI (.ref C) dx a0 .none)):Dk P w H h e (TJ e C dx):={{(a0),q},{(_),q},λ_ _ j k=>(by let(a,z):=j;show{a,k _ z})}
def QS(ok:Jr P w H h)(q:H e=Y (TJ e C dx)):∃a0,h.get? e=Y (JI (.ref C) dx a0 .none):=(show Dk P w H h e (TJ e C dx)from ok e _ q).1
def E7(h:H a=Y o):upd H a o=H:=by
 funext b;unfold upd;split;·rename_i z;rw[z,h]
 rfl
def untr(H:Hp)(e:AH):Hp:=λb=>if b=e then S else H b
def Ij:untr H e e=none:=A3n O
def DF(h:b≠e):untr H e b=H b:=A3m h
def Jr.untr(ok:Jr P w H h)(hx:H e=Y (TJ e C dx)):Jr P w (untr H e) h:=λb o q=>by
 let j:b≠e:=by rintro rfl;rw[Ij]at q;cases q
 rw[DF j]at q;show(ok b o q).stay (λ_ _ _ z=>z) (λc z=>?_) λc xs z=>?_;·rw[DF (by rintro rfl;rw[hx]at z;cases z)];show z
 rw[DF (by rintro rfl;rw[hx]at z;cases z)];show z
abbrev nq:List Ay:=[.type "ValueError",.type "Exception",.type "BaseException",.type "object"]
structure V4(K:Az)(C fe fI:AH):Prop where
 cls:∃nm q N bs sn sub ab col dd k0 k1 k2 k3 k5,K.lookup C=Y (Qe nm q C N bs (.ref fe::nq) Z sn sub ab col dd k0 k1 k2 k3 k5 "ValueError.__new__")/\PySem.W.nsOkIn K N=Z/\XO K N "__init__"=Y (Y<|.ref fI)
 xfe:PySem.W.excIn K fe nq "ValueError.__new__"=Z
 feM:NL K fe (.type "ValueError")=Y Z
 fn:XR K (.ref fI)=Z
 kp:EJ K (.ref C)=Z
 sa:CM K (.ref C) "__setattr__"=Y (Y<|.builtin "object.__setattr__")
def lB{K:Az}{h:CA}{fe:AH}(kin:K.In h)(t:PySem.W.excIn K fe nq "ValueError.__new__"=Z)(hm:∃cd,IX K fe=Y cd):OwnTail h nq (.ref fe::nq):=by let(bm,N,nm,F,bs,hd,sn,sub,ab,col,dd,k0,k1,k2,k3,k5,U,D,z,j,TL):=ql kin t;show .own D z j .base
def jH{K:Az}{h:CA}{N:AH}{j:AO->Option Ay}{n:AO}{v:Ay}(X:K.In h)(G:h.Ns N j)(e:XO K N n=Y (Y v)):j n=Y v:=by
 let(o,es,U,z,hd,_,hf):=G;unfold XO at e;split at e
 ·rename_i c d es' F sl q;have:=X _ _ q;rw[z]at this;cases this;cases hd;split at e
  ·rename_i en D;rw[<-hf];unfold nsFind findBy;rw[<-Array.find?_toList,D];cases e;rfl
  split at e <;> cases e
 cases e
section
variable{prog:Bv}{w:BP}{A:CH}{E:Ay->AJ->Prop}{h:CA}{g:Array GenState}{d:Drawn}{t:Nat}{os:EZ}
variable{nm q:AO}{C N:AH}{bs bm rA:List Ay}{hdct:Bool}{sn:List AO}{sub:List Ay}{ab:Bool}{col:Option Bool}{dd:Option AH}{k0 k1 k2 k3 k5:Option Ay}{B newId initId:String}
def Yv(F:ExcBaseFacts B newId initId rA)(T:OwnTail h rA bm){mN:AO->Option Ay}{rest:List Ay}{fI:AH}{oI:Obj}{Q:PySem.Fin->AJ->Prop}(hC:h.get? C=Y (Qe nm q C N bs bm hdct sn sub ab col dd k0 k1 k2 k3 k5 newId))(hn:h.Ns N mN)(hi:mN "__init__"=Y (.ref fI))(a5:h.get? fI=Y oI)(a4:oI.cls= .type "function")(hq:∀h' e,Heap.MadeExcOf h h' e (.ref C) rest->Bz (model prog w) A (call (.ref fI) (.ref e::rest)) (λr s'=>r= .none/\Q (.done<|.ret (.ref e)) s') E {(h'),g,d,t,os})(hrest:rest.length<=sizeLine:=by size_fits):
  Bz (model prog w) A (Builtin.«type.__call__» {.ref C::rest,[]}) Q E {(h),g,d,t,os}:=by
 repeat (first|with_reducible show KR hC ?_|with_reducible show wpAny_madeBy_exc hC ?_|wp_step)
 show codeAny_call_builtin_code (Code.quiet_builtin _ F.quiet)<|wpAny_check_new_subT F T hC ?_;show codeAny_exc_new_subT F T hC ?_ hrest;change Bz _ _ _ _ _ _;let j:=AD {cls:=.ref C,data:=.fields #[.ref h.objs.size,.none,.none,.none,.bool ge,.none]}
  (AD {cls:=.type "tuple",data:=.seq rest.toArray} hC)
 let z:=AD {cls:=.ref C,data:=.fields #[.ref h.objs.size,.none,.none,.none,.bool ge,.none]}
  (AD {cls:=.type "tuple",data:=.seq rest.toArray} a5)
 let U: ((h.push {cls:=.type "tuple",data:=.seq rest.toArray}).push {cls:=.ref C,data:=.fields #[.ref h.objs.size,.none,.none,.none,.bool ge,.none]}).Ns N mN:=let ⟨o,es,ep,e,r⟩:=hn;{o,es,ep,AD _<|AD _ e,r};let D: ((h.push {cls:=.type "tuple",data:=.seq rest.toArray}).push
   {cls:=.ref C,data:=.fields #[.ref h.objs.size,.none,.none,.none,.bool ge,.none]}).get? (h.objs.size+1)=Y
   {cls:=.ref C,data:=.fields #[.ref h.objs.size,.none,.none,.none,.bool ge,.none]}:=by heap_get
 let a6: (Value.ref C::bm).contains (.ref C)=true:=by simp
 let a2:=T.keeps (h':=(h.push {cls:=.type "tuple",data:=.seq rest.toArray}).push {cls:=.ref C,data:=.fields #[.ref h.objs.size,.none,.none,.none,.bool ge,.none]})
  λb o e=>AD _<|AD _ e
 unfold ON
 repeat (first|with_reducible show KR D ?_|(with_reducible show wpAny_isSubtype_exc j ?_;rw[a6])|wp_step)
 change Bz _ _ (typeLookup (.ref C) _) _ _ _;show wpAny_typeLookup_tail j U a2 F.mroIs F.init.lookup ?_;rw[hi];show En<|AC ?_;unfold bindSpecial;show AC<|wpAny_typeOf (T:="function") {(_),z,a4} ?_;rw[A3n Aa];show Bf<|AC (DZ (hq _ (h.objs.size+1) {λb o hb=>AD _<|AD _ hb,Yh<|Da _,h.objs.size,D,Yh<|AU _,?_}) (λr s' hr=>?_) λ_ _ x=>x)
 ·show AD _<|Heap.get?_push_at O O
 let(O,hQ):=hr
 wp_walk
 show hQ
def vF(F:ExcBaseFacts B newId initId rA)(T:OwnTail h rA bm){U:AO->Option Ay}{rest:List Ay}{fI:AH}{oI:Obj}{Q:Ay->AJ->Prop}(j:h.get? C=Y (Qe nm q C N bs bm hdct sn sub ab col dd k0 k1 k2 k3 k5 newId))(hn:h.Ns N U)(hi:U "__init__"=Y (.ref fI))(D:h.get? fI=Y oI)(z:oI.cls= .type "function")(hq:∀h' e,Heap.MadeExcOf h h' e (.ref C) rest->Bz (model prog w) (A.under<|.builtin "type.__call__" {.ref C::rest,[]}) (call (.ref fI) (.ref e::rest)) (λr s'=>r= .none/\Q (.ref e) s') E {(h'),g,d,t,os})(hrest:rest.length<=sizeLine:=by size_fits):
  Bz (model prog w) A (call (.ref C) rest) Q E {(h),g,d,t,os}:=by
 let f1:=tc_lookup;let f2:=tc_bind<|.ref C;let hT: (⟨h,g,d,t,os⟩:AJ).TypeIs (.ref C) "type":={(_),j,O};show GD<|codeAny_of_tree ?_;change Bz _ _ (callAny (.ref C) _) _ _ _
 repeat (any_goals (first|assumption|with_reducible show KR j ?_|wp_step))
 show{O,?_};show codeAny_call_builtin_at (Code.quiet_builtin _ Ab) entry_typeCall<|wpAny_check_type_call_sub j (Yv (hrest:=hrest) F T j hn hi D z λh' e hm=>?_);show hq h' e hm
end
section
variable{M:Model}{A:CH}{E:Ay->AJ->Prop}{env:Env}
variable{nm q:AO}{C N:AH}{bs bm:List Ay}{hdct:Bool}{sn:List AO}{sub:List Ay}{ab:Bool}{col:Option Bool}{dd:Option AH}{k0 k1 k2 k3 k5:Option Ay}{newId:String}
def Us(z:bm.contains (.type "BaseException")=Z)(hh:A.handled=S)(h:Bz M A x (λv j=>∃e dx a0,v= .ref e/\j.heap.get? C=Y (Qe nm q C N bs bm hdct sn sub ab col dd k0 k1 k2 k3 k5 newId)/\j.heap.get? e=Y (JI (.ref C) dx a0 .none)/\E (.ref e) j) E s):
  Bz M A (raiseStmt env (Y x) S) Q E s:=by
 let F: (Value.ref C::bm).contains (.type "BaseException")=true:=by rw[GO,z,Yj]
 unfold raiseStmt;show AC<|DZ h (λv j D=>?_) λ_ _ x=>x;let(e,dx,a0,O,U,he,hE):=D;let(hp,g,d,tk,os):=j
 repeat (first|with_reducible show KR he ?_|with_reducible show KR U ?_|(with_reducible show wpAny_isSubtype_exc U ?_;rw[F])|wp_step)
 show wpAny_raiseNew_none hh hE
end
def nE(X:Cx)(C:AH)(E:XK):Prop:=∀(pZ:List (AH×Obj)) (σ:St) (H:Hp) (s:AJ) (e:AH) (dx:Option AH),Ck X pZ σ H s->H e=Y (TJ e C dx)->(∀o,X.s_.heap.get? e=Y o->e∈X.ex)->E (.ref C) dx (untr H e)->X.xe (.ref e) s
inductive wm(C:AH)(sp:Sp)(E:XK)(vs:List V)(H1:Hp):Prop|mk (_:vs.length<=sizeLine) (_:∀e,H1 e=none->sp (.ref e::vs) (upd H1 e<|TJ e C none) (λv H2=>v= .non/\∃dx,H2 e=Y (TJ e C dx)/\E (.ref C) dx (untr H2 e)) E0)
def xh(C:AH)(sp:Sp)(E:XK)(ta:TA):TS:=λ_ σ H=>ta σ H λvs H1=>wm C sp E vs H1
def Mn{X:Cx}{x:AO}{C fe fI:AH}{E:XK}{k:Nat}{fd:Eu}{ps:List AO}{sp:Sp}{np cpos pos:IZ}{e:Expr}{es:List Expr}{ta:TA}(hc:X.calm=Z)(hg:Gl X x)(hm:X.mg x=Y (.ref C))(M:V4 X.K C fe fI)(G:EY X.prog X.w X.K X.mg X.base ZM k fI fd ps sp)(hr:EX (k+1) X.A)(hb:EB X.K fd ps [])(hR:nE X C E)(ha:PA X (e::es) ta)(b6:↑((x==("__debug__" :AO))=false))(he: ~~~(Br (e::es) X.env=(ge,Dh e X.env)::Br es X.env))(b1: ~~~((DK cpos<|Br es X.env).any (·.1)=false)):
  PS X (.Raise (Y<|.Call (.Name x np) (e::es) [] cpos) S pos) (xh C sp E ta):=by
 intro 0 D I h;let(nm,qn,N,bs,sn,sub,ab,col,dd,k0,k1,k2,k3,k5,lk,a8,a9):=M.cls;let U: (DK cpos<|Br (e::es) X.env).any (·.1)=false:=by rw[he];change(ge|| (DK cpos<|Br es X.env).any (·.1))=ge;rw[b1];rfl
 obtain⟨oI,b2,b4⟩:∃oI,X.base.get? fI=Y oI/\oI.cls= .type "function":=by let z:Option.map (λx=>x.cls) (Eh fI X.K)=Y (.type "function"):=beq_iff_eq.mp M.fn;let(o,ho,b7):=Ce.mp z;show{o,I.ok.mod.kin _ _ ho,b7}
 rw[arm_exec_Raise];simp only[evalOpt,Option.map];show AC (Me<|Us (C:=C) (nm:=nm) (q:=qn) (N:=N) (bs:=bs) (bm:=.ref fe::nq) (hdct:=Z) (sn:=sn) (sub:=sub) (ab:=ab) (col:=col) (dd:=dd) (k0:=k0) (k1:=k1) (k2:=k2) (k3:=k3) (k5:=k5) (newId:="ValueError.__new__") (by rw[GO,show nq.contains (.type "BaseException")=Z from by decide+kernel,Yj]) (I.ok.hd hc) ?_);show AC<|DZ (wpAny_Call_ofName<|IK I hg hm ?_ b6) (λv c1 a3=>AC<|Me (Bf a3)) λ_ _ x=>x;let hs:=ha cpos pZ s σ H _ I h;unfold callWith;rw[he]at hs ⊢;show AC<|En (MJ<|DY hs λus s2 a6=>?_);let(vs,H1,I1,r,hz,q):=a6;show AC<|Me ?_;rw[<-he];simp only[U];let hC:=I1.bk _ _<|I.ok.mod.kin _ _ lk;let a7:s2.heap.Ns N (s2.heap.nsMap N):=.of_isNs<|PySem.W.isNs_of_in I1.kIn a8;let(hp,g,d,tk,os):=s2;show AC<|wpAny_keeperOf_exc hC ?_;show AC (vF PySem.F.excBase_ValueError (lB I1.kIn M.xfe (by let(cd,a,_):=Option.bind_eq_some_iff.mp M.feM;show{(cd),a})) hC a7 (jH I1.kIn a7 a9) (I1.bk _ _ b2) b4 (λh' j m=>?_)<|by change us.length<=sizeLine;rw[<-r.length];show hz);let(t0,b0,_,_):=m.there;let a2:H1 j=none:=by
  cases z:H1 j with
  |none=>rfl
  |some o=>
   let(u,hu):=(I1.hok j o z).some_of;rw[show hp.get? j=S from m.new]at hu;cases hu
 let a5:∀o,X.s_.heap.get? j=Y o->j∈X.ex:=λo z=>by
  by_cases hx:j∈X.ex;·show hx
  let(o',q'):=I1.base.there j o z hx;rw[show hp.get? j=S from m.new]at q';cases q'
 let I2:Ck X pZ σ (upd H1 j<|TJ j C S) ⟨h',g,d,tk,os⟩:=I1.un (h':=h') (t':=tk) ((Un.kept m.keeps).track m.new a2)<|(I1.hok.kept m.keeps).track a2 (iD b0);let q2:=q j a2;let r2:CB (V.ref j::vs) (Value.ref j::us):=.cons O r;let hl: (Value.ref j::us).length=ps.length:=by rw[<-r2.length];show G.len _ _ _ _ q2
 show GD (Go (G.run _ X.stack _ _ {Value.ref j::us,[]} (Value.ref j::us) _ _ E0 (hr.make C us []) (λ_=>I.ok.hd hc) (λz=>BL z) (I2.env0.make C us []) (by let z:=hb {(h'),g,d,tk,os} (Value.ref j::us) I2.kIn (by rw[BE];show hl);rw[BE]at z;show z) r2 q2) λr s' hq=>?_);cases r with
 |error x=>show BM hq
 |ok fl=>
  cases fl with
  |ret u=>
   let(v,H',I3,rv,ev,dx,hx,q3):=I2.after hq;subst ev;let(a0,ho):=QS I3.hok hx;show{rv,AC<|En (wpAny_point<|Bf {j,dx,a0,O,I3.bk _ _<|I.ok.mod.kin _ _ lk,ho,hR pZ σ H' s' j dx I3 hx a5 q3})}
  |next=>show BM hq|brk=>show BM hq|cont=>show BM hq
section
variable{cm:Bool}{P:Bv}{w:BP}{K:Az}{mg:AO->Option Ay}{base:CA}{N:List AO}{qual:AO}{scope:Scope}{f:AH}{cd:Ay}{A:CH}{outer:List Env}{s:AJ}{H:Hp}{E:XK}
def KI:nE (Uy (XC P w cm) P w K mg base N qual scope f cd A outer s H E) C E:=λpZ σ Hr D e dx I hx a9 q=>by
 let(a0,he):=QS I.hok hx;let a3:∀b,b∉ ([]:List AH):=λb z=>A3p z (by simp);let new:s.heap.get? e=none:=by cases z:s.heap.get? e with|none=>rfl|some o=>show A3p (a9 o z)<|a3 e
 let a8:Jr P w (untr Hr e) D.heap:=I.hok.untr hx;let sub:∀b o,(Hg D.heap (e::NT (FD qual scope ↑s f cd::outer))).get? b=Y o->D.heap.get? b=Y o:=λb o q=>PySem.W.of_hideAll _ q;let a6:∀b o,s.heap.get? b=Y o->b∉NT outer->b∉e::NT (FD qual scope ↑s f cd::outer):=λb o q j z=>by
  rcases AM.mp z with ez|z;·rw[ez,new]at q;cases q
  let z':b∈↑s::NT outer:=z;rcases AM.mp z' with e|e;·show A3p (Bs q) (by rw[e];show DO _)
  show j e
 let kp:S3 (NT outer) H (untr Hr e) s.heap (Hg D.heap (e::NT (FD qual scope ↑s f cd::outer))):=by
  show{λb o q n j=>?_,λb o q j=>?_,λb n=>?_};·show LA _ (I.base.keep b o q n j<|a3 b)<|a6 b o q j
  ·let(o',q'):=I.base.there b o q<|a3 b;show{o',LA _ q'<|a6 b o q j}
  let b0:b≠e:=by rintro rfl;show n Ij
  rw[DF b0]at n;cases q:Hr b with
  |none=>show A3p q n
  |some x=>
   let(u,hu):=(I.hok b x q).some_of;show{u,LA _ hu λz=>?_};rcases AM.mp z with ez|z;·show b0 ez
   have:=I.stkFree b z;rw[q]at this;cases this
 let b8: (Hg D.heap (e::NT (FD qual scope ↑s f cd::outer))).get? e=none:=Sd _ Bl;let c1:D.heap.FunFrames base (FD qual scope ↑s f cd::outer):=I.stack;let b1:D.heap.FunFrames (Hg D.heap (e::NT (FD qual scope ↑s f cd::outer))) (FD qual scope ↑s f cd::outer):=Uc c1 λenv he b j=>Bi _<|MH.mpr {(env),he,j};change Bz (model P w) (A.deeper<|FD qual scope ↑s f cd) (leaving (FD qual scope ↑s f cd)<|.ref e) _ _ _;unfold leaving;show AC<|zb (B:=Hg D.heap (e::NT (FD qual scope ↑s f cd::outer))) I.ok.frames b1 O he (λb o z=>sub b o z) b8 λh1 F1 up1=>?_;show RG F1 λh2 F2 b4=>?_;let fX:∀b o,Hr b=Y o->(∀C dx,o≠TJ e C dx)->b≠e:=λb o z n=>by
  rintro rfl;rw[hx]at z;show n _ _ (AK z).symm
 let F:D.heap.UpToSlots h2:=up1.trans b4;let F0:∀b∈NT outer,∃o,D.heap.get? b=Y o/\∀vs,o.data≠ .fields vs:=λb j=>by
  let(_,o,q1,nf):=b1.2.2.mem j;show{(o),q1,nf}
 let U:Un (NT outer) [] H Hr s.heap D.heap:=I.base;show{e,.ref C,dx,untr Hr e,_,O,I.os,I.bare,?_,a8.flown kp.tk (λb o z=>sub b o z) F2.st,F2.drop,Ij,new,kp,q};show{λb o q1 n j _=>F2.st b o<|kp.k1 b o q1 n j,λb o q1 n j hx=>?_,λb o q1 n b7=>?_,λb o q1 hx=>?_,λb xs z=>?_,λb o u z=>?_,λb ps z=>?_};·let(sl,q2):=U.slot b o q1 n j hx;let(o',q3,nf):=F0 b j;rw[q2]at q3;cases q3;let(a5,q4):=F b _ q2 nf;show{(a5),q4}
 ·unfold untr;split
  ·rfl
  show U.free b o q1 n b7
 ·by_cases j:b∈NT outer
  ·let(o',q3,nf):=F0 b j;let(a5,q4):=F b _ q3 nf;show{(_),q4}
  let(o',q'):=kp.k2 b o q1 j;show{o',F2.st b o' q'}
 ·let z':=U.tups b xs z;rw[DF (fX b _ z' λ_ _ y=>by cases y)];show z'
 ·let z':=U.frzs b o u z;rw[DF (fX b _ z' λ_ _ y=>by cases y)];show z'
 let(m,z'):=U.tbls b ps z;show{m,by rw[DF (fX b _ z' λ_ _ y=>by cases y)];show z'}
end
section
variable{X:Cx}
inductive zJ(C:AH)(Q:VK)(vs:List V)(H1:Hp):Prop|mk (e rest dx:_) (_:vs= .ref e::rest) (_:H1 e=some (TJ e C dx)) (_:rest.length<=sizeLine) (_:Q .non H1)
def F8(C:AH)(ta:TA):TE:=λσ H Q=>ta σ H λvs H1=>zJ C Q vs H1
structure C8(K:Az)(fe:AH):Prop where
 ga:NC K (.ref fe) "__getattribute__"=Y (Y<|.builtin "type.__getattribute__")
 rd:PySem.W.readsIn K fe (.type "type")=Z
 fi:PySem.W.findCls K (.ref fe) (.type "type") "__init__"=Y (.val<|.builtin "ValueError.__init__")
def fE(hg:Gl X x)(hm:X.mg x=Y (.ref fe))(Zq:C8 X.K fe)(M:V4 X.K C fe fI)(ha:PA X (e::es) ta)(a3:↑((x==("__debug__" :AO))=false))(he: ~~~(Br (e::es) X.env=(ge,Dh e X.env)::Br es X.env))(a1: ~~~((DK pos<|Br es X.env).any (·.1)=false))(ht:Dh (.Call (.Attribute (.Name x np) "__init__" apos) (e::es) [] pos) X.env=(do
   let ov <-Dh (.Name x np) X.env
   standAt apos.atName
   let (f,first) <-holding [ov] (RW ov "__init__" pl)
   callWith pos f first (DK pos<|Br (e::es) X.env) (ME pos<|HC [] X.env)):=by rfl):
  PE X (.Call (.Attribute (.Name x np) "__init__" apos) (e::es) [] pos) (F8 C ta):=by
 intro 0 Q I h;let F:=PySem.F.excBase_ValueError;let(nm,qn,N,bs,sn,sub,ab,col,dd,k0,k1,k2,k3,k5,lk,a9,b0):=M.cls;show Hv (pl:=pl) (IK I hg hm ?_ a3) ht;show PySem.W.method_cls I.kIn Zq.ga<|PySem.W.cls_value I.kIn Zq.rd Zq.fi O ?_;show Kn (DY (ha pos pZ _ σ H _ (I.tok _) h) λus s1 D=>?_) he a1;let(vs,H1,U,r1,j,rest,dx,ev,hx,hz,q1):=D;subst ev;cases us with
 |nil=>show A3p r1.length (by simp)
 |cons u us=>
  obtain⟨hu,hr⟩:u= .ref j/\CB rest us:=by cases r1 with|cons a b=>show{(a),b}
  subst hu;let(a0,ho):=QS U.hok hx;let b2:us.length<=sizeLine:=by rw[<-hr.length];show hz
  let(hp,g,d,tk,os):=s1;show GD (Gp F.init.plain F.initEntry<|wpAny_check_init_subT F (lB U.kIn M.xfe (by let(cd,a,_):=Option.bind_eq_some_iff.mp M.feM;show{(cd),a})) (U.bk _ _<|I.ok.mod.kin _ _ lk) ho O ?_)
  wp_walk
  let a2:=AD {cls:=DP "tuple",data:=Data.seq us.toArray}<|show hp.get? j=Y (JI (.ref C) dx a0 .none)from ho;let z: ((hp.push {cls:=DP "tuple",data:=Data.seq us.toArray}).update j<|JC λx=>x.setIfInBounds 0<|Value.ref hp.objs.size).get? j=Y (JI (.ref C) dx (.ref hp.objs.size) .none):=by rw[Ih _ a2 O];rfl
  let I2:Ck X pZ σ H1 {heap:=hp.push {cls:=DP "tuple",data:=Data.seq us.toArray},gens:=g,drawn:=d,toks:=tk,os:=os}:=U.kept (t':=tk) λb u q=>AD _ q;let I3:=I2.write (x:=j) (e:=j) (o:=TJ j C dx) (h':=(hp.push {cls:=DP "tuple",data:=Data.seq us.toArray}).update j<|JC λx=>x.setIfInBounds 0<|Value.ref hp.objs.size) (t':=tk) (by rw[hx];trivial) (.inl O) (λb u hb q=>(DL _ _<|CI hb).trans q) {(_),z}<|iD z;rw[E7 hx]at I3;let fin:Bz (model X.prog X.w) X.A.in1 (ret CT) (λfin s'=>match fin with
    |PySem.Fin.done f=>(match (OV f:Result)with|OV (Flow.ret v)=>EP X pZ σ Q v s'|OV a=>False|Yi e=>X.xe e s')|PySem.Fin.again c'=>c'.quiet=Z/\Iv (model X.prog X.w) X.A c' (λr s'=>match r with|OV (Flow.ret v)=>EP X pZ σ Q v s'|OV a=>False|Yi e=>X.xe e s') s')
    (λe s'=>match (Yi e:Result)with|OV (Flow.ret v)=>EP X pZ σ Q v s'|OV a=>False|Yi e=>X.xe e s')
    {heap:=(hp.push {cls:=DP "tuple",data:=Data.seq us.toArray}).update j<|JC λx=>x.setIfInBounds 0<|Value.ref hp.objs.size,gens:=g,drawn:=d,toks:=tk,os:=os}:=Bf<|show EP X pZ σ Q CT _ from{.non,H1,I3,O,q1}
  change Bz _ _ (match a0 with|Value.ref a=>letGo [a0]|x=>ID Unit.unit) _ _ _;split;·show wpAny_letGo fin
  show Bf fin
end
section
variable{X:Cx}{o value:Expr}{f:AO}{pos pos':IZ}{ta tv:TE}
inductive S4(K:Az)(f:AO)(Q:VK)(x:V)(H1:Hp):Prop|mk (e C d a0 tb fs v:_) (_:x= .ref e) (_:H1 e=some (wN e<|JI (.ref C) (some d) a0 tb)) (_:H1 d=some (.xd fs)) (_:ZI K C) (_:HG K C f) (_:fs.lookup f=some v) (_:Q v H1)
def X9(K:Az)(f:AO)(ta:TE):TE:=λσ H Q=>ta σ H λx H1=>S4 K f Q x H1
def iC{prog:Bv}{w:BP}{A:CH}{E:Ay->AJ->Prop}{s:AJ}{K:Az}{C e:AH}{oe:Obj}{od:Option Obj}{name:AO}{v:Ay}{expr:Bool}{Q:Ay->AJ->Prop}(Zq:ZI K C)(X:K.In s.heap)(I:Ed s.heap e oe C od)(hf:PySem.W.findObj K C od name=Y (.value v))(z:ZO v=Z)(h:Q v {s with toks:=s.toks+1}):Bz (model prog w) A (getAttr (.ref e) name expr) Q E s:=by
 let(j,g,d,t,os):=s;unfold getAttr;show AC<|wpAny_mkText (A3 Zq X I<|Gp Xn F.entry_bexc_ga (Xo (W3 Zq X I) ?_));unfold Builtin.«object.__getattribute__»;show AC<|Bf ?_
 dsimp only
 show AC<|Bf (AC<|(I.type (M:=model prog w)).at (AC<|(PySem.W.looks_find (M:=model prog w) X I hf).at ?_))
 dsimp only
 show Bf ?_;change Bz _ _ (handedOut v) _ _ _;rw[PySem.W.handedOut_of z];show Bf h
def ci(he:PE X o ta)(hb:GF o f X.env (Dh o X.env)=Dh o X.env):PE X (.Attribute o f pos) (X9 X.K f ta):=by intro 0 Q I h;show cT hb<|DY (he pZ s σ H _ I h) λu s1 z=>?_;let(x,H1,D,rx,e,C,d,a0,tb,fs,v,ex,hE,hd,Zq,na,hl,q):=z;subst ex;obtain rfl:u=Value.ref e:=rx;let(ho,_):=D.hok e _ hE;let(mA,U,j):=(show Dk X.prog X.w H1 s1.heap d (.xd fs)from D.hok d _ hd);let r:=j f;rw[hl]at r;let(u,hu,ru):=r.some_of;let(od,F,a1):=SO U;let IA:Ed s1.heap e (JI (.ref C) (Y d) a0 tb) C (Y od):={(ho),O,O,F};show iC Zq D.kIn IA (PySem.W.findObj_own Zq.hd na O<|by rw[a1,hu]) (aL ru) {v,H1,D.tok _,ru,q}
end
section
variable{X:Cx}{o value:Expr}{f:AO}{pos pos':IZ}{ta tv:TE}
def nQ{fs:List (AO×V)}{mA:AO->Option Ay}(h:∀f,Lc (fs.lookup f)<|mA f):PySem.Within mA (fs.map (·.1)):=λy j=>by
 cases e:fs.lookup y with|none=>have:=h y;rw[e]at this;show A3p this.none_of j|some v=>show AS.mpr {(y,v),Fd e,O}
def dN{prog:Bv}{w:BP}{A:CH}{s:AJ}{R:Result->AJ->Prop}{K:Az}{C fe fI x:AH}{z:Obj}{od:Option Obj}{name:AO}{tk:Tok}{v:Ay}(X:K.In s.heap)(I:Ed s.heap x z C od)(M:V4 K C fe fI)(na:HG K C name)(h:∀b,Bz (model prog w) A.in1 (Builtin.ObjectAttr.storeInOwnDict (.ref x) (.ref C) (.str name tk) name v b) (λfin s'=>match fin with|.done f=>R (.ok f) s'|.again c'=>c'.quiet=Z/\Iv (model prog w) A c' R s') (λe s'=>R (.error e) s') s):
  Iv (model prog w) A (.call (.builtin "object.__setattr__") {[.ref x,.str name tk,v],[]}) R s:=by
 let SF:=PySem.F.store_ValueError;let(nm,qn,N,bs,sn,sub,ab,col,dd,k0,k1,k2,k3,k5,lk,D,U):=M.cls;obtain⟨cd,hc,j⟩:∃cd,IX K C=Y cd/\cd.mro= .ref C:: .ref fe::nq:={_,by unfold IX;rw[lk],O};let hm:PySem.W.Looks (model prog w) s.heap (mroOf<|.ref C) cd.mro:=(Lz X hc).andThen .now;let ho: (Value.ref C:: .ref fe::nq).contains (.type "object")=true:=by rw[GO,GO,show nq.contains (.type "object")=Z from by decide+kernel,Yj,Yj]
 let sub:PySem.W.Looks (model prog w) s.heap (ON (.ref x)<|.type "object") true:=I.type.andThen (PySem.W.looks_mroIn X<|by unfold NL;rw[hc,ZP,j,A3m (by simp),ho]);show Gp SF.slot.plain SF.entry<|@UH (model prog w) _ _ s "object.__setattr__" "object" "__setattr__" (.ref x) [.str name tk,v] [] _ SF.kind SF.split sub (SF.args (.ref x) (.str name tk) v) ?_;rw[PySem.W.osa_eq,refuse_eq];show AC<|AC (I.type.here<|AC (hm.here ?_));rw[j,refuseLoop_ref,refuseLoop_ref,SF.passes];show Bf<|AC (I.type.here<|AC ((KU X na).here<|AC ?_));show Bf<|h _
def sXF(K:Az)(C:AH)(f:AO)(ta tv:TE):TS:=λD σ H=>tv σ H λy H1=>ta σ H1 λx H2=>∃e,x= .ref e/\HG K C f/\((H2 e=Y (TJ e C S)/\∀d,H2 d=S->D.nx σ (upd (upd H2 d<|.xd [(f,y)]) e<|TJ e C (Y d)))\/
  ∃d fs,H2 e=Y (TJ e C<|Y d)/\H2 d=Y (.xd fs)/\fs.length<1000/\D.nx σ (upd H2 d<|.xd (Mm f y fs)))
def ce(M:V4 X.K C fe fI)(ha:PE X o ta)(hv:PE X value tv)(hs:RV value (Y<|.Attribute o f pos') pos.line X.env=ID ge):PS X (.Assign [.Attribute o f pos'] value pos) (sXF X.K C f ta tv):=by
 intro 0 D I h;show plainObj_wpAny_Assign_Attribute (DY (hv pZ s σ H _ I h) λu s1 b6=>?_) hs;let(y,H1,I1,ry,q):=b6;show DY (ha pZ s1 σ H1 _ I1 q) λov s2 b5=>?_;let(x,H2,F,rx,e,ex,na,q2):=b5;subst ex;obtain rfl:ov=Value.ref e:=rx;let(nm,qn,N,bs,sn,sub,ab,col,dd,k0,k1,k2,k3,k5,lk,d3,d4):=M.cls;obtain⟨cd,hc,b4⟩:∃cd,IX X.K C=Y cd/\cd.hasDict=true:={_,by unfold IX;rw[lk],O};rcases q2 with⟨hx,q2⟩|⟨d,fs,hx,hd,hz,q2⟩
 ·let(a0,ho):=QS F.hok hx;let IA:Ed s2.heap e (JI (.ref C) S a0 .none) C none:={(ho),O,O,trivial};show XN F.kIn IA M.sa<|dN (s:={s2 with toks:=s2.toks+1}) F.kIn IA M na λb=>?_;show AC<|Bf (AC<|AC (XI ho<|AC (UI (s:={s2 with toks:=s2.toks+1}) (Lz F.kIn hc) ?_)));rw[b4];change Bz _ _ (do
   let d <-alloc {cls:=DP "dict",data:=Sj #[]}
   update e λo=>{cls:=o.cls,dict:=Y d,data:=o.data,slots:=o.slots}
   dictMade (.ref C) e d) _ _ _
  let b0:=AD {cls:=DP "dict",data:=Sj #[]} ho;let b7:e≠↑s2:=BH<|Bs ho;show AC<|wpAny_alloc' (AC<|wpAny_update' b0 (Bf ?_));let c5: ((s2.heap.push {cls:=DP "dict",data:=Sj #[]}).update e λo=>{cls:=o.cls,dict:=Y ↑s2,data:=o.data,slots:=o.slots}).get? ↑s2
    =Y {cls:=DP "dict",data:=Sj #[]}:=(Heap.get?_update_ne _ _ _ _ b7.symm).trans<|Heap.get?_push_at O O
  let c4: ((s2.heap.push {cls:=DP "dict",data:=Sj #[]}).update e λo=>{cls:=o.cls,dict:=Y ↑s2,data:=o.data,slots:=o.slots}).get? e
    =Y (JI (.ref C) (Y ↑s2) a0 .none):=Ih _ b0 O
  let hnd: ((s2.heap.push {cls:=DP "dict",data:=Sj #[]}).update e λo=>{cls:=o.cls,dict:=Y ↑s2,data:=o.data,slots:=o.slots}).Ns ↑s2 (λ_=>S):={_,#[],_,c5,O,λe he=>A3p he (by simp),λ_=>rfl};change Bz _ _ (Builtin.ObjectAttr.storeInDict ↑s2 (.str f s2.toks) f u) _ _ _;unfold Builtin.ObjectAttr.storeInDict Builtin.ObjectAttr.newKeyGuard;show AC<|Bf (AC<|wpAny_nsSet1 (Heap.Ns1.of_empty hnd) λh' b3 a8=>?_);let(oD,c7,c8,a1,a5,a6):=b3.count<|Within.cons f u Within.nil;show AC (wpAny_lookBehind a1 (by rw[a5];show pastItsLine_dict<|AR a6 (by rw[BD,List.length_nil,Ec];lia)) ?_);let j:H2 ↑s2=none:=F.hok.fresh<|AU _;let a3:h'.get? e=Y (JI (.ref C) (Y ↑s2) a0 .none):=(a8.2 e b7).trans c4;let kp:∀b o,b≠e->s2.heap.get? b=Y o->h'.get? b=Y o:=λb o U q=>
   (a8.2 b<|BH (Bs q)).trans ((Heap.get?_update_ne _ _ _ _ U).trans<|AD _ q)
  let a9:Jr X.prog X.w (upd (upd H2 ↑s2<|.xd [(f,y)]) e<|TJ e C (Y ↑s2)) h':=λb o q=>by
   by_cases U:b=e;·subst U;rw[Ax]at q;cases q;show iD a3
   rw[AT U]at q;by_cases hd:b=↑s2
   ·subst hd;rw[Ax]at q;cases q;show{_,b3,λg=>?_};change Lc (Eh g [(f,y)]) (if g=f then Y u else S)
    by_cases q:g=f;·subst q;rw[A3n O,Fm,beq_self_eq_true];show ry
    rw[A3m q,Fm,beq_eq_false_iff_ne.mpr q];show Du
   rw[AT hd]at q;show(F.hok b o q).stay (λc v c6 z=>kp c v ?_ z) (λc z=>?_) λc xs z=>?_
   ·rintro rfl;rcases c6 with z1|z1
    ·show U z1.symm
    rw[hx]at z1;cases z1
   ·rw[AT (by rintro rfl;rw[hx]at z;cases z),AT<|Bp z j];show z
   rw[AT (by rintro rfl;rw[hx]at z;cases z),AT<|Bp z j];show z
  let c1:Un X.fs [] H2 (upd (upd H2 ↑s2<|.xd [(f,y)]) e<|TJ e C (Y ↑s2)) s2.heap h':=by
   show{λb o q n U _=>kp b o (by rintro rfl;rw[hx]at n;cases n) q,λb o q n U _=>{o.slots,kp b o (by rintro rfl;rw[hx]at n;cases n) q},λb o q n _=>?_,λb o q _=>?_,λb xs z=>?_,λb o u z=>?_,λb ps z=>{#[],?_}};·rw[AT (by rintro rfl;rw[hx]at n;cases n),AT<|BH (Bs q)];show n
   ·by_cases U:b=e
    ·rw[U];show{(_),a3}
    show{o,kp b o U q}
   ·rw[AT (by rintro rfl;rw[hx]at z;cases z),AT<|Bp z j];show z
   ·rw[AT (by rintro rfl;rw[hx]at z;cases z),AT<|Bp z j];show z
   rw[AT (by rintro rfl;rw[hx]at z;cases z),AT<|Bp z j,Array.append_empty];show z
  show Bf {σ,_,F.un (h':=h') c1 a9,q2 _ j}
 let(a0,ho):=QS F.hok hx;let(mA,b1,a2):=(show Dk X.prog X.w H2 s2.heap d (.xd fs)from F.hok d _ hd);let(od,c3,d6):=SO b1;let IA:Ed s2.heap e (JI (.ref C) (Y d) a0 .none) C (Y od):={(ho),O,O,c3};show XN F.kIn IA M.sa<|dN (s:={s2 with toks:=s2.toks+1}) F.kIn IA M na λb=>?_;show AC<|Bf (AC<|AC (XI ho<|AC (UI (s:={s2 with toks:=s2.toks+1}) (Lz F.kIn hc) ?_)));rw[b4];show Bf (a:=Y d)<|AC (Bf<|AC ?_);show wpAny_nsSet1 (s:={s2 with toks:=s2.toks+1}) b1 λh' b2 c2=>?_;let(oD,c7,c8,a1,a5,a6):=b2.count<|PySem.Within.cons f u (nQ a2);show AC (wpAny_lookBehind a1 (by rw[a5];show pastItsLine_dict<|AR a6 (by rw[BD,Aw,Ec];lia)) ?_);let new:Dk X.prog X.w (upd H2 d<|.xd (Mm f y fs)) h' d (.xd<|Mm f y fs):=by
  show{_,b2,λg=>?_};change Lc ((Mm f y fs).lookup g) (if g=f then Y u else mA g)
  rw[OA];by_cases q:g=f;·rw[A3n q,A3n q];show ry
  rw[A3m q,A3m q];show a2 g
 show Bf {σ,_,F.write (x:=d) (e:=d) (h':=h') (by rw[hd];trivial) (.inl O) (λb u U q=>(c2.2 b U).trans q) {(_),a1} new,q2}
end
def fD(hm:X.mg x=Y (.int i t))(hg: ~~~(Gl X x))(hd:↑((x==("__debug__" :AO))=false)):PE X (.Name x pos) (tC<|.int i):=cj hg hm {(t),O} hd
def EN{c A B:Prop} [Decidable c](hc:¬c)(h:B):if decide c=Z then A else B:=by rw[A3m (by simpa using hc)];show h
def Yl(hm:X.mg x=S)(j:Cf x=Y (.type T))(hg: ~~~(Gl X x))(hn:↑(x≠ "__name__"))(hd:↑((x==("__debug__" :AO))=false)):PE X (.Name x pos) (tC<|.ty T):=yd hg hm j O hn hd
def Mv(h:H a=Y o)(hp:H p=S): (upd H p u) a=Y o:=by rw[AT (Bp h hp)];show h
def AZ(hp:H p=S):Bd H (upd H p u):=λ_ _ e=>Mv e hp
def SV{X:Cx}{scope:Scope}(h: (scope.names.all λp=>!(p.2== .free) || (X.env.cells.lookup p.1).isSome)=Z):∀y∈scope.names,y.2= .free->(X.env.cells.lookup y.1).isSome=true:=λy j e=>by
 have:=By.mp h y j;rw[e]at this;simpa using this
def Gc{c A B:Prop} [Decidable c](hc:c)(h:A):if decide c=Z then A else B:=by rw[A3n (A3j hc)];show h
def Sk(hm:X.mg x=Y (.ref a))(hg: ~~~(Gl X x))(hd:↑((x==("__debug__" :AO))=false)):PE X (.Name x pos) (tC<|.ref a):=cj hg hm O hd
def BR(K:Az)(j:X.K=K):FK X (.builtin "isinstance") (λxs H Q=>∃x c t cv b,xs=[x,c]/\IV K H x t/\CZ c cv/\Bo K t cv=Y b/\Q (.bl b) H):=by subst j;show hJ
def shaped_ints(ns:List Int):DX (.list<|ns.map PyData.int)=true:=PySem.W.shaped_ints ns
def Bd.put(s:Bd H H')(h:H p=S):Bd H (upd H' p o):=λb u e=>by
 rw[AT (Bp e h)];show s b u e
def Bd.seqT{K:Az}{H H':Hp}{a:AH}{xs:List V}(e:Bd H H')(h:GK K H a xs):GK K H' a xs:=by
 rcases h with(h|⟨o,h⟩)|h;·show .inl<|.inl (e _ _ h)
 ·show .inl<|.inr {o,e _ _ h}
 show .inr h
def Z4(t u:TS):TS:=λD σ H=>∃M:St->Hp->Prop,t {D with nx:=M} σ H/\∀σ' H',M σ' H'->u D σ' H'
def BV(M:St->Hp->Prop)(h1:t {D with nx:=M} σ H)(h2:∀σ' H',M σ' H'->u D σ' H'):Z4 t u D σ H:={(M),h1,h2}
def AY{X:Cx}{st:JW}{rest:List JW}{t u:TS}(h1:PS X st t)(h2:Ug X rest u):Ug X (st::rest) (Z4 t u):=by
 intro 0 D I ⟨M,h,k⟩;show RU<|DZ (h1 pZ s σ H {D with nx:=M} I h) (λf s1 q=>?_) λ_ _ x=>x;cases f with
 |next=>
  let(j,H1,F,z):=q;show h2 pZ s1 j H1 D F<|k j H1 z
 |ret v=>show q|brk=>show q|cont=>show q
def Z0(t:TE):TE:=λσ H Q=>∃M:VK,t σ H M/\∀v H',M v H'->Q v H'
def tS(h:PE X e t):PE X e (Z0 t):=by intro 0 Q I ⟨M,q,k⟩;show DZ (h pZ s σ H M I q) (λv s1 j=>(by let(x,H1,z,r,m):=j;show{x,H1,z,r,k x H1 m})) λ_ _ x=>x
def A7(h:us.length=1):∃j,us=[j]:=by
 obtain _|⟨j,us⟩:=us;·simp at h
 obtain _|⟨u,us⟩:=us;·show{(_),O}
 simp at h
def A6(h:us.length=2):∃z j,us=[z,j]:=by
 obtain _|⟨z,us⟩:=us;·simp at h
 obtain _|⟨j,us⟩:=us;·simp at h
 obtain _|⟨u,us⟩:=us;·show{(_),_,O}
 simp at h
def X5(h:us.length=3):∃D z j,us=[D,z,j]:=by
 obtain _|⟨D,us⟩:=us;·simp at h
 obtain _|⟨z,us⟩:=us;·simp at h
 obtain _|⟨j,us⟩:=us;·simp at h
 obtain _|⟨u,us⟩:=us;·show{(_),_,_,O}
 simp at h
def rW(h:us.length=4):∃F D z j,us=[F,D,z,j]:=by
 obtain _|⟨F,us⟩:=us;·simp at h
 obtain _|⟨D,us⟩:=us;·simp at h
 obtain _|⟨z,us⟩:=us;·simp at h
 obtain _|⟨j,us⟩:=us;·simp at h
 obtain _|⟨u,us⟩:=us;·show{(_),_,_,_,O}
 simp at h
def X4(h:us.length=5):∃U F D z j,us=[U,F,D,z,j]:=by
 obtain _|⟨U,us⟩:=us;·simp at h
 obtain _|⟨F,us⟩:=us;·simp at h
 obtain _|⟨D,us⟩:=us;·simp at h
 obtain _|⟨z,us⟩:=us;·simp at h
 obtain _|⟨j,us⟩:=us;·simp at h
 obtain _|⟨u,us⟩:=us;·show{(_),_,_,_,_,O}
 simp at h
def A5(h:us.length=6):∃u0 U F D z j,us=[u0,U,F,D,z,j]:=by
 obtain _|⟨u0,us⟩:=us;·simp at h
 obtain _|⟨U,us⟩:=us;·simp at h
 obtain _|⟨F,us⟩:=us;·simp at h
 obtain _|⟨D,us⟩:=us;·simp at h
 obtain _|⟨z,us⟩:=us;·simp at h
 obtain _|⟨j,us⟩:=us;·simp at h
 obtain _|⟨u,us⟩:=us;·show{(_),_,_,_,_,_,O}
 simp at h
def EW(h1: ~~~(sc.kind= .function))(h2: ~~~(sc.isCoroutine=false))(h3: ~~~(sc.isGenerator=false))(F:N.Nodup:=by decide+kernel)(D: ~~~(N.take P.length=P))(z:∀x∈P,sc.names.lookup x=Y .local\/sc.names.lookup x=Y .cell:=by decide+kernel)(j:∀y∈sc.names,y.2≠ .free:=by decide+kernel):Bn N P sc:={(h1),h2,h3,F,D,z,j}
def zl(n:Nat)(h: ~~~(Nat.ble n sizeLine=true)):n<=sizeLine:=Nat.le_of_ble_eq_true h
end L2
namespace HL
open PySem PySem.W
def yZ(h:CA)(a:AH)(o:Obj):∀l:List Nat,((l.filterMap λa=>(h.get? a).map λo=>(a,o)):Fn).lookup a=Y o->h.get? a=Y o:=by
 intro l;induction l with
 |nil=>intro e;cases e
 |cons b l j=>
  intro e;cases q:h.get? b with
  |none=>rw[Fe,q]at e;show j e
  |some x=>
   rw[Fe,q]at e
   dsimp only[Option.map]at e
   rw[Fm]at e;cases z: (a==b)with|true=>rw[z]at e;cases e;rw[beq_iff_eq.mp z];show q|false=>rw[z]at e;show j e
def Lb{j:Type}:List j->Nat->Option j|[],_=>S|x::_,0=>Y x|_::l,n+1=>Lb l n
def Wu{j:Type}{l m:List j}(h:l=m)(i:Nat):Lb l i=Lb m i:=by rw[h]
def JR{j:Type}{x:j}{f:j->Bool}:∀{l:List j} (i:Nat),l.all f=Z->Lb l i=Y x->f x=Z|y::l,0,h,e=>by cases e;rw[Hk,AB]at h;show h.1|y::l,i+1,h,e=>by rw[Hk,AB]at h;show JR i h.2 e
abbrev FV:=AO×AO×Ka×FuncBody×Scope×AH×List (AO×AH)×Ay×AH×Bool
def EH(K:Fn)(f:AH):Eu:=match K.lookup f with
 |some o=>(match o.data with|.func fd=>fd|_=>default)|_=>default
def fv(K:Fn)(f:AH):Option FV:=match K.lookup f with
 |some o=>(match o.data with
  |.func fd=>Y (fd.name,fd.qualname,fd.params,fd.body,fd.scope,fd.globals,fd.closure,fd.defaults,fd.builtins,codeIn K fd.code fd.qualname)|_=>S)
 |_=>S
def fx(x qual:AO)(st:JW)(j:Ay):Option FV:=Y (x,qual,L2.Jq st,.stmts<|L2.GJ st,L2.AV st,Ca,[],j,OO,Z)
def va{K:Fn}{f:AH}{x qual:AO}{st:JW}(h:fv K f=fx x qual st .none)(k:Je K (.ref f)=Z):L2.Yo K x qual st f (EH K f):=by
 unfold fv fx at h;cases q:K.lookup f with
 |none=>rw[q]at h;cases h
 |some o=>
  let(oc,od,dt,sl):=o;rw[q]at h;cases dt with
  |func fd=>
   let(a1,a2,a3,a4,a5,a6,a7,a8,a9,b0,U,F,D,j,b4):=fd;simp only[JB,Gd]at h;let(O,O,O,O,O,O,O,O,O,e):=h;let z:EH K f=fnOf a1 a2 (L2.Jq st) (L2.GJ st) (L2.AV st) .none a9 b0 U F D j:=by unfold EH;rw[q]
   rw[z];show L2.P8 q e k
  |_=>cases h
def Jp{K:Fn}{f:AH}{x qual:AO}{st:JW}{j:Ay}(h:fv K f=fx x qual st j):∃(oc:Ay) (od:Option AH) (sl:Array (Option Ay)) (kV doc pm:Ay) (an:Option AH) (cdv ct:Ay),EH K f=fnOf x qual (L2.Jq st) (L2.GJ st) (L2.AV st) j kV doc pm an cdv ct/\K.lookup f=Y {oc,od,.func<|fnOf x qual (L2.Jq st) (L2.GJ st) (L2.AV st) j kV doc pm an cdv ct,sl}/\codeIn K cdv qual=true:=by
 unfold fv fx at h;cases q:K.lookup f with
 |none=>rw[q]at h;cases h
 |some o=>
  let(oc,od,dt,sl):=o;rw[q]at h;cases dt with
  |func fd=>
   let(a1,a2,a3,a4,a5,a6,a7,a8,a9,b0,U,F,D,z,b3):=fd;simp only[JB,Gd]at h;let(O,O,O,O,O,O,O,O,O,e):=h;show{oc,od,sl,a9,b0,U,F,D,z,by unfold EH;rw[q],O,e}
  |_=>cases h
def Lq(K:Fn)(a:AH):Option (List Ay):=match K.lookup a with
 |some o=>(match o.data with|.seq vs _=>Y vs.toList|_=>S)|_=>S
def jh{K:Fn}{a:AH}{l:List Ay}(h:Lq K a=Y l):∃o n,K.lookup a=Y o/\o.data= .seq l.toArray n:=by
 unfold Lq at h;cases q:K.lookup a with
 |none=>rw[q]at h;cases h
 |some o=>
  rw[q]at h;let(oc,od,j,sl):=o;cases j with
  |seq vs n=>obtain rfl:vs.toList=l:=AK h;show{(_),n,O,O}
  |_=>cases h
def iv:Option (Option Ay)->Option Int|some (some<|.int i _)=>Y i|_=>S
def uQ{o:Option (Option Ay)}{i:Int}(h:iv o=Y i):∃t,o=Y (Y<|.int i t):=by
 unfold iv at h;split at h;·cases h;show{(_),O}
 cases h
def lN{K:Fn}{a:AH}{i:Int}(h:iv ((Lq K a).map List.head?)=Y i)(n: (Lq K a).map (λl=>(l.length:Int))=Y 1):∃o t n,K.lookup a=Y o/\o.data= .seq #[.int i t] n:=by
 cases q:Lq K a with
 |none=>rw[q]at n;cases n
 |some l=>
  rw[q]at h n
  match l,q,h,n with
  |[v],q,h,_=>
   let(t,e):=uQ h;let(o,n,h1,h2):=jh q;let j:v= .int i t:=by simpa using e
   show{o,t,n,h1,by rw[h2,j]}
  |[],_,h,_=>cases h|_::_::_,_,_,n=>simp at n;lia
end HL
namespace HL
open PySem PySem.W L2
abbrev XV:=Ay×List Ay×Bool×Bool×Nat×Option (Option Ay)×Bool×Option (Option Ay)
def xv(K:Fn)(C:AH):Option XV:=match K.lookup C with
 |some o=>(match o.data with
  |.cls cd=>Y (o.cls,cd.mro,cd.hasDict,cd.hasDel,o.slots.toList.length,o.slots.toList[4]?,nsOkIn K cd.ns,nsIn K cd.ns "__init__")|_=>S)
 |none=>S
def xx(C fe fI:AH):Option XV:=Y (.type "type",.ref C:: .ref fe::nq,Z,ge,6,Y<|Y (.builtin "ValueError.__new__"),Z,Y<|Y (.ref fI))
def A1W{j:Type}{l:List j}(h:l.length=6):∃a b c d e f,l=[a,b,c,d,e,f]:=by
 rcases l with _|⟨a,_|⟨b,_|⟨c,_|⟨d,_|⟨e,_|⟨f,_|⟨g,l⟩⟩⟩⟩⟩⟩⟩
 iterate 6 show A3p h (by simp)
 ·show{(_),_,_,_,_,_,O}
 show A3p h (by simp)
def rG{K:Fn}{C fe fI:AH}(h:xv K C=xx C fe fI):∃nm q N bs sn sub ab col dd k0 k1 k2 k3 k5,K.lookup C=Y (Qe nm q C N bs (.ref fe::nq) Z sn sub ab col dd k0 k1 k2 k3 k5 "ValueError.__new__")/\nsOkIn K N=Z/\nsIn K N "__init__"=Y (Y<|.ref fI):=by
 unfold xv xx at h;cases e:K.lookup C with
 |none=>rw[e]at h;cases h
 |some o=>
  obtain⟨oc,od,dt,⟨sl⟩⟩:=o;rw[e]at h;cases dt with
  |cls cd=>
   let(a1,a2,a3,a4,a5,a6,a7,a8,a9,b2,b1):=cd;simp only[JB,Gd]at h;let(O,O,O,O,U,F,D,z):=h;let(k0,k1,k2,k3,j,k5,O):=A1W U;obtain rfl:j=Y (.builtin "ValueError.__new__"):=AK F;show{(_),_,_,_,_,_,_,_,_,_,_,_,_,_,O,D,z}
  |_=>cases h
def fcB(K:Fn)(fe:AH)(x:AO)(n:String):Bool:=match findCls K (.ref fe) (.type "type") x with
 |some (.val<|.builtin m)=>m==n|_=>ge
def A0h{K:Fn}{fe:AH}{x:AO}{n:String}(h:fcB K fe x n=Z):findCls K (.ref fe) (.type "type") x=Y (.val<|.builtin n):=by
 unfold fcB at h;split at h;·rename_i m e;rw[e,beq_iff_eq.mp h]
 cases h
end HL
namespace HL
open PySem PySem.W PyProof.Rows L2
def KO(l:List Nat)(h:CA):Fn:=l.filterMap λa=>(h.get? a).map λo=>(a,o)
def vd(l:List Nat)(h:CA): (KO l h).In h:=λa o e=>yZ h a o l e
def zw:List Ay->Int|[.bool false,.none]=>10|[.none]=>11|_=>0
def A0q{l:List Ay}(h:zw l=10):l=[.bool ge,.none]:=by
 unfold zw at h;split at h;·rfl
 ·cases h
 cases h
def A0p{l:List Ay}(h:zw l=11):l=[.none]:=by
 unfold zw at h;split at h;·cases h
 ·rfl
 cases h
def sW{K:Fn}{a:AH}(h: (Lq K a).map zw=Y 10):∃o n,K.lookup a=Y o/\o.data= .seq #[.bool ge,.none] n:=by let(l,e,c):=Ce.mp h;obtain rfl:=A0q c;show jh e
def i7{K:Fn}{a:AH}(h: (Lq K a).map zw=Y 11):∃o n,K.lookup a=Y o/\o.data= .seq #[.none] n:=by let(l,e,c):=Ce.mp h;obtain rfl:=A0p c;show jh e
def sv:Option (Option Ay)->Option AO|some (some<|.str x _)=>Y x|_=>S
def G8{o:Option (Option Ay)}{x:AO}(h:sv o=Y x):∃t,o=Y (Y<|.str x t):=by
 unfold sv at h;split at h;·cases h;show{(_),O}
 cases h
def fcd(K:Fn)(f:AH):Option Int:=match (EH K f).code with
 |.ref c=>Y (c:Int)|_=>S
def Q0{K:Fn}{f c:AH}(h:fcd K f=Y ((c:Nat):Int)): (EH K f).code= .ref c:=by
 unfold fcd at h;split at h;·rename_i c' e;rw[e,Int.ofNat.inj<|AK h]
 cases h
def P0:Ay->Bool|.int _ _=>Z|_=>ge
def A05:Ay->Bool|.bool _=>Z|_=>ge
def A02:Ay->Bool|.str _ _=>Z|_=>ge
def O9:Ay->String->Bool|.type n,m=>n==m|_,_=>ge
def A03:Option Ay->AH->Bool|some (.ref a),b=>a==b|_,_=>ge
noncomputable def hdB(K:Fn)(c T:AH):Bool:=match K.lookup c with
 |some o=>(match o.data with
  |.fields vs=>O9 o.cls "code" &&A03 vs[11]? T&&A02 (vs.getD 18 .none) &&P0 (vs.getD 7 .none) &&A05 (vs.getD 9 .none) &&P0 (vs.getD 10 .none) && !(c==T)|_=>ge)
 |none=>ge
def mH{v:Ay}(h:P0 v=Z):∃i t,v= .int i t:=by cases v <;> first|show{(_),_,rfl}|cases h
def yO{v:Ay}(h:A05 v=Z):∃b,v= .bool b:=by cases v <;> first|show{(_),rfl}|cases h
def yM{v:Ay}(h:A02 v=Z):∃x t,v= .str x t:=by cases v <;> first|show{(_),_,rfl}|cases h
def mG{v:Ay}{n:String}(h:O9 v n=Z):v= .type n:=by cases v with|type m=>rw[show m=n from beq_iff_eq.mp h]|_=>cases h
def yN{v:Option Ay}{a:AH}(h:A03 v a=Z):v=Y (.ref a):=by
 cases v with
 |none=>cases h
 |some v=>cases v with
  |ref b=>rw[show b=a from beq_iff_eq.mp h]|_=>cases h
def C4{K:Fn}{h:CA}{c T:AH}(X:K.In h)(e:hdB K c T=Z):CodeHd h c T:=by
 unfold hdB at e;cases q:K.lookup c with
 |none=>rw[q]at e;cases e
 |some o=>
  rw[q]at e;let(oc,od,dt,sl):=o;cases dt with
  |fields vs=>
   simp only[AB]at e;let((((((e1,e2),e3),e4),e5),e6),j):=e;let(x3,t3,h3):=yM e3;let(U,t4,h4):=mH e4;let(F,h5):=yO e5;let(D,t6,h6):=mH e6;let h2:=yN e2;show{_,vs,x3,t3,U,t4,F,D,t6,X _ _ q,mG e1,O,h2,?_,h3,h4,h5,h6,λz=>?_};·rw[Array.getD_eq_getD_getElem?,h2];rfl
   rw[z]at j;simp at j
  |_=>cases e
def sd(h:CA)(T:AH):Bool:=match h.get? T with
 |some ⟨.none,none,.fields vs,sl⟩=>vs.toList.isEmpty&&sl.toList.isEmpty|_=>ge
def F7{h:CA}{T:AH}(e:sd h T=Z):h.get? T=Y (tabObj #[]):=by
 unfold sd at e;split at e;·rename_i vs sl q;rw[AB]at e;obtain⟨vs⟩:=vs;obtain⟨sl⟩:=sl;obtain rfl:vs=[]:=List.isEmpty_iff.mp e.1;obtain rfl:sl=[]:=List.isEmpty_iff.mp e.2;show q
 cases e
def rA(K:Fn)(bm:AH):Bool:=match K.lookup bm with
 |some o=>(match o.data with
  |.plain=>O9 o.cls "module" && (match o.dict with|some d=>d==OO|none=>ge)|_=>ge)
 |none=>ge
def A0t{K:Fn}{h:CA}{mg:AO->Option Ay}{bm T:AH}(X:K.In h)(e:rA K bm=Z)(g:mg "__builtins__"=Y (.ref bm))(h1:bm≠OO)(h2:bm≠Ca)(h3:bm≠T):h.BuiltinsAt mg T:=by
 unfold rA at e;cases q:K.lookup bm with
 |none=>rw[q]at e;cases e
 |some o=>
  rw[q]at e;let(oc,od,D,sl):=o;cases D with
  |plain=>
   simp only[AB]at e;let(z,j):=e;show{bm,_,g,h1,h2,h3,X _ _ q,mG z,?_,O};cases od with|none=>cases j|some d=>show A3o Y<|beq_iff_eq.mp j
  |_=>cases e
def jW(h:CA){a:AH}:∀l:List Nat,a∉l->(KO l h).lookup a=none:=by
 intro l;induction l with
 |nil=>intro _;rfl
 |cons b l j=>
  intro n;let n1:a≠b:=λz=>n (by rw[z];show Bl);let n2:a∉l:=λz=>n<|Bi _ z;let j:=j n2;unfold KO at j ⊢;rw[Fe];cases q:h.get? b with
  |none=>show j
  |some o=>
   dsimp only[Option.map]
   rw[Fm,beq_false_of_ne n1];show j
end HL
namespace L2
open PySem PySem.Spec PyProof.Rows
section
variable{X:Cx}
def PU:D4 X "str.startswith" (λx xs H Q=>∃z y,x= .str z/\xs=[.str y]/\Q (.bl<|Txt.startswith z y) H):=by intro 0 x xs v us Q I j D h;let(z,y,O,O,q):=h;let(t,O):=j;let(u,O,(t',O)):=CB.one D;show call_gives F.slot_str_startswith (OL _ _ _) F.entry_str_startswith (F.args_str_startswith_2 _ _) (gives_str_startswith z y t t')<|show EP X pZ σ Q (.bool<|Txt.startswith z y) s from{.bl _,H,I,O,q}
def iN:∀{us:List Ay},CB (ys.map V.str) us->StrsAre us ys:=by
 induction ys with
 |nil=>intro us r;rw[EE]at r;cases r;show .nil
 |cons n ns D=>
  intro us r;rw[Ba]at r;cases r with
  |cons z j=>
   let(t,e):=z;subst e;show .cons n t<|D j
def Rp:D4 X "str.join" (λx xs H Q=>∃z p ys,x= .str z/\xs=[.ref p]/\BX X.K H p (ys.map V.str)/\(ys.map (·.length)).sum+ys.length*z.length<=16777216/\Q (.str<|Cj z ys) H):=by intro 0 x xs v us Q I j U h;let(z,p,ys,O,O,hp,hz,q):=h;let(t,O):=j;let(u,O,F):=CB.one U;cases (show u= .ref p from F);let(a1,D,pl,_):=I.list hp;show join_list pl.isList (iN D) hz λt' k=>(show EP X pZ σ Q (.str (Cj z ys) t') {s with toks:=k}from{.str _,H,I.tok _,{(_),O},q})
inductive A0I(x:V)(lo:Option Int)(hi:Option Int)(H:Hp)(Q:VK):Prop|mk (z:_) (_:x= .str z) (_:z.length<=sizeLine) (_:Q (.str<|Cq z lo hi) H)
def A1C:V->Option Int->Option Int->Hp->VK->Prop:=λx lo hi H Q=>A0I x lo hi H Q
def aK(p:IsPart v o):∃l:Option (Int×Tok),v=partValue l/\l.map (·.1)=o:=by cases p with|none=>show{(S),O,O}|int i t=>show{Y (i,t),O,O}
def Oi:SlR X A1C:=by
 intro 0 x v vl vu lo hi sl Q I j hs pl D h;let(z,O,U,q):=h;let(t,O):=j;let(l,O,O):=aK pl;let(u,O,O):=aK D;show{"str",_,F.slot_str_getitem.lookup,OL _ _ _,?_};show wpAny_getItem_str_slice (l:=l) (u:=u) (st:=S) ?_ O<|post_val_or_str {AR (Tn z _ _) U,λt' k=>?_}
 ·show hs
 show{.str _,H,I.tok _,{(_),O},q}
def Its(x:AO):It:={λi _=>i<x.length,λi H v H'=>H'=H/\∃c,x.cps[i]?=Y c/\v= .str {#[c]},λi _=>x.length<=i,ge}
def Nt(x:AO):String:=if x.cps.all (·<128)then "str_ascii_iterator" else "str_iterator"
def dU{P:Bv}{w:BP}{K:Az}{tg:Expr}(x:AO)(t:Tok)(it:AH):kA P w K tg (Its x) [it] it (λi h=>h.IsStrIter it (Nt x) x t i) where
 mem:=by simp
 obj:=λi h st b j=>by
  let e:b=it:=by simpa using j
  subst e;let(o,e,c,d):=st;show{o,e,λv z=>by rw[d]at z;cases z}
 keep:=λi h h' st k=>by
  let(o,e,c,d):=st;show{o,k it (by simp) o e,c,d}
 item:=by
  intro X hP hw hK hc i pZ s σ H E I hf st hg;subst hP hw hK;let hi:i<x.cps.size:=hg;let hx:x.cps[i]?=Y x.cps[i]:=Array.getElem?_eq_getElem hi;let(U,f1,f2,f3,f4,F):=hf it (by simp);let fin:∀h',h'.IsStrIter it (Nt x) x t (i+1)->NP it s.heap h'->∃u,Y (Ma ⟨#[x.cps[i]]⟩ s.toks)=Y u/\Bz (model X.prog X.w) X.A (JH tg (.ref it) u) (λ_ s2=>∃y H',Ck X pZ σ H' s2/\CZ y u/\(Its x).yld i H y H'/\s2.heap.IsStrIter it (Nt x) x t (i+1)/\∀b∈ [it],H' b=S) E {s with heap:=h',toks:=s.toks+1}:=λh' D sb=>by
   let I1:Ck X pZ σ H {s with heap:=h',toks:=s.toks+1}:=I.turned (t':=s.toks+1) (λb o j e=>(sb.2 b j).trans e) U f1 f3 f4 F;let(o,e,c,d):=id D;show{_,O,mL (s:={s with heap:=h',toks:=s.toks+1}) e c d ?_ {.str {#[x.cps[i]]},H,I1,{(_),O},{(O),_,hx,O},D,λb j=>(hf b j).1}};unfold Nt;split <;> decide
  by_cases ha:x.cps.all (·<128)=Z;·let e:Nt x="str_ascii_iterator":=A3n ha;rw[e]at st fin ⊢;show wpAny_pyNext_ascii_item st hx fin
  let e:Nt x="str_iterator":=A3m ha;rw[e]at st fin ⊢;show wpAny_pyNext_wide_item st hx fin
 done:=by
  intro X hP hw hK hc i pZ s σ H E I hf st hg;subst hP hw hK;let hx:x.cps[i]?=none:=Array.getElem?_eq_none hg;let(U,f1,f2,f3,f4,F):=hf it (by simp);let hc:=hc.resolve_right λz=>BL<|show ge=Z from z.1;by_cases ha:x.cps.all (·<128)=Z
  ·let e:Nt x="str_ascii_iterator":=A3n ha;rw[e]at st;show wpAny_pyNext_ascii_end (I.ok.hd hc) st hx λh' eb=>{O,I.turned (t':=s.toks) (λb o j e=>eb b o j e) U f1 f3 f4 F}
  let e:Nt x="str_iterator":=A3m ha;rw[e]at st;show wpAny_pyNext_wide_end (I.ok.hd hc) st hx λh' eb=>{O,I.turned (t':=s.toks) (λb o j e=>eb b o j e) U f1 f3 f4 F}
 self:=λ_ _ _ _ _ st h=>by
  by_cases ha:x.cps.all (·<128)=Z;·let e:Nt x="str_ascii_iterator":=A3n ha;rw[e]at st;show wpAny_pyIter_striter_ascii st h
  let e:Nt x="str_iterator":=A3m ha;rw[e]at st;show wpAny_pyIter_striter_wide st h
inductive A0R(R:It->Hp->Prop)(x:V)(H1:Hp):Prop|mk (z:_) (_:x= .str z) (_:R (Its z) H1)
def A26(tl:TE):TI:=λσ H R=>tl σ H λx H1=>A0R R x H1
def jt{tg l:Expr}{tl:TE}(hl:PE X l tl):PI X tg l (A26 tl):=by
 intro 0 R I h;show DY (hl pZ s σ H _ I h) λv s1 j=>?_;let(x,H1,D,U,q1):=j;let(z,e,q):=q1;subst e;let(t,O):=U;let fp:∀b∈ [↑s1],Ti X pZ H1 b:=λb hb=>by
  let e:b=↑s1:=by simpa using hb
  subst e;show D.fpOk (AU _)<|D.hok.fresh (AU _)
 by_cases ha:z.cps.all (·<128)=Z;·show wpAny_pyIter_ascii ha ?_;show{↑s1,[↑s1],_,_,H1,O,D.kept (t':=s1.toks) λb o e=>AD _ e,dU z t _,{_,Bx _ O,by unfold Nt;rw[A3n ha],O},fp,q}
 let F:z.cps.all (·<128)=false:=by simpa using ha
 show wpAny_pyIter_wide F ?_;show{↑s1,[↑s1],_,_,H1,O,D.kept (t':=s1.toks) λb o e=>AD _ e,dU z t _,{_,Bx _ O,by unfold Nt;rw[A3m ha],O},fp,q}
def ZD:FK X (.type "int") (λxs H Q=>∃z n,xs=[.str z]/\PySem.intText? z=Y n/\z.length<=640/\Q (.int n) H):=by intro 0 xs us Q I r h;let(z,n,O,hn,j,q):=h;let(u,O,(t,O)):=Lo r;show PySem.W.KIN.call_text hn j {.int n,H,I.tok _,{(_),O},q}
end
section
variable{X:Cx}
def wZ{bs:List Bool}:∀{us:List Ay},CB (bs.map V.bl) us->us=bs.map CG:=by
 induction bs with
 |nil=>intro us r;rw[EE]at r;cases r;rfl
 |cons b bs D=>
  intro us r;rw[Ba]at r;cases r with
  |cons z j=>
   cases (show _=CG b from z);rw[D j,Ba]
def qE(bs:List Bool): (Bg bs.length).all (λi=>bs.getD i Z)=bs.all id:=by
 rw[Lf,By,By];constructor;·intro h b j;let(i,hi,e):=KW.mp j;have:=h i<|Dv.mpr hi;rw[Bj,AA hi,Option.getD_some,e]at this;show this
 intro h i hi;rw[Dv]at hi;rw[Bj,AA hi,Option.getD_some];show h _<|OT hi
def Fy(hc:X.calm=Z):FK X (.builtin "all") (λxs H Q=>∃(p:AH) (bs:List Bool),xs=[.ref p]/\H p=Y (.lst<|bs.map V.bl)/\Q (.bl<|bs.all id) H):=by
 intro 0 xs us Q I r h;let(p,bs,O,hp,q):=h;let(u,O,ru):=CB.one r;cases (show u= .ref p from ru);let(a3,rv,pl,_):=I.list<|BX.of hp;let e:=wZ rv;subst e;let F:p≠↑s:=BH<|I.hok.lt hp;show call_all_walk<|Qc pl.isList ?_;show{↑s,_,_,_,_,_,λi=>bs.getD i Z,O,Walks.list (A:=X.A.in1) (I.ok.hd hc) ↑s p F _,{{_,Bx _ O,O,O},pl.isList.push _},λi v s2 Q2 E2 hv hq=>?_,λh' tk hk=>?_}
 ·let j: (bs.map CG)[i]?=Y v:=by simpa using hv
  rw[Be]at j;cases U:bs[i]? with
  |none=>rw[U]at j;cases j
  |some b=>
   rw[U]at j;cases j;let D:Q2 (bs.getD i Z) s2:=hq;rw[show bs.getD i Z=b by rw[Bj,U];rfl]at D;show Gn D
 show{.bl<|bs.all id,H,I.kept (t':=tk) λb o e=>hk b o (λz=>?_)<|AD _ e,?_,q}
 ·have:b=↑s:=by simpa using z
  show DO _<|this ▸ Bs e
 change CG _=CG _;rw[<-qE];simp
def nV(l:List (AO×Tok)):CB ((l.map (·.1)).map V.str) (strValues l):=by induction l with|nil=>show .nil|cons p l j=>show .cons {(_),O} j
def uB:D4 X "str.split" (λx xs H Q=>∃z y,x= .str z/\xs=[.str y]/\(y.length==0)=ge/\z.length<=sizeLine/\(HS z y).length<=sizeLine/\(QG z (Fi z y 0 z.length<|z.length+1) y.length).length<=sizeLine/\∀p,H p=S->Q (.ref p) (upd H p<|.lst ((HS z y).map V.str))):=by
 intro 0 x xs v us Q I rx rs h;let(z,y,O,O,U,hz,j,D,q):=h;let(t,O):=rx;let(u,O,(t',O)):=CB.one rs;let fin:∀(l:List (AO×Tok)) (tk:Nat),l.map (·.1)=HS z y->EP X pZ σ Q (.ref ↑s) {s with heap:=s.heap.push {cls:=.type "list",data:=.seq (strValues l).toArray},toks:=tk}:=λl tk e=>
  {.ref ↑s,_,I.lnew (ys:=(l.map (·.1)).map V.str) (nV l) (by rw[e,Aw];show j),O,by rw[e];show q _ I.fresh}
 cases h1: (decide (z.length<y.length) ||decide (Builtin.Str.strKind z<Builtin.Str.strKind y))
 ·cases hf: (Fi z y 0 z.length<|z.length+1).isEmpty
  ·show JV F.slot_str_split (OL _ _ _) F.entry_str_split (F.args_str_split_2 _ _) (meets_str_split_sep z y t t' h1 U hf hz D) ?_;change wants (EP X pZ σ Q) X.xe _ {s with toks:=_,heap:=s.heap.push {cls:=.type "list",data:=.seq (strsFrom s.toks<|QG z (Fi z y 0 z.length<|z.length+1) y.length).toArray}};rw[strsFrom_eq];show fin (numbered s.toks _) _<|(numbered_texts _ _).trans ((A3m<|ne_true_of_eq_false h1).trans<|A3m (ne_true_of_eq_false hf)).symm
  show JV F.slot_str_split (OL _ _ _) F.entry_str_split (F.args_str_split_2 _ _) (meets_str_split_not_found z y t t' h1 U hf)<|fin [(z,t)] s.toks ((A3m<|ne_true_of_eq_false h1).trans<|A3n hf).symm
 show JV F.slot_str_split (OL _ _ _) F.entry_str_split (F.args_str_split_2 _ _) (meets_str_split_cannot_occur z y t t' h1)<|fin [(z,t)] s.toks (A3n h1).symm
namespace R8
end R8
end
end L2
namespace L2
open PySem PySem.Spec PyProof.Rows
section
variable{X:Cx}{pZ:List (AH×Obj)}{σ:St}{H:Hp}{s:AJ}{h':CA}
def Ck.turnedL{t':Nat}{fp:List AH}(I:Ck X pZ σ H s)(k:∀b o,b∉fp->s.heap.get? b=Y o->h'.get? b=Y o)(hf:∀b∈fp,Ti X pZ H b):Ck X pZ σ H {s with heap:=h',toks:=t'}:=by
 let j:∀b u,H b=Y u->b∉fp:=λb u e z=>by rw[(hf b z).1]at e;cases e
 show I.step (g':=s.gens) (d':=s.drawn) (ch:=fp) (λb F=>?_) (λb o _ _ hc e _=>k b o hc e) (λb o _ _ hc e _=>{o.slots,k b o hc e}) (λ_ _ _ _ n=>n) (λb o hc e=>{o,k b o hc e}) (λ_ _ e=>e) (λ_ _ _ e=>e) (λb ps e=>{#[],by rw[e];simp}) (λm hm=>?_) (λb u e=>?_) I.bare;·let(f0,f1,f2,f3,f4,U):=hf b F;show{(f3),f1,f4,U}
 ·let(o,es,ep,D,r):=hm;show{o,es,ep,k _ o (λz=>(hf _ z).2.1 O) D,r}
 show(I.hok b u e).stay (λc v hc q=>k c v ?_ q) (λ_ q=>q) λ_ _ q=>q;rcases hc with z|z;·rw[z];show j b u e
 show j c _ z
end
section
variable{X:Cx}
def wY{j:List String}:∀{us:List Ay},CB (j.map V.ty) us->us=j.map DP:=by
 induction j with
 |nil=>intro us r;rw[EE]at r;cases r;rfl
 |cons b bs F=>
  intro us r;rw[Ba]at r;cases r with
  |cons D z=>
   cases (show _=DP b from D);rw[F z,Ba]
def WO(hv:∀us,CB cs us->us=a1)(I:Ck X pZ σ H s)(D:CZ x u)(ty:IV X.K H x t)(hp:H p=Y (.tup cs))(e:EI X.K t a1=Y b)(h:∀tk,Q (.bool b) {s with toks:=tk}):Bz (model X.prog X.w) A (call (.builtin "isinstance") [u,.ref p]) Q E s:=by
 let(_,U,rv,o,ho,hc,n,hd):=(show Dk X.prog X.w H s.heap p (.tup cs)from I.hok p _ hp);let ei:=hv _ rv;subst ei;let j:s.heap.get? p=Y ⟨.type "tuple",o.dict,.seq U.toArray n,o.slots⟩:=by rw[ho,<-hc,<-hd]
 cases ty with
 |non=>cases (show u=CT from D);show DQ PySem.W.kitx_none I.kIn Du j e (λz=>nomatch z) h|bl y=>cases (show u=CG y from D);show DQ PySem.W.kitx_bool I.kIn Du j e (λz=>nomatch z) h|int i=>let(t,q):=(show ∃t,u=FM i t from D);cases q;show DQ PySem.W.kitx_int I.kIn Du j e (λz=>nomatch z) h|str y=>let(t,q):=(show ∃t,u=Ma y t from D);cases q;show DQ PySem.W.kitx_str I.kIn Du j e (λz=>nomatch z) h|flt y=>let(t,q):=(show ∃t,u=XM y t from D);cases q;show DQ PySem.W.kitx_float I.kIn Du j e (λz=>nomatch z) h
 |@lst a xs F=>
  cases (show u=Value.ref a from D);let(_,_,n,_,h1):=(show Dk X.prog X.w H s.heap a (.lst xs)from I.hok a _ F);show DQ ND I.kIn {(_),h1,O} j e (λz=>nomatch z) h
 |@frz a ob xs F=>
  cases (show u=Value.ref a from D);let(_,_,_,n,_,h1):=(show Dk X.prog X.w H s.heap a (.frz ob<|.lst xs)from I.hok a _ F);show DQ ND I.kIn {(_),h1,O} j e (λz=>nomatch z) h
 |@tup a xs F=>
  cases (show u=Value.ref a from D);let(_,_,_,p):=(show Dk X.prog X.w H s.heap a (.tup xs)from I.hok a _ F);let(o,h1,h2,_):=p;show DQ PySem.W.kitx_tuple I.kIn {(o),h1,h2} j e (λz=>nomatch z) h
 |@dK a kvs F=>
  cases (show u=Value.ref a from D);let(_,_,vs,_,p):=(show Dk X.prog X.w H s.heap a (.dK kvs)from I.hok a _ F);let(o,es,ep,h1,h2,_):=p;show DQ NE I.kIn {(o),h1,h2.1} j e (λz=>nomatch z) h
 |@dT a kvs F=>
  cases (show u=Value.ref a from D);let(_,_,xs,_,o,es,ep,h1,h2,_):=(show Dk X.prog X.w H s.heap a (.dT kvs)from I.hok a _ F);show DQ NE I.kIn {(o),h1,h2.1} j e (λz=>nomatch z) h
 |@ins a C dx fs F cl ha hn htk hm=>
  cases (show u=Value.ref a from D);let(mA,Oq,_):=Pj I.hok F;let(od,J,_):=Oq.look;show DQ (PySem.W.kitx_own (cl.get _) cl.hd ha hn htk hm) I.kIn J j e (λz=>nomatch z) h
def RK(K:Az)(U:X.K=K):FK X (.builtin "isinstance") (λxs H Q=>∃(x:V) (p:AH) (t:Ay) (b:Bool) (j:List String),xs=[x,.ref p]/\H p=Y (.tup<|j.map V.ty)/\IV K H x t/\EI K t (j.map DP)=Y b/\Q (.bl b) H):=by subst U;intro 0 xs us Q I r h;let(x,p,t,b,j,O,hp,ty,e,q):=h;let(u,z,O,D,F):=CB.two r;cases (show z= .ref p from F);show WO (λus r=>wY r) I D ty hp e λtk=>{.bl b,H,I.tok tk,O,q}
def dQ{as:List AH}:∀{us:List Ay},CB (as.map V.ref) us->us=as.map Value.ref:=by
 induction as with
 |nil=>intro us r;rw[EE]at r;cases r;rfl
 |cons b bs D=>
  intro us r;rw[Ba]at r;cases r with
  |cons z j=>
   cases (show _=Value.ref b from z);rw[D j,Ba]
def RL(K:Az)(F:X.K=K):FK X (.builtin "isinstance") (λxs H Q=>∃(x:V) (p:AH) (t:Ay) (b:Bool) (as:List AH),xs=[x,.ref p]/\H p=Y (.tup<|as.map V.ref)/\IV K H x t/\EI K t (as.map Value.ref)=Y b/\Q (.bl b) H):=by subst F;intro 0 xs us Q I r h;let(x,p,t,b,as,O,hp,ty,e,q):=h;let(u,j,O,z,D):=CB.two r;cases (show j= .ref p from D);show WO (λus r=>dQ r) I z ty hp e λtk=>{.bl b,H,I.tok tk,O,q}
end
section
variable{X:Cx}
def Qa(hc:X.calm=Z):FK X (.builtin "sum") (λxs H Q=>∃(p:AH) (ns:List Int),xs=[.ref p]/\H p=Y (.lst<|ns.map V.int)/\(∀j,j<ns.length->InLong (ns.getD j 0)/\InLong (preSum (λi=>ns.getD i 0)<|j+1))/\Q (.int<|preSum (λi=>ns.getD i 0) ns.length) H):=by
 intro 0 xs us Q I r h;let(p,ns,O,hp,hL,q):=h;let(u,O,ru):=CB.one r;cases (show u= .ref p from ru);let(D,rv,pl,_):=I.list<|BX.of hp;let F:=I.hok.lt hp;let a1:p≠↑s:=BH F;let hl:D.length=ns.length:=by rw[<-rv.length,Aw]
 show call_sum_walk<|Qc pl.isList ?_;show{↑s,_,_,_,_,_,λi=>ns.getD i 0,O,Walks.list (A:=X.A.in1) (I.ok.hd hc) ↑s p a1 D.toArray,{{_,Bx _ O,O,O},pl.isList.push _},λb hb=>?_,λi v hv=>?_,λj hj=>hL j (by simpa [hl]using hj),λh' tk t' hk=>?_}
 ·rw[KY];rcases AM.mp hb with e|e
  ·rw[e];show Ig _
  rw[AN.mp e];show JF F
 ·let U:D[i]?=Y v:=by simpa using hv
  let hi:i<ns.length:=by rw[<-hl];show(AQ.mp U).1
  let(u,hu,t,e):=rv.get (show(ns.map V.int)[i]?=Y (V.int<|ns.getD i 0)by rw[Be,Bj,AA hi];rfl);rw[U]at hu;cases hu;show{(t),e}
 let en:D.toArray.size=ns.length:=by simp[hl]
 rw[en];show⟨.int _,H,I.kept (t':=tk) λb o e=>hk b o (λz=>by
  have:b=↑s:=by simpa using z
  show DO _<|this ▸ Bs e)<|AD _ e,{(_),O},q⟩
def D7(x:AO):It:={λi _=>i<x.length,λi H v H'=>∃T c,v= .ref T/\H T=S/\H'=upd H T (.tup [.int i,.str {#[c]}])/\x.cps[i]?=Y c,λi _=>x.length=i,ge}
def nY{P:Bv}{w:BP}{K:Az}{U:List Expr}{x1}{pos:IZ}(x:AO)(t:Tok)(it e:Nat)(he:e=it+1):
  kA P w K (.Tuple U x1 pos) (D7 x) [it,e] e (λi h=>(∃old,IsEnum h e it (i:Nat) old)/\h.IsStrIter it (MB x) x t i) where
 mem:=by simp
 obj:=λi h st c hc=>by
  let((old,s1),s2):=st;simp only[AM,Cw,or_false]at hc;rcases hc with rfl|rfl;·let(o,e,c,d):=s2;show{o,e,λv z=>by rw[d]at z;cases z}
  show{_,s1,λv z=>by cases z}
 keep:=λi h h' st k=>by
  let((old,s1),o,q,c,d):=st;show{{old,k e (by simp) _ s1},o,k it (by simp) o q,c,d}
 item:=by
  intro X hP hw hK hc i pZ s σ H E I hf st hg;subst hP hw hK;let((old,s1),s2):=st;let hc:=hc.resolve_right λz=>BL<|show ge=Z from z.1;let a2:e≠it:=by rw[he];show Nat.succ_ne_self it
  let b0:i<x.length:=hg;let fin:∀(Pr:Nat->Ay->Prop) (St:Nat->CA->Prop),Draws X.prog X.w X.A.in1 it [it] x.length Pr St->St i s.heap->(∀h,St (i+1) h->h.IsStrIter it (MB x) x t (i+1))->(∀v,Pr i v->∃c tk,x.cps[i]?=Y c/\v= .str ⟨#[c]⟩ tk)->Bz (model X.prog X.w) X.A (pyNext<|.ref e) (λr s1=>∃u,r=Y u/\Bz (model X.prog X.w) X.A (JH (.Tuple U x1 pos) (.ref e) u) (λ_ s2=>∃y H',Ck X pZ σ H' s2/\CZ y u/\(D7 x).yld i H y H'/\((∃old,IsEnum s2.heap e it ((i+1:Nat):Int) old)/\s2.heap.IsStrIter it (MB x) x t (i+1))/\∀b∈ [it,e],H' b=S) E s1) E s:=λPr St D a9 hs hv=>by
   show wpAny_pyNext_enum_itemD D s1 a9 b0 a2 (by simpa using a2) λv h' tk hP z1 z2 z3 z4 z5=>?_;let(c,a1,b3,O):=hv v hP;show{_,O,wpAny_letOwnedTupleGo_enum z1 λg2 y1 sb=>?_};let a5:e<↑s:=Bs s1;let b1:it<↑s:=by let(o,q,_):=s2;show Bs q
   let nz:↑s≠e:=JD a5;let I1:Ck X pZ σ (upd H ↑s<|.tup [.int i,.str ⟨#[c]⟩]) {s with heap:=s.heap.push {cls:=.type "tuple",data:=.seq #[.int i tk,.str ⟨#[c]⟩ a1]},toks:=tk+1}:=I.laid (t':=tk+1) (λb u q=>AD _ q) (AU _) {by rw[Ec];simp,[.int i tk,.str {#[c]} a1],.cons {(_),O}<|.cons {(_),O} .nil,{_,Bx _ O,O,_,O}};let b2:∀b∈ [it,e],b<↑s:=λb j=>by
    rcases AM.mp j with q|q;·rw[q];show b1
    rw[AN.mp q];show a5
   let a4:∀b∈ [it,e],Ti X pZ (upd H ↑s<|.tup [.int i,.str ⟨#[c]⟩]) b:=λb j=>by
    let(f0,f1):=hf b j;show{by rw[AT (BH<|b2 b j)];show f0,f1}
   let I2:Ck X pZ σ (upd H ↑s<|.tup [.int i,.str ⟨#[c]⟩]) {s with heap:=g2,toks:=tk+1}:=Ck.turnedL (s:={s with heap:=s.heap.push {cls:=.type "tuple",data:=.seq #[.int i tk,.str {#[c]} a1]},toks:=tk+1}) (t':=tk+1) I1 (λb o j q=>?_) a4;·show{.ref ↑s,_,I2,O,{↑s,c,O,I.fresh,O,b3},{{(_),y1},?_},λb j=>(a4 b j).1};let(o,q,r1,r2):=hs _ z2;show{o,(sb.2 _<|CI a2).trans q,r1,r2}
   let b4:b≠it:=λz=>j (by simp[z]);let a7:b≠e:=λz=>j (by simp[z]);rw[sb.2 _ a7];by_cases a6:b=↑s;·subst a6;rw[Bx _ O]at q;rw[z3];show q
   show z5 _ _ a7 b4<|(Qh _ _ _ a6).symm.trans q
  by_cases ha:x.cps.all (·<128)=Z;·let F:MB x="str_ascii_iterator":=A3n ha;show fin _ _ (Draws.strAscii (A:=X.A.in1) (I.ok.hd hc) it x t) (by rw[F]at s2;show s2) (λh q=>by rw[F];show q) λv hv=>hv
  let F:MB x="str_iterator":=A3m ha;show fin _ _ (Draws.strWide (A:=X.A.in1) (I.ok.hd hc) it x t) (by rw[F]at s2;show s2) (λh q=>by rw[F];show q) λv hv=>hv
 done:=by
  intro X hP hw hK hc i pZ s σ H E I hf st hg;subst hP hw hK;let((old,s1),s2):=st;let hc:=hc.resolve_right λz=>BL<|show ge=Z from z.1;let hi:x.cps.size=i:=hg;subst hi;let fin:∀h',Heap.ExtBut it s.heap h'->(S:Option Ay)=S/\Ck X pZ σ H {s with heap:=h'}:=λh' eb=>
   {O,Ck.turnedL (t':=s.toks) I (λb o j q=>eb b o (λz=>j<|by simp[z]) q) hf}
  by_cases ha:x.cps.all (·<128)=Z;·let F:MB x="str_ascii_iterator":=A3n ha;show Tj (Draws.strAscii (A:=X.A.in1) (I.ok.hd hc) it x t) s1 (by rw[F]at s2;show s2) fin
  let F:MB x="str_iterator":=A3m ha;show Tj (Draws.strWide (A:=X.A.in1) (I.ok.hd hc) it x t) s1 (by rw[F]at s2;show s2) fin
 self:=λ_ _ _ _ _ st h=>by
  let((old,s1),s2):=st;show Qd s1 h
def A0a(te:TE):TI:=λσ H R=>te σ H λv H1=>∃z,v= .str z/\R (D7 z) H1
def yb{D:List Expr}{x1}{tpos:IZ}{F:Expr}{te:TE}{p pos:IZ}(hg:Gl X "enumerate")(hm:X.mg "enumerate"=S)(he:PE X F te)(hs: ~~~(Br [F] X.env=(ge,Dh F X.env)::Br [] X.env))(a2: ~~~((DK pos<|Br [] X.env).any (·.1)=false)):PI X (.Tuple D x1 tpos) (.Call (.Name "enumerate" p) [F] [] pos) (A0a te):=by
 intro 0 R I h;show CF<|LR I hg hm (u:=.type "enumerate") Aa ?_ Aa Aa;show DW (DY (Bc he FU hs pos pZ s σ H (λxs H1=>match xs with|[v]=>∃z,v= .str z/\R (D7 z) H1|_=>False) I h) λus s1 a3=>?_) hs a2;let(vs,H1,I1,U,q1):=a3
 match vs,q1,U with
 |[v],q1,U=>
 let(z,O,q):=q1;let(u,O,t,O):=CB.one U;show call_enumerate_str λh' z1 z2 z3 z4=>?_;let I2:Ck X pZ σ H1 {s1 with heap:=h',toks:=s1.toks}:=I1.kept (t':=s1.toks) z4;show Qd z1 ?_;show{↑s1+1,_,_,D7 z,H1,O,I2,nY z t ↑s1 _ O,{{(_),z1},z2},λc hc=>?_,q};let j:↑s1<=c:=by
  rcases AM.mp hc with q|q;·rw[q];show AU _
  rw[AN.mp q];show Da _
 show I1.fpOk j<|I1.hok.fresh j
end
section
variable{X:Cx}{tg:Expr}
end
structure A1g(X:Cx)(scope:Scope)(x0:AO):Prop where
 kind:scope.kind= .function
 clos:closureFor scope X.env=ID (Uz scope.names X.env)
 cell1:∀y∈scope.names,y.2= .cell->y.1=x0
 notf:∀y∈scope.names,y.2= .free->y.1≠x0
 own:∀n cl,cellsFrom n scope.names cl=(x0,n)::cl
 psh:∀h:CA,pushCells h scope.names=h.push {cls:=.type "cell",data:=.cell S}
 names:∀y∈scope.names,y.2= .local->scope.names.lookup y.1=Y .local
 free:∀y∈scope.names,y.2= .free->(X.env.cells.lookup y.1).isSome=Z
section
variable{x0:AO}{X:Cx}{scope:Scope}{ts xs:List AO}{js:List Nat}{target iter elt:Expr}{ifs:List Expr}{wi:TI}{g:TG}{tif:TT}{te:TE}{pos:IZ}
end
def kM(K:Az)(l:AH):It:={λi H=>∃xs x,BX K H l xs/\xs[i]?=Y x,λi H v H'=>∃T x,v= .ref T/\H T=S/\H'=upd H T (.tup [.int i,x])/\∀xs,BX K H l xs->xs[i]?=Y x,λi H=>∃xs,BX K H l xs/\xs.length=i,ge}
def iJ{P:Bv}{w:BP}{K:Az}{a8:List Expr}{x1}{pos:IZ}(l it e:Nat)(he:e=it+1):
  kA P w K (.Tuple a8 x1 pos) (kM K l) [it,e] e (λi h=>(∃old,IsEnum h e it (i:Nat) old)/\h.IsListIter it l i) where
 mem:=by simp
 obj:=λi h st c hc=>by
  let((old,s1),s2):=st;simp only[AM,Cw,or_false]at hc;rcases hc with rfl|rfl;·let(o,e,c,d):=s2;show{o,e,λv z=>by rw[d]at z;cases z}
  show{_,s1,λv z=>by cases z}
 keep:=λi h h' st k=>by
  let((old,s1),s2):=st;show{{old,k e (by simp) _ s1},s2.at λo e=>k it (by simp) o e}
 item:=by
  intro X hP hw hK hc i pZ s σ H E I hf st hg;subst hP hw hK;let((old,s1),s2):=st;let hc:=hc.resolve_right λz=>BL<|show ge=Z from z.1;let a2:e≠it:=by rw[he];show Nat.succ_ne_self it
  let(xs,x,hq,hx):=hg;let(j,rv,p,hz):=I.list hq;let(u,hu,ru):=rv.get hx;let a1:l≠it:=λz=>by
   let(o,e1,c1,_):=s2;let(o2,U,D,_):=p.isList;rw[z,e1]at U;cases U;rw[c1]at D;injection D with D;show A3p D Aa
  let b5:e≠l:=λz=>by
   let(o2,U,D,_):=p.isList;rw[<-z,show s.heap.get? e=_ from s1]at U;cases U;injection D with D;show A3p D Aa
  let b2:i<j.toArray.size:=by rw[Bu];show(AQ.mp hu).1
  show wpAny_pyNext_enum_itemD (Draws.list (A:=X.A.in1) (I.ok.hd hc) it l a1 j.toArray) s1 {(s2),p.isList} b2 a2 (by simp[a2,b5]) λv h' tk hP z1 z2 z3 z4 z5=>?_;let b1:v=u:=by
   let h1:j[i]?=Y v:=by simpa using hP
   rw[hu]at h1;show(AK h1).symm
  subst b1;show{_,O,wpAny_letOwnedTupleGo_enum z1 λg2 y1 sb=>?_};let a4:e<↑s:=Bs s1;let b3:it<↑s:=by let(o,q,_):=s2;show Bs q
  let I1:Ck X pZ σ (upd H ↑s<|.tup [.int i,x]) {s with heap:=s.heap.push {cls:=.type "tuple",data:=.seq #[.int i tk,v]},toks:=tk+1}:=I.laid (t':=tk+1) (λb u q=>AD _ q) (AU _) {by rw[Ec];simp,[.int i tk,v],.cons {(_),O}<|.cons ru .nil,{_,Bx _ O,O,_,O}};let b4:∀b∈ [it,e],b<↑s:=λb F=>by
   rcases AM.mp F with q|q;·rw[q];show b3
   rw[AN.mp q];show a4
  let a3:∀b∈ [it,e],Ti X pZ (upd H ↑s<|.tup [.int i,x]) b:=λb F=>by
   let(f0,f1):=hf b F;show{by rw[AT (BH<|b4 b F)];show f0,f1}
  let I2:Ck X pZ σ (upd H ↑s<|.tup [.int i,x]) {s with heap:=g2,toks:=tk+1}:=Ck.turnedL (s:={s with heap:=s.heap.push {cls:=.type "tuple",data:=.seq #[.int i tk,v]},toks:=tk+1}) (t':=tk+1) I1 (λb o F q=>?_) a3;·show{.ref ↑s,_,I2,O,{↑s,x,O,I.fresh,O,λys hy=>by rw[I.list_inj hy hq];show hx},{{(_),y1},?_},λb F=>(a3 b F).1};show z2.1.at λo q=>(sb.2 _<|CI a2).trans q
  let b6:b≠it:=λz=>F (by simp[z]);let a6:b≠e:=λz=>F (by simp[z]);rw[sb.2 _ a6];by_cases a5:b=↑s;·subst a5;rw[Bx _ O]at q;rw[z3];show q
  show z5 _ _ a6 b6 ((Qh _ _ _ a5).symm.trans q)
 done:=by
  intro X hP hw hK hc i pZ s σ H E I hf st hg;subst hP hw hK;let((old,s1),s2):=st;let hc:=hc.resolve_right λz=>BL<|show ge=Z from z.1;let(xs,hq,hi):=hg;let(j,rv,p,hz):=I.list hq;let hl:=rv.length;let hn:j.toArray.size=i:=by rw[Bu];lia
  let a1:l≠it:=λz=>by
   let(o,e1,c1,_):=s2;let(o2,U,D,_):=p.isList;rw[z,e1]at U;cases U;rw[c1]at D;injection D with D;show A3p D Aa
  subst hn;show Tj (Draws.list (A:=X.A.in1) (I.ok.hd hc) it l a1 j.toArray) s1 {(s2),p.isList} λh' eb=>{O,Ck.turnedL (t':=s.toks) I (λb o F q=>eb b o (λz=>F<|by simp[z]) q) hf}
 self:=λ_ _ _ _ _ st h=>by
  let((old,s1),s2):=st;show Qd s1 h
section
variable{X:Cx}
def P5(K:Az)(te:TE):TI:=λσ H R=>te σ H λv H1=>∃l,v= .ref l/\(∃xs,BX K H1 l xs)/\R (kM K l) H1
def Wb{D:List Expr}{x1}{tpos:IZ}{F:Expr}{te:TE}{p pos:IZ}(hg:Gl X "enumerate")(hm:X.mg "enumerate"=S)(he:PE X F te)(hs: ~~~(Br [F] X.env=(ge,Dh F X.env)::Br [] X.env))(a3: ~~~((DK pos<|Br [] X.env).any (·.1)=false)):PI X (.Tuple D x1 tpos) (.Call (.Name "enumerate" p) [F] [] pos) (P5 X.K te):=by
 intro 0 R I h;show CF<|LR I hg hm (u:=.type "enumerate") Aa ?_ Aa Aa;show DW (DY (Bc he FU hs pos pZ s σ H (λxs H1=>match xs with|[v]=>∃l,v= .ref l/\(∃xs,BX X.K H1 l xs)/\R (kM X.K l) H1|_=>False) I h) λus s1 j=>?_) hs a3;let(vs,H1,U,r1,q1):=j
 match vs,q1,r1 with
 |[v],q1,r1=>
 let(l,O,(xs,hq),q):=q1;let(u,O,ru):=CB.one r1;cases (show u= .ref l from ru);let(a8,rv,pl,hz):=U.list hq;show call_enumerate_list pl.isList λh' z1 z2 z3 z4=>?_;let I2:Ck X pZ σ H1 {s1 with heap:=h',toks:=s1.toks}:=U.kept (t':=s1.toks) z4;show Qd z1 ?_;show{↑s1+1,_,_,kM X.K l,H1,O,I2,iJ l ↑s1 _ O,{{(_),z1},z2},λc hc=>?_,q};let z:↑s1<=c:=by
  rcases AM.mp hc with q|q;·rw[q];show AU _
  rw[AN.mp q];show Da _
 show U.fpOk z<|U.hok.fresh z
end
section
variable{X:Cx}
end
structure Jk(P:Bv)(w:BP)(K:Az)(mg:AO->Option Ay)(base:CA)(k:Nat)(m:AO)(C:AH)(sp:Sp):Prop where
 c:RT K C
 ex:∃f fd ps,qJ K C m f/\EY P w K mg base ZM k f fd ps sp/\EB K fd ps []
section
variable{X:Cx}{k:Nat}{m:AO}{pos apos:IZ}{e o:Expr}{es:List Expr}{ta:TE}{t:TA}
inductive zK(P:Bv)(w:BP)(K:Az)(mg:AO->Option Ay)(base:CA)(k:Nat)(m:AO)(t:TA)(σ:St)(Q:VK)(x:V)(H1:Hp):Prop|mk (a C dx fs sp:_) (_:x= .ref a) (_:H1 a=some (.ins C dx fs)) (_:fs.lookup m=none) (_:Jk P w K mg base k m C sp) (_:t σ H1 λvs H2=>sp (x::vs) H2 Q E0)
def sh(P:Bv)(w:BP)(K:Az)(mg:AO->Option Ay)(base:CA)(k:Nat)(m:AO)(ta:TE)(t:TA):TE:=λσ H Q=>ta σ H λx H1=>zK P w K mg base k m t σ Q x H1
def Wc{P:Bv}{w:BP}{K:Az}{mg:AO->Option Ay}{base:CA}(hP:X.prog=P)(hw:X.w=w)(hK:X.K=K)(hg:X.mg=mg)(hB:X.base=base){pl:Sem Bool}(he:PE X o ta)(hr:EX k X.A)(hx:JT ZM X E0)(ha:PA X (e::es) t)(U: ~~~(Br (e::es) X.env=(ge,Dh e X.env)::Br es X.env))(a1: ~~~((DK pos<|Br es X.env).any (·.1)=false))(ht:Dh (.Call (.Attribute o m apos) (e::es) [] pos) X.env=(do
   let ov <-Dh o X.env
   standAt apos.atName
   let (f,first) <-holding [ov] (RW ov m pl)
   callWith pos f first (DK pos<|Br (e::es) X.env) (ME pos<|HC [] X.env)):=by rfl):
  PE X (.Call (.Attribute o m apos) (e::es) [] pos) (sh P w K mg base k m ta t):=by
 subst hP hw hK hg hB;intro 0 Q I h;show Hv (pl:=pl) (DY (he pZ s σ H _ I h) λu s1 z=>?_) ht;let(x,H1,I1,rx,a,C,dx,fs,sp,ex,ea,l,D,q):=z;subst ex;obtain rfl:u=Value.ref a:=rx;let(f,fd,ps,hm,F,hb):=D.ex;show Nm I1 ea D.c hm l ?_;show FA (first:=[.ref a]) (h₀:=X.base) I.ok.mod.kin hm.kp (DY (ha pos pZ s1 σ H1 _ I1 q) λus s2 j=>?_) U a1
 let(vs,H2,I2,r,q2):=j;show{I2.kIn,?_};show SA (us:=.ref a::us) (vs:=.ref a::vs) (dvs:=[]) (ds:=[]) F hr hb .nil hx I2 (.cons O r) (by rw[BE];show q2)
def Fq{P:Bv}{w:BP}{K:Az}{mg:AO->Option Ay}{base:CA}(hP:X.prog=P)(hw:X.w=w)(hK:X.K=K)(hg:X.mg=mg)(hB:X.base=base){pl:Sem Bool}(he:PE X o ta)(hr:EX k X.A)(hx:JT ZM X E0)(ht:Dh (.Call (.Attribute o m apos) [] [] pos) X.env=(do
   let U <-Dh o X.env
   standAt apos.atName
   let (f,first) <-holding [U] (RW U m pl)
   callWith pos f first (DK pos<|Br [] X.env) (ME pos<|HC [] X.env)):=by rfl):
  PE X (.Call (.Attribute o m apos) [] [] pos) (sh P w K mg base k m ta Yw):=by subst hP hw hK hg hB;intro 0 Q I h;show Hv (pl:=pl) (DY (he pZ s σ H _ I h) λu s1 j=>?_) ht;let(x,H1,z,rx,a,C,dx,fs,sp,ex,ea,l,D,q):=j;subst ex;obtain rfl:u=Value.ref a:=rx;let(f,fd,ps,hm,F,hb):=D.ex;show Nm z ea D.c hm l ?_;show LC (first:=[.ref a]) z.kIn hm.kp<|SA (us:=[.ref a]) (vs:=[.ref a]) (dvs:=[]) (ds:=[]) F hr hb .nil hx z (.cons O .nil) q
def G1(C:AH):TE:=λ_ H Q=>∀x dx,H x=S->H dx=S->dx≠x->Q (.ref x) (upd (upd H dx<|.own x) x<|.ins C dx [])
def We(makes:Qf X.K C=Z)(init:CM X.K (.ref C) "__init__"=Y (Y<|.builtin "object.__init__"))(kp:EJ X.K (.ref C)=Z)(hg:Gl X x)(hm:X.mg x=Y (.ref C))(j:↑((x==("__debug__" :AO))=false)):PE X (.Call (.Name x p) [] [] pos) (G1 C):=by
 intro 0 Q I h;show CF<|IK I hg hm ?_ j;show LC I.kIn kp<|GD ?_;show pD I.kIn makes init (λself=>PySem.W.Looks.of_pure<|PySem.W.oi_bind self) ?_;let F: ((s.heap.push CL).push<|CU C ↑s).get? (↑s+1)=Y (CU C ↑s):=by
  have:=Bx (s.heap.push CL) (o:=CU C ↑s) O
  rwa [KY]at this
 let D:PySem.W.Looks (model X.prog X.w) ((s.heap.push CL).push<|CU C ↑s) (typeOf<|.ref (↑s+1)) (.ref C):=(PySem.W.Looks.ld F).andThen .now;let z:PySem.W.Looks (model X.prog X.w) ((s.heap.push CL).push<|CU C ↑s) (ON (.ref<|↑s+1)<|.type "object") true:=D.andThen<|(ZN (M:=model X.prog X.w) I.kIn makes).top.keeps λb o e=>AD _<|AD _ e;show Gp PySem.W.oi_plain PySem.W.entry_oi<|@UH (model X.prog X.w) _ _ _ "object.__init__" "object" "__init__" (.ref<|↑s+1) [] [] _ PySem.W.oi_kind PySem.W.oi_split z (PySem.W.oi_args<|.ref (↑s+1)) ?_;rw[PySem.W.oi_run];show Bf<|And.intro O {.ref<|↑s+1,_,(Ck.made (C:=C) I),O,(h (↑s+1) ↑s (I.hok.fresh<|Da _) (I.hok.fresh<|AU _)<|BH (Ig _))}
def cO:FK X (.type "str") (λxs H Q=>∃z,xs=[.str z]/\Q (.str z) H):=by intro 0 xs us Q I r h;let(z,O,q):=h;let(u,O,t,O):=Lo r;show PySem.P.str_of_str {.str _,H,I,{(_),O},q}
end
structure Wk(J:It)(H1:Hp)(xs:List V):Prop where
 go:∀H i,Bd H1 H->i<xs.length->J.go i H
 stop:∀H i,Bd H1 H->i=xs.length->J.stop i H
 yld:∀H i x H',Bd H1 H->i<xs.length->J.yld i H x H'->H'=H/\xs[i]?=Y x
def Wk.list{K:Az}{H1:Hp}{l:AH}{xs:List V}(h:BX K H1 l xs):Wk (T9 K l) H1 xs where
 go:=λH i s hi=>{_,xs[i],s.seq h,AA hi}
 stop:=λH i s hi=>{_,s.seq h,()}
 yld:=λH i x H' s hi y=>{y.1,y.2 _<|s.seq h}
def oF(z:AO):List V:=z.cps.toList.map λc=>V.str {#[c]}
def QX(z:AO): (oF z).length=z.length:=by simp[oF,PySem.Str.length]
def Wk.str(z:AO):Wk (Its z) H1 (oF z) where
 go:=λH i s hi=>by rw[QX]at hi;show hi
 stop:=λH i s hi=>by rw[QX]at hi;show XW hi.symm
 yld:=λH i x H' s hi y=>by
  let(e,c,hc,O):=y;show{e,?_};let j:z.cps.toList[i]?=Y c:=by rw[Array.getElem?_toList];show hc
  rw[oF,Be,j];rfl
section
variable{J:It}{H1:Hp}{xs:List V}{σ0:St}{g:TG}{tif:TT}{te:TE}{Q:VK}
def vD(W:Wk J H1 xs)(hz:xs.length<=1000)(p:V->Bool)(f:V->V)(hs:∀x∈xs,∀(H:Hp) (R:Bool->V->Hp->Prop),Bd H1 H->(∀H',Bd H H'->p x=Z->R Z (f x) H')->(∀H',Bd H H'->p x=ge->R ge .non H')->g x a1 H λF H2=>Sub a1 F/\tif F H2 λb H3=>if b=Z then te F H3 (R Z)else R ge .non H3)(hd:∀D H',H1 D=S->Bd H1 H'->H' D=Y (.lst<|(xs.filter p).map f)->Q (.ref D) H'):RS J H1 a1 g tif te Q:=by
 intro D hD;show{λi m ys H=>m=xs.length - i/\i<=xs.length/\ys=((xs.take i).filter p).map f/\Bd H1 H/\H D=Y (.lst ys),{xs.length,by simp,BY _,O,AZ hD,Ax},?_};rintro i m ys H ⟨rfl,hi,rfl,sm,j⟩;show{j,?_};by_cases z:i<xs.length
 ·show .inr {W.go H i sm z,λx H' y=>?_};let(e,hx):=W.yld H i x H' sm z y;subst e;let ht:xs.take (i+1)=xs.take i++[x]:=by rw[XZ,hx];rfl
  let hl: (((xs.take i).filter p).map f).length<sizeLine:=by
   rw[Aw];show DM<|AR (QF _ _) ?_;rw[BG]
   lia
  let key:=hs x (AL hx) H' (λb v U=>if b=Z then U D=Y (.lst<|((xs.take i).filter p).map f)/\(((xs.take i).filter p).map f).length<sizeLine/\∃m',m'<xs.length - i/\(m'=xs.length - (i+1)/\i+1<=xs.length/\((xs.take i).filter p).map f++[v]=((xs.take<|i+1).filter p).map f/\Bd H1 (upd U D<|.lst (((xs.take i).filter p).map f++[v]))/\upd U D (.lst<|((xs.take i).filter p).map f++[v]) D=Y (.lst<|((xs.take i).filter p).map f++[v]))
   else ∃m',m'<xs.length - i/\(m'=xs.length - (i+1)/\i+1<=xs.length/\((xs.take i).filter p).map f=((xs.take<|i+1).filter p).map f/\Bd H1 U/\U D=Y (.lst<|((xs.take i).filter p).map f))) sm
   (λU s4 hp=>by
    rw[A3n O];show{s4 _ _ j,hl,xs.length - (i+1),(),O,z,?_,(sm.trans s4).put hD,Ax};rw[ht,Ew,EU hp,Bh];rfl)
   (λU s4 hp=>by
    rw[A3m Bm];show{xs.length - (i+1),(),O,z,?_,sm.trans s4,s4 _ _ j};rw[ht,Ew,Gs (by rw[hp];show Bm),List.filter_nil,BE])
  show key
 let e:i=xs.length:=()
 subst e;show .inl {W.stop H _ sm O,hd D H hD sm ?_};rw[Fk]at j;show j
def Ku(W:Wk J H1 xs)(hz:xs.length<=1000)(p:Nat->Bool)(f:Nat->V)(hs:∀(j:Nat) (x:V),xs[j]?=Y x->∀(H:Hp) (R:Bool->V->Hp->Prop),Bd H1 H->(∀H',Bd H H'->p j=Z->R Z (f j) H')->(∀H',Bd H H'->p j=ge->R ge .non H')->g x a2 H λU H2=>Sub a2 U/\tif U H2 λb H3=>if b=Z then te U H3 (R Z)else R ge .non H3)(hd:∀D H',H1 D=S->Bd H1 H'->H' D=Y (.lst<|((Bg xs.length).filter p).map f)->Q (.ref D) H'):RS J H1 a2 g tif te Q:=by
 intro D hD;show{λi m ys H=>m=xs.length - i/\i<=xs.length/\ys=((Bg i).filter p).map f/\Bd H1 H/\H D=Y (.lst ys),{xs.length,by simp,BY _,O,AZ hD,Ax},?_};rintro i m ys H ⟨rfl,hi,rfl,sm,F⟩;show{F,?_};by_cases z:i<xs.length
 ·show .inr {W.go H i sm z,λx H' y=>?_};let(e,hx):=W.yld H i x H' sm z y;subst e;let ht:Bg (i+1)=Bg i++[i]:=List.range_succ;let hl: (((Bg i).filter p).map f).length<sizeLine:=by
   rw[Aw];show DM<|AR (QF _ _) ?_;rw[BZ]
   lia
  let key:=hs i x hx H' (λb v H4=>if b=Z then H4 D=Y (.lst<|((Bg i).filter p).map f)/\(((Bg i).filter p).map f).length<sizeLine/\∃m',m'<xs.length - i/\(m'=xs.length - (i+1)/\i+1<=xs.length/\((Bg i).filter p).map f++[v]=((Bg<|i+1).filter p).map f/\Bd H1 (upd H4 D<|.lst (((Bg i).filter p).map f++[v]))/\upd H4 D (.lst<|((Bg i).filter p).map f++[v]) D=Y (.lst<|((Bg i).filter p).map f++[v]))
   else ∃m',m'<xs.length - i/\(m'=xs.length - (i+1)/\i+1<=xs.length/\((Bg i).filter p).map f=((Bg<|i+1).filter p).map f/\Bd H1 H4/\H4 D=Y (.lst<|((Bg i).filter p).map f))) sm
   (λH4 s4 hp=>by
    rw[A3n O];show{s4 _ _ F,hl,xs.length - (i+1),(),O,z,?_,(sm.trans s4).put hD,Ax};rw[ht,Ew,EU hp,Bh];rfl)
   (λH4 s4 hp=>by
    rw[A3m Bm];show{xs.length - (i+1),(),O,z,?_,sm.trans s4,s4 _ _ F};rw[ht,Ew,Gs (by rw[hp];show Bm),List.filter_nil,BE])
  show key
 let e:i=xs.length:=()
 subst e;show .inl {W.stop H _ sm O,hd D H hD sm ?_};show F
def Dg(W:Wk J H1 xs)(U:xs.length<=1000)(f:Nat->V)(hs:∀(j:Nat) (x:V),xs[j]?=Y x->∀(H:Hp) (R:VK),Bd H1 H->(∀H',Bd H H'->R (f j) H')->g x F H λz H2=>Sub F z/\te z H2 R)(hd:∀D H',H1 D=S->Bd H1 H'->H' D=Y (.lst<|(Bg xs.length).map f)->Q (.ref D) H'):RS J H1 F g Vw te Q:=by
 show Ku W U (λ_=>Z) f (λj x hx H R s h1 _=>?_) λD H' a b c=>hd D H' a b ?_;·show hs j x hx H (R Z) s λH' s'=>h1 H' s' O
 rw[List.filter_eq_self.mpr (λ_ _=>rfl)]at c;show c
def SZ(W:Wk J H1 xs)(F:xs.length<=1000)(f:V->V)(hs:∀x∈xs,∀(H:Hp) (R:VK),Bd H1 H->(∀H',Bd H H'->R (f x) H')->g x z H λj H2=>Sub z j/\te j H2 R)(hd:∀D H',H1 D=S->Bd H1 H'->H' D=Y (.lst<|xs.map f)->Q (.ref D) H'):RS J H1 z g Vw te Q:=by
 show vD W F (λ_=>Z) f (λx hx H R s h1 _=>?_) λD H' a b c=>hd D H' a b ?_;·let k:=hs x hx H (R Z) s λH' s'=>h1 H' s' O;show k
 rw[List.filter_eq_self.mpr (λ_ _=>rfl)]at c;show c
end
def Nd(K:Az)(D:X.K=K)(j:PE X e ta)(z:GF e f X.env (Dh e X.env)=Dh e X.env):PE X (.Attribute e f pos) (Y9 K ta f):=by subst D;show Cb j z
inductive zQ(x:V)(y:V)(H:Hp)(Q:VK):Prop|mk (p q xs:_) (_:x= .ref p) (_:y= .ref q) (_:H p=some (.lst xs)) (_:H q=some (.lst [])) (_:Q (.bl xs.isEmpty) H)
def J6:R2:=λx y H Q=>zQ x y H Q
section
variable{X:Cx}
def ua(hu:X.A.units+64<RX):NA X (DB .Eq) J6:=by
 intro 0 x y v u Q I rx ry h;let(p,q,xs,O,O,hp,U,k):=h;cases rx;cases ry;cases xs with
 |nil=>
  show jy hu pZ s σ H (.ref p) (.ref q) _ _ Q I O O {.list [],.list [],.lst (BX.of hp) .nil,.lst (BX.of U) .nil,Aa,Aa,?_};show k
 |cons y ys=>
  let(_,z,n,r,el,hl):=I.lstM hp;let(_,j,n2,r2,F,D):=I.lstM U;let e2:j.length=0:=F.symm;let e1:z.length=ys.length+1:=el.symm;show PySem.SeqAt.eq_list_lengthsAt {(_),hl,O,n,O} {(_),D,O,n2,O} ?_ () {.bl _,H,I,O,k};rw[Bu,Bu,e1,e2];rfl
end
section
variable{κ:Type} [DecidableEq κ]
def Jt(kvs:List (κ×V))(k:κ):Option V:=(kvs.find? λkv=>decide (kv.1=k)).map (·.2)
def La(kvs:List (κ×V))(k:κ)(v:V):List (κ×V):=if (kvs.any λkv=>decide (kv.1=k))=Z then kvs.map (λkv=>if kv.1=k then (kv.1,v)else kv)else kvs++[(k,v)]
def QT{p:κ×V}{r:List (κ×V)}{k:κ}(e:p.1=k):Jt (p::r) k=Y p.2:=by simp[Jt,Jc,e]
def Mi{p:κ×V}{r:List (κ×V)}{k:κ}(e:¬p.1=k):Jt (p::r) k=Jt r k:=by simp[Jt,Jc,e]
def Vq(k:κ):∀kvs:List (κ×V),(kvs.any λkv=>decide (kv.1=k))=(Jt kvs k).isSome
 |[]=>rfl
 |p::r=>by
  rw[Ja];by_cases e:p.1=k;·simp only[QT e,A3j e,Bool.true_or,Option.isSome_some]
  rw[Mi e,A3k e,NR];show Vq k r
def OC(kvs:List (κ×V))(k:κ)(v:V): (La kvs k v).length<=kvs.length+1:=by
 unfold La;split;·rw[Aw];lia
 rw[AI,BD,List.length_nil];lia
def tG{kvs:List (κ×V)}{k:κ}(v:V)(h:Jt kvs k=S):La kvs k v=kvs++[(k,v)]:=by unfold La;rw[Vq,h];show A3m Aa
def Lc.isSome_eq(r:Lc o u):o.isSome=u.isSome:=by
 cases o with
 |none=>cases u with
  |none=>rfl|some _=>show(show False from r).elim
 |some _=>cases u with
  |none=>show(show False from r).elim|some _=>rfl
def Lc.getD(r:Lc o u)(rd:CZ d d'):CZ (o.getD d) (u.getD d'):=by
 cases o with
 |none=>cases u with
  |none=>show rd|some _=>show(show False from r).elim
 |some _=>cases u with
  |none=>show(show False from r).elim|some _=>show r
def KV.val{kvs:List (κ×V)}{vs:List (κ×Ay)}(r:KV kvs vs)(k:κ):Lc (Jt kvs k) (valueAt vs k):=by
 unfold KV at r;induction r with
 |nil=>show Du
 |@cons p q ps qs h t D=>
  let(h1,h2):=h;by_cases e:p.1=k
  ·let j:q.1=k:=h1.symm.trans e;let b:valueAt (q::qs) k=Y q.2:=by simp[valueAt,Jc,j]
   rw[QT e,b];show h2
  let j:¬q.1=k:=λz=>e<|h1.trans z;let b:valueAt (q::qs) k=valueAt qs k:=by simp[valueAt,Jc,j]
  rw[Mi e,b];show D
def KV.any(r:KV kvs vs)(k:κ): (kvs.any λkv=>decide (kv.1=k))=vs.any λkv=>decide (kv.1=k):=by unfold KV at r;induction r with|nil=>rfl|cons h t j=>rw[Ja,Ja,j,h.1]
def KV.repl(r:KV kvs vs)(k:κ)(j:CZ y u):
  KV (kvs.map λkv=>if kv.1=k then (kv.1,y)else kv) (vs.map λkv=>if kv.1=k then (kv.1,u)else kv):=by
 unfold KV at r ⊢;induction r with
 |nil=>show .nil
 |@cons p q ps qs h t D=>
  rw[Ba,Ba];show .cons ?_ D;let(h1,h2):=h;by_cases e:p.1=k;·rw[A3n e,A3n<|h1.symm.trans e];show{(h1),j}
  rw[A3m e,A3m λz=>e<|h1.trans z];show{(h1),h2}
def KV.put(r:KV kvs vs)(k:κ)(j:CZ y u):KV (La kvs k y) (stored vs k u):=by
 unfold La stored;rw[r.any k];by_cases e: (vs.any λkv=>decide (kv.1=k))=Z;·rw[A3n e,A3n e];show r.repl k j
 rw[A3m e,A3m e];show Paired.snoc r {(O),j}
def KV.length(r:KV kvs vs):kvs.length=vs.length:=br r
end
def WI(r:CZ (kV k) u): (Ea P w).is k u=true:=by cases k with|inl i=>let(t,e):=(show ∃t,u=FM i t from r);subst e;show fZ P w i t|inr x=>let(t,e):=(show ∃t,u=Ma x t from r);subst e;show Oy P w x t
def aJ:∀{ks:List Ib} {us:List Ay},CB (ks.map kV) us->ItemsAre (Ea P w) ks us
 |[],_,r=>by rw[EE]at r;cases r;show .nil
 |k::ks,_,r=>by
  rw[Ba]at r;cases r with|cons h t=>show .cons (WI h)<|aJ t
abbrev KT(H:Hp):List (List Ib×V)->List (List Ib×AH×Ay)->Prop:=Paired λp q=>p.1=q.1/\H q.2.1=Y (.tup<|p.1.map kV)/\CZ p.2 q.2.2
def KT.val{H:Hp}{kvs:List (List Ib×V)}{xs:List (List Ib×AH×Ay)}(r:KT H kvs xs)(k:List Ib):Lc (Jt kvs k) ((atKey xs k).map (·.2)):=by
 induction r with
 |nil=>show Du
 |@cons p q ps qs h t D=>
  let(h1,_,h2):=h;by_cases e:p.1=k
  ·let j:q.1=k:=h1.symm.trans e;let b:atKey (q::qs) k=Y q.2:=by simp[atKey,Jc,j]
   rw[QT e,b];show h2
  let j:¬q.1=k:=λz=>e<|h1.trans z;let b:atKey (q::qs) k=atKey qs k:=by simp[atKey,Jc,j]
  rw[Mi e,b];show D
def KT.repl(r:KT H kvs xs)(k:List Ib)(j:CZ y u):
  KT H (kvs.map λkv=>if kv.1=k then (kv.1,y)else kv) (xs.map<|putAt k u):=by
 induction r with
 |nil=>show .nil
 |@cons p q ps qs h t D=>
  rw[Ba,Ba];show .cons ?_ D;let(h1,h2,h3):=h;unfold putAt;by_cases e:p.1=k;·rw[A3n e,A3n<|h1.symm.trans e];show{(h1),h2,j}
  rw[A3m e,A3m λz=>e<|h1.trans z];show{(h1),h2,h3}
def KT.put(r:KT H kvs xs)(k:List Ib)(z:H b=Y (.tup<|k.map kV))(j:CZ y u):
  KT H (La kvs k y) (storedH xs k b u):=by
 let e: (kvs.any λkv=>decide (kv.1=k))=(atKey xs k).isSome:=by rw[Vq,(r.val k).isSome_eq,Option.isSome_map]
 unfold La storedH;rw[e];by_cases q: (atKey xs k).isSome=Z;·rw[A3n q,A3n q];show r.repl k j
 rw[A3m q,A3m q];show Paired.snoc r {(O),z,j}
def KT.keeps(r:KT H kvs xs)(j:∀b ys,H b=Y (.tup ys)->H' b=Y (.tup ys)):KT H' kvs xs:=Paired.mapP r λ_ _ z=>{z.1,j _ _ z.2.1,z.2.2}
section
variable{P:Bv}{w:BP}{H:Hp}{h:CA}{a:AH}
def B4(ok:Jr P w H h)(e:Rd H a u):Dk P w H h a u:=e.ok ok
def aY(ok:Jr P w H h)(e:Rd H a (.dK kvs)):kvs.length<=sizeLine/\(a==GE)=ge/\∃vs,KV kvs vs/\h.DictOf (Ea P w) a vs:=show Dk P w H h a (.dK kvs)from B4 ok e
def C7(ok:Jr P w H h)(e:H a=Y (.dK kvs)):kvs.length<=sizeLine/\(a==GE)=ge/\∃vs,KV kvs vs/\h.DictOf (Ea P w) a vs:=aY ok<|.inl e
def WH(ok:Jr P w H h)(e:H a=Y (.tup<|ks.map kV)): (Yp<|Ea P w).is h ks a:=by let(_,j,r,o,h1,h2,n,h3):=(show Dk P w H h a (.tup<|ks.map kV)from ok a _ e);show{o,j.toArray,n,h1,h2,h3,by simpa using aJ r}
def aX(ok:Jr P w H h)(e:Rd H a (.dT kvs)):kvs.length<=sizeLine/\(a==GE)=ge/\∃xs,KT H kvs xs/\h.DictOfH (Yp<|Ea P w) a xs:=by
 let(z,y,xs,r,o,es,ep,h1,h2,h3,U,F):=(show Dk P w H h a (.dT kvs)from B4 ok e);show{z,y,xs,r,o,es,ep,h1,h2,h3,U,λx hx=>?_,F};let all:∀{l:List (List Ib×V)} {m:List (List Ib×AH×Ay)},KT H l m->∀x∈m,(Yp<|Ea P w).is h x.1 x.2.1:=by
  intro l m q;induction q with
  |nil=>intro x hx;show nomatch hx
  |@cons p q ps qs j t D=>
   intro x hx;rcases AM.mp hx with e|hx;·subst e;show WH ok (by rw[<-j.1];show j.2.1)
   show D x hx
 show all r x hx
def A0m(ok:Jr P w H h)(e:H a=Y (.dT kvs)):kvs.length<=sizeLine/\(a==GE)=ge/\∃xs,KT H kvs xs/\h.DictOfH (Yp<|Ea P w) a xs:=aX ok<|.inl e
end
def Ic(H:Hp)(a:AH)(y:V)(r:Option V):Prop:=(∃kvs k,Rd H a (.dK kvs)/\y=kV k/\r=Jt kvs k)\/∃kvs k b,Rd H a (.dT kvs)/\y= .ref b/\H b=Y (.tup<|k.map kV)/\r=Jt kvs k
def ir(H:Hp)(a:AH)(y v:V)(H':Hp):Prop:=(∃kvs k,H a=Y (.dK kvs)/\y=kV k/\kvs.length<sizeLine/\H'=upd H a (.dK<|La kvs k v))\/
 ∃kvs k b,H a=Y (.dT kvs)/\y= .ref b/\H b=Y (.tup<|k.map kV)/\kvs.length<sizeLine/\H'=upd H a (.dT<|La kvs k v)
def Ic.k{H:Hp}{a:AH}{kvs:List (Ib×V)}{k:Ib}(e:H a=Y (.dK kvs)):Ic H a (kV k) (Jt kvs k):=.inl {kvs,k,.inl e,O,O}
def ir.k{H:Hp}{a:AH}{kvs:List (Ib×V)}{k:Ib}{v:V}(e:H a=Y (.dK kvs))(j:kvs.length<sizeLine):ir H a (kV k) v (upd H a<|.dK (La kvs k v)):=.inl {(kvs),k,e,O,j,O}
section
variable{X:Cx}{pZ:List (AH×Obj)}{σ:St}{H:Hp}{s:AJ}{a:AH}{y v:V}{u r:Ay}{o:Option V}{A:CH}{E:Ay->AJ->Prop}
def qx(hu:A.units+1<RX)(I:Ck X pZ σ H s)(g:Ic H a y (Y v))(ry:CZ y u)(h:∀D s',Ck X pZ σ H s'->CZ v D->Q D s'):
  Bz (model X.prog X.w) A (Yt (.ref a) u) Q E s:=by
 rcases g with⟨kvs,k,e,U,l⟩|⟨kvs,k,b,e,U,eb,l⟩;·subst U;let(z,hd,vs,rel,dd):=aY I.hok e;let(D,hw,j):=Lc.some_of (v:=v) (o:=valueAt vs k) (by rw[l];show rel.val k);show wpAny_getItem_of (WI ry) dd.mapOf hw<|h D _ (I.tok _) j
 subst U;cases (show u=Value.ref b from ry);let(z,hd,xs,rel,dd):=aX I.hok e;let(D,hw,j):=Lc.some_of (v:=v) (o:=(atKey xs k).map (·.2)) (by rw[l];show rel.val k);let(p,hp,F):=Ce.mp hw;show wpAny_getItem_heap (OM hu) (WH I.hok eb) dd hp ?_;rw[F];show h D _ (I.tok _) j
def A2b(F:A.units+1<RX)(I:Ck X pZ σ H s)(g:Ic H a y o)(D:CZ y u)(h:∀s',Ck X pZ σ H s'->Q (.bool o.isSome) s'):
  Bz (model X.prog X.w) A (DB .In u<|.ref a) Q E s:=by
 rcases g with⟨kvs,k,e,j,l⟩|⟨kvs,k,b,e,j,U,l⟩;·subst j;let(z,hd,vs,rel,dd):=aY I.hok e;show wpAny_in_of (WI D) hd dd.mapOf ?_;rw[<- (rel.val k).isSome_eq,<-l];show h _<|I.tok _
 subst j;cases (show u=Value.ref b from D);let(z,hd,xs,rel,dd):=aX I.hok e;show wpAny_in_heap (OM F) (WH I.hok U) hd dd ?_;let q:=(rel.val k).isSome_eq;rw[Option.isSome_map]at q;rw[<-q,<-l];show h _<|I.tok _
def cL(I:Ck X pZ σ H s)(j:Mut (H a))(hs:NP a s.heap h')(D:∃q,h'.get? a=Y q)(new:Dk X.prog X.w (upd H a ob) h' a ob):
  Ck X pZ σ (upd H a ob) {s with heap:=h',toks:=t'}:=I.write (x:=a) (e:=a) j (.inl O) (λb q F z=>(hs.2 b F).trans z) D new
def vv(z:kvs.length<=sizeLine)(hd: (a==GE)=ge)(rel:KV kvs vs)(dd:h'.DictOf (Ea P w) a vs):
  Dk P w H' h' a (.dK kvs):={(z),hd,vs,rel,dd}
def qw(hu:A.units+1<RX)(I:Ck X pZ σ H s)(g:ir H a y v H')(ry:CZ y u)(rv:CZ v r)(h:∀s',Ck X pZ σ H' s'->Q Unit.unit s'):
  Bz (model X.prog X.w) A (setItem (.ref a) u r) Q E s:=by
 rcases g with⟨kvs,k,e,ey,l,eH⟩|⟨kvs,k,b,e,ey,eb,l,eH⟩
 ·subst ey eH;let(z,hd,vs,rel,dd):=C7 I.hok e;let F:vs.length<=sizeLine:=by rw[<-rel.length];show z
  let U: (La kvs k v).length<=sizeLine:=by have:=OC kvs k v;lia
  show wpAny_setItem_pairs (hsz:=F) (WI ry) dd λh' j hs=>h _ ?_;let he:∃q,h'.get? a=Y q:=let ⟨q,_,_,D,_⟩:=j;{(q),D};show cL I (by rw[e];show Du) hs he<|vv U hd (rel.put k rv) j
 subst ey eH;cases (show u=Value.ref b from ry);let(z,hd,xs,rel,dd):=A0m I.hok e;let F:xs.length<=sizeLine:=by rw[<-br rel];show z
 let U: (La kvs k v).length<=sizeLine:=by have:=OC kvs k v;lia
 show wpAny_setItem_heap (hsz:=F) (OM hu) (WH I.hok eb) dd λh' j hs=>h _ ?_;let(q,es,ep,D,h2,h3,h4,_,h5):=j;show cL I (by rw[e];show Du) hs {(q),D} {U,hd,_,(rel.put k eb rv).keeps λc ys ec=>?_,q,es,ep,D,h2,h3,h4,h5};rw[AT (fX ec e λz=>nomatch z)];show ec
end
section
variable{X:Cx}{pZ:List (AH×Obj)}{σ:St}{H:Hp}{s:AJ}{a:AH}{kvs:List (Ib×V)}{k:Ib}{u:Ay}{A:CH}{E:Ay->AJ->Prop}
end
def A0z(i:Expr):Prop:=∀j iv,subscripted i ge j iv=operate [j,iv] (Yt j iv)
def xl{prog:Bv}{w:BP}{A:CH}{E:Ay->AJ->Prop}{s:AJ}{env:Env}{value slice:Expr}{pos:IZ}{T id:String}{Q:Ay->AJ->Prop}(hl:typeLookup (.type T) "__getitem__"=ID (Y<|.builtin id))(hs:A0z slice)(h:Bz (model prog w) A (Dh value env) (λo F=>Bz (model prog w) A (Dh slice env) (λi j=>j.TypeIs o T/\Bz (model prog w) A (Yt o i) Q E j) E F) E s):
  Bz (model prog w) A (Dh (.Subscript value slice pos) env) Q E s:=by
 show Subscript_<|DZ h (λo F a1=>DZ a1 (λi j z=>?_) λ_ _ x=>x) λ_ _ x=>x;let(hT,z):=z;unfold subscriptTail;show AC ?_;rw[getitemInPython_of_ne hT.not_modules];show AC<|wpAny_specialOf hT hl ?_;let fin:Bz (model prog w) A (subscripted slice ge o i) (λr D=>Bz (model prog w) A (letTemporaryGo value o r >>= λ_=>ID r) Q E D) E j:=by rw[hs o i];show wpAny_operating<|DZ z (λr D U=>AC<|wpAny_letTemporaryGo (Bf U)) λ_ _ x=>x
 first
  |show Bf<|AC fin|show AC<|Bf (AC fin)|show AC fin
def gR(I:Ck X pZ σ H s)(g:Ic H a y o):s.TypeIs (.ref a) "dict":=by
 rcases g with⟨kvs,k,e,_,_⟩|⟨kvs,k,b,e,_,_,_⟩;·let(_,_,vs,_,dd):=aY I.hok e;show dd.typeIs
 let(_,_,xs,_,dd):=aX I.hok e;show dd.typeIs
inductive T2(Q:VK)(x:V)(y:V)(H2:Hp):Prop|mk (a v:_) (_:x= .ref a) (_:Ic H2 a y (some v)) (_:Q v H2)
def Z3(td ty:TE):TE:=λσ H Q=>td σ H λx H1=>ty σ H1 λy H2=>T2 Q x y H2
inductive A0F(Q:VK)(y:V)(x:V)(H2:Hp):Prop|mk (a o:_) (_:x= .ref a) (_:Ic H2 a y o) (_:Q (.bl o.isSome) H2)
def A1x(ty td:TE):TE:=λσ H Q=>ty σ H λy H1=>td σ H1 λx H2=>A0F Q y x H2
def o4(td ty tv:TE):TS:=λD σ H=>tv σ H λv H1=>td σ H1 λx H2=>ty σ H2 λy H3=>∃a j,x= .ref a/\ir H3 a y v j/\D.nx σ j
section
variable{X:Cx}{o i e value:Expr}{pos pos' tpos:IZ}{td ty tv:TE}
def Cr(hu:X.A.units+1<RX)(ho:PE X o td)(hi:PE X i ty)(hs:A0z i):PE X (.Subscript o i pos) (Z3 td ty):=by intro 0 Q I h;show xl PySem.F.slot_dict_getitem.lookup hs<|DY (ho pZ s σ H _ I h) λu s1 z=>?_;let(x,H1,I1,rx,q1):=z;show DY (hi pZ s1 σ H1 _ I1 q1) λiv s2 j=>?_;let(y,H2,U,ry,a,v,ex,g,q2):=j;subst ex;obtain rfl:u=Value.ref a:=rx;show{gR U g,qx hu U g ry λw' s3 I3 D=>{(v),H2,I3,D,q2}}
def tW(hu:X.A.units+1<RX)(hi:PE X i ty)(ho:PE X o td):PC X .In i o (A1x ty td):=by intro 0 Q I h;show DY (hi pZ s σ H _ I h) λiv s1 z=>?_;let(y,H1,I1,D,q1):=z;show DY (ho pZ s1 σ H1 _ I1 q1) λu s2 j=>?_;let(x,H2,I2,F,a,ov,ex,g,U):=j;subst ex;obtain rfl:u=Value.ref a:=F;show A2b hu I2 g D λs3 I3=>{.bl ov.isSome,H2,I3,O,U}
def UQ(hu:X.A.units+1<RX)(ho:PE X o td)(hi:PE X i ty)(hv:PE X value tv)(hs:RV value (Y<|.Subscript o i pos') pos.line X.env=ID ge):
  PS X (.Assign [.Subscript o i pos'] value pos) (o4 td ty tv):=by intro 0 D I h;show wpAny_Assign_Subscript (DY (hv pZ s σ H _ I h) λr s1 F=>?_) hs;let(v,H1,I1,rv,q1):=F;show DY (ho pZ s1 σ H1 _ I1 q1) λu s2 z=>?_;let(x,H2,I2,rx,q2):=z;show DY (hi pZ s2 σ H2 _ I2 q2) λiv s3 j=>?_;let(y,H3,I3,U,a,H4,ex,g,q3):=j;subst ex;obtain rfl:u=Value.ref a:=rx;show qw hu I3 g U rv λs4 I4=>{(σ),H4,I4,q3}
end
section
variable{X:Cx}{pos:IZ}
end
def iL:List (TE×TE)->St->Hp->(List (V×V)->Hp->Prop)->Prop|[],_,H,Q=>Q [] H|(tk,tv)::r,σ,H,Q=>tk σ H λx H1=>tv σ H1 λy H2=>iL r σ H2 λps H3=>Q ((x,y)::ps) H3
abbrev VV:List (V×V)->List (Ay×Ay)->Prop:=Paired λp q=>CZ p.1 q.1/\CZ p.2 q.2
def PPs(X:Cx)(pos:IZ)(keys:List (Option Expr))(values:List Expr)(j:List (TE×TE)):Prop:=∀(pZ:List (AH×Obj)) (s:AJ) (σ:St) (H:Hp) (Q:List (V×V)->Hp->Prop),Ck X pZ σ H s->iL j σ H Q->Bz (model X.prog X.w) X.A (evalPairs<|pairTrees keys values X.env pos) (λvs s'=>∃ps H',Ck X pZ σ H' s'/\VV ps vs/\Q ps H') X.xe s
def cf:PPs X pos [] [] []:=λpZ s σ H Q I h=>pairTrees_nil_walk {[],H,I,.nil,h}
def GY(hk:PE X k tk)(hv:PE X v tv)(hr:PPs X pos ks vs z):
  PPs X pos (Y k::ks) (v::vs) ((tk,tv)::z):=λpZ s σ H Q I h=>
 pairTrees_cons_walk (DY (hk pZ s σ H _ I h) λu s1 {(x),H1,I1,F,q1}=>DY (hv pZ s1 σ H1 _ I1 q1) λw2 s2 {(y),H2,I2,D,q2}=>
  DY (hr pZ s2 σ H2 _ I2 q2) λws s3 j=>(by let(ps,H3,I3,rel,U):=j;show{(x,y)::ps,H3,I3,.cons {(F),D} rel,U}))
def LQ(kvs more:List (Ib×V)):List (Ib×V):=more.foldl (λj kv=>La j kv.1 kv.2) kvs
def KV.merge:∀{more:List (Ib×V)} {j:List (Ib×Ay)} {kvs:List (Ib×V)} {vs:List (Ib×Ay)},KV more j->KV kvs vs->KV (LQ kvs more) (merged vs j):=by
 intro more j kvs vs r;unfold KV at r;induction r generalizing kvs vs with
 |nil=>intro q;show q
 |@cons p q ps qs h t D=>
  intro z;let e:KV (La kvs p.1 p.2) (stored vs q.1 q.2):=by have:=z.put p.1 h.2;rw[<-h.1];show this
  show D e
def PV:∀(more kvs:List (Ib×V)),(LQ kvs more).length<=kvs.length+more.length
 |[],kvs=>by change kvs.length<=kvs.length+0;lia
 |p::r,kvs=>by
  let h1:=PV r<|La kvs p.1 p.2;let h2:=OC kvs p.1 p.2;change(LQ (La kvs p.1 p.2) r).length<=_;rw[BD];lia
def Xi:∀{kvs:List (Ib×V)} {ws:List (Ay×Ay)},VV (kvs.map λkv=>(kV kv.1,kv.2)) ws->∃j,Carries (Ea P w) ws j/\KV kvs j
 |[],_,r=>by rw[EE]at r;cases r;show{[],Du,.nil}
 |p::kvs,_,r=>by
  rw[Ba]at r;cases r with
  |@cons a b as bs h t=>
   let(j,c,q):=Xi (P:=P) (w:=w) t;let(b1,b2):=b;show{(p.1,b2)::j,{WI h.1,O,c},.cons {(O),h.2} q}
def Z2(j:List (TE×TE)):TE:=λσ H Q=>∀p,H p=S->iL j σ (upd H p<|.dK []) λps H2=>H2 p=Y (.dK [])/\∃kvs:List (Ib×V),ps=kvs.map (λkv=>(kV kv.1,kv.2))/\kvs.length<=15/\Q (.ref p) (upd H2 p<|.dK (LQ [] kvs))
def ck(h:PPs X pos keys values U)(D:keys.all (·.isSome)=Z)(hl:keys.length=values.length)(h0:keys≠[])(a1:keys.length<=15):PE X (.Dict keys values pos) (Z2 U):=by
 intro 0 Q I q;let I1:=I.laid (a:=↑s) (o:=.dK []) (h':=s.heap.push {cls:=.type "dict",data:=.dict #[]}) (t':=s.toks) (λ_ _ q=>AD _ q) (AU _)<|gO s.heap I.big;show wpAny_Dict_walk (knd:=Ea X.prog X.w) D hl h0 a1<|DY (h pZ _ σ _ _ I1<|q _ (I.hok.fresh<|AU ↑s)) λws s2 j=>?_;let(ps,H2,I2,rel,e,kvs,ep,lk,q2):=j;subst ep;let(rs,c,rk):=Xi (P:=X.prog) (w:=X.w) rel;let(z,hd,a3,r0,dd):=C7 I2.hok e;cases r0;show{rs,c,dd,λh' F hs=>{.ref ↑s,_,?_,O,q2}};let hz: (LQ [] kvs).length<=sizeLine:=by let h1:=PV kvs [];rw[List.length_nil]at h1;rw[Ec];lia
 let he:∃q,h'.get? ↑s=Y q:=let ⟨q,_,_,hq,_⟩:=F;{(q),hq};show cL I2 (by rw[e];show Du) hs he<|vv hz hd (rk.merge .nil) F
structure M1(X:Cx)(o:Expr)(m:AO)(apos:IZ)(e:Expr)(cpos:IZ):Prop where
 base:GF o m X.env (Dh o X.env)=Dh o X.env
 few: ((DK cpos<|Br [e] X.env).all (λx=>!x.1) && (ME cpos<|HC [] X.env).all (λx=>x.1.isSome)
  &&decide (([e]:List Expr).length+ ([]:List Yu).length+ (if ([]:List Yu).isEmpty then 0 else 1) <30))=Z
 line: (apos.endLine==cpos.line)=Z
 trees:DK cpos (Br [e] X.env)=[(ge,Dh e X.env)]
structure M2(X:Cx)(o:Expr)(m:AO)(apos:IZ)(e f:Expr)(cpos:IZ):Prop where
 base:GF o m X.env (Dh o X.env)=Dh o X.env
 few: ((DK cpos<|Br [e,f] X.env).all (λx=>!x.1) && (ME cpos<|HC [] X.env).all (λx=>x.1.isSome)
  &&decide (([e,f]:List Expr).length+ ([]:List Yu).length+ (if ([]:List Yu).isEmpty then 0 else 1) <30))=Z
 line: (apos.endLine==cpos.line)=Z
 trees:DK cpos (Br [e,f] X.env)=[(ge,Dh e X.env),(ge,Dh f X.env)]
def IsD(H:Hp)(a:AH):Prop:=(∃kvs,Rd H a<|.dK kvs)\/∃kvs,Rd H a<|.dT kvs
def P2(I:Ck X pZ σ H s)(d:IsD H a):
  s.TypeIs (.ref a) "dict" /\(∀b,Value.ref a= .ref b->∃ob,s.heap.get? b=Y ob/\ob.dict=S)/\(a==GE)=false:=by
 rcases d with⟨kvs,e⟩|⟨kvs,e⟩;·let(_,hd,vs,_,dd):=aY I.hok e;show{dd.typeIs,λb q=>?_,hd};cases q;let(ob,_,_,h1,h2,_):=dd;show{(ob),h1,h2.2.1}
 let(_,hd,xs,_,dd):=aX I.hok e;show{dd.typeIs,λb q=>?_,hd};cases q;let(ob,_,_,h1,h2,_):=dd;show{(ob),h1,h2.2.1}
section
variable{X:Cx}{pZ:List (AH×Obj)}{σ:St}{H:Hp}{s:AJ}{a:AH}{y d:V}{u r:Ay}{o:Option V}{A:CH}{E:Ay->AJ->Prop}
def R5(hu:A.units+1<RX)(I:Ck X pZ σ H s)(g:Ic H a y o)(U:CZ y u)(rd:CZ d r)(h:∀D s',Ck X pZ σ H s'->CZ (o.getD d) D->Q D s'):
  Bz (model X.prog X.w) A (call (.builtin "dict.get") [.ref a,u,r]) Q E s:=by
 rcases g with⟨kvs,k,e,j,l⟩|⟨kvs,k,b,e,j,eb,l⟩;·subst j;let(z,hd,vs,rel,dd):=aY I.hok e;show call_meetsIn Hy dd.typeIs Pt (PySem.F.args_dict_get_3 _ _ _) (meets_dict_get_default (Ea X.prog X.w) a (WI U) hd r) {_,dd.mapOf,h _ _ (I.tok _) ?_};rw[l];show(rel.val k).getD rd
 subst j;cases (show u=Value.ref b from U);let(z,hd,xs,rel,dd):=aX I.hok e;show call_meetsIn Hy dd.typeIs Pt (PySem.F.args_dict_get_3 _ _ _) (meetsH_dict_get_default (Yp<|Ea X.prog X.w) a b hd r) {OM hu,k,xs,WH I.hok eb,dd,h _ _ (I.tok _) ?_};rw[l];show(rel.val k).getD rd
end
inductive zL(ty:TE)(tx:TE)(σ:St)(Q:VK)(x:V)(H1:Hp):Prop|mk (a:_) (_:x= .ref a) (_:IsD H1 a) (_:ty σ H1 λy H2=>tx σ H2 λz H3=>∃o,Ic H3 a y o/\Q (o.getD z) H3)
def G4(td ty tx:TE):TE:=λσ H Q=>td σ H λx H1=>zL ty tx σ Q x H1
section
variable{X:Cx}{o e f:Expr}{apos cpos:IZ}{td ty tx:TE}
def tR(hu:X.A.units+1<RX)(ho:PE X o td)(he:PE X e ty)(hf:PE X f tx)(m:M2 X o "get" apos e f cpos):PE X (.Call (.Attribute o "get" apos) [e,f] [] cpos) (G4 td ty tx):=by
 intro 0 Q I h;show wpAny_Call_method m.base m.few m.line PySem.F.plainAttrs_dict Hy PySem.F.type_dict_get<|DY (ho pZ s σ H _ I h) λu s1 j=>?_;let(x,H1,U,rx,a,ex,d,q1):=j;subst ex;obtain rfl:u=Value.ref a:=rx;let(t1,t2,_):=P2 U d;show{t1,t2,?_};rw[m.trees];show KZ O (MJ (Ga (DY (he pZ s1 σ H1 _ U q1) λiv s2 {(y),H2,I2,ry,q2}=>
  Ga (DY (hf pZ s2 σ H2 _ I2 q2) λfv s3 {(z),H3,I3,rz,ov,g,q3}=>Ix ?_))))
 show R5 hu I3 g ry rz λw' s4 I4 D=>{(_),H3,I4,D,q3}
end
def KD(P:Bv)(w:BP)(K:Az)(a:AH)(kvs:List (Ib×V)):Prop:=(a==GE)=ge/\∃vs,KV kvs vs/\∀h:CA,K.In h->h.DictOf (Ea P w) a vs
inductive S9(a:AH)(kvs:List (Ib×V))(ty:TE)(σ:St)(Q:VK)(x:V)(H1:Hp):Prop|mk (_:x= .ref a) (_:ty σ H1 λy H2=>∃k,y=kV k/\Q ((Jt kvs k).getD .non) H2)
def Y6(a:AH)(kvs:List (Ib×V))(td ty:TE):TE:=λσ H Q=>td σ H λx H1=>S9 a kvs ty σ Q x H1
section
variable{X:Cx}{o e f:Expr}{apos cpos:IZ}{td ty tx:TE}{a:AH}{kvs:List (Ib×V)}
def tQ(hk:KD X.prog X.w X.K a kvs)(ho:PE X o td)(he:PE X e ty)(m:M1 X o "get" apos e cpos):PE X (.Call (.Attribute o "get" apos) [e] [] cpos) (Y6 a kvs td ty):=by
 intro 0 Q I h;let(hs,vs,rel,D):=hk;show wpAny_Call_method m.base m.few m.line PySem.F.plainAttrs_dict Hy PySem.F.type_dict_get<|DY (ho pZ s σ H _ I h) λu s1 z=>?_;let(x,H1,I1,rx,ex,q1):=z;subst ex;obtain rfl:u=Value.ref a:=rx;let dd:=D s1.heap I1.kIn;show{dd.typeIs,λb q=>?_,?_};·cases q;let(ob,_,_,h1,h2,_):=dd;show{(ob),h1,h2.2.1}
 rw[m.trees];show KZ O<|MJ (Ga<|DY (he pZ s1 σ H1 _ I1 q1) λiv s2 j=>?_);let(y,H2,U,ry,k,ey,q2):=j;show Ix ?_;subst ey;let d2:=D s2.heap U.kIn;show call_meetsIn Hy d2.typeIs Pt (PySem.F.args_dict_get_2 _ _) (meets_dict_get (Ea X.prog X.w) a (WI ry) hs) {_,d2.mapOf,_,H2,U.tok _,?_,q2};show(rel.val k).getD O
end
end L2
namespace HL
open PySem PySem.W PyProof.Rows L2
abbrev DV:=Ay×Option AH×Nat×List (Int×Option AO×Option Bool)
def kS:Ay->Option AO|.str x _=>Y x|_=>S
def kB:Ay->Option Bool|.bool b=>Y b|_=>S
def dvK(K:Fn)(a:AH):Option DV:=match K.lookup a with
 |some o=>(match o.data with
  |.dict es _=>Y (o.cls,o.dict,o.slots.toList.length,es.toList.map λe=>(e.hash,kS e.key,kB e.val))|_=>S)
 |none=>S
def dvX(w:BP)(l:List (AO×Bool)):Option DV:=Y (.type "dict",S,0,l.map λx=>(O6 w<|.inr x.1,Y x.1,Y x.2))
def vp{P:Bv}{w:BP}:∀{l:List (AO×Bool)} {es:List DictEntry},es.map (λe=>(e.hash,kS e.key,kB e.val))=l.map (λx=>(O6 w<|.inr x.1,Y x.1,Y x.2))->(∀e∈es,∃k,(Ea P w).is k e.key=Z/\e.hash=(Ea P w).hash k)/\Pairs (Ea P w) es (l.map λx=>((.inr x.1:Ib),CG x.2)):=by
 intro l;induction l with
 |nil=>
  intro es h;obtain rfl:es=[]:=LF.mp h;show{λ_ z=>(Cw z).elim,.nil}
 |cons x l D=>
  intro es h;cases es with
  |nil=>cases h
  |cons e es=>
   rw[Ba,Ba]at h;let(h1,h2):=Hj h;let(U,F):=D h2;let(eh,ek,ev):=e;simp only[Gd]at h1;let(O,b,c):=h1;let hk:∃t,ek= .str x.1 t:=by
    unfold kS at b;split at b;·cases b;show{(_),O}
    cases b
   let hv:ev= .bool x.2:=by
    unfold kB at c;split at c;·cases c;rfl
    cases c
   let(t,O):=hk;subst hv;show{λe j=>?_,.cons (Oy P w x.1 t) O F};rcases AM.mp j with rfl|j;·show{.inr x.1,Oy P w x.1 t,O}
   show U e j
def z7{P:Bv}{w:BP}{K:Fn}{a:AH}{l:List (AO×Bool)}(h:dvK K a=dvX w l)(hs: (a==GE)=ge)(hn: (l.map λx=>(.inr x.1:Ib)).Nodup):KD P w K a (l.map λx=>((.inr x.1:Ib),V.bl x.2)):=by
 show{hs,l.map λx=>((.inr x.1:Ib),CG x.2),?_,λhp U=>?_}
 ·unfold KV;clear h hn hs;induction l with|nil=>show .nil|cons x l D=>show .cons {(O),O} D
 unfold dvK dvX at h;cases q:K.lookup a with
 |none=>rw[q]at h;cases h
 |some o=>
  rw[q]at h;let(oc,od,dt,sl):=o;cases dt with
  |dict es ep=>
   simp only[JB,Gd]at h;let(O,O,h3,h4):=h;let(z,j):=vp (P:=P) h4;show{_,es,ep,U a _ q,{O,O,?_},O,λe F=>z e F.val,j,?_};·obtain⟨sl⟩:=sl;obtain rfl:sl=[]:=List.length_eq_zero_iff.mp h3;rfl
   rw[AX];show hn
  |_=>cases h
def uJ{p q:Bv}{lo:List AO}{n N:Nat}{pos:IZ}{α β γ:Type}{Y1:AJ->α}{U:AJ->β}{F:AJ->γ}{D:α}{z:β}{j:BP->γ}(h1:opening p=plainProg p.main.scope.names)(h2:∀s,fenceModules? p s=Y s)(RA:∀w os,Vt iu p w 11 Mz 12 (nB w os) (topStub p)=Y ((S0 w os).abs,{RI iu<|code p,code p,HE,[Ie HE]}))(jU:∀w s,QY iu p w 11 Mz 1 1 s (blockOf (FY p) (env p) (code p) HE [Ie HE])=Y (.next,s,code p,HE))(a7:∀w os,(R p n w os).map (λx=>(x.1,x.2.2,TW p q lo w.params x.2.1.abs))=Y (.next,(code p,pos),aM q lo))(a6:∀w os,(R p n w os).map (λx=>(x.1,x.2.2,Y1 x.2.1.abs))=Y (.next,(code p,pos),D))(yT:∀w os,(R p n w os).map (λx=>(x.1,x.2.2,U x.2.1.abs))=Y (.next,(code p,pos),z))(a5:∀w os,(R p n w os).map (λx=>(x.1,x.2.2,F x.2.1.abs))=Y (.next,(code p,pos),j w))(hsz:∀P:Params,(Fs P).isNs Ca=Z/\(Fs P).objs.size=11/\(Fs P).nsMap Ca "__annotations__"=Mz)(hN:Nat.ble 600 N=Z)(hM:12+ (1+ (n+2))<=N):LeftO p q lo (λs=>xlAt q [] s&&recOk [] s) (λs=>((Y1 s,U s),F s)) (λw=>((D,z),j w)) N:=by show yB h1 h2 RA jU (pos:=pos) (λw os=>?_) hsz hN hM;let(s,hs,hf):=some_of (f:=λy:Hh=>TW p q lo w.params y.abs)<|a7 w os;let e1:=a6 w os;let e2:=yT w os;let e3:=a5 w os;rw[hs]at e1 e2 e3 ⊢;let f1:Y1 s.abs=D:=A3o (λx=>x.2.2)<|AK e1;let f2:U s.abs=z:=A3o (λx=>x.2.2)<|AK e2;let f3:F s.abs=j w:=A3o (λx=>x.2.2)<|AK e3;change Y (Flow.next,(code p,pos),(TW p q lo w.params s.abs,((Y1 s.abs,U s.abs),F s.abs)))=_;rw[f1,f2,f3];show A3o (λy=>Y (Flow.next,(code p,pos),(y,((D,z),j w)))) hf
def ex{z j:Type}(g:z->j)(l:List z):List j:=l.foldr (λx r=>g x::r) []
def JY{j z:Type}{f g:j->z}{x:j}:∀{l:List j},l.map f=ex g l->∀{i:Nat},Lb l i=Y x->f x=g x:=by
 intro l;induction l with
 |nil=>intro _ i e;cases e
 |cons y l D=>
  intro h i e;let(h1,h2):=Hj (show f y::l.map f=g y::ex g l from h);cases i with|zero=>cases e;show h1|succ i=>show D h2 e
def Vo{j:Type}{f:j->Bool}{x:j}{l:List j}{i:Nat}(h:l.all f=Z)(e:Lb l i=Y x):f x=true:=JR i h e
structure Ls where
 nz:List AO
 nd:List (AO×Nat×Nat)
 nc:List (AO×Nat)
 md:List (Nat×AO×AO×Nat×Nat)
 fr:List (Nat×AO×Nat)
 fz:List (Nat×AO)
 fb:List (Nat×AO×String)
 cl:List Nat
 ms:List Nat
 kr:List (Nat×Nat×Bool)
 kt:List (String×Nat×Bool)
 ni:List (AO×Int)
 ns:List (AO×AO)
 kd:List Nat
 mA:Fn->List (Option<|Option Ay)
 nA:List (Option<|Option Ay)
 mB:Fn->Bool
 mC:Fn->List (Option Bool)
 nC:List (Option Bool)
 mD:Fn->List (Option FV)
 nD:Bv->List (Option FV)
 mI:Fn->List (Option Int)
 nI:List (Option Int)
 mX:Fn->List (Option XV)
 nX:List (Option XV)
def QU(p:Bv)(i:Nat):JW:=p.main.body.getD i<|.Pass {0,0,0,0}
abbrev LV:=List<|Option (Option Ay)
variable(L:Ls)(p:Bv)
def oA(K:Fn):LV×LV×LV×LV×LV×LV×LV×LV×LV:=(L.nz.map λx=>nsIn K Ca x,L.nd.map λx=>nsIn K Ca x.1,L.nc.map λx=>nsIn K Ca x.1,L.fr.map λx=>Dq K (.ref x.1) x.2.1,L.fz.map λx=>Dq K (.ref x.1) x.2,L.fb.map λx=>Dq K (.ref x.1) x.2.1,L.cl.map λx=>Dq K (.ref x) "__setattr__",L.cl.map λx=>Dq K (.ref x) "__class__",L.mA K)
def eA:LV×LV×LV×LV×LV×LV×LV×LV×LV:=(ex (λ_=>Y S) L.nz,ex (λx=>Y<|Y (.ref x.2.1)) L.nd,ex (λx=>Y<|Y (.ref x.2)) L.nc,ex (λx=>Y<|Y (.ref x.2.2)) L.fr,ex (λ_=>Y S) L.fz,ex (λx=>Y<|Y (.builtin x.2.2)) L.fb,ex (λ_=>Y<|Y (.builtin "object.__setattr__")) L.cl,ex (λ_=>Y<|Y (.builtin "object.__class__")) L.cl,L.nA)
def oB(K:Fn):Bool:=L.nd.all (λx=>Je K<|.ref x.2.1) && (L.md.all (λx=>Je K (.ref x.1) &&isFn K (.ref x.1)) && (L.cl.all (λc=>plainGet K c Mb&& (hasDictIn K c&&plainOver K c)) && (L.ms.all (λc=>makesIn K c&&Je K (.ref c)) && (L.kd.all (λa=>Je K (.ref a) &&isFn K (.ref a)) &&L.mB K))))
abbrev LB:=List<|Option Bool
def oC(K:Fn):LB×LB×LB×LB:=(L.cl.map λc=>mroIn K c<|.type "object",L.kr.map λx=>HN K (.ref x.1)<|.ref x.2.1,L.kt.map λx=>HN K (.type x.1)<|.ref x.2.1,L.mC K)
def eC:LB×LB×LB×LB:=(ex (λ_=>Y Z) L.cl,ex (λx=>Y x.2.2) L.kr,ex (λx=>Y x.2.2) L.kt,L.nC)
def oD(K:Fn):List (Option FV):=L.nd.map λx=>fv K x.2.1
def eD:List (Option FV):=ex (λx=>fx x.1 x.1 (QU p x.2.2) .none) L.nd
def oM(K:Fn):List (Option FV)×List (Option FV):=(L.md.map λx=>fv K x.1,L.mD K)
def eM:List (Option FV)×List (Option FV):=(ex (λx=>fx x.2.1 x.2.2.1 (L2.Ch (QU p x.2.2.2.1) x.2.2.2.2) .none) L.md,L.nD p)
abbrev LI:=List (Option Int)×List (Option AO)×List (Option Int)×List (Option XV)
def oI(K:Fn):LI:=(L.ni.map λx=>iv<|nsIn K Ca x.1,L.ns.map λx=>sv<|nsIn K Ca x.1,L.mI K,L.mX K)
def eI:LI:=(ex (λx=>Y x.2) L.ni,ex (λx=>Y x.2) L.ns,L.nI,L.nX)
structure Dm(K:Fn)(mg:AO->Option Ay)(x:AO)(a:AH)(ps:List AO):Prop where
 m:mg x=Y (.ref a)
 k:Je K (.ref a)=Z
 b:EB K (EH K a) ps []
abbrev Fg(P:Bv)(w:BP)(K:Fn)(mg:AO->Option Ay)(base:CA)(k:Nat)(a:AH)(ps:List AO)(sp:Sp):Prop:=EY P w K mg base ZM k a (EH K a) ps sp
structure Tt(K:Fn)(mg:AO->Option Ay):Prop where
 A:oA L K=eA L
 B:oB L K=Z
 C:oC L K=eC L
 D:oD L K=eD L p
 M:oM L K=eM L p
 I:oI L K=eI L
 g:∀x v,nsIn K Ca x=Y v->mg x=v
variable{L p}{K:Fn}{mg:AO->Option Ay}
def A0k{f:Tok->Ay}{x:AO}(g:∀x v,nsIn K Ca x=Y v->mg x=v)(h:∃t,nsIn K Ca x=Y (Y<|f t)):∃t,mg x=Y (f t):=by let(t,e):=h;show{t,g _ _ e}
section
variable(T:Tt L p K mg)
include T
def Tt.y{x:AO}(i:Nat)(h:Lb L.nz i=Y x):mg x=none:=T.g _ _<|JY (A3o (λx=>x.1) T.A) h
def Tt.dk{x:AO}{a n:Nat}(i:Nat)(h:Lb L.nd i=Y (x,a,n)):Je K (.ref a)=true:=Vo (f:=λx:AO×Nat×Nat=>Je K<|.ref x.2.1) ((AB _ _).mp T.B).1 h
def Tt.dn{x:AO}{a n:Nat}(i:Nat)(h:Lb L.nd i=Y (x,a,n)):mg x=Y (.ref a):=T.g _ _<|JY (A3o (λx=>x.2.1) T.A) h
def Tt.df{x:AO}{a n:Nat}(i:Nat)(h:Lb L.nd i=Y (x,a,n)):L2.Yo K x x (QU p n) a (EH K a):=va (JY T.D h)<|T.dk i h
def Tt.de{x:AO}{a n:Nat}(i:Nat)(h:Lb L.nd i=Y (x,a,n)):fv K a=fx x x (QU p n) .none:=JY T.D h
def Tt.nr{x:AO}{a:Nat}(i:Nat)(h:Lb L.nc i=Y (x,a)):nsIn K Ca x=Y (Y<|.ref a):=JY (A3o (λx=>x.2.2.1) T.A) h
def Tt.mc{x:AO}{a:Nat}(i:Nat)(h:Lb L.nc i=Y (x,a)):mg x=Y (.ref a):=T.g _ _<|T.nr i h
def Tt.mB2{x q:AO}{a n j:Nat}(i:Nat)(h:Lb L.md i=Y (a,x,q,n,j)):Je K (.ref a)=Z/\isFn K (.ref a)=true:=(AB _ _).mp<|Vo (f:=λx:Nat×AO×AO×Nat×Nat=>Je K (.ref x.1) &&isFn K (.ref x.1)) ((AB _ _).mp ((AB _ _).mp T.B).2).1 h
def Tt.mf{x q:AO}{a n j:Nat}(i:Nat)(h:Lb L.md i=Y (a,x,q,n,j)):L2.Yo K x q (L2.Ch (QU p n) j) a (EH K a):=va (JY (A3o (λx=>x.1) T.M) h) (T.mB2 i h).1
def Tt.fnd{c a:Nat}{x:AO}(i:Nat)(h:Lb L.fr i=Y (c,x,a)):Dq K (.ref c) x=Y (Y<|.ref a):=JY (A3o (λx=>x.2.2.2.1) T.A) h
def Tt.me{c a n j:Nat}{x y q:AO}(i z:Nat)(h:Lb L.fr i=Y (c,x,a))(h':Lb L.md z=Y (a,y,q,n,j)):qJ K c x a:={T.fnd i h,(T.mB2 z h').2,(T.mB2 z h').1}
def Tt.fo{c:Nat}{x:AO}(i:Nat)(h:Lb L.fz i=Y (c,x)):Dq K (.ref c) x=Y none:=JY (A3o (λx=>x.2.2.2.2.1) T.A) h
def Tt.fw{c:Nat}{x:AO}{s:String}(i:Nat)(h:Lb L.fb i=Y (c,x,s)):Dq K (.ref c) x=Y (Y<|.builtin s):=JY (A3o (λx=>x.2.2.2.2.2.1) T.A) h
def Tt.mn{i:Nat}:Lb (L.mA K) i=Lb L.nA i:=Wu (A3o (λx=>x.2.2.2.2.2.2.2.2) T.A) i
def Tt.cB{c:Nat}(i:Nat)(h:Lb L.cl i=Y c):RT K c:=by let z:=Vo (f:=λc=>plainGet K c Mb&& (hasDictIn K c&&plainOver K c)) ((AB _ _).mp ((AB _ _).mp ((AB _ _).mp T.B).2).2).1 h;let j:=(AB _ _).mp ((AB _ _).mp z).2;show{((AB _ _).mp z).1,j.1,j.2,JY (A3o (λx=>x.2.2.2.2.2.2.1) T.A) h}
def Tt.cC{c:Nat}(i:Nat)(h:Lb L.cl i=Y c):Dq K (.ref c) "__class__"=Y (Y<|.builtin "object.__class__"):=JY (A3o (λx=>x.2.2.2.2.2.2.2.1) T.A) h
def Tt.cr{c:Nat}(i:Nat)(h:Lb L.cl i=Y c):mroIn K c (.type "object")=Y true:=JY (A3o (λx=>x.1) T.C) h
def Tt.mks{c:Nat}(i:Nat)(h:Lb L.ms i=Y c):makesIn K c=Z/\Je K (.ref c)=true:=(AB _ _).mp<|Vo (f:=λc=>makesIn K c&&Je K (.ref c)) ((AB _ _).mp ((AB _ _).mp ((AB _ _).mp ((AB _ _).mp T.B).2).2).2).1 h
def Tt.kds{c:Nat}(i:Nat)(h:Lb L.kd i=Y c):Je K (.ref c)=Z/\isFn K (.ref c)=true:=(AB _ _).mp<|Vo (f:=λc=>Je K (.ref c) &&isFn K (.ref c)) ((AB _ _).mp ((AB _ _).mp ((AB _ _).mp ((AB _ _).mp ((AB _ _).mp T.B).2).2).2).2).1 h
def Tt.mb:L.mB K=true:=((AB _ _).mp ((AB _ _).mp ((AB _ _).mp ((AB _ _).mp ((AB _ _).mp T.B).2).2).2).2).2
def Tt.q{a c:Nat}{b:Bool}(i:Nat)(h:Lb L.kr i=Y (a,c,b)):HN K (.ref a) (.ref c)=Y b:=JY (A3o (λx=>x.2.1) T.C) h
def Tt.qt{a:String}{c:Nat}{b:Bool}(i:Nat)(h:Lb L.kt i=Y (a,c,b)):HN K (.type a) (.ref c)=Y b:=JY (A3o (λx=>x.2.2.1) T.C) h
def Tt.cn{i:Nat}:Lb (L.mC K) i=Lb L.nC i:=Wu (A3o (λx=>x.2.2.2) T.C) i
def Tt.ui{x:AO}{n:Int}(i:Nat)(h:Lb L.ni i=Y (x,n)):∃t,mg x=Y (.int n t):=A0k (f:=λt=>.int n t) T.g<|uQ (JY (A3o (λx=>x.1) T.I) h)
def Tt.us{x n:AO}(i:Nat)(h:Lb L.ns i=Y (x,n)):∃t,mg x=Y (.str n t):=A0k (f:=λt=>.str n t) T.g<|G8 (JY (A3o (λx=>x.2.1) T.I) h)
def Tt.in_{i:Nat}:Lb (L.mI K) i=Lb L.nI i:=Wu (A3o (λx=>x.2.2.1) T.I) i
def Tt.xn{i:Nat}:Lb (L.mX K) i=Lb L.nX i:=Wu (A3o (λx=>x.2.2.2) T.I) i
def Tt.en{i:Nat}:Lb (L.mD K) i=Lb (L.nD p) i:=Wu (A3o (λx=>x.2) T.M) i
end
abbrev FB(x q:AO)(st:JW)(us:List Ay)(ps:List AO):Prop:=∀(kV doc pm:Ay) (an:Option AH) (cdv ct:Ay),bindArgs (fnOf x q (Jq st) (GJ st) (AV st) .none kV doc pm an cdv ct) {us,[]}=ID (ps.zip us)
variable{x q:AO}{st:JW}{a n i:Nat}{fd:Eu}{p1 p2 p3 p4 p5 p6:AO}
def b1(F:L2.Yo K x q st a fd)(h:∀u,FB x q st [u] [p1]):EB K fd [p1] []:=F.binds λ_ _ _ _ _ _ us j=>by let(_,O):=A7 j;show h _ ..
def b2(F:L2.Yo K x q st a fd)(h:∀u v,FB x q st [u,v] [p1,p2]):EB K fd [p1,p2] []:=F.binds λ_ _ _ _ _ _ us j=>by let(_,_,O):=A6 j;show h _ _ ..
def b3(F:L2.Yo K x q st a fd)(h:∀u v z,FB x q st [u,v,z] [p1,p2,p3]):EB K fd [p1,p2,p3] []:=F.binds λ_ _ _ _ _ _ us j=>by let(_,_,_,O):=X5 j;show h _ _ _ ..
def b4(F:L2.Yo K x q st a fd)(h:∀u v z y,FB x q st [u,v,z,y] [p1,p2,p3,p4]):EB K fd [p1,p2,p3,p4] []:=F.binds λ_ _ _ _ _ _ us j=>by let(_,_,_,_,O):=rW j;show h _ _ _ _ ..
def b6(F:L2.Yo K x q st a fd)(h:∀u v z y t s,FB x q st [u,v,z,y,t,s] [p1,p2,p3,p4,p5,p6]):EB K fd [p1,p2,p3,p4,p5,p6] []:=F.binds λ_ _ _ _ _ _ us j=>by let(_,_,_,_,_,_,O):=A5 j;show h _ _ _ _ _ _ ..
section
variable(T:Tt L p K mg)
include T
def Tt.d1(i:Nat)(h:Lb L.nd i=Y (x,a,n))(b:∀u,FB x x (QU p n) [u] [p1]):Dm K mg x a [p1]:={T.dn i h,T.dk i h,b1 (T.df i h) b}
def Tt.d2(i:Nat)(h:Lb L.nd i=Y (x,a,n))(b:∀u v,FB x x (QU p n) [u,v] [p1,p2]):Dm K mg x a [p1,p2]:={T.dn i h,T.dk i h,b2 (T.df i h) b}
def Tt.d3(i:Nat)(h:Lb L.nd i=Y (x,a,n))(b:∀u v z,FB x x (QU p n) [u,v,z] [p1,p2,p3]):Dm K mg x a [p1,p2,p3]:={T.dn i h,T.dk i h,b3 (T.df i h) b}
def Tt.d4(i:Nat)(h:Lb L.nd i=Y (x,a,n))(b:∀u v z y,FB x x (QU p n) [u,v,z,y] [p1,p2,p3,p4]):Dm K mg x a [p1,p2,p3,p4]:={T.dn i h,T.dk i h,b4 (T.df i h) b}
def Tt.d6(i:Nat)(h:Lb L.nd i=Y (x,a,n))(b:∀u v z y t s,FB x x (QU p n) [u,v,z,y,t,s] [p1,p2,p3,p4,p5,p6]):Dm K mg x a [p1,p2,p3,p4,p5,p6]:={T.dn i h,T.dk i h,b6 (T.df i h) b}
end
end HL
namespace L2
open PySem PySem.W
def fJ{X:Cx}{k:Nat}{f:AH}{ps:List AO}{sp:Sp}{x:AO}{p pos:IZ}{e:Expr}{es:List Expr}{t:TA}(F:EY X.prog X.w X.K X.mg X.base ZM k f (HL.EH X.K f) ps sp)(U:EX k X.A)(D:HL.Dm X.K X.mg x f ps)(ha:PA X (e::es) t)(hg: ~~~(X.env.kindOf x=Y .globalImplicit))(hc: ~~~(X.calm=true))(z:↑((x==("__debug__" :AO))=false))(he: ~~~(Br (e::es) X.env=(ge,Dh e X.env)::Br es X.env))(j: ~~~((DK pos<|Br es X.env).any (·.1)=false)):
  PE X (.Call (.Name x p) (e::es) [] pos) (er sp [] E0 t):=lT F U hg D.m D.k D.b .nil (ES hc) ha z he j
end L2
namespace K9
open PySem PySem.W HL L2
abbrev top(i:Nat):JW:=QU BI i
abbrev keep:List Nat:=[105]
def bB(K:Fn):List Bool:=[hdB K 680 678,rA K 4,Je K<|.ref 111,Je K<|.ref 149,excIn K 31 nq "ValueError.__new__",readsIn K 31<|.type "type",fcB K 31 "__init__" "ValueError.__init__",hasDictIn K 111,hasDictIn K 149]
def lL:Ls where
 nz:=["len","range","isinstance","max","min","sum","all","ord","sorted","enumerate","int","bool","list","tuple","str","set","ValueError"]
 nd:=Si [("is_whole",197,19),("is_among",204,20),("is_made_of",209,21),("is_name",216,22),("number_text",223,23),("number_of",230,24),("truth_text",237,25),("truth_of",244,26),("words_of",251,27),("is_sign",258,36),("own_default",654,46),("own_fields",681,48),("own_numbers",686,49),("are_unlike",774,59),("is_of_size",781,60),("are_named_fields",786,61),("are_numbered",791,62),("is_thing_kind",798,63),("is_kind",805,64),("is_blank",812,65),("is_default",819,66),("field_weight",826,67),("form_weight",831,68),("fault_of",836,69),("need_forms",843,70),("default_word",885,72),("field_line",892,73),("form_lines",897,74),("book_lines",904,75),("word_at",911,76),("thing_kind_at",918,77)] ([("kind_at",925,78),("default_of",932,79),("field_in",939,80),("takes_line",986,82),("book_of",991,83),("_law_number",998,85),("_law_mixed",1005,86),("_law_names",1010,87),("_law_plain",1017,88),("_law_kind",1024,89),("_law_blank",1031,90),("_law_default",1038,91),("_law_field",1045,92),("_law_load",1052,93),("_law_weight",1057,94),("_law_spec",1062,95),("_law_alone",1069,96),("_law_words",1074,97),("_law_line",1081,98),("_law_lines",1086,99),("_law_wrong",1093,100),("_law_said",1100,101),("_law_bent",1105,102),("_law_faults",1112,103),("_law_wrong_book",1117,104),("law",1124,105)])
 nc:=[("FormError",31),("BadNumber",44),("BadRow",56),("BadCheck",68),("NoKey",80),("BadVersion",92),("BadBook",111),("BadValue",130),("BadText",149),("BadWire",168),("NotKin",187),("Kind",317),("Truth",359),("Count",392),("Whole",425),("Upto",479),("Text",532),("List",591),("Nested",645),("Field",672),("Record",746),("Choice",765),("Book",874),("Draft",975),("TRUTHS",190),("__builtins__",4)]
 md:=Si [(108,"__init__","BadBook.__init__",8,0),(146,"__init__","BadText.__init__",10,0),(279,"words","Kind.words",37,1),(286,"is_plain","Kind.is_plain",37,2),(314,"blank","Kind.blank",37,6),(335,"word","Truth.word",38,0),(349,"suits","Truth.suits",38,2),(356,"blank","Truth.blank",38,3),(375,"word","Count.word",39,0),(382,"suits","Count.suits",39,1),(389,"blank","Count.blank",39,2),(408,"word","Whole.word",40,0),(415,"suits","Whole.suits",40,1),(422,"blank","Whole.blank",40,2),(441,"__init__","Upto.__init__",41,0),(455,"words","Upto.words",41,2),(469,"suits","Upto.suits",41,4),(476,"blank","Upto.blank",41,5),(510,"words","Text.words",42,2),(522,"suits","Text.suits",42,4),(529,"blank","Text.blank",42,5),(548,"__init__","List.__init__",43,0),(562,"words","List.words",43,2),(569,"is_plain","List.is_plain",43,3),(581,"suits","List.suits",43,5),(588,"blank","List.blank",43,6),(607,"__init__","Nested.__init__",44,0),(621,"words","Nested.words",44,2),(628,"is_plain","Nested.is_plain",44,3),(642,"suits","Nested.suits",44,5),(708,"is_choice","Form.is_choice",50,1)] ([(715,"field_at","Form.field_at",50,2),(722,"field_of","Form.field_of",50,3),(729,"true_fields","Form.true_fields",50,4),(762,"is_choice","Choice.is_choice",52,0),(857,"__init__","Book.__init__",71,0),(864,"form_of","Book.form_of",71,1),(871,"head","Book.head",71,2),(953,"__init__","Draft.__init__",81,0),(960,"made","Draft.made",81,1),(965,"takes_words","Draft.takes_words",81,2),(972,"takes_gone","Draft.takes_gone",81,3)])
 fr:=Si [(317,"blank",314),(359,"words",279),(359,"is_plain",286),(359,"suits",349),(359,"blank",356),(359,"word",335),(392,"words",279),(392,"is_plain",286),(392,"suits",382),(392,"blank",389),(392,"word",375),(425,"words",279),(425,"is_plain",286),(425,"suits",415),(425,"blank",422),(425,"word",408),(479,"__init__",441),(479,"words",455),(479,"is_plain",286),(479,"suits",469),(479,"blank",476),(532,"__init__",496),(532,"words",510),(532,"is_plain",286),(532,"suits",522),(532,"blank",529),(591,"__init__",548),(591,"words",562),(591,"is_plain",569),(591,"suits",581),(591,"blank",588)] ([(645,"__init__",607),(645,"words",621),(645,"is_plain",628),(645,"suits",642),(645,"blank",314),(672,"__init__",669),(746,"__init__",701),(746,"is_choice",708),(765,"__init__",701),(765,"is_choice",762),(874,"__init__",857),(975,"__init__",953),(975,"made",960),(975,"takes_words",965),(975,"takes_gone",972)])
 fz:=[(479,"most"),(532,"most"),(591,"item"),(645,"name"),(672,"number"),(672,"name"),(672,"kind"),(672,"must"),(672,"default"),(732,"name"),(732,"fields"),(732,"gone"),(746,"name"),(746,"fields"),(746,"gone"),(765,"name"),(765,"fields"),(765,"gone"),(874,"forms"),(874,"weights"),(975,"choice"),(975,"name"),(975,"fields"),(975,"gone")]
 fb:=[(359,"__init__","object.__init__"),(392,"__init__","object.__init__"),(425,"__init__","object.__init__")]
 cl:=[317,359,392,425,479,532,591,645,672,732,746,765,874,975]
 ms:=[359,392,425,479,532,591,645,672,746,765,874,975]
 kr:=Si [(317,317,Z),(317,359,ge),(317,392,ge),(317,425,ge),(317,479,ge),(317,532,ge),(317,591,ge),(317,645,ge),(359,317,Z),(359,359,Z),(359,392,ge),(359,425,ge),(359,479,ge),(359,532,ge),(359,591,ge),(359,645,ge),(392,317,Z),(392,359,ge),(392,392,Z),(392,425,ge),(392,479,ge),(392,532,ge),(392,591,ge),(392,645,ge),(425,317,Z),(425,359,ge),(425,392,ge),(425,425,Z),(425,479,ge),(425,532,ge),(425,591,ge)] (Si [(425,645,ge),(479,317,Z),(479,359,ge),(479,392,ge),(479,425,ge),(479,479,Z),(479,532,ge),(479,591,ge),(479,645,ge),(532,317,Z),(532,359,ge),(532,392,ge),(532,425,ge),(532,479,ge),(532,532,Z),(532,591,ge),(532,645,ge),(591,317,Z),(591,359,ge),(591,392,ge),(591,425,ge),(591,479,ge),(591,532,ge),(591,591,Z),(591,645,ge),(645,317,Z),(645,359,ge),(645,392,ge),(645,425,ge),(645,479,ge),(645,532,ge)]<|[(645,591,ge),(645,645,Z),(732,746,ge),(732,765,ge),(746,746,Z),(746,765,ge),(765,746,ge),(765,765,Z),(672,672,Z),(111,44,ge),(111,56,ge),(111,111,Z),(111,130,ge),(111,149,ge),(111,168,ge),(111,68,ge),(111,187,ge),(111,80,ge),(111,92,ge),(149,44,ge),(149,56,ge),(149,111,ge),(149,130,ge),(149,149,Z),(149,168,ge),(149,68,ge),(149,187,ge),(149,80,ge),(149,92,ge)])
 kt:=[("NoneType",317,ge),("NoneType",359,ge),("NoneType",392,ge),("NoneType",425,ge),("NoneType",479,ge),("NoneType",532,ge),("NoneType",591,ge),("NoneType",645,ge),("NoneType",672,ge),("str",317,ge),("str",359,ge),("str",392,ge),("str",425,ge),("str",479,ge),("str",532,ge),("str",591,ge),("str",645,ge),("str",672,ge),("NoneType",746,ge),("NoneType",765,ge),("str",746,ge),("str",765,ge),("int",746,ge),("int",765,ge),("list",746,ge),("list",765,ge),("dict",746,ge),("dict",765,ge)]
 ni:=[("MOST_LETTERS",12),("MOST_FIGURES",80),("MOST_NUMBER",115792089237316195423570985008687907853269984665640564039457584007913129639935),("MOST_WHOLE",57896044618658097711785492504343953926634992332820282019728792003956564819967),("MOST_SIGNS",100),("MOST_THINGS",20),("LEAST_SIGN",32),("MOST_SIGN",126),("PERCENT_SIGN",37),("MOST_FORMS",8),("MOST_FIELDS",10),("MOST_GONE",10),("MOST_FIELD_NUMBER",200),("MOST_WEIGHT",100)]
 ns:=[("LETTERS","abcdefghijklmnopqrstuvwxyz"),("FIGURES","0123456789")]
 kd:=[496,669,701]
 nA:=[Y (Y<|.builtin "getset_descriptor.__get__"),Y<|Y (.builtin "object.__setattr__"),Y<|Y (.builtin "object.__setattr__"),Y<|Y (.builtin "type.__getattribute__"),Y S,Y S,Y<|Y (.builtin "BaseException.__getattribute__"),Y S,Y<|Y (.builtin "object.__class__"),Y S,Y<|Y (.builtin "BaseException.__getattribute__"),Y S,Y<|Y (.builtin "object.__class__")]
 nC:=[Y Z,Y Z,Y Z,Y Z,Y Z,Y Z,Y Z,Y Z,Y Z,Y Z]
 nI:=[Y 680,Y 100,Y 1,Y 10,Y 11]
 nX:=[xx 111 31 108,xx 149 31 146]
 mA K:=[specialIn K (.builtin "object.__class__") "__get__",Dq K (.ref 111) "__setattr__",Dq K (.ref 149) "__setattr__",specialIn K (.ref 31) "__getattribute__",Dq K (.ref 111) "place",Dq K (.ref 111) "why",Dq K (.ref 111) "__getattribute__",Dq K (.ref 111) "__getattr__",Dq K (.ref 111) "__class__",Dq K (.ref 149) "place",Dq K (.ref 149) "__getattribute__",Dq K (.ref 149) "__getattr__",Dq K (.ref 149) "__class__"]
 mB K:=(bB K).all id
 mC K:=[HN K (.ref 111) (.type "ValueError"),HN K (.ref 149)<|.type "ValueError",takesIn K<|.builtin "object.__class__",mroIn K 31<|.type "ValueError",mroIn K 111<|.type "object",mroIn K 111<|.type "BaseException",mroIn K 149<|.type "object",mroIn K 149<|.type "BaseException",exmOne K (.ref 111)<|.ref 31,exmOne K (.ref 149)<|.ref 31]
 mD K:=[fv K 496,fv K 669,fv K 701]
 nD p:=[fx "__init__" "Text.__init__" (Ch (QU p 42) 0) (.ref 489),fx "__init__" "Field.__init__" (Ch (QU p 47) 0)<|.ref 662,fx "__init__" "Form.__init__" (Ch (QU p 50) 0)<|.ref 694]
 mI K:=[fcd K 681,iv<|(Lq K 489).map List.head?,(Lq K 489).map λl=>(l.length:Int),(Lq K 662).map zw,(Lq K 694).map zw]
 mX K:=[xv K 111,xv K 149]
abbrev ee:AH:=678
abbrev zu:AH:=680
noncomputable abbrev ul:List Nat:=[2,3,4,30,31,44,56,68,80,92,107,108,110,111,130,145,146,148,149,168,187,190,196,197,203,204,208,209,215,216,222,223,229,230,236,237,243,244,250,251,257,258,278,279,285,286,313,314,316,317,334,335,348,349,355,356,358,359,374,375,381,382,388,389,391,392,407,408,414,415,421,422,424,425,440,441,454,455,468,469,475,476,478,479,489,495,496,509,510,521,522,528,529,531,532,547,548,561,562,568,569,580,581,587,588,590,591,606,607,620,621,627,628,641,642,644,645,653,654,662,668,669,671,672,680,681,685,686,694,700,701,707,708,714,715,721,722,728,729,731,732,745,746,761,762,764,765,773,774,780,781,785,786,790,791,797,798,804,805,811,812,818,819,825,826,830,831,835,836,842,843,856,857,863,864,870,871,873,874,884,885,891,892,896,897,903,904,910,911,917,918,924,925,931,932,938,939,952,953,959,960,964,965,971,972,974,975,985,986,990,991,997,998,1004,1005,1009,1010,1016,1017,1023,1024,1030,1031,1037,1038,1044,1045,1051,1052,1056,1057,1061,1062,1068,1069,1073,1074,1080,1081,1085,1086,1092,1093,1099,1100,1104,1105,1111,1112,1116,1117,1123,1124]
abbrev Tx(K:Fn)(mg:AO->Option Ay):Prop:=Tt lL BI K mg
def x4(s:AJ):=let K:=KO ul s.heap;(oB lL K,oC lL K,oD lL K,oM lL K,oI lL K,sd s.heap 678)
def A0j(p:Bv):=(Z,eC lL,eD lL p,eM lL p,eI lL,Z)
def M3(s:AJ):Option DV:=dvK (KO ul s.heap) 190
def A0i(w:BP):Option DV:=dvX w [("yes",Z),("no",ge)]
def obs(s:AJ):=((oA lL<|KO ul s.heap,x4 s),M3 s)
def exp(p:Bv)(w:BP):=((eA lL,A0j p),A0i w)
abbrev tp:Bv:=BI
noncomputable abbrev lo:List AO:=(["_wall","FormError","BadNumber","BadRow","BadCheck","NoKey","BadVersion","BadBook","BadValue","BadText","BadWire","NotKin","LETTERS","FIGURES","MOST_LETTERS","MOST_FIGURES","TRUTHS","is_whole","is_among","is_made_of","is_name","number_text","number_of","truth_text","truth_of","words_of","MOST_NUMBER","MOST_WHOLE","MOST_SIGNS","MOST_THINGS","LEAST_SIGN","MOST_SIGN"]:List AO) ++ (["PERCENT_SIGN","is_sign","Kind","Truth","Count","Whole","Upto","Text","List","Nested","own_default","Field","own_fields","own_numbers","Form","Record","Choice","MOST_FORMS","MOST_FIELDS","MOST_GONE","MOST_FIELD_NUMBER","MOST_WEIGHT","are_unlike","is_of_size","are_named_fields","are_numbered","is_thing_kind","is_kind","is_blank","is_default","field_weight","form_weight"]:List AO) ++ (["fault_of","need_forms","Book","default_word","field_line","form_lines","book_lines","word_at","thing_kind_at","kind_at","default_of","field_in","Draft","takes_line","book_of","_law_number","_law_mixed","_law_names","_law_plain","_law_kind","_law_blank","_law_default","_law_field","_law_load","_law_weight","_law_spec","_law_alone","_law_words","_law_line","_law_lines","_law_wrong","_law_said"]:List AO) ++ (["_law_bent","_law_faults","_law_wrong_book"]:List AO)
def h1:opening tp=plainProg tp.main.scope.names:=by kernel_rfl
def h2(s:AJ):fenceModules? tp s=Y s:=by kernel_rfl
def hsz(P:Params): (Fs P).isNs Ca=Z/\(Fs P).objs.size=11/\(Fs P).nsMap Ca "__annotations__"=Mz:={by kernel_rfl,by kernel_rfl,by kernel_rfl}
def RA(w:BP)(os:EZ):Vt iu tp w 11 Mz 12 (nB w os) (topStub tp)=Y ((S0 w os).abs,{RI iu<|code tp,code tp,HE,[Ie HE]}):=by kernel_rfl
def jU(w:BP)(s:AJ):QY iu tp w 11 Mz 1 1 s (blockOf (FY tp) (env tp) (code tp) HE [Ie HE])=Y (.next,s,code tp,HE):=by kernel_rfl
abbrev ps_:IZ:={705,0,728,45}
abbrev Ru{j:Type}(w:BP)(os:EZ)(F:Hh->j)(a:j):Prop:=(R tp 60000 w os).map (λx=>(x.1,x.2.2,F x.2.1))=Y (.next,(code tp,ps_),a)
abbrev wB(b:Bool)(w:BP):BP:=w.withFollow "special-get-raises" b
def RF(l:List Nat)(y:Hh):Fn:=l.filterMap λa=>((bif Nat.blt a y.n then alive ((y.tree.get a).getD default)else S).map λo=>(a,o))
def WW(l:List Nat)(y:Hh):KO l y.abs.heap=RF l y:=by
 let h (a:Nat):y.abs.heap.get? a=bif Nat.blt a y.n then alive ((y.tree.get a).getD default)else none:=by
  change(absHeap y.tree y.n y.life).get? a=_;by_cases h:a<y.n;·rw[show Nat.blt a y.n=Z from Nat.ble_eq_true_of_le h,cond_true];unfold Heap.get?;rw[absHeap_at,A3n h];rcases(y.tree.get a).getD default with⟨c,d,j,sl⟩;cases j <;> rfl
  rw[abs_get_none h,show Nat.blt a y.n=ge from HD.mpr λe=>h<|Nat.le_of_ble_eq_true e];rfl
 unfold KO RF;simp only[h]
def f1(w:BP)(y:Hh):=(TW tp (view tp keep) lo w.params y.abs,sd y.abs.heap 678,dvK (RF ul y) 190)
def f2(y:Hh):=(oA lL<|RF ul y,oI lL<|RF ul y)
def f3(y:Hh):=(oB lL<|RF ul y,oC lL<|RF ul y)
def f4(y:Hh):=(oD lL<|RF ul y,oM lL<|RF ul y)
def x1(w:BP):=(aM (view tp keep) lo,Z,A0i w)
def q1F(w:BP)(os:EZ):Ru (wB ge w) os (f1<|wB ge w) (x1<|wB ge w):=by kernel_rfl
def q1T(w:BP)(os:EZ):Ru (wB Z w) os (f1<|wB Z w) (x1<|wB Z w):=by kernel_rfl
def q2F(w:BP)(os:EZ):Ru (wB ge w) os f2 (eA lL,eI lL):=by kernel_rfl
def q2T(w:BP)(os:EZ):Ru (wB Z w) os f2 (eA lL,eI lL):=by kernel_rfl
def q3F(w:BP)(os:EZ):Ru (wB ge w) os f3 (Z,eC lL):=by kernel_rfl
def q3T(w:BP)(os:EZ):Ru (wB Z w) os f3 (Z,eC lL):=by kernel_rfl
def q4F(w:BP)(os:EZ):Ru (wB ge w) os f4 (eD lL tp,eM lL tp):=by kernel_rfl
def q4T(w:BP)(os:EZ):Ru (wB Z w) os f4 (eD lL tp,eM lL tp):=by kernel_rfl
def rr{j:Type}{F:BP->Hh->j}{a:BP->j}(D:∀w os,Ru (wB ge w) os (F<|wB ge w)<|a (wB ge w))(z:∀w os,Ru (wB Z w) os (F<|wB Z w)<|a (wB Z w))(w:BP)(os:EZ):Ru w os (F w) (a w):=byRow2 "special-get-raises" (P:=λw=>Ru w os (F w)<|a w) (λw=>D w os) (λw=>z w os) w
def mp{z j:Type}{w:BP}{os:EZ}{F:Hh->z}{G:Hh->j}{a:z}{b:j}(h1:Ru w os F a)(h:∀y,F y=a->G y=b):Ru w os G b:=by
 unfold Ru at *;cases e:R tp 60000 w os with
 |none=>rw[e]at h1;cases h1
 |some x=>
  rw[e]at h1;let D:=AK h1;change Y (x.1,x.2.2,G x.2.1)=_;rw[h x.2.1 (A3o (λy=>y.2.2) D)];show A3o (λy=>Y (y.1,y.2.1,b)) D
def jn{z j:Type}{w:BP}{os:EZ}{F:Hh->z}{G:Hh->j}{a:z}{b:j}(h1:Ru w os F a)(h2:Ru w os G b):Ru w os (λy=>(F y,G y)) (a,b):=by
 unfold Ru at *;cases e:R tp 60000 w os with
 |none=>rw[e]at h1;cases h1
 |some x=>
  rw[e]at h1 h2;let D:=AK h1;let f1:F x.2.1=a:=A3o (λy=>y.2.2) D;let f2:G x.2.1=b:=A3o (λy=>y.2.2)<|AK h2;change Y (x.1,x.2.2,(F x.2.1,G x.2.1))=_;rw[f1,f2];show A3o (λy=>Y (y.1,y.2.1,(a,b))) D
def g1(w:BP)(os:EZ):Ru w os (f1 w) (x1 w):=rr q1F q1T w os
def g2(w:BP)(os:EZ):Ru w os f2 (eA lL,eI lL):=rr (F:=λ_=>f2) (a:=λ_=>(eA lL,eI lL)) q2F q2T w os
def yT(w:BP)(os:EZ):Ru w os (λy=>x4 y.abs) (A0j tp):=by show mp (jn (g1 w os)<|jn (g2 w os) (jn (rr (F:=λ_=>f3) (a:=λ_=>(Z,eC lL)) q3F q3T w os)<|rr (F:=λ_=>f4) (a:=λ_=>(eD lL tp,eM lL tp)) q4F q4T w os)) λy e=>?_;change(λK=>(oB lL K,oC lL K,oD lL K,oM lL K,oI lL K,sd y.abs.heap 678)) (KO ul y.abs.heap)=_;rw[WW];show A3o (λz=>(z.2.2.1.1,z.2.2.1.2,z.2.2.2.1,z.2.2.2.2,z.2.1.2,z.1.2.1)) e
def left:LeftO BI (view BI keep) lo (λs=>xlAt (view BI keep) [] s&&recOk [] s) obs (exp BI) 60100:=by
 show uJ (n:=60000) h1 h2 RA jU (λw os=>mp (g1 w os) λy e=>A3o (λz=>z.1) e) (λw os=>mp (G:=λy=>oA lL<|KO ul y.abs.heap) (g2 w os) λy e=>?_) yT (λw os=>mp (G:=λy=>M3 y.abs) (g1 w os) λy e=>?_) hsz O Aa;·rw[WW];show A3o (λz=>z.1) e
 unfold M3;rw[WW];show A3o (λz=>z.2.2) e
end K9
namespace L2
open PySem PySem.Spec PyProof.Rows
section
variable{X:Cx}
end
section
variable{X:Cx}{E:XK}
variable{cm:Bool}{k:Nat}{f C:AH}{fd:Eu}{ps:List AO}{sp:Sp}{m:AO}{pos apos:IZ}{e o:Expr}{es:List Expr}{ta:TE}{t:TA}{pl:Sem Bool}
end
end L2
namespace L2
open PySem PySem.W PyProof PyProof.Rows
section
variable{X:Cx}
def pQ(h:IntsAre j ns):CB (ns.map V.int) j:=by induction h with|nil=>show .nil|cons n t h z=>show .cons {(t),O} z
def My:FK X (.builtin "sorted") (λxs H Q=>∃(p:AH) (ns:List Int),xs=[.ref p]/\BX X.K H p (ns.map V.int)/\ns.length<64/\∀l,H l=S->Q (.ref l) (upd H l<|.lst ((sortI ns).map V.int))):=by
 intro 0 xs us Q I r h;let(p,ns,O,hq,a9,q):=h;let(u,O,rx):=Lo r;cases rx;let(z,F,pl,hz):=I.list hq;let U:z.length=ns.length:=by rw[<-F.length,Aw]
 show sorted_ints pl.isList (WP F) () λj D a1 a2 a3=>?_;let(e,he):=sortedAll_at s.heap z j;let en:D=sortI ns:=eq_sortI a2 a3;subst en;show{.ref<|↑s+1,_,I.laid (t':=s.toks) (λ_ _=>sortedAll_old) (Da _) (show Dk X.prog X.w _ _ _ (.lst<|(sortI ns).map V.int)from{?_,j.toList,e,pQ a1,by simpa using he}),O,q _<|I.hok.fresh (Da _)};rw[Aw,a2.length_eq,<-Aw (f:=V.int)];show hz
end
end L2
namespace L2
open PySem PySem.Spec PySem.W PyProof PyProof.Rows
def HY{κ:Type} [DecidableEq κ](val:Nat->κ):Nat->List κ|0=>[]|i+1=>if val i∈HY val i then HY val i else HY val i++[val i]
def UU{κ:Type} [DecidableEq κ](val:Nat->κ):∀i,(HY val i).length<=i
 |0=>AU _
 |i+1=>by
  have:=UU val i;unfold HY;split
  ·lia
  rw[AI];simp;lia
def Wy{κ:Type} [DecidableEq κ](val:Nat->κ)(x:κ):∀i,x∈HY val i ↔ ∃j,j<i/\val j=x
 |0=>{(λh=>(by cases h)),(λF=>(by let(j,h,_):=F;show ()))}
 |i+1=>by
  let ih:=Wy val x i;let U:=Wy val (val i) i;unfold HY;split
  ·rename_i h;rw[ih];show{λD=>(by let(j,a,b):=D;show{j,(),b}),λz=>?_};let(j,a,b):=z;by_cases e:j=i
   ·subst e;let(k,k1,k2):=U.mp h;show{k,k1,k2.trans b}
   show{j,(),b}
  rw[Bt,ih];show{λh=>?_,λ⟨j,a,b⟩=>?_}
  ·rcases h with⟨j,a,b⟩|h
   ·show{j,(),b}
   show{i,(),(AN.mp h).symm}
  by_cases e:j=i;·subst e;show .inr<|AN.mpr b.symm
  show .inl {j,(),b}
def gd{κ:Type} [DecidableEq κ](val:Nat->κ):∀i,(HY val i).length=i ↔ ∀a b,a<b->b<i->val a≠val b
 |0=>{(λ_ a b _ h=>()),λ_=>rfl}
 |i+1=>by
  let F:=gd val i;let le:=UU val i;let mem:=Wy val (val i) i;unfold HY;split;·rename_i h;show{(λz=>()),λz=>?_};let(j,a,b):=mem.mp h;show A3p b (z j i a<|())
  rename_i h;rw[AI,FF];show{λz a b D U=>?_,λz=>?_}
  ·by_cases e:b=i
   ·subst e;show λy=>h<|mem.mpr {(a),D,y}
   show F.mp () a b D ()
  have:=F.mpr λa b D U=>z a b D ()
  lia
section
variable{prog:Bv}{w:BP}{A:CH}{R:Result->AJ->Prop}{I:AH}{fp wr:List AH}{G:Array GenState->Array GenState->Prop}{n:Nat}{P:Nat->Ay->Prop}{St:Nat->AJ->Prop}{κ:Type} [DecidableEq κ]
def ie{knd:Ky prog w κ}{h:CA}{a:AH}{Sq j:κ->Bool}{n z:Nat}(D:h.SetOf knd a Sq n)(e:∀k,Sq k=j k)(en:n=z):h.SetOf knd a j z:=by cases (funext e:Sq=j);cases en;show D
def y2(knd:Ky prog w κ)(W:WalksS prog w A.in1 I fp wr G n P St)(Sq:AH)(a4:Sq∉fp)(val:Nat->κ)(a1:∀i v,P i v->knd.is (val i) v=Z/\v.scannable=Z)(U:n+1<Yr)(d:Nat):∀(i:Nat) (s:AJ),i+d=n->St i s->s.heap.SetOf knd Sq (λx=>decide (x∈HY val i)) (HY val i).length->(∀s',Moved (Sq::wr) G s s'->s'.heap.SetOf knd Sq (λx=>decide (x∈HY val n)) (HY val n).length->R (.ok<|.ret .none) s')->Iv (model prog w) A (.builtin "set.update.loop" {[.ref Sq,.ref I],[]}) R s:=by
 let a5:Sq∉wr:=λh=>a4<|W.sub _ h;let keep:∀{s s':AJ} {T:κ->Bool} {m:Nat},Moved wr G s s'->s.heap.SetOf knd Sq T m->s'.heap.SetOf knd Sq T m:=λj a3=>(by let(o,es,ep,t,ho,r):=a3;show{o,es,ep,t,j.heap Sq _ a5 ho,r});let wide:∀{s s':AJ},Moved wr G s s'->Moved (Sq::wr) G s s':=λj=>j.mono λb U=>Bi _ U;induction d with
 |zero=>
  intro i s hi D hS q;cases (show i=n by lia);show Uh Tp ?_;rw[Around.under_plainId Iz _];show AC (m:=pyNext<|.ref I)<|W.done s _ _ D λs' j=>?_;show Bf<|q s' (wide j) (keep j hS)
 |succ d ih=>
  intro i s hi D hS q;show Uh Tp ?_;rw[Around.under_plainId Iz _];show AC (m:=pyNext<|.ref I) (W.item i s _ _ () D λv s' hP a2 j=>?_);let(k1,k2):=a1 i v hP;show AC (m:=holding [v]<|setAdd Sq v)<|En ?_;unfold setAdd;show En<|AC (knd.pyHash k1 ?_);let room: (HY val i).length+1<Yr:=by have:=UU val i;lia
  show wpAny_setAddHashed_of (knd:=knd) (s:={s' with toks:=s'.toks+1}) k1 k2 (show s'.heap.SetOf knd Sq _ _ from keep j hS) room λh' sb a9=>?_;let a8:h'.SetOf knd Sq (λx=>decide (x∈HY val (i+1))) (HY val<|i+1).length:=by
   show ie a9 (λx=>?_) ?_
   ·rw[show HY val (i+1)=if val i∈HY val i then HY val i else HY val i++[val i]from O]
    by_cases c:val i∈HY val i
    ·rw[A3n c];by_cases e:x=val i
     ·subst e;simp[c]
     simp[e]
    rw[A3m c];simp only[Bt,AN,Bool.decide_or]
   rw[show HY val (i+1)=if val i∈HY val i then HY val i else HY val i++[val i]from O]
   by_cases c:val i∈HY val i;·simp[c]
   simp[c]
  show Bf {plainId_quiet Iz _,ih (i+1) _ () (W.frame _ s' _ _ a2 (Da _) λb U o e=>?_) a8 λs2 a6 a7=>?_};·rw[sb.2 b (λz=>a4<|by rw[<-z];show U)];show e
  show q s2 (Moved.trans W.gtrans ((wide j).then_heap (Da _) λb o U e=>?_) a6) a7;rw[sb.2 b (λz=>U<|by rw[z];show Bl)];show e
end
section
variable{prog:Bv}{w:BP}{A:CH}{E:Ay->AJ->Prop}{s:AJ}{κ:Type} [DecidableEq κ]
def Na(led:Bool):Obj:={cls:=.type "set",dict:=S,data:=.set #[] 0 (.fresh 0 0 led)}
def sV(knd:Ky prog w κ){l:AH}{items:Array Ay}{led:Bool}(hh:A.handled=S)(hl:s.heap.IsList l items)(val:Nat->κ)(hv:∀i v,items[i]?=Y v->knd.is (val i) v=Z/\v.scannable=Z)(hb:items.size+1<Yr){R:Result->AJ->Prop}(h:∀(h':CA) (tk:Nat),h'.SetOf knd ↑s (λx=>decide (x∈HY val items.size)) (HY val items.size).length->(∀b o,s.heap.get? b=Y o->h'.get? b=Y o)->R (.ok<|.ret .none) {s with heap:=h',toks:=tk}):
  Bz (model prog w) A (Builtin.«set.__init__» {[.ref ↑s,.ref l],[]}) (λf s'=>∃r,f= .done (.ret r)/\R (.ok<|.ret r) s') E {s with heap:=s.heap.push (Na led)}:=by
 let(o,ho,hc,m,hd):=hl;let hS: (s.heap.push<|Na led).get? ↑s=Y (Na led):=Bx _ O;let hT:Shared.TypeIs {s with heap:=s.heap.push (Na led)} (.ref ↑s) "set":={(_),hS,O};let j: (s.heap.push<|Na led).IsList l items:={o,AD _ ho,hc,m,hd};let b3:Shared.TypeIs {s with heap:=s.heap.push (Na led)} (.ref l) "list":={_,AD _ ho,hc};let a5:=F.sub_list_set;let a6:=F.sub_list_frozenset;let a9: (DP "list"==DP "dict")=false:=by decide
 unfold Builtin.«set.__init__» noKeywords Builtin.Frozenset.updateFrom;generalize a3:pyIter=PI
 wp_walk
 subst a3;show Qc j ?_;show AC<|wpAny_runValue ?_;let lt:l<↑s:=Bs ho;let sz: (s.heap.push<|Na led).objs.size=↑s+1:=KY ..;show y2 knd ((Walks.list (by simp[hh]) _ l (by rw[sz];show BH<|JF lt) items).toS) ↑s ?_ val hv hb items.size 0 _ () {{_,Bx _ O,O,O},j.push _} ?_ λs' z a2=>?_
 ·simp only[AM,Cw,or_false,not_or];show{by rw[sz];show BH<|Ig _,JD lt}
 ·show ie ((setObjOf_fresh (knd:=knd) led).setOf (AD _ hS)<|by unfold Yr;lia) (λ_=>rfl) O
 let(h',g',d',D,U):=s';cases (show g'=s.gens from z.gens);cases (show d'=s.drawn from z.drawn);cases (show U=s.os from z.os);show Bf<|Bf {_,O,h h' D a2 λb o e=>?_};let lb:=Bs e;show z.heap b o (by simp only[AM,Cw,or_false,not_or];show{BH lb,by rw[sz];show BH<|JF lb})<|AD _ (AD _ e)
def ki(knd:Ky prog w κ)(hh:A.handled=S)(hl:s.heap.IsList l items)(val:Nat->κ)(hv:∀i v,items[i]?=Y v->knd.is (val i) v=Z/\v.scannable=Z)(hb:items.size+1<Yr)(h:∀(h':CA) (tk:Nat),h'.SetOf knd ↑s (λx=>decide (x∈HY val items.size)) (HY val items.size).length->(∀b o,s.heap.get? b=Y o->h'.get? b=Y o)->Q (.ref ↑s) {s with heap:=h',toks:=tk}):
  Bz (model prog w) A (call (.type "set") [.ref l]) Q E s:=by
 let(_,_,U):=F.called_set.mro;let z:=F.called_set.made;let D:=F.called_set.sub;let h1:=F.called_set.notType;let h2:=F.called_set.canCreate;let a6:=F.typeCall_set_1<|.ref l;let a3:=F.called_set.init.lookup;let a7:=F.called_set.init.bind<|.ref ↑s;show GD<|codeAny_of_tree (Bf (a:=_) {Code.quiet_builtin _ Ab,Uh F.entry_type_call ?_});rw[Around.under_plain (weight_type_call_type "set" [.ref l] []) O]
 repeat (any_goals (first|assumption|wp_step))
 show Go (code_set_new_1 (.ref l) (E:=E) (Q₁:=λv t=>∃led:Bool,v= .ref ↑s/\t={s with heap:=s.heap.push (Na led)}) λled=>{(led),O,O}) λr t j=>?_
 match r,j with
 |.error e,j=>show j
 |.ok (.ret v),j=>
  let(led,O,O):=j;let hT:Shared.TypeIs {s with heap:=s.heap.push (Na led)} (.ref ↑s) "set":={_,Bx _ O,O}
  repeat (any_goals (first|assumption|wp_step))
  show Go (Gp (R:=wants (λr t=>r= .none/\Q (.ref ↑s) t) E) F.called_set.init.plain F.entry_set_init<|check_set_init_1 hT ?_) λr2 t2 yT=>?_;·let fill:=sV (A:=A.in1.in1) (E:=E) (led:=led) knd (by simp[hh]) hl val hv hb (R:=wants (λr t=>r= .none/\Q (.ref ↑s) t) E) λh' tk a b=>{O,h h' tk a b};show DZ fill (λf t h=>?_) λe t h=>h;let(r,O,j):=h;show j
  match r2,yT with
  |.error e,yT=>show yT
  |.ok (.ret r),yT=>
   let(O,hq):=yT
   repeat (any_goals (first|assumption|wp_step))
end
section
variable{X:Cx}
def gQ{κ:Type} [DecidableEq κ](d:κ)(ks:List κ):Nat:=(HY (λi=>ks.getD i d) ks.length).length
def zq{κ:Type} [DecidableEq κ](d:κ)(ks:List κ):gQ d ks<=ks.length:=UU _ _
def gP{κ:Type} [DecidableEq κ](d:κ)(ks:List κ):gQ d ks=ks.length ↔ ks.Nodup:=by
 unfold gQ;rw[gd];let at_:∀{i:Nat} (hi:i<ks.length),ks.getD i d=ks[i]:=λ{i} hi=>by rw[Bj,AA hi];rfl
 change _ ↔ ks.Pairwise (·≠ ·);rw[Iw];show{λh i j hi F D=>?_,λh a b z U=>?_};·rw[<-at_ hi,<-at_ F];show h i j D F
 rw[at_ (JE z U),at_ U];show h a b _ _ z
def xj{κ:Type} [DecidableEq κ](K:Az)(mk:κ->V)(d:κ)(t:TE):TE:=λσ H Q=>t σ H λx H1=>∃(p:AH) (ks:List κ),x= .ref p/\BX K H1 p (ks.map mk)/\ks.length<=100/\Q (.int (gQ d ks:Int)) H1
def ak{κ:Type} [DecidableEq κ]{mk:κ->V}(d:κ)(knd:Ky X.prog X.w κ)(hk:∀k v,CZ (mk k) v->knd.is k v=Z/\v.scannable=Z){e:Expr}{te:TE}{x y:AO}{p1 p2 pos j:IZ}(hc:X.calm=Z)(he:PE X e te)(hg:Gl X x)(hm:X.mg x=S)(hv:Cf x=Y (.builtin "len"))(a7:Gl X y)(a5:X.mg y=S)(a2:Cf y=Y (.type "set"))(hn:↑(x≠ "__name__"))(a8:↑((x==("__debug__" :AO))=false))(a4:↑(y≠ "__name__"))(a1:↑((y==("__debug__" :AO))=false))(hs: ~~~(Br [e] X.env=[(ge,Dh e X.env)])):
  PE X (.Call (.Name x p1) [.Call (.Name y p2) [e] [] j] [] pos) (xj X.K mk d te):=by
 intro 0 Q I h;show CF<|LR I hg hm hv ?_ hn a8;show Kn (e:=.Call (.Name y p2) [e] [] j) (rest:=[]) ?_;change Bz _ _ (spliced ((ge,Dh (.Call (.Name y p2) [e] [] j) X.env)::[])) _ _ s;show Ga ?_;show CF<|LR I a7 a5 a2 ?_ a4 a1;show DW (e:=e) (rest:=[]) ?_ (by rw[hs];rfl);rw[hs];change Bz _ _ (spliced ((ge,Dh e X.env)::[])) _ _ s;show Ga<|DY (he pZ s σ H _ I h) λu s1 U=>?_;let(v,H1,I1,r1,p,ks,ev,hq,hl,q):=U;show Ix ?_;subst ev;cases r1;let(D,r',pl,hz):=I1.list hq;let z:D.length=ks.length:=by rw[<-r'.length,Aw]
 let big: (102:Nat) <Yr:=by decide
 show ki knd (I1.ok.hd hc) pl.isList (λi=>ks.getD i d) (λi v hv=>?_) (by simp only[Bu];lia) λh' tk hS a6=>?_
 ·let F:D[i]?=Y v:=by simpa using hv
  let hi:i<ks.length:=by rw[<-z];show(AQ.mp F).1
  let(u,hu,ru):=r'.get (show(ks.map mk)[i]?=Y (mk<|ks.getD i d)by rw[Be,Bj,AA hi];rfl);rw[F]at hu;cases hu;show hk _ _ ru
 let(o,es,ep,t,ho,hex,hd,_,_,_,hf,hsz):=hS;show Ix ?_;let es':es.size=gQ d ks:=by rw[hsz];unfold gQ;simp only[Bu,z]
 let b6:=zq d ks;show call_len_set (s:={s1 with heap:=h',toks:=tk}) ho hex hd hf () ?_;show{.int (gQ d ks:Int),H1,I1.kept (t':=tk+1+1) a6,{tk+1,by rw[es']},q}
def fu(k:Int)(v:Ay)(h:CZ (.int k) v): (intKind prog w).is k v=Z/\v.scannable=true:=by let(t,O):=h;show{intKind_is _ _ _ _,O}
def ft(k:AO)(v:Ay)(h:CZ (.str k) v): (PySem.strKind prog w).is k v=Z/\v.scannable=true:=by let(t,O):=h;show{strKind_is _ _ _ _,O}
end
section
variable{X:Cx}
def Qb(hc:X.calm=Z):FK X (.builtin "min") (λxs H Q=>∃(p:AH) (ns:List Int),xs=[.ref p]/\BX X.K H p (ns.map V.int)/\0<ns.length/\∀M,M∈ns->(∀a∈ns,M<=a)->Q (.int M) H):=by
 intro 0 xs us Q I r h;let(p,ns,O,hq,D,q):=h;let(u,O,U):=Lo r;cases U;let(a2,r',pl,hz):=I.list hq;let hi:=WP r';let F:=pl.isList;let(ys,e):=hi.allInts.items;let z:ns=ys.toList.map (·.1):=by rw[<-hi.numsOf,<-nums_intItems,<-e]
 let hsz:0<ys.size:=by have:=D;rw[z,Aw,Ff]at this;show this
 rw[e]at F;show min_intList (I.ok.hd hc) F hsz λv h' tk hv hk=>?_;let(t,O):=intItems_at hv;let(h1,h2):=argBest_lt (numAt ys)<|ys.size - 1;show{.int _,H,I.kept (t':=tk) hk,{(t),O},q _ ?_ λa ha=>?_}
 ·rw[z,numAt_eq];show getD_mem (by rw[Aw,Ff];lia)
 rw[z]at ha;let(j,hj,O):=mem_getD ha;rw[Aw,Ff]at hj;rw[<-numAt_eq];show h2 j ()
end
end L2
namespace L2
open PySem PySem.Spec PyProof.Rows
def kg(c:AH)(q:AO):HO:=.ext λh=>h.CodeRec (.ref c) q
def pW(f:AH)(ob:Obj):HO:=.ext λh=>h.get? f=Y ob
section
variable{P:Bv}{w:BP}{H:Hp}{h:CA}
def zt(x:h.CodeRec (.ref c) q):Dk P w H h c (kg c q):=by
 show{x,?_,?_};·let(c',oc,vs,t,e,j,_):=x;cases e;show{(_),j}
 rintro h1 h2 ⟨c',oc,vs,t,e,j,hd,z⟩ k;cases e;show{_,oc,vs,t,O,k _ j,hd,z}
def mQ(x:h.get? f=Y ob):Dk P w H h f (pW f ob):={x,{(_),x},λh1 h2 e k=>k _ e}
def vE(ok:Jr P w H h)(e:H c=Y (kg c q)):h.CodeRec (.ref c) q:=(show Dk P w H h c (kg c q)from ok c _ e).1
def vb(ok:Jr P w H h)(e:H f=Y (pW f ob)):h.get? f=Y ob:=(show Dk P w H h f (pW f ob)from ok f _ e).1
end
def Ly(H:Hp)(T:AH)(pos:IZ)(q:AO):Prop:=H T=Y (.tbl #[])\/∃c,H T=Y (.tbl #[Np pos.line,Np pos.col,.ref c])/\H c=Y (kg c q)
def bi(T:AH)(H H':Hp):Prop:=∀b o,b≠T->H b=Y o->H' b=Y o
section
variable{P:Bv}{w:BP}{H:Hp}{h h':CA}{T c f:AH}{ps:Array Ay}{oc of:HO}{fs:List AH}
def E8(kx:∀b o,b≠T->h.get? b=Y o->h'.get? b=Y o)(U:H T=Y (.tbl #[]))(eT:∃o,h'.get? T=Y o)(hc:h.objs.size<=c)(hf:h.objs.size<=f)(D:H c=S)(j:H f=S):
  Un fs [] H (upd (upd (upd H T<|.tbl ps) c oc) f of) h h':=by
 let nT:∀b,H b=S->b≠T:=λb n e=>by rw[e,U]at n;cases n
 let new:∀b o,b≠T->H b=Y o->upd (upd (upd H T<|.tbl ps) c oc) f of b=Y o:=λb o n e=>by
  rw[AT (Bp e j),AT<|Bp e D,AT n];show e
 let tT:∀b o,H b=Y o->(∀qs,o≠ .tbl qs)->b≠T:=λb o e n z=>by rw[z,U]at e;show n _ (AK e).symm
 show{λb o e n _ _=>kx b o (nT b n) e,λb o e n _ _=>{o.slots,kx b o (nT b n) e},λb o e n _=>?_,λb o e _=>?_,λb xs e=>new b _ (tT b _ e λ_ z=>by cases z) e,λb o u e=>new b _ (tT b _ e λ_ z=>by cases z) e,λb qs e=>?_};·let lt:=Bs e;rw[AT (BH<|BK lt hf),AT<|BH (BK lt hc),AT<|nT b n];show n
 ·by_cases F:b=T
  ·rw[F];show eT
  show{o,kx b o F e}
 by_cases F:b=T;·subst F;rw[U]at e;cases e;show{ps,?_};rw[AT (Bp U j),AT<|Bp U D,Ax];simp
 show{#[],by rw[new b _ F e];simp}
def yU(ok:Jr P w H h)(kx:∀b o,b≠T->h.get? b=Y o->h'.get? b=Y o)(hT:H T=Y (.tbl #[]))(eT:h'.get? T=Y {cls:=.none,data:=.fields ps})(a1:H c=S)(U:H f=S)(a3:c≠f)(F:∀H:Hp,Dk P w H h' c oc)(D:∀H:Hp,Dk P w H h' f of):Jr P w (upd (upd (upd H T<|.tbl ps) c oc) f of) h':=λb o e=>by
 let new:∀b o,b≠T->H b=Y o->upd (upd (upd H T<|.tbl ps) c oc) f of b=Y o:=λb o n e=>by
  rw[AT (Bp e U),AT<|Bp e a1,AT n];show e
 let j:∀b o,H b=Y o->(∀qs,o≠ .tbl qs)->b≠T:=λb o e n z=>by rw[z,hT]at e;show n _ (AK e).symm
 by_cases hf:b=f;·subst hf;rw[Ax]at e;cases e;show D _
 rw[AT hf]at e;by_cases hc:b=c;·subst hc;rw[Ax]at e;cases e;show F _
 rw[AT hc]at e;by_cases hb:b=T;·subst hb;rw[Ax]at e;cases e;show eT
 rw[AT hb]at e;show(ok b o e).stay (λx u hx q=>kx x u ?_ q) (λx q=>new x _ (j x _ q λ_ z=>by cases z) q) λx xs q=>new x _ (j x _ q λ_ z=>by cases z) q;rcases hx with rfl|hx;·show hb
 show j x _ hx λ_ z=>by cases z
end
section
variable{X:Cx}{c T:AH}{params:Ka}{body:Expr}{scope:Scope}{pos:IZ}
inductive A0E(T:AH)(pos:IZ)(q:AO)(params:Ka)(body:Expr)(scope:Scope)(pm:Ay)(H:Hp)(Q:VK):Prop|mk (_:Ly H T pos q) (_:∀f c' ctv H',H f=none->bi T H H'->Ly H' T pos q->H' c'=some (kg c' q)->H' f=some (pW f<|Jb "<lambda>" q params body scope [] pm c' ctv)->Q (.ref f) H')
def Y5(T:AH)(pos:IZ)(q:AO)(params:Ka)(body:Expr)(scope:Scope)(pm:Ay):TE:=λ_ H Q=>A0E T pos q params body scope pm H Q
def oY(a6:defaultsOf params X.env=([],[]))(a7:closureFor scope X.env=ID [])(z:X.env.code= .ref c)(C:MG X.base c T)(hB:X.base.BuiltinsAt X.mg T):
  PE X (.Lambda params body scope pos) (Y5 T pos (X.env.qual++ "<lambda>") params body scope<|(X.mg "__name__").getD .none):=by
 rintro pZ s σ H Q I ⟨hl,q⟩;show PySem.W.kla_eval a6 ?_;let hg:s.heap.Ns Ca X.mg:=I.ok.mod.glob.keeps I.bk;let Cs:MG s.heap c T:=C.keeps I.bk;let hb:s.heap.BuiltinsAt X.mg T:=let ⟨bm,o,h1,h2,h3,h4,h5,r⟩:=hB;{bm,o,h1,h2,h3,h4,I.bk _ _ h5,r};rcases hl with U|⟨c',U,F⟩
 ·let eT:s.heap.get? T=Y (RZ #[]):=I.hok T _ U;let b4:Ca≠T:=λe=>by
   let(o,es,ep,ho,hd,_):=hg;rw[e,eT]at ho;cases ho;cases hd
  show PySem.W.kla_makeFunction a7 I.ok.glob hg z Cs eT trivial O b4 hb λc' ctv h' tk hx a2 a4 a3 b2=>?_;let D:H c'=none:=I.hok.fresh a2;let a5:↑s<=h'.objs.size:=AR a2<|GL a4;let j:H h'.objs.size=none:=I.hok.fresh a5;let kx:∀b o,b≠T->s.heap.get? b=Y o->(h'.push<|Jb "<lambda>" (X.env.qual++ "<lambda>") params body scope [] ((X.mg "__name__").getD .none) c' ctv).get? b=Y o:=λb o n e=>AD _<|hx b o n e;let a8:=AD (Jb "<lambda>" (X.env.qual++ "<lambda>") params body scope [] ((X.mg "__name__").getD .none) c' ctv) b2;let a1:c'≠h'.objs.size:=BH a4;let b0:T≠h'.objs.size:=Bp U j;let b1:T≠c':=Bp U D;let(c2,oc,vs,t,e2,b3,hd,hv):=a3;cases e2;show{.ref h'.objs.size,_,I.un (t':=tk) (E8 kx U {(_),a8} a2 a5 D j)<|yU I.hok kx U a8 D j a1 (λ_=>zt (q:=X.env.qual++ "<lambda>") {c',oc,vs,t,O,AD _ b3,hd,hv}) (λ_=>mQ<|Bx _ O),O,q _ c' ctv _ j (λb o n e=>?_) (.inr {c',?_,?_}) ?_ Ax}
  ·rw[AT (Bp e j),AT<|Bp e D,AT n];show e
  ·rw[AT b0,AT b1,Ax];rfl
  ·rw[AT a1,Ax]
  rw[AT a1,Ax]
 let eT:s.heap.get? T=Y (RZ #[Np pos.line,Np pos.col,.ref c']):=I.hok T _ U;show PySem.W.kla_makeFunctionHit (cv:=.ref c') a7 I.ok.glob hg z Cs eT trivial (by simp[codeAmong,Np]) hb λctv h' tk hk hsz=>?_;let j:H h'.objs.size=none:=I.hok.fresh hsz;let kk:∀b o,s.heap.get? b=Y o->(h'.push<|Jb "<lambda>" (X.env.qual++ "<lambda>") params body scope [] ((X.mg "__name__").getD .none) c' ctv).get? b=Y o:=λb o e=>AD _<|hk b o e;show{.ref h'.objs.size,_,I.laid (t':=tk) kk hsz<|mQ (Bx _ O),O,q _ c' ctv _ j (λb o n e=>?_) (.inr {c',?_,?_}) ?_ Ax}
 ·rw[AT (Bp e j)];show e
 ·rw[AT (Bp U j)];show U
 ·rw[AT (Bp F j)];show F
 rw[AT (Bp F j)];show F
end
def Paired.perm{U F:Type}{R:U->F->Prop}{m m':List F}(p:m.Perm m'):∀{l:List U},Paired R l m->∃j,j.Perm l/\Paired R j m':=by
 induction p with
 |nil=>show λ{l} r=>{l,.refl _,r}
 |cons x p ih=>
  intro l r;cases r with
  |cons a t=>
   let(j,p',r'):=ih t;show{_::j,p'.cons _,.cons a r'}
 |swap x y t=>
  intro l r;cases r with
  |cons a r=>
   cases r with|cons b r=>show{_::_::_,.swap ..,.cons b<|.cons a r}
 |trans p q D z=>
  intro l r;let(l1,p1,r1):=D r;let(l2,p2,r2):=z r1;show{l2,p2.trans p1,r2}
abbrev KP:Int×V->Int×Ay->Prop:=λp q=>p.1=q.1/\CZ p.2 q.2
def rF:∀(ks:List Int) {xs:List V} {vs:List Ay},CB xs vs->Paired KP (ks.zip xs) (ks.zip vs)|[],_,_,_=>.nil|_::_,_,_,.nil=>.nil|k::ks,_,_,.cons a r=>.cons {(O),a}<|rF ks r
def mz:∀{qs:List (Int×V)} {ps:List (Int×Ay)},Paired KP qs ps->CB (qs.map Sg) (ps.map Sg)|_,_,.nil=>.nil|_,_,.cons a r=>.cons a.2<|mz r
def uK:∀{qs:List (Int×V)} {ps:List (Int×Ay)},Paired KP qs ps->qs.map Prod.fst=ps.map Prod.fst|_,_,.nil=>rfl|_,_,.cons a r=>by rw[Ba,Ba,a.1,uK r]
def UZ(ks:List Int)(xs ys:List V):Prop:=∃qs:List (Int×V),qs.Perm (ks.zip xs)/\ys=qs.map Sg/\qs.Pairwise λp q=>p.1<=q.1
section
variable{X:Cx}{params:Ka}{scope:Scope}{y fld q:AO}{yp ap:IZ}{pm:Ay}
abbrev V3(y fld:AO)(yp ap:IZ):Expr:=.Attribute (.Name y yp) fld ap
structure D5(params:Ka)(scope:Scope)(y fld q:AO)(yp ap:IZ):Prop where
 bind:∀pm cd ctv v,bindArgs (PySem.W.kla_fn "<lambda>" q params (V3 y fld yp ap) scope [] pm cd ctv) {[v],[]}=ID [(y,v)]
 co:scope.isCoroutine=ge
 gen:scope.isGenerator=ge
 kind:scope.kind= .function
 cell:∀x∈scope.names,x.2≠ .cell
 loc:scope.names.lookup y=Y .local
 ab:∀env t,GF (.Name y yp) fld env t=t
 nd: (y==("__debug__" :AO))=ge
def cP(hL:D5 params scope y fld q yp ap)(a6:X.A.depth<XJ){pZ:List (AH×Obj)}{σ:St}{H:Hp}{s:AJ}{Q:VK}{l f c:AH}{xs:List V}{ks:List Int}{ctv:Ay}(I:Ck X pZ σ H s)(hl:H l=Y (.lst xs))(d4:xs.length<64)(b7:ks.length=xs.length)(hx:∀(i:Nat) (v:V) (k:Int),xs[i]?=Y v->ks[i]?=Y k->∃a C dx fs,v= .ref a/\H a=Y (.ins C dx fs)/\RT X.K C/\HG X.K C fld/\fs.lookup fld=Y (.int k))(hf:H f=Y (pW f<|Jb "<lambda>" q params (V3 y fld yp ap) scope [] pm c ctv))(hc:H c=Y (kg c q))(h:∀D ys,H D=S->UZ ks xs ys->Q (.ref D) (upd H D<|.lst ys)):
  Bz (model X.prog X.w) X.A (call (.builtin "sorted") [.ref l] [(AG "key",.ref f)]) (EP X pZ σ Q) X.xe s:=by
 let(m,hn,_):=id I.loc;let(c6,r,pl,hz):=I.list<|BX.of hl;let U:=r.length;let a5:∀{b:AH} {o:HO},H b=Y o->b≠X.env.locals:=λe=>Bp e I.free;let a9:∀b o,X.base.get? b=Y o->b≠X.env.locals:=λb o e=>BH<|BK (Bs e) (AR I.ok.bsz I.ok.above);let a7:∀h':CA,(∀b o,b≠X.env.locals->s.heap.get? b=Y o->h'.get? b=Y o)->Jr X.prog X.w H h':=λh' kk b u e=>
  (I.hok b u e).stay (λx v j z=>kk x v (by
   rcases j with rfl|j;·show a5 e
   show a5 j) z) (λ_ z=>z) λ_ _ z=>z
 show PyProof.Rows.ksk_sorted (b:=ge) (f:=.ref f) (m:=m) (L:=X.env.locals) (h₀:=Att.noObjs s.heap) (news:=Att.ledger s.heap X.env.locals X.env.locals) (vs:=c6) (kz:=ks) (Att.fr_all hn) (λp hp=>{(Att.mem_ledger.mp<|show(p.1,p.2)∈_ from hp).2.2,(Att.mem_ledger.mp<|show(p.1,p.2)∈_ from hp).1,Att.noObjs_get _ _}) pl.isList (by rw[b7,U]) (by rw[<-U];show d4)
  (ksk_s1 _ _) (λx=>ksk_l1 _ _) (λx=>ksk_t1 _ _) (λi v k hv hk h1 tk own F1 N1=>?_) λD h1 tk a8 n F1 N1 d0 b5=>?_
 ·let kk:∀b o,b≠X.env.locals->s.heap.get? b=Y o->h1.get? b=Y o:=λb o n e=>(N1 (b,o)<|Cu _ (Att.mem_ledger.mpr {(n),n,e})).1;let a1:=a7 h1 kk;let b2:X.K.In h1:=I.ok.mod.kin.keeps λb o e=>kk b o (a9 b o e)<|I.bk b o e;let b0:h1.NoLimit:=I.ok.mod.nolimit.keeps λb o e=>kk b o (a9 b o e)<|I.bk b o e;let hi:i<xs.length:=by rw[U];show(AQ.mp hv).1
  obtain⟨x,b3⟩:∃x,xs[i]?=Y x:={_,AA hi};let(u0,b4,rx):=r.get b3;rw[hv]at b4;cases b4;let(a,C,dx,fs,O,ha,cC,nA,d1):=hx i x k b3 hk;obtain rfl:v=Value.ref a:=rx;show GD<|PySem.W.kla_callFunE a6 (vb a1 hf) O hL.co hL.gen O (vE a1 hc) ?_;rw[hL.bind];show Bf<|wpAny_newFunctionEnv hL.cell (λz hz=>?_) (λh2 c8 c7=>?_) hL.kind;·rw[AN.mp hz];show hL.loc
  let a2:∀b o,h1.get? b=Y o->h2.get? b=Y o:=λb o e=>c7.extBut b o (BH<|Bs e)<|AD _ e;show{b0.keeps a2,PySem.W.kla_codeExpr<|cT (hL.ab _ _) (wpAny_Name (wpAny_loadName_local hL.kind hL.loc c8 (show _=Y (Value.ref a)by simp[Eh]) ?_) hL.nd)};let(mA,Oq,rO,_,_,_):=Pj (a1.kept a2) ha;let(u,hu,ru):=Lc.some_of (v:=.int k) (o:=mA fld) (by rw[<-d1];show rO fld);let(t,O):=(show ∃t,u=FM k t from ru);show mO (b2.keeps a2) Oq (cC.get fld) cC.hd nA hu O {h2,_,t,O,O,F1.kept a2,N1.grown a2}
 let kk:∀b o,b≠X.env.locals->s.heap.get? b=Y o->h1.get? b=Y o:=λb o n e=>(N1 (b,o)<|.tail _ (Att.mem_ledger.mpr {(n),n,e})).1;let hD:=N1 (D,Kv "list" a8 n)<|.head _;let c2:s.heap.get? D=none:=by cases e:s.heap.get? D with|none=>rfl|some o=>show A3p (d0 (D,o)<|Att.mem_ledger.mpr {(hD.2.1),hD.2.1,e})<|DO _
 let F:H D=none:=by
  cases e:H D with
  |none=>rfl
  |some u=>
   let(o,z):=(I.hok D u e).some_of;rw[c2]at z;cases z
 let(ps,pp,po,c5):=b5;let(qs,pq,rq):=Paired.perm pp.symm<|rF ks r;let vq:=mz rq;let srt:qs.Pairwise λp q=>p.1<=q.1:=by let z: (ps.map Prod.fst).Pairwise (·<= ·):=FZ.mpr (c5.imp λh=>by simpa using h);rw[<-uK rq]at z;show FZ.mp z
 let b1: (qs.map Sg).length=xs.length:=by rw[Aw,pq.length_eq,List.length_zip,b7,Nat.min_self]
 show{.ref D,upd H D<|.lst (qs.map Sg),?_,O,h D _ F {(qs),pq,O,srt}};show I.step (g':=s.gens) (d':=s.drawn) (t':=tk) (ch:=[]) (λ_ z=>nomatch z) (λb o nl _ _ e _=>kk b o nl e) (λb o nl _ _ e _=>{o.slots,kk b o nl e}) (λb o _ e nb=>?_) (λb o _ e=>?_) (λb ys e=>by rw[AT (Bp e F)];show e) (λb o u e=>by rw[AT (Bp e F)];show e) (λb ps e=>{#[],by rw[AT (Bp e F),e];simp}) (λm' c9=>?_) (λb u e=>?_) I.bare;·rw[AT λz=>by rw[z,c2]at e;cases e];show nb
 ·by_cases hb:b=X.env.locals
  ·let(o',_,_,e',_):=F1.ns;show{o',by rw[hb];show e'}
  show{o,kk b o hb e}
 ·let(o,es,ep,ho,hd,hk,d2):=hn;let(o',es',f1,b6,b9,f0,b8):=c9;rw[ho]at b6;cases b6;rw[hd]at b9;cases b9;have:m'=m:=funext λx=>(b8 x).symm.trans<|d2 x;rw[this];show F1.ns
 by_cases hb:b=D
 ·subst hb;rw[Ax]at e;cases e;show{by rw[b1,Ec];lia,a8.toList,n,?_,?_}
  ·rw[po];show vq
  have:=hD.1;simpa [Kv]using this
 rw[AT hb]at e;show(I.hok b u e).stay (λx v j z=>kk x v ?_ z) (λx z=>by rw[AT (Bp z F)];show z) λx ys z=>by rw[AT (Bp z F)];show z
 rcases j with rfl|j;·show a5 e
 show a5 j
def Ly.tbl(h:Ly H T pos q):∃ps,H T=Y (.tbl ps):=by
 rcases h with h|⟨c,h,_⟩;·show{(_),h}
 show{(_),h}
def Ly.ne(h:Ly H T pos q)(e:H b=Y o)(n:∀ps,o≠ .tbl ps):b≠T:=λz=>by
 let(ps,h):=h.tbl;rw[z,h]at e;show n ps (AK e).symm
noncomputable def se(K:Az)(T:AH)(j:IZ)(q fld:AO)(te:TE):TE:=λσ H Q=>te σ H λx H1=>Ly H1 T j q/\∃l xs ks,x= .ref l/\H1 l=Y (.lst xs)/\xs.length<64/\ks.length=xs.length/\(∀(i:Nat) (v:V) (k:Int),xs[i]?=Y v->ks[i]?=Y k->∃a C dx fs,v= .ref a/\H1 a=Y (.ins C dx fs)/\RT K C/\HG K C fld/\fs.lookup fld=Y (.int k))/\∀D ys H3,H1 D=S->bi T H1 H3->Ly H3 T j q->H3 D=Y (.lst ys)->UZ ks xs ys->Q (.ref D) H3
def jv(he:PE X e te)(hg:Gl X "sorted")(hm:X.mg "sorted"=S)(b3:defaultsOf params X.env=([],[]))(c1:closureFor scope X.env=ID [])(b0:X.env.code= .ref c)(C:MG X.base c T)(hB:X.base.BuiltinsAt X.mg T)(hL:D5 params scope y fld (X.env.qual++ "<lambda>") yp ap)(a9:X.A.depth<XJ)(b2: ~~~(Br [e] X.env=[(ge,Dh e X.env)])):
  PE X (.Call (.Name "sorted" p) [e] [{Y "key",.Lambda params (V3 y fld yp ap) scope j,kpos}] pos) (se X.K T j (X.env.qual++ "<lambda>") fld te):=by
 intro 0 Q I h;show CF (LR I hg hm (show Cf "sorted"=Y (.builtin "sorted")by decide+kernel) ?_);let U:DK pos (Br [e] X.env)=(ge,Dh e X.env)::DK pos (Br [] X.env):=by rw[b2];rfl
 show PyProof.Rows.callWith_kw (e:=e) (rest:=[]) ?_ U (by rw[U];rfl);let c8:PA X [e] (TM te Yw):=Bc he FU b2;show DY (c8 pos pZ s σ H (λvs H1=>match vs with
  |[x]=>Ly H1 T j (X.env.qual++ "<lambda>")/\∃l xs ks,x= .ref l/\H1 l=Y (.lst xs)/\xs.length<64/\ks.length=xs.length/\(∀(i:Nat) (v:V) (k:Int),xs[i]?=Y v->ks[i]?=Y k->∃a C dx fs,v= .ref a/\H1 a=Y (.ins C dx fs)/\RT X.K C/\HG X.K C fld/\fs.lookup fld=Y (.int k))/\∀D ys H3,H1 D=S->bi T H1 H3->Ly H3 T j (X.env.qual++ "<lambda>")->H3 D=Y (.lst ys)->UZ ks xs ys->Q (.ref D) H3|_=>False) I h) λus s1 {(vs),H1,I1,r1,q1}=>?_
 match vs,q1,r1 with
 |[x],q1,r1=>
  let(u,O,rx):=Lo r1;let(a7,l,xs,ks,O,hl,c4,b9,hx,q):=q1;cases (show u=Value.ref l from rx);let c7:PK X [⟨Y "key",.Lambda params (V3 y fld yp ap) scope j,kpos⟩] (TM (Y5 T j (X.env.qual++ "<lambda>") params (V3 y fld yp ap) scope<|(X.mg "__name__").getD .none) Yw):=ya (oY b3 c1 b0 C hB) K3;show DY (c7 pos pZ s1 σ H1 (λzs H2=>match zs with
   |[.ref f]=>∃c' ctv,H1 f=S/\bi T H1 H2/\Ly H2 T j (X.env.qual++ "<lambda>")/\H2 c'=Y (kg c'<|X.env.qual++ "<lambda>")/\H2 f=Y (pW f<|Jb "<lambda>" (X.env.qual++ "<lambda>") params (V3 y fld yp ap) scope [] ((X.mg "__name__").getD .none) c' ctv)|_=>False) I1 {a7,λf c' ctv H' a1 a2 F a4 a5=>{(c'),ctv,a1,a2,F,a4,a5}}) λws s2 {(zs),H2,I2,r2,q2}=>?_
  match zs,q2,r2 with
  |[.ref f],q2,r2=>
   let(u,O,ru):=Lo r2;cases (show u=Value.ref f from ru);let(c',ctv,a1,a2,F,a4,a5):=q2;let kp:∀{b:AH} {o:HO},H1 b=Y o->(∀ps,o≠ .tbl ps)->H2 b=Y o:=λe n=>a2 _ _ (a7.ne e n) e;show cP (ks:=ks) hL a9 I2 (kp hl λ_ z=>by cases z) c4 b9 (λi v k h1 h2=>?_) a5 a4 λD ys hD ho=>?_;·let(a,C,dx,fs,e1,e2,r):=hx i v k h1 h2;show{a,C,dx,fs,e1,kp e2 (λ_ z=>by cases z),r}
   let c3:H1 D=none:=by
    cases z:H1 D with
    |none=>rfl
    |some o=>
     by_cases b4:D=T;·let(ps,ht):=F.tbl;rw[b4,ht]at hD;cases hD
     rw[a2 _ _ b4 z]at hD;cases hD
   show q D ys _ c3 (λb o n eb=>?_) ?_ Ax ho;·rw[AT (Bp (a2 b o n eb) hD)];show a2 b o n eb
   rcases F with F|⟨c2,F,a6⟩;·show .inl (by rw[AT (Bp F hD)];show F)
   show .inr {c2,by rw[AT (Bp F hD)];show F,by rw[AT (Bp a6 hD)];show a6}
end
end L2
namespace L2
open PySem PySem.W PyProof PyProof.Rows
def Jy{z:Type}(N:Nat)(R:z->Prop):KasT z->Prop|.ret a=>R a|.ask i j k=>i<N/\j<N/\∀b,Jy N R<|k b
def Kt{j D:Type}{N:Nat}{R:j->Prop}{Sq:D->Prop}{f:j->KasT D}(h:∀a,R a->Jy N Sq (f a)):∀(t:KasT j),Jy N R t->Jy N Sq (t.bind f)|.ret a,x=>h a x|.ask _ _ k,⟨x,y,z⟩=>{x,y,λb=>Kt h (k b)<|z b}
def QI(N:Nat)(p:Array Nat):Prop:=p.toList.Perm<|Bg N
def QI.get(h:QI N p)(h0:0<N)(i:Nat):p.getD i 0<N:=by
 by_cases hi:i<p.size
 ·let e:p.getD i 0=p[i]:=by simp[UK,hi]
  rw[e];have:p[i]∈p.toList:=Array.getElem_mem_toList hi;show Dv.mp<|h.mem_iff.mp this
 let e:p.getD i 0=0:=by simp[UK,hi]
 rw[e];show h0
def QI.rev(h:QI N p)(i j:Nat):QI N (kas_rev p i j):=(Array.perm_iff_toList_perm.mp<|mirror_perm _ _ _ _).trans h
def QI.bub(h:QI N p)(i j:Nat):QI N (bubble p i j):=(Array.perm_iff_toList_perm.mp<|bubble_perm _ _ _).trans h
section
variable{N:Nat}{p:Array Nat}
def IP{j:Type}{R:j->Prop}{c:Prop} [Decidable c]{t u:KasT j}(h1:c->Jy N R t)(h2:¬c->Jy N R u):Jy N R (if c then t else u):=by
 by_cases h:c;·rw[A3n h];show h1 h
 rw[A3m h];show h2 h
def WY(h:QI N p)(h0:0<N):∀(f n:Nat),Jy N (λ_=>True)<|Ld p f n|0,_=>trivial|f+1,n=>{h.get h0 _,h.get h0 _,λb=>IP (λ_=>trivial) λ_=>WY h h0 f<|n+1}
def Pk(h0:0<N):∀(f:Nat) (p:Array Nat) (n q:Nat),QI N p->Jy N (λr=>QI N r.1) (kas_desc f p n q)
 |0,_,_,_,h=>h
 |f+1,p,n,q,h=>⟨h.get h0 _,h.get h0 _,λb=>IP (λ_=>IP (λ_=>Pk h0 f _ _ _<|h.rev _ _) λ_=>Pk h0 f _ _ _ h)
   λ_=>{h.get h0 _,h.get h0 _,λd=>IP (λ_=>h) λ_=>Pk h0 f _ _ _ h}⟩
def WX(h:QI N p)(h0:0<N)(n r:Nat):Jy N (λr=>QI N r.2) (Tk n r p):=by unfold Tk;show Kt (R:=λ_=>True) (λm _=>?_) _<|WY (h.rev _ _) h0 _ _;show h.rev _ _
def PZ(h:QI N p)(h0:0<N)(n r:Nat):Jy N (λr=>QI N r.2) (kas_descPart n r p):=by unfold kas_descPart;show Kt (R:=λr:Array Nat×Nat×Nat=>QI N r.1) (λa ha=>?_) _<|Pk h0 _ _ _ _ h;show IP (λ_=>WX (ha.rev _ _) h0 _ _) λ_=>WX ha h0 _ _
def jY(h:QI N p)(h0:0<N)(r:Nat):Jy N (λr=>QI N r.2) (kas_count r p):=by unfold kas_count;show Kt (R:=λ_=>True) (λn _=>?_) _<|WY h h0 _ _;show IP (λ_=>show QI N p from h) λ_=>IP (λ_=>{h.get h0 _,h.get h0 _,λc=>IP (λ_=>show QI N p from h) λ_=>PZ (h.rev _ _) h0 _ _}) λ_=>PZ h h0 _ _
def Qw(h:QI N p)(h0:0<N)(k:Nat):∀(f l r:Nat),Jy N (λ_=>True)<|bp p k f l r|0,_,_=>trivial|f+1,l,r=>IP (λ_=>trivial) λ_=>{h.get h0 _,h.get h0 _,λc=>IP (λ_=>Qw h h0 k f _ _) λ_=>Qw h h0 k f _ _}
def gF(h0:0<N):∀(f:Nat) (p:Array Nat) (k:Nat),QI N p->Jy N (QI N) (kas_bin f p k)|0,_,_,h=>h|f+1,p,k,h=>Kt (λ_ _=>gF h0 f _ _<|h.bub _ _) _<|Qw h h0 _ _ _ _
def qg(h0:0<N):Jy N (QI N) (kas_sort N):=by unfold kas_sort;show Kt (R:=λr:Nat×Array Nat=>QI N r.2) (λa ha=>?_) _<|jY (show QI N (List.toArray<|Bg N)from List.Perm.refl _) h0 _;show IP (λ_=>gF h0 _ _ _ ha) λ_=>show QI N a.2 from ha
end
section
variable{prog:Bv}{w:BP}{A:CH}{E:Ay->AJ->Prop}{s:AJ}
def iX(hl:s.heap.IsList l vs.toArray)(h2:vs.length<2)(h:Q (.ref<|↑s+1) {s with heap:=sortedAll s.heap vs vs.toArray}):Bz (model prog w) A (call (.builtin "sorted") [.ref l]) Q E s:=by
 show Calls.call_function_entry kind_sorted plain_sorted entry_sorted (args_sorted1 _) ?_;unfold Builtin.«sorted»;show AC (m:=checkCount "sorted" 1 1 _)<|Bf ?_;show AC (collect_list hl ?_<|by rw[Ec];lia);show AC (wpAny_newList ?_<|by rw[Ec];lia);let hsz: ((s.heap.push<|Kv "list" #[] 0).update ↑s<|HH (·++vs.toArray)).objs.size=↑s+1:=by rw[Heap.size_update,size_push']
 let j: (((s.heap.push<|Kv "list" #[] 0).update ↑s<|HH (·++vs.toArray)).push<|Kv "list" vs.toArray 0).get? (↑s+1)=Y (Kv "list" vs.toArray 0):=by rw[<-hsz];show Bx _ O
 change Bz _ _ _ _ _ {s with heap:=((s.heap.push<|Kv "list" #[] 0).update ↑s<|HH (·++vs.toArray)).push (Kv "list" vs.toArray 0)};rw[hsz];show AC<|En (wpAny_call_entry slot_list_sort {(_),j,O} entry_list_sort ?body<|args_list_sort _)
 case body=>
  generalize hh: ((s.heap.push<|Kv "list" #[] 0).update ↑s<|HH (·++vs.toArray)).push (Kv "list" vs.toArray 0)=h1 at j ⊢;let ha:=Bs j;rw[list_sort_plain];show AC<|listItems_at j O ?_;show AC (listUpdate_at j O ?_ (by rw[Bu,Ec];lia)<|BY _);obtain⟨U,D⟩:∃U,(h1.update (↑s+1)<|HH λ_=>(#[]:Array Ay)).get? (↑s+1)=Y (Kv "list" #[] U):={_,get?_update_seq j λ_=>#[]};show AC<|seqEpoch_at D O ?_;show AC (wpAny_newTuple ?_<|by change vs.length<=_;rw[Ec];lia);show AC<|wpAny_newList ?_ (BY _);show En ?_;let z: (((h1.update (↑s+1)<|HH λ_=>(#[]:Array Ay)).push<|Kv "tuple" vs.toArray 0).push<|Kv "list" #[] 0).get? (↑s+1)=Y (Kv "list" #[] U):=by rw[Qh _ _ _ (by rw[size_push',Heap.size_update];show BH<|JF ha),Qh _ _ _ (by rw[Heap.size_update];show BH ha)];show D
  change Bz (model prog w) _ _ _ _ {s with heap:=((h1.update (↑s+1)<|HH λ_=>(#[]:Array Ay)).push<|Kv "tuple" vs.toArray 0).push (Kv "list" #[] 0)}
  dsimp only
  let F:vs.toArray.size<2:=by rw[Bu];show h2
  rw[A3n F,A3n F];show AC<|Bf ?_;rw[StateT.run_pure];show AC<|Bf ?_
  dsimp only
  let em: (vs.toArray.zip vs.toArray).map (·.2)=vs.toArray:=by apply Array.toList_inj.mp;rw[Array.toList_map,Array.toList_zip];show List.map_snd_zip<|AU _
  show AC<|seqEpoch_at z O ?_;show AC (listUpdate_at z O ?_ (BY _)<|by change Array.size (Array.map (·.2)<|vs.toArray.zip vs.toArray)<=_;rw[em,Bu,Ec];lia);simp only[bne_self_eq_false,Bool.false_eq_true,if_false];show Bf {_,O,Bf {_,O,?_}};unfold sortedAll sortedHeap at h;rw[hh]at h;let e2:∀x:Array Ay,x=vs.toArray->Q (.ref<|↑s+1) {s with heap:=(((h1.update (↑s+1)<|HH λ_=>(#[]:Array Ay)).push<|Kv "tuple" vs.toArray 0).push<|Kv "list" #[] 0).update (↑s+1) (HH λ_=>x)}:=λx hx=>by rw[hx];show h
  show e2 _ em
def Va(h:CA)(vs:List Ay):Prop:=∀v∈vs,∃(a:AH) (o:Obj) (i j:Int) (t u:Tok) (n:Nat),v= .ref a/\h.get? a=Y o/\o.cls= .type "tuple" /\o.data= .seq #[.int i t,.int j u] n
def vg(h:CA)(vs:List Ay)(fs:List Ay):Prop:=KatTups h vs fs/\∀v∈fs,∃i t,v=FM i t
def aR:∀(vs:List Ay),Va h vs->∃fs,fs.length=vs.length/\vg h vs fs
 |[],_=>{[],O,KatTups.nil,λ_ z=>nomatch z}
 |v::vs,hp=>by
  let(fs,U,hk,hf):=aR vs λv D=>hp v<|.tail _ D;let(a,o,i,j,F,t2,n,O,e1,c1,d1):=hp v<|.head _;show⟨.int i F::fs,by simp[U],KatTups.cons e1 c1 d1 O hk,λv D=>by
   rcases AM.mp D with rfl|D;·show{(i),F,O}
   show hf v D⟩
def jx{Q:SortKind->AJ->Prop}(hp:Va s.heap vs)(h0:0<vs.length)(h:Q (tuples' Z) s):Bz M A (keyKind' vs.toArray) Q E s:=by let(fs,D,z,hf):=aR vs hp;show kat_kind (T:=.type "int") z () (λv j=>?_) O h;let(i,t,O):=hf v j;show Looks.of_pure O
end
section
variable{X:Cx}
end
def Jr.untrL(ok:Jr P w H h)(hx:H D=Y (.lst ys)):Jr P w (L2.untr H D) h:=λb o q=>by
 let j:b≠D:=by rintro rfl;rw[Ij]at q;cases q
 rw[DF j]at q;show(ok b o q).stay (λ_ _ _ z=>z) (λc z=>?_) λc xs z=>?_;·rw[DF (by rintro rfl;rw[hx]at z;cases z)];show z
 rw[DF (by rintro rfl;rw[hx]at z;cases z)];show z
section
variable{X:Cx}{pZ:List (AH×Obj)}{σ:St}{H:Hp}{s:AJ}
def Ck.hide(I:Ck X pZ σ H s)(F:H D=Y (.lst ys)):∃(j:List Ay) (n:Nat),CB ys j/\ys.length<=sizeLine/\Ck X (pZ++[(D,{cls:=.type "list",data:=.seq j.toArray n})]) σ (untr H D) s:=by
 let(hz,j,n,r,e):=I.hok D _ F;let nL:D≠X.env.locals:=λz=>by rw[z,I.free]at F;cases F
 let nF:D∉X.fs:=λz=>by
  let(_,o,ho,_):=I.ok.funs.mem z;have:=I.base.free D o ho (I.ok.frf D z) λy=>I.ok.exfs D y z;rw[F]at this;cases this
 let nn:∀{b:AH},H b=S->untr H D b=none:=λ{b} h=>by
  unfold untr;split;·rfl
  show h
 show{j,n,r,hz,I.ok,I.os,I.bare,{I.base.keep,I.base.slot,λb o e n hx=>nn<|I.base.free b o e n hx,I.base.there,λb xs e=>?_,λb o xs e=>?_,λb ps e=>?_},I.loc,I.cell,nn I.free,λx c e=>nn<|I.freeC x c e,λp hp=>?_,I.hok.untrL F,I.len};·have:=I.base.tups b xs e;rw[DF (by rintro rfl;rw[F]at this;cases this)];show this
 ·have:=I.base.frzs b o xs e;rw[DF (by rintro rfl;rw[F]at this;cases this)];show this
 ·let(m,this):=I.base.tbls b ps e;show{m,by rw[DF (by rintro rfl;rw[F]at this;cases this)];show this}
 rcases Bt.mp hp with hp|hp;·let(a1,a2,U):=I.pin p<|Cu _ hp;show{a1,nn a2,U}
 rcases Bt.mp hp with hp|hp;·let(a1,a2,U):=I.pin p<|BJ _ hp;show{a1,nn a2,U}
 rw[AN.mp hp];show{e,Ij,nL,nF,λv z=>by cases z}
def Ck.show(I:Ck X pZ σ H s)(hD:H D=Y (.lst ys))(r:CB ys F)(hz:ys.length<=sizeLine)(j:Ck X (pZ++[(D,{cls:=.type "list",data:=.seq F.toArray n})]) σ' H' s'):
  H' D=S/\Ck X pZ σ' (upd H' D<|.lst ys) s':=by
 let(e,h0,nL,nF,_):=j.pin (D,{cls:=.type "list",data:=.seq F.toArray n})<|BJ _ (BJ _<|AN.mpr O);let up:∀{b:AH} {o:HO},H' b=Y o->upd H' D (.lst ys) b=Y o:=λe=>Mv e h0;show{h0,j.ok,j.os,j.bare,{j.base.keep,j.base.slot,λb o e n hx=>?_,j.base.there,λb xs e=>up<|j.base.tups b xs e,λb o xs e=>up<|j.base.frzs b o xs e,λb ps e=>?_},j.loc,j.cell,?_,λx c e=>?_,λp hp=>?_,λb o q=>?_,j.len}
 ·let U:b≠D:=λz=>by
   have:=I.base.free b o e n hx;rw[z,hD]at this;cases this
  rw[AT U];show j.base.free b o e n hx
 ·let(m,z):=j.base.tbls b ps e;show{m,up z}
 ·rw[AT (CI nL)];show j.free
 ·let hc:c≠D:=λz=>by
   have:=I.freeC x c e;rw[z,hD]at this;cases this
  rw[AT hc];show j.freeC x c e
 ·let a4:p.1≠D:=λz=>by
   have:=(I.pin p hp).2.1;rw[z,hD]at this;cases this
  let a5:p∈X.pn++ (pZ++[(D,{cls:=.type "list",data:=.seq F.toArray n})]):=by
   rcases Bt.mp hp with h|h;·show Cu _ h
   show BJ _<|Cu _ h
  let(a1,a2,a3):=j.pin p a5;show{a1,by rw[AT a4];show a2,a3}
 by_cases U:b=D;·subst U;rw[Ax]at q;cases q;show{(hz),F,n,r,e}
 rw[AT U]at q;show(j.hok b o q).stay (λ_ _ _ z=>z) (λc z=>up z) λc xs z=>up z
inductive T1(t:TE)(σ:St)(H:Hp)(Q:VK):Prop|mk (D ys:_) (_:H D=some (.lst ys)) (_:t σ (untr H D) λv H'=>H' D=S->Q v (upd H' D<|.lst ys))
def Y8(t:TE):TE:=λσ H Q=>T1 t σ H Q
def UT(he:PE X e t):PE X e (Y8 t):=by intro 0 Q I h;let(D,ys,z,q):=h;let(a1,n,r,hz,I1):=I.hide z;show DY (he _ s σ (untr H D) _ I1 q) λu s' j=>?_;let(v,H',I2,F,U):=j;let(h0,I3):=I.show z r hz I2;show{v,_,I3,F,U h0}
end
end L2
namespace L2
open PySem PySem.W PyProof PyProof.Rows PySem.SeqAt
def V0(v:Ay):Bool:=match v with|.bool b=>b|_=>ge
def Qy:∀{bs:List Bool} {us:List Ay},CB (bs.map V.bl) us->us=bs.map CG
 |[],_,.nil=>rfl
 |b::bs,_,.cons r t=>by
  rw[Ba,<-Qy t];rw[show _=CG b from r]
def vn{A:CH}{s:AJ}{bs:List Bool}:∀y∈ (bs.map CG).toArray,EqAt A s y (.bool Z) (V0 y):=λy z=>by
 let j:y∈bs.map CG:=by simpa using z
 let(b,_,O):=AS.mp j;have:=EqAt.bool_bool (A:=A) (s:=s) b Z;rw[show(b==Z)=V0 (.bool b)by cases b <;> rfl]at this;show this
section
variable{X:Cx}
def pC:D4 X "list.count" (λx xs H Q=>∃(l:AH) (bs:List Bool),x= .ref l/\xs=[.bl Z]/\H l=Y (.lst<|bs.map V.bl)/\Q (.int (bs.countP id:Nat)) H):=by
 intro 0 x xs v us Q I j z h;let(l,bs,O,O,hl,q):=h;cases (show v=Value.ref l from j);let(u,O,D):=CB.one z;cases (show u=CG Z from D);let(_,U,n,r,e):=I.hok l _ hl;let ei:=Qy r;subst ei;show JV PySem.F.slot_list_count {(_),e,O} PySem.F.entry_list_count (PySem.F.args_list_count_2 _ _) (list_countAt l _ n S #[] (.bool Z) V0) {e,λy hy=>vn y hy,?_};let ec: (bs.map CG).toArray.toList.countP V0=bs.countP id:=by rw[show(bs.map CG).toArray.toList=bs.map CG from O,List.countP_map];rfl
 rw[ec];show{.int _,H,I.tok _,{(_),O},q}
def pB:D4 X "list.index" (λx xs H Q=>∃(l:AH) (bs:List Bool) (j:Nat),x= .ref l/\xs=[.bl Z]/\H l=Y (.lst<|bs.map V.bl)/\bs[j]?=Y Z/\j<=1000/\(∀i,i<j->bs[i]?=Y ge)/\Q (.int (j:Nat)) H):=by
 intro 0 x xs v us Q I rx rv h;let(l,bs,j,O,O,hl,hj,a9,D,q):=h;cases (show v=Value.ref l from rx);let(u,O,ru):=CB.one rv;cases (show u=CG Z from ru);let(_,a6,n,r,e):=I.hok l _ hl;let ei:=Qy r;subst ei;let U:j<bs.length:=(AQ.mp hj).1;let at_:∀(i:Nat) (hi:i< (bs.map CG).toArray.size) (b:Bool),bs[i]?=Y b->V0 ((bs.map CG).toArray[i])=b:=λi hi b hb=>by
  let z:i<bs.length:=by simpa using hi
  have: (bs.map CG).toArray[i]=CG (bs[i]'z):=by simp
  rw[this];change bs[i]'z=b;rw[AA z]at hb;show AK hb
 show JV Gq {(_),e,O} PySem.F.entry_list_index (PySem.F.args_list_index_2 _ _) (list_indexAt l _ n S #[] (.bool Z) V0 j (by simpa using U) () (at_ j _ Z hj) (λi hi h=>at_ i hi ge<|D i h)) {e,λy hy=>vn y hy,?_};show{.int _,H,I.tok _,{(_),O},q}
end
end L2
namespace L2
open PySem PySem.W PyProof PyProof.Rows
section
variable{X:Cx}
end
section
variable{X:Cx}
end
end L2
namespace L2
open PySem PySem.Spec PyProof.Rows
def ig(T:AH)(H:Hp):Prop:=H T=Y (.tbl #[])/\∀b,H b=S\/(∃o xs,H b=Y (.frz o<|.lst xs))\/b=T
def pI{T c:AH}{P:Bv}{w:BP}{K:Az}{mg mb:AO->Option Ay}{CX:dr}{k:Nat}{fa a:AH}{fd:Eu}{x:AO}{sp:Sp}{j:AJ}{vs:List Ay}{ns:List Int}(hT:j.heap.get? T=Y (RZ #[]))(c5:K.lookup T=S)(c7:MG j.heap c T)(KX:K.In j.heap)(a9:j.heap.Ns Ca mg)(D:j.heap.Ns OO mb)(c3:∀x:AO,x≠ "__name__" ->mb x=Cf x)(b0:j.heap.NoLimit)(hg:j.gens=#[])(ha:j.heap.get? a=Y {cls:=.type "list",data:=.seq vs.toArray})(hi:IntsAre vs ns)(hl:ns.length<=sizeLine)(hr:EX k Tl)(F:∀base:CA,K.In base->base.Ns Ca mg->EY P w K mg base CX k fa fd [x] sp)(a5:∀(s:AJ) (u:Ay),BindsTo s fd {[u],[]} [(x,u)])(b9:∀H:Hp,ig T H->BX K H a (ns.map V.int)->sp [.ref a] H (λv _=>v= .bl Z) λ_ _ _=>False)(c6:∀H e s',CX.cx [] H j (λ_ _ _=>False) e s'->False)(c1:CX.sm=ge):
  Iv (model P w) Tl (.call (.ref fa) {[.ref a],[]}) (λr s'=>r= .ok (.ret<|.bool Z)/\OldK j.heap s'.heap/\s'.os=j.os/\UL s'.gens) j:=by
 let rv:=ae hi;let core:∀H:Hp,ig T H->BX K H a (ns.map V.int)->Jr P w H j.heap->(∀b,H b≠S->b=a\/b=T)->(H a≠S->K.lookup a=S)->Iv (model P w) Tl (.call (.ref fa) ⟨[.ref a],[]⟩) (λr s'=>r= .ok (.ret<|.bool Z)/\OldK j.heap s'.heap/\s'.os=j.os/\UL s'.gens) j:=by
  intro H hO hS hok hA hK;let a1:∀{b:AH} {o:Obj},j.heap.get? b=Y o->H b=S->(cG j.heap H).get? b=Y o:=λe n=>uT e n;let b8:∀{b:AH} {o:Obj} {es:Array DictEntry} {ep:Nat},j.heap.get? b=Y o->o.data= .dict es ep->H b=none:=λ{b o es ep} e d=>by
   cases q:H b with
   |none=>rfl
   |some u=>
    rcases hA b (by rw[q];simp)with e'|e';·subst e';rw[ha]at e;cases e;let d':Data.seq vs.toArray _=Sj es ep:=d;cases d'
    subst e';rw[hT]at e;cases e;cases d
  let a3:∀{b:AH} {m:AO->Option Ay},j.heap.Ns b m->(cG j.heap H).Ns b m:=λ{b m} b1=>(by let(o,es,ep,e,d,r):=b1;show{o,es,ep,a1 e<|b8 e d,d,r});let b3:K.In (cG j.heap H):=λb o e=>a1 (KX b o e) (by
   cases q:H b with
   |none=>rfl
   |some u=>
    rcases hA b (by rw[q];simp)with e'|e';·subst e';rw[hK (by rw[q];simp)]at e;cases e
    rw[e',c5]at e;cases e)
  let hM:Mod K mg (cG j.heap H):={b3,a3 a9,{mb,a3 D,c3},let ⟨mc,h1,h2⟩:=b0;{mc,a3 h1,h2}};let e0:kQ P w K mg (cG j.heap H) Tl [] j H:={O,hM,λb o e=>yn e,XW<|pR _ _,trivial,λb D=>A3p (show b∈ ([]:List AH)from D) (by simp),hok,.of_eq hg};show Go ((F _ b3<|a3 a9).run Tl [] j H {[.ref a],[]} [.ref a] [.ref a] _ _ hr (λ_=>rfl) (λz=>by rw[c1]at z;cases z) e0 (a5 j<|.ref a) (.cons O .nil)<|b9 H hO hS) λr s' h=>?_;cases r with
  |error e=>show(c6 H e s' h).elim
  |ok fl=>
   cases fl with
   |next=>show BM h|brk=>show BM h|cont=>show BM h
   |ret u=>
    let(v,H',os,bare,un,a4,r',q):=h;let q':v= .bl true:=q;subst q';obtain rfl:u=CG true:=r';show{O,{λb o e=>?_,λb o e=>un.there b o e<|by simp},os,bare};cases q:H b with
    |none=>show .inl (un.keep b o e q (by intro z;show A3p (show b∈ ([]:List AH)from z)<|by simp)<|by simp)
    |some u=>
     rcases hO.2 b with z|⟨ob,xs,z⟩|z;·rw[q]at z;cases z
     ·let z2:=un.frzs b ob _ z;let(e1,_):=hok b _ z;let(e2,_):=a4 b _ z2;rw[e]at e1;cases e1;show .inl e2
     subst z;let(more,z2):=un.tbls b _ hO.1;let e2:s'.heap.get? b=Y {cls:=.none,data:=.fields (#[] ++more)}:=a4 b _ z2;rw[hT]at e;cases e;show .inr<|.inl {(c7.tab hT).isCodeTable,O,#[],more,O,e2}
 let b2:a≠T:=λz=>by rw[z,hT]at ha;cases ha
 cases hk:K.lookup a with
 |some o=>
  let e:=KX a o hk;rw[ha]at e;cases e;show core (λb=>if b=T then Y (.tbl #[])else S) {A3n O,λb=>?_} (.inr {_,vs.toArray,_,hk,O,O,O,by rw[Bu,hi.length];show hl,by simpa using rv}) (λb u z=>?_) (λb z=>?_) λz=>A3p (A3m b2) z
  ·by_cases D:b=T
   ·show .inr<|.inr D
   show .inl<|A3m D
  ·by_cases D:b=T
   ·let z':=(A3n D).symm.trans z;cases z';rw[D];show hT
   let z':=(A3m D).symm.trans z;cases z'
  by_cases D:b=T;·show .inr D
  show A3p (A3m D) z
 |none=>
  show core (λb=>if b=a then Y (.frz {cls:=.type "list",data:=.seq vs.toArray}<|.lst (ns.map V.int))else if b=T then Y (.tbl #[])else S) {?_,λb=>?_} (.inl<|.inr {{cls:=.type "list",data:=.seq vs.toArray},A3n O}) (λb u z=>?_) (λb z=>?_) λ_=>hk
  ·change(if T=a then _ else if T=T then _ else _)=_
   rw[A3m (CI b2),A3n O]
  ·by_cases D:b=a
   ·show .inr<|.inl {_,_,A3n D}
   by_cases U:b=T;·show .inr<|.inr U
   show .inl<|(A3m D).trans (A3m U)
  ·by_cases D:b=a
   ·let z':=(A3n D).symm.trans z;cases z';subst D;show{ha,by rw[Aw];show hl,vs,_,rv,ha}
   by_cases U:b=T;·let z':=((A3m D).trans<|A3n U).symm.trans z;cases z';rw[U];show hT
   let z':=((A3m D).trans<|A3m U).symm.trans z;cases z'
  by_cases D:b=a;·show .inl D
  by_cases U:b=T;·show .inr U
  show A3p ((A3m D).trans<|A3m U) z
end L2
namespace L2
open PySem PySem.W PyProof PyProof.Rows
def FS{z:Type}(lt:Nat->Nat->Bool):KasT z->z|.ret a=>a|.ask i j k=>FS lt<|k (lt i j)
def Ml{z D:Type}{lt:Nat->Nat->Bool}{f:z->KasT D}:∀(t:KasT z),FS lt (t.bind f)=FS lt (f<|FS lt t)|.ret _=>rfl|.ask i j k=>Ml<|k (lt i j)
def fj{z:Type}{N:Nat}{R:z->Prop}{lt:Nat->Nat->Bool}:∀(t:KasT z),Jy N R t->R (FS lt t)|.ret _,h=>h|.ask i j k,⟨_,_,h⟩=>fj (k<|lt i j)<|h _
def ti{D:Type}{N:Nat}{R:D->Prop}{lt:Nat->Nat->Bool}{cmp:Nat->Nat->(Bool->AJ->Prop)->AJ->Prop}{Q:D->AJ->Prop}{s:AJ}(hc:∀i j C,i<N->j<N->C (lt i j) s->cmp i j C s):∀(t:KasT D),Jy N R t->Q (FS lt t) s->t.kasWp cmp Q s|.ret _,_,q=>q|.ask i j k,⟨x,y,z⟩,q=>hc i j _ x y<|ti hc (k<|lt i j) (z _) q
section
variable(K:Nat->Int)
abbrev NS:Nat->Nat->Bool:=λi j=>decide (K i<K j)
def Iy(p:Array Nat)(i:Nat):Int:=K<|p.getD i 0
def iA(p:Array Nat)(n:Nat):Prop:=∀i j,i<j->j<n->Iy K p i<Iy K p j
def U4(p:Array Nat)(n:Nat):Prop:=∀i j,i<j->j<n->Iy K p j<Iy K p i
structure NK(N:Nat)(p:Array Nat):Prop where
 ord:QI N p
 inj:∀i j,i<N->j<N->K i=K j->i=j
variable{K}{N:Nat}{p:Array Nat}
def NK.size(h:NK K N p):p.size=N:=by have:=h.ord.length_eq;simpa using this
def mP:p.getD i 0=(p[i]?).getD 0:=by simp[Array.getD_eq_getD_getElem?]
def NK.ne(h:NK K N p)(hi:i<j)(z:j<N):Iy K p i≠Iy K p j:=λe=>by
 let h0:0<N:=()
 let D:=h.inj _ _ (h.ord.get h0 i) (h.ord.get h0 j) e;let hs:=h.size;let nd:p.toList.Nodup:=h.ord.nodup_iff.mpr List.nodup_range;let F:p.toList[i]?=p.toList[j]?:=by
  let a1:p.getD i 0=p[i]:=by simp[UK,hs,show i<N by lia]
  let U:p.getD j 0=p[j]:=by simp[UK,hs,z]
  rw[a1,U]at D;simp[hs,z,show i<N by lia,D]
 have:=(List.getElem?_inj (by simp;lia) nd).mp F
 lia
def Mw(h:p[i]?=q[j]?):Iy K p i=Iy K q j:=by unfold Iy;rw[mP,mP,h]
def mE(hn:n<=p.size)(i:Nat):Iy K (kas_rev p 0 n) i=if i<n then Iy K p (n - 1 - i)else Iy K p i:=by
 let e:=getElem?_mirror_all (i:=0) hn i;by_cases h:i<n;·rw[A3n {BY _,h}]at e;rw[A3n h];show Mw<|e.trans ?_;congr 1;lia
 rw[A3m ()]at e;rw[A3m h];show Mw e
def WK(hs:j<p.size)(hd:d<=j)(k:Nat):Iy K (bubble p j d) k=if k=j - d then Iy K p j else if j - d<k/\k<=j then Iy K p (k - 1)else Iy K p k:=by
 let e:=getElem?_bubble hs d hd k;by_cases h1:k=j - d;·rw[A3n h1]at e ⊢;show Mw e
 rw[A3m h1]at e ⊢;by_cases h2:j - d<k/\k<=j;·rw[A3n h2]at e ⊢;show Mw e
 rw[A3m h2]at e ⊢;show Mw e
def NK.rev(h:NK K N p)(i j:Nat):NK K N (kas_rev p i j):={h.ord.rev _ _,h.inj}
def NK.bub(h:NK K N p)(i j:Nat):NK K N (bubble p i j):={h.ord.bub _ _,h.inj}
def iA.more(hi:iA K p n)(h1:1<=n)(h:Iy K p (n - 1) <Iy K p n):iA K p (n+1):=λi j a b=>by
 by_cases e:j=n
 ·subst e;by_cases z:i=j - 1
  ·subst z;show h
  show Md (hi i (j - 1) ()<|()) h
 show hi i j a ()
def U4.more(hi:U4 K p n)(h1:1<=n)(h:Iy K p n<Iy K p (n - 1)):U4 K p (n+1):=λi j a b=>by
 by_cases e:j=n
 ·subst e;by_cases z:i=j - 1
  ·subst z;show h
  show Md h (hi i (j - 1) ()<|())
 show hi i j a ()
def bZ(h:NK K N p):∀(f n:Nat),1<=n->n+f<=N->iA K p n->n<=FS (NS K) (Ld p f n)/\FS (NS K) (Ld p f n)<=n+f/\iA K p (FS (NS K)<|Ld p f n)/\(FS (NS K) (Ld p f n)=n+f\/Iy K p (FS (NS K)<|Ld p f n) <Iy K p (FS (NS K) (Ld p f n) - 1))
 |0,n,_,_,hi=>{AU _,AU _,hi,.inl O}
 |f+1,n,h1,F,hi=>by
  by_cases c:Iy K p n<Iy K p (n - 1)
  ·let e:FS (NS K) (Ld p (f+1) n)=n:=by
    change FS (NS K) (if decide (Iy K p n<Iy K p (n - 1))=Z then KasT.ret n else Ld p f (n+1))=n
    rw[A3n (A3j c)];rfl
   rw[e];show{AU _,(),hi,.inr c}
  let e:FS (NS K) (Ld p (f+1) n)=FS (NS K) (Ld p f<|n+1):=by
   change FS (NS K) (if decide (Iy K p n<Iy K p (n - 1))=Z then KasT.ret n else Ld p f (n+1))=_
   rw[A3m (by simpa using c)]
  let ne:=h.ne (i:=n - 1) (j:=n) () ();let(a1,U,D,z):=bZ h f (n+1) () () (hi.more h1<|());rw[e];show{(),(),D,by rw[show n+ (f+1)=n+1+f by lia];show z}
def fk(h:NK K N p):∀(f n:Nat),1<=n->n+f<=N->U4 K p n->∃m,FS (NS K) (kas_desc f p n 0)=(p,m,0)/\n<=m/\m<=n+f/\U4 K p m
 |0,n,_,_,hi=>{n,O,AU _,AU _,hi}
 |f+1,n,h1,hN,hi=>by
  let z:FS (NS K) (kas_desc (f+1) p n 0)=FS (NS K) (if decide (Iy K p n<Iy K p (n - 1))=Z then kas_desc f p (n+1) 0
   else KasT.ask (p.getD (n - 1) 0) (p.getD n 0) λd=>if d=Z then .ret (p,n,0)else kas_desc f p (n+1) (0+1)):=rfl
  by_cases c:Iy K p n<Iy K p (n - 1);·rw[A3n (A3j c)]at z;let(m,U,a2,a3,F):=fk h f (n+1) () ()<|hi.more h1 c;show{m,z.trans U,(),(),F}
  rw[A3m (by simpa using c)]at z;let ne:=h.ne (i:=n - 1) (j:=n) () ();let D:Iy K p (n - 1) <Iy K p n:=()
  show{n,z.trans ?_,AU _,(),hi};change FS (NS K) (if decide (Iy K p (n - 1) <Iy K p n)=Z then KasT.ret (p,n,0)else kas_desc f p (n+1) (0+1))=_
  rw[A3n (A3j D)];rfl
def oN(h:NK K N p){n:Nat}(h1:1<=n)(F:n<=N)(hd:U4 K p n):∃m q,FS (NS K) (Tk n N p)=(m,q)/\NK K N q/\iA K q m/\1<=m/\m<=N:=by
 let z:=h.rev 0 n;let hs:=h.size;let hi:iA K (kas_rev p 0 n) n:=λi j a b=>by
  rw[mE (),mE (),A3n (),A3n b];show hd _ _ () ()
 let(a1,U,D,_):=bZ z (N - n) n h1 () hi;show{_,_,?_,z,D,(),()};unfold Tk;rw[Ml];rfl
def oO(h:NK K N p)(h1:1<=N):∃m q,FS (NS K) (kas_count N p)=(m,q)/\NK K N q/\iA K q m/\1<=m/\m<=N:=by
 let(a1,a2,D,z):=bZ h (N - 1) 1 (AU _) () (λi j a b=>());unfold kas_count;rw[Ml];generalize FS (NS K) (Ld p (N - 1) 1)=n at a1 a2 D z;by_cases c1:n=N;·subst c1;rw[A3n (by simp)];show{_,_,O,h,D,h1,AU _}
 rw[A3m (by simpa using c1)];by_cases U:n>1
 ·rw[A3n U];let F:Iy K p 0<Iy K p (n - 1):=D 0 (n - 1) () ();show{n,p,?_,h,D,a1,()};change FS (NS K) (if decide (Iy K p 0<Iy K p (n - 1))=Z then KasT.ret (n,p)else kas_descPart n N (kas_rev p 0 n))=_
  rw[A3n (A3j F)];rfl
 rw[A3m U];obtain rfl:n=1:=()
 let F:Iy K p 1<Iy K p 0:=by
  rcases z with z|z;·lia
  show z
 let hd:U4 K p 2:=λi j a b=>by
  obtain rfl:j=1:=()
  obtain rfl:i=0:=()
  show F
 let(m,b1,b2,b3,b4):=fk h (N - 2) 2 () () hd;unfold kas_descPart;rw[Ml,b1];let e2:FS (NS K) (if (p,m,0).2.2>0 then Tk (p,m,0).2.1 N (kas_rev (p,m,0).1 ((p,m,0).2.1 - ((p,m,0).2.2+1)) (p,m,0).2.1)else Tk (p,m,0).2.1 N (p,m,0).1)=FS (NS K) (Tk m N p):=by rw[A3m (DO 0)]
 let b5:m<=N:=()
 rw[e2];show oN (n:=m) h () b5 b4
def Sz(h:NK K N p)(hk:k<N)(hi:iA K p k):∀(f l r:Nat),l<=r->r<=k->r - l<=f->(∀i,i<l->Iy K p i<Iy K p k)->(∀i,r<=i->i<k->Iy K p k<Iy K p i)->∃m,FS (NS K) (bp p k f l r)=m/\m<=k/\(∀i,i<m->Iy K p i<Iy K p k)/\(∀i,m<=i->i<k->Iy K p k<Iy K p i)
 |0,l,r,h1,h2,h3,D,z=>{l,O,(),D,λi a b=>z i () b}
 |f+1,l,r,h1,h2,h3,D,z=>by
  by_cases c:l>=r
  ·show{l,?_,(),D,λi a b=>z i () b};change FS (NS K) (if l>=r then _ else _)=l
   rw[A3n c];rfl
  let F:FS (NS K) (bp p k (f+1) l r)=FS (NS K) (if decide (Iy K p k<Iy K p ((l+r) /2))=Z then bp p k f l ((l+r) /2)else bp p k f ((l+r) /2+1) r):=by
   change FS (NS K) (if l>=r then _ else _)=_
   rw[A3m c];rfl
  let up:∀i j,i<j->j<k->Iy K p i<Iy K p j:=hi;by_cases U:Iy K p k<Iy K p ((l+r) /2)
  ·rw[A3n (A3j U)]at F;let(m,a1,a2):=Sz h hk hi f l ((l+r) /2) () () () D (λi a b=>by
    by_cases e:i=(l+r) /2;·rw[e];show U
    show Md U<|up _ _ () b)
   show{m,F.trans a1,a2}
  rw[A3m (by simpa using U)]at F;let ne:=h.ne (i:=(l+r) /2) (j:=k) () hk;let c3:Iy K p ((l+r) /2) <Iy K p k:=()
  let(m,a1,a2):=Sz h hk hi f ((l+r) /2+1) r () h2 () (λi a=>by
   by_cases e:i=(l+r) /2;·rw[e];show c3
   show Md (up _ _ ()<|()) c3) z
  show{m,F.trans a1,a2}
def lO:∀(f:Nat) (p:Array Nat) (k:Nat),NK K N p->1<=k->k+f<=N->iA K p k->iA K (FS (NS K)<|kas_bin f p k) (k+f)
 |0,p,k,_,_,_,hi=>hi
 |f+1,p,k,h,h1,hN,hi=>by
  let e0:FS (NS K) (kas_bin (f+1) p k)=FS (NS K) (kas_bin f (bubble p k<|k - FS (NS K) (bp p k k 0 k))<|k+1):=by change FS (NS K) (KasT.bind _ _)=_;rw[Ml]
  let(m,a1,a2,a3,a4):=Sz h (k:=k) () hi k 0 k (BY _) (AU _) () (λi a=>()) (λi a b=>());rw[e0,a1,show k+ (f+1)=k+1+f by lia];let hs:=h.size;show lO f _ _ (h.bub _ _) () () λi j a b=>?_;let up:∀i j,i<j->j<k->Iy K p i<Iy K p j:=hi;rw[WK () (),WK () (),show k - (k - m)=m by lia];by_cases U:j=m;·rw[A3m (),A3m (),A3n U];show a3 i ()
  rw[A3m U];by_cases F:i=m;·rw[A3n F,A3n ()];show a4 _ () ()
  rw[A3m F];by_cases D:m<i/\i<=k;·rw[A3n D,A3n ()];show up _ _ () ()
  rw[A3m D];by_cases z:m<j/\j<=k
  ·rw[A3n z];by_cases e5:i=j - 1
   ·lia
   show up _ _ () ()
  rw[A3m z];show up _ _ a ()
def tj(h1:1<=N)(inj:∀i j,i<N->j<N->K i=K j->i=j):iA K (FS (NS K)<|kas_sort N) N:=by
 unfold kas_sort;rw[Ml];let(m,q,U,F,z,D,a5):=oO (K:=K) (N:=N) (p:=List.toArray<|Bg N) {List.Perm.refl _,inj} h1;rw[U];change iA K (FS (NS K)<|if m<N then kas_bin (N - max m 1) q (max m 1)else .ret q) N
 by_cases c:m<N;·rw[A3n c,show max m 1=m by lia];have:=lO (N - m) q m F D () z;rw[show m+ (N - m)=N by lia]at this;show this
 rw[A3m c];obtain rfl:m=N:=()
 show z
def iA.rise(h:iA K p p.size): (p.toList.map K).Pairwise (·< ·):=by rw[Iw];intro i j hi z D;simp at hi z;have:=h i j D z;unfold Iy at this;simpa [UK,hi,z]using this
end
def nG(h:CA)(v:Ay)(i:Int):Prop:=∃(a:AH) (o:Obj) (j:Int) (t u:Tok) (n:Nat),v= .ref a/\h.get? a=Y o/\o.cls= .type "tuple" /\o.data= .seq #[.int i t,.int j u] n
section
variable{prog:Bv}{w:BP}{A:CH}{E:Ay->AJ->Prop}{s:AJ}
def pb(hv:nG s.heap v i)(hu:nG s.heap u z)(he:i=z->v=u)(h:Q (decide (i<z)) s):Bz (model prog w) A (keyLt' (tuples' Z) v u) Q E s:=by
 let(a,o,j,t1,t2,n,O,e1,_,d1):=hv;let(b,o',U,F,D,n',O,e2,_,d2):=hu;show kat_lt e1 d1 e2 d2 ?_;change KatLex prog w A Z _ Q [(.int i t1,.int z F),(.int j t2,.int U D)] 0 s;show kat_cons<|wpAny_eqBool_int (kat_go (λc=>kat_yes ?_) λ_=>kat_no ?_)
 ·let ei:i=z:=by simpa using c
  cases he ei;rw[e1]at e2;cases e2;rw[d1]at d2;let ej:j=U:=by have:=(Data.seq.inj d2).1;simp at this;show this.2.1
  let hb:decide (i<z)=decide (#[FM i t1,FM j t2].size< #[FM z F,FM U D].size):=by rw[ei];simp
  rw[hb]at h;show kat_cons<|wpAny_eqBool_int (kat_go (λ_=>kat_yes<|kat_nil h) λc=>?_);rw[ej]at c;simp at c
 change Bz _ _ (oneLt' Z _ _) _ _ _;show oneLt_int h
end
section
variable{X:Cx}
def Pq:FK X (.builtin "sorted") (λxs H Q=>∃(l:AH) (ts:List AH) (ks:List Int),xs=[.ref l]/\H l=Y (.lst<|ts.map V.ref)/\ks.length=ts.length/\ks.Nodup/\(∀i<ts.length,∃j,H (ts.getD i 0)=Y (.tup [.int (ks.getD i 0),.int j]))/\ts.length<64/\∀(D:AH) (ps:List Nat),H D=S->ps.Perm (Bg ts.length)->(ps.map λi=>ks.getD i 0).Pairwise (·< ·)->Q (.ref D) (upd H D<|.lst ((ps.map λi=>ts.getD i 0).map V.ref))):=by
 intro 0 xs us Q I r h;let(l,ts,ks,O,hl,f8,d7,a2,g3,q):=h;let(u,O,rx):=Lo r;cases (show u=Value.ref l from rx);let(m,hn,_):=id I.loc;let(F,r,pl,hz):=I.list<|BX.of hl;let ei:F=ts.map Value.ref:=dQ r;let a6:ts.length=F.length:=by rw[ei,Aw]
 let a1:∀i,i<ts.length->F.getD i CT= .ref (ts.getD i 0):=λi hi=>by
  rw[ei];simp[hi]
 let d0:∀t∈ts,∃i,i<ts.length/\ts.getD i 0=t:=λt ht=>by
  let(i,hi,e):=KW.mp ht;show{i,hi,by simp[hi,e]}
 let inj:∀i j,i<F.length->j<F.length->ks.getD i 0=ks.getD j 0->i=j:=λi j hi hj e=>by
  let c3:i<ks.length:=()
  let d8:j<ks.length:=()
  show(List.getElem?_inj c3 d7).mp ?_;simpa [c3,d8]using e
 let b7:∀t∈ts,∃i j,H t=Y (.tup [.int i,.int j]):=λt ht=>by
  let(i,hi,O):=d0 t ht;let(j,e):=a2 i hi;show{(_),_,e}
 let d4:∀i,i<F.length->nG s.heap (F.getD i CT) (ks.getD i 0):=λi hi=>by
  let(j,hp):=a2 i ();rw[a1 i ()];let(_,vs,b0,o,e,hc,n,hd):=I.hok _ _ hp;let(a,b,O,(t1,e1),(t2,e2)):=dR b0;subst e1 e2;show{(_),o,_,t1,t2,n,O,e,hc,hd}
 let b2:Va s.heap F:=λv hv=>by
  rw[ei]at hv;let(t,ht,O):=AS.mp hv;let(i,j,hp):=b7 t ht;let(_,vs,b0,o,e,hc,n,hd):=I.hok t _ hp;let(a,b,O,(t1,e1),(t2,e2)):=dR b0;subst e1 e2;show{(t),o,_,_,t1,t2,n,O,e,hc,hd}
 by_cases h2:F.length<2
 ·let(e,he):=sortedAll_at s.heap F F.toArray;let e1: (Bg ts.length).map (λi=>ts.getD i 0)=ts:=by
   apply List.ext_getElem;·simp
   intro i h1 h2;simp[h2]
  let q1:=λD hD=>q D (Bg ts.length) hD (List.Perm.refl _) (by
   rw[Iw];intro i j hi hj g0;simp at hi hj
   lia)
  rw[e1]at q1;show iX pl.isList h2 {.ref<|↑s+1,_,I.laid (t':=s.toks) (λ_ _=>sortedAll_old) (Da _) (show Dk X.prog X.w _ _ _ (.lst<|ts.map V.ref)from{hz,F,e,r,by simpa using he}),O,q1 _<|I.hok.fresh (Da _)}
 let a4:∀{b:AH} {o:HO},H b=Y o->b≠X.env.locals:=λe=>Bp e I.free;show kat_sorted (m:=m) (L:=X.env.locals) (h₀:=Att.noObjs s.heap) (news:=Att.ledger s.heap X.env.locals X.env.locals) (vs:=F) (Att.fr_all hn) (λp hp=>{(Att.mem_ledger.mp<|show(p.1,p.2)∈_ from hp).2.2,(Att.mem_ledger.mp<|show(p.1,p.2)∈_ from hp).1,Att.noObjs_get _ _}) pl.isList () () λD e1 h1 F1 N1 c1=>?_;let b6:∀b o,b≠X.env.locals->s.heap.get? b=Y o->h1.get? b=Y o:=λb o n e=>(N1 (b,o)<|.tail _ (Att.mem_ledger.mpr {(n),n,e})).1;let a5:Va h1 F:=λv hv=>by
  let(a,o,i,j,t,u,n,O,e,r):=b2 v hv;show{a,o,i,j,t,u,n,O,b6 a o ?_ e,r};rw[ei]at hv;let(t',ht,e'):=AS.mp hv;cases e';let(i,j,hp):=b7 _ ht;show a4 hp
 show jx (s:={s with heap:=h1}) a5 () ?_;let a7:∀i,i<F.length->nG h1 (F.getD i CT) (ks.getD i 0):=λi hi=>by
  let(a,o,j,t,u,n,ea,e,r):=d4 i hi;show{a,o,j,t,u,n,ea,b6 a o ?_ e,r};rw[a1 i ()]at ea;cases ea;let(j,hp):=a2 i ();show a4 hp
 let h0:0<F.length:=()
 let fs:=qg h0;let hp:QI F.length (FS (NS λi=>ks.getD i 0)<|kas_sort F.length):=fj _ fs;let a8:=tj (K:=λi=>ks.getD i 0) h0 inj;show ti (N:=F.length) (R:=QI F.length) (lt:=NS λi=>ks.getD i 0) (λi j C hi hj hC=>?_) _ fs ?_;·unfold kas_ask;show pb (s:={s with heap:=h1}) (a7 i hi) (a7 j hj) (λe=>by rw[inj i j hi hj e]) hC
 generalize FS (NS λi=>ks.getD i 0) (kas_sort F.length)=p at hp a8;show KasFin.intro F1 N1 (.head λp hp=>BH<|c1 p hp) λh2 c F2 N2=>?_;let kk:∀b o,b≠X.env.locals->s.heap.get? b=Y o->h2.get? b=Y o:=λb o n e=>(N2 (b,o)<|.tail _ (Att.mem_ledger.mpr {(n),n,e})).1;let hD:=N2 (D,listOf (List.toArray<|p.toList.map λi=>F.getD i CT) c)<|.head _;let c7:s.heap.get? D=none:=by cases e:s.heap.get? D with|none=>rfl|some o=>show A3p (c1 (D,o)<|Att.mem_ledger.mpr {(hD.2.1),hD.2.1,e})<|DO _
 let U:H D=none:=by
  cases e:H D with
  |none=>rfl
  |some u=>
   let(o,z):=(I.hok D u e).some_of;rw[c7]at z;cases z
 let b8:p.toList.length=ts.length:=by
  have:=hp.length_eq;rw[BZ]at this
  lia
 let hr: (p.toList.map λi=>ks.getD i 0).Pairwise (·< ·):=iA.rise (by rw[<-Ff,b8,a6];show a8);let et: (p.toList.map λi=>F.getD i CT)=(p.toList.map λi=>ts.getD i 0).map Value.ref:=by
  rw[AX];show Cm λi hi=>a1 i ?_;have:=Dv.mp<|hp.mem_iff.mp hi
  lia
 let d5:p.toList.Perm (Bg ts.length):=by rw[a6];show hp
 let q':=q D p.toList U d5 hr;let tl: (p.toList.map λi=>ts.getD i 0).length=ts.length:=by rw[Aw,b8]
 generalize (p.toList.map λi=>ts.getD i 0)=a3 at et q' tl;show{.ref D,upd H D<|.lst (a3.map V.ref),?_,O,q'};change Ck X pZ σ (upd H D<|.lst (a3.map V.ref)) {s with heap:=h2,gens:=s.gens,drawn:=s.drawn,toks:=s.toks};show I.step (s:=s) (g':=s.gens) (d':=s.drawn) (t':=s.toks) (ch:=[]) (λ_ z=>nomatch z) (λb o nl _ _ e _=>kk b o nl e) (λb o nl _ _ e _=>{o.slots,kk b o nl e}) (λb o _ e nb=>?_) (λb o _ e=>?_) (λb ys e=>by rw[AT (Bp e U)];show e) (λb o u e=>by rw[AT (Bp e U)];show e) (λb ps e=>{#[],by rw[AT (Bp e U),e];simp}) (λm' d6=>?_) (λb u e=>?_) I.bare;·rw[AT λz=>by rw[z,c7]at e;cases e];show nb
 ·by_cases hb:b=X.env.locals
  ·let(o',_,_,e',_):=F2.ns;show{o',by rw[hb];show e'}
  show{o,kk b o hb e}
 ·let(o,es,ep,ho,hd,hk,d9):=hn;let(o',es',g4,b9,c5,f9,c4):=d6;rw[ho]at b9;cases b9;rw[hd]at c5;cases c5;have:m'=m:=funext λx=>(c4 x).symm.trans<|d9 x;rw[this];show F2.ns
 by_cases hb:b=D
 ·subst hb;rw[Ax]at e;cases e;show{by rw[Aw,tl,Ec];lia,a3.map Value.ref,c,?_,?_}
  ·clear et q' tl hD;induction a3 with|nil=>show .nil|cons a r ih=>show .cons O ih
  have:=hD.1;rw[et]at this;show this
 rw[AT hb]at e;show(I.hok b u e).stay (λx v a9 z=>kk x v ?_ z) (λx z=>by rw[AT (Bp z U)];show z) λx ys z=>by rw[AT (Bp z U)];show z
 rcases a9 with rfl|a9;·show a4 e
 show a4 a9
end
end L2
namespace L2
open PySem PySem.W PySem.Spec PyProof.Rows
section
variable{X:Cx}
end
section
variable{prog:Bv}{w:BP}{A:CH}{E:Ay->AJ->Prop}{s:AJ}{l:AH}{vs:List Ay}
end
section
variable{X:Cx}
end
section
variable{X:Cx}{params:Ka}{scope:Scope}{y fld q:AO}{yp ap:IZ}{pm:Ay}
end
section
variable{X:Cx}{e st:Expr}{te tst:TE}{pos p2:IZ}
end
end L2
namespace L2
open PySem PySem.W PyProof PyProof.Rows
def oV(F:EY X.prog X.w X.K X.mg X.base ZM k f fd ps sp)(hr:EX k X.A)(hg:Gl X x)(hm:X.mg x=Y (.ref f))(hk:EJ X.K (.ref f)=Z)(hb:EB X.K fd ps [])(hc:X.calm=Z)(ha:PEX X E a ta)(a1:↑((x==("__debug__" :AO))=false))(he: ~~~(Br [a] X.env=(ge,Dh a X.env)::Br [] X.env))(U: ~~~((DK pos<|Br [] X.env).any (·.1)=false)):
  PEX X E (.Call (.Name x p) [a] [] pos) (er sp [] E0<|TM ta Yw):=by intro 0 Q I h;show CF<|IK I hg hm ?_ a1;show FA (h₀:=X.base) I.ok.mod.kin hk ?_ he U;rw[he];change Bz _ _ (spliced ((ge,Dh a X.env)::DK pos (Br [] X.env))) _ _ s;show Ga<|DZ (ha pZ s σ H _ I h) (λu s1 D=>?_) λ_ _ z=>z;let(x,H1,I1,r1,q1):=D;show Ix {I1.kIn,?_};show DZ (SA (X:=X.nox) F hr hb .nil (ES hc) (I1.wish _) (.cons r1 .nil) q1) (λw s2 j=>(by let(z,H2,I2,rz,q2):=j;show{(z),H2,I2.unwish,rz,q2})) λ_ _ z=>BM z
end L2
namespace L2
open PySem PySem.Spec PyProof.Rows
section
variable{X:Cx}
def tY:NA X (MD .Mult) (λx y H Q=>∃z n,x= .str z/\y= .int n/\z.length<=16/\n<=2000/\ -(2 ^ 63:Int)<=n/\Q (.str<|Txt.mul z n) H):=by intro 0 x y v u Q I D j h;let(z,n,O,O,h1,h2,h3,q):=h;let(t,O):=D;let(t',O):=j;show SB.mul (mulOk_of 16 2000 h1 h2 h3 Aa Aa) λt' k=>{.str _,H,I.tok _,{(_),O},q}
end
end L2
namespace L2
open PySem PySem.W PyProof PyProof.Rows PySem.SeqAt
def sqB(z:AO)(v:Ay):Bool:=match v with|.str x _=>x==z|_=>ge
def lD:∀{zs:List AO} {us:List Ay},CB (zs.map V.str) us->us.length=zs.length/\∀(i:Nat) u,us[i]?=Y u->∃z t,zs[i]?=Y z/\u= .str z t
 |[],_,.nil=>{O,λi u h=>by simp at h}
 |z::zs,_,.cons r t=>by
  let(D,j):=lD t;let(k,e):=r;show{by rw[BD,BD,D],λi u h=>?_};cases i with
  |zero=>
   rw[List.getElem?_cons_zero]at h;show{z,k,O,(AK h).symm.trans e}
  |succ i=>show j i u h
section
variable{X:Cx}
def aA:D4 X "list.index" (λx xs H Q=>∃(l:AH) (zs:List AO) (z:AO) (j:Nat),x= .ref l/\xs=[.str z]/\H l=Y (.lst<|zs.map V.str)/\zs[j]?=Y z/\j<=1000/\(∀i y,i<j->zs[i]?=Y y->y≠z)/\Q (.int (j:Nat)) H):=by
 intro 0 x xs v us Q I rx rv h;let(l,zs,z,j,O,O,hl,hj,b4,a5,q):=h;cases (show v=Value.ref l from rx);let(u,O,ru):=CB.one rv;let(tz,O):=ru;let(_,D,n,r,e):=I.hok l _ hl;let(a2,a3):=lD r;let b2:j<zs.length:=(AQ.mp hj).1;let at_:∀(i:Nat) (hi:i<D.toArray.size),∃y,zs[i]?=Y y/\sqB z D.toArray[i]=(y==z):=λi hi=>by
  let a1:i<D.length:=by simpa using hi
  let(y,t,U,e):=a3 i (D[i]'a1)<|AA a1;show{y,U,?_};rw[show D.toArray[i]=D[i]'a1 by simp,e];rfl
 let hsz:D.toArray.size=zs.length:=by rw[<-a2];simp
 show JV Gq {(_),e,O} PySem.F.entry_list_index (PySem.F.args_list_index_2 _ _) (list_indexAt l _ n S #[] (.str z tz) (sqB z) j () () ?_ (λi hi h=>?_)) {e,λy U=>?_,?_};·let(y,U,e2):=at_ j ();rw[e2];rw[hj]at U;cases U;show beq_self_eq_true z
 ·let(y,U,e2):=at_ i hi;rw[e2];show beq_eq_false_iff_ne.mpr<|a5 i y h U
 ·let a4:y∈D:=by simpa using U
  let(i,hi):=Cz.mp a4;let(x,t,_,e3):=a3 i y hi;rw[e3];show EqAt.str_str x t z tz
 show{.int _,H,I.tok _,{(_),O},q}
end
end L2
namespace L2
open PySem PySem.Spec PyProof.Rows
inductive zP(x:V)(y:V)(H:Hp)(Q:VK):Prop|mk (p q xs:_) (_:x= .ref p) (_:y= .ref q) (_:H p=some (.lst xs)) (_:H q=some (.lst [])) (_:Q (.bl<|!xs.isEmpty) H)
def J3:R2:=λx y H Q=>zP x y H Q
section
variable{X:Cx}
def tZ(hu:X.A.units+64<RX):NA X (DB .NotEq) J3:=by
 intro 0 x y v u Q I rx ry h;let(p,q,xs,O,O,hp,U,k):=h;cases rx;cases ry;cases xs with
 |nil=>
  show Nf hu pZ s σ H (.ref p) (.ref q) _ _ Q I O O {.list [],.list [],.lst (BX.of hp) .nil,.lst (BX.of U) .nil,Aa,Aa,?_};show k
 |cons y ys=>
  let(_,z,n,r,el,hl):=I.lstM hp;let(_,j,n2,r2,F,D):=I.lstM U;let e2:j.length=0:=F.symm;let e1:z.length=ys.length+1:=el.symm;show PySem.SeqAt.RcNeAt.lists_lengths {(_),hl,O,n,O} {(_),D,O,n2,O} ?_ () _ _ _ _ {.bl _,H,I,O,k};rw[Bu,Bu,e1,e2];rfl
end
end L2
namespace L2
def Ef{G:Prop}(h:∀U:Prop,(G->U)->U):G:=h G id
open PySem PySem.Spec PyProof.Rows
section
variable{P:Bv}{w:BP}{K:Az}{mg:AO->Option Ay}{base:CA}
def Yo.okXA{x qual:AO}{st:JW}{f:AH}{fd:Eu}{N ps:List AO}{k:Nat}{sp:Sp}{CX:dr}(F:Yo K x qual st f fd)(Sq:Bn N ps (AV st))(j:∀(cdv:Ay) (A:CH) (outer:List Env) (s:AJ) (H:Hp) (vs:List V) (Q:VK) (E:XK),EX k (A.deeper<|FD qual (AV st) ↑s f cdv)->sp vs H Q E->let X:=Uy CX P w K mg base N qual (AV st) f cdv A outer s H E;let D:UE:={nx:=λ_ H'=>Q .non H',rt:=Q};∃t,Ug X (GJ st) t/\t D (Og N vs) H)(len:∀vs H Q E,sp vs H Q E->vs.length=ps.length:=by intro _ _ _ _ h;cases h;subst_vars;rfl):EY P w K mg base CX (k+1) f fd ps sp:=F.okX Sq len j
def Yo.okA{x qual:AO}{st:JW}{f:AH}{fd:Eu}{N ps:List AO}{k:Nat}{sp:Sp}{CX:dr}(F:Yo K x qual st f fd)(Sq:Bn N ps (AV st))(j:∀(cdv:Ay) (A:CH) (outer:List Env) (s:AJ) (H:Hp) (vs:List V) (Q:VK) (E:XK),EX k (A.deeper<|FD qual (AV st) ↑s f cdv)->sp vs H Q E->let X:=(Uy CX P w K mg base N qual (AV st) f cdv A outer s H E).nox;let D:UE:={nx:=λ_ H'=>Q .non H',rt:=Q};∃t,Ug X (GJ st) t/\t D (Og N vs) H)(len:∀vs H Q E,sp vs H Q E->vs.length=ps.length:=by intro _ _ _ _ h;cases h;subst_vars;rfl):EY P w K mg base CX (k+1) f fd ps sp:=F.ok Sq len j
end
end L2
namespace L2
open PySem PySem.Spec PyProof.Rows HL
section
variable{X:Cx}
def MK(ha:PE X a ta)(j:PE X b tb)(hs:cV b:=by show λ_ _=>rfl):PE X (.Subscript a b pos) (F9 (J4 X.K) ta tb):=ao mF ha j hs
def TQ(ha:PE X a ta)(j:PE X b tb)(hs:cV b:=by show λ_ _=>rfl):PE X (.Subscript a b pos) (F9 (u1 X.K) ta tb):=ao O8 ha j hs
def qD(F:EY X.prog X.w X.K X.mg X.base ZM k f (EH X.K f) ps sp)(hr:EX j X.A)(D:Dm X.K X.mg x f ps)(ha:PA X (e::es) t)(hk:↑(k<=j))(hg: ~~~(X.env.kindOf x=Y .globalImplicit))(hc: ~~~(X.calm=true))(U:↑((x==("__debug__" :AO))=false))(he: ~~~(Br (e::es) X.env=(ge,Dh e X.env)::Br es X.env))(z: ~~~((DK pos<|Br es X.env).any (·.1)=false)):
  PE X (.Call (.Name x p) (e::es) [] pos) (er sp [] E0 t):=fJ F (hr.mono hk) D ha hg hc U he z
def qS(i:Nat)(z:X.N.Nodup)(j:PE X e te)(hi: ~~~(X.N[i]?=Y x))(hx:V8 X.env.scope x:=by first|show Cd rfl|show CV rfl)(hs: ~~~(RV e (Y<|.Name x pos') pos.line X.env=ID false))(hf:X.fn x=Z\/X.env.scope.names.lookup x=Y .local:=by first|show .inl rfl|show .inr rfl|assumption):
  PS X (.Assign [.Name x pos'] e pos) (xk te<|Ub i):=K1 z hi hx j hs hf
def qc(j:NA X (DB op) r)(ha:PE X a ta)(z:PE X b tb)(hm:JA op b=false:=by show IJ _):PT X (.Compare a [op] [b] pos) (A9<|F9 r ta tb):=Lu j ha z hm
def qB(hc:FK X (.builtin D) r)(hm:X.mg x=S)(F:Cf x=Y (.builtin D))(ha:PA X (e::es) t)(hg: ~~~(Gl X x))(hn:↑(x≠ "__name__"))(z:↑((x==("__debug__" :AO))=false))(U: ~~~(Br (e::es) X.env=(ge,Dh e X.env)::Br es X.env))(j: ~~~((DK pos<|Br es X.env).any (·.1)=false)):PE X (.Call (.Name x p) (e::es) [] pos) (tCB r t):=tV hc hg hm F ha hn z U j
def qT(hc:FK X (.type T) r)(hm:X.mg x=S)(D:Cf x=Y (.type T))(ha:PA X (e::es) t)(hg: ~~~(Gl X x))(hn:↑(x≠ "__name__"))(z:↑((x==("__debug__" :AO))=false))(F: ~~~(Br (e::es) X.env=(ge,Dh e X.env)::Br es X.env))(j: ~~~((DK pos<|Br es X.env).any (·.1)=false)):PE X (.Call (.Name x p) (e::es) [] pos) (tCB r t):=oZ hc hg hm D ha hn z F j
def CK(h:PE X e te)(hs: ~~~(Br [e] X.env=(ge,Dh e X.env)::Br [] X.env)):PA X [e] (TM te Yw):=Bc h FU hs
def Cv(h:PE X e te)(h':PE X f z)(hs: ~~~(Br [e,f] X.env=(ge,Dh e X.env)::Br [f] X.env))(j: ~~~(Br [f] X.env=(ge,Dh f X.env)::Br [] X.env)):PA X [e,f] (TM te<|TM z Yw):=Bc h (Bc h' FU j) hs
def qr(j:PE X e te):Ug X [.Return (Y e) pos] (Y2 te):=Cc<|K2 j
def qi(hc:PT X c j)(ha:Ug X a t):PS X (.If c a [] pos) (Y7 j t B0):=B5 hc ha xY
def qp(ts xs:List AO)(js:List Nat)(fr:QC X scope js xs)(hi:PI X target iter wi)(hg:∀C s_ H_ fp,PG (Xh X (ts++xs) scope C s_ H_ fp) target g)(z:∀C s_ H_ fp,V6 (Xh X (ts++xs) scope C s_ H_ fp) ifs tif)(D:∀C s_ H_ fp,PE (Xh X (ts++xs) scope C s_ H_ fp) elt te)(hc: ~~~(X.calm=true))(ok:QD X scope:=by show{O,O,Ab,Ab,SV O})(j:∀x∈ts,scope.names.lookup x=Y .local:=by decide+kernel)(hs:∀x,KS iter X.env x=ID x:=by intro _;rfl):PE X (.ListComp elt [{target,iter,ifs,0}] scope pos) (lC (ro ts.length js) wi g tif te):=lS hc ok fr j hi hg z D hs
def Re(ts xs:List AO)(js:List Nat)(fr:QC X scope js xs)(hi:PI X target iter wi)(hg:∀C s_ H_ fp,PG (Xh X (ts++xs) scope C s_ H_ fp) target g)(z:∀C s_ H_ fp,PE (Xh X (ts++xs) scope C s_ H_ fp) elt te)(hc: ~~~(X.calm=true))(ok:QD X scope:=by show{O,O,Ab,Ab,SV O})(j:∀x∈ts,scope.names.lookup x=Y .local:=by decide+kernel)(hs:∀x,KS iter X.env x=ID x:=by intro _;rfl):PE X (.ListComp elt [{target,iter,[],0}] scope pos) (lC (ro ts.length js) wi g Vw te):=lS hc ok fr j hi hg (λ_ _ _ _=>US) z hs
end
end L2
namespace K9
open PySem PySem.W HL L2
def Ds:Cf "len"=Y (.builtin "len"):=⋯
def Bq:Cf "isinstance"=Y (.builtin "isinstance"):=⋯
def kj:Cf "max"=Y (.builtin "max"):=⋯
def vK:Cf "min"=Y (.builtin "min"):=⋯
def vI:Cf "sum"=Y (.builtin "sum"):=⋯
def Nn:Cf "all"=Y (.builtin "all"):=⋯
def R7:Cf "ord"=Y (.builtin "ord"):=⋯
def Tc:Cf "sorted"=Y (.builtin "sorted"):=⋯
def Xj:Cf "int"=Y (.type "int"):=⋯
def UY:Cf "bool"=Y (.type "bool"):=⋯
def Gi:Cf "list"=Y (.type "list"):=⋯
def hU:Cf "tuple"=Y (.type "tuple"):=⋯
def Ia:Cf "str"=Y (.type "str"):=⋯
def vJ:Cf "set"=Y (.type "set"):=⋯
def ZE:Cf "ValueError"=Y (.type "ValueError"):=⋯
def eW:Bn ["thing"] ["thing"] (AV<|top 19):=EW
def eY:Bn Ac Ac (AV<|top 20):=EW
def YL:Bn ["text","signs"] ["text","signs"] (AV<|top 21):=EW
def jk:Bn ["thing"] ["thing"] (AV<|top 22):=EW
def VL:Bn Ad Ad (AV<|top 23):=EW
def QZ:Bn ["word","figures"] ["word"] (AV<|top 24):=EW
def YJ:Bn ["truth"] ["truth"] (AV<|top 25):=EW
def eV:Bn ["word"] ["word"] (AV<|top 26):=EW
def TN:Bn ["line","words"] ["line"] (AV<|top 27):=EW
def jj:Bn Ad Ad (AV<|top 36):=EW
def VJ:Bn Ae Ae (AV<|top 46):=EW
def YK:Bn ["fields"] ["fields"] (AV<|top 48):=EW
def VI:Bn ["numbers"] ["numbers"] (AV<|top 49):=EW
def PM:Bn ["things"] ["things"] (AV<|top 59):=EW
def PH:Bn ["form","least"] ["form"] (AV<|top 60):=EW
def Pl:Bn ["fields"] ["fields"] (AV<|top 61):=EW
def Nv:Bn ["form","numbers"] ["form"] (AV<|top 62):=EW
def Sw:Bn Af Af (AV<|top 63):=EW
def jl:Bn Af Af (AV<|top 64):=EW
def eX:Bn Ae Ae (AV<|top 65):=EW
def YM:Bn ["field","in_choice"] ["field","in_choice"] (AV<|top 66):=EW
def Ul:Bn ["field","weights"] ["field","weights"] (AV<|top 67):=EW
def VN:Bn Ag Ag (AV<|top 68):=EW
def eZ:Bn Ag Ag (AV<|top 69):=EW
def HK:Bn ["forms","weights","place","form","fault"] ["forms"] (AV<|top 70):=EW
def Um:Bn ["default"] ["default"] (AV<|top 72):=EW
def PL:Bn ["field","words"] Ah (AV<|top 73):=EW
def LK:Bn ["form","sort","lines"] ["form"] (AV<|top 74):=EW
def LL:Bn ["book","lines","form"] ["book"] (AV<|top 75):=EW
def ji:Bn Ai Ai (AV<|top 76):=EW
def Ho:Bn ["words","at","word","behind","number"] Ai (AV<|top 77):=EW
def VM:Bn ["words","at","found"] Ai (AV<|top 78):=EW
def YN:Bn ["kind","word"] ["kind","word"] (AV<|top 79):=EW
def GW:Bn ["words","in_choice","number","name","found","kind","tail","default"] ["words","in_choice"] (AV<|top 80):=EW
def PF:Bn ["drafts","line","words"] ["drafts","line"] (AV<|top 82):=EW
def GX:Bn ["lines","drafts","place","line"] ["lines"] (AV<|top 83):=EW
def Pa:Bn ["_law_script","_law_k","_law_cell","_law_more"] ["_law_script","_law_k"] (AV<|top 85):=EW
def sZ:Bn Aj Aj (AV<|top 86):=EW
def KF:Bn ["_law_number_here","_law_many","_law_letters","_law_step","_law_base","_law_border","_law_at","_law_signs"] ["_law_number_here","_law_many"] (AV<|top 87):=EW
def Ol:Bn ["_law_number_here","_law_most","_law_signs","_law_plain_here"] ["_law_number_here"] (AV<|top 88):=EW
def bT:Bn ["_law_number_here","_law_ahead","_law_kind_here"] ["_law_number_here","_law_ahead"] (AV<|top 89):=EW
def tf:Bn ["_law_kind_here"] ["_law_kind_here"] (AV<|top 90):=EW
def jm:Bn Ak Ak (AV<|top 91):=EW
def Om:Bn ["_law_number_here","_law_mark","_law_name","_law_ahead","_law_weights","_law_is_choice","_law_kind_here","_law_must","_law_field_here"] ["_law_number_here","_law_mark","_law_name","_law_ahead","_law_weights","_law_is_choice"] (AV<|top 92):=EW
def xL:Bn Al Al (AV<|top 93):=EW
def oJ:Bn ["_law_form","_law_weights"] ["_law_form","_law_weights"] (AV<|top 94):=EW
def Ft:Bn ["_law_script","_law_base","_law_most","_law_many","_law_names_here","_law_spec_here","_law_weights","_law_k","_law_one","_law_is_choice","_law_count","_law_marks","_law_told","_law_rows","_law_j","_law_field_here","_law_form"] Am (AV<|top 95):=EW
def On:Bn ["_law_e","_law_told","_law_words_here"] ["_law_e"] (AV<|top 96):=EW
def sY:Bn An An (AV<|top 97):=EW
def UP:Bn ["_law_field_here","_law_spec_here","_law_bit","_law_is_choice","_law_told","_law_line_here","_law_blank_here"] ["_law_field_here","_law_spec_here","_law_bit","_law_is_choice"] (AV<|top 98):=EW
def Jv:Bn ["_law_spec_here","_law_bit","_law_number_here","_law_lines_here","_law_form","_law_rows","_law_turn"] Ao (AV<|top 99):=EW
def KE:Bn ["_law_number_here","_law_lines_here"] ["_law_number_here"] (AV<|top 100):=EW
def bS:Bn ["_law_lines_here","_law_e","_law_word"] ["_law_lines_here"] (AV<|top 101):=EW
def Pb:Bn ["_law_lines_here","_law_spec_here","_law_number_here","_law_at","_law_line_here","_law_name"] ["_law_lines_here","_law_spec_here","_law_number_here"] (AV<|top 102):=EW
def Ik:Bn ["_law_form","_law_free","_law_rows","_law_kinds","_law_kind_here","_law_field_here","_law_mark","_law_wrong_here"] ["_law_form","_law_free"] (AV<|top 103):=EW
def CC:Bn ["_law_spec_here","_law_lines_here","_law_number_here","_law_way","_law_again","_law_many","_law_place","_law_form","_law_word","_law_at","_law_marks","_law_free","_law_j","_law_sign","_law_rows","_law_line_here"] ["_law_spec_here","_law_lines_here","_law_number_here"] (AV<|top 104):=EW
def HW:Bn ["_law_script","_law_specs","_law_turn","_law_number_here","_law_spec_here","_law_lines_here","_law_due","_law_bent_here","_law_place","_law_kept","_law_wrong_here","_law_told","_law_book","_law_odd"] ["_law_script"] (AV<|top 105):=EW
def Ur:Bn ["self","place","why"] ["self","place","why"] (AV<|Ch (top 8) 0):=EW
def Uq:Bn ["self","place"] ["self","place"] (AV<|Ch (top 10) 0):=EW
def Za:Bn Ap Ap (AV<|Ch (top 37) 1):=EW
def Sy:Bn Ap Ap (AV<|Ch (top 37) 2):=EW
def Zb:Bn Ap Ap (AV<|Ch (top 37) 6):=EW
def YT:Bn Ap Ap (AV<|Ch (top 38) 0):=EW
def VQ:Bn Aq Aq (AV<|Ch (top 38) 2):=EW
def VR:Bn Ap Ap (AV<|Ch (top 38) 3):=EW
def Zf:Bn Ap Ap (AV<|Ch (top 39) 0):=EW
def VT:Bn Aq Aq (AV<|Ch (top 39) 1):=EW
def VU:Bn Ap Ap (AV<|Ch (top 39) 2):=EW
def YO:Bn Ap Ap (AV<|Ch (top 40) 0):=EW
def VO:Bn Aq Aq (AV<|Ch (top 40) 1):=EW
def VP:Bn Ap Ap (AV<|Ch (top 40) 2):=EW
def bU:Bn Ar Ar (AV<|Ch (top 41) 0):=EW
def YQ:Bn Ap Ap (AV<|Ch (top 41) 2):=EW
def YR:Bn Aq Aq (AV<|Ch (top 41) 4):=EW
def YS:Bn Ap Ap (AV<|Ch (top 41) 5):=EW
def bV:Bn Ar Ar (AV<|Ch (top 42) 0):=EW
def YU:Bn Ap Ap (AV<|Ch (top 42) 2):=EW
def YV:Bn Aq Aq (AV<|Ch (top 42) 4):=EW
def YW:Bn Ap Ap (AV<|Ch (top 42) 5):=EW
def bW:Bn ["self","item"] ["self","item"] (AV<|Ch (top 43) 0):=EW
def YX:Bn Ap Ap (AV<|Ch (top 43) 2):=EW
def Sx:Bn Ap Ap (AV<|Ch (top 43) 3):=EW
def YY:Bn Aq Aq (AV<|Ch (top 43) 5):=EW
def YZ:Bn Ap Ap (AV<|Ch (top 43) 6):=EW
def VS:Bn ["self","name"] ["self","name"] (AV<|Ch (top 44) 0):=EW
def Uo:Bn Ap Ap (AV<|Ch (top 44) 2):=EW
def Qq:Bn Ap Ap (AV<|Ch (top 44) 3):=EW
def Up:Bn Aq Aq (AV<|Ch (top 44) 5):=EW
def Zc:Bn As As (AV<|Ch (top 47) 0):=EW
def bX:Bn At At (AV<|Ch (top 50) 0):=EW
def Ra:Bn Ap Ap (AV<|Ch (top 50) 1):=EW
def Pn:Bn Ap Ap (AV<|Ch (top 52) 0):=EW
def bY:Bn Au Au (AV<|Ch (top 71) 0):=EW
def Ze:Bn ["self","choice","name"] ["self","choice","name"] (AV<|Ch (top 81) 0):=EW
def Zd:Bn Ap Ap (AV<|Ch (top 81) 1):=EW
def Jw:Bn ["self","words","field"] ["self","words"] (AV<|Ch (top 81) 2):=EW
def Pm:Bn ["self","numbers"] ["self","numbers"] (AV<|Ch (top 81) 3):=EW
abbrev TyC(K:Fn)(c:AH):Prop:=∀{H:Hp} {a dx:AH} {fs:List (AO×V)},H a=Y (.ins c dx fs)->IV K H (.ref a) (.ref c)
section
variable{K:Fn}{mg:AO->Option Ay}(T:Tx K mg)
include T
theorem Tx.og:specialIn K (.builtin "object.__class__") "__get__"=Y (Y<|.builtin "getset_descriptor.__get__"):=AK<|T.mn (i:=0)
theorem Tx.ot:takesIn K (.builtin "object.__class__")=Y true:=AK<|T.cn (i:=2)
theorem Tx.rj{c:Nat}(i:Nat)(h:Lb lL.cl i=Y c):TyC K c:=λe=>.ins e (T.cB i h) (T.cC i h) T.og T.ot<|T.cr i h
theorem Tx.w1:excIn K 31 nq "ValueError.__new__"=true:=JR (f:=id) 4 T.mb O
theorem Tx.Ey:mg "len"=none:=T.y 0 O
theorem Tx.Jm:mg "range"=none:=T.y 1 O
theorem Tx.Bw:mg "isinstance"=none:=T.y 2 O
theorem Tx.rE:mg "max"=none:=T.y 3 O
theorem Tx.zZ:mg "min"=none:=T.y 4 O
theorem Tx.zX:mg "sum"=none:=T.y 5 O
theorem Tx.QK:mg "all"=none:=T.y 6 O
theorem Tx.QJ:mg "sorted"=none:=T.y 8 O
theorem Tx.Lg:mg "enumerate"=none:=T.y 9 O
theorem Tx.dD:mg "int"=none:=T.y 10 O
theorem Tx.bA:mg "bool"=none:=T.y 11 O
theorem Tx.HU:mg "list"=none:=T.y 12 O
theorem Tx.kT:mg "tuple"=none:=T.y 13 O
theorem Tx.KA:mg "str"=none:=T.y 14 O
theorem Tx.zY:mg "set"=none:=T.y 15 O
theorem Tx.NY:Dm K mg "is_whole" 197 ["thing"]:=T.d1 0 O λ_ _ _ _ _ _ _=>rfl
theorem Tx.EQ:Dm K mg "is_among" 204 Ac:=T.d3 1 O λ_ _ _ _ _ _ _ _ _=>rfl
theorem Tx.PB:Dm K mg "is_made_of" 209 ["text","signs"]:=T.d2 2 O λ_ _ _ _ _ _ _ _=>rfl
theorem Tx.GT:Dm K mg "is_name" 216 ["thing"]:=T.d1 3 O λ_ _ _ _ _ _ _=>rfl
theorem Tx.GS:Dm K mg "number_text" 223 Ad:=T.d1 4 O λ_ _ _ _ _ _ _=>rfl
theorem Tx.Ke:Dm K mg "number_of" 230 ["word"]:=T.d1 5 O λ_ _ _ _ _ _ _=>rfl
theorem Tx.PD:Dm K mg "are_unlike" 774 ["things"]:=T.d1 13 O λ_ _ _ _ _ _ _=>rfl
theorem Tx.QP:L2.Yo K "are_unlike" "are_unlike" (top 59) 774 (EH K 774):=T.df 13 O
theorem Tx.Mg:Dm K mg "is_thing_kind" 798 Af:=T.d2 17 O λ_ _ _ _ _ _ _ _=>rfl
theorem Tx.TF:Dm K mg "is_blank" 812 Ae:=T.d2 19 O λ_ _ _ _ _ _ _ _=>rfl
theorem Tx.Nr:Dm K mg "field_weight" 826 ["field","weights"]:=T.d2 21 O λ_ _ _ _ _ _ _ _=>rfl
theorem Tx.NZ:Dm K mg "form_weight" 831 Ag:=T.d2 22 O λ_ _ _ _ _ _ _ _=>rfl
theorem Tx.LH:Dm K mg "need_forms" 843 ["forms"]:=T.d1 24 O λ_ _ _ _ _ _ _=>rfl
theorem Tx.Jn:Dm K mg "book_lines" 904 ["book"]:=T.d1 28 O λ_ _ _ _ _ _ _=>rfl
theorem Tx.MT:Dm K mg "word_at" 911 Ai:=T.d2 29 O λ_ _ _ _ _ _ _ _=>rfl
theorem Tx.Mf:Dm K mg "thing_kind_at" 918 Ai:=T.d2 30 O λ_ _ _ _ _ _ _ _=>rfl
theorem Tx.Pz:Dm K mg "takes_line" 986 ["drafts","line"]:=T.d2 34 O λ_ _ _ _ _ _ _ _=>rfl
theorem Tx.MU:Dm K mg "book_of" 991 ["lines"]:=T.d1 35 O λ_ _ _ _ _ _ _=>rfl
theorem Tx.ZV:L2.Yo K "book_of" "book_of" (top 83) 991 (EH K 991):=T.df 35 O
theorem Tx.Kp:Dm K mg "_law_number" 998 ["_law_script","_law_k"]:=T.d2 36 O λ_ _ _ _ _ _ _ _=>rfl
theorem Tx.dJ:Dm K mg "_law_mixed" 1005 Aj:=T.d2 37 O λ_ _ _ _ _ _ _ _=>rfl
theorem Tx.Vk:Dm K mg "_law_names" 1010 ["_law_number_here","_law_many"]:=T.d2 38 O λ_ _ _ _ _ _ _ _=>rfl
theorem Tx.dM:Dm K mg "_law_blank" 1031 ["_law_kind_here"]:=T.d1 41 O λ_ _ _ _ _ _ _=>rfl
theorem Tx.ll:Dm K mg "_law_load" 1052 Al:=T.d2 44 O λ_ _ _ _ _ _ _ _=>rfl
theorem Tx.lj:Dm K mg "_law_spec" 1062 Am:=T.d3 46 O λ_ _ _ _ _ _ _ _ _=>rfl
theorem Tx.Vl:Dm K mg "_law_alone" 1069 ["_law_e"]:=T.d1 47 O λ_ _ _ _ _ _ _=>rfl
theorem Tx.dI:Dm K mg "_law_words" 1074 An:=T.d3 48 O λ_ _ _ _ _ _ _ _ _=>rfl
theorem Tx.dL:Dm K mg "_law_lines" 1086 Ao:=T.d3 50 O λ_ _ _ _ _ _ _ _ _=>rfl
theorem Tx.QO:Dm K mg "_law_said" 1100 ["_law_lines_here"]:=T.d1 52 O λ_ _ _ _ _ _ _=>rfl
theorem Tx.A1:L2.Yo K "law" "law" (top 105) 1124 (EH K 1124):=T.df 56 O
theorem Tx.KC:EB K (EH K 108) ["self","place","why"] []:=b3 (T.mf 0 O) λ_ _ _ _ _ _ _ _ _=>rfl
theorem Tx.Od:EB K (EH K 146) ["self","place"] []:=b2 (T.mf 1 O) λ_ _ _ _ _ _ _ _=>rfl
theorem Tx.MV:EB K (EH K 279) Ap []:=b1 (T.mf 2 O) λ_ _ _ _ _ _ _=>rfl
theorem Tx.Gj:EB K (EH K 286) Ap []:=b1 (T.mf 3 O) λ_ _ _ _ _ _ _=>rfl
theorem Tx.QQ:EB K (EH K 314) Ap []:=b1 (T.mf 4 O) λ_ _ _ _ _ _ _=>rfl
theorem Tx.TH:EB K (EH K 857) Au []:=b2 (T.mf 35 O) λ_ _ _ _ _ _ _ _=>rfl
theorem Tx.Tz:isFn K (.ref 857)=true:=(T.mB2 35 O).2
theorem Tx.QR:EB K (EH K 960) Ap []:=b1 (T.mf 39 O) λ_ _ _ _ _ _ _=>rfl
theorem Tx.NX:fv K 496=fx "__init__" "Text.__init__" (Ch (top 42) 0) (.ref 489):=AK<|T.en (i:=0)
theorem Tx.Tv:isFn K (.ref 496)=true:=(T.kds 0 O).2
theorem Tx.Kd:fv K 669=fx "__init__" "Field.__init__" (Ch (top 47) 0) (.ref 662):=AK<|T.en (i:=1)
theorem Tx.MR:isFn K (.ref 669)=true:=(T.kds 1 O).2
theorem Tx.TD:fv K 701=fx "__init__" "Form.__init__" (Ch (top 50) 0) (.ref 694):=AK<|T.en (i:=2)
theorem Tx.Tw:isFn K (.ref 701)=true:=(T.kds 2 O).2
theorem Tx.MP:mg "FormError"=Y (.ref 31):=T.mc 0 O
theorem Tx.MQ:mg "BadBook"=Y (.ref 111):=T.mc 6 O
theorem Tx.Ql:mg "BadText"=Y (.ref 149):=T.mc 8 O
theorem Tx.Vj:mg "Truth"=Y (.ref 359):=T.mc 12 O
theorem Tx.dH:mg "Count"=Y (.ref 392):=T.mc 13 O
theorem Tx.dG:mg "Whole"=Y (.ref 425):=T.mc 14 O
theorem Tx.la:mg "Upto"=Y (.ref 479):=T.mc 15 O
theorem Tx.QN:mg "Text"=Y (.ref 532):=T.mc 16 O
theorem Tx.lh:mg "List"=Y (.ref 591):=T.mc 17 O
theorem Tx.OW:mg "Nested"=Y (.ref 645):=T.mc 18 O
theorem Tx.NW:mg "Field"=Y (.ref 672):=T.mc 19 O
theorem Tx.ZT:mg "Record"=Y (.ref 746):=T.mc 20 O
theorem Tx.ZU:mg "Choice"=Y (.ref 765):=T.mc 21 O
theorem Tx.li:mg "Book"=Y (.ref 874):=T.mc 22 O
theorem Tx.Ob:RT K 359:=T.cB 1 O
theorem Tx.Oc:RT K 392:=T.cB 2 O
theorem Tx.Oa:RT K 425:=T.cB 3 O
theorem Tx.Lj:RT K 479:=T.cB 4 O
theorem Tx.Lh:Dq K (.ref 479) "most"=Y none:=T.fo 0 O
theorem Tx.Kf:RT K 532:=T.cB 5 O
theorem Tx.kY:makesIn K 532=true:=(T.mks 4 O).1
theorem Tx.kW:Je K (.ref 532)=true:=(T.mks 4 O).2
theorem Tx.TB:Dq K (.ref 532) "__init__"=Y (Y<|.ref 496):=T.fnd 21 O
theorem Tx.Js:Dq K (.ref 532) "most"=Y none:=T.fo 1 O
theorem Tx.Ll:RT K 591:=T.cB 6 O
theorem Tx.Li:Dq K (.ref 591) "item"=Y none:=T.fo 2 O
theorem Tx.Hm:RT K 645:=T.cB 7 O
theorem Tx.HI:Dq K (.ref 645) "name"=Y none:=T.fo 3 O
theorem Tx.CJ:RT K 672:=T.cB 8 O
theorem Tx.Vi:makesIn K 672=true:=(T.mks 7 O).1
theorem Tx.Vh:Je K (.ref 672)=true:=(T.mks 7 O).2
theorem Tx.MS:Dq K (.ref 672) "__init__"=Y (Y<|.ref 669):=T.fnd 36 O
theorem Tx.GR:Dq K (.ref 672) "number"=Y none:=T.fo 4 O
theorem Tx.Kb:Dq K (.ref 672) "name"=Y none:=T.fo 5 O
theorem Tx.Ei:Dq K (.ref 672) "kind"=Y none:=T.fo 6 O
theorem Tx.Hl:Dq K (.ref 672) "must"=Y none:=T.fo 7 O
theorem Tx.Fp:Dq K (.ref 672) "default"=Y none:=T.fo 8 O
theorem Tx.ZW:RT K 746:=T.cB 10 O
theorem Tx.ZX:RT K 765:=T.cB 11 O
theorem Tx.UM:RT K 874:=T.cB 12 O
theorem Tx.kZ:makesIn K 874=true:=(T.mks 10 O).1
theorem Tx.kX:Je K (.ref 874)=true:=(T.mks 10 O).2
theorem Tx.TC:Dq K (.ref 874) "__init__"=Y (Y<|.ref 857):=T.fnd 41 O
theorem Tx.MO:Dq K (.ref 874) "forms"=Y none:=T.fo 18 O
theorem Tx.Eb:RT K 975:=T.cB 13 O
theorem Tx.Py:qJ K 975 "made" 960:=T.me 43 39 O O
theorem Tx.KB:Dq K (.ref 975) "choice"=Y none:=T.fo 20 O
theorem Tx.MM:Dq K (.ref 975) "name"=Y none:=T.fo 21 O
theorem Tx.IE:Dq K (.ref 975) "fields"=Y none:=T.fo 22 O
theorem Tx.Kc:Dq K (.ref 975) "gone"=Y none:=T.fo 23 O
theorem Tx.Ui:HN K (.type "NoneType") (.type "bool")=Y false:=rfl
theorem Tx.Vg:HN K (.type "NoneType") (.type "int")=Y false:=rfl
theorem Tx.Vf:HN K (.type "NoneType") (.type "str")=Y false:=rfl
theorem Tx.Nq:HN K (.type "NoneType") (.type "list")=Y false:=rfl
theorem Tx.Sl:HN K (.type "NoneType") (.type "tuple")=Y false:=rfl
theorem Tx.dE:HN K (.type "bool") (.type "bool")=Y true:=rfl
theorem Tx.iB:HN K (.type "bool") (.type "int")=Y true:=rfl
theorem Tx.Tu:HN K (.type "bool") (.type "list")=Y false:=rfl
theorem Tx.Ve:HN K (.type "int") (.type "list")=Y false:=rfl
theorem Tx.nM:HN K (.type "str") (.type "str")=Y true:=rfl
theorem Tx.Vd:HN K (.type "str") (.type "list")=Y false:=rfl
theorem Tx.bC:HN K (.type "tuple") (.type "list")=Y false:=rfl
theorem Tx.Ge:HN K (.type "list") (.type "list")=Y true:=rfl
theorem Tx.QM:HN K (.type "list") (.type "tuple")=Y false:=rfl
theorem Tx.Ts:HN K (.type "dict") (.type "list")=Y false:=rfl
theorem Tx.Px:∃t,mg "MOST_NUMBER"=Y (.int 115792089237316195423570985008687907853269984665640564039457584007913129639935 t):=T.ui 2 O
theorem Tx.QL:∃t,mg "MOST_SIGNS"=Y (.int 100 t):=T.ui 4 O
theorem Tx.w2:mroIn K 31 (.type "ValueError")=Y true:=AK<|T.cn (i:=3)
theorem Tx.kU:Dq K (.ref 111) "place"=Y none:=AK<|T.mn (i:=4)
theorem Tx.A0:Dq K (.ref 111) "why"=Y none:=AK<|T.mn (i:=5)
theorem Tx.dF:Dq K (.ref 149) "place"=Y none:=AK<|T.mn (i:=9)
theorem Tx.lq:iv ((Lq K 489).map List.head?)=Y 100:=AK<|T.in_ (i:=1)
theorem Tx.lp: (Lq K 489).map (λl=>(l.length:Int))=Y 1:=AK<|T.in_ (i:=2)
theorem Tx.Vm: (Lq K 662).map zw=Y 10:=AK<|T.in_ (i:=3)
omit T in
def A0c(h:oB lL K=Z):hdB K 680 678=true:=JR (f:=id) (l:=bB K) 0 ((AB _ _).mp ((AB _ _).mp ((AB _ _).mp ((AB _ _).mp ((AB _ _).mp h).2).2).2).2).2 O
theorem Tx.Uj{nm j:AO}{z:Ka}{bd:List JW}{sc:Scope}{D kV doc pm cdv ct:Ay}{an:Option AH}(e:EH K 681=fnOf nm j z bd sc D kV doc pm an cdv ct):cdv= .ref zu:=by let h:=Q0 (c:=zu)<|(AK<|T.in_ (i:=0));rw[e]at h;show h
theorem Tx.Ji:V4 K 111 31 108:={HL.rG<|AK (T.xn (i:=0)),T.w1,T.w2,((T.mB2 0 O).2),(JR (f:=id) 2 T.mb O),(AK<|T.mn (i:=1))}
theorem Tx.ML:V4 K 149 31 146:={HL.rG<|AK (T.xn (i:=1)),T.w1,T.w2,((T.mB2 1 O).2),(JR (f:=id) 3 T.mb O),(AK<|T.mn (i:=2))}
theorem Tx.Qk:ZI K 111:={(JR (f:=id) 7 T.mb O),(AK<|T.mn (i:=6)),(AK<|T.mn (i:=7)),(AK<|T.mn (i:=8)),T.og,T.ot,(AK<|T.cn (i:=4)),(AK<|T.cn (i:=5))}
theorem Tx.Vc:ZI K 149:={(JR (f:=id) 8 T.mb O),(AK<|T.mn (i:=10)),(AK<|T.mn (i:=11)),(AK<|T.mn (i:=12)),T.og,T.ot,(AK<|T.cn (i:=6)),(AK<|T.cn (i:=7))}
theorem Tx.xb:C8 K 31:={(AK<|T.mn (i:=3)),(JR (f:=id) 5 T.mb O),HL.A0h<|JR (f:=id) 6 T.mb O}
end
end K9
namespace K9
open PySem PySem.W HL L2 PyProof.Rows
abbrev tF:=BI
@[reducible]def q5:=PySem.Challenge.rw_formkin_k10_whole_books_by_lines
def E9:List (Ib×V):=[(.inr "yes",.bl Z),(.inr "no",.bl ge)]
def rS{T c:AH}{l:PySem.W.OpenLaw}{n k:Nat}{q:Bv}{loose:List AO}{XP: (AO->Option Ay)->CA->Prop}{YP:BP->CA->Prop}{d:DefRec}{K:Az}{CX:dr}{sp:Az->Sp}{x:AO}(hn:l.most=Y n)(a5:n<=sizeLine)(a7:d.params.defaults=[])(hr:EX k Tl)(hY:∀(w:BP) (h:CA),YP w h->K.In h/\h.get? T=Y (RZ #[])/\MG h c T/\K.lookup T=S)(F:∀(w:BP) (mg:AO->Option Ay) (fa:AH) (h:CA),YP w h->h.Ns Ca mg->mg d.name=Y (.ref fa)->∃fd:Eu,(∀(s:AJ) (u:Ay),BindsTo s fd {[u],[]} [(x,u)])/\∀base:CA,K.In base->base.Ns Ca mg->EY l.prog w K mg base CX k fa fd [x] (sp K))(a3:∀(K:Az) (H:Hp) (a:AH) (ns:List Int),ns.length<=n->(∀i∈ns,FC i<=1048576)->ig T H->BX K H a (ns.map V.int)->sp K [.ref a] H (λv _=>v= .bl Z) λ_ _ _=>False)(a9:∀(H:Hp) (s:AJ) (e:Ay) (s':AJ),CX.cx [] H s (λ_ _ _=>False) e s'->False)(a4:CX.sm=ge):
  PySem.W.WalkO q loose XP YP l.row.toRowW d [] (λf vs=>PySem.call f vs):=by show Att.attach_call hn a7 λw s_ U mg mb fa o pm cd doc a vs ns G Yq ho hd b2 a6 a1 z j hg D=>?_;let(KX,hT,b0,a8):=hY w _ Yq;let(fd,hb,hF):=F w mg fa _ Yq G.T.g a6;show pI hT a8 b0 KX G.T.g G.T.b G.T.builtins G.T.nolimit hg a1 z (AR j a5) hr hF hb (λH hO hS=>a3 K H a ns j D hO hS) (λH e s'=>a9 H U e s') a4
def X6{K:Fn}{h:CA}{mg:AO->Option Ay}{s:AJ}{w:BP}(e:KO ul s.heap=K)(y:obs s=exp tF w)(X:K.In h)(G:h.Ns Ca mg):Tx K mg:=by subst e;show{A3o (λx=>x.1.1) y,A3o (λx=>x.1.2.1) y,A3o (λx=>x.1.2.2.1) y,A3o (λx=>x.1.2.2.2.1) y,A3o (λx=>x.1.2.2.2.2.1) y,A3o (λx=>x.1.2.2.2.2.2.1) y,λx v e=>?_};cases v with|none=>show mg_none_of X G e|some v=>show mg_of X G e
def X3{q:Bv}{loose:List AO}{XP: (AO->Option Ay)->CA->Prop}{d:DefRec}(a9:d.params.defaults=[])(hn:d.name="law"){k:Nat}(hr:EX k Tl){sp:Fn->Sp}(F:∀(w:BP) (K:Fn) (mg:AO->Option Ay) (base:CA),Tx K mg->K.In base->KD tF w K 190 E9->EY tF w K mg base ZM k 1124 (EH K 1124) ["_law_script"] (sp K))(B:∀(K:Fn) (mg:AO->Option Ay),Tx K mg->∀(s:AJ) (u:Ay),BindsTo s (EH K 1124) {[u],[]} [("_law_script",u)])(a5:∀(K:Fn) (H:Hp) (a:AH) (ns:List Int),ns.length<=63->(∀i∈ns,FC i<=1048576)->ig ee H->BX K H a (ns.map V.int)->sp K [.ref a] H (λv _=>v= .bl Z) λ_ _ _=>False):
  WalkX q loose XP obs (exp tF) q5.row.toRowW d [] (λf vs=>PySem.call f vs):=by
 intro w s_ U mg mb G y a o pm cd doc dV kV ho hd b0 hD a7 hg args j bs L RA a2 a6 hwl a8;show rS (T:=ee) (c:=zu) (l:=q5) (n:=63) (k:=k) (x:="_law_script") (K:=KO ul s_.heap) (CX:=ZM) (sp:=sp) (YP:=λw' h=>w'=w/\(KO ul s_.heap).In h/\h.get? ee=Y (tabObj #[])) (q:=q) (loose:=loose) (XP:=XP) (d:=d) O Aa a9 hr (λ_ h Yq=>{Yq.2.1,Yq.2.2,C4 Yq.2.1<|A0c (A3o (λx=>x.1.2.1) y),jW _ _ Ab}) (λw' a4 fa h Yq G2 a1=>?_) a5 (λ_ _ _ _ z=>z) O w s_ U mg mb G {O,Frag.In.keeps (vd ul s_.heap) L.keeps,L.keeps _ _<|F7 (A3o (λx=>x.1.2.2.2.2.2.2) y)} a o pm cd doc dV kV ho hd b0 hD a7 hg args j bs RA a2 a6 hwl a8;let(O,KX,_):=Yq;let T:=X6 O y KX G2;let hT:KD tF w' (KO ul s_.heap) 190 E9:=z7 (l:=[("yes",Z),("no",ge)]) (A3o (λx=>x.2) y) Aa Ab;let e:a4 "law"=Y (.ref 1124):=(T.d1 56 O λ_ _ _ _ _ _ _=>rfl).m;rw[hn,e]at a1;obtain rfl:1124=fa:=by simpa using a1
 show{EH (KO ul s_.heap) 1124,B _ _ T,λbase h1 h2=>F w' _ _ base {T.A,T.B,T.C,T.D,T.M,T.I,λx v e=>T.g x v e} h1 hT}
def A2c:DefRec:={"law",Jq<|top 105,GJ<|top 105,AV<|top 105,{705,0,728,45}}
def holds{k:Nat}(D:EX k Tl){sp:Fn->Sp}(F:∀(w:BP) (K:Fn) (mg:AO->Option Ay) (base:CA),Tx K mg->K.In base->KD tF w K 190 E9->EY tF w K mg base ZM k 1124 (EH K 1124) ["_law_script"] (sp K))(B:∀(K:Fn) (mg:AO->Option Ay),Tx K mg->∀(s:AJ) (u:Ay),BindsTo s (EH K 1124) {[u],[]} [("_law_script",u)])(z:∀(K:Fn) (H:Hp) (a:AH) (ns:List Int),ns.length<=63->(∀i∈ns,FC i<=1048576)->ig ee H->BX K H a (ns.map V.int)->sp K [.ref a] H (λv _=>v= .bl Z) λ_ _ _=>False):q5.Holds:=by
 show k10.law_of λj=>?_;show holds_openX (r:=q5.row) (q:=view tF keep) (loose:=lo) (Xt:=λs=>xlAt (view tF keep) [] s&&recOk [] s) (XP:=XL (view tF keep) []) (Yf:=obs) (Ya:=exp tF) (d:=A2c) (kwd:=[]) (N:=60100) left (λs e=>xl_of s (Db.mp e).1) XL.keeps (by kernel_rfl) (by kernel_rfl) (by kernel_rfl) (λs e=>recFacts_of (Db.mp e).2) (by rfl) j Ab {(O),O,O,O,O,Ab} ?hw ?hc
 case hw=>w_witness2
 case hc=>show X3 O O D F B z
end K9
namespace K9
open PySem L2
open HL (EH)
seal L2.PE L2.PS L2.Ug L2.PA L2.PT L2.PW L2.PG L2.V7 L2.PI L2.PO
variable{P:Bv}{w:BP}{K:Az}{mg:AO->Option Ay}{base:CA}
def tbF:HO->Bool|.tbl _=>Z|_=>ge
def Sm(H H':Hp):Prop:=∀a o,H a=Y o->tbF o=ge->H' a=Y o
def Sm.refl(H:Hp):Sm H H:=λ_ _ e _=>e
def Sm.trans(a:Sm H H')(b:Sm H' j):Sm H j:=λx o e n=>b x o (a x o e n) n
def Sm.of(s:Bd H H'):Sm H H':=λx o e _=>s x o e
def plO:HO->Bool|.tbl _=>ge|.ins C _ _=>!(C==672||C==732||C==746||C==765||C==874)|_=>Z
def Sn(H H':Hp):Prop:=∀a o,H a=Y o->plO o=Z->H' a=Y o
def Sm.sn(s:Sm H H'):Sn H H':=λa o e n=>s a o e (by cases o <;> first|rfl|cases n)
def pfO:HO->Bool|.tbl _=>ge|.ins C _ _=>!(C==732||C==746||C==765||C==874)|_=>Z
def Sf(H H':Hp):Prop:=∀a o,H a=Y o->pfO o=Z->H' a=Y o
def Sm.sf(s:Sm H H'):Sf H H':=λa o e n=>s a o e (by cases o <;> first|rfl|cases n)
def Sf.sn(s:Sf H H'):Sn H H':=λa o e n=>s a o e (by
 cases o with
 |ins C dx fs=>
  let j: (!(C==672||C==732||C==746||C==765||C==874))=true:=n;change(!(C==732||C==746||C==765||C==874))=Z
  grind
 |_=>first|rfl|cases n)
def Sf.upd(hx:H x=Y o)(n:pfO o=ge):Sf H (upd H x u):=λa v e m=>by
 rw[AT];·show e
 grind
def Sn.upd(hx:H x=Y o)(n:plO o=ge):Sn H (upd H x u):=λa v e m=>by
 rw[AT];·show e
 grind
abbrev A1X:AO:="own_fields" ++ ".<locals>." ++ "<lambda>"
abbrev A1Y:IZ:={253,34,253,60}
abbrev Lm(H:Hp):Prop:=Ly H ee A1Y A1X
inductive Dt where
 |non|bl (b:Bool)|int (i:Int)|str (z:AO)|lst (l:List Dt)|dct
mutual
def Th(H:Hp):Dt->V->Prop|.non,v=>v= .non|.bl b,v=>v= .bl b|.int i,v=>v= .int i|.str z,v=>v= .str z/\z.length<=1000|.lst l,v=>∃a xs,v= .ref a/\H a=Y (.lst xs)/\dB H l xs/\l.length<=1000|.dct,v=>∃a,v= .ref a/\H a=Y (.dK [])
def dB(H:Hp):List Dt->List V->Prop|[],xs=>xs=[]|d::l,xs=>∃x ys,xs=x::ys/\Th H d x/\dB H l ys
end
mutual
def Th.sn(s:Sn H H'):∀(d:Dt) (v:V),Th H d v->Th H' d v|.non,_,h=>h|.bl _,_,h=>h|.int _,_,h=>h|.str _,_,h=>h|.lst l,_,⟨a,xs,e,h,k,z⟩=>{a,xs,e,s _ _ h O,dB.sn s l xs k,z}|.dct,_,⟨a,e,h⟩=>{a,e,s _ _ h O}
def dB.sn(s:Sn H H'):∀(l:List Dt) (xs:List V),dB H l xs->dB H' l xs|[],_,h=>h|d::l,_,⟨x,ys,e,h,k⟩=>{x,ys,e,Th.sn s d x h,dB.sn s l ys k}
end
def Th.sm(s:Sm H H')(d:Dt)(v:V)(h:Th H d v):Th H' d v:=Th.sn s.sn d v h
def dB.sm(s:Sm H H')(l:List Dt)(xs:List V)(h:dB H l xs):dB H' l xs:=dB.sn s.sn l xs h
def dB.len:∀{l:List Dt} {xs:List V},dB H l xs->xs.length=l.length|[],_,h=>by rw[show _=[]from h];rfl|d::l,_,⟨x,ys,e,_,k⟩=>by rw[e,BD,BD,dB.len k]
def dB.at:∀{l:List Dt} {xs:List V},dB H l xs->∀(i:Nat) x,xs[i]?=Y x->∃d,l[i]?=Y d/\Th H d x|[],_,h,i,x,e=>by rw[show _=[]from h]at e;simp at e|d::l,_,⟨y,ys,j,h,k⟩,0,x,e=>by rw[j]at e;simp at e;show{d,O,e ▸ h}|d::l,_,⟨y,ys,j,h,k⟩,i+1,x,e=>by rw[j]at e;simp at e;let(d',D,z):=dB.at k i x e;show{d',by simpa using D,z}
def U9:Dt->String|.non=>"NoneType" |.bl _=>"bool" |.int _=>"int" |.str _=>"str" |.lst _=>"list" |.dct=>"dict"
def Th.ty:∀{d:Dt} {v:V},Th H d v->IV K H v (.type<|U9 d)|.non,_,h=>by rw[show _=V.non from h];show .non|.bl b,_,h=>by rw[show _=V.bl b from h];show .bl b|.int i,_,h=>by rw[show _=V.int i from h];show .int i|.str z,_,h=>by rw[show _=V.str z from h.1];show .str z|.lst l,_,⟨a,xs,e,h,k,_⟩=>by rw[e];show .lst h|.dct,_,⟨a,e,h⟩=>by rw[e];show .dK h
def Jo:Dt->Bool|.bl _=>Z|_=>ge
def jT:Dt->Bool|.bl _=>Z|.int _=>Z|_=>ge
def jS:Dt->Bool|.str _=>Z|_=>ge
def Rz:Dt->Bool|.lst _=>Z|_=>ge
def Ue:Dt->Int->Int->Bool|.int i,a,b=>decide (a<=i) &&decide (i<=b)|_,_,_=>ge
inductive Kx where
 |truth|count|whole|bare|upto (d:Dt)|text (d:Dt)|form (d:Dt)|list (k:Kx)|thing (d:Dt)
def RQ(H:Hp):Kx->V->Prop|.truth,v=>∃a dx,v= .ref a/\H a=Y (.ins 359 dx [])|.count,v=>∃a dx,v= .ref a/\H a=Y (.ins 392 dx [])|.whole,v=>∃a dx,v= .ref a/\H a=Y (.ins 425 dx [])|.bare,v=>∃a dx,v= .ref a/\H a=Y (.ins 317 dx [])|.upto d,v=>∃a dx u,v= .ref a/\H a=Y (.ins 479 dx [("most",u)])/\Th H d u|.text d,v=>∃a dx u,v= .ref a/\H a=Y (.ins 532 dx [("most",u)])/\Th H d u|.form d,v=>∃a dx u,v= .ref a/\H a=Y (.ins 645 dx [("name",u)])/\Th H d u|.list k,v=>∃a dx u,v= .ref a/\H a=Y (.ins 591 dx [("item",u)])/\RQ H k u|.thing d,v=>Th H d v
def RQ.sn(s:Sn H H'):∀{k:Kx} {v:V},RQ H k v->RQ H' k v|.truth,_,⟨a,dx,e,h⟩=>{a,dx,e,s _ _ h O}|.count,_,⟨a,dx,e,h⟩=>{a,dx,e,s _ _ h O}|.whole,_,⟨a,dx,e,h⟩=>{a,dx,e,s _ _ h O}|.bare,_,⟨a,dx,e,h⟩=>{a,dx,e,s _ _ h O}|.upto d,_,⟨a,dx,u,e,h,k⟩=>{a,dx,u,e,s _ _ h O,Th.sn s d u k}|.text d,_,⟨a,dx,u,e,h,k⟩=>{a,dx,u,e,s _ _ h O,Th.sn s d u k}|.form d,_,⟨a,dx,u,e,h,k⟩=>{a,dx,u,e,s _ _ h O,Th.sn s d u k}|.list k,_,⟨a,dx,u,e,h,j⟩=>{a,dx,u,e,s _ _ h O,j.sn s}|.thing d,v,h=>Th.sn s d v h
def RQ.sm(s:Sm H H')(h:RQ H k v):RQ H' k v:=h.sn s.sn
def Kx.cls:Kx->AH|.truth=>359|.count=>392|.whole=>425|.bare=>317|.upto _=>479|.text _=>532|.form _=>645|.list _=>591|.thing _=>0
def Kx.isK:Kx->Bool|.thing _=>ge|_=>Z
def RQ.ins:∀{k:Kx} {v:V},k.isK=Z->RQ H k v->∃a dx fs,v= .ref a/\H a=Y (.ins k.cls dx fs)/\∀m:AO,m≠ "most" ->m≠ "name" ->m≠ "item" ->fs.lookup m=none:=by intro k v j h;cases k with|thing d=>cases j|list k=>let(a,dx,u,e,h,_):=h;show{a,dx,_,e,h,λm h1 h2 h3=>by simp[Eh,beq_eq_false_iff_ne.mpr h3]}|upto n=>let(a,dx,u,e,h,_):=h;show{a,dx,_,e,h,λm h1 h2 h3=>by simp[Eh,beq_eq_false_iff_ne.mpr h1]}|text n=>let(a,dx,u,e,h,_):=h;show{a,dx,_,e,h,λm h1 h2 h3=>by simp[Eh,beq_eq_false_iff_ne.mpr h1]}|form z=>let(a,dx,u,e,h,_):=h;show{a,dx,_,e,h,λm h1 h2 h3=>by simp[Eh,beq_eq_false_iff_ne.mpr h2]}|truth=>let(a,dx,e,h):=h;show{a,dx,_,e,h,λm _ _ _=>rfl}|count=>let(a,dx,e,h):=h;show{a,dx,_,e,h,λm _ _ _=>rfl}|whole=>let(a,dx,e,h):=h;show{a,dx,_,e,h,λm _ _ _=>rfl}|bare=>let(a,dx,e,h):=h;show{a,dx,_,e,h,λm _ _ _=>rfl}
inductive A2o(r:V)(vs:List V)(H:Hp)(Q:VK):Prop|mk (v:_) (_:vs=[v]) (_:Q r H)
def Yk(r:V):Sp:=λvs H Q _=>A2o r vs H Q
def dW(H:Hp)(Q:VK)(xs:List V):Prop:=∀l H',H l=S->Bd H H'->H' l=Y (.lst xs)->Q (.ref l) H'
def yC(T:Tx K mg)(d:Dt):Bo K (.type<|U9 d) (.type "bool")=Y (Jo d):=by cases d <;> first|show T.Ui|show T.dE|show T.q_int_bool|show T.q_str_bool|show T.q_list_bool|show T.q_dict_bool
def A21(T:Tx K mg)(d:Dt):Bo K (.type<|U9 d) (.type "int")=Y (jT d):=by cases d <;> first|show T.Vg|show T.iB|show T.q_int_int|show T.q_str_int|show T.q_list_int|show T.q_dict_int
def jQ(T:Tx K mg)(d:Dt):Bo K (.type<|U9 d) (.type "str")=Y (jS d):=by cases d <;> first|show T.Vf|show T.q_bool_str|show T.q_int_str|show T.nM|show T.q_list_str|show T.q_dict_str
def uM(T:Tx K mg)(d:Dt):Bo K (.type<|U9 d) (.type "list")=Y (Rz d):=by cases d <;> first|show T.Nq|show T.Tu|show T.Ve|show T.Vd|show T.Ge|show T.Ts
def A1Z(T:Tx K mg)(d:Dt):Bo K (.type<|U9 d) (.type "tuple")=Y false:=by cases d <;> first|show T.Sl|show T.q_bool_tuple|show T.q_int_tuple|show T.q_str_tuple|show T.QM|show T.q_dict_tuple
abbrev dC:AO:="abcdefghijklmnopqrstuvwxyz"
abbrev MN:Int:=115792089237316195423570985008687907853269984665640564039457584007913129639935
abbrev MW:Int:=57896044618658097711785492504343953926634992332820282019728792003956564819967
def wP(y:AO)(c:Nat):Bool:=!(Fi y {#[c]} 0 y.length 1).isEmpty
def TV(z y:AO):Bool:=z.cps.toList.all<|wP y
def inC(y:AO):V->Bool|.str z=>wP y<|z.cps.getD 0 0|_=>ge
def dz(hm:X.mg x=Y (.str y t))(hg: ~~~(Gl X x))(hd:↑((x=="__debug__")=false)):PE X (.Name x pos) (tC<|.str y):=cj hg hm {(t),O} hd
def mj{j z:Type}(l:List j)(f:j->z)(g:z->Bool)(h:j->Bool)(e:∀x∈l,g (f x)=h x): (l.map f).all g=l.all h:=by grind
def A0u(f:V->Bool):V->V:=λv=>.bl<|f v
def J1(y z:AO): ((oF z).map<|inC y).all id=TV z y:=by rw[oF,AX];show mj _ _ _ _ λc _=>rfl
def Co(z:AO):Bool:=(decide (1<=z.length) &&decide (z.length<=12)) &&TV z dC
def DR:Dt->Bool|.str z=>Co z|_=>ge
def LJ(c:Nat):Bool:=(decide ((32:Int)<= (c:Int)) &&decide ((c:Int)<=126)) &&decide (¬ (c:Int)=37)
inductive dc(vs:List V)(H:Hp)(Q:VK):Prop|mk (x d:_) (_:vs=[x]) (_:Th H d x) (_:Q (.bl<|jT d&& !Jo d) H)
def eL:Sp:=λvs H Q _=>dc vs H Q
inductive dg(vs:List V)(H:Hp)(Q:VK):Prop|mk (x d a b:_) (_:vs=[x,.int a,.int b]) (_:Th H d x) (_:Q (.bl<|Ue d a b) H)
def eO:Sp:=λvs H Q _=>dg vs H Q
inductive Xz(vs:List V)(H:Hp)(Q:VK):Prop|mk (z y:_) (_:vs=[.str z,.str y]) (_:z.length<=1000) (_:∀H',Bd H H'->Q (.bl<|TV z y) H')
def YC:Sp:=λvs H Q _=>Xz vs H Q
inductive im(vs:List V)(H:Hp)(Q:VK):Prop|mk (x d:_) (_:vs=[x]) (_:Th H d x) (_:∀H',Bd H H'->Q (.bl<|DR d) H')
def iU:Sp:=λvs H Q _=>im vs H Q
inductive il(vs:List V)(H:Hp)(Q:VK):Prop|mk (c:Nat) (_:vs=[.int c]) (_:Q (.bl<|LJ c) H)
def iT:Sp:=λvs H Q _=>il vs H Q
def Ou(T:Tx K mg):∅ 1 197 ["thing"] eL:=by
 show(T.df 0 O).okA eW ?_;intro _ _ _ _ H _ Q _ z h D j;let(x,d,O,hx,q):=h;show{_,qr<|JP (qB (BR K O) T.Bw Bq<|Cv (pv 0) (Yl T.dD Xj)) (JO<|tO (qB (BR K O) T.Bw Bq<|Cv (pv 0) (Yl T.bA UY))),?_};show{_,O,x,.ty "int",_,_,_,O,hx.ty,O,A21 T d,_,O,Hs (λh=>?_) λh=>?_};·rw[h,CQ]at q;show{_,O,x,.ty "bool",_,_,_,O,hx.ty,O,yC T d,_,O,q}
 simp_all [j]
def Fv(T:Tx K mg):∅ 2 204 Ac eO:=by
 show(T.df 1 O).okA eY ?_;intro 1 j h;let(x,d,l,m,O,hx,q):=h;show{_,qr<|JP (qD (@Ou P w K mg base T) j T.NY<|CK (pv 0)) (JO<|fH au au (pv 1) (pv 0) (pv 2)),?_};show{_,O,x,d,O,hx,_,O,?_};cases d with
 |int i=>
  obtain rfl:x=V.int i:=hx;show CP {_,O,_,O,_,_,O,O,_,O,Hs (λh1=>?_) λh1=>?_};·show{_,O,_,_,O,O,?_};rw[show Ue (.int i) l m=decide (i<=m)by change(decide (l<=i) &&_)=_;rw[h1,CQ]]at q;show q
  let h2:decide (l<=i)=false:=by simpa using h1
  rw[show Ue (.int i) l m=ge by change(decide (l<=i) &&_)=_;rw[h2,Dx]]at q;show q
 |_=>show BW q
def ndS: ((["sign"]:List AO) ++ (["signs"]:List AO)).Nodup:=⋯
def M7: ((["sign"]:List AO) ++ ([]:List AO)).Nodup:=⋯
def PP(T:Tx K mg):∅ 1 209 ["text","signs"] YC:=by
 show(T.df 2 O).okA YL ?_;intro 1 hr h;let(z,y,O,j,q):=h;show{_,qr<|qB (Fy O) T.QK Nn (CK<|Re ["sign"] ["signs"] [1] (.cons O (.inl O) O .nil) (jt<|pv 0) (λC s_ H_ fp=>BQ (i:=0) ndS O (Cd O)<|CV O) (λC s_ H_ fp=>GH ph (pv 0) (pv 1) O)),?_};show{_,O,z,O,SZ (Wk.str z) (by rw[QX];show j) (A0u<|inC y) (λx hx H2 R s2 F=>?_) λD H2 hD s2 U=>?_};·let(c,hc,O):=AS.mp hx;show{Sub.set O,_,O,_,O,_,_,O,O,F H2 λ_ _ e=>e}
 show{D,(oF z).map<|inC y,O,by rw[AX];show U,?_};rw[J1];show q _ s2
def Ha(T:Tx K mg):∅ 3 216 ["thing"] iU:=by
 let(_,D):=(T.ui 0 O);let(_,j):=(T.us 0 O);show(T.df 3 O).okA jk ?_;intro _ _ _ s H _ Q _ U h _ _;let(x,d,O,hx,q):=h;show{_,AW (qi (Dn<|BN (qB (BR K O) T.Bw Bq<|Cv (pv 0) (Yl T.KA Ia)))<|qr ER)<|qr (JP (qD (@Fv P w K mg base T) U T.EQ<|Bc (qB Km T.Ey Ds<|CK (pv 0)) (Cv AF<|fD D))<|JO (qD (@PP P w K mg base T) U T.PB<|Cv (pv 0) (dz j))),?_};show{_,O,x,.ty "str",_,_,_,O,hx.ty,O,jQ T d,_,O,?_};cases d with
 |str z=>
  let(O,F):=hx;let e0:Ue (.int (z.length:Int)) 1 12=(decide (1<=z.length) &&decide (z.length<=12)):=by
   change(decide ((1:Int)<= (z.length:Int)) &&decide ((z.length:Int)<=12))=_
   grind
  show BW {_,O,z,O,AR F Aa,_,.int _,_,_,O,O,_,O,Hs (λh=>?_) λh=>?_};·show{_,O,z,dC,O,F,λH' s=>?_};let e:=q H' s;rw[e0]at h;rw[show DR (.str z)=TV z dC by change(_&&_)=_;rw[h,CQ]]at e;show e
  let e:=q H<|Bd.refl _;rw[e0]at h;let h': (decide (1<=z.length) &&decide (z.length<=12))=false:=by simpa using h
  rw[show DR (.str z)=ge by change(_&&_)=_;rw[h',Dx]]at e;show e
 |_=>show CP<|q _ (Bd.refl _)
def jE(T:Tx K mg):∅ 1 258 Ad iT:=by
 let(t1,h1):=(T.ui 6 O);let(U,h2):=(T.ui 7 O);let(F,h3):=(T.ui 8 O);show(T.df 9 O).okA jj ?_;intro _ _ _ _ H _ Q _ hr h X_ z;let(c,O,q):=h;show{_,qr<|JP (fH au au (fD h1) (pv 0)<|fD h2) (JO<|GH Ri (pv 0) (fD h3) (IJ _)),?_};let j:LJ c=((decide ((32:Int)<= (c:Int)) &&decide ((c:Int)<=126)) &&decide (¬ (c:Int)=37)):=rfl;show{_,O,_,_,O,O,_,O,Hs (λa=>?_) λa=>?_}
 ·rw[a,CQ]at j;show{_,_,O,O,_,O,Hs (λb=>?_) λb=>?_}
  ·rw[b,CQ]at j;show{_,O,O,?_}
   simp_all [z]
  simp_all [z]
 let D:decide ((32:Int)<= (c:Int))=false:=by simpa using a
 rw[D,Dx,Dx]at j;rw[j]at q;show{_,O,BW q}
def FW(T:Tx K mg):∅ 1 286 Ap (Yk<|.bl Z):=by show(T.mf 3 O).okA Sy ?_;intro 1 j h;let(v,O,q):=h;show{_,qr ER,q}
def SI(T:Tx K mg):∅ 1 569 Ap (Yk<|.bl ge):=by show(T.mf 23 O).okA Sx ?_;intro 1 j h;let(v,O,q):=h;show{_,qr ER,q}
def Qt(T:Tx K mg):∅ 1 628 Ap (Yk<|.bl ge):=by show(T.mf 28 O).okA Qq ?_;intro 1 j h;let(v,O,q):=h;show{_,qr ER,q}
def PR(T:Tx K mg):∅ 1 314 Ap (Yk<|.non):=by show(T.mf 4 O).okA Zb ?_;intro 1 j h;let(v,O,q):=h;show{_,qr DJ,q}
def Wn(T:Tx K mg):∅ 1 356 Ap (Yk<|.bl ge):=by show(T.mf 7 O).okA VR ?_;intro 1 j h;let(v,O,q):=h;show{_,qr ER,q}
def Wr(T:Tx K mg):∅ 1 389 Ap (Yk<|.int 0):=by show(T.mf 10 O).okA VU ?_;intro 1 j h;let(v,O,q):=h;show{_,qr AF,q}
def Wl(T:Tx K mg):∅ 1 422 Ap (Yk<|.int 0):=by show(T.mf 13 O).okA VP ?_;intro 1 j h;let(v,O,q):=h;show{_,qr AF,q}
def Zs(T:Tx K mg):∅ 1 476 Ap (Yk<|.int 0):=by show(T.mf 17 O).okA YS ?_;intro 1 j h;let(v,O,q):=h;show{_,qr AF,q}
def Zv(T:Tx K mg):∅ 1 529 Ap (Yk<|.str ""):=by show(T.mf 20 O).okA YW ?_;intro 1 j h;let(v,O,q):=h;show{_,qr AE,q}
def Rk(T:Tx K mg):∅ 1 708 Ap (Yk<|.bl ge):=by show(T.mf 30 O).okA Ra ?_;intro 1 j h;let(v,O,q):=h;show{_,qr ER,q}
def Po(T:Tx K mg):∅ 1 762 Ap (Yk<|.bl Z):=by show(T.mf 34 O).okA Pn ?_;intro 1 j h;let(v,O,q):=h;show{_,qr ER,q}
def Jk.mono(d:Jk P w K mg base j m C sp)(h:j<=k):Jk P w K mg base k m C sp:={d.c,let ⟨f,fd,ps,a,b,c⟩:=d.ex;{f,fd,ps,a,b.mono h,c}}
def Et:Kx->Dt|.truth=>.bl ge|.text _=>.str ""|.list _=>.lst []|.form _=>.non|.bare=>.non|.thing _=>.non|_=>.int 0
def LM:Kx->Bool|.list _=>ge|.form _=>ge|_=>Z
def EM:Kx->Dt->Bool|.truth,d=>Jo d|.count,d=>Ue d 0 MN|.whole,d=>Ue d (-MW - 1) MW|.upto (.int n),d=>Ue d 0 n|.text (.int n),.str z=>!decide ((z.length:Int) >n) &&z.cps.toList.all LJ|.list k,.lst l=>!decide ((l.length:Int) >20) &&l.all (EM k)|.form _,_=>Z|_,_=>ge
def Kx.flat:Kx->Bool|.list _=>ge|_=>Z
def Kx.fine:Kx->Prop|.upto d=>∃n,d= .int n|.text d=>∃n,d= .int n|.list k=>k.flat=Z/\k.fine|.bare=>False|.thing _=>False|_=>True
def Kx.fine.isK{k:Kx}(h:k.fine):k.isK=true:=by cases k <;> first|rfl|show h.elim
def Fl(H:Hp)(v:V):Prop:=∀m,v= .ref m->∀xs,H m≠Y (.lst xs)
def Fl.back(s:Bd H H')(h:Fl H' v):Fl H v:=λm e xs z=>h m e xs<|s _ _ z
inductive wE(k:Kx)(vs:List V)(H:Hp)(Q:VK):Prop|mk (v:_) (_:vs=[v]) (_:∀u H',Bd H H'->Th H' (Et k) u->Fl H u->Q u H')
def bN(k:Kx):Sp:=λvs H Q _=>wE k vs H Q
inductive wC(k:Kx)(vs:List V)(H:Hp)(Q:VK):Prop|mk (v x d:_) (_:vs=[v,x]) (_:RQ H k v) (_:Th H d x) (_:∀H',Bd H H'->Q (.bl<|EM k d) H')
def Kh(k:Kx):Sp:=λvs H Q _=>wC k vs H Q
inductive zO(C:AH)(f:AO)(vs:List V)(H:Hp)(Q:VK):Prop|mk (x dx v:_) (_:vs=[.ref x,v]) (_:H x=some (.ins C dx [])) (_:Q .non (upd H x<|.ins C dx [(f,v)]))
def bL(C:AH)(f:AO):Sp:=λvs H Q _=>zO C f vs H Q
def yt: ((["thing"]:List AO) ++ (Ap:List AO)).Nodup:=⋯
def Jk.imp(d:Jk P w K mg base k m C sp)(h:∀vs H Q E,j vs H Q E->sp vs H Q E):Jk P w K mg base k m C j:={d.c,let ⟨f,fd,ps,a,b,c⟩:=d.ex;{f,fd,ps,a,b.imp h,c}}
def KQ(h:∀H:Hp,Th H (Et k) r)(D:∀m,r≠ .ref m:=by intro m z;cases z):∀vs H Q E,bN k vs H Q E->Yk r vs H Q E:=λvs H Q E j=>(by let(v,e,q):=j;show{v,e,q r H (Bd.refl _) (h H) λm e=>A3p e<|D m})
def Zy(T:Tx K mg):∅ 1 588 Ap (bN<|.list k):=by show(T.mf 25 O).okA YZ ?_;intro 1 D h;let(v,O,q):=h;show{_,qr<|Ci FU,{zl 0,λl j=>q (.ref l) _ (AZ j) {l,[],O,Ax,O,BY _} λm e xs z=>by cases e;rw[j]at z;cases z}}
def vB(T:Tx K mg)(j:k.isK=Z):Jk P w K mg base 1 "blank" k.cls (bN k):=by cases k with|truth=>show Jk.imp {T.Ob,_,_,_,(T.me 4 7 O O),Wn T,(HL.b1 (T.mf 7 O) λ_ _ _ _ _ _ _=>rfl)}<|KQ λ_=>rfl|count=>show Jk.imp {T.Oc,_,_,_,(T.me 9 10 O O),Wr T,(HL.b1 (T.mf 10 O) λ_ _ _ _ _ _ _=>rfl)}<|KQ λ_=>rfl|whole=>show Jk.imp {T.Oa,_,_,_,(T.me 14 13 O O),Wl T,(HL.b1 (T.mf 13 O) λ_ _ _ _ _ _ _=>rfl)}<|KQ λ_=>rfl|bare=>show Jk.imp {(T.cB 0 O),_,_,_,(T.me 0 4 O O),PR T,T.QQ}<|KQ λ_=>rfl|upto n=>show Jk.imp {T.Lj,_,_,_,(T.me 20 17 O O),Zs T,(HL.b1 (T.mf 17 O) λ_ _ _ _ _ _ _=>rfl)}<|KQ λ_=>rfl|text n=>show Jk.imp {T.Kf,_,_,_,(T.me 25 20 O O),Zv T,(HL.b1 (T.mf 20 O) λ_ _ _ _ _ _ _=>rfl)}<|KQ λ_=>{O,BY _}|form z=>show Jk.imp {T.Hm,_,_,_,(T.me 35 4 O O),PR T,T.QQ}<|KQ λ_=>rfl|list k=>show{T.Ll,_,_,_,(T.me 30 25 O O),Zy T,(HL.b1 (T.mf 25 O) λ_ _ _ _ _ _ _=>rfl)}|thing d=>cases j
def vA(T:Tx K mg)(j:k.fine):Jk P w K mg base 1 "is_plain" k.cls (Yk<|.bl (LM k)):=by cases k with|truth=>show{T.Ob,_,_,_,(T.me 2 3 O O),FW T,T.Gj}|count=>show{T.Oc,_,_,_,(T.me 7 3 O O),FW T,T.Gj}|whole=>show{T.Oa,_,_,_,(T.me 12 3 O O),FW T,T.Gj}|upto n=>show{T.Lj,_,_,_,(T.me 18 3 O O),FW T,T.Gj}|text n=>show{T.Kf,_,_,_,(T.me 23 3 O O),FW T,T.Gj}|form z=>show{T.Hm,_,_,_,(T.me 33 28 O O),Qt T,(HL.b1 (T.mf 28 O) λ_ _ _ _ _ _ _=>rfl)}|list k=>show{T.Ll,_,_,_,(T.me 28 23 O O),SI T,(HL.b1 (T.mf 23 O) λ_ _ _ _ _ _ _=>rfl)}|bare=>show j.elim|thing d=>show j.elim
def cq(T:Tx K mg):∅ 1 441 Ar (bL 479 "most"):=by show(T.mf 14 O).okA bU ?_;intro 1 j h;let(x,dx,v,O,hx,q):=h;show{_,Cc<|GA (pv 0) (pv 1) O,{(_),O,_,O,x,_,dx,_,O,hx,T.Lj,T.Lh,Aa,q}}
def cu(T:Tx K mg):∅ 1 548 ["self","item"] (bL 591 "item"):=by show(T.mf 21 O).okA bW ?_;intro 1 j h;let(x,dx,v,O,hx,q):=h;show{_,Cc<|GA (pv 0) (pv 1) O,{(_),O,_,O,x,_,dx,_,O,hx,T.Ll,T.Li,Aa,q}}
def Wp(T:Tx K mg):∅ 1 607 ["self","name"] (bL 645 "name"):=by show(T.mf 26 O).okA VS ?_;intro 1 j h;let(x,dx,v,O,hx,q):=h;show{_,Cc<|GA (pv 0) (pv 1) O,{(_),O,_,O,x,_,dx,_,O,hx,T.Hm,T.HI,Aa,q}}
def Rj(T:Tx K mg):EY P w K mg base ZM 1 496 (EH K 496) Ar (bL 532 "most"):=by
 have(oc,od,sl,kV,doc,pm,an,cdv,ct,e,lk,j):=HL.Jp T.NX;rw[e];show gD lk j bV (λvs H Q E h=>?_) λA outer s H vs Q E F h=>?_;·let(x,dx,v,O,_):=h;rfl
 let(x,dx,v,O,hx,q):=h;show{_,Ug.nox<|Cc (GA (pv 0) (pv 1) O),{(_),O,_,O,x,_,dx,_,O,hx,T.Kf,T.Js,Aa,q}}
def cR(T:Tx K mg):EB K (EH K 496) Ar []:=by have(oc,od,sl,kV,doc,pm,an,cdv,ct,e,lk,D):=HL.Jp T.NX;let(o,t,n,h1,h2):=HL.lN T.lq T.lp;rw[e];intro s us X j;rw[BE]at j ⊢;let(u,v,O):=A6 j;show GQ O (X _ _ h1) h2 O O
def cS(T:Tx K mg):∃t,EB K (EH K 496) Ar [.int 100 t]:=by
 have(oc,od,sl,kV,doc,pm,an,cdv,ct,e,lk,F):=HL.Jp T.NX;let(o,t,n,h1,h2):=HL.lN T.lq T.lp;show{t,?_};rw[e];intro s us X z;let j:us.length=1:=by rw[AI]at z;show Pu z
 let(u,O):=A7 j;show GQ O (X _ _ h1) h2 O O
def Wm(T:Tx K mg):∅ 1 349 Aq (Kh .truth):=by show(T.mf 6 O).okA VQ ?_;intro 1 z h;let(v,x,d,O,j,hx,q):=h;show{_,qr<|qB (BR K O) T.Bw Bq (Cv (pv 1)<|Yl T.bA UY),?_};show{_,O,x,.ty "bool",_,_,_,O,hx.ty,O,yC T d,q H λ_ _ e=>e}
def Wq(T:Tx K mg):∅ 3 382 Aq (Kh .count):=by let(t,z):=T.Px;show(T.mf 9 O).okA VT ?_;intro 1 j h;let(v,x,d,O,D,hx,q):=h;show{_,qr<|qD (@Fv P w K mg base T) j T.EQ (Bc (pv 1)<|Cv AF (fD z)),?_};show{_,O,x,d,_,_,O,hx,q H λ_ _ e=>e}
def Wj(T:Tx K mg):∅ 3 415 Aq (Kh .whole):=by let(t,j):=(T.ui 3 O);show(T.mf 12 O).okA VO ?_;intro 1 z h;let(v,x,d,O,D,hx,q):=h;show{_,qr<|qD (@Fv P w K mg base T) z T.EQ (Bc (pv 1)<|Cv (Bb Wf (lQ bI<|fD j) AF) (fD j)),?_};show{_,O,_,O,_,_,O,O,x,d,_,_,O,hx,q H λ_ _ e=>e}
def Zr(T:Tx K mg):∅ 3 469 Aq (Kh<|.upto (.int n)):=by show(T.mf 16 O).okA YR ?_;intro 1 z h;let(v,x,d,O,(a,dx,u,O,ha,j),hx,q):=h;obtain rfl:u=V.int n:=j;show{_,qr<|qD (@Fv P w K mg base T) z T.EQ (Bc (pv 1)<|Cv AF (Cb (pv 0) O)),?_};show{_,O,_,O,a,_,dx,_,_,O,ha,T.Lj,T.Lh,O,x,d,_,_,O,hx,q H λ_ _ e=>e}
def Uv(T:Tx K mg):∅ 1 642 Aq (Kh<|.form z):=by show(T.mf 29 O).okA Up ?_;intro 1 D h;let(v,x,d,O,j,hx,q):=h;show{_,qr ER,q H λ_ _ e=>e}
def lK:V->Bool|.str z=>LJ<|z.cps.getD 0 0|_=>ge
def oE(z:AO): ((oF z).map lK).all id=z.cps.toList.all LJ:=by rw[oF,AX];show mj _ _ _ _ λc _=>rfl
def Zu(T:Tx K mg):∅ 2 522 Aq (Kh<|.text (.int n)):=by
 show(T.mf 19 O).okA YV ?_;intro 1 hr h;let(v,x,d,O,(a,dx,u,O,ha,U),hx,q):=h;obtain rfl:u=V.int n:=U;show{_,AW (qi (PW.pt<|Jf (Dn<|BN (qB (BR K O) T.Bw Bq<|Cv (pv 1) (Yl T.KA Ia))) (HX<|qc TR (qB Km T.Ey Ds<|CK (pv 1)) (Cb (pv 0) O)))<|qr ER)<|qr (qB (Fy O) T.QK Nn<|CK (Re ["sign"] [] [] .nil (jt<|pv 1) (λC s_ H_ fp=>BQ (i:=0) M7 O (Cd O)<|CV O) λC s_ H_ fp=>qD (@jE P w K mg base T) hr (T.d1 9 O λ_ _ _ _ _ _ _=>rfl)<|CK (qB vG (T.y 7 O) R7<|CK (pv 0)))),?_};show{_,O,x,.ty "str",_,_,_,O,hx.ty,O,jQ T d,_,O,?_};cases d with
 |str z=>
  let(O,j):=hx;show BW {_,O,z,O,AR j Aa,_,O,a,_,dx,_,_,O,ha,T.Kf,T.Js,O,_,_,O,O,_,O,Hs (λh=>?_) λh=>?_}
  ·let e:EM (.text<|.int n) (.str z)=false:=by rw[EM];rw[h];rfl
   rw[e]at q;show q H λ_ _ e=>e
  let h':decide ((z.length:Int) >n)=false:=by simpa using h
  let e:EM (.text<|.int n) (.str z)=((oF z).map lK).all id:=by rw[EM];rw[h',oE];rfl
  rw[e]at q;show{_,O,z,O,SZ (Wk.str z) (by rw[QX];show j) (A0u lK) (λy F H2 R s2 hR=>?_) λD H2 hD s2 e2=>?_};·let(c,hc,O):=AS.mp F;show{Sub.set O,_,O,_,O,O,c,O,hR H2 λ_ _ e=>e}
  show{D,(oF z).map lK,O,?_,q _ s2};rw[AX];show e2
 |_=>
  let e:∀d,jS d=ge->EM (.text<|.int n) d=false:=λd hd=>by cases d <;> first|rfl|cases hd
  rw[e _ O]at q;show CP<|q H λ_ _ e=>e
def mZ(T:Tx K mg)(hf:k.flat=Z)(j:k.fine):Jk P w K mg base 3 "suits" k.cls (Kh k):=by cases k with|truth=>show Jk.mono {T.Ob,_,_,_,(T.me 3 6 O O),Wm T,(HL.b2 (T.mf 6 O) λ_ _ _ _ _ _ _ _=>rfl)} Aa|count=>show{T.Oc,_,_,_,(T.me 8 9 O O),Wq T,(HL.b2 (T.mf 9 O) λ_ _ _ _ _ _ _ _=>rfl)}|whole=>show{T.Oa,_,_,_,(T.me 13 12 O O),Wj T,(HL.b2 (T.mf 12 O) λ_ _ _ _ _ _ _ _=>rfl)}|upto n=>let(n,O):=j;show{T.Lj,_,_,_,(T.me 19 16 O O),Zr T,(HL.b2 (T.mf 16 O) λ_ _ _ _ _ _ _ _=>rfl)}|text n=>let(n,O):=j;show Jk.mono {T.Kf,_,_,_,(T.me 24 19 O O),Zu T,(HL.b2 (T.mf 19 O) λ_ _ _ _ _ _ _ _=>rfl)} Aa|form z=>show Jk.mono {T.Hm,_,_,_,(T.me 34 29 O O),Uv T,(HL.b2 (T.mf 29 O) λ_ _ _ _ _ _ _ _=>rfl)} Aa|list k=>cases hf|bare=>show j.elim|thing d=>show j.elim
def Kr{j:Type}(l:List j)(p:j->Bool)(f:Nat->Bool)(h:∀i d,l[i]?=Y d->f i=p d): ((Bg l.length).map f).all id=l.all p:=by
 let e: (Bg l.length).map f=l.map p:=by
  apply Yb
  grind
 simp_all
def Zx(T:Tx K mg)(hf:k.flat=Z)(hk:k.fine):∅ 4 581 Aq (Kh<|.list k):=by
 let(t,hM):=(T.ui 5 O);show(T.mf 24 O).okA YY ?_;intro 1 hr h;let(v,x,d,O,(a,dx,u,O,ha,hu),hx,q):=h;show{_,AW (qi (PW.pt<|Jf (Dn<|BN (qB (BR K O) T.Bw Bq<|Cv (pv 1) (Yl T.HU Gi))) (HX<|qc TR (qB BU T.Ey Ds<|CK (pv 1)) (fD hM)))<|qr ER)<|qr (qB (Fy O) T.QK Nn<|CK (Re ["thing"] Ap [0] (.cons O (.inl O) O .nil) (CY<|pv 1) (λC s_ H_ fp=>BQ (i:=0) yt O (Cd O)<|CV O) λC s_ H_ fp=>Wc (P:=P) (w:=w) (K:=K) (mg:=mg) (base:=base) (k:=3) O O O O O (Nd K O (pv 1) O) (hr.mono Aa) ES<|CK (pv 0))),?_};show{_,O,x,.ty "list",_,_,_,O,hx.ty,O,uM T d,_,O,?_};cases d with
 |lst l=>
  let(p,xs,O,hp,F,hl):=hx;let z:=F.len;show BW {_,O,p,_,O,.inl<|BX.of hp,_,_,O,O,_,O,?_};rw[z];show Hs (λh=>?_) λh=>?_
  ·let e:EM (.list k) (.lst l)=false:=by rw[EM];rw[h];rfl
   rw[e]at q;show q H λ_ _ e=>e
  let h':decide ((l.length:Int) >20)=false:=by simpa using h
  let e:EM (.list k) (.lst l)=l.all (EM k):=by rw[EM];rw[h'];rfl
  rw[e]at q;show{_,O,p,O,{_,BX.of hp},Dg (Wk.list<|BX.of hp) (by rw[z];show hl) (λj=>.bl<|match l[j]? with|some d=>EM k d|none=>ge) (λj y hy H2 R s2 hR=>?_) λD H2 hD s2 e2=>?_}
  ·let(d,hd,ht):=F.at j y hy;let U:=hu.sm<|Sm.of s2;have(b,bx,fs,O,hb,a1):=U.ins hk.isK;show{Sub.set O,_,O,a,_,dx,_,_,O,s2 _ _ ha,T.Ll,T.Li,O,b,_,bx,fs,_,O,hb,a1 _ Aa Aa Aa,mZ T hf hk,_,O,_,y,d,O,U,Th.sm (Sm.of s2) d y ht,λH3 s3=>?_}
   grind
  show{D,(Bg xs.length).map λj=>(match l[j]? with|some d=>EM k d|none=>ge),O,?_,?_};·simp_all
  rw[z,Kr l (EM k) _ (λi d hd=>by rw[hd])];show q _ s2
 |_=>
  let e:∀d,Rz d=ge->EM (.list k) d=false:=λd hd=>by cases d <;> first|rfl|cases hd
  rw[e _ O]at q;show CP<|q H λ_ _ e=>e
def vz(T:Tx K mg)(j:k.fine):Jk P w K mg base 4 "suits" k.cls (Kh k):=by
 by_cases hf:k.flat=Z;·show Jk.mono (mZ T hf j) Aa
 cases k with|list k=>show{T.Ll,_,_,_,(T.me 29 24 O O),Zx T j.1 j.2,(HL.b2 (T.mf 24 O) λ_ _ _ _ _ _ _ _=>rfl)}|_=>show A3p O hf
def Kx.isOf:Kx->Nat->Bool|.truth,n=>n==0||n==1|.count,n=>n==0||n==2|.whole,n=>n==0||n==3|.bare,n=>n==0|.upto _,n=>n==0||n==4|.text _,n=>n==0||n==5|.form _,n=>n==0||n==7|.list _,n=>n==0||n==6|.thing _,_=>ge
def Kx.may:Kx->Prop|.thing d=>d= .non\/∃z,d= .str z|.list k=>k.may|_=>True
noncomputable def kcA:List AH:=[317,359,392,425,479,532,591,645]
def gq(T:Tx K mg)(hm:k.may)(h:RQ H k v):∃t,IV K H v t/\Bo K t (.ref 317)=Y (k.isOf 0)/\Bo K t (.ref 359)=Y (k.isOf 1)/\Bo K t (.ref 392)=Y (k.isOf 2)/\Bo K t (.ref 425)=Y (k.isOf 3)/\Bo K t (.ref 479)=Y (k.isOf 4)/\Bo K t (.ref 532)=Y (k.isOf 5)/\Bo K t (.ref 591)=Y (k.isOf 6)/\Bo K t (.ref 645)=Y (k.isOf 7):=by
 cases k with
 |truth=>let(a,dx,O,ha):=h;show{_,(T.rj 1 O) ha,(T.q 8 O),(T.q 9 O),(T.q 10 O),(T.q 11 O),(T.q 12 O),(T.q 13 O),(T.q 14 O),(T.q 15 O)}|count=>let(a,dx,O,ha):=h;show{_,(T.rj 2 O) ha,(T.q 16 O),(T.q 17 O),(T.q 18 O),(T.q 19 O),(T.q 20 O),(T.q 21 O),(T.q 22 O),(T.q 23 O)}|whole=>let(a,dx,O,ha):=h;show{_,(T.rj 3 O) ha,(T.q 24 O),(T.q 25 O),(T.q 26 O),(T.q 27 O),(T.q 28 O),(T.q 29 O),(T.q 30 O),(T.q 31 O)}|bare=>let(a,dx,O,ha):=h;show{_,(T.rj 0 O) ha,(T.q 0 O),(T.q 1 O),(T.q 2 O),(T.q 3 O),(T.q 4 O),(T.q 5 O),(T.q 6 O),(T.q 7 O)}|upto d=>let(a,dx,u,O,ha,_):=h;show{_,(T.rj 4 O) ha,(T.q 32 O),(T.q 33 O),(T.q 34 O),(T.q 35 O),(T.q 36 O),(T.q 37 O),(T.q 38 O),(T.q 39 O)}|text d=>let(a,dx,u,O,ha,_):=h;show{_,(T.rj 5 O) ha,(T.q 40 O),(T.q 41 O),(T.q 42 O),(T.q 43 O),(T.q 44 O),(T.q 45 O),(T.q 46 O),(T.q 47 O)}|form d=>let(a,dx,u,O,ha,_):=h;show{_,(T.rj 7 O) ha,(T.q 56 O),(T.q 57 O),(T.q 58 O),(T.q 59 O),(T.q 60 O),(T.q 61 O),(T.q 62 O),(T.q 63 O)}|list d=>let(a,dx,u,O,ha,_):=h;show{_,(T.rj 6 O) ha,(T.q 48 O),(T.q 49 O),(T.q 50 O),(T.q 51 O),(T.q 52 O),(T.q 53 O),(T.q 54 O),(T.q 55 O)}
 |thing d=>
  rcases hm with rfl|⟨z,rfl⟩;·show{_,Th.ty h,(T.qt 0 O),(T.qt 1 O),(T.qt 2 O),(T.qt 3 O),(T.qt 4 O),(T.qt 5 O),(T.qt 6 O),(T.qt 7 O)}
  show{_,Th.ty h,(T.qt 9 O),(T.qt 10 O),(T.qt 11 O),(T.qt 12 O),(T.qt 13 O),(T.qt 14 O),(T.qt 15 O),(T.qt 16 O)}
def A04(k:Kx):k.isOf 0=k.isK:=by cases k <;> rfl
def tX(k:Kx):Dt->Dt|.non=>Et k|d=>d
inductive UC(vs:List V)(H:Hp)(Q:VK):Prop|mk (kv dv k d:_) (_:vs=[kv,dv]) (_:Kx.may k) (_:RQ H k kv) (_:Th H d dv) (_:∀u H',Bd H H'->Th H' (tX k d) u->Fl H u->Q u H')
def VD:Sp:=λvs H Q _=>UC vs H Q
def X8(h:Th H d v)(j:Rz d=ge):Fl H v:=λm e xs z=>by
 subst e;cases d with|non=>cases h|bl b=>cases h|int i=>cases h|str z=>cases h.1|lst l=>cases j|dct=>let(a,e,h):=h;cases e;rw[h]at z;cases z
def Wi(T:Tx K mg):∅ 2 654 Ae VD:=by
 show(T.df 10 O).okA VJ ?_;intro 1 hr h;let(kv,dv,k,d,O,hm,U,hd,q):=h;show{_,AW (qi (PW.pt<|FT (qc Ng (pv 1) DJ) (Fu<|BN (qB (BR K O) T.Bw Bq<|Cv (pv 0) (Sk<|T.mc 11 O))))<|qr (Fq (P:=P) (w:=w) (K:=K) (mg:=mg) (base:=base) (k:=1) O O O O O (pv 0) (hr.mono Aa) ES))<|AW (qi (BN<|qB (BR K O) T.Bw Bq (Cv (pv 1)<|Yl T.HU Gi))<|qr (qT Ht T.HU Gi<|CK (pv 1))) (qr<|pv 1),?_};have(t,ty,F,_):=gq T hm U;rw[A04]at F;show{_,O,O,_,O,?_};by_cases hn:dv= .non
 ·obtain rfl:d= .non:=by cases d with|non=>rfl|bl b=>rw[hn]at hd;cases hd|int i=>rw[hn]at hd;cases hd|str z=>rw[hn]at hd;cases hd.1|lst l=>let(a,xs,e,_):=hd;rw[hn]at e;cases e|dct=>let(a,e,_):=hd;rw[hn]at e;cases e
  subst hn;show Gc O {_,O,kv,.ref 317,_,_,_,O,ty,O,F,_,O,?_};cases D:k.isK with
  |true=>
   let(a,dx,fs,O,ha,hf):=U.ins D;show CP {_,O,a,_,dx,fs,_,O,ha,hf _ Aa Aa Aa,vB T D,_,O,λu H' s' hu hf=>?_};show q u H' s' hu hf
  |false=>
   show BW {_,O,.non,.ty "list",_,_,_,O,(show Th H .non .non from O).ty,O,uM T .non,_,O,BW {_,O,q .non H (Bd.refl _) ?_ λm e=>by cases e}};cases k with|thing d=>show O|_=>cases D
 let j:tX k d=d:=by cases d with|non=>show A3p hd hn|_=>rfl
 rw[j]at q;show EN hn {_,O,dv,.ty "list",_,_,_,O,hd.ty,O,uM T d,_,O,?_};cases d with
 |lst l=>
  let(a,xs,O,ha,hx,hl):=hd;show CP {_,O,a,xs,O,.inl<|BX.of ha,λp hp=>q (.ref p) _ (AZ hp) {p,xs,O,Ax,dB.sm (Sm.of<|AZ hp) _ _ hx,hl} λm e xs z=>by cases e;rw[hp]at z;cases z}
 |_=>show BW {_,O,q _ H (Bd.refl _) hd<|X8 hd O}
structure Fx where
 num:Dt
 nam:Dt
 kind:Kx
 must:Dt
 dfl:Dt
def XG(H:Hp)(f:Fx)(v:V):Prop:=∃a dx n z k m d,v= .ref a/\H a=Y (.ins 672 dx [("number",n),("name",z),("kind",k),("must",m),("default",d)])/\Th H f.num n/\Th H f.nam z/\RQ H f.kind k/\Th H f.must m/\Th H f.dfl d
def XG.sf(s:Sf H H'):XG H f v->XG H' f v:=λj=>by
 let(a,dx,n,z,k,m,d,e,h,h1,h2,h3,F,D):=j;show{a,dx,n,z,k,m,d,e,s _ _ h O,Th.sn s.sn _ _ h1,Th.sn s.sn _ _ h2,h3.sn s.sn,Th.sn s.sn _ _ F,Th.sn s.sn _ _ D}
inductive Ex where
 |fld (f:Fx)|thing (d:Dt)
def Ex.may:Ex->Prop|.fld f=>f.kind.may|.thing d=>d= .non\/∃z,d= .str z
def iq(H:Hp):Ex->V->Prop|.fld f,v=>XG H f v|.thing d,v=>Th H d v
def iq.sf(s:Sf H H'):∀{e:Ex} {v:V},iq H e v->iq H' e v|.fld _,_,h=>XG.sf s h|.thing d,v,h=>Th.sn s.sn d v h
def iq.sm(s:Sm H H')(h:iq H e v):iq H' e v:=iq.sf s.sf h
abbrev Es(H:Hp):List Ex->List V->Prop:=Paired<|iq H
def Es.sf(s:Sf H H')(h:Es H es xs):Es H' es xs:=Paired.mapP h λ_ _ z=>iq.sf s z
def Es.sm(s:Sm H H')(h:Es H es xs):Es H' es xs:=Es.sf s.sf h
def zW(x:AH)(H H':Hp):Prop:=∀b o,b≠x->H b=Y o->H' b=Y o
inductive qY(vs:List V)(H:Hp)(Q:VK):Prop|mk (x dx n z kv m dv k d:_) (_:vs=[.ref x,n,z,kv,m,dv]) (_:H x=some (.ins 672 dx [])) (_:Kx.may k) (_:RQ H k kv) (_:Th H d dv) (_:∀u H',zW x H H'->H' x=some (.ins 672 dx [("number",n),("name",z),("kind",kv),("must",m),("default",u)])->Th H' (tX k d) u->Fl H u->Q .non H')
def eQ:Sp:=λvs H Q _=>qY vs H Q
def LP(T:Tx K mg):EY P w K mg base ZM 3 669 (EH K 669) As eQ:=by
 have(oc,od,sl,kV,doc,pm,an,cdv,ct,e,lk,j):=HL.Jp T.Kd;rw[e];show gD lk j Zc (λvs H Q E h=>?_) λA outer s H vs Q E hr h=>?_;·let(x,dx,n,z,kv,m,dv,k,d,O,_):=h;rfl
 let(x,dx,n,z,kv,m,dv,k,d,O,hx,hm,hk,hd,q):=h;show{_,Ug.nox<|AW (GA (pv 0) (pv 1) O) (AW (GA (pv 0) (pv 2) O)<|AW (GA (pv 0) (pv 3) O) (AW (GA (pv 0) (pv 4) O)<|Cc (GA (pv 0) (qD (@Wi P w K mg base T) hr (T.d2 10 O λ_ _ _ _ _ _ _ _=>rfl)<|Cv (pv 3) (pv 5)) O))),?_};show{_,O,_,O,x,_,dx,_,O,hx,T.CJ,T.GR,Aa,?_};let s1:Sn H (upd H x<|.ins 672 dx [("number",n)]):=Sn.upd hx O;show{_,O,_,O,x,_,dx,_,O,Ax,T.CJ,T.Kb,by change 1<1000;decide,?_};rw[Lp];show{_,O,_,O,x,_,dx,_,O,Ax,T.CJ,T.Ei,by change 2<1000;decide,?_};rw[Lp];show{_,O,_,O,x,_,dx,_,O,Ax,T.CJ,T.Hl,by change 3<1000;decide,?_};rw[Lp];let s4:Sn H (upd H x<|.ins 672 dx [("number",n),("name",z),("kind",kv),("must",m)]):=Sn.upd hx O;show{_,O,_,O,kv,dv,k,d,O,hm,hk.sn s4,Th.sn s4 _ _ hd,λu H' s' U hf=>?_};show{_,O,x,_,dx,_,O,s' _ _ Ax,T.CJ,T.Fp,by change 4<1000;decide,?_};show q u _ (λb o D eb=>?_) Ax (Th.sn (Sn.upd (s' _ _ Ax) O) _ _ U) (λm e xs z=>hf m e xs<|by rw[AT (λy=>by rw[y,hx]at z;cases z)];show z);rw[AT D];show s' _ _ ?_;rw[AT D];show eb
def ZF(T:Tx K mg):EB K (EH K 669) As []:=by have(oc,od,sl,kV,doc,pm,an,cdv,ct,e,lk,D):=HL.Jp T.Kd;let(o,n,h1,h2):=HL.sW T.Vm;rw[e];intro s us X j;rw[BE]at j ⊢;let(u,v,a,b,c,d,O):=A5 j;show GQ O (X _ _ h1) h2 O O
def ZG(T:Tx K mg):EB K (EH K 669) As [.none]:=by
 have(oc,od,sl,kV,doc,pm,an,cdv,ct,e,lk,F):=HL.Jp T.Kd;let(o,n,h1,h2):=HL.sW T.Vm;rw[e];intro s us X z;let j:us.length=5:=by rw[AI]at z;show Pu z
 let(u,v,a,b,c,O):=X4 j;show GQ O (X _ _ h1) h2 O O
def ZH(T:Tx K mg):EB K (EH K 669) As [.bool ge,.none]:=by
 have(oc,od,sl,kV,doc,pm,an,cdv,ct,e,lk,F):=HL.Jp T.Kd;let(o,n,h1,h2):=HL.sW T.Vm;rw[e];intro s us X z;let j:us.length=4:=by rw[AI]at z;show Pu<|Pu z
 let(u,v,a,b,O):=rW j;show GQ O (X _ _ h1) h2 O O
def kO(H0 H:Hp)(f:Fx)(v:V):Prop:=∃a dx n z k m d,v= .ref a/\H a=Y (.ins 672 dx [("number",n),("name",z),("kind",k),("must",m),("default",d)])/\Th H f.num n/\Th H f.nam z/\RQ H f.kind k/\Th H f.must m/\Th H f.dfl d/\Fl H0 d
def kO.back(s:Bd H0 H1):kO H1 H f v->kO H0 H f v:=λj=>by
 let(a,dx,n,z,k,m,d,e,h,h1,h2,h3,U,F,D):=j;show{a,dx,n,z,k,m,d,e,h,h1,h2,h3,U,F,D.back s}
def Qv{H:Hp}{Q:VK}{x dx:AH}{n z kv m dv:V}{f:Fx}{d:Dt}(hx:H x=S)(F:H dx=S)(D:dx≠x)(hm:f.kind.may)(h1:Th H f.num n)(h2:Th H f.nam z)(h3:RQ H f.kind kv)(h4:Th H f.must m)(h5:Th H d dv)(e5:f.dfl=tX f.kind d)(q:∀v H',Bd H H'->kO H H' f v->Q v H'):eQ (.ref x::[n,z,kv,m,dv]) (upd (upd H dx<|.own x) x<|.ins 672 dx []) (λv H2=>v= .non/\Q (.ref x) H2) E0:=by
 let j:Bd H (upd (upd H dx<|.own x) x<|.ins 672 dx []):=by show(AZ F).trans (AZ ?_);rw[AT (CI D)];show hx
 show{x,dx,n,z,kv,m,dv,f.kind,d,O,Ax,hm,h3.sm<|Sm.of j,Th.sm (Sm.of j) _ _ h5,λu H' bt e hu hf=>{O,?_}};let s1:Bd H H':=λa o U=>bt a o (λz=>by rw[z,hx]at U;cases U)<|j a o U;show q _ _ s1 {x,dx,n,z,kv,m,u,O,e,Th.sm (Sm.of s1) _ _ h1,Th.sm (Sm.of s1) _ _ h2,h3.sm<|Sm.of s1,Th.sm (Sm.of s1) _ _ h4,?_,hf.back j};rw[e5];show hu
def Gf{z j:Type}{R:z->j->Prop}:∀{l:List z} {m:List j},Paired R l m->∀(i:Nat) y,m[i]?=Y y->∃x,l[i]?=Y x/\R x y|_,_,.nil,i,y,e=>by simp at e|_,_,.cons a r,0,y,e=>by simp at e;show{_,O,e ▸ a}|_,_,.cons a r,i+1,y,e=>by simp at e;let(x,h1,h2):=Gf r i y e;show{x,by simpa using h1,h2}
def Sm.lam(h:Lm H)(s:bi ee H H'):Sm H H':=λa o e n=>s a o (h.ne e λps z=>by rw[z]at n;cases n) e
def Lm.same(h:Lm H)(s:Bd H H'):Lm H':=by
 rcases h with h|⟨c,h1,h2⟩;·show .inl<|s _ _ h
 show .inr {c,s _ _ h1,s _ _ h2}
def rQ(d:Dt):Bool:=jT d&& !Jo d
def bD:Ex->Bool|.fld f=>rQ f.num|.thing _=>ge
def nS(h:rQ d=Z):∃i,d= .int i:=by cases d with|int i=>show{(i),O}|_=>cases h
def wO:Ex->Int|.fld f=>(match f.num with|.int i=>i|_=>0)|.thing _=>0
def Ro: ((Ah:List AO) ++ ([]:List AO)).Nodup:=⋯
def iy(H:Hp)(l:AH)(xs:List V):Prop:=H l=Y (.lst xs)
def iy.same(s:Bd H H')(h:iy H l xs):iy H' l xs:=s _ _ h
def Wk.tup(h:GK K H1 l xs):Wk (Itt K l) H1 xs where
 go:=λH i s hi=>{_,xs[i],s.seqT h,AA hi}
 stop:=λH i s hi=>{_,s.seqT h,()}
 yld:=λH i x H' s hi y=>{y.1,y.2 _<|s.seqT h}
def iy.it(h:iy H l xs)(j:∀Q:VK,Q (.ref l) H->te σ H Q)(z:∀J,Wk J H xs->R J H):C3 K te σ H R:=j _ {l,O,{_,BX.of h},z _<|Wk.list (BX.of h)}
def iy.srt(h:iy H l xs)(z:∀Q:VK,Q (.ref l) H->te σ H Q)(U:Ly H T j q)(F:∃ks,xs.length<64/\ks.length=xs.length/\(∀(i:Nat) (v:V) (k:Int),xs[i]?=Y v->ks[i]?=Y k->∃a C dx fs,v= .ref a/\H a=Y (.ins C dx fs)/\RT K C/\HG K C fld/\fs.lookup fld=Y (.int k))/\∀D ys H3,H D=S->bi T H H3->Ly H3 T j q->H3 D=Y (.lst ys)->UZ ks xs ys->Q (.ref D) H3):se K T j q fld te σ H Q:=by let(ks,r):=F;show z _ {(U),l,xs,ks,O,h,r}
def S2(es es':List Ex):Prop:=(∀e∈es,bD e=Z)->(es'.map wO).Pairwise (·<= ·)
def vi:∀{es:List Ex} {xs:List V},Es H es xs->Paired (λ(e:Ex) (q:Int×V)=>iq H e q.2/\wO e=q.1) es ((es.map wO).zip xs)|_,_,.nil=>.nil|_,_,.cons a r=>.cons {(a),O}<|vi r
def Xd:∀{es:List Ex} {qs:List (Int×V)},Paired (λ(e:Ex) (q:Int×V)=>iq H e q.2/\wO e=q.1) es qs->Es H es (qs.map Sg)/\es.map wO=qs.map Prod.fst|_,_,.nil=>{.nil,O}|_,_,.cons a r=>{.cons a.1 (Xd r).1,by rw[Ba,Ba,a.2,(Xd r).2]}
inductive Xx(vs:List V)(H:Hp)(Q:VK):Prop|mk (v:_) (_:vs=[v]) (_: ((∃d,Th H d v/\Rz d=false/\∀H',Bd H H'->Q .non H')\/(∃l xs es,v= .ref l/\iy H l xs/\Es H es xs/\(∀e∈es,Ex.may e)/\xs.length<64/\Lm H/\∀D ys es' H',Sm H H'->Lm H'->H' D=some (.lst ys)->Es H' es' ys->es'.Perm es->S2 es es'->Q (.ref D) H')))
def YA:Sp:=λvs H Q _=>Xx vs H Q
def yD(h1:Bo K t a=Y x)(h2:Bo K t b=Y y):EI K t [a,b]=Y (x||y):=by
 unfold EI;rw[h1];cases x with
 |true=>rfl
 |false=>
  unfold EI;rw[h2];cases y with|true=>rfl|false=>rfl
def A22(h1:Bo K t a=Y x)(h2:Bo K t b=Y y)(h3:Bo K t c=Y z):EI K t [a,b,c]=Y (x||y||z):=by
 unfold EI;rw[h1];cases x with
 |true=>rfl
 |false=>
  rw[yD h2 h3,NR]
def z6(T:Tx K mg)(hm:e.may)(h:iq H e v):∃t,IV K H v t/\Bo K t (.ref 672)=Y (match e with|.fld _=>Z|.thing _=>ge):=by
 cases e with
 |fld f=>let(a,dx,n,z,k,m,d,O,ha,_):=h;show{_,(T.rj 8 O) ha,(T.q 70 O)}
 |thing d=>
  rcases hm with rfl|⟨z,rfl⟩;·show{_,Th.ty h,(T.qt 8 O)}
  show{_,Th.ty h,(T.qt 17 O)}
def iy.kit(T:Tx K mg)(h:iy H l xs):∃t,IV K H (.ref l) t/\EI K t [.type "list",.type "tuple"]=Y true:={_,.lst h,yD T.Ge T.QM}
def Zk(T:Tx K mg)(kb:K.In base):EY P w K mg base ZM 3 681 (EH K 681) ["fields"] YA:=by
 have(oc,od,sl,kV,doc,pm,an,cdv,ct,e,lk,c5):=HL.Jp<|T.de 11 O;let c4:=T.Uj e;let hB:base.BuiltinsAt mg ee:=HL.A0t kb (HL.JR (f:=id) 1 T.mb O) (T.g _ _<|T.nr 25 O) Aa Aa Aa;let hC:=HL.C4 kb<|HL.JR (f:=id) 0 T.mb O;rw[e];show gD lk c5 YK (λvs H Q E h=>?_) λA outer s H vs Q E hr h=>?_
 ·let(v,O,_):=h;rfl
 let(v,O,h):=h;show{_,Ug.nox<|AW (qi (Dn<|BN (qB (RK K O) T.Bw Bq<|Cv (pv 0) (Cn<|Cv (Yl T.HU Gi) (Yl T.kT hU))))<|qr DJ) (AW (qi (BN<|qB (Fy O) T.QK Nn (CK<|Re Ah [] [] .nil (CY<|pv 0) (λC s_ H_ fp=>BQ (i:=0) Ro O (Cd O)<|CV O) (λC s_ H_ fp=>JP (qB (BR K O) T.Bw Bq<|Cv (pv 0) (Sk T.NW))<|JO (qD (@Ou P w K mg base T) hr T.NY<|CK (Nd K O (pv 0) O)))))<|qr (jv (y:="field") (fld:="number") (c:=zu) (T:=ee) (pv 0) O T.QJ O O c4 hC hB {λ_ _ _ _=>rfl,O,O,O,Ab,O,λ_ _=>rfl,Aa} hr.depth))<|qr (qT Ht T.HU Gi<|CK (pv 0))),?_};show{_,O,zl 2,λtp b7=>?_};let s1:Bd H (upd H tp<|.tup (["list","tuple"].map V.ty)):=AZ b7;rcases h with⟨d,hd,hn,q⟩|⟨l,xs,es,rfl,hl,he,hm,hz,hL,q⟩;·show{v,tp,_,_,["list","tuple"],O,Ax,(Th.sm (Sm.of s1) _ _ hd).ty,yD (uM T d)<|A1Z T d,_,O,?_};rw[hn];show CP<|q _ s1
 let a5:=hl.same s1;let(b1,b6,c2):=a5.kit T;show{.ref l,tp,b1,_,["list","tuple"],O,Ax,b6,c2,_,O,BW ?_};show a5.it (λQ q=>{(_),O,q}) λJ WJ=>Dg WJ () (λj=>.bl<|match es[j]? with|some e=>bD e|none=>ge) (λj y hy H2 R s2 hR=>?_) λD H2 hD s2 e2=>?_
 ·let(e,hj,b4):=Gf he j y hy;let a3:=iq.sm (Sm.of<|s1.trans s2) b4;let b9:=hm e<|AL hj;let(t,ty,kt):=z6 T b9 a3;let a2:=hR H2 λ_ _ e=>e;rw[hj]at a2;show{Sub.set O,_,O,y,.ref 672,_,_,_,O,ty,O,kt,_,O,?_};cases e with
  |fld f=>
   let(a,dx,n,z,k,m,d,O,ha,h1,_):=a3;show CP {(_),O,a,_,dx,_,_,O,ha,T.CJ,T.GR,O,n,f.num,O,h1,a2}
  |thing d=>show BW a2
 show{D,(Bg xs.length).map λj=>(match es[j]? with|some e=>bD e|none=>ge),O,by rw[AX];show e2,_,O,?_};let F:=he.length;let s3:=s1.trans s2;let a7:=Es.sm (Sm.of s3) he;rw[<-F,Kr es bD _ (λi d hd=>by rw[hd])];show Hs (λh=>?_) λh=>?_
 ·let hw:=By.mp h;let c3: (es.map wO).length=xs.length:=by rw[Aw];show F
  show(hl.same s3).srt (λQ q=>{(_),O,q}) (hL.same s3) {es.map wO,hz,c3,(λi v k h1 h2=>?_),λD2 ys H4 d9 sT c6 b3 ho=>?_}
  ·let(e,hj,hy):=Gf a7 i v h1;let a4:=hw e<|AL hj;rw[Be,hj]at h2;obtain rfl:wO e=k:=AK h2;cases e with
   |thing d=>cases a4
   |fld f=>
    let(i',hi):=nS<|a4;have(a,dx,n,z,kk,m,d,O,ha,a8,_):=hy;let ek:wO (.fld f)=i':=by change(match f.num with|.int i=>i|_=>0)=i';rw[hi]
    rw[hi]at a8;obtain rfl:n=V.int i':=a8;rw[ek];show{(a),_,dx,_,O,ha,T.CJ,T.GR,O}
  let sm:=Sm.lam (hL.same s3) sT;have(qs,pq,O,b8):=ho;let(es',pe,re):=L2.Paired.perm pq.symm<|vi (Es.sm sm a7);let(r1,r2):=Xd re;show q D2 _ es' H4 ((Sm.of s3).trans sm) c6 b3 r1 pe λ_=>by rw[r2];show FZ.mpr b8
 show{_,O,l,xs,O,(.inl<|BX.of (hl.same s3)),λp hp=>?_};let s4:=s3.trans<|AZ (u:=.lst xs) hp;show q p xs es _ (Sm.of s4) (hL.same s4) Ax (Es.sm (Sm.of s4) he) (.refl _) λhw=>A3p (By.mpr hw) h
open PySem.W (sortI)
def fY: ((Ad:List AO) ++ ([]:List AO)).Nodup:=⋯
inductive UB(vs:List V)(H:Hp)(Q:VK):Prop|mk (v:_) (_:vs=[v]) (_: ((v= .non/\dW H Q [])\/∃(l:AH) (ns:List Int),v= .ref l/\iy H l (ns.map V.int)/\ns.length<64/\dW H Q ((sortI ns).map V.int)))
def VC:Sp:=λvs H Q _=>UB vs H Q
def vW{j:Type}(l:List j): (l.map λ_=>Z).all id=true:=by simp
def Wh(T:Tx K mg):∅ 2 686 ["numbers"] VC:=by
 show(T.df 12 O).okA VI ?_;intro 1 hr h;let(v,O,h):=h;show{_,AW (qi (qc Ng (pv 0) DJ)<|qr (Ci FU))<|AW (qi (Dn<|BN (qB (RK K O) T.Bw Bq<|Cv (pv 0) (Cn<|Cv (Yl T.HU Gi) (Yl T.kT hU))))<|qr DJ) (AW (qi (BN<|qB (Fy O) T.QK Nn (CK<|Re Ad [] [] .nil (CY<|pv 0) (λC s_ H_ fp=>BQ (i:=0) fY O (Cd O)<|CV O) (λC s_ H_ fp=>qD (@Ou P w K mg base T) hr T.NY<|CK (pv 0))))<|qr (qB My T.QJ Tc<|CK (pv 0)))<|qr (qT Ht T.HU Gi<|CK (pv 0))),?_};show{_,O,O,_,O,?_};rcases h with⟨rfl,q⟩|⟨l,ns,rfl,hl,hz,q⟩;·show Gc O {zl 0,λp hp=>q p _ hp (AZ hp) Ax}
 show EN (by intro z;cases z) {_,O,zl 2,λtp a2=>?_};let s1:Bd H (upd H tp<|.tup (["list","tuple"].map V.ty)):=AZ a2;let j:=hl.same s1;let(F,a1,a3):=j.kit T;show{.ref l,tp,F,_,["list","tuple"],O,Ax,a1,a3,_,O,BW ?_};show j.it (λQ q=>{(_),O,q}) λJ WJ=>SZ WJ (by rw[Aw];lia) (λ_=>.bl Z) (λy hy H2 R s2 hR=>?_) λD H2 hD s2 e2=>?_;·let(i,hi,O):=AS.mp hy;show{Sub.set O,_,O,.int i,.int i,O,O,hR H2 λ_ _ e=>e}
 let U:=s1.trans s2;show{D,(ns.map V.int).map λ_=>Z,O,by rw[AX];show e2,_,O,?_};rw[vW];let fin:=λp hp=>q p _ (U.free hp) (U.trans<|AZ hp) Ax;show CP {_,O,l,ns,O,BX.of<|hl.same U,hz,fin}
structure Gx where
 choice:Bool
 nam:Dt
 fields:Option (List Ex)
 gone:List Int
def V2(c:Bool):AH:=if c then 765 else 746
def dj(H:Hp):Option (List Ex)->V->Prop|none,v=>v= .non|some es,v=>∃l xs,v= .ref l/\H l=Y (.lst xs)/\Es H es xs
def NB(H:Hp)(g:Gx)(v:V):Prop:=∃a dx z f l,v= .ref a/\H a=Y (.ins (V2 g.choice) dx [("name",z),("fields",f),("gone",.ref l)])/\Th H g.nam z/\dj H g.fields f/\H l=Y (.lst<|g.gone.map V.int)
def dj.sf(s:Sf H H'):∀{o:Option (List Ex)} {v:V},dj H o v->dj H' o v|none,_,h=>h|some _,_,⟨l,xs,e,h,r⟩=>{l,xs,e,s _ _ h O,Es.sf s r}
def dj.sm(s:Sm H H')(h:dj H o v):dj H' o v:=h.sf s.sf
def NB.sm(s:Sm H H'):NB H g v->NB H' g v:=λj=>by
 let(a,dx,z,f,l,e,h,h1,h2,h3):=j;show{a,dx,z,f,l,e,s _ _ h O,Th.sm s _ _ h1,h2.sm s,s _ _ h3 O}
def ra(H:Hp):Option (List Ex)->V->Prop|none,v=>∃d,Th H d v/\Rz d=ge|some es,v=>∃l xs,v= .ref l/\iy H l xs/\Es H es xs/\(∀e∈es,Ex.may e)/\xs.length<64
def bj:Option (List Ex)->Option (List Ex)->Prop|none,none=>True|some a,some b=>a.Perm b/\S2 b a|_,_=>False
def kN(H:Hp)(ns:List Int)(v:V):Prop:=(v= .non/\ns=[])\/∃l,v= .ref l/\iy H l (ns.map V.int)/\ns.length<64
def A0Y(x:AH)(H H':Hp):Prop:=∀b o,b≠x->H b=Y o->tbF o=ge->H' b=Y o
def iy.sf(s:Sf H H')(h:iy H l xs):iy H' l xs:=s _ _ h O
def ra.sf(s:Sf H H'):∀{o:Option (List Ex)} {v:V},ra H o v->ra H' o v|none,_,⟨d,h,n⟩=>{d,Th.sn s.sn _ _ h,n}|some _,_,⟨l,xs,e,h,r,m,z⟩=>{l,xs,e,h.sf s,Es.sf s r,m,z}
def kN.sf(s:Sf H H'):kN H ns v->kN H' ns v|.inl h=>.inl h|.inr ⟨l,e,h,z⟩=>.inr {l,e,h.sf s,z}
def Lm.put(h:Lm H)(hx:H x=Y (.ins C dx fs)):Lm (upd H x u):=by
 let ne:∀{b:AH} {o:HO},H b=Y o->(∀C dx fs,o≠ .ins C dx fs)->upd H x u b=Y o:=λe n=>by
  rw[AT];·show e
  grind
 rcases h with h|⟨c,h1,h2⟩;·show .inl (ne h λ_ _ _ z=>by cases z)
 show .inr {c,ne h1 (λ_ _ _ z=>by cases z),ne h2 λ_ _ _ z=>by cases z}
inductive wD(C:AH)(vs:List V)(H:Hp)(Q:VK):Prop|mk (x dx z fv gv o ns:_) (_:vs=[.ref x,z,fv,gv]) (_:H x=some (.ins C dx [])) (_:ra H o fv) (_:kN H ns gv) (_:Lm H) (_:∀u l o' H',A0Y x H H'->Lm H'->H' x=some (.ins C dx [("name",z),("fields",u),("gone",.ref l)])->dj H' o' u->bj o' o->H' l=some (.lst<|(sortI ns).map V.int)->Q .non H')
def lG(C:AH):Sp:=λvs H Q _=>wD C vs H Q
structure zV(K:Az)(C:AH):Prop where
 cl:RT K C
 n1:HG K C "name"
 n2:HG K C "fields"
 n3:HG K C "gone"
 pf:∀dx fs,pfO (.ins C dx fs)=ge
def aS(T:Tx K mg):zV K 746:={T.ZW,(T.fo 12 O),(T.fo 13 O),(T.fo 14 O),λ_ _=>rfl}
def aT(T:Tx K mg):zV K 765:={T.ZX,(T.fo 15 O),(T.fo 16 O),(T.fo 17 O),λ_ _=>rfl}
def SY(T:Tx K mg)(c:Bool):zV K (V2 c):=by
 cases c;·show aS T
 show aT T
def Rl(T:Tx K mg)(kb:K.In base)(U:zV K C):EY P w K mg base ZM 4 701 (EH K 701) At (lG C):=by
 have(oc,od,sl,kV,doc,pm,an,cdv,ct,e,lk,b4):=HL.Jp T.TD;rw[e];show gD lk b4 bX (λvs H Q E h=>?_) λA outer s H vs Q E hr h=>?_;·let(x,dx,z,fv,gv,o,ns,O,_):=h;rfl
 let(x,dx,z,fv,gv,o,ns,O,hx,hf,hg,hL,q):=h;show{_,Ug.nox<|AW (GA (pv 0) (pv 1) O) (AY (GA (pv 0) (qD (@Zk P w K mg base T kb) hr (T.d1 11 O λ_ _ _ _ _ _ _=>rfl)<|CK (pv 2)) O)<|Cc (GA (pv 0) (qD (@Wh P w K mg base T) hr (T.d1 12 O λ_ _ _ _ _ _ _=>rfl)<|CK (pv 3)) O)),?_};show{_,O,_,O,x,_,dx,_,O,hx,U.cl,U.n1,Aa,?_};let s1:Sf H (upd H x<|.ins C dx [("name",z)]):=Sf.upd hx<|U.pf _ _;let a6:Lm (upd H x<|.ins C dx [("name",z)]):=hL.put hx;let F:∀{H1:Hp} {u:V},H1 x=Y (.ins C dx [("name",z)])->Sf H1 (upd H1 x<|.ins C dx [("name",z),("fields",u)]):=λh=>Sf.upd h<|U.pf _ _;show BV (λσ' H'=>σ'=[Y (.ref x),Y z,Y fv,Y gv]/\∃u o',A0Y x H H'/\Lm H'/\H' x=Y (.ins C dx [("name",z),("fields",u)])/\dj H' o' u/\bj o' o/\kN H' ns gv) ?_ ?_
 ·cases o with
  |none=>
   let(d,hd,hn):=hf;show{_,O,_,O,.inl {d,Th.sn s1.sn _ _ hd,hn,λH' s'=>?_}};let j:=s' _ _ Ax;show{_,O,x,C,dx,_,O,j,U.cl,U.n2,by change 1<1000;decide,O,.non,S,λb o nb eb tb=>?_,(a6.same s').put j,Ax,O,trivial,((hg.sf s1).sf (Sm.of s').sf).sf<|F j};rw[AT nb];show s' _ _ (by rw[AT nb];show eb)
  |some es=>
   have(l,xs,O,hl,he,hm,hz):=hf;show{_,O,_,O,.inr {l,xs,es,O,hl.sf s1,Es.sf s1 he,hm,hz,a6,λD ys es' H' s' b6 e' b3 hp hri=>?_}};let j:=s' _ _ Ax O;show{_,O,x,C,dx,_,O,j,U.cl,U.n2,by change 1<1000;decide,O,.ref D,Y es',λb o nb eb tb=>?_,b6.put j,Ax,{D,ys,O,F j _ _ e' O,Es.sf (F j) b3},{(hp),hri},((hg.sf s1).sf s'.sf).sf<|F j};rw[AT nb];show s' _ _ (by rw[AT nb];show eb) tb
 rintro σ' H1 ⟨rfl,u,o',bt,b5,a3,b2,hp,b1⟩;let key:∀l H2,Bd H1 H2->H2 l=Y (.lst<|(sortI ns).map V.int)->Q .non (upd H2 x<|.ins C dx [("name",z),("fields",u),("gone",.ref l)]):=λl H2 s3 e2=>by
  let a4:=s3 _ _ a3;let s4:Sf H2 (upd H2 x<|.ins C dx [("name",z),("fields",u),("gone",.ref l)]):=Sf.upd a4<|U.pf _ _;show q u l o' _ (λb o nb eb tb=>?_) ((b5.same s3).put a4) Ax ((b2.sf (Sm.of s3).sf).sf s4) hp<|s4 _ _ e2 O;rw[AT nb];show s3 _ _<|bt b o nb eb tb
 rcases b1 with⟨rfl,rfl⟩|⟨l,rfl,hl,hz⟩;·show{_,O,_,O,.inl {O,λl H2 hl s3 e2=>{_,O,x,C,dx,_,O,s3 _ _ a3,U.cl,U.n3,by change 2<1000;decide,key l H2 s3 e2}}}
 show{_,O,_,O,.inr {l,ns,O,hl,hz,λl H2 hl s3 e2=>{_,O,x,C,dx,_,O,s3 _ _ a3,U.cl,U.n3,by change 2<1000;decide,key l H2 s3 e2}}}
def RM(T:Tx K mg):EB K (EH K 701) At []:=by have(oc,od,sl,kV,doc,pm,an,cdv,ct,e,lk,D):=HL.Jp T.TD;let(o,n,h1,h2):=HL.i7<|AK (T.in_ (i:=4));rw[e];intro s us X j;rw[BE]at j ⊢;let(u,v,a,b,O):=rW j;show GQ O (X _ _ h1) h2 O O
def aE{H:Hp}{Q:VK}{x dx:AH}{z fv gv:V}{c:Bool}{nm:Dt}{o:Option (List Ex)}{ns:List Int}(hx:H x=S)(U:H dx=S)(D:dx≠x)(h1:Th H nm z)(h2:ra H o fv)(h3:kN H ns gv)(hL:Lm H)(q:∀v o' H',Sm H H'->Lm H'->bj o' o->NB H' {c,nm,o',sortI ns} v->Q v H'):lG (V2 c) (.ref x::[z,fv,gv]) (upd (upd H dx<|.own x) x<|.ins (V2 c) dx []) (λv H2=>v= .non/\Q (.ref x) H2) E0:=by
 let j:Bd H (upd (upd H dx<|.own x) x<|.ins (V2 c) dx []):=by show(AZ U).trans (AZ ?_);rw[AT (CI D)];show hx
 show{x,dx,z,fv,gv,o,ns,O,Ax,h2.sf (Sm.of j).sf,h3.sf (Sm.of j).sf,hL.same j,λu l o' H' bt a1 e F hp hl=>{O,?_}};let s1:=λa o ea tb=>bt a o (λz=>by rw[z,hx]at ea;cases ea) (j a o ea) tb;show q _ o' _ s1 a1 hp {x,dx,z,u,l,O,e,Th.sm s1 _ _ h1,F,hl}
def HJ(g:Gx):Bool:=match g.fields with
 |none=>ge|some es=>Ue (.int es.length) (if g.choice then 1 else 0) 10&&decide ((g.gone.length:Int)<=10)
def zc:Ex->Bool|.fld _=>Z|.thing _=>ge
def Wx:Ex->Dt|.fld f=>f.nam|.thing _=>.non
def bJ:Dt->AO|.str z=>z|_=>""
def A06:Dt->Int|.int i=>i|_=>0
def cw:Ex->Dt|.fld f=>f.num|.thing _=>.non
def Fa(es:List Ex):Bool:=es.all (λe=>DR<|Wx e) &&decide ((es.map λe=>bJ<|Wx e).Nodup)
def II(es:List Ex)(gone:List Int):List Int:=es.map (λe=>A06<|cw e) ++gone
def CW(es:List Ex)(gone:List Int):Bool:=(es.all (λe=>Ue (cw e) 1 200) &&gone.all (λi=>Ue (.int i) 1 200)) &&decide ((II es gone).Nodup)
inductive Xy(vs:List V)(H:Hp)(Q:VK):Prop|mk (v g:_) (_:vs=[v]) (_:NB H g v) (_: (∀es,g.fields=some es->es.length<64)) (_:g.gone.length<64) (_:Q (.bl<|HJ g) H)
def YB:Sp:=λvs H Q _=>Xy vs H Q
inductive kK(vs:List V)(H:Hp)(Q:VK):Prop|mk (l:AH) (zs:List AO) (_:vs=[.ref l]) (_:H l=some (.lst<|zs.map V.str)) (_:zs.length<=100) (_:Q (.bl<|decide zs.Nodup) H)
def ow:Sp:=λvs H Q _=>kK vs H Q
inductive kL(vs:List V)(H:Hp)(Q:VK):Prop|mk (l:AH) (ns:List Int) (_:vs=[.ref l]) (_:H l=some (.lst<|ns.map V.int)) (_:ns.length<=100) (_:Q (.bl<|decide ns.Nodup) H)
def ox:Sp:=λvs H Q _=>kL vs H Q
def mT{κ:Type} [DecidableEq κ](d:κ)(ks:List κ):decide (V.int (gQ d ks:Int)=V.int (ks.length:Int))=decide ks.Nodup:=by
 rw[decide_eq_decide];constructor;·intro h;show(gP d ks).mp (Int.ofNat.inj<|V.int.inj h)
 intro h;rw[(gP d ks).mpr h]
def jz(T:Tx K mg):∅ 1 774 ["things"] ow:=by show T.QP.okA PM ?_;intro 1 D h;let(l,zs,O,j,z,q):=h;show{_,qr<|GH Do (ak (mk:=V.str) ("" :AO) (strKind _ _) ft O (pv 0) O T.Ey Ds O T.zY vJ) (qB BU T.Ey Ds<|CK (pv 0)) (IJ _),?_};show{_,O,l,zs,O,BX.of j,z,_,O,l,_,O,.inl<|BX.of j,O,?_};rw[Aw,mT];show q
def jA(T:Tx K mg):∅ 1 774 ["things"] ox:=by show T.QP.okA PM ?_;intro 1 D h;let(l,zs,O,j,z,q):=h;show{_,qr<|GH Do (ak (mk:=V.int) (0:Int) (intKind _ _) fu O (pv 0) O T.Ey Ds O T.zY vJ) (qB BU T.Ey Ds<|CK (pv 0)) (IJ _),?_};show{_,O,l,zs,O,BX.of j,z,_,O,l,_,O,.inl<|BX.of j,O,?_};rw[Aw,mT];show q
def RJ(T:Tx K mg)(c:Bool):Jk P w K mg base 1 "is_choice" (V2 c) (Yk<|.bl c):=by cases c with|false=>show{T.ZW,_,_,_,(T.me 38 30 O O),Rk T,(HL.b1 (T.mf 30 O) λ_ _ _ _ _ _ _=>rfl)}|true=>show{T.ZX,_,_,_,(T.me 40 34 O O),Po T,(HL.b1 (T.mf 34 O) λ_ _ _ _ _ _ _=>rfl)}
def Zl(T:Tx K mg):∅ 3 781 ["form"] YB:=by
 let(_,hF):=(T.ui 10 O);let(_,hG):=(T.ui 11 O);show(T.df 14 O).okA PH ?_;intro _ _ _ _ H _ Q _ hr h X_ D_;have(v,g,O,(a,dx,z,f,l,O,ha,hn,hf,hl),U,a4,q):=h;let F:=SY T g.choice;show{_,AW (qi (PW.pt<|Jf (Dn<|BN (qB (BR K O) T.Bw Bq<|Cv (Cb (pv 0) O) (Yl T.HU Gi))) (HX<|Dn (BN<|qB (BR K O) T.Bw Bq (Cv (Cb (pv 0) O)<|Yl T.HU Gi))))<|qr ER)<|AY (qS 1 PH.nd<|HM (BN<|Fq (P:=P) (w:=w) (K:=K) (mg:=mg) (base:=base) (k:=1) O O O O O (pv 0) (hr.mono Aa) ES) AF AF) (qr<|JP (qD (@Fv P w K mg base T) hr T.EQ<|Bc (qB BU T.Ey Ds<|CK (Cb (pv 0) O)) (Cv (pv 1)<|fD hF)) (JO<|GH au (qB BU T.Ey Ds<|CK (Cb (pv 0) O)) (fD hG) (IJ _))),?_};let fld:∀{Q:VK},Q f H->wn K "fields" Q (.ref a) H:=λh=>{(a),_,dx,_,f,O,ha,F.cl,F.n2,O,h};let D:∀{Q:VK},Q (.ref l) H->wn K "gone" Q (.ref a) H:=λh=>{a,_,dx,_,.ref l,O,ha,F.cl,F.n3,O,h};cases hg:g.fields with
 |none=>
  rw[hg]at hf;obtain rfl:f=V.non:=hf;rw[show HJ g=ge by unfold HJ;rw[hg]]at q;show{_,O,fld {.non,.ty "list",_,_,_,O,(show Th H .non .non from O).ty,O,uM T .non,_,O,CP q}}
 |some es=>
  rw[hg]at hf;let(p,xs,O,hp,he):=hf;let j:es.length=xs.length:=he.length;let hz:=U es hg;rw[show HJ g=(Ue (.int es.length) (if g.choice then 1 else 0) 10&&decide ((g.gone.length:Int)<=10))by unfold HJ;rw[hg]]at q
  show{_,O,fld {.ref p,.ty "list",_,_,_,O,.lst hp,O,T.Ge,_,O,BW {_,O,D {.ref l,.ty "list",_,_,_,O,.lst hl,O,T.Ge,_,O,BW ?_}}}};show BV (λσ' H'=>σ'=[Y (.ref a),Y<|.int (if g.choice then 1 else 0)]/\H'=H) ?_ ?_
  ·show{_,O,a,_,dx,_,_,O,ha,O,RJ T g.choice,_,O,_,O,?_};cases hc:g.choice with|true=>show CP {(O),O}|false=>show BW {(O),O}
  rintro σ' H' ⟨rfl,rfl⟩;show{_,O,fld {p,xs,O,.inl<|BX.of hp,_,O,.int _,.int _,_,_,O,O,_,O,?_}};rw[<-j];show Hs (λh=>?_) λh=>?_
  ·rw[h,CQ]at q;show{_,O,D {l,_,O,.inl<|BX.of hl,_,_,O,O,?_}}
   grind
  simp_all [D_]
def Kq{z j:Type}(l:List z)(p:z->j)(f:Nat->j)(h:∀i d,l[i]?=Y d->f i=p d): (Bg l.length).map f=l.map p:=by
 apply Yb
 grind
inductive qO(vs:List V)(H:Hp)(Q:VK):Prop|mk (l xs es:_) (_:vs=[.ref l]) (_:H l=some (.lst xs)) (_:Es H es xs) (_: (∀e∈es,Ex.may e)) (_:xs.length<64) (_:∀H',Bd H H'->Q (.bl<|Fa es) H')
def sC:Sp:=λvs H Q _=>qO vs H Q
def Ow(h:DR d=Z):∃z,d= .str z:=by cases d with|str z=>show{(z),O}|_=>cases h
def Es.nums:∀{es:List Ex} {xs:List V},Es H es xs->(∀e∈es,zc e=Z)->∃ns:List V,Paired (λe n=>Th H (cw e) n) es ns/\Paired (λy n=>∃a dx z k m d,y=V.ref a/\H a=Y (.ins 672 dx [("number",n),("name",z),("kind",k),("must",m),("default",d)])) xs ns
 |_,_,.nil,_=>{[],.nil,.nil}
 |e::es,_,.cons a r,h=>by
  let(ns,h1,h2):=Es.nums r λe D=>h e<|Bi _ D;have:=h e<|Bl ..;cases e with
  |thing d=>cases this
  |fld f=>
   have(b,dx,n,z,k,m,d,e1,U,F,_):=a;show{n::ns,.cons F h1,.cons {(b),dx,z,k,m,d,e1,U} h2}
def uf(T:Tx K mg):∅ 4 786 ["fields"] sC:=by
 show(T.df 15 O).okA Pl ?_;intro 1 hr h;let(l,xs,es,O,hl,he,hm,hz,q):=h;show{_,AW (qi (Dn<|BN (qB (Fy O) T.QK Nn<|CK (Re Ah [] [] .nil (CY<|pv 0) (λC s_ H_ fp=>BQ (i:=0) Ro O (Cd O)<|CV O) λC s_ H_ fp=>JP (qB (BR K O) T.Bw Bq<|Cv (pv 0) (Sk T.NW))<|JO (qD (@Ha P w K mg base T) hr T.GT<|CK (Nd K O (pv 0) O)))))<|qr ER)<|qr (qD (@jz P w K mg base T) hr T.PD<|CK (Re Ah [] [] .nil (CY<|pv 0) (λC s_ H_ fp=>BQ (i:=0) Ro O (Cd O)<|CV O) λC s_ H_ fp=>Nd K O (pv 0) O)),?_};let U:=he.length;show{_,O,l,O,{_,BX.of hl},Dg (Wk.list<|BX.of hl) () (λj=>.bl<|match es[j]? with|some e=>DR (Wx e)|none=>ge) (λj y hy H2 R s2 hR=>?_) λD H2 hD s2 e2=>?_}
 ·let(e,hj,a1):=Gf he j y hy;let F:=iq.sm (Sm.of s2) a1;let(t,ty,kt):=z6 T (hm e<|AL hj) F;rw[hj]at hR;show{Sub.set O,_,O,y,.ref 672,_,_,_,O,ty,O,kt,_,O,?_};cases e with
  |fld f=>
   let(a,dx,n,z,k,m,d,O,ha,_,h2,_):=F;show CP {(_),O,a,_,dx,_,_,O,ha,T.CJ,T.Kb,O,z,f.nam,O,h2,hR}
  |thing d=>show BW<|hR H2 λ_ _ e=>e
 show{D,(Bg xs.length).map λj=>(match es[j]? with|some e=>DR (Wx e)|none=>ge),O,by rw[AX];show e2,_,O,?_};rw[<-U,Kr es (λe=>DR<|Wx e) _ (λi d hd=>by rw[hd])];cases ha:es.all λe=>DR (Wx e)with
 |false=>
  let e:Fa es=false:=by unfold Fa;rw[ha,Dx]
  rw[e]at q;show CP<|q _ s2
 |true=>
  let e:Fa es=decide ((es.map λe=>bJ<|Wx e).Nodup):=by unfold Fa;rw[ha,CQ]
  rw[e]at q;show BW ?_;let a4:=s2 _ _ hl;let b2:=Es.sm (Sm.of s2) he;show{_,O,l,O,{_,BX.of a4},Dg (Wk.list<|BX.of a4) () (λj=>.str<|match es[j]? with|some e=>bJ (Wx e)|none=>"") (λj y hy H3 R s3 hR=>?_) λD2 H3 b9 s3 e3=>?_}
  ·have(e,hj,a1):=Gf b2 j y hy;let F:=iq.sm (Sm.of s3) a1;let b5:=hR H3 λ_ _ e=>e;rw[hj]at b5;let a3:=By.mp ha e<|AL hj;cases e with
   |thing d=>cases a3
   |fld f=>
    let(zz,a2):=Ow<|show DR f.nam=Z from a3;have(a,dx,n,z,k,m,d,O,b4,_,h2,_):=F;rw[a2]at h2;obtain rfl:z=V.str zz:=h2.1;show{Sub.set O,_,O,a,_,dx,_,_,O,b4,T.CJ,T.Kb,O,?_};let ez:bJ (Wx<|.fld f)=zz:=by change bJ f.nam=zz;rw[a2];rfl
    grind
  let e4:H3 D2=Y (.lst<|(es.map λe=>bJ<|Wx e).map V.str):=by rw[e3,<-U,Kq es (λe=>V.str<|bJ (Wx e)) _ (λi d hd=>by rw[hd]),AX];rfl
  show{D2,_,O,e4,by rw[Aw];lia,q _<|s2.trans s3}
inductive da(vs:List V)(H:Hp)(Q:VK):Prop|mk (v g es:_) (_:vs=[v]) (_:NB H g v) (_:g.fields=some es) (_: (∀e∈es,zc e=true)) (_:es.length<40) (_:g.gone.length<40) (_:∀H',Bd H H'->Q (.bl<|CW es g.gone) H')
def eJ:Sp:=λvs H Q _=>da vs H Q
def dX:∀ns:List Int,Paired (λd n=>Th H d n) (ns.map Dt.int)<|ns.map V.int|[]=>.nil|n::ns=>.cons O<|dX ns
def tH{D z j:Type}{R:j->z->Prop}{f:D->j}:∀{l:List D} {m:List z},Paired (λa b=>R (f a) b) l m->Paired R (l.map f) m|_,_,.nil=>.nil|_,_,.cons a r=>.cons a<|tH r
def Nc{D z:Type}{R:D->z->Prop}:∀{l U:List D} {m F:List z},Paired R l m->Paired R U F->Paired R (l++U) (m++F)|_,_,_,_,.nil,j=>j|_,_,_,_,.cons a r,j=>.cons a<|Nc r j
def dY:∀{ds:List Dt} {ns:List V},Paired (λd n=>Th H d n) ds ns->(ds.all λd=>Ue d 1 200)=Z->ns=(ds.map A06).map V.int
 |_,_,.nil,_=>rfl
 |d::ds,_,.cons a r,h=>by
  rw[Hk,AB]at h;cases d with|int i=>rw[show _=V.int i from a,(dY r h.2)];rfl|_=>cases h.1
def fO(T:Tx K mg):∅ 3 791 ["form"] eJ:=by
 let(_,hM):=(T.ui 12 O);show(T.df 16 O).okA Nv ?_;intro _ _ _ _ H _ Q _ hr h X_ D_;have(v,g,es,O,(a,dx,z,f,gl,O,ha,hn,hf,hl),hg,b4,hz,c5,q):=h;let fc:=SY T g.choice;rw[hg]at hf;have(p,xs,O,hp,he):=hf;show{_,AY (qS 1 Nv.nd<|Bb DS (Re Ah [] [] .nil (CY<|Cb (pv 0) O) (λC s_ H_ fp=>BQ (i:=0) Ro O (Cd O)<|CV O) λC s_ H_ fp=>Nd K O (pv 0) O) (Cb (pv 0) O))<|AW (qi (Dn<|BN (qB (Fy O) T.QK Nn<|CK (Re Ad [] [] .nil (CY<|pv 1) (λC s_ H_ fp=>BQ (i:=0) fY O (Cd O)<|CV O) λC s_ H_ fp=>qD (@Fv P w K mg base T) hr T.EQ<|Bc (pv 0) (Cv AF<|fD hM))))<|qr ER) (qr<|qD (@jA P w K mg base T) hr T.PD (CK<|pv 1)),?_};let c1:=he.length;let(ns,b3,a2):=Es.nums he b4;let a4:=a2.length;show BV (λσ' H'=>∃D,σ'=[Y (.ref a),Y<|.ref D]/\Bd H H'/\H' D=Y (.lst<|ns++g.gone.map V.int)) ?_ ?_
 ·show{_,O,a,_,dx,_,_,O,ha,fc.cl,fc.n2,O,p,O,{_,BX.of hp},Dg (Wk.list<|BX.of hp) () (λj=>ns.getD j .non) (λj y hy H2 R s2 hR=>?_) λD H2 hD s2 e2=>?_}
  ·let hj:j<ns.length:=by rw[<-a4];show(AQ.mp hy).1
   let a5:=AA hj;have(y',a3,b,bx,z',k',m',d',O,hb):=Gf a2 j _ a5;rw[hy]at a3;cases a3;show{Sub.set O,_,O,b,_,bx,_,_,O,s2 _ _ hb,T.CJ,T.GR,O,?_};have:=hR H2 λ_ _ e=>e;rw[show ns.getD j .non=ns[j]'hj by rw[Bj,a5];rfl]at this;show this
  let e3:H2 D=Y (.lst ns):=by rw[e2,a4];show A3o (λl=>Y<|HO.lst l) ?_;show(Kq ns (λx=>x) _ λi d hd=>?_).trans (List.map_id' ns);rw[Bj,hd];rfl
  show{_,O,a,_,dx,_,_,O,s2 _ _ ha,fc.cl,fc.n3,O,D,gl,_,_,O,O,e3,s2 _ _ hl,?_,λp2 b2=>{p2,O,s2.trans<|AZ b2,Ax}};rw[Aw];show AR (show ns.length+g.gone.length<=1000 by lia) Aa
 rintro σ' H1 ⟨D,rfl,s1,hD⟩;let a1:Paired (λd n=>Th H1 d n) (es.map cw++g.gone.map Dt.int) (ns++g.gone.map V.int):=Nc (tH<|Paired.mapP b3 λ_ _ h=>Th.sm (Sm.of s1) _ _ h)<|dX _;let b5:=a1.length;let hsz: (ns++g.gone.map V.int).length<=90:=by rw[AI,Aw];lia
 show{_,O,D,O,{_,BX.of hD},Dg (Wk.list<|BX.of hD) () (λj=>.bl<|match (es.map cw++g.gone.map Dt.int)[j]? with|some d=>Ue d 1 200|none=>ge) (λj y hy H2 R s2 hR=>?_) λD2 H2 c8 s2 e2=>?_};·let(d,hj,hd):=Gf a1 j y hy;let a6:=hR H2 λ_ _ e=>e;rw[hj]at a6;show{Sub.set O,_,O,y,d,_,_,O,Th.sm (Sm.of s2) _ _ hd,a6}
 show{D2,(Bg (ns++g.gone.map V.int).length).map λj=>(match (es.map cw++g.gone.map Dt.int)[j]? with|some d=>Ue d 1 200|none=>ge),O,by rw[AX];show e2,_,O,?_};rw[<-b5,Kr _ (λd=>Ue d 1 200) _ (λi d hd=>by rw[hd])];let U: ((es.map cw++g.gone.map Dt.int).all λd=>Ue d 1 200)=(es.all (λe=>Ue (cw e) 1 200) &&g.gone.all (λi=>Ue (.int i) 1 200)):=by rw[List.all_append,List.all_map,List.all_map];rfl
 cases hA: (es.map cw++g.gone.map Dt.int).all λd=>Ue d 1 200 with
 |false=>
  let e:CW es g.gone=false:=by unfold CW;rw[<-U,hA,Dx]
  rw[e]at q;show CP<|q _ (s1.trans s2)
 |true=>
  let e:CW es g.gone=decide ((II es g.gone).Nodup):=by unfold CW;rw[<-U,hA,CQ]
  rw[e]at q;let ei:ns++g.gone.map V.int=(II es g.gone).map V.int:=by rw[dY a1 hA];unfold II;rw[Bh,AX,AX];show A3o (λl=>MI V.int<|_++l) ?_;show List.map_id' _
  rw[ei]at hD;show BW {_,O,D,_,O,s2 _ _ hD,?_,q _<|s1.trans s2};have:=A3o Jg ei;rw[Aw]at this
  lia
def TK(ws:List (AO×Int))(z:AO):Option Int:=(ws.find? λp=>decide (p.1=z)).map (·.2)
def wK(ws:List (AO×Int)):List (Ib×V):=ws.map λp=>(Sum.inr p.1,V.int p.2)
def WD(H:Hp)(ws:List (AO×Int))(v:V):Prop:=∃a,v= .ref a/\H a=Y (.dK<|wK ws)
def WD.sm(s:Sm H H'):WD H ws v->WD H' ws v:=λj=>by
 let(a,e,h):=j;show{a,e,s _ _ h O}
def iG(ws:List (AO×Int))(z:AO):Jt (wK ws) (.inr z)=(TK ws z).map V.int:=by
 induction ws with
 |nil=>rfl
 |cons p ws j=>
  by_cases h:p.1=z
  ·rw[show wK (p::ws)=(Sum.inr p.1,V.int p.2)::wK ws from O,QT (show(Sum.inr p.1:Ib)= .inr z by rw[h])];unfold TK
   grind
  rw[show wK (p::ws)=(Sum.inr p.1,V.int p.2)::wK ws from O,Mi λe=>h<|RY e,j];unfold TK
  grind
def gu(ws:List (AO×Int))(z:AO): (Jt (wK ws)<|.inr z).isSome=(TK ws z).isSome:=by rw[iG];simp
def WQ(ws:List (AO×Int)):Dt->Bool|.str z=>(TK ws z).isSome|_=>ge
def Of(ws:List (AO×Int)):Kx->Bool|.upto d=>Ue d 1 MN|.text d=>Ue d 1 100|.form d=>DR d&&WQ ws d|.truth=>Z|.count=>Z|.whole=>Z|_=>ge
def Gg(ws:List (AO×Int)):Kx->Bool|.list k=>Of ws k|k=>Of ws k
def Xq(h:Ue d a b=Z):∃n,d= .int n:=by cases d with|int n=>show{(n),O}|_=>cases h
def Qn(h:Of ws k=Z):k.fine/\k.flat=true:=by cases k with|upto d=>show{Xq h,O}|text d=>show{Xq h,O}|form d=>show{(trivial),O}|truth=>show{(trivial),O}|count=>show{(trivial),O}|whole=>show{(trivial),O}|list k=>cases h|bare=>cases h|thing d=>cases h
def aH(h:Gg ws k=Z):k.fine:=by cases k with|list k=>have:=Qn<|h;show{(this.2),this.1}|upto d=>show(Qn (ws:=ws) (k:=.upto d) h).1|text d=>show(Qn (ws:=ws) (k:=.text d) h).1|form d=>trivial|truth=>trivial|count=>trivial|whole=>trivial|bare=>cases h|thing d=>cases h
inductive qL(vs:List V)(H:Hp)(Q:VK):Prop|mk (kv wv k ws:_) (_:vs=[kv,wv]) (_:Kx.may k) (_:RQ H k kv) (_:WD H ws wv) (_:∀H',Bd H H'->Q (.bl<|Of ws k) H')
def sx:Sp:=λvs H Q _=>qL vs H Q
inductive wx(vs:List V)(H:Hp)(Q:VK):Prop|mk (kv wv k ws:_) (_:vs=[kv,wv]) (_:Kx.may k) (_:RQ H k kv) (_:WD H ws wv) (_:∀H',Bd H H'->Q (.bl<|Gg ws k) H')
def xt:Sp:=λvs H Q _=>wx vs H Q
def Q5:Dt->Bool|.bl b=>!b|.int i=>decide (i=0)|.str z=>decide (z="")|.lst l=>l.isEmpty|_=>ge
def A1L:Dt->Bool|.non=>Z|_=>ge
def FI:Kx->Dt->Bool|.form _,d=>A1L d|k,d=>EM k d&&Q5 d
inductive qX(vs:List V)(H:Hp)(Q:VK):Prop|mk (kv dv k d:_) (_:vs=[kv,dv]) (_:Kx.fine k) (_:RQ H k kv) (_:Th H d dv) (_:∀H',Bd H H'->Q (.bl<|FI k d) H')
def sL:Sp:=λvs H Q _=>qX vs H Q
def Nj:Kx->Bool|.text _=>Z|_=>ge
def lz:Dt->Bool|.bl b=>b|_=>ge
def OH(f:Fx)(c:Bool):Bool:=Jo f.must&& (!(lz f.must&&c) && (FI f.kind f.dfl|| (!(lz f.must|| (c|| !LM f.kind)) && (!(Nj f.kind&& !DR f.dfl) &&EM f.kind f.dfl))))
def Kx.fine.may{k:Kx}(h:k.fine):k.may:=by induction k with|thing d=>show h.elim|list k j=>show j h.2|_=>trivial
def ud(T:Tx K mg):∅ 4 798 Af sx:=by
 let G:=@Fv P w K mg base T;let(_,hM):=T.Px;let(_,hS):=T.QL;show(T.df 17 O).okA Sw ?_;intro 1 hr h;let(kv,wv,k,ws,O,hm,F,(wa,O,hw),q):=h;show{_,AW (qi (BN<|qB (BR K O) T.Bw Bq (Cv (pv 0)<|Sk T.la))<|qr (qD G hr T.EQ<|Bc (Cb (pv 0) O) (Cv AF<|fD hM)))<|AW (qi (BN<|qB (BR K O) T.Bw Bq (Cv (pv 0)<|Sk T.QN))<|qr (qD G hr T.EQ<|Bc (Cb (pv 0) O) (Cv AF<|fD hS))) (AW (qi (BN<|qB (BR K O) T.Bw Bq (Cv (pv 0)<|Sk T.OW))<|qr (JP (qD (@Ha P w K mg base T) hr T.GT<|CK (Cb (pv 0) O))<|JO (K6 (tW (Ev (DH Aa _) hr.units) (Cb (pv 0) O)<|pv 1) O)))<|qr (qB (RL K O) T.Bw Bq<|Cv (pv 0) (Cn<|Bc (Sk T.Vj) (Cv (Sk T.dH)<|Sk T.dG)))),?_};have(t,ty,k0,k1,k2,k3,k4,k5,k6,D):=gq T hm F;let last:∀H1,Bd H H1->(b:Bool)->b=(k.isOf 1||k.isOf 2||k.isOf 3)->b=Of ws k->∀p,H1 p=S->∃(x:V) (p':AH) (t:Ay) (b:Bool) (as:List AH),[kv,.ref p]=[x,.ref p']/\upd H1 p (.tup [.ref 359,.ref 392,.ref 425]) p'=Y (.tup<|as.map V.ref)/\IV K (upd H1 p<|.tup [.ref 359,.ref 392,.ref 425]) x t/\EI K t (as.map Value.ref)=Y b/\Q (.bl b) (upd H1 p<|.tup [.ref 359,.ref 392,.ref 425]):=by
  intro H1 s1 b hb b0 p hp;let s2:=s1.trans<|AZ (u:=.tup [.ref 359,.ref 392,.ref 425]) hp;have(t',a2,_,a5,a4,a3,_):=gq T hm<|F.sm (Sm.of s2);show{kv,p,t',b,[359,392,425],O,Ax,a2,?_,?_}
  ·rw[hb];show A22 a5 a4 a3
  simp_all
 show{_,O,kv,.ref 479,_,_,_,O,ty,O,k4,_,O,?_};cases k with
 |upto d=>
  let(a,dx,u,O,ha,j):=F;show CP {_,O,a,_,dx,_,_,O,ha,T.Lj,T.Lh,O,u,d,_,_,O,j,q H λ_ _ e=>e}
 |text d=>
  let(a,dx,u,O,ha,j):=F;show BW {_,O,_,.ref 532,_,_,_,O,ty,O,k5,_,O,CP {_,O,a,_,dx,_,_,O,ha,T.Kf,T.Js,O,u,d,_,_,O,j,q H λ_ _ e=>e}}
 |form d=>
  let(a,dx,u,O,ha,j):=F;show BW {_,O,_,.ref 532,_,_,_,O,ty,O,k5,_,O,BW {_,O,_,.ref 645,_,_,_,O,ty,O,D,_,O,CP ?_}};show{_,O,a,_,dx,_,_,O,ha,T.Hm,T.HI,O,u,d,O,j,λH' s'=>{_,O,?_}};cases hn:DR d with
  |false=>
   let e:Of ws (.form d)=false:=by change(DR d&&_)=ge;rw[hn,Dx]
   grind
  |true=>
   let(z,O):=Ow hn;let(O,_):=j;let e:Of ws (.form<|.str z)=(TK ws z).isSome:=by change(DR (.str z) &&_)=_;rw[hn,CQ];rfl
   rw[e,<-gu]at q;show CP {_,O,a,_,dx,_,_,O,s' _ _ ha,T.Hm,T.HI,O,_,O,wa,_,O,Ic.k (k:=.inr z)<|s' _ _ hw,q _ s'}
 |truth=>show BW {_,O,_,.ref 532,_,_,_,O,ty,O,k5,_,O,BW {_,O,_,.ref 645,_,_,_,O,ty,O,D,_,O,BW {_,O,zl 3,λp hp=>last H (Bd.refl _) Z O O p hp}}}|count=>show BW {_,O,_,.ref 532,_,_,_,O,ty,O,k5,_,O,BW {_,O,_,.ref 645,_,_,_,O,ty,O,D,_,O,BW {_,O,zl 3,λp hp=>last H (Bd.refl _) Z O O p hp}}}|whole=>show BW {_,O,_,.ref 532,_,_,_,O,ty,O,k5,_,O,BW {_,O,_,.ref 645,_,_,_,O,ty,O,D,_,O,BW {_,O,zl 3,λp hp=>last H (Bd.refl _) Z O O p hp}}}|bare=>show BW {_,O,_,.ref 532,_,_,_,O,ty,O,k5,_,O,BW {_,O,_,.ref 645,_,_,_,O,ty,O,D,_,O,BW {_,O,zl 3,λp hp=>last H (Bd.refl _) ge O O p hp}}}|list k'=>show BW {_,O,_,.ref 532,_,_,_,O,ty,O,k5,_,O,BW {_,O,_,.ref 645,_,_,_,O,ty,O,D,_,O,BW {_,O,zl 3,λp hp=>last H (Bd.refl _) ge O O p hp}}}|thing d=>show BW {_,O,_,.ref 532,_,_,_,O,ty,O,k5,_,O,BW {_,O,_,.ref 645,_,_,_,O,ty,O,D,_,O,BW {_,O,zl 3,λp hp=>last H (Bd.refl _) ge O O p hp}}}
def yl(T:Tx K mg):∅ 5 805 Af xt:=by
 let G:=@ud P w K mg base T;show(T.df 18 O).okA jl ?_;intro 1 F h;let(kv,wv,k,ws,O,hm,z,hw,q):=h;show{_,AW (qi (BN<|qB (BR K O) T.Bw Bq (Cv (pv 0)<|Sk T.lh))<|qr (qD G F T.Mg<|Cv (Cb (pv 0) O) (pv 1)))<|qr (qD G F T.Mg<|Cv (pv 0) (pv 1)),?_};have(t,ty,k0,k1,k2,k3,k4,k5,U,k7):=gq T hm z;show{_,O,kv,.ref 591,_,_,_,O,ty,O,U,_,O,?_};cases k with
 |list k'=>
  have(a,dx,u,O,ha,hu):=z;show CP {(_),O,a,_,dx,_,_,O,ha,T.Ll,T.Li,O,_,O,u,wv,k',ws,O,hm,hu,hw,q}
 |_=>show BW {(_),O,_,O,kv,wv,_,ws,O,hm,z,hw,q}
def sj(j:k.fine)(hf:∀d,k≠ .form d)(h:EM k d=Z): (∃b,d= .bl b/\Et k= .bl ge)\/(∃i,d= .int i/\Et k= .int 0)\/(∃z,d= .str z/\Et k= .str "")\/∃l,d= .lst l/\Et k= .lst []:=by
 cases k with
 |form d=>show A3p O<|hf d|bare=>show j.elim|thing d=>show j.elim|truth=>cases d <;> first|show .inl {(_),rfl,rfl}|cases h
 |count=>let(i,O):=Xq<|h;show .inr<|.inl {(i),O,O}|whole=>let(i,O):=Xq<|h;show .inr<|.inl {(i),O,O}|upto n=>let(n,O):=j;let(i,O):=Xq<|h;show .inr<|.inl {(i),O,O}|text n=>let(n,O):=j;cases d <;> first|show .inr (.inr<|.inl {(_),rfl,rfl})|cases h
 |list k=>cases d <;> first|show .inr (.inr<|.inr {(_),rfl,rfl})|cases h
def fS(T:Tx K mg):∅ 5 812 Ae sL:=by
 show(T.df 19 O).okA eX ?_;intro 1 hr h;let(kv,dv,k,d,O,hk,F,hd,q):=h;show{_,AW (qi (BN<|qB (BR K O) T.Bw Bq (Cv (pv 0)<|Sk T.OW))<|qr (GH Ng (pv 1) DJ<|IJ _))<|qr (JP (Wc (P:=P) (w:=w) (K:=K) (mg:=mg) (base:=base) (k:=4) O O O O O (pv 0) (hr.mono Aa) ES<|CK (pv 1))<|JO (GH (NA.or Do<|ua hr.units) (pv 1) (Fq (P:=P) (w:=w) (K:=K) (mg:=mg) (base:=base) (k:=1) O O O O O (pv 0) (hr.mono Aa) ES)<|IJ _)),?_};have(t,ty,k0,k1,k2,k3,k4,k5,k6,k7):=gq T hk.may F;show{_,O,kv,.ref 645,_,_,_,O,ty,O,k7,_,O,?_};by_cases hf:∃z,k= .form z
 ·let(z,O):=hf;show CP {_,O,O,?_};let e:decide (dv= .non)=FI (.form z) d:=by cases d with|non=>rw[show dv=V.non from hd];rfl|bl b=>rw[show dv=V.bl b from hd];rfl|int i=>rw[show dv=V.int i from hd];rfl|str z=>rw[show dv=V.str z from hd.1];rfl|lst l=>let(a,xs,O,_):=hd;rfl|dct=>let(a,O,_):=hd;rfl
  rw[e];show q H λ_ _ e=>e
 let U:=λz e=>hf {(z),e};let e7:k.isOf 7=false:=by cases k with|form z=>show A3p O<|U z|_=>rfl
 let eb:FI k d=(EM k d&&Q5 d):=by cases k with|form z=>show A3p O<|U z|_=>rfl
 rw[e7];let(a,dx,fs,O,ha,a2):=F.ins hk.isK;show BW {_,O,a,_,dx,fs,_,O,ha,a2 _ Aa Aa Aa,vz T hk,_,O,_,dv,d,O,F,hd,λH1 s1=>{_,O,?_}};cases hs:EM k d with
 |false=>
  grind
 |true=>
  rw[eb,hs,CQ]at q;show CP {_,O,_,O,a,_,dx,fs,_,O,s1 _ _ ha,a2 _ Aa Aa Aa,vB T hk.isK,_,O,λu H2 s2 j _=>?_};let q2:=q _<|s1.trans s2;let D:=Th.sm (Sm.of<|s1.trans s2) _ _ hd;rcases sj hk U hs with⟨b,rfl,e⟩|⟨i,rfl,e⟩|⟨z,rfl,e⟩|⟨l,rfl,e⟩;·rw[e]at j;obtain rfl:u=V.bl false:=j;obtain rfl:dv=V.bl b:=D;show .inl {O,?_};rw[show decide (V.bl b=V.bl ge)=Q5 (.bl b)by cases b <;> rfl];show q2
  ·rw[e]at j;obtain rfl:u=V.int 0:=j;obtain rfl:dv=V.int i:=D;show .inl {O,?_};rw[show decide (V.int i=V.int 0)=Q5 (.int i)from decide_eq_decide.mpr {λh=>V.int.inj h,λh=>A3o V.int h}];show q2
  ·rw[e]at j;obtain rfl:u=V.str "":=j.1;obtain rfl:dv=V.str z:=D.1;show .inl {O,?_};rw[show decide (V.str z=V.str "")=Q5 (.str z)from decide_eq_decide.mpr {λh=>V.str.inj h,λh=>A3o V.str h}];show q2
  rw[e]at j;let(p,ys,O,hp,hy,_):=j;obtain rfl:ys=[]:=hy;let(p',xs,O,a5,hx,_):=D;show .inr {p',p,xs,O,O,a5,hp,?_};let e3:xs.isEmpty=l.isEmpty:=by have:=hx.len;cases xs <;> cases l <;> first|rfl|cases this
  rw[e3];show q2
inductive ip(vs:List V)(H:Hp)(Q:VK):Prop|mk (v f c:_) (_:vs=[v,.bl c]) (_:XG H f v) (_:f.kind.fine) (_:∀H',Bd H H'->Q (.bl<|OH f c) H')
def iW:Sp:=λvs H Q _=>ip vs H Q
def jG(T:Tx K mg):∅ 6 819 ["field","in_choice"] iW:=by
 show(T.df 20 O).okA YM ?_;intro 1 hr h;let(v,f,c,O,hF,hk,q):=h;show{_,AW (qi (Dn<|BN (qB (BR K O) T.Bw Bq<|Cv (Cb (pv 0) O) (Yl T.bA UY)))<|qr ER)<|AY (qi (PW.pt<|FT (BN<|Cb (pv 0) O) (Fu<|BN (pv 1)))<|qr ER) (AY (qi (BN<|qD (@fS P w K mg base T) hr T.TF (Cv (Cb (pv 0) O)<|Cb (pv 0) O))<|qr ER)<|AY (qi (PW.pt<|Jf (BN<|Cb (pv 0) O) (Jf (BN<|pv 1)<|HX (Dn<|BN (Fq (P:=P) (w:=w) (K:=K) (mg:=mg) (base:=base) (k:=1) O O O O O (Cb (pv 0) O) (hr.mono Aa) ES))))<|qr ER) (AY (qi (PW.pt<|FT (BN<|qB (BR K O) T.Bw Bq (Cv (Cb (pv 0) O)<|Sk T.QN)) (Fu<|Dn (BN<|qD (@Ha P w K mg base T) hr T.GT (CK<|Cb (pv 0) O))))<|qr ER)<|qr (Wc (P:=P) (w:=w) (K:=K) (mg:=mg) (base:=base) (k:=4) O O O O O (Cb (pv 0) O) (hr.mono Aa) ES<|CK (Cb (pv 0) O)))),?_};have(a,dx,n,z,k,m,d,O,ha,h1,h2,h3,h4,h5):=hF;let(num,nam,kind,must,dfl):=f;show{_,O,a,_,dx,_,_,O,ha,T.CJ,T.Hl,O,m,.ty "bool",_,_,_,O,Th.ty h4,O,yC T must,_,O,?_};let stop:=λe=>by
  have:=q H λ_ _ e=>e;unfold OH at this;rw[show Jo (Fx.mk num nam kind must dfl).must=ge from e,Dx]at this;show this
 cases must with
 |bl b=>
  obtain rfl:m=V.bl b:=h4;let e0:OH ⟨num,nam,kind,.bl b,dfl⟩ c=(!(b&&c) && (FI kind dfl|| (!(b|| (c|| !LM kind)) && (!(Nj kind&& !DR dfl) &&EM kind dfl)))):=rfl;rw[e0]at q;show BW {λσ' H'=>σ'=[Y (.ref a),Y<|.bl c]/\H=H'/\(b&&c)=ge,?_,?_}
  ·show{_,O,a,_,dx,_,_,O,ha,T.CJ,T.Hl,O,_,O,?_};cases b with
   |false=>show BW {(O),O,O}
   |true=>
    show CP {_,O,_,O,?_};cases c with|false=>show BW {(O),O,O}|true=>show CP<|q H λ_ _ e=>e
  rintro σ' H' ⟨rfl,rfl,a9⟩;rw[a9,Bool.not_false,CQ]at q;show BV (λσ' H'=>σ'=[Y (.ref a),Y<|.bl c]/\Bd H H'/\FI kind dfl=ge) ?_ ?_
  ·show{_,O,a,_,dx,_,_,O,ha,T.CJ,T.Ei,O,_,O,a,_,dx,_,_,O,ha,T.CJ,T.Fp,O,k,d,kind,dfl,O,hk,h3,h5,λH1 s1=>{_,O,?_}};cases hb:FI kind dfl with
   |true=>
    rw[hb,Bool.true_or]at q;show CP<|q _ s1
   |false=>show BW {(O),s1,O}
  rintro σ' H1 ⟨rfl,s1,hb⟩;rw[hb,NR]at q;let D:=s1 _ _ ha;let a3:=h3.sm<|Sm.of s1;have(ka,kx,fs,O,U,a1):=a3.ins hk.isK;show BV (λσ' H'=>σ'=[Y (.ref a),Y<|.bl c]/\H1=H'/\(b|| (c|| !LM kind))=ge) ?_ ?_
  ·show{_,O,a,_,dx,_,_,O,D,T.CJ,T.Hl,O,_,O,?_};let no: (b|| (c|| !LM kind))=Z->Q (.bl ge) H1:=λe=>by
    have:=q H1 s1;rw[e,Bool.not_true,Dx]at this;show this
   cases b with
   |true=>show CP<|no O
   |false=>
    show BW {_,O,_,O,?_};cases c with
    |true=>show CP<|no O
    |false=>
     show BW {_,O,a,_,dx,_,_,O,D,T.CJ,T.Ei,O,ka,_,kx,fs,_,O,U,a1 _ Aa Aa Aa,vA T hk,_,O,_,O,?_};cases hp:LM kind with|true=>show BW {(O),O,O}|false=>show CP (no<|by rw[hp];rfl)
  rintro σ' H2 ⟨rfl,rfl,hn⟩;rw[hn,Bool.not_false,CQ]at q;show BV (λσ' H'=>σ'=[Y (.ref a),Y<|.bl c]/\Bd H H'/\(Nj kind&& !DR dfl)=ge) ?_ ?_
  ·have(t,ty,k0,k1,k2,k3,k4,k5,k6,k7):=gq T hk.may a3;let e5:kind.isOf 5=Nj kind:=by cases kind <;> rfl
   rw[e5]at k5;show{_,O,a,_,dx,_,_,O,D,T.CJ,T.Ei,O,_,.ref 532,_,_,_,O,ty,O,k5,_,O,?_};cases ht:Nj kind with
   |false=>show BW {(O),s1,O}
   |true=>
    show CP {_,O,a,_,dx,_,_,O,D,T.CJ,T.Fp,O,d,dfl,O,(Th.sm (Sm.of s1) _ _ h5),λH3 j=>{_,O,?_}};cases a8:DR dfl with
    |true=>show BW {O,s1.trans j,O}
    |false=>
     have:=q H3<|s1.trans j;rw[ht,a8]at this;show CP this
  rintro σ' H3 ⟨rfl,j,ht⟩;rw[ht,Bool.not_false,CQ]at q;let(ka,kx,fs,e,U,a1):=(h3.sm<|Sm.of j).ins hk.isK;show{_,O,a,_,dx,_,_,O,j _ _ ha,T.CJ,T.Ei,O,ka,_,kx,fs,_,e,U,a1 _ Aa Aa Aa,vz T hk,_,O,a,_,dx,_,_,O,j _ _ ha,T.CJ,T.Fp,O,_,d,dfl,O,h3.sm<|Sm.of j,Th.sm (Sm.of j) _ _ h5,λH4 s4=>q _<|j.trans s4}
 |_=>show CP<|stop O
def KN:Ex->Kx|.fld f=>f.kind|.thing _=>.bare
def uA:Ex->Dt|.fld f=>f.must|.thing _=>.non
def Lw(e:Ex):Bool:=lz<|uA e
def mw(ws:List (AO×Int)):Kx->Int|.form (.str z)=>(TK ws z).getD 0|_=>1
def Hc(ws:List (AO×Int))(e:Ex):Int:=mw ws<|KN e
def cz:List Int->Int|[]=>0|[x]=>x|x::y::r=>min x<|cz (y::r)
def mh:∀{l:List Int} {a:Int},a∈l->cz l<=a
 |[x],a,h=>by rw[AN.mp h];show Int.le_refl _
 |x::y::r,a,h=>by
  rcases AM.mp h with rfl|h;·show Int.min_le_left ..
  show Int.le_trans (Int.min_le_right ..)<|mh h
def Rq:∀{l:List Int},l≠[]->cz l∈l
 |[x],_=>AN.mpr O
 |x::y::r,_=>by
  change min x (cz (y::r))∈x::y::r;let j:cz (y::r)∈y::r:=Rq (by simp)
  grind
def mi(h1:M∈l)(h2:∀a∈l,M<=a):M=cz l:=by
 let a:=mh h1;let b:=h2 _ (Rq (l:=l) λe=>by rw[e]at h1;cases h1)
 lia
def EL(ws:List (AO×Int))(c:Bool)(es:List Ex):Int:=if c then 1+cz (es.map<|Hc ws)else 1+ ((es.filter Lw).map<|Hc ws).sum
def Kj{D F:Type}(l:List D)(p:D->Bool)(f:D->F)(j:Nat->Bool)(z:Nat->F)(hp:∀i d,l[i]?=Y d->j i=p d)(hf:∀i d,l[i]?=Y d->z i=f d): ((Bg l.length).filter j).map z=(l.filter p).map f:=by
 let key:∀n,n<=l.length->((Bg n).filter j).map z=((l.take n).filter p).map f:=by
  intro n;induction n with
  |zero=>intro _;rfl
  |succ n ih=>
   intro hn;let hx:l[n]?=Y (l[n]' ()):=AA ();rw[List.range_succ,Ew,Bh,ih (),XZ,hx,Ew,Bh];show A3o (_++ ·) ?_;let U:=hp n _ hx;change(List.filter j [n]).map z=(List.filter p [l[n]' ()]).map f;cases h:p (l[n]' ())with|true=>rw[EU (by rw[U,h]),EU h];show A3o (·::[])<|hf n _ hx|false=>rw[Gs (by rw[U,h];show Bm),Gs (by rw[h];show Bm)];rfl
 have:=key l.length<|AU _;rw[Fk]at this;show this
def UR(ns:List Int):∀n,n<=ns.length->preSum (λi=>ns.getD i 0) n=(ns.take n).sum:=by
 intro n;induction n with
 |zero=>intro _;rfl
 |succ n j=>
  intro hn;let hx:ns[n]?=Y (ns[n]' ()):=AA ();change preSum _ n+ns.getD n 0=_;rw[j (),XZ,hx,List.sum_append,Bj,hx];simp
def iM{ns:List Int}{b:Int}(h:∀a∈ns,0<=a/\a<=b):0<=ns.sum/\ns.sum<=ns.length*b:=by
 induction ns with
 |nil=>show{Int.le_refl _,by simp}
 |cons a r j=>
  let h1:=h a<|Bl ..;let h2:=j λx hx=>h x<|Bi _ hx;rw[List.sum_cons,BD]
  grind
structure WOk(ws:List (AO×Int))(es:List Ex):Prop where
 fld:∀e∈es,zc e=Z
 kind:∀e∈es,Gg ws (KN e)=Z
 must:∀e∈es,Jo (uA e)=Z
 ws:∀p∈ws,0<=p.2/\p.2<=1000
def wW(h:TK ws z=Y n): (z,n)∈ws:=by
 unfold TK at h;let(p,hp,O):=Ce.mp h
 grind
def ub: (0:Int)<=1/\(1:Int)<=1000:=by decide
def cD(h:WOk ws es)(D:e∈es):0<=Hc ws e/\Hc ws e<=1000:=by
 let j:=h.kind e D;unfold Hc;cases hx:KN e with
 |form d=>
  rw[hx]at j;cases d with
  |str z=>
   change 0<= (TK ws z).getD 0/\(TK ws z).getD 0<=1000;cases hw:TK ws z with|none=>show{(Aa),Aa}|some n=>show h.ws _<|wW hw
  |_=>show ub
 |_=>show ub
inductive io(vs:List V)(H:Hp)(Q:VK):Prop|mk (v wv f ws:_) (_:vs=[v,wv]) (_:XG H f v) (_:WD H ws wv) (_:Gg ws f.kind=true) (_:Q (.int<|mw ws f.kind) H)
def iV:Sp:=λvs H Q _=>io vs H Q
inductive kD(vs:List V)(H:Hp)(Q:VK):Prop|mk (v wv g es ws:_) (_:vs=[v,wv]) (_:NB H g v) (_:g.fields=some es) (_:WD H ws wv) (_:WOk ws es) (_:es.length<40) (_: (g.choice=true->es≠[])) (_:∀H',Bd H H'->Q (.int<|EL ws g.choice es) H')
def oh:Sp:=λvs H Q _=>kD vs H Q
def M9: ((Ah:List AO) ++ (["weights"]:List AO)).Nodup:=⋯
def jF(T:Tx K mg):∅ 1 826 ["field","weights"] iV:=by
 show(T.df 21 O).okA Ul ?_;intro 1 hr h;let(v,wv,f,ws,O,hF,(wa,O,hw),hk,q):=h;show{_,AW (qi (BN<|qB (BR K O) T.Bw Bq (Cv (Cb (pv 0) O)<|Sk T.OW))<|qr (Cr (Ev (DH Aa _) hr.units) (pv 1) (Cb (Cb (pv 0) O) O) λ_ _=>rfl))<|qr AF,?_};have(a,dx,n,z,k,m,d,O,ha,h1,h2,h3,h4,h5):=hF;have(t,ty,k0,k1,k2,k3,k4,k5,k6,k7):=gq T (aH hk).may h3;show{_,O,a,_,dx,_,_,O,ha,T.CJ,T.Ei,O,k,.ref 645,_,_,_,O,ty,O,k7,_,O,?_};let(num,nam,kind,must,dfl):=f;cases kind with
 |form d'=>
  let D: (DR d'&&WQ ws d')=true:=hk;rw[AB]at D;let(U,O):=Ow D.1;have(ka,kx,u,O,a2,a1):=h3;let(O,_):=a1;let(nn,hn):=Option.isSome_iff_exists.mp<|D.2;show CP {_,O,_,O,a,_,dx,_,_,O,ha,T.CJ,T.Ei,O,ka,_,kx,_,_,O,a2,T.Hm,T.HI,O,wa,.int nn,O,?_,?_}
  ·have:=Ic.k (k:=.inr U) hw;rw[iG,hn]at this;show this
  rw[show mw ws (Fx.mk num nam (.form<|.str U) must dfl).kind=nn by change(TK ws U).getD 0=nn;rw[hn];rfl]at q;show q
 |_=>show BW q
def av(T:Tx K mg):∅ 2 831 Ag oh:=by
 let G:=@jF P w K mg base T;show(T.df 22 O).okA VN ?_;intro _ _ _ _ H _ Q _ hr h X_ D_;have(v,wv,g,es,ws,O,(a,dx,z,f,gl,O,ha,hn,hf,hl),hg,hw,hok,hz,c4,q):=h;let fc:=SY T g.choice;rw[hg]at hf;have(p,xs,O,hp,he):=hf;show{_,AW (qi (BN<|Fq (P:=P) (w:=w) (K:=K) (mg:=mg) (base:=base) (k:=1) O O O O O (pv 0) (hr.mono Aa) ES)<|qr (Bb CS AF<|qB (Qb O) T.zZ vK (CK<|Re Ah ["weights"] [1] (.cons O (.inl O) O .nil) (CY<|Cb (pv 0) O) (λC s_ H_ fp=>BQ (i:=0) M9 O (Cd O)<|CV O) (λC s_ H_ fp=>qD G hr T.Nr<|Cv (pv 0) (pv 1)))))<|qr (Bb CS AF<|qB (Qa O) T.zX vI (CK<|qp Ah ["weights"] [1] (.cons O (.inl O) O .nil) (CY<|Cb (pv 0) O) (λC s_ H_ fp=>BQ (i:=0) M9 O (Cd O)<|CV O) (λC s_ H_ fp=>Rg<|BN (Nd K O (pv 0) O)) (λC s_ H_ fp=>qD G hr T.Nr<|Cv (pv 0) (pv 1)))),?_};let a3:=he.length;let one:∀(j:Nat) (y:V) (H2:Hp),Bd H H2->xs[j]?=Y y->∃f,es[j]?=Y (.fld f)/\XG H2 f y/\Gg ws f.kind=Z/\Jo f.must=true:=λj y H2 s2 hy=>by
  let(e,hj,a9):=Gf he j y hy;let hm:=AL hj;let h1:=hok.fld e hm;cases e with|thing d=>cases h1|fld f=>show{f,hj,iq.sm (Sm.of s2) (e:=.fld f) a9,hok.kind _ hm,hok.must _ hm}
 show{_,O,a,_,dx,_,_,O,ha,O,RJ T g.choice,_,O,_,O,?_};cases hc:g.choice with
 |true=>
  rw[hc]at q;show CP {_,O,a,_,dx,_,_,O,ha,fc.cl,fc.n2,O,p,O,{_,BX.of hp},Dg (Wk.list<|BX.of hp) () (λj=>.int<|match es[j]? with|some e=>Hc ws e|none=>0) (λj y hy H2 R s2 hR=>?_) λD H2 hD s2 e2=>?_};·have(f,hj,hF,hk,_):=one j y H2 s2 hy;let U:=hR H2 λ_ _ e=>e;rw[hj]at U;show{Sub.set O,_,O,_,O,y,wv,f,ws,O,hF,hw.sm<|Sm.of s2,hk,U}
  let e4:H2 D=Y (.lst<|(es.map<|Hc ws).map V.int):=by rw[e2,<-a3,Kq es (λe=>V.int<|Hc ws e) _ (λi d hd=>by rw[hd]),AX];rfl
  show{D,_,O,BX.of e4,?_,λM h1 h2=>?_};·grind
  show{_,_,O,O,?_};rw[mi h1 h2];show q _ s2
 |false=>
  rw[hc]at q;show BW {_,O,a,_,dx,_,_,O,ha,fc.cl,fc.n2,O,p,O,{_,BX.of hp},Ku (Wk.list<|BX.of hp) () (λj=>match es[j]? with|some e=>Lw e|none=>ge) (λj=>.int<|match es[j]? with|some e=>Hc ws e|none=>0) (λj y hy H2 R s2 hR hN=>?_) λD H2 hD s2 e2=>?_}
  ·have(f,hj,hF,hk,hb):=one j y H2 s2 hy;let U:=hR H2 λ_ _ e=>e;let a6:=hN H2 λ_ _ e=>e;rw[hj]at U a6;let b5:=hF;have(a',b8,n',z',k',m',d',O,b3,h1,h2,h3,h4,h5):=b5;show{Sub.set O,_,O,a',_,b8,_,_,O,b3,T.CJ,T.Hl,O,?_};cases hm:f.must with
   |bl b=>
    rw[hm]at h4;obtain rfl:m'=V.bl b:=h4;let em:Lw (.fld f)=b:=by change lz f.must=b;rw[hm];rfl
    show{_,O,?_};cases b with|true=>show CP {_,O,_,O,_,wv,f,ws,O,hF,hw.sm<|Sm.of s2,hk,U em}|false=>show BW<|a6 em
   |_=>rw[hm]at hb;cases hb
  let e4:H2 D=Y (.lst<|((es.filter Lw).map<|Hc ws).map V.int):=by rw[e2,<-a3,Kj es Lw (λe=>V.int<|Hc ws e) _ _ (λi d hd=>by rw[hd]) (λi d hd=>by rw[hd]),AX];rfl
  let hb:∀x∈ (es.filter Lw).map (Hc ws),0<=x/\x<=1000:=λx hx=>by
   let(e,b2,O):=AS.mp hx;show cD hok (Eg.mp b2).1
  let c5: ((es.filter Lw).map<|Hc ws).length<=40:=by grind
  show{D,_,O,e4,λj hj=>{?_,?_},_,_,O,O,?_};·let hx:=AA hj;rw[Bj,hx];have:=hb _<|AL hx;change InLong (((es.filter Lw).map<|Hc ws)[j]'hj);show{(),()}
  ·rw[UR _ _ ()];let hs:=iM (ns:=((es.filter Lw).map<|Hc ws).take<|j+1) (b:=1000) λx hx=>hb x<|Cg hx;let c6: (((es.filter Lw).map<|Hc ws).take<|j+1).length<=40:=by rw[BG];lia
   show{(),()}
  rw[UR _ _ (AU _),Fk];show q _ s2
inductive Ox where
 |form (g:Gx)|bare|thing (d:Dt)
def Ox.may:Ox->Prop|.form g=>∀es,g.fields=Y es->∀e∈es,Ex.may e|.bare=>True|.thing d=>∀b,d≠ .bl b
def Ox.isForm:Ox->Bool|.form _=>Z|_=>ge
def Ox.few:Ox->Prop|.form g=>(∀es,g.fields=Y es->es.length<40)/\g.gone.length<40|_=>True
def rB(H:Hp):Ox->V->Prop|.form g,v=>NB H g v|.bare,v=>∃a dx fs,v= .ref a/\H a=Y (.ins 732 dx fs)|.thing d,v=>Th H d v
def rB.sm(s:Sm H H'):∀{o:Ox} {v:V},rB H o v->rB H' o v|.form _,_,h=>NB.sm s h|.bare,_,⟨a,dx,fs,e,h⟩=>{a,dx,fs,e,s _ _ h O}|.thing d,v,h=>Th.sm s d v h
def qv(c:Bool):Ex->Bool|.fld f=>OH f c|.thing _=>ge
def IQ(ws:List (AO×Int))(c:Bool)(es:List Ex)(gone:List Int):AO:=if Fa es=ge then "field"
 else if CW es gone=ge then "number"
 else if (es.all λe=>Gg ws<|KN e)=ge then "kind"
 else if es.all (qv c)=ge then "default"
 else if EL ws c es>100 then "great" else ""
def GC(ws:List (AO×Int)):Ox->AO|.form g=>if (DR g.nam&& !WQ ws g.nam)=ge then "name" else if HJ g=ge then "many" else IQ ws g.choice (g.fields.getD []) g.gone|_=>"form"
def A0v(ws:List (AO×Int)):Prop:=∀p∈ws,0<=p.2/\p.2<=1000
inductive qV(vs:List V)(H:Hp)(Q:VK):Prop|mk (v wv o ws:_) (_:vs=[v,wv]) (_:rB H o v) (_:Ox.may o) (_:Ox.few o) (_:WD H ws wv) (_:A0v ws) (_:∀H',Bd H H'->Q (.str<|GC ws o) H')
def sJ:Sp:=λvs H Q _=>qV vs H Q
def A1S: ((Ah:List AO) ++ (["form"]:List AO)).Nodup:=⋯
def az(h:Fa es=Z):∀e∈es,zc e=true:=λe j=>by
 unfold Fa at h;rw[AB]at h;have:=By.mp h.1 e j;cases e with|fld f=>rfl|thing d=>cases this
def aZ{es:List Ex}{c:Bool}(h:es.all (qv c)=Z):∀e∈es,Jo (uA e)=true:=λe j=>by
 have:=By.mp h e j;cases e with
 |thing d=>cases this
 |fld f=>
  let h2:OH f c=true:=this;unfold OH at h2;rw[AB]at h2;show h2.1
def A20(T:Tx K mg)(hm:o.may)(h:rB H o v):∃t b1 b2,IV K H v t/\Bo K t (.ref 746)=Y b1/\Bo K t (.ref 765)=Y b2/\(b1||b2)=o.isForm:=by
 cases o with
 |form g=>
  have(a,dx,z,f,l,O,ha,_):=h;cases hc:g.choice with|false=>rw[hc]at ha;show{_,_,_,(T.rj 10 O) ha,(T.q 66 O),(T.q 67 O),O}|true=>rw[hc]at ha;show{_,_,_,(T.rj 11 O) ha,(T.q 68 O),(T.q 69 O),O}
 |bare=>let(a,dx,fs,O,ha):=h;show{_,_,_,(T.rj 9 O) ha,(T.q 64 O),(T.q 65 O),O}
 |thing d=>
  cases d with|bl b=>show A3p O<|hm b|non=>show{_,_,_,Th.ty h,(T.qt 18 O),(T.qt 19 O),O}|int i=>show{_,_,_,Th.ty h,(T.qt 22 O),(T.qt 23 O),O}|str z=>show{_,_,_,Th.ty h,(T.qt 20 O),(T.qt 21 O),O}|lst l=>show{_,_,_,Th.ty h,(T.qt 24 O),(T.qt 25 O),O}|dct=>show{_,_,_,Th.ty h,(T.qt 26 O),(T.qt 27 O),O}
def uo(T:Tx K mg):∅ 7 836 Ag sJ:=by
 let(_,hM):=(T.ui 13 O);show(T.df 23 O).okA eZ ?_;intro _ _ _ s H _ Q _ hr h _ _;let(v,wv,o,ws,O,ho,hm,a1,hw,d8,q):=h;show{_,AY (qi (Dn<|BN (qB (RL K O) T.Bw Bq<|Cv (pv 0) (Cn<|Cv (Sk T.ZT) (Sk T.ZU))))<|qr AE)<|AY (qi (PW.pt<|Jf (Dn<|BN (qD (@Ha P w K mg base T) hr T.GT<|CK (Cb (pv 0) O))) (HX<|K0 (tW (Ny hr) (Cb (pv 0) O)<|pv 1) O))<|qr AE) (AY (qi (Dn<|BN (qD (@Zl P w K mg base T) hr (T.d1 14 O λ_ _ _ _ _ _ _=>rfl)<|CK (pv 0)))<|qr AE)<|AY (qi (Dn<|BN (qD (@uf P w K mg base T) hr (T.d1 15 O λ_ _ _ _ _ _ _=>rfl)<|CK (Cb (pv 0) O)))<|qr AE) (AY (qi (Dn<|BN (qD (@fO P w K mg base T) hr (T.d1 16 O λ_ _ _ _ _ _ _=>rfl)<|CK (pv 0)))<|qr AE)<|AY (qi (Dn<|BN (qB (Fy O) T.QK Nn<|CK (Re Ah ["weights"] [1] (.cons O (.inl O) O .nil) (CY<|Cb (pv 0) O) (λC s_ H_ fp=>BQ (i:=0) M9 O (Cd O)<|CV O) λC s_ H_ fp=>qD (@yl P w K mg base T) hr (T.d2 18 O λ_ _ _ _ _ _ _ _=>rfl)<|Cv (Nd K O (pv 0) O) (pv 1))))<|qr AE) (AY (qi (Dn<|BN (qB (Fy O) T.QK Nn<|CK (Re Ah ["form"] [0] (.cons O (.inl O) O .nil) (CY<|Cb (pv 0) O) (λC s_ H_ fp=>BQ (i:=0) A1S O (Cd O)<|CV O) λC s_ H_ fp=>qD (@jG P w K mg base T) hr (T.d2 20 O λ_ _ _ _ _ _ _ _=>rfl)<|Cv (pv 0) (Fq (P:=P) (w:=w) (K:=K) (mg:=mg) (base:=base) (k:=1) O O O O O (pv 1) (hr.mono Aa) ES))))<|qr AE)<|AY (qi (qc TR (qD (@av P w K mg base T) hr T.NZ<|Cv (pv 0) (pv 1))<|fD hM)<|qr AE) (qr AE)))),?_};show BV (λσ' H'=>σ'=[Y v,Y wv]/\Bd H H'/\o.isForm=Z) ?_ ?_
 ·show{_,O,zl 2,λp hp=>?_};let s1:=AZ (H:=H) (u:=.tup [.ref 746,.ref 765]) hp;have(t,b1,b2,ty,h1,h2,hb):=A20 T hm<|ho.sm (Sm.of s1);show{v,p,t,_,[746,765],O,Ax,ty,yD h1 h2,_,O,?_};rw[hb];cases hf:o.isForm with
  |true=>show BW {(O),s1,O}
  |false=>
   have:GC ws o="form":=by cases o with|form g=>cases hf|bare=>rfl|thing d=>rfl
   rw[this]at q;show CP<|q _ s1
 rintro σ' H1 ⟨rfl,s1,hf⟩;cases o with
 |bare=>cases hf|thing d=>cases hf|form g=>
 let e0:=ho;have(a,dx,z,f,gl,O,ha,hn,d0,hgl):=e0;let fc:=SY T g.choice;let c2:∀{H':Hp},Bd H H'->NB H' g (.ref a):=λs=>NB.sm (Sm.of s) ho;let q':∀H',Bd H H'->Q (.str<|if (DR g.nam&& !WQ ws g.nam)=ge then "name" else if HJ g=ge then "many" else IQ ws g.choice (g.fields.getD []) g.gone) H':=q
 show BV (λσ' H'=>σ'=[Y (.ref a),Y wv]/\Bd H H'/\(DR g.nam&& !WQ ws g.nam)=Z) ?_ ?_
 ·show{_,O,a,_,dx,_,_,O,s1 _ _ ha,fc.cl,fc.n1,O,z,g.nam,O,Th.sm (Sm.of s1) _ _ hn,λH2 s2=>{_,O,?_}};let a4:=s1.trans s2;cases hnm:DR g.nam with
  |false=>
   have:=q' _ a4;rw[hnm,Dx,A3n O]at this;show CP this
  |true=>
   let(zz,c7):=Ow hnm;rw[c7]at hn;let(O,_):=hn;let(wa,O,d9):=hw;show BW {_,O,a,_,dx,_,_,O,a4 _ _ ha,fc.cl,fc.n1,O,_,O,wa,_,O,Ic.k (k:=.inr zz)<|a4 _ _ d9,_,O,?_};rw[gu,show(TK ws zz).isSome=WQ ws g.nam by rw[c7];rfl];cases hi:WQ ws g.nam with
   |true=>
    have:=q' _ a4;rw[hnm,hi,A3n<|show(Z&& !Z)=ge from O]at this;show CP this
   |false=>show BW {(O),a4,O}
 rintro σ' H2 ⟨rfl,s2,hnm⟩;rw[hnm,A3m Aa]at q';show BV (λσ' H'=>σ'=[Y (.ref a),Y wv]/\Bd H H'/\HJ g=Z) ?_ ?_
 ·show{_,O,_,g,O,c2 s2,λes he=>JE (a1.1 es he) Aa,JE a1.2 Aa,_,O,?_};cases hsz:HJ g with
  |false=>
   have:=q' _ s2;rw[hsz,A3n O]at this;show CP this
  |true=>show BW {(O),s2,O}
 rintro σ' H3 ⟨rfl,s3,hsz⟩;rw[hsz,A3m Aa]at q';cases F:g.fields with
 |none=>unfold HJ at hsz;rw[F]at hsz;cases hsz|some es=>
 let b4:=hm es F;let U:=a1.1 es F;let e2:g.choice=Z->es≠[]:=λhc he=>by
  unfold HJ at hsz;rw[F,hc,he]at hsz;cases hsz
 rw[F]at d0 q';have(p,xs,O,hp,c1):=d0;let b5:=c1.length;let q2:∀H',Bd H H'->Q (.str<|IQ ws g.choice es g.gone) H':=q';unfold IQ at q2;show BV (λσ' H'=>σ'=[Y (.ref a),Y wv]/\Bd H H'/\Fa es=Z) ?_ ?_
 ·show{_,O,a,_,dx,_,_,O,s3 _ _ ha,fc.cl,fc.n2,O,p,xs,es,O,s3 _ _ hp,Es.sm (Sm.of s3) c1,b4,(),λH4 s4=>{_,O,?_}};cases hnd:Fa es with
  |false=>
   have:=q2 _<|s3.trans s4;rw[hnd,A3n O]at this;show CP this
  |true=>show BW {O,s3.trans s4,O}
 rintro σ' H4 ⟨rfl,s4,hnd⟩;rw[hnd,A3m Aa]at q2;let a5:=az hnd;show BV (λσ' H'=>σ'=[Y (.ref a),Y wv]/\Bd H H'/\CW es g.gone=Z) ?_ ?_
 ·show{_,O,_,g,es,O,c2 s4,F,a5,U,a1.2,λH5 s5=>{_,O,?_}};cases b9:CW es g.gone with
  |false=>
   have:=q2 _<|s4.trans s5;rw[b9,A3n O]at this;show CP this
  |true=>show BW {O,s4.trans s5,O}
 rintro σ' H5 ⟨rfl,s5,b9⟩;rw[b9,A3m Aa]at q2;let b3:∀(j:Nat) (y:V) (H':Hp),Bd H H'->xs[j]?=Y y->∃f,es[j]?=Y (.fld f)/\XG H' f y:=λj y H' s' hy=>by
  let(e,hj,d6):=Gf c1 j y hy;let h1:=a5 e<|AL hj;cases e with|thing d=>cases h1|fld f=>show{f,hj,iq.sm (Sm.of s') (e:=.fld f) d6}
 show BV (λσ' H'=>σ'=[Y (.ref a),Y wv]/\Bd H H'/\(es.all λe=>Gg ws<|KN e)=Z) ?_ ?_
 ·show{_,O,a,_,dx,_,_,O,s5 _ _ ha,fc.cl,fc.n2,O,p,O,{_,BX.of<|s5 _ _ hp},Dg (Wk.list<|BX.of (s5 _ _ hp)) () (λj=>.bl<|match es[j]? with|some e=>Gg ws (KN e)|none=>ge) (λj y hy H6 R s6 hR=>?_) λD H6 hD s6 e6=>?_}
  ·let c5:=s5.trans s6;let(f,hj,hF):=b3 j y H6 c5 hy;rw[hj]at hR;let e3:=b4 _<|AL hj;have(a',f1,n',z',k',m',d',O,e8,h1,h2,h3,h4,h5):=hF;show{Sub.set O,_,O,a',_,f1,_,_,O,e8,T.CJ,T.Ei,O,_,O,k',wv,f.kind,ws,O,e3,h3,hw.sm<|Sm.of c5,hR}
  show{D,(Bg xs.length).map λj=>(match es[j]? with|some e=>Gg ws (KN e)|none=>ge),O,by rw[AX];show e6,_,O,?_};rw[<-b5,Kr es (λe=>Gg ws<|KN e) _ (λi d hd=>by rw[hd])];cases hA:es.all λe=>Gg ws (KN e)with
  |false=>
   have:=q2 _<|s5.trans s6;rw[hA,A3n O]at this;show CP this
  |true=>show BW {O,s5.trans s6,O}
 rintro σ' H6 ⟨rfl,s6,c9⟩;rw[c9,A3m Aa]at q2;let b6:=By.mp c9;show BV (λσ' H'=>σ'=[Y (.ref a),Y wv]/\Bd H H'/\es.all (qv g.choice)=Z) ?_ ?_
 ·show{_,O,a,_,dx,_,_,O,s6 _ _ ha,fc.cl,fc.n2,O,p,O,{_,BX.of<|s6 _ _ hp},Dg (Wk.list<|BX.of (s6 _ _ hp)) () (λj=>.bl<|match es[j]? with|some e=>qv g.choice e|none=>ge) (λj y hy H7 R s7 hR=>?_) λD H7 hD s7 e7=>?_}
  ·let c4:=s6.trans s7;let(f,hj,hF):=b3 j y H7 c4 hy;rw[hj]at hR;let e4:=aH (ws:=ws)<|b6 _ (AL hj);show{Sub.set O,_,O,_,O,a,_,dx,_,_,O,c4 _ _ ha,O,RJ T g.choice,_,O,y,f,g.choice,O,hF,e4,hR}
  show{D,(Bg xs.length).map λj=>(match es[j]? with|some e=>qv g.choice e|none=>ge),O,by rw[AX];show e7,_,O,?_};rw[<-b5,Kr es (qv g.choice) _ (λi d hd=>by rw[hd])];cases hA:es.all (qv g.choice)with
  |false=>
   have:=q2 _<|s6.trans s7;rw[hA,A3n O]at this;show CP this
  |true=>show BW {O,s6.trans s7,O}
 rintro σ' H7 ⟨rfl,s7,d3⟩;rw[d3,A3m Aa]at q2;show BV (λσ' H'=>σ'=[Y (.ref a),Y wv]/\Bd H H'/\¬EL ws g.choice es>100) ?_ ?_
 ·show{_,O,_,O,_,wv,g,es,ws,O,c2 s7,F,hw.sm<|Sm.of s7,{a5,b6,aZ d3,d8},U,e2,λH8 s8=>{_,_,O,O,_,O,Hs (λh=>?_) λh=>?_}}
  ·have:=q2 _<|s7.trans s8;rw[A3n (A3l h)]at this;show this
  show{O,s7.trans s8,λz=>h<|A3j z}
 rintro σ' H8 ⟨rfl,s8,d7⟩;rw[A3m d7]at q2;show q2 _ s8
def Di(h:n<=1000):n<=sizeLine:=GL<|DM h
def FO{x y:AO}{n m:Nat}(hx:x.length<=n)(j:y.length<=m): (x++y).length<=n+m:=by
 rw[bo]
 lia
def aj:∀p:Nat,p<=100->(AG<|bn (p:Int)).length<=3/\(p:Int).natAbs.log2<1920:=⋯
def Ud(H:Hp)(p:Int)(y:AO)(E:XK):Prop:=∀d (H':Hp),Bd H H'->H' d=Y (.xd [("place",.int p),("why",.str y)])->E (.ref 111) (Y d) H'
inductive Tg(vs:List V)(H:Hp)(Q:VK):Prop|mk (e:AH) (p:Nat) (y:AO) (_:vs=[.ref e,.int p,.str y]) (_:H e=some (TJ e 111 none)) (_:p<=100) (_:y.length<=100) (_:∀d (H':Hp),H d=none->(∀b o,b≠e->H b=some o->H' b=some o)->H' e=some (TJ e 111<|some d)->H' d=some (.xd [("place",.int p),("why",.str y)])->Q .non H')
def JM:Sp:=λvs H Q _=>Tg vs H Q
def SX{K:Az}{l:AH}{xs:List V}{g:TG}{tb:TS}{D:UE}{σ:L2.St}{H:Hp}(Pv:Nat->L2.St->Hp->Prop)(h0:Pv 0 σ H)(hq:∀i σ H,i<=xs.length->Pv i σ H->BX K H l xs)(hs:∀i x T σ H,xs[i]?=Y x->Pv i σ H->H T=S->g (.ref T) σ (upd H T<|.tup [.int (i:Nat),x]) λj H2=>tb {D with nx:=Pv<|i+1,ct:=Pv<|i+1,bk:=D.nx} j H2)(hd:∀σ H,Pv xs.length σ H->D.nx σ H):
  ∃W:Nat->Nat->L2.St->Hp->Prop,(∃m,W 0 m σ H)/\∀i m σ H,W i m σ H->((kM K l).stop i H/\D.nx σ H)\/((kM K l).go i H/\∃N:L2.St->Hp->Prop,(∀σ' H',N σ' H'->∃F,F<m/\W (i+1) F σ' H')/\∀x H',(kM K l).yld i H x H'->g x σ H' λj H2=>tb {D with nx:=N,ct:=N,bk:=D.nx} j H2):=by
 show{λi m σ H=>m=xs.length - i/\i<=xs.length/\Pv i σ H,{xs.length,by simp,BY _,h0},?_};rintro i m σ H ⟨rfl,hi,p⟩;let U:=hq i σ H hi p;by_cases z:i<xs.length
 ·show .inr {{xs,xs[i],U,AA z},Pv<|i+1,λσ' H' p'=>{xs.length - (i+1),(),O,z,p'},λx H' y=>?_};let(T,x,O,hT,O,hc):=y
  grind
 let e:i=xs.length:=()
 subst e;show .inl {{(xs),U,O},hd σ H p}
def uz:Ox->AO|.form g=>bJ g.nam|_=>""
def bE(ws:List (AO×Int)):Ox->Int|.form g=>EL ws g.choice<|g.fields.getD []|_=>0
def cN:Ox->Bool|.form g=>g.choice|_=>ge
def iw:List Ox->List (AO×Int)->Nat->(Nat×AO) ⊕ List (AO×Int)|[],ws,_=>.inr ws|o::r,ws,p=>if GC ws o="" then iw r (ws++[(uz o,bE ws o)]) (p+1)else .inl (p,GC ws o)
def Ir(os:List Ox): (Nat×AO) ⊕ List (AO×Int):=match iw os [] 0 with
 |.inl e=>.inl e|.inr ws=>if (os.getLast?.map cN).getD ge then .inl (os.length - 1,"head")else .inr ws
def nK(os:List Ox)(H:Hp)(Q:VK)(E:XK):Prop:=match Ir os with
 |.inl (p,y)=>∀H',Bd H H'->Ud H' (p:Nat) y E|.inr ws=>∀a H',Bd H H'->H' a=Y (.dK<|wK ws)->Q (.ref a) H'
inductive wt(vs:List V)(H:Hp)(Q:VK)(E:XK):Prop|mk (l xs os:_) (_:vs=[.ref l]) (_:H l=some (.lst xs)) (_:Paired (rB H) os xs) (_: (∀o∈os,Ox.may o/\Ox.few o)) (_:0<os.length) (_:os.length<=8) (_:nK os H Q E)
def lF:Sp:=λvs H Q E=>wt vs H Q E
def qk(ws:List (AO×Int))(o:Ox): (GC ws o).length<=100:=by
 cases o with
 |form g=>
  change(if _ then _ else _:AO).length<=100
  split;·decide+kernel
  split;·decide+kernel
  unfold IQ;split;·decide+kernel
  split;·decide+kernel
  split;·decide+kernel
  split;·decide+kernel
  split;·decide+kernel
  decide+kernel
 |bare=>change "form".length<=100;decide+kernel|thing d=>change "form".length<=100;decide+kernel
def Xc(h:GC ws o=""):∃g es z,o= .form g/\g.fields=Y es/\g.nam= .str z/\Co z=Z/\TK ws z=S/\HJ g=Z/\Fa es=Z/\CW es g.gone=Z/\(es.all λe=>Gg ws<|KN e)=Z/\es.all (qv g.choice)=Z/\EL ws g.choice es<=100:=by
 let ne:∀{a b:AO},a=b->a≠b->False:=λh n=>n h;cases o with
 |bare=>show(ne (show("form" :AO)="" from h) Ab).elim|thing d=>show(ne (show("form" :AO)="" from h) Ab).elim
 |form g=>
  let h': (if (DR g.nam&& !WQ ws g.nam)=ge then "name" else if HJ g=ge then "many" else IQ ws g.choice (g.fields.getD []) g.gone:AO)="":=h
  by_cases c1: (DR g.nam&& !WQ ws g.nam)=ge;·rw[A3n c1]at h';show(ne h' Ab).elim
  rw[A3m c1]at h';by_cases c2:HJ g=ge;·rw[A3n c2]at h';show(ne h' Ab).elim
  rw[A3m c2]at h';unfold IQ at h';by_cases c3:Fa (g.fields.getD [])=ge;·rw[A3n c3]at h';show(ne h' Ab).elim
  rw[A3m c3]at h';by_cases c4:CW (g.fields.getD []) g.gone=ge;·rw[A3n c4]at h';show(ne h' Ab).elim
  rw[A3m c4]at h';by_cases U: ((g.fields.getD []).all λe=>Gg ws<|KN e)=ge;·rw[A3n U]at h';show(ne h' Ab).elim
  rw[A3m U]at h';by_cases F: (g.fields.getD []).all (qv g.choice)=ge;·rw[A3n F]at h';show(ne h' Ab).elim
  rw[A3m F]at h';by_cases c7:EL ws g.choice (g.fields.getD []) >100;·rw[A3n c7]at h';show(ne h' Ab).elim
  let D:∀{b:Bool},¬b=ge->b=true:=λh=>by simpa using h
  let j:=D c1;rw[AB]at j;let(z,hz):=Ow j.1;cases hf:g.fields with
  |none=>have:=D c2;unfold HJ at this;rw[hf]at this;cases this
  |some es=>
   rw[hf]at c3 c4 U F c7;show{g,es,z,O,hf,hz,?_,?_,D c2,D c3,D c4,D U,D F,Int.not_lt.mp c7};·have:=j.1;rw[hz]at this;show this
   have:=j.2;rw[hz]at this;cases hw:TK ws z with
   |none=>rfl
   |some n=>
    let e:WQ ws (.str z)=true:=by change(TK ws z).isSome=Z;rw[hw];rfl
    grind
def iF(h:WOk ws es)(j:c=Z->es≠[]):0<=EL ws c es:=by
 unfold EL;cases c with
 |true=>
  change 0<=1+cz (es.map<|Hc ws);have:=Rq (l:=es.map<|Hc ws) λz=>j O<|LF.mp z;let(e,F,U):=AS.mp this;have:=cD h F
  lia
 |false=>
  change 0<=1+ ((es.filter Lw).map<|Hc ws).sum;have:=iM (ns:=(es.filter Lw).map<|Hc ws) (b:=1000) λx hx=>by
   let(e,D,O):=AS.mp hx;show cD h (Eg.mp D).1
  lia
def lJ(h:HJ g=Z)(hf:g.fields=Y es):g.choice=Z->es≠[]:=λhc j=>by
 unfold HJ at h;rw[hf,hc,j]at h;cases h
def E6(h:TK ws z=S):La (wK ws) (.inr z) (.int n)=wK (ws++[(z,n)]):=by rw[tG _ (by rw[iG,h];rfl)];unfold wK;simp
def OE(o:Ox)(r:List Ox)(ws:List (AO×Int))(p:Nat):iw (o::r) ws p=if GC ws o="" then iw r (ws++[(uz o,bE ws o)]) (p+1)else .inl (p,GC ws o):=rfl
def mM:∀{os:List Ox} {ws j:List (AO×Int)} {p:Nat},iw os ws p= .inr j->∀o∈os,∃g,o= .form g
 |[],_,_,_,_,o,z=>A3p z<|Cw
 |a::r,ws,j,p,h,o,z=>by
  unfold iw at h;by_cases c:GC ws a=""
  ·rw[A3n c]at h;rcases AM.mp z with rfl|z
   ·let(g,_,_,e,_):=Xc c;show{(g),e}
   show mM h o z
  simp_all
def my{xs:List V}(h:0<xs.length):Yn xs (-1)=Y (xs[xs.length - 1]' ()):=by
 let e:C2 xs.length (-1)=Y (xs.length - 1):=by
  unfold C2
  grind
 unfold Yn
 grind
def Nw(T:Tx K mg):∅ 1 108 ["self","place","why"] JM:=by
 show(T.mf 0 O).okA Ur ?_;intro 1 hr h;let(e,p,y,O,he,hp,hy,q):=h;show{_,AW (DG<|fE O T.MP T.xb T.Ji (Cv (pv 0)<|al (Pe AE<|Pe (jw<|pv 2) (Pe AE<|Pe (jw<|pv 1) tJ))))<|AW (ce T.Ji (pv 0) (pv 1) O) (Cc<|ce T.Ji (pv 0) (pv 2) O),?_};let(U,j):=aj p hp;let l1: (Mb++ "no book: ").length<=100:=⋯
 let l2:=FO l1 hy;let l3: ((Mb++ "no book: " ++y) ++ " at form ").length<=300:=FO l2 (m:=100) Ab;let l4:=FO l3 U;show{_,O,_,O,Di (),_,O,.inl {_,O,Di (),_,O,Di (),_,O,Di (),_,O,.inr {_,O,j,_,O,Di (),Di (),e,_,_,O,he,zl 1,?_}}};show{_,O,_,O,e,O,T.kU,.inl {he,λd hd=>?_}};let D:d≠e:=λz=>by rw[z,he]at hd;cases hd
 show{_,O,_,O,e,O,T.A0,.inr {d,_,Ax,by rw[AT D];show Ax,by change 1<1000;decide,?_}};show q d _ hd (λb o hb z=>?_) ?_ ?_;·rw[AT (λF=>by rw[F,hd]at z;cases z),AT hb,AT (λF=>by rw[F,hd]at z;cases z)];show z
 ·rw[AT D.symm,Ax]
 rw[Ax];rfl
def Qz{H1:Hp}{p:Nat}{y:AO}{E:XK}(hp:p<=100)(hy:y.length<=100)(k:Ud H1 p y E):∀e,H1 e=S->JM (.ref e::[.int p,.str y]) (upd H1 e<|TJ e 111 S) (λv H2=>v= .non/\∃dx,H2 e=Y (TJ e 111 dx)/\E (.ref 111) dx (untr H2 e)) E0:=λe he=>by
 show{e,p,y,O,Ax,hp,hy,λd H' hd kp D U=>{O,Y d,D,?_}};let F:d≠e:=λz=>by rw[z,Ax]at hd;cases hd
 show k d _ (λb o z=>?_) (by rw[DF F];show U);let j:b≠e:=λz2=>by rw[z2,he]at z;cases z
 rw[DF j];show kp b o j (by rw[AT j];show z)
def yi(T:Tx K mg):EY P w K mg base (XC P w Z) 8 843 (EH K 843) ["forms"] lF:=by
 let GI:=@Nw P w K mg base T;show(T.df 24 O).okXA HK ?_;intro 1 hr h;let(l,xs,os,O,hl,ho,hm,h0,h8,q):=h;let a9:=ho.length;show{_,AW (qS 1 HK.nd fG)<|AY (JN PassesOwn.leaving O (Wb O T.Lg<|pv 0) (Op O (n:=2)<|EG (BQ (i:=2) HK.nd O<|Cd O) (EG (BQ (i:=3) HK.nd O<|Cd O) Lv))<|AY (qS 4 HK.nd<|qD (@uo P w K mg base T) hr (T.d2 23 O λ_ _ _ _ _ _ _ _=>rfl) (Cv (pv 3)<|pv 1)) (AW (qi (qc Ri (pv 4) AE)<|Cc (Mn O O T.MQ T.Ji GI (hr.mono Aa) T.KC KI<|Cv (pv 2) (pv 4)))<|Cc (UQ (Ny hr) (pv 1) (Cb (pv 3) O) (qD (@av P w K mg base T) hr T.NZ<|Cv (pv 3) (pv 1)) O))) (AW (qi (BN<|Fq (P:=P) (w:=w) (K:=K) (mg:=mg) (base:=base) (k:=1) O O O O O (MK (pv 0)<|lQ bI AF) (hr.mono Aa) ES)<|Cc (Mn O O T.MQ T.Ji GI (hr.mono Aa) T.KC KI<|Cv (Bb Wf (qB BU T.Ey Ds<|CK (pv 0)) AF) AE))<|qr (pv 1)),?_};show λwa b7=>?_;let s0:Bd H (upd H wa<|.dK []):=AZ b7;show BV (λσ' H'=>∃v2 v3 v4,σ'=[Y (.ref l),Y<|.ref wa,v2,v3,v4]/\Bd H H'/\∃ws,iw os [] 0= .inr ws/\H' wa=Y (.dK<|wK ws)) ?_ ?_
 ·show{_,O,l,O,{_,BX.of<|s0 _ _ hl},?_};show SX (xs:=xs) (λi σ' H'=>∃v2 v3 v4,σ'=[Y (.ref l),Y<|.ref wa,v2,v3,v4]/\Bd H H'/\∃ws,iw (os.drop i) ws i=iw os [] 0/\H' wa=Y (.dK<|wK ws)/\A0v ws/\ws.length=i) {S,S,S,O,s0,[],O,Ax,λp hp=>A3p hp Cw,O} (λi σ' H' _ h=>by let(_,_,_,_,s',_):=h;show BX.of<|s' _ _ hl) (λi x Tt σ' H1 hx h hT=>?_) λσ' H' h=>?_
  ·have(v2,v3,v4,O,s1,ws,U,j,a5,hwl):=h;let(o,a7,a6):=Gf ho i x hx;let hi:=(AQ.mp a7).1;let(b9,b0):=hm o<|AL a7;let ed:os.drop i=o::os.drop (i+1):=by
    rw[Ep hi];have:os[i]'hi=o:=by rw[AA hi]at a7;show AK a7
    rw[this]
   let s2:=s1.trans<|AZ (u:=.tup [.int i,x]) hT;let a1:upd H1 Tt (.tup [.int i,x]) wa=Y (.dK<|wK ws):=by rw[AT (Bp j hT)];show j
   show{Tt,_,O,GK.of Ax,O,_,_,O,_,_,O,O,?_};revert s2 a1;generalize upd H1 Tt (.tup [.int i,x])=H2;intro s2 a1;show BV (λσ' H'=>σ'=[Y (.ref l),Y<|.ref wa,Y<|.int i,Y x,Y<|.str (GC ws o)]/\Bd H H'/\H' wa=Y (.dK<|wK ws)) ({_,O,_,O,x,_,o,ws,O,a6.sm<|Sm.of s2,b9,b0,{(wa),O,a1},a5,λH3 s3=>{O,s2.trans s3,s3 _ _ a1}}) ?_;rintro σ' H3 ⟨rfl,s3,a8⟩;let D:iw (o::os.drop (i+1)) ws i=iw os [] 0:=by rw[<-ed];show U
   rw[OE]at D;show{_,O,O,_,O,?_};by_cases hf:GC ws o=""
   ·rw[A3n hf]at D;rw[hf,show(!decide (V.str ""=V.str ""))=ge from O];have(g,es,z,O,a3,hnm,d9,c4,hsz,hnd,d8,c6,c7,d7):=Xc hf;let hG:=NB.sm (Sm.of s3) a6;let b6:WOk ws es:={az hnd,By.mp c6,aZ c7,a5};show BW {_,O,_,O,x,_,g,es,ws,O,hG,a3,{(wa),O,a8},b6,b0.1 es a3,lJ hsz a3,λH4 s4=>?_};have(a,dx,zv,fv,gl,O,ha,hn,_):=NB.sm (Sm.of s4) hG;let fc:=SY T g.choice;rw[hnm]at hn;obtain rfl:zv=V.str z:=hn.1;let ek:La (wK ws) (.inr z) (.int<|EL ws g.choice es)=wK (ws++[(z,EL ws g.choice es)]):=E6 c4;show{_,O,_,O,a,_,dx,_,_,O,ha,fc.cl,fc.n1,O,wa,_,O,ir.k (k:=.inr z) (s4 _ _ a8) ?_,_,_,_,O,?_,ws++[(z,EL ws g.choice es)],?_,?_,?_,?_}
    ·unfold wK;rw[Aw,hwl];show DM ()
    ·show(s3.trans s4).put b7
    ·let e1:uz (.form g)=z:=by change bJ g.nam=z;rw[hnm];rfl
     let e2:bE ws (.form g)=EL ws g.choice es:=by change EL ws g.choice (g.fields.getD [])=_;rw[a3];rfl
     rw[e1,e2]at D;show D
    ·rw[Ax,ek]
    ·intro p hp;rcases Bt.mp hp with hp|hp
     ·show a5 p hp
     rw[AN.mp hp];show{iF b6<|lJ hsz a3,by change EL ws g.choice es<=1000;lia}
    simp_all
   rw[A3m hf]at D;let hd: (!decide (V.str (GC ws o)=V.str ""))=true:=by simp_all
   rw[hd];let eB:Ir os= .inl (i,GC ws o):=by unfold Ir;rw[<-D]
   unfold nK at q;rw[eB]at q;show CP {_,O,_,O,zl 2,Qz () (qk ws o)<|q H3 s3}
  have(v2,v3,v4,O,s1,ws,U,j,a5,hwl):=h;rw[<-a9,ZS]at U;show{(v2),v3,v4,O,s1,ws,U.symm,j}
 rintro σ' H1 ⟨v2,v3,v4,rfl,s1,ws,U,j⟩;let c3:0<xs.length:=()
 let c2:xs[xs.length - 1]?=Y (xs[xs.length - 1]' ()):=AA ();let(o,b8,a6):=Gf ho (xs.length - 1) _ c2;have(g,O):=mM U o<|AL b8;let b3:os.getLast?=Y (.form g):=by rw[List.getLast?_eq_getElem?,a9];show b8
 let eB:Ir os=if g.choice then .inl (os.length - 1,"head")else .inr ws:=by unfold Ir;rw[U,b3];rfl
 unfold nK at q;rw[eB]at q;have(a,dx,zv,fv,gl,ea,ha,_):=NB.sm (Sm.of s1) a6;show{_,O,_,O,l,_,_,_,O,O,BX.of<|s1 _ _ hl,my c3,a,_,dx,_,_,ea,ha,O,RJ T g.choice,_,O,_,O,?_};cases hc:g.choice with
 |true=>
  rw[hc]at q;show CP {_,O,l,_,O,.inl<|BX.of (s1 _ _ hl),_,_,O,O,zl 2,?_};let e1: ((xs.length:Int) - 1)=((os.length - 1:Nat):Int):=()
  rw[e1];show Qz () Ab<|q H1 s1
 |false=>
  rw[hc]at q;show BW {_,O,q wa H1 s1 j}
def pbO:HO->Bool|.tbl _=>ge|.ins C _ _=>!(C==874)|_=>Z
def Sb(H H':Hp):Prop:=∀a o,H a=Y o->pbO o=Z->H' a=Y o
def Sb.sf(s:Sb H H'):Sf H H':=λa o e n=>s a o e (by
 cases o with
 |ins C dx fs=>
  let j: (!(C==732||C==746||C==765||C==874))=true:=n;change(!(C==874))=Z
  grind
 |_=>first|rfl|cases n)
def Sb.upd(hx:H x=Y o)(n:pbO o=ge):Sb H (upd H x u):=λa v e m=>by
 rw[AT];·show e
 grind
def NB.sb(s:Sb H H'):NB H g v->NB H' g v:=λj=>by
 let(a,dx,z,f,l,e,h,h1,h2,h3):=j;show{a,dx,z,f,l,e,s _ _ h (by cases g.choice <;> rfl),Th.sn s.sf.sn _ _ h1,h2.sf s.sf,s _ _ h3 O}
def rB.sb(s:Sb H H'):∀{o:Ox} {v:V},rB H o v->rB H' o v|.form _,_,h=>NB.sb s h|.bare,_,⟨a,dx,fs,e,h⟩=>{a,dx,fs,e,s _ _ h O}|.thing d,v,h=>Th.sn s.sf.sn d v h
def Os(H:Hp)(os:List Ox)(xs:List V):Prop:=Paired (rB H) os xs
def Os.sm{H H':Hp}(s:Sm H H'){os:List Ox}{xs:List V}(h:Os H os xs):Os H' os xs:=Paired.mapP h λ_ _ z=>rB.sm s z
def Os.sb{H H':Hp}(s:Sb H H'){os:List Ox}{xs:List V}(h:Os H os xs):Os H' os xs:=Paired.mapP h λ_ _ z=>rB.sb s z
def V9(H:Hp)(xs:List V)(ws:List (AO×Int))(v:V):Prop:=∃a dx l j,v= .ref a/\H a=Y (.ins 874 dx [("forms",.ref l),("weights",.ref j)])/\H l=Y (.lst xs)/\H j=Y (.dK<|wK ws)
def U1(H0 H:Hp)(xs:List V)(ws:List (AO×Int))(v:V):Prop:=∃a dx l j,v= .ref a/\H a=Y (.ins 874 dx [("forms",.ref l),("weights",.ref j)])/\H l=Y (.lst xs)/\H j=Y (.dK<|wK ws)/\H0 l=S
def U1.isB:U1 H0 H xs ws v->V9 H xs ws v:=λj=>by
 let(a,dx,l,z,e,h1,h2,h3,_):=j;show{(a),dx,l,z,e,h1,h2,h3}
def zH(K:Az)(H:Hp)(v:V):Prop:=(∃t,IV K H v t/\Bo K t (.type "list")=Y ge)\/∃l xs,v= .ref l/\H l=Y (.lst xs)/\xs.length<=1000/\¬ (1<=xs.length/\xs.length<=8)
def bM(K:Az):Sp:=λvs H Q E=>∃x dx v,vs=[.ref x,v]/\H x=Y (.ins 874 dx [])/\((zH K H v/\∀H',zW x H H'->Ud H' 0 "forms" E)\/
  ∃l xs os,v= .ref l/\H l=Y (.lst xs)/\Os H os xs/\(∀o∈os,Ox.may o/\Ox.few o)/\0<os.length/\os.length<=8/\match Ir os with|.inl (p,y)=>∀H',zW x H H'->Ud H' (p:Nat) y E|.inr ws=>∀H',zW x H H'->U1 H H' xs ws (.ref x)->Q .non H')
def Rm(T:Tx K mg):EY P w K mg base (XC P w Z) 9 857 (EH K 857) Au (bM K):=by
 let GN:EY P w K mg base (XC P w Z) 8 843 (EH K 843) ["forms"] lF:=yi T;let(_,hM):=(T.ui 9 O);show(T.mf 35 O).okX bY (λvs H Q E h=>?_) (λcdv A outer s H vs Q E hr h=>?_);·have(x,dx,v,O,_):=h;rfl
 let(x,dx,v,O,hx,h):=h;show{_,AY (qi (PW.pt<|Jf (Dn<|BN (qB (BR K O) T.Bw Bq<|Cv (pv 1) (Yl T.HU Gi))) (HX<|Dn (BN<|qD (@Fv P w K mg base T) hr T.EQ (Bc (qB BU T.Ey Ds<|CK (pv 1))<|Cv AF (fD hM)))))<|Cc (Mn O O T.MQ T.Ji (@Nw P w K mg base T) (hr.mono Aa) T.KC KI<|Cv AF AE))<|AW (GA (pv 0) (qT Ht T.HU Gi<|CK (pv 1)) O) (Cc<|GA (pv 0) (lT GN (hr.mono Aa) O T.LH.m T.LH.k T.LH.b .nil (lU λz=>z)<|CK (Cb (pv 0) O)) O),?_};let a5:∀n:Nat,Ue (.int (n:Int)) 1 8=(decide (1<=n) &&decide (n<=8)):=λn=>by
  change(decide ((1:Int)<= (n:Int)) &&decide ((n:Int)<=8))=_
  grind
 let j: (∀H',zW x H H'->Ud H' 0 "forms" E)->∀e,H e=S->JM (.ref e::[.int ((0:Nat):Int),.str "forms"]) (upd H e<|TJ e 111 S) (λv H2=>v= .non/\∃dx,H2 e=Y (TJ e 111 dx)/\E (.ref 111) dx (untr H2 e)) E0:=λq=>
  Qz Aa Ab (q H λ_ _ _ e=>e)
 rcases h with⟨hn,q⟩|⟨l,xs,os,rfl,hl,ho,hm,h0,h8,q⟩
 ·show{λ_ _=>False,?_,λ_ _ h=>h.elim};rcases hn with⟨t,ty,kt⟩|⟨l,xs,rfl,hl,hz,hn⟩
  ·show{_,O,v,.ty "list",_,_,_,O,ty,O,kt,_,O,CP {zl 2,j q}}
  show{_,O,.ref l,.ty "list",_,_,_,O,.lst hl,O,T.Ge,_,O,BW {_,O,l,_,O,.inl<|BX.of hl,_,.int _,_,_,O,O,_,O,?_}};rw[a5,show(decide (1<=xs.length) &&decide (xs.length<=8))=ge by
   rw[<-Fo,AB];show λz=>hn {A3l z.1,A3l z.2}]
  show CP {zl 2,j q}
 let b1:os.length=xs.length:=br ho;show BV (λσ' H'=>σ'=[Y (.ref x),Y<|.ref l]/\H=H') ?_ ?_
 ·show{_,O,.ref l,.ty "list",_,_,_,O,.lst hl,O,T.Ge,_,O,BW {_,O,l,_,O,.inl<|BX.of hl,_,.int _,_,_,O,O,_,O,?_}};rw[a5,show(decide (1<=xs.length) &&decide (xs.length<=8))=Z by
   rw[AB];show{A3j (),A3j<|()}]
  show BW {(O),O}
 rintro σ' H0 ⟨rfl,rfl⟩;show{_,O,l,xs,O,.inl<|BX.of hl,λl2 D=>{_,O,x,_,dx,_,O,AZ D _ _ hx,T.UM,T.MO,Aa,?_}};let a6:upd H l2 (.lst xs) x=Y (.ins 874 dx []):=AZ D _ _ hx;let bt:zW x H (upd (upd H l2<|.lst xs) x<|.ins 874 dx [("forms",.ref l2)]):=λb o U e=>by rw[AT U];show AZ D _ _ e
 let sb:Sb (upd H l2<|.lst xs) (upd (upd H l2<|.lst xs) x<|.ins 874 dx [("forms",.ref l2)]):=Sb.upd a6 O;let F:upd (upd H l2<|.lst xs) x (.ins 874 dx [("forms",.ref l2)]) l2=Y (.lst xs):=sb _ _ Ax O;let a4:upd (upd H l2<|.lst xs) x (.ins 874 dx [("forms",.ref l2)]) x=Y (.ins 874 dx [("forms",.ref l2)]):=Ax;show{_,O,x,_,dx,_,_,O,a4,T.UM,T.MO,O,l2,xs,os,O,F,(Os.sb sb<|Os.sm (Sm.of<|AZ (u:=.lst xs) D) ho),hm,h0,h8,?_};unfold nK;revert q;cases Ir os with
 |inl e=>
  let(p,y):=e;show λq H' s'=>q H' λb o U e=>s' _ _<|bt b o U e
 |inr ws=>
  intro q wa H' s' a7;let a3:=s' _ _ a4;show{_,O,x,_,dx,_,O,a3,T.UM,(T.fo 19 O),by change 1<1000;decide,?_};let a2:Sb H' (upd H' x<|.ins 874 dx [("forms",.ref l2),("weights",.ref wa)]):=Sb.upd a3 O;show q _ (λb o U e=>?_) {x,dx,l2,wa,O,Ax,a2 _ _ (s' _ _ F) O,a2 _ _ a7 O,D};rw[AT U];show s' _ _<|bt b o U e
def Vx{x y:AO}(h:x.cps.toList=y.cps.toList):x=y:=by
 obtain⟨⟨l⟩⟩:=x
 simp_all
def vZ:dC.cps.toList=[97,98,99,100,101,102,103,104,105,106,107,108,109,110,111,112,113,114,115,116,117,118,119,120,121,122]:=⋯
def yR(h1:97<=c)(h2:c<=122):wP dC c=true:=by
 let all:∀m:Fin 26,wP dC (97+m.val)=true:=⋯
 rw[<-Nat.add_sub_cancel' h1];show all {c - 97,()}
abbrev sg(z:AO):List Nat:=z.cps.toList
def Fj(z:AO): (sg z).length=z.length:=by simp[Str.length]
def lc(i:Int):Nat:=97+ (i%26).toNat
def C1(i:Int):97<=lc i/\lc i<=122:=by
 unfold lc
 lia
def ny:dC.length=26:=⋯
def wc(i:Int):Yn dC.cps.toList (i%26)=Y (lc i):=by
 let z:∀j:Fin 26,dC.cps.toList[j.val]?=Y (97+j.val):=⋯
 let D: (i%26).toNat<26:=()
 let F:Yn dC.cps.toList (((i%26).toNat:Nat):Int)=Y (lc i):=FN (z {(_),D})
 grind
def A2l(l:List Nat):Prop:=1<=l.length/\l.length<=12/\∀c∈l,97<=c/\c<=122
def A2i(l:List Nat):Prop:=(∀x,l≠[122,122,122,x])/\l≠CO 5 122
def Xr(z:AO):Prop:=Co z=Z/\A2i (sg z)
def lZ(h:A2l (sg z)):Co z=true:=by unfold Co TV;rw[AB,AB];have:=h.1;have:=h.2.1;rw[Fj]at *;show{{A3j (by assumption),A3j<|by assumption},By.mpr λc hc=>yR (h.2.2 c hc).1 (h.2.2 c hc).2}
structure CN(zs:List AO):Prop where
 ok:∀z∈zs,Xr z
 nd:zs.Nodup
def nodup_range{z:Type}(f:Nat->z)(n:Nat)(h:∀i j,i<n->j<n->f i=f j->i=j): ((Bg n).map f).Nodup:=by
 show FZ.mpr (List.Pairwise.imp_of_mem (R:=(·< ·)) (λ{a b} ha F D hf=>?_) List.pairwise_lt_range)
 grind
def Rn{j z:Type}{f:j->z}{l:List j}(h: (l.map f).Nodup):l.Nodup:=(FZ.mp h).imp λhn e=>hn (by rw[e])
structure wM(b:List Nat):Prop where
 len:b.length=12
 lets:∀c∈b,97<=c/\c<=122
 two:∀x r,b≠x::x::r
def pA{b:List Nat}(h:wM b){many:Nat}(hm:many<=12){zs:List AO}(e:zs.map sg=(Bg many).map λk=>b.take<|k+1):CN zs:=by
 let at_:∀z∈zs,∃k,k<many/\sg z=b.take (k+1):=λz F=>by
  have:sg z∈zs.map sg:=List.mem_map_of_mem F;rw[e]at this;let(k,hk,e2):=AS.mp this;show{k,Dv.mp hk,e2.symm}
 show{λz F=>?_,?_}
 ·let(k,hk,ez):=at_ z F;show{lZ ?_,?_}
  ·rw[ez];show{?_,?_,λc hc=>h.lets c<|Cg hc}
   ·rw[BG,h.len];lia
   rw[BG,h.len];lia
  rw[ez];obtain⟨D,b1,r,hb⟩:∃D b1 r,b=D::b1::r:=by match b,h.len with|D::b1::r,_=>show{(D),b1,r,O}
  let two:=h.two;subst hb;show{λx hx=>?_,λhx=>?_}
  ·cases k with
   |zero=>simp at hx
   |succ k=>
    rw[LD,LD]at hx;injection hx with h1 h2;injection h2 with h2 h3;show two D r (by rw[h1,h2])
  cases k with
  |zero=>simp[CO]at hx
  |succ k=>
   rw[LD,LD]at hx;let U:CO 5 122=122::122::CO 3 122:=rfl;rw[U]at hx;injection hx with h1 h2;injection h2 with h2 h3;show two D r (by rw[h1,h2])
 let nd: (zs.map sg).Nodup:=by
  rw[e];show nodup_range _ _ λi j hi hj hf=>?_;have:=A3o Jg hf;rw[BG,BG,h.len]at this
  lia
 show Rn nd
def ux{b:List Nat}(h:wM b){m a many:Nat}(hm:m<=7)(c:Nat->Nat)(hc:∀k,k<many->97<=c k/\c k<=122)(hi:∀i j,i<many->j<many->c i=c j->i=j)(ha:a<= (b.take m).length){zs:List AO}(e:zs.map sg=(Bg many).map λk=>(b.take m).take a++c k:: (b.take m).drop a):CN zs:=by
 let at_:∀z∈zs,∃k,k<many/\sg z=(b.take m).take a++c k:: (b.take m).drop a:=λz hz=>by
  have:sg z∈zs.map sg:=List.mem_map_of_mem hz
  grind
 let U: (b.take m).length=m:=by rw[BG,h.len];lia
 let two:∀x r,b.take m≠x::x::r:=λx r hx=>by
  let e2:=FE m b;rw[hx]at e2;show h.two x (r++b.drop m) e2.symm
 let lets:∀d∈b.take m,97<=d/\d<=122:=λd hd=>h.lets d<|Cg hd;revert e at_ two lets ha;generalize b.take m=l at U;intro ha e at_ two lets;show{λz hz=>?_,?_}
 ·let(k,hk,ez):=at_ z hz;let F: (l.take a++c k::l.drop a).length=m+1:=by grind
  show{lZ ?_,?_}
  ·rw[ez];show{(),(),λd hd=>?_}
   grind
  rw[ez];show{λx hx=>?_,λhx=>?_}
  ·rw[hx]at F;let h3:m=3:=by simp at F;lia
   subst h3
   match l,U with
   |[p,q,r],_=>
    match a,ha with
    |0,_=>
     grind
    |1,_=>
     grind
    |2,_=>
     let D: [p,q,c k,r]=[122,122,122,x]:=hx;injection D with h1 D;injection D with h2 _;show two p [r] (by rw[h2,<-h1])
    |3,_=>
     let D: [p,q,r,c k]=[122,122,122,x]:=hx;injection D with h1 D;injection D with h2 _;show two p [r] (by rw[h2,<-h1])
    |n+4,hn=>show A3p hn (by simp)
  let all:∀d∈l,d=122:=λd hd=>by
   have:d∈CO 5 122:=by rw[<-hx];rw[<-FE a l]at hd;show(Bt.mp hd).elim (Cu _) λz=>BJ _<|Bi _ z
   show(List.mem_replicate.mp this).2
  rw[hx,JZ]at F
  match l,U with|[],e=>show A3p e (by change ¬0=m;lia)|[_],e=>show A3p e (by change ¬1=m;lia)|p::q::r,_=>show two p r (by rw[all p (Bl ..),all q<|Bi _ (Bl ..)])
 let nd: (zs.map sg).Nodup:=by rw[e];show nodup_range _ _ λi j a2 hj hf=>hi i j a2 hj ?_;have:=List.append_cancel_left hf;injection this
 show Rn nd
def Xp(n:Int):List Nat:=(Bg 12).map λj:Nat=>lc<|n/7+ (3+n%5) * (0+ (j:Int))
def zC(n:Int):wM (Xp n):=by
 show{by unfold Xp;rw[Aw,BZ],λc hc=>?_,λx r hx=>?_};·let(j,_,O):=AS.mp hc;show C1 _
 let h0: (Xp n)[0]?=Y (lc<|n/7+ (3+n%5) * (0+ ((0:Nat):Int))):=rfl;let h1: (Xp n)[1]?=Y (lc<|n/7+ (3+n%5) * (0+ ((1:Nat):Int))):=rfl;rw[hx]at h0 h1;let D:x=lc (n/7+ (3+n%5) * (0+ ((0:Nat):Int))):=AK h0;let z:x=lc (n/7+ (3+n%5) * (0+ ((1:Nat):Int))):=AK h1;rw[D]at z;unfold lc at z
 lia
def sR(q:Int)(i j:Nat)(hi:i<12)(z:j<12)(h:lc (q+5* (0+ (i:Int)))=lc (q+5* (0+ (j:Int)))):i=j:=by unfold lc at h;omega
def Wk.rng(lo:Int)(n:Nat):Wk (D6 lo n) H1 ((Bg n).map λi:Nat=>V.int<|lo+ (i:Int)) where
 go:=λH i s hi=>by rw[Aw,BZ]at hi;show hi
 stop:=λH i s hi=>by rw[Aw,BZ]at hi;show XW hi.symm
 yld:=λH i x H' s hi y=>by
  rw[Aw,BZ]at hi;show{y.1,by rw[Be,List.getElem?_range hi,y.2];rfl}
def Qr(h: ((Bg n).map λi:Nat=>V.int<|z+ (i:Int))[j]?=Y x):x= .int (z+j)/\j<n:=by grind
inductive kE(K:Az)(vs:List V)(H:Hp)(Q:VK):Prop|mk (a:AH) (ns:List Int) (k:Int) (_:vs=[.ref a,.int k]) (_:BX K H a (ns.map V.int)) (_:0<=k) (_:k<=1000) (_:∀r:Int,0<=r->r<2147483629->Q (.int r) H)
def oj(K:Az):Sp:=λvs H Q _=>kE K vs H Q
def ZA(c k:Int):Int:=(c%2147483629*40692+ (k+5) * (k+5) *30269) %2147483399
inductive qP(vs:List V)(H:Hp)(Q:VK):Prop|mk (c k:Int) (_:vs=[.int c,.int k]) (_:0<=k) (_:k<=1000) (_:Q (.int<|ZA c k) H)
def sD:Sp:=λvs H Q _=>qP vs H Q
def IH(a:Int)(h:0<b):0<=a%b/\a%b<b:={FQ _<|Yg h,GP _ h}
def FR(x y:AO):sg (x++y)=sg x++sg y:=by change(x++y).cps.toList=_;rw[PySem.Str.cps_append,IB]
def qb(ps:List AO):∀a:Array Nat,(ps.foldl (λj p=>j++ (AG "").cps++p.cps) a).toList=a.toList++ (ps.map sg).flatten:=by
 induction ps with
 |nil=>intro a;simp
 |cons p ps z=>
  intro a;rw[List.foldl_cons,z,Ba,Ee,IB,IB];change a.toList++[] ++p.cps.toList++_=_;simp
def xE(ys:List AO):sg (Cj "" ys)=(ys.map sg).flatten:=by
 cases ys with
 |nil=>rfl
 |cons y ys=>
  change((List.drop 1 (y::ys)).foldl (λj p=>j++ (AG "").cps++p.cps) ((y::ys).headD Mb).cps).toList=_;rw[qb];rfl
def one(c:Nat):AO:={#[c]}
def xB(j:List Nat): ((j.map one).map sg).flatten=j:=by induction j with|nil=>rfl|cons c j z=>rw[Ba,Ba,Ee,z];rfl
def si(j:List Nat): ((j.map one).map (·.length)).sum=j.length:=by induction j with|nil=>rfl|cons c j z=>rw[Ba,Ba,List.sum_cons,z,BD];change 1+_=_;lia
def Oh(z:AO)(k:Nat)(h:k<=z.length):sg (Cq z S<|Y (k:Int))=(sg z).take k:=by
 let e:=UF (PyProof.Rows.slice_closes_toL (x:=z) (j:=(k:Int)) ()<|())
 grind
def jc(z:AO)(k:Nat)(h:k<=z.length):sg (Cq z (Y (k:Int)) S)=(sg z).drop k:=by
 let e:=UF (PyProof.Rows.slice_closes_fromL (x:=z) (i:=(k:Int)) (b:=(z.length:Int)) () () O);rw[e];change((z.cps.toList.drop (k:Int).toNat).take ((z.length:Int) - (k:Int)).toNat)=_;rw[show((k:Int)).toNat=k by lia];apply GM;rw[DD,Fj]
 lia
def A1R: ((["_law_j"]:List AO) ++ (["_law_letters","_law_number_here","_law_step"]:List AO)).Nodup:=⋯
def A1P: ((["_law_k"]:List AO) ++ (["_law_base"]:List AO)).Nodup:=⋯
def A1O: ((["_law_k"]:List AO) ++ (["_law_letters","_law_number_here"]:List AO)).Nodup:=⋯
def A1M: ((["_law_sign"]:List AO) ++ (["_law_border","_law_at"]:List AO)).Nodup:=⋯
inductive qN(vs:List V)(H:Hp)(Q:VK):Prop|mk (n:Int) (many:Nat) (_:vs=[.int n,.int many]) (_:0<=n) (_:n<2147483648) (_:many<=10) (_:∀zs,zs.length=many->CN zs->dW H Q (zs.map V.str))
def sB:Sp:=λvs H Q _=>qN vs H Q
def ug(T:Tx K mg):∅ 1 1005 Aj sD:=by show(T.df 37 O).okA sZ ?_;intro 1 j h;let(c,k,O,h0,h1,q):=h;show{_,qr<|Bb CD (Bb CS (Bb LN (Bb CD (pv 0) AF) AF)<|Bb LN (Bb LN (Bb CS (pv 1) AF)<|Bb CS (pv 1) AF) AF) AF,?_};show{_,O,_,_,O,O,(by change(0:Int) <2147483629;decide),_,_,O,O,.inr {(Aa),Aa},_,O,_,_,O,O,_,O,_,_,O,O,_,_,O,O,.inl {(),()},_,_,O,O,.inr {(Aa),Aa},_,_,O,O,_,_,O,O,(by change(0:Int) <2147483399;decide),q}
def aw(T:Tx K mg):∅ 1 998 ["_law_script","_law_k"] (oj K):=by
 show(T.df 36 O).okA Pa ?_;intro 1 U h;let(a,ns,k,O,D,h0,h1,q):=h;show{_,AW (qS 2 Pa.nd AF)<|AY (qi (qc TR (qB BU T.Ey Ds<|CK (pv 0)) AF)<|Cc (qS 2 Pa.nd<|MK (pv 0) (Bb CD (pv 1)<|qB BU T.Ey Ds (CK<|pv 0)))) (AW (qS 3 Pa.nd<|Bb CS (pv 1) AF)<|qr (Bb CD (Bb LN (Bb CD (Bb CS (Bb LN (Bb CD (pv 2) AF) AF)<|Bb LN (Bb LN (pv 3)<|pv 3) AF) AF) AF) AF)),?_};show BV (λσ' H'=>∃c:Int,σ'=[Y (.ref a),Y<|.int k,Y<|.int c,S]/\H'=H) ?_ ?_
 ·show{_,O,a,_,O,.inl D,_,_,O,O,_,O,Hs (λh=>?_) λh=>{1,O,O}};let hp: (0:Int) < ((ns.map V.int).length:Int):=A3l h;let z:=IH k hp;let j: (k% ((ns.map V.int).length:Int)).toNat<ns.length:=by simp_all
  show{_,O,_,O,_,O,a,_,O,.inl D,_,_,O,O,hp,a,_,_,.int<|ns[(k% ((ns.map V.int).length:Int)).toNat]'j,O,O,D,?_,{(_),O,O}};let e2:Yn (ns.map V.int) (((k% ((ns.map V.int).length:Int)).toNat:Nat):Int)=Y (.int<|ns[(k% ((ns.map V.int).length:Int)).toNat]'j):=FN (by
   rw[Be,AA j];rfl)
  grind
 rintro σ' H' ⟨c,rfl,rfl⟩;show{_,O,_,_,O,O,?_};let y:=IH c (b:=2147483629) Aa;let F:=IH (c%2147483629*48271+ (k+3) * (k+3) *69621) (b:=2147483647) Aa;show{_,O,_,_,O,O,(by change(0:Int) <2147483629;decide),_,_,O,O,.inr {(Aa),Aa},_,O,_,O,_,_,O,O,.inl {(),()},_,_,O,O,.inr {(Aa),Aa},_,_,O,O,_,_,O,O,(by change(0:Int) <2147483647;decide),_,_,O,O,.inr {(Aa),Aa},_,_,O,O,(by change(0:Int) <2147483629;decide),?_}
 grind
def fP(T:Tx K mg):∅ 1 1010 ["_law_number_here","_law_many"] sB:=by
 show(T.df 38 O).okA KF ?_;intro 1 hr h;let(n,many,O,h0,h1,b6,q):=h;show⟨_,AW (qS 2 KF.nd AE) (AW (qS 3 KF.nd<|Bb CS AF (Bb CD (pv 0) AF)) (AY (qS 4 KF.nd<|EA DC Hx Hw Rp AE (CK<|Re ["_law_j"] ["_law_letters","_law_number_here","_law_step"] [2,0,3] (.cons O (.inl O) O<|.cons O (.inl O) O (.cons O (.inl O) O .nil)) (Hq O T.Jm<|CK AF) (λC s_ H_ fp=>BQ (i:=0) A1R O (Cd O)<|CV O) (λC s_ H_ fp=>ao uO (pv 1) (Bb CD (Bb CS (Bb Dc (pv 2) AF)<|Bb LN (pv 3) (pv 0)) AF) λ_ _=>rfl))) (AW (qi (qc Do (Bb CD (Bb Dc (pv 0) AF) AF) AF)<|qr (Re ["_law_k"] ["_law_base"] [4] (.cons O (.inl O) O .nil) (Hq O T.Jm<|CK (pv 1)) (λC s_ H_ fp=>BQ (i:=0) A1P O (Cd O)<|CV O) λC s_ H_ fp=>DE Oi (pv 1) Ek<|Ej (Bb CS (pv 0) AF))) (AY (qS 5 KF.nd<|DE Oi (pv 4) Ek (Ej<|Bb CD (pv 0) AF)) (AY (qS 6 KF.nd<|Bb CD (Bb Dc (pv 0) AF) (Bb CS (qB Km T.Ey Ds<|CK (pv 5)) AF)) (AY (Nb (i:=7) (ts:=["_law_k"]) (xs:=["_law_letters","_law_number_here"]) (js:=[2,0]) O {O,O,Ab,Ab,SV O} (.cons O (.inl O) O<|.cons O (.inl O) O .nil) Ab (Hq O T.Jm<|CK (pv 1)) (λC s_ H_ fp=>BQ (i:=0) A1O O (Cd O)<|CV O) (λC s_ H_ fp=>US) (λC s_ H_ fp=>ao uO (pv 1) (Bb CD (Bb CS (Bb Dc (pv 2) AF)<|Bb LN AF (pv 0)) AF) λ_ _=>rfl)
    KF.nd O (Cd O) O)
  (qr<|Re ["_law_sign"] ["_law_border","_law_at"] [5,6] (.cons O (.inl O) O<|.cons O (.inl O) O .nil) (CY<|pv 7) (λC s_ H_ fp=>BQ (i:=0) A1M O (Cd O)<|CV O) (λC s_ H_ fp=>Bb BO (Bb BO (DE Oi (pv 1) Ek<|Ej (pv 2))<|pv 0)<|DE Oi (pv 1) (Ej<|pv 2) Ek)))))))),?_⟩
 show{_,O,_,_,O,O,(by change(0:Int) <5;decide),_,_,O,O,?_};let z5:=IH n (b:=5) Aa;let U:=zC n;show BV (λσ' H'=>∃b:AO,sg b=Xp n/\σ'=[Y (.int n),Y<|.int many,Y<|.str dC,Y<|.int (3+n%5),Y<|.str b,S,S,S]/\Bd H H') ?_ ?_
 ·show{O,12,O,Aa,Aa,Dg (Wk.rng 0 12) Aa (λj=>.str<|one (lc<|n/7+ (3+n%5) * (0+ (j:Int)))) (λj x hx H2 R s2 hR=>?_) λD H2 hD s2 e2=>?_}
  ·let(O,hj):=Qr hx;show{Sub.set O,_,O,_,O,_,_,O,O,{(Aa),Aa},_,O,_,O,_,_,O,O,.inl {(),()},_,_,O,O,_,_,O,O,(by change(0:Int) <26;decide),dC,_,_,O,O,by rw[ny];decide,wc _,?_};show hR H2 λ_ _ e=>e
  let e3:H2 D=Y (.lst<|((Xp n).map one).map V.str):=by assumption
  show{"",D,_,O,O,BX.of e3,?_,?_};·rw[si,Aw,U.len];decide
  show{_,by rw[xE,xB],O,s2}
 rintro σ' H' ⟨b,hb,rfl,s0⟩;let a7:b.length=12:=by rw[<-Fj,hb,U.len]
 let a3:b.length<=sizeLine:=by rw[a7];decide
 show{_,O,_,_,O,O,{(Aa),Aa},_,_,O,O,(by change(0:Int) <3;decide),O,_,O,Hs (λ_=>?_) λ_=>?_}
 ·show{_,O,(many:Int),O,(),(),?_};rw[show(((many:Int)).toNat)=many by lia];show Dg (Wk.rng 0 many) (by rw[Aw,BZ];lia) (λj=>.str<|Cq b S (Y<|0+ (j:Int) +1)) (λj x hx H2 R s2 hR=>?_) λD H2 hD s2 e2=>?_
  ·let(O,hj):=Qr hx;show{Sub.set O,_,O,_,O,_,_,O,O,_,O,b,O,a3,hR H2 λ_ _ e=>e}
  show q ((Bg many).map λj:Nat=>Cq b S<|Y (0+ (j:Int) +1)) (by rw[Aw,BZ]) (pA U (many:=many) () ?_) D _ (s0.free hD) (s0.trans s2) ?_;·rw[AX];show Cm λk hk=>?_;let b7:=Dv.mp hk;change sg (Cq b S<|Y (0+ (k:Int) +1))=_;rw[show(0+ (k:Int) +1)=((k+1:Nat):Int)by lia,Oh _ _ (),hb]
  simp_all
 show BV (λσ' H2=>∃b2:AO,sg b2=(Xp n).take (n%8).toNat/\σ'=[Y (.int n),Y<|.int many,Y<|.str dC,Y<|.int (3+n%5),Y<|.str b,Y<|.str b2,S,S]/\H'=H2) ?_ ?_;·show{_,O,_,O,_,_,O,O,(by change(0:Int) <8;decide),_,O,b,O,a3,_,?_,O,O};rw[show n%8=(((n%8).toNat:Nat):Int)by lia,Oh _ _ (),hb];rfl
 rintro σ' H2 ⟨b2,a1,rfl,rfl⟩;let b4:b2.length=(n%8).toNat:=by rw[<-Fj,a1,BG,U.len];lia
 let z:b2.length<=sizeLine:=AR (show b2.length<=8 by lia) Aa;show BV (λσ' H2=>∃a:Nat,a<=b2.length/\σ'=[Y (.int n),Y<|.int many,Y<|.str dC,Y<|.int (3+n%5),Y<|.str b,Y<|.str b2,Y<|.int (a:Int),S]/\H'=H2) ?_ ?_
 ·show{_,O,_,_,O,O,{(Aa),Aa},_,O,b2,O,z,_,_,O,O,_,_,O,O,?_,(n/200% ((b2.length:Int) +1)).toNat,?_,?_,O}
  ·lia
  ·have:=IH (n/200) (b:=(b2.length:Int) +1) ()
   lia
  have:=IH (n/200) (b:=(b2.length:Int) +1) ();rw[LG this.1];rfl
 rintro σ' H2 ⟨a,ha,rfl,rfl⟩;show BV (λσ' H2=>∃l:AH,σ'=[Y (.int n),Y<|.int many,Y<|.str dC,Y<|.int (3+n%5),Y<|.str b,Y<|.str b2,Y<|.int (a:Int),Y<|.ref l]/\Bd H' H2/\H2 l=Y (.lst ((Bg many).map λj:Nat=>V.str<|one (lc<|n/2000+5* (0+ (j:Int)))))) ?_ ?_
 ·show{_,O,(many:Int),O,(),(),?_};rw[show(((many:Int)).toNat)=many by lia];show Dg (Wk.rng 0 many) (by rw[Aw,BZ];lia) (λj=>.str<|one (lc<|n/2000+5* (0+ (j:Int)))) (λj x hx H2 R s2 hR=>?_) λD H2 hD s2 e2=>?_
  ·let(O,hj):=Qr hx;show{Sub.set O,_,O,_,O,_,_,O,O,{(Aa),Aa},_,O,_,_,O,O,.inl {(Aa),Aa},_,_,O,O,_,_,O,O,(by change(0:Int) <26;decide),dC,_,_,O,O,by rw[ny];decide,wc _,?_};show hR H2 λ_ _ e=>e
  show{D,O,s2,?_};rw[e2,Aw,BZ]
 rintro σ' H2 ⟨l,rfl,s2,hl⟩;let l1:=Tn b2 S<|Y (a:Int);let l2:=Tn b2 (Y (a:Int)) S;show{_,O,l,O,{_,BX.of hl},Dg (Wk.list<|BX.of hl) (by rw[Aw,BZ];lia) (λj=>.str<|(Cq b2 S (Y (a:Int)) ++one (lc<|n/2000+5* (0+ (j:Int)))) ++Cq b2 (Y (a:Int)) S) (λj x hx H3 R s3 hR=>?_) λD H3 hD s3 e3=>?_}
 ·obtain rfl:x= .str (one<|lc (n/2000+5* (0+ (j:Int)))):=by grind
  show{Sub.set O,_,O,_,O,_,O,b2,O,z,_,O,_,_,O,O,?_,_,O,_,O,_,O,b2,O,z,_,_,O,O,?_,hR H3 λ_ _ e=>e}
  ·change _+1<=sizeLine
   lia
  rw[Str.length_append];change _+1+_<=sizeLine;show AR (show _<=30 by lia) Aa
 show q ((Bg many).map λj:Nat=>(Cq b2 S (Y (a:Int)) ++one (lc<|n/2000+5* (0+ (j:Int)))) ++Cq b2 (Y (a:Int)) S) (by rw[Aw,BZ]) (ux U (m:=(n%8).toNat) (a:=a) (many:=many) () (λk=>lc<|n/2000+5* (0+ (k:Int))) (λk _=>C1 _) (λi j hi hj h=>sR _ i j () () h) (by rw[<-a1,Fj];show ha) ?_) D _ (s0.free<|s2.free hD) ((s0.trans s2).trans s3) ?_;·rw[AX];show Cm λk hk=>?_;change sg ((Cq b2 S (Y (a:Int)) ++one (lc<|n/2000+5* (0+ (k:Int)))) ++Cq b2 (Y (a:Int)) S)=_;rw[FR,FR,Oh _ _ ha,jc _ _ ha,a1,BS];rfl
 simp_all
inductive Lk where
 |truth|count|whole|upto (n:Int)|text (n:Int)|form (i:Nat)|list (k:Lk)
def TL(H:Hp):Lk->V->Prop|.truth,v=>∃t,v= .ref t/\H t=Y (.tup [.str "truth"])|.count,v=>∃t,v= .ref t/\H t=Y (.tup [.str "count"])|.whole,v=>∃t,v= .ref t/\H t=Y (.tup [.str "whole"])|.upto n,v=>∃t,v= .ref t/\H t=Y (.tup [.str "upto",.int n])|.text n,v=>∃t,v= .ref t/\H t=Y (.tup [.str "text",.int n])|.form i,v=>∃t,v= .ref t/\H t=Y (.tup [.str "form",.int (i:Nat)])|.list k,v=>∃t u,v= .ref t/\H t=Y (.tup [.str "list",u])/\TL H k u
def TL.sm(s:Sm H H'):∀{k:Lk} {v:V},TL H k v->TL H' k v|.truth,_,⟨a,e,h⟩=>{a,e,s _ _ h O}|.count,_,⟨a,e,h⟩=>{a,e,s _ _ h O}|.whole,_,⟨a,e,h⟩=>{a,e,s _ _ h O}|.upto _,_,⟨a,e,h⟩=>{a,e,s _ _ h O}|.text _,_,⟨a,e,h⟩=>{a,e,s _ _ h O}|.form _,_,⟨a,e,h⟩=>{a,e,s _ _ h O}|.list _,_,⟨a,u,e,h,k⟩=>{a,u,e,s _ _ h O,k.sm s}
def Lk.word:Lk->AO|.truth=>"truth" |.count=>"count" |.whole=>"whole" |.upto _=>"upto" |.text _=>"text" |.form _=>"form" |.list _=>"list"
def TL.word:∀{k:Lk} {v:V},TL H k v->∃t xs,v= .ref t/\H t=Y (.tup (.str k.word::xs))|.truth,_,⟨a,e,h⟩=>{(a),_,e,h}|.count,_,⟨a,e,h⟩=>{(a),_,e,h}|.whole,_,⟨a,e,h⟩=>{(a),_,e,h}|.upto _,_,⟨a,e,h⟩=>{(a),_,e,h}|.text _,_,⟨a,e,h⟩=>{(a),_,e,h}|.form _,_,⟨a,e,h⟩=>{(a),_,e,h}|.list _,_,⟨a,u,e,h,k⟩=>{(a),_,e,h}
def Lk.plain:Lk->Prop|.upto n=>1<=n/\n<=2 ^ 64|.text n=>1<=n/\n<=100|.form _=>False|.list _=>False|_=>True
def Lk.ok(n:Nat):Lk->Prop|.form i=>i<n|.list k=>(k.plain\/∃i,k= .form i/\i<n)|k=>k.plain
def wk(H:Hp)(xs:List V):Prop:=∀x∈xs,∃k:Lk,k.plain/\TL H k x
def wk.sm(s:Sm H H')(h:wk H xs):wk H' xs:=λx hx=>let ⟨k,a,b⟩:=h x hx;{k,a,b.sm s}
inductive qM(vs:List V)(H:Hp)(Q:VK):Prop|mk (n:Int) (_:vs=[.int n]) (_:0<=n) (_:n<2147483648) (_:∀k:Lk,k.plain->∀u H',Bd H H'->TL H' k u->Q u H')
def sy:Sp:=λvs H Q _=>qM vs H Q
inductive qR(vs:List V)(H:Hp)(Q:VK):Prop|mk (n:Int) (m:Nat) (_:vs=[.int n,.int m]) (_:0<=n) (_:n<2147483648) (_:∀k:Lk,k.ok m->(∀i,k= .form i->n%16=3\/n%16=14)->∀u H',Bd H H'->TL H' k u->Q u H')
def sF:Sp:=λvs H Q _=>qR vs H Q
def RN(h0:0<=i)(h1:i<xs.length):∃x,Yn xs i=Y x/\x∈xs:=by
 let z:i.toNat<xs.length:=()
 show{xs[i.toNat]'z,?_,OT z};let e:=FN (xs:=xs) (j:=i.toNat) (v:=xs[i.toNat]'z) (AA z)
 grind
def Ms{l:List Int}{P:Int->Prop}(h:∀i∈l,P i){x:V}(hx:x∈l.map V.int):∃i,x= .int i/\P i:=by grind
def A1H:L2.nJ 10 12:={(Aa),Ab}
def J9:L2.nJ 2 64:={(Aa),Ab}
def ue(T:Tx K mg):∅ 1 1017 ["_law_number_here"] sy:=by
 show(T.df 39 O).okA Ol ?_;intro _ _ _ s H _ Q _ hr h _ _;let(n,O,h0,h1,q):=h;show{_,AY (qS 1 Ol.nd<|MK (Ci<|Bc AF (Bc AF<|Bc AF (Bc AF<|Bc AF (Bc AF<|Bc AF (Bc AF<|Bc AF (Bc AF<|Cv (Bb Ph AF AF) (Bb Ph AF AF))))))) (Bb CD (Bb Dc (pv 0) AF) AF))<|AY (qS 2 Ol.nd<|MK (Ci<|Bc AF (Bc AF<|Bc AF (Cv AF AF))) (Bb CD (Bb Dc (pv 0) AF) AF)) (AY (qS 3 Ol.nd<|Ci (Bc (Cn<|CK AE)<|Bc (Cn<|CK AE) (Bc (Cn<|CK AE)<|Cv (Cn<|Cv AE (pv 1)) (Cn<|Cv AE (pv 2)))))<|AY (qS 3 Ol.nd<|Bb DS (pv 3) (Ci<|Bc (Cn<|Cv AE (pv 1)) (Cv (Cn<|Cv AE AF)<|Cn (CK AE)))) (qr<|MK (pv 3) (Bb CD (pv 0) AF))),?_};show BV (λσ' H'=>∃m:Int,(1<=m/\m<=2 ^ 64)/\σ'=[Y (.int n),Y<|.int m,S,S]/\Bd H H') ?_ ?_;·show{_,_,O,O,A1H,_,_,O,O,J9,zl 12,λp hp=>?_};have(x,hx,hm):=RN (xs:=([1,2,3,7,8,127,128,255,256,300,10 ^ (12:Int).toNat,2 ^ (64:Int).toNat]:List Int).map V.int) (i:=n/8%12) () (by rw[Aw];change n/8%12<12;lia);have(i,O,hi):=Ms (P:=λi=>1<=i/\i<=2 ^ 64) Ab hm;show{_,O,_,_,O,O,{(Aa),Aa},_,_,O,O,(by change(0:Int) <12;decide),p,_,_,_,O,O,BX.of Ax,hx,i,hi,O,AZ hp}
 rintro σ' H1 ⟨m,hm,rfl,s1⟩;show BV (λσ' H'=>∃c:Int,(1<=c/\c<=100)/\σ'=[Y (.int n),Y<|.int m,Y<|.int c,S]/\Bd H H') ?_ ?_;·show{zl 5,λp hp=>?_};have(x,hx,a5):=RN (xs:=([1,2,5,99,100]:List Int).map V.int) (i:=n/8%5) () (by rw[Aw];change n/8%5<5;lia);have(i,O,hi):=Ms (P:=λi=>1<=i/\i<=100) Ab a5;show{_,O,_,_,O,O,{(Aa),Aa},_,_,O,O,(by change(0:Int) <5;decide),p,_,_,_,O,O,BX.of Ax,hx,i,hi,O,s1.trans<|AZ hp}
 rintro σ' H2 ⟨c,hc,rfl,s2⟩;let tp:∀{H':Hp} {t:AH} {xs:List V},H' t=S->Bd H H'->Bd H (upd H' t<|.tup xs):=λh s=>s.trans<|AZ h;let a2:∀H':Hp,wk H' []:=λ_ x hx=>A3p hx Cw;let j:∀{H':Hp} {xs:List V} {k:Lk} {t:AH} {ys:List V},k.plain->H' t=S->(∀a3:Hp,a3 t=Y (.tup ys)->TL a3 k (.ref t))->wk H' xs->wk (upd H' t<|.tup ys) (xs++[.ref t]):=λhk ht hT hP x hx=>by
  rcases Bt.mp hx with hx|hx;·show hP.sm (Sm.of<|AZ ht) x hx
  rw[AN.mp hx];show{_,hk,hT _ Ax}
 let b0:∀{H':Hp} {xs ys:List V},wk H' xs->wk H' ys->wk H' (xs++ys):=λa b x hx=>(Bt.mp hx).elim (a x)<|b x;show BV (λσ' H'=>∃l xs,xs.length=5/\wk H' xs/\σ'=[Y (.int n),Y<|.int m,Y<|.int c,Y<|.ref l]/\Bd H H'/\H' l=Y (.lst xs)) ?_ ?_
 ·show{zl 1,λt1 h1=>{zl 1,λt2 h2=>{zl 1,λt3 h3=>{_,O,zl 2,λt4 h4=>{_,O,zl 2,λt5 h5=>{zl 5,λp hp=>?_}}}}}};let e1:=j (k:=.truth) trivial h1 (λ_ e=>{(_),O,e}) (a2 H2);let e2:=j (k:=.count) trivial h2 (λ_ e=>{(_),O,e}) e1;let e3:=j (k:=.whole) trivial h3 (λ_ e=>{(_),O,e}) e2;let e5:=j (k:=.text c) hc h5 (λ_ e=>{(_),O,e})<|j (k:=.upto m) hm h4 (λ_ e=>{(_),O,e}) e3;show{p,_,O,e5.sm<|Sm.of (AZ hp),O,(tp h5<|tp h4 (tp h3<|tp h2 (tp h1 s2))).trans<|AZ hp,Ax}
 rintro σ' H3 ⟨l,xs,D,hP,rfl,s3,hl⟩;show BV (λσ' H'=>∃l xs,xs.length=8/\wk H' xs/\σ'=[Y (.int n),Y<|.int m,Y<|.int c,Y<|.ref l]/\Bd H H'/\H' l=Y (.lst xs)) ?_ ?_;·show{_,O,_,O,zl 2,λt1 h1=>{zl 2,λt2 h2=>{zl 1,λt3 h3=>{zl 3,λp hp=>?_}}}};let e2:=j (k:=.text 100) (show(1:Int)<=100/\(100:Int)<=100 by decide) h2 (λ_ e=>{(_),O,e})<|j (k:=.upto m) hm h1 (λ_ e=>{(_),O,e}) (a2 H3);let s4:=(((AZ (u:=.tup [.str "upto",.int m]) h1).trans<|AZ (u:=.tup [.str "text",.int 100]) h2).trans<|AZ (u:=.tup [.str "truth"]) h3).trans<|AZ (u:=.lst [.ref t1,.ref t2,.ref t3]) hp;show{l,p,xs,_,O,O,s4 _ _ hl,Ax,by rw[D];change 8<=sizeLine;decide,λr U=>{r,_,by rw[AI,D];rfl,?_,O,(s3.trans s4).trans<|AZ U,Ax}};show(b0 (hP.sm<|Sm.of s4)<|(j (k:=.truth) trivial h3 (λ_ e=>{(_),O,e}) e2).sm (Sm.of<|AZ hp)).sm (Sm.of<|AZ U)
 rintro σ' H4 ⟨l,xs,D,hP,rfl,s4,hl⟩;let(x,hx,a4):=RN (xs:=xs) (i:=n%8) () ();let(k,hk,hT):=hP x a4;show{_,O,_,O,_,_,O,O,(by change(0:Int) <8;decide),l,_,_,_,O,O,BX.of hl,hx,q k hk x H4 s4 hT}
def in3(a:Int)(x y z:Int):L2.Ym (.int a) [.int x,.int y,.int z]=decide (a=x\/a=y\/a=z):=by
 unfold L2.Ym;simp only[Ja,List.any_nil,zm,Bool.or_false]
 grind
def uj(T:Tx K mg):∅ 2 1024 ["_law_number_here","_law_ahead"] sF:=by
 show(T.df 40 O).okA bT ?_;intro 1 hr h;let(n,m,O,h0,h1,q):=h;show{_,AY (qS 2 bT.nd<|qD (@ue P w K mg base T) hr (T.d1 39 O λ_ _ _ _ _ _ _=>rfl) (CK<|Bb Dc (pv 0) AF))<|AY (qi (PW.pt<|FT (qc TR (pv 1) AF) (Fu<|Lu Mq (Bb CD (pv 0) AF) (Cn<|Bc AF (Cv AF AF)) O))<|Cc (qS 2 bT.nd<|Cn (Cv AE<|Bb CD (Bb Dc (pv 0) AF) (pv 1)))) (AW (qi (Lu Mq (Bb CD (pv 0) AF) (Cn<|Bc AF (Cv AF AF)) O)<|qr (Cn<|Cv AE (pv 2)))<|qr (pv 2)),?_};show BV (λσ' H'=>∃k:Lk,k.plain/\∃u,TL H' k u/\σ'=[Y (.int n),Y<|.int m,Y u]/\Bd H H') ({_,O,_,_,O,O,{(Aa),Aa},n/16,O,(),(),λk j u H' s' D=>{(k),j,u,D,O,s'}}) ?_;rintro σ' H1 ⟨k,j,u,D,rfl,s1⟩;show BV (λσ' H'=>∃k:Lk,(k.plain\/∃i,k= .form i/\i<m/\(n%16=3\/n%16=9\/n%16=14))/\∃u,TL H' k u/\σ'=[Y (.int n),Y<|.int m,Y u]/\Bd H H') ?_ ?_;·show{_,O,_,_,O,O,_,O,Hs (λhm=>?_) λhm=>{k,.inl j,u,D,O,s1}};let F:=A3l hm;show{_,O,_,_,O,O,(by change(0:Int) <16;decide),zl 3,λp hp=>{p,_,O,.inr<|GK.of Ax,O,O,_,O,?_}};let s2:=s1.trans<|AZ (u:=.tup [.int 3,.int 9,.int 14]) hp;rw[in3];show Hs (λhi=>?_) λhi=>{k,.inl j,u,D.sm<|Sm.of (AZ hp),O,s2};let U:=A3l hi;let a3:=IH (n/16) F;show{_,O,_,_,O,O,{(Aa),Aa},_,O,_,_,O,O,F,zl 2,λt ht=>{.form (n/16%m).toNat,.inr {_,O,(),U},.ref t,{t,O,?_},O,s2.trans<|AZ ht}};rw[Ax,LG a3.1]
 rintro σ' H2 ⟨k,j,u,D,rfl,s2⟩;show{_,O,_,_,O,O,(by change(0:Int) <16;decide),zl 3,λp hp=>{p,_,O,.inr<|GK.of Ax,O,O,_,O,?_}};let s3:=s2.trans<|AZ (u:=.tup [.int 5,.int 9,.int 12]) hp;let a1:=D.sm<|Sm.of (AZ (u:=.tup [.int 5,.int 9,.int 12]) hp);rw[in3];show Hs (λhi=>?_) λhi=>?_
 ·show{_,O,zl 2,λt ht=>?_};show q (.list k) ?_ (λi z=>by cases z) _ _ (s3.trans<|AZ ht) {t,u,O,Ax,a1.sm<|Sm.of (AZ ht)};rcases j with j|⟨i,e,hi,_⟩
  ·show .inl j
  show .inr {(i),e,hi}
 let U:¬ (n%16=5\/n%16=9\/n%16=12):=λz=>hi<|A3j z;show{_,O,q k ?_ (λi e=>?_) _ _ s3 a1}
 ·rcases j with j|⟨i,rfl,hi,_⟩
  ·cases k with|form i=>show j.elim|list k=>show j.elim|_=>show j
  show hi
 rcases j with j|⟨i',e',a6,h3⟩;·rw[e]at j;show j.elim
 lia
def DA:Lk->Dt|.truth=>.bl ge|.text _=>.str ""|.list _=>.lst []|.form _=>.non|_=>.int 0
def zn(m:AH):List (Ib×V):=[(.inr "truth",.bl ge),(.inr "text",.str ""),(.inr "list",.ref m),(.inr "form",.non)]
def Pp(m:AH)(z:AO):V:=(Jt (LQ []<|zn m)<|.inr z).getD<|.int 0
def aV(m:AH):Pp m "truth"= .bl false:=by kernel_rfl
def gL(m:AH):Pp m "text"= .str "":=by kernel_rfl
def gM(m:AH):Pp m "list"= .ref m:=by kernel_rfl
def gN(m:AH):Pp m "form"= .non:=by kernel_rfl
def aW(m:AH):Pp m "count"= .int 0:=by kernel_rfl
def aU(m:AH):Pp m "whole"= .int 0:=by kernel_rfl
def gK(m:AH):Pp m "upto"= .int 0:=by kernel_rfl
def Q8(h:H m=Y (.lst []))(k:Lk):Th H (DA k) (Pp m k.word):=by cases k with|truth=>show aV m|count=>show aW m|whole=>show aU m|upto n=>show gK m|text n=>show{gL m,Aa}|form z=>show gN m|list j=>show{m,[],gM m,h,O,Aa}
def Fz(H:Hp)(v:V):Prop:=∀m,v= .ref m->H m=S
def Q9(h:H m=S)(k:Lk):Fz H (Pp m k.word):=by intro D e;cases k with|truth=>rw[show Pp m (Lk.truth).word= .bl ge from aV m]at e;cases e|count=>rw[show Pp m (Lk.count).word= .int 0 from aW m]at e;cases e|whole=>rw[show Pp m (Lk.whole).word= .int 0 from aU m]at e;cases e|upto n=>rw[show Pp m (Lk.upto n).word= .int 0 from gK m]at e;cases e|text n=>rw[show Pp m (Lk.text n).word= .str "" from gL m]at e;cases e|form z=>rw[show Pp m (Lk.form z).word= .non from gN m]at e;cases e|list j=>rw[show Pp m (Lk.list j).word= .ref m from gM m]at e;cases e;show h
def NU:Yn (x::xs) 0=Y x:=by show(FN (xs:=x::xs) (j:=0) (v:=x) O)
def dA:Yn (x::y::xs) 1=Y y:=by show(FN (xs:=x::y::xs) (j:=1) (v:=y) O)
def RP:Lk->Dt->Prop|.truth,d=>d= .bl Z|.text n,d=>∃z,d= .str z/\Co z=Z/\(z.length:Int)<=n|.upto m,d=>∃i,d= .int i/\0<=i/\i<=m|.whole,d=>∃i,d= .int i/\ -2147483648<=i/\i<=2147483648|.count,d=>∃i,d= .int i/\0<=i/\i<=2147483648|_,_=>False
inductive kI(vs:List V)(H:Hp)(Q:VK):Prop|mk (v k:_) (_:vs=[v]) (_:TL H k v) (_:∀u H',Bd H H'->Th H' (DA k) u->Fz H u->Q u H')
def oq:Sp:=λvs H Q _=>kI vs H Q
inductive db(vs:List V)(H:Hp)(Q:VK):Prop|mk (v k n:_) (_:vs=[v,.int n]) (_:TL H k v) (_:k.plain) (_:0<=n) (_:n<2147483648) (_:∀d,RP k d->∀u H',Bd H H'->Th H' d u->Q u H')
def eK:Sp:=λvs H Q _=>db vs H Q
def yS{c:Int}{n:Nat}(h: (n:Int)<=c):NQ S (Y c) 1 n=NQ S (Y (n:Int)) 1 n:=by
 unfold NQ
 grind
def OZ(z:AO)(h:1<=c):sg (Cq z S<|Y c)=(sg z).take c.toNat:=by
 by_cases hc:c<=z.length;·rw[show c=((c.toNat:Nat):Int)by lia,Oh _ _ ()];rfl
 let e:Cq z S (Y c)=Cq z S (Y (z.length:Int)):=by unfold Cq;rw[yS ()]
 rw[e,Oh _ _<|AU _,<-Fj,Fk,GM (by rw[Fj];lia)]
def Ks(h:Co z=Z):1<=z.length/\z.length<=12/\(sg z).all (wP dC)=true:=by
 unfold Co TV at h
 grind
def uy(h:Co z=Z)(hc:1<=c):Co (Cq z S<|Y c)=Z/\((Cq z S<|Y c).length:Int)<=c:=by
 let(h1,h2,h3):=Ks h;let e:=OZ z hc;let j: (Cq z S<|Y c).length=min c.toNat z.length:=by rw[<-Fj,e,BG,Fj]
 show{?_,()};unfold Co TV
 grind
def ax(T:Tx K mg):∅ 1 1031 ["_law_kind_here"] oq:=by
 show(T.df 41 O).okA tf ?_;intro 1 U h;let(v,k,O,D,q):=h;show{_,qr<|tR (Ny U) (ck (GY AE ER<|GY AE AE (GY AE (Ci FU)<|GY AE DJ cf)) O O Aa Aa) (TQ (pv 0) AF) AF {(O),O,O,O},?_};let(t,ys,O,F):=D.word;show λp hp=>{zl 0,λm hm=>{by rw[AT (λz=>by rw[<-z,Ax]at hm;cases hm)];show Ax,zn m,O,by change 4<=15;decide,?_}};let s4:Bd H (upd (upd (upd H p<|.dK []) m<|.lst []) p<|.dK (LQ []<|zn m)):=Bd.put ((AZ hp).trans<|AZ hm) hp;let j:m≠p:=λz=>by rw[z,Ax]at hm;cases hm
 let e4: (upd (upd (upd H p<|.dK []) m<|.lst []) p<|.dK (LQ []<|zn m)) m=Y (.lst []):=by rw[AT j];show Ax
 show{p,O,.inl {_,.inl Ax},_,O,t,_,_,_,O,O,GK.of<|s4 _ _ F,NU,_,Ic.k (k:=.inr k.word) Ax,q _ _ s4 (Q8 e4 k)<|Q9 ((AZ hp).free hm) k}
def fQ(T:Tx K mg):∅ 2 1038 Ak eK:=by
 show(T.df 42 O).okA jm ?_;intro 1 hr h;let(v,k,n,O,hv,hk,h0,h1,q):=h;show{_,AW (qi (qc Do (TQ (pv 0) AF) AE)<|qr ER)<|AW (qi (qc Do (TQ (pv 0) AF) AE)<|qr (DE Oi (MK (qD (@fP P w K mg base T) hr T.Vk<|Cv (pv 1) AF) AF) Ek<|Ej (TQ (pv 0) AF))) (AW (qi (qc Do (TQ (pv 0) AF) AE)<|qr (MK (Ci<|Bc AF (Cv (TQ (pv 0) AF)<|Bb CD (pv 1) (Bb CS (TQ (pv 0) AF) AF)))<|Bb CD (Bb Dc (pv 1) AF) AF))<|AW (qi (qc Do (TQ (pv 0) AF) AE)<|qr (MK (Ci<|Bc (lQ bI AF) (Bc AF<|Cv (pv 1) (Bb Wf AF<|pv 1)))<|Bb CD (Bb Dc (pv 1) AF) AF)) (qr<|MK (Ci<|Bc AF (Bc AF<|Cv AF (pv 1))) (Bb CD (Bb Dc (pv 1) AF) AF))),?_};have(t,ys,O,D):=hv.word;show{_,O,t,_,_,_,O,O,GK.of D,NU,O,_,O,?_};cases k with
 |form i=>show hk.elim|list k=>show hk.elim|truth=>show Gc O<|q _ O _ H (Bd.refl _) O
 |text c=>
  let(t',e',F):=hv;obtain rfl:t=t':=V.ref.inj e';show EN (show ¬V.str "text"=V.str "truth" by decide+kernel) {_,O,t,_,_,_,O,O,GK.of D,NU,O,_,O,Gc O ?_};show{_,O,n,1,O,h0,h1,Aa,λzs hz hok l H2 hl s2 e2=>?_}
  match zs,hz with
  |[z],_=>
   let U:=(hok.ok z<|AN.mpr O).1;let a1:=(Ks U).2.1;let(r1,r2):=uy U hk.1;show{l,_,_,_,O,O,BX.of e2,NU,_,O,t,_,_,_,O,O,GK.of<|s2 _ _ F,dA,_,O,z,O,AR a1 Aa,?_};show q _ {(_),O,r1,r2} _ _ s2 {O,?_};show AR (Tn _ _ _)<|AR a1 Aa
 |upto m=>
  let(t',e',F):=hv;obtain rfl:t=t':=V.ref.inj e';show EN (show ¬V.str "upto"=V.str "truth" by decide+kernel) {_,O,t,_,_,_,O,O,GK.of D,NU,O,_,O,EN (show ¬V.str "upto"=V.str "text" by decide+kernel) {_,O,t,_,_,_,O,O,GK.of D,NU,O,_,O,Gc O ?_}};let b1:=hk.1;let b0:=IH n (b:=m+1) ();show{_,O,t,_,_,_,O,O,GK.of F,dA,_,O,_,O,t,_,_,_,O,O,GK.of F,dA,_,_,O,O,_,_,O,O,(by change(0:Int) <m+1;lia),zl 3,λp hp=>?_};let(x,hx,j):=RN (xs:=([1,m,n% (m+1)]:List Int).map V.int) (i:=n/7%3) () (by rw[Aw];change n/7%3<3;lia);let(i,O,hi):=Ms (P:=λi=>0<=i/\i<=m) (by
   intro i hi;simp only[AM,Cw,or_false]at hi;rcases hi with rfl|rfl|rfl <;> lia) j
  show{_,O,_,_,O,O,{(Aa),Aa},_,_,O,O,(by change(0:Int) <3;decide),p,_,_,_,O,O,BX.of Ax,hx,q _ {(i),O,hi} _ _ (AZ hp) O}
 |whole=>
  show EN Ab {_,O,t,_,_,_,O,O,GK.of D,NU,O,_,O,EN Ab {_,O,t,_,_,_,O,O,GK.of D,NU,O,_,O,EN Ab {_,O,t,_,_,_,O,O,GK.of D,NU,O,_,O,Gc O ?_}}};show{_,O,_,O,_,O,_,_,O,O,zl 4,λp hp=>?_};let(x,hx,j):=RN (xs:=([-1,1,n,0 - n]:List Int).map V.int) (i:=n/7%4) () (by rw[Aw];change n/7%4<4;lia);let(i,O,hi):=Ms (P:=λi=>-2147483648<=i/\i<=2147483648) (by
   intro i hi;simp only[AM,Cw,or_false]at hi;rcases hi with rfl|rfl|rfl|rfl <;> lia) j
  show{_,O,_,_,O,O,{(Aa),Aa},_,_,O,O,(by change(0:Int) <4;decide),p,_,_,_,O,O,BX.of Ax,hx,q _ {(i),O,hi} _ _ (AZ hp) O}
 |count=>
  show EN Ab {_,O,t,_,_,_,O,O,GK.of D,NU,O,_,O,EN Ab {_,O,t,_,_,_,O,O,GK.of D,NU,O,_,O,EN Ab {_,O,t,_,_,_,O,O,GK.of D,NU,O,_,O,EN Ab ?_}}};show{_,O,zl 4,λp hp=>?_};let(x,hx,j):=RN (xs:=([1,127,128,n]:List Int).map V.int) (i:=n/7%4) () (by rw[Aw];change n/7%4<4;lia);let(i,O,hi):=Ms (P:=λi=>0<=i/\i<=2147483648) (by
   intro i hi;simp only[AM,Cw,or_false]at hi;rcases hi with rfl|rfl|rfl|rfl <;> lia) j
  show{_,O,_,_,O,O,{(Aa),Aa},_,_,O,O,(by change(0:Int) <4;decide),p,_,_,_,O,O,BX.of Ax,hx,q _ {(i),O,hi} _ _ (AZ hp) O}
structure SF where
 num:Int
 nam:AO
 kind:Lk
 must:Bool
 dfl:Dt
def bR(f:SF)(kv dv:V):List (Ib×V):=[(.inr "number",.int f.num),(.inr "name",.str f.nam),(.inr "kind",kv),(.inr "must",.bl f.must),(.inr "default",dv)]
def di(H:Hp)(f:SF)(v:V):Prop:=∃a kv dv,v= .ref a/\H a=Y (.dK<|bR f kv dv)/\TL H f.kind kv/\Th H f.dfl dv
def wI(H0 H:Hp)(f:SF)(v:V):Prop:=∃a kv dv,v= .ref a/\H a=Y (.dK<|bR f kv dv)/\TL H f.kind kv/\Th H f.dfl dv/\Fz H0 dv
def di.sm(s:Sm H H'):di H f v->di H' f v:=λj=>by
 let(a,kv,dv,e,h,h1,h2):=j;show{a,kv,dv,e,s _ _ h O,h1.sm s,Th.sm s _ _ h2}
def oG(f:SF)(kv dv:V):Jt (bR f kv dv) (.inr "number")=Y (.int f.num):=by kernel_rfl
def xG(f:SF)(kv dv:V):Jt (bR f kv dv) (.inr "name")=Y (.str f.nam):=by kernel_rfl
def xI(f:SF)(kv dv:V):Jt (bR f kv dv) (.inr "kind")=Y kv:=by kernel_rfl
def xH(f:SF)(kv dv:V):Jt (bR f kv dv) (.inr "must")=Y (.bl f.must):=by kernel_rfl
def jf(f:SF)(kv dv:V):Jt (bR f kv dv) (.inr "default")=Y dv:=by kernel_rfl
structure wj(m:Nat)(W:List Int)(c:Bool)(f:SF):Prop where
 kind:f.kind.ok m
 must:c=Z->f.must=ge
 light:∀i,f.kind= .form i->f.must=Z->W.getD i 0<=8
 dfl:f.dfl=DA f.kind\/(f.must=ge/\c=ge/\RP f.kind f.dfl)
def FJ(W:List Int):Lk->Int|.form i=>W.getD i 0|_=>1
def IF(W:List Int)(c:Bool)(fs:List SF):Int:=if c then 1+cz (fs.map λf=>FJ W f.kind)else 1+ ((fs.filter (·.must)).map λf=>FJ W f.kind).sum
def WBd(W:List Int):Prop:=∀x∈W,0<=x/\x<=1000
def yz(h:WBd W)(hm:W.length=m)(j:k.ok m):0<=FJ W k/\FJ W k<=1000:=by
 cases k with
 |form i=>
  let hi:i<W.length:=by rw[hm];show j
  change 0<=W.getD i 0/\W.getD i 0<=1000;rw[Bj,AA hi];show h _<|OT hi
 |_=>show ub
inductive qU(vs:List V)(H:Hp)(Q:VK):Prop|mk (n mark:Int) (nm:AO) (m:Nat) (wl:AH) (W:List Int) (c:Bool) (_:vs=[.int n,.int mark,.str nm,.int m,.ref wl,.bl c]) (_:H wl=some (.lst<|W.map V.int)) (_:W.length=m) (_:0<=n) (_:n<2147483648) (_:∀f,f.num=mark->f.nam=nm->wj m W c f->(∀i,f.kind= .form i->n%16=3\/n%16=14)->∀u H',Bd H H'->wI H H' f u->Q u H')
def sI:Sp:=λvs H Q _=>qU vs H Q
inductive ww(vs:List V)(H:Hp)(Q:VK):Prop|mk (v k wl W:_) (_:vs=[v,.ref wl]) (_:TL H k v) (_:H wl=some (.lst<|MI V.int W)) (_:k.ok W.length) (_:Q (.int<|FJ W k) H)
def xr:Sp:=λvs H Q _=>ww vs H Q
def uR(k:Lk):L2.Ym (.str k.word) [.str "list",.str "form"]=(match k with|.list _=>Z|.form _=>Z|_=>ge):=by cases k with|truth=>show(by decide+kernel:L2.Ym (.str "truth") [.str "list",.str "form"]=ge)|count=>show(by decide+kernel:L2.Ym (.str "count") [.str "list",.str "form"]=ge)|whole=>show(by decide+kernel:L2.Ym (.str "whole") [.str "list",.str "form"]=ge)|upto n=>show(by decide+kernel:L2.Ym (.str "upto") [.str "list",.str "form"]=ge)|text n=>show(by decide+kernel:L2.Ym (.str "text") [.str "list",.str "form"]=ge)|form z=>show(by decide+kernel:L2.Ym (.str "form") [.str "list",.str "form"]=Z)|list j=>show(by decide+kernel:L2.Ym (.str "list") [.str "list",.str "form"]=Z)
def rT{k:Lk}:decide (V.str k.word=V.str "form")=(match k with|.form _=>Z|_=>ge):=by cases k with|truth=>show(by decide+kernel:decide (V.str "truth"=V.str "form")=ge)|count=>show(by decide+kernel:decide (V.str "count"=V.str "form")=ge)|whole=>show(by decide+kernel:decide (V.str "whole"=V.str "form")=ge)|upto n=>show(by decide+kernel:decide (V.str "upto"=V.str "form")=ge)|text n=>show(by decide+kernel:decide (V.str "text"=V.str "form")=ge)|form z=>show(by decide+kernel:decide (V.str "form"=V.str "form")=Z)|list j=>show(by decide+kernel:decide (V.str "list"=V.str "form")=ge)
def cJ: [V.str "list",.str "form"].all Nz=true:=⋯
def Z9(a b c d:V):List (Ib×V):=[(.inr "number",a),(.inr "name",b),(.inr "kind",c),(.inr "must",d)]
def N3(a b c d:V):LQ [] (Z9 a b c d)=Z9 a b c d:=by kernel_rfl
def A1I(f:SF)(kv dv:V):La (Z9 (.int f.num) (.str f.nam) kv<|.bl f.must) (.inr "default") dv=bR f kv dv:=by kernel_rfl
def w4(f j:SF)(kv dv dw:V)(h1:j.num=f.num)(h2:j.nam=f.nam)(h3:j.must=f.must):La (bR f kv dv) (.inr "default") dw=bR j kv dw:=by unfold bR;rw[h1,h2,h3];kernel_rfl
def wf(hp:H p=Y (.dK kvs))(h:Th H (DA k) u):Th (upd H p o) (DA k) u:=by
 cases k with
 |list k=>
  let(a,xs,O,ha,hx,j):=h;show{a,xs,O,?_,hx,j};rw[AT];·show ha
  grind
 |_=>show h
def wg(hp:H p=Y (.dK kvs)):∀{k:Lk} {u:V},TL H k u->TL (upd H p o) k u:=by
 let ne:∀{a:AH} {xs:List V},H a=Y (.tup xs)->upd H p o a=Y (.tup xs):=λe=>by
  rw[AT];·show e
  grind
 intro k;induction k with|truth=>show λa3=>(by let(a,e,h):=a3;show{a,e,ne h})|count=>show λa2=>(by let(a,e,h):=a2;show{a,e,ne h})|whole=>show λa1=>(by let(a,e,h):=a1;show{a,e,ne h})|upto n=>show λU=>(by let(a,e,h):=U;show{a,e,ne h})|text n=>show λF=>(by let(a,e,h):=F;show{a,e,ne h})|form n=>show λD=>(by let(a,e,h):=D;show{a,e,ne h})|list k ih=>show λz=>(by let(a,u,e,h,j):=z;show{a,u,e,ne h,ih j})
def C9(hd:RP k d)(h:Th H d u):Th H' d u:=by cases k with|truth=>rw[show d= .bl Z from hd]at h ⊢;show h|text n=>let(z,O,_):=hd;show h|upto m=>let(i,O,_):=hd;show h|whole=>let(i,O,_):=hd;show h|count=>let(i,O,_):=hd;show h|form i=>show hd.elim|list k=>show hd.elim
def z0(hd:RP k d)(h:Th H d u):Fz H0 u:=by intro m e;subst e;cases k with|truth=>rw[show d= .bl Z from hd]at h;cases h|text n=>let(z,O,_):=hd;cases h.1|upto m=>let(i,O,_):=hd;cases h|whole=>let(i,O,_):=hd;cases h|count=>let(i,O,_):=hd;cases h|form i=>show hd.elim|list k=>show hd.elim
def fN{m:Nat}{k:Lk}(h:k.ok m)(h1:∀j,k≠ .list j)(h2:∀i,k≠ .form i):k.plain:=by cases k with|list j=>show A3p O<|h1 j|form i=>show A3p O<|h2 i|_=>show h
def yk(T:Tx K mg):∅ 1 1052 Al xr:=by
 show(T.df 44 O).okA xL ?_;intro _ _ _ _ H _ Q _ hr h X_ D_;let(v,k,wl,W,O,D,hw,hk,q):=h;show{_,qr<|HM (qc Do (TQ (pv 0) AF) AE) (MK (pv 1)<|TQ (pv 0) AF) AF,?_};let(t,ys,O,U):=D.word;show{_,O,t,_,_,_,O,O,GK.of U,NU,O,_,O,?_};rw[rT];cases k with
 |form i=>
  have(t',e',z):=D;obtain rfl:t=t':=V.ref.inj e';let hi:=hk;show CP {_,O,_,O,t,_,_,_,O,O,GK.of z,dA,wl,_,_,_,O,O,BX.of hw,FN (j:=i) (by rw[Be,AA hi];rfl),?_};let e:FJ W (.form i)=W[i]'hi:=by change W.getD i 0=_;rw[Bj,AA hi];rfl
  rw[e]at q;show q
 |_=>show BW q
def um(T:Tx K mg):∅ 4 1045 ["_law_number_here","_law_mark","_law_name","_law_ahead","_law_weights","_law_is_choice"] sI:=by
 show(T.df 43 O).okA Om ?_;intro _ _ _ _ H _ Q _ hr h X_ D_;let(n,mark,nm,m,wl,W,c,O,hw,b5,h0,h1,q):=h;let a5:=Ny hr;show{_,AY (qS 6 Om.nd<|qD (@uj P w K mg base T) hr (T.d2 40 O λ_ _ _ _ _ _ _ _=>rfl) (Cv (pv 0)<|pv 3))<|AY (qS 7 Om.nd<|JP (tO<|pv 5) (JO<|GH Do (Bb CD (Bb Dc (pv 0) AF) AF) AF (IJ _))) (AY (qi (PW.pt<|FT (qc Do (TQ (pv 6) AF) AE) (Fu<|BN (pv 7)))<|Cc (qS 7 Om.nd<|GH au (MK (pv 4)<|TQ (pv 6) AF) AF (IJ _)))<|AY (qS 8 Om.nd<|ck (GY AE (pv 1)<|GY AE (pv 2) (GY AE (pv 6)<|GY AE (pv 7) cf)) O O Aa Aa) (AY (UQ a5 (pv 8) AE (qD (@ax P w K mg base T) hr T.dM<|CK (pv 6)) O)<|AY (qi (PW.pt<|FT (Lu Rh (TQ (pv 6) AF) (Cn<|Cv AE AE) O) (FT (Dn<|BN (pv 7))<|FT (Dn<|BN (pv 5)) (Fu<|qc Do (Bb CD (Bb Dc (pv 0) AF) AF) AF)))<|Cc (UQ a5 (pv 8) AE (qD (@fQ P w K mg base T) hr (T.d2 42 O λ_ _ _ _ _ _ _ _=>rfl)<|Cv (pv 6) (Bb Dc (pv 0) AF)) O)) (qr<|pv 8))),?_};show BV (λσ' H'=>∃(k:Lk) (kv:V),k.ok m/\(∀i,k= .form i->n%16=3\/n%16=14)/\TL H' k kv/\Bd H H'/\σ'=[Y (.int n),Y<|.int mark,Y<|.str nm,Y<|.int m,Y<|.ref wl,Y<|.bl c,Y kv,S,S]) ({_,O,_,O,n,m,O,h0,h1,λk hk hf u H' s' hT=>{(k),u,hk,hf,hT,s',O}}) ?_;rintro σ' H1 ⟨k,kv,hk,hf,hT,s1,rfl⟩;show BV (λσ' H'=>∃b:Bool,(c=Z->b=ge)/\H1=H'/\σ'=[Y (.int n),Y<|.int mark,Y<|.str nm,Y<|.int m,Y<|.ref wl,Y<|.bl c,Y kv,Y<|.bl b,S]) ?_ ?_
 ·show{_,O,_,O,_,O,?_};cases c with|true=>show BW {ge,λ_=>rfl,O,O}|false=>show CP {_,O,_,_,O,O,{(Aa),Aa},_,_,O,O,(by change(0:Int) <4;decide),O,{_,λz=>(by cases z),O,O}}
 rintro σ' d0 ⟨b0,a8,rfl,rfl⟩;show BV (λσ' H'=>∃b:Bool,(c=Z->b=ge)/\(∀i,k= .form i->b=Z->W.getD i 0<=8)/\H1=H'/\σ'=[Y (.int n),Y<|.int mark,Y<|.str nm,Y<|.int m,Y<|.ref wl,Y<|.bl c,Y kv,Y<|.bl b,S]) ?_ ?_
 ·let(t,ys,O,ht):=hT.word;show{_,O,t,_,_,_,O,O,GK.of ht,NU,O,_,O,?_};rw[rT];cases k with
  |form i=>
   have(t',e',b7):=hT;obtain rfl:t=t':=V.ref.inj e';show CP {_,O,_,O,?_};cases b0 with
   |false=>show BW {ge,λ_=>rfl,(λ_ _ z=>by cases z),O,O}
   |true=>
    let hi:i<W.length:=by rw[b5];show hk
    show CP {_,O,_,O,t,_,_,_,O,O,GK.of b7,dA,wl,_,_,_,O,O,BX.of<|s1 _ _ hw,FN (j:=i) (by rw[Be,AA hi];rfl),_,_,O,O,?_};show{_,λhc=>A3p (a8 hc) Aa,λj ej hb=>?_,O,O};cases ej;rw[Bj,AA hi];show A3l hb
  |_=>show BW {b0,a8,(λ_ z=>by cases z),O,O}
 rintro σ' d0 ⟨b,hb,c3,rfl,rfl⟩;show BV (λσ' H'=>∃p,H p=S/\TL H' k kv/\Bd H H'/\H' p=Y (.dK<|Z9 (.int mark) (.str nm) kv (.bl b))/\σ'=[Y (.int n),Y<|.int mark,Y<|.str nm,Y<|.int m,Y<|.ref wl,Y<|.bl c,Y kv,Y<|.bl b,Y<|.ref p]) ?_ ?_
 ·show λp hp=>{_,O,_,O,_,O,_,O,Ax,Z9 (.int mark) (.str nm) kv<|.bl b,O,by change 4<=15;decide,p,(s1.free hp),?_,?_,?_,O}
  ·rw[Lp];show hT.sm<|Sm.of (AZ hp)
  ·rw[Lp];show s1.trans<|AZ hp
  rw[Ax,N3]
 rintro σ' H2 ⟨p,a6,a9,s2,hp,rfl⟩;show BV (λσ' H'=>∃dv,TL H' k kv/\Th H' (DA k) dv/\Fz H dv/\Bd H H'/\H' p=Y (.dK<|bR {mark,nm,k,b,DA k} kv dv)/\σ'=[Y (.int n),Y<|.int mark,Y<|.str nm,Y<|.int m,Y<|.ref wl,Y<|.bl c,Y kv,Y<|.bl b,Y<|.ref p]) ?_ ?_
 ·show{_,O,kv,k,O,a9,λu H3 U b6 a1=>{_,O,p,_,O,ir.k (k:=.inr "default") (U _ _ hp) (by change 4<sizeLine;decide),u,(wg (U _ _ hp)<|a9.sm (Sm.of U)),?_,(λm e=>s2.free<|a1 m e),?_,?_,O}}
  ·show wf (U _ _ hp) b6
  ·show(s2.trans U).put a6
  rw[Ax,<-A1I {mark,nm,k,b,DA k} kv u]
 rintro σ' H3 ⟨dv,F,c5,a1,U,a2,rfl⟩;show BV (λσ' H'=>∃f dv,f.num=mark/\f.nam=nm/\f.kind=k/\f.must=b/\(f.dfl=DA k\/(b=ge/\c=ge/\RP k f.dfl))/\TL H' k kv/\Th H' f.dfl dv/\Fz H dv/\Bd H H'/\H' p=Y (.dK<|bR f kv dv)/\σ'=[Y (.int n),Y<|.int mark,Y<|.str nm,Y<|.int m,Y<|.ref wl,Y<|.bl c,Y kv,Y<|.bl b,Y<|.ref p]) ?_ ?_
 ·let keep:∀H',Bd H3 H'->∃f dv,f.num=mark/\f.nam=nm/\f.kind=k/\f.must=b/\(f.dfl=DA k\/(b=ge/\c=ge/\RP k f.dfl))/\TL H' k kv/\Th H' f.dfl dv/\Fz H dv/\Bd H H'/\H' p=Y (.dK<|bR f kv dv)/\[Y (V.int n),Y<|.int mark,Y<|.str nm,Y<|.int m,Y<|.ref wl,Y<|.bl c,Y kv,Y<|.bl b,Y<|.ref p]=[Y (.int n),Y<|.int mark,Y<|.str nm,Y<|.int m,Y<|.ref wl,Y<|.bl c,Y kv,Y<|.bl b,Y<|.ref p]:=λH' s'=>{{mark,nm,k,b,DA k},dv,O,O,O,O,.inl O,F.sm<|Sm.of s',Th.sm (Sm.of s') _ _ c5,a1,U.trans s',s' _ _ a2,O};let(t,ys,O,ht):=F.word;show{_,O,t,_,_,_,O,O,GK.of ht,NU,zl 2,λr b9=>{r,_,O,.inr<|GK.of Ax,O,cJ,_,O,?_}};let s4:=AZ (H:=H3) (u:=.tup [.str "list",.str "form"]) b9;rw[uR];by_cases a3: (∃j,k= .list j)\/∃i,k= .form i
  ·rcases a3 with⟨j,rfl⟩|⟨i,rfl⟩
   ·show BW<|keep _ s4
   show BW<|keep _ s4
  let c1:=fN hk (λj e=>a3<|.inl {(j),e}) λi e=>a3<|.inr {(i),e};let e1: (match k with|.list _=>Z|.form _=>Z|_=>ge)=false:=by simp_all
  rw[e1];show CP {_,O,_,O,?_};cases b with
  |true=>show BW<|keep _ s4
  |false=>
   show CP {_,O,_,O,?_};cases c with
   |true=>show BW<|keep _ s4
   |false=>
    show CP {_,O,_,_,O,O,{(Aa),Aa},_,_,O,O,(by change(0:Int) <3;decide),O,_,O,Hs (λ_=>?_) λ_=>keep _ s4};show{_,O,_,O,_,_,O,O,{(Aa),Aa},_,k,n/5,O,F.sm<|Sm.of s4,c1,(),(),λd hd u H5 s5 a4=>?_};let D:=s4.trans s5;show{_,O,p,_,O,ir.k (k:=.inr "default") (D _ _ a2) (by change 5<sizeLine;decide),{(mark),nm,k,ge,d},u,O,O,O,O,.inr {(O),O,hd},wg (D _ _ a2)<|F.sm (Sm.of D),C9 hd a4,z0 hd a4,(U.trans D).put a6,?_,O};rw[Ax,w4 {mark,nm,k,ge,DA k} {(mark),nm,k,ge,d} _ dv u O O O]
 rintro σ' H4 ⟨f,dv,e1,e2,e3,e4,hd,c7,c4,b4,s4,c2,rfl⟩;show{_,O,q f e1 e2 {by rw[e3];show hk,λhc=>by rw[e4];show hb hc,λi e hm=>c3 i (by rw[<-e3];show e) (by rw[<-e4];show hm),by rw[e3,e4];show hd} (λi e=>hf i<|by rw[<-e3];show e) _ _ s4 {p,kv,dv,O,c2,by rw[e3];show c7,c4,b4}}
structure SG where
 nam:AO
 choice:Bool
 gone:List Int
 fields:List SF
def rn(g:SG)(gl fl:AH):List (Ib×V):=[(.inr "name",.str g.nam),(.inr "choice",.bl g.choice),(.inr "gone",.ref gl),(.inr "fields",.ref fl)]
def XF(H:Hp)(g:SG)(v:V):Prop:=∃a gl fl xs,v= .ref a/\H a=Y (.dK<|rn g gl fl)/\H gl=Y (.lst<|g.gone.map V.int)/\H fl=Y (.lst xs)/\Paired (di H) g.fields xs
def XF.sm(s:Sm H H'):XF H g v->XF H' g v:=λj=>by
 let(a,gl,fl,xs,e,h,h1,h2,h3):=j;show{a,gl,fl,xs,e,s _ _ h O,s _ _ h1 O,s _ _ h2 O,L2.Paired.imp' (λ_ _ z=>z.sm s) h3}
def xC(g:SG)(gl fl:AH):Jt (rn g gl fl) (.inr "name")=Y (.str g.nam):=by kernel_rfl
def oz(g:SG)(gl fl:AH):Jt (rn g gl fl) (.inr "choice")=Y (.bl g.choice):=by kernel_rfl
def xF(g:SG)(gl fl:AH):Jt (rn g gl fl) (.inr "gone")=Y (.ref gl):=by kernel_rfl
def oy(g:SG)(gl fl:AH):Jt (rn g gl fl) (.inr "fields")=Y (.ref fl):=by kernel_rfl
section
variable{H:Hp}{p:AH}
def LU(h:H p=Y (.dK<|bR f kv dv)):Ic H p (.str "number") (Y<|.int f.num):=by have:=Ic.k (k:=.inr "number") h;rw[oG]at this;show this
def TZ(h:H p=Y (.dK<|bR f kv dv)):Ic H p (.str "name") (Y<|.str f.nam):=by have:=Ic.k (k:=.inr "name") h;rw[xG]at this;show this
def He(h:H p=Y (.dK<|bR f kv dv)):Ic H p (.str "kind") (Y kv):=by have:=Ic.k (k:=.inr "kind") h;rw[xI]at this;show this
def Ua(h:H p=Y (.dK<|bR f kv dv)):Ic H p (.str "must") (Y<|.bl f.must):=by have:=Ic.k (k:=.inr "must") h;rw[xH]at this;show this
def IN(h:H p=Y (.dK<|bR f kv dv)):Ic H p (.str "default") (Y dv):=by have:=Ic.k (k:=.inr "default") h;rw[jf]at this;show this
def Io(h:H p=Y (.dK<|rn g gl fl)):Ic H p (.str "name") (Y<|.str g.nam):=by have:=Ic.k (k:=.inr "name") h;rw[xC]at this;show this
def FG(h:H p=Y (.dK<|rn g gl fl)):Ic H p (.str "choice") (Y<|.bl g.choice):=by have:=Ic.k (k:=.inr "choice") h;rw[oz]at this;show this
def Lx(h:H p=Y (.dK<|rn g gl fl)):Ic H p (.str "gone") (Y<|.ref gl):=by have:=Ic.k (k:=.inr "gone") h;rw[xF]at this;show this
def Gy(h:H p=Y (.dK<|rn g gl fl)):Ic H p (.str "fields") (Y<|.ref fl):=by have:=Ic.k (k:=.inr "fields") h;rw[oy]at this;show this
end
inductive ij(vs:List V)(H:Hp)(Q:VK):Prop|mk (v g wl W:_) (_:vs=[v,.ref wl]) (_:XF H g v) (_:H wl=some (.lst<|MI V.int W)) (_:WBd W) (_: (∀f∈g.fields,f.kind.ok W.length)) (_:g.fields.length<40) (_: (g.choice=true->g.fields≠[])) (_:∀H',Bd H H'->Q (.int<|IF W g.choice g.fields) H')
def iR:Sp:=λvs H Q _=>ij vs H Q
def x8: ((Av:List AO) ++ (["_law_weights"]:List AO)).Nodup:=⋯
def jC(T:Tx K mg):∅ 2 1057 ["_law_form","_law_weights"] iR:=by
 let z:=@yk P w K mg base T;show(T.df 45 O).okA oJ ?_;intro _ _ _ _ H _ Q _ hr h X_ D_;have(v,g,wl,W,O,(a,gl,fl,xs,O,ha,hgl,a2,he),hw,hW,hk,hz,c1,q):=h;let F:=Ny hr;show{_,AW (qi (BN<|Cr F (pv 0) AE (λ_ _=>rfl))<|qr (Bb CS AF<|qB (Qb O) T.zZ vK (CK<|Re Av ["_law_weights"] [1] (.cons O (.inl O) O .nil) (CY<|Cr F (pv 0) AE (λ_ _=>rfl)) (λC s_ H_ fp=>BQ (i:=0) x8 O (Cd O)<|CV O) (λC s_ H_ fp=>qD z hr T.ll<|Cv (Cr F (pv 0) AE λ_ _=>rfl) (pv 1)))))<|qr (Bb CS AF<|qB (Qa O) T.zX vI (CK<|qp Av ["_law_weights"] [1] (.cons O (.inl O) O .nil) (CY<|Cr F (pv 0) AE (λ_ _=>rfl)) (λC s_ H_ fp=>BQ (i:=0) x8 O (Cd O)<|CV O) (λC s_ H_ fp=>Rg<|BN (Cr F (pv 0) AE λ_ _=>rfl)) (λC s_ H_ fp=>qD z hr T.ll<|Cv (Cr F (pv 0) AE λ_ _=>rfl) (pv 1)))),?_};let(nam,choice,gone,fields):=g;let a3:fields.length=xs.length:=he.length;let b8:fields.length<40:=hz;let one:∀(j:Nat) (y:V) (H2:Hp),Bd H H2->xs[j]?=Y y->∃f,fields[j]?=Y f/\di H2 f y/\f.kind.ok W.length:=λj y H2 s2 hy=>by
  let(f,hj,a9):=Gf he j y hy;show{f,hj,a9.sm<|Sm.of s2,hk f<|AL hj}
 show{_,O,a,_,O,FG ha,_,O,?_};cases choice with
 |true=>
  show CP {_,O,a,_,O,Gy ha,fl,O,{_,BX.of a2},Dg (Wk.list<|BX.of a2) () (λj=>.int<|match fields[j]? with|some f=>FJ W f.kind|none=>0) (λj y hy H2 R s2 hR=>?_) λD H2 hD s2 e2=>?_};·have(f,hj,(b,kv,dv,O,hb,hT,hd),hok):=one j y H2 s2 hy;let U:=hR H2 λ_ _ e=>e;rw[hj]at U;show{Sub.set O,_,O,b,_,O,He hb,_,O,kv,f.kind,wl,W,O,hT,s2 _ _ hw,hok,U}
  let e4:H2 D=Y (.lst<|(fields.map λf=>FJ W f.kind).map V.int):=by rw[e2,<-a3,Kq fields (λf=>V.int<|FJ W f.kind) _ (λi d hd=>by rw[hd]),AX];rfl
  show{D,_,O,BX.of e4,?_,λM h1 h2=>?_};·grind
  show{_,_,O,O,?_};rw[mi h1 h2];show q _ s2
 |false=>
  show BW {_,O,a,_,O,Gy ha,fl,O,{_,BX.of a2},Ku (Wk.list<|BX.of a2) () (λj=>match fields[j]? with|some f=>f.must|none=>ge) (λj=>.int<|match fields[j]? with|some f=>FJ W f.kind|none=>0) (λj y hy H2 R s2 hR hN=>?_) λD H2 hD s2 e2=>?_}
  ·have(f,hj,(b,kv,dv,O,hb,hT,hd),hok):=one j y H2 s2 hy;let U:=hR H2 λ_ _ e=>e;let a7:=hN H2 λ_ _ e=>e;rw[hj]at U a7;show{Sub.set O,_,O,b,_,O,Ua hb,_,O,?_};cases hm:f.must with|true=>show CP {_,O,b,_,O,He hb,_,O,kv,f.kind,wl,W,O,hT,s2 _ _ hw,hok,U hm}|false=>show BW<|a7 hm
  let e4:H2 D=Y (.lst<|((fields.filter (·.must)).map λf=>FJ W f.kind).map V.int):=by rw[e2,<-a3,Kj fields (·.must) (λf=>V.int<|FJ W f.kind) _ _ (λi d hd=>by rw[hd]) (λi d hd=>by rw[hd]),AX];rfl
  let hb:∀x∈ (fields.filter (·.must)).map λf=>FJ W f.kind,0<=x/\x<=1000:=λx hx=>by
   let(f,b1,O):=AS.mp hx;show yz hW O<|hk _ (Eg.mp b1).1
  let c2: ((fields.filter (·.must)).map λf=>FJ W f.kind).length<=40:=by grind
  show{D,_,O,e4,λj hj=>{?_,?_},_,_,O,O,?_};·let hx: ((fields.filter (·.must)).map λf=>FJ W f.kind)[j]?=Y (((fields.filter (·.must)).map λf=>FJ W f.kind)[j]'hj):=AA hj;rw[Bj,hx];have:=hb _<|AL hx;change InLong (((fields.filter (·.must)).map λf=>FJ W f.kind)[j]'hj);show{(),()}
  ·rw[UR _ _ ()];let hs:=iM (ns:=((fields.filter (·.must)).map λf=>FJ W f.kind).take<|j+1) (b:=1000) λx hx=>hb x<|Cg hx;let c3: (((fields.filter (·.must)).map λf=>FJ W f.kind).take<|j+1).length<=40:=by rw[BG];lia
   show{(),()}
  rw[UR _ _ (AU _),Fk];show q _ s2
section
variable{J:It}{H1:Hp}{xs:List V}{σ0:L2.St}{g:TG}{te:TE}{Q:VK}
def vC(W:Wk J H1 xs)(hz:xs.length<=1000)(Pd:Nat->Hp->V->Prop)(a5:∀i H H' v,Bd H H'->Pd i H v->Pd i H' v)(a4:∀i H D zs us v,H D=Y (.lst zs)->Pd i H v->Pd i (upd H D<|.lst us) v)(hs:∀(j:Nat) (x:V),xs[j]?=Y x->∀(H:Hp) (R:VK),Bd H1 H->(∀y H',Bd H H'->Pd j H' y->R y H')->g x a3 H λa2 H2=>Sub a3 a2/\te a2 H2 R)(hd:∀D H' ys,H1 D=S->Bd H1 H'->H' D=Y (.lst ys)->ys.length=xs.length->(∀(i:Nat) y,ys[i]?=Y y->Pd i H' y)->Q (.ref D) H'):RS J H1 a3 g Vw te Q:=by
 intro D hD;show{λi m ys H=>m=xs.length - i/\i<=xs.length/\Bd H1 H/\H D=Y (.lst ys)/\ys.length=i/\∀j y,ys[j]?=Y y->Pd j H y,{xs.length,by simp,BY _,AZ hD,Ax,O,λj y e=>by simp at e},?_};rintro i m ys H ⟨rfl,hi,sm,F,hl,hp⟩;show{F,?_};by_cases U:i<xs.length
 ·show .inr {W.go H i sm U,λx H' y=>?_};let(e,hx):=W.yld H i x H' sm U y;subst e;show hs i x hx H' _ sm λy H4 s4 hy=>?_;show{s4 _ _ F,DM (),xs.length - (i+1),(),O,U,(sm.trans s4).put hD,Ax,by rw[AI,hl];rfl,λj z hj=>?_};show a4 _ _ _ _ _ _ (s4 _ _ F) ?_
  grind
 let e:i=xs.length:=()
 subst e;show .inl {W.stop H _ sm O,hd D H ys hD sm F hl hp}
end
def Jz{xs:List V}{k:Nat}{j:Int}(h:j=(k:Int)):IT xs (Y j) S=xs.drop k:=by
 subst h;unfold IT;rw[HT.sIx_nat];change(xs.drop<|min k xs.length).take (xs.length - min k xs.length)=_;by_cases c:k<=xs.length;·rw[Nat.min_eq_left c,GM (by rw[DD];show AU _)]
 rw[Nat.min_eq_right (),XU,List.take_zero,List.drop_eq_nil_of_le ()]
def OI{xs:List V}{k:Nat}{j:Int}(h:j=(k:Int)):IT xs S (Y j)=xs.take k:=by subst h;unfold IT;rw[HT.sIx_nat];change(xs.drop 0).take (min k xs.length - 0)=_;simp
def rm(l:List AH)(H:Hp):Hp:=λb=>if b∈l then S else H b
def Ki(h:rm l H b=Y o):b∉l/\H b=Y o:=by
 unfold rm at h
 grind
def JX(n:b∉l)(h:H b=Y o):rm l H b=Y o:=by unfold rm;rw[A3m n];show h
def Lr(s:Bd H H'):Bd (rm l H) (rm l H'):=λb o e=>by
 let(n,e):=Ki e;show JX n<|s _ _ e
def SC(h:a∈l):Bd (rm l H) (rm l<|upd H a o):=λb u e=>by
 let(n,e):=Ki e;show JX n (by rw[AT (λz=>n<|by rw[z];show h)];show e)
def VY:Bd (rm l H) H:=λb u e=>(Ki e).2
def xQ(h:∀a∈m,a∈l):Bd (rm l H) (rm m H):=λb u e=>by
 let(n,e):=Ki e;show JX (λz=>n<|h _ z) e
def A0x(hL:∀a∈L,∃xs,H a=Y (.lst xs)):∀{k:Lk} {u:V},TL H k u->TL (rm L H) k u:=by
 let ne:∀{a:AH} {xs:List V},H a=Y (.tup xs)->rm L H a=Y (.tup xs):=λe=>JX (λz=>by
  let(ys,h):=hL _ z;rw[e]at h;cases h) e
 intro k;induction k with|truth=>show λa4=>(by let(a,e,h):=a4;show{a,e,ne h})|count=>show λa3=>(by let(a,e,h):=a3;show{a,e,ne h})|whole=>show λa2=>(by let(a,e,h):=a2;show{a,e,ne h})|upto n=>show λa1=>(by let(a,e,h):=a1;show{a,e,ne h})|text n=>show λU=>(by let(a,e,h):=U;show{a,e,ne h})|form n=>show λF=>(by let(a,e,h):=F;show{a,e,ne h})|list k ih=>show λD=>(by let(a,u,e,h,j):=D;show{a,u,e,ne h,ih j})
def A0w(F:∀a∈L,∃xs,H0 a=Y (.lst xs))(hd:d=DA k\/RP k d)(h:Th H d u)(j:Fz H0 u):Th (rm L H) d u:=by
 rcases hd with rfl|hd
 ·cases k with
  |list k=>
   let(a,xs,O,ha,hx,D):=h;let n:a∉L:=λz=>by
    let(ys,h):=F _ z;rw[j a O]at h;cases h
   obtain rfl:xs=[]:=hx;show{a,[],O,JX n ha,O,D}
  |_=>show h
 show C9 hd h
def wI.rm(D:∀a∈L,∃xs,H0 a=Y (.lst xs))(s:Bd H0 H)(hd:f.dfl=DA f.kind\/RP f.kind f.dfl):wI H0 H f v->di (rm L H) f v:=λF=>by
  let(a,kv,dv,e,h,h1,h2,h3):=F;let j:∀a∈L,∃xs,H a=Y (.lst xs):=λa ha=>by let(xs,z):=D a ha;show{xs,s _ _ z}
  show{a,kv,dv,e,JX (λz=>?_) h,A0x j h1,A0w D hd h2 h3}
  grind
def P1:Lk->Bool|.form _=>Z|_=>ge
def thr(p:Nat->Bool)(mono:∀j,p (j+1)=Z->p j=Z):∀n,∃t,t<=n/\∀j,j<n->p j=decide (j<t)
 |0=>{0,AU _,λj h=>A3p h<|Qg _}
 |n+1=>by
  let(t,F,h):=thr p mono n;cases hp:p n with
  |true=>
   let all:∀j,j<=n->p j=true:=by
    let go:∀d,d<=n->p (n - d)=true:=by
     intro d;induction d with
     |zero=>show λ_=>hp
     |succ d D=>
      grind
    intro j z;have:=go (n - j) ();rw[show n - (n - j)=j by lia]at this;show this
   show{n+1,AU _,λj z=>by rw[all j ()];show(A3j z).symm}
  |false=>
   show{t,(),λj z=>?_}
   grind
def nZ(j:Nat):Int:=(((j:Int) +2) +5) * (((j:Int) +2) +5) *30269
def xS(r:Int)(t j:Nat):Int:=if j<t then (r+nZ j) %16 else (r+nZ j - 2147483399) %16
def xT(r:Int)(t j:Nat):Bool:=decide (xS r t j=3\/xS r t j=14)
def tD:∀r:Fin 16,∀t:Fin 11,((Bg 10).filter<|xT r.val t.val).length<=5:=⋯
def xR(h0:0<=r)(h1:r<16)(j:t<11): ((Bg 10).filter<|xT r t).length<=5:=by let(n,O):=Int.eq_ofNat_of_zero_le h0;show tD {n,()} {(t),j}
def A1V(a s:Int)(h0:0<=a)(hs:0<=s)(h1:a+s<2147483399): (a+s) %2147483399%16=(a%16+s) %16:=by lia
def A1U(a s:Int)(h0:2147483399<=a+s)(h1:a+s<4294966798): (a+s) %2147483399%16=(a%16+s - 2147483399) %16:=by lia
def za(c:Int)(j:Nat):Bool:=decide (ZA c (j+2) %16=3\/ZA c (j+2) %16=14)
def yx(c:Int)(n:Nat)(hn:n<=10): ((Bg n).filter<|za c).length<=5:=by
 let hA:=IH (c%2147483629*40692) (b:=2147483399) Aa;generalize a1:c%2147483629*40692%2147483399=a at hA;let hm:∀j,ZA c ((j:Nat) +2)=(a+nZ j) %2147483399:=λj=>by
  unfold ZA nZ;rw[<-a1]
  lia
 let hs:∀j:Nat,j<10->0<=nZ j/\nZ j<=7748864:=by
  have:∀j:Fin 10,0<=nZ j.val/\nZ j.val<=7748864:=⋯
  show λj D=>this {(j),D}
 let F:∀j:Nat,nZ j<=nZ (j+1):=λj=>by
  unfold nZ;let e: (((j+1:Nat):Int) +2+5)=((j:Int) +2+5) +1:=()
  rw[e];let hx:0<= (j:Int) +2+5:=()
  revert hx;generalize ((j:Int) +2+5)=x;intro hx;rw[Int.add_mul x 1,Int.mul_add,Int.one_mul,Int.mul_one]
  lia
 let(t,ht,h):=thr (λj=>decide (a+nZ j<2147483399)) (λj D=>by
  have:=A3l D;have:=F j;show A3j<|()) 10
 let he:∀j,j<10->za c j=xT (a%16) t j:=λj D=>by
  let h1:=hs j D;let h2:=h j D;let e:ZA c (j+2) %16=xS (a%16) t j:=by
   rw[hm];unfold xS;by_cases z:j<t;·rw[A3n z];show A1V _ _ hA.1 h1.1 (A3l<|by rw[h2];show A3j z)
   rw[A3m z];have:¬a+nZ j<2147483399:=of_decide_eq_false (by rw[h2];show A3k z);show A1U _ _ () ()
  unfold za xT;rw[e]
 let a2: ((Bg 10).filter<|za c).length<=5:=by rw[List.filter_congr (λj D=>he j<|Dv.mp D)];show xR () () ()
 let U: ((Bg n).filter<|za c).Sublist ((Bg 10).filter<|za c):=(List.range_sublist.mpr hn).filter _;show AR U.length_le a2
structure LX(ms:List Int):Prop where
 nd:ms.Nodup
 bd:∀m∈ms,1<=m/\m<=200
def N6(one:Int)(hn:n<=12):LX ((Bg n).map λj:Nat=>1+ (one/7+37* (0+ (j:Int))) %200):=by
 show{nodup_range _ _ λi j hi z h=>(),λm hm=>?_}
 grind
def N5(one:Int)(hn:n<=12):LX ((Bg n).map λj:Nat=>1+one%3+ (0+ (j:Int))):=by
 show{nodup_range _ _ λi j hi z h=>(),λm hm=>?_}
 grind
structure zT(k:Nat)(W:List Int)(g:SG):Prop where
 len:g.fields.length<=10
 ne:g.choice=Z->g.fields≠[]
 fs:∀f∈g.fields,wj k W g.choice f
 nms:CN (g.fields.map (·.nam))
 nums:LX (g.fields.map (·.num) ++g.gone)
 gl:g.gone.length<=2
 few: (g.fields.filter λf=>P1 f.kind).length<=5
structure IW(gs:List SG)(Ws:List Int):Prop where
 len:gs.length=Ws.length
 nms:CN (gs.map (·.nam))
 ok:∀k g,gs[k]?=Y g->zT k (Ws.take k) g
 ws:∀k g,gs[k]?=Y g->Ws[k]?=Y (IF (Ws.take k) g.choice g.fields)
structure LW(one:Int)(k:Nat)(W:List Int)(c:Bool)(ms:List Int)(zs:List AO)(fs:List SF):Prop where
 num:∀(i:Nat) (f:SF),fs[i]?=Y f->ms[i]?=Y f.num
 nam:∀(i:Nat) (f:SF),fs[i]?=Y f->zs[i]?=Y f.nam
 ok:∀(i:Nat) (f:SF),fs[i]?=Y f->wj k W c f
 fm:∀(i:Nat) (f:SF),fs[i]?=Y f->∀z,f.kind= .form z->za one i=Z
def LW.nil{one:Int}{k:Nat}{W:List Int}{c:Bool}{ms:List Int}{zs:List AO}:LW one k W c ms zs []:={λi f e=>by simp at e,λi f e=>by simp at e,λi f e=>by simp at e,λi f e=>by simp at e}
def OY{j:Type}{l:List j}{x:j}{i:Nat}{y:j}(h: (l++[x])[i]?=Y y):l[i]?=Y y\/(i=l.length/\y=x):=by
 by_cases hi:i<l.length;·rw[Eo hi]at h;show .inl h
 rw[Dw ()]at h;by_cases h0:i - l.length=0;·rw[h0]at h;show .inr {(),(AK h).symm}
 rw[Hz (by simp;lia)]at h;cases h
def LW.snoc{one:Int}{k:Nat}{W:List Int}{c:Bool}{ms:List Int}{zs:List AO}{fs:List SF}(h:LW one k W c ms zs fs){f:SF}(h1:ms[fs.length]?=Y f.num)(h2:zs[fs.length]?=Y f.nam)(h3:wj k W c f)(j:∀z,f.kind= .form z->za one fs.length=Z):LW one k W c ms zs (fs++[f]):=by
 show{λi x e=>?_,λi x e=>?_,λi x e=>?_,λi x e=>?_} <;> rcases OY e with e|⟨rfl,rfl⟩;·show h.num i x e
 ·show h1
 ·show h.nam i x e
 ·show h2
 ·show h.ok i x e
 ·show h3
 ·show h.fm i x e
 show j
def ng:SF:={0,"",.truth,ge,.non}
def jo{z:Type}(l:List z)(d:z): (Bg l.length).map (λj=>l.getD j d)=l:=by
 apply List.ext_getElem;·simp
 grind
def oX{z:Type}(l:List z)(d:z){js:List Nat}(h:js.Perm (Bg l.length)): (js.map λj=>l.getD j d).Perm l:=by have:=h.map λj=>l.getD j d;rw[jo]at this;show this
def CN.perm(p:xs.Perm ys)(h:CN ys):CN xs:={λz j=>h.ok z<|p.mem_iff.mp j,p.symm.nodup h.nd}
def CN.take(h:CN xs)(n:Nat):CN (xs.take n):={λz j=>h.ok z<|Cg j,h.nd.sublist<|XY _ _}
def LX.perm(p:xs.Perm ys)(h:LX ys):LX xs:={p.symm.nodup h.nd,λz j=>h.bd z<|p.mem_iff.mp j}
def TU{z j:Type}{l:List z}{m:List j}{f:z->j}(h:∀(i:Nat) x,l[i]?=Y x->m[i]?=Y (f x)):l.map f=m.take l.length:=by
 apply Yb;intro i;rw[Be];by_cases hi:i<l.length;·rw[EF hi,AA hi,h i _<|AA hi];rfl
 rw[Hz (),Hz (by rw[BG];lia)];rfl
def Xa{j:Type}(l:List j)(p:j->Bool)(q:Nat->Bool)(h:∀(i:Nat) x,l[i]?=Y x->p x=Z->q i=Z): (l.filter p).length<= ((Bg l.length).filter q).length:=by
 let key:∀n,n<=l.length->((l.take n).filter p).length<= ((Bg n).filter q).length:=by
  intro n;induction n with
  |zero=>intro _;simp
  |succ n z=>
   intro hn;let hx:l[n]?=Y (l[n]' ()):=AA _;rw[Gr,List.range_succ,Ew,Ew,AI,AI,hx];have:=z ();have: ([l[n]' ()].filter p).length<= ([n].filter q).length:=by cases hp:p (l[n]' ())with|false=>rw[Gs (by rw[hp];decide)];show BY _|true=>rw[EU hp,EU<|h n _ hx hp];show AU _
   change _+ ([l[n]' ()].filter p).length<=_
   lia
 have:=key l.length<|AU _;rw[Fk]at this;show this
def LW.gok{one:Int}{k:Nat}{W:List Int}{c:Bool}{ms:List Int}{zs:List AO}{fs:List SF}(h:LW one k W c ms zs fs)(j:fs.length<=10)(hc:c=Z->1<=fs.length)(F:CN zs)(hm:LX ms)(U:ms.length<=fs.length+2)
  {nm:AO}{go:List Int}{fields:List SF}(hp:fields.Perm fs)(hg:go.Perm (ms.drop fs.length)):zT k W {(nm),c,go,fields}:=by
 let en:=TU h.nam;let em:=TU h.num;show{by rw[hp.length_eq];show j,λe z=>?_,λf hf=>?_,?_,?_,?_,?_};·simp_all
 ·let(i,hi):=Cz.mp<|hp.mem_iff.mp hf;show h.ok i f hi
 ·show CN.perm (hp.map (·.nam)) ?_;rw[en];show F.take _
 ·let p1: (fields.map (·.num) ++go).Perm (ms.take fs.length++ms.drop fs.length):=by grind
  rw[FE]at p1;show LX.perm p1 hm
 ·rw[hg.length_eq,DD];lia
 let e1: (fields.filter λf=>P1 f.kind).length=(fs.filter λf=>P1 f.kind).length:=(hp.filter _).length_eq;rw[e1];show AR (Xa fs _ (za one) λi f hi hf=>?_)<|yx one fs.length j;cases D:f.kind with|form z=>show h.fm i f hi z D|_=>rw[D]at hf;cases hf
def ix(W:List Int):Prop:=∀(i:Nat) w,W[i]?=Y w->1<=w/\w<=81+ (i:Int)
def ix.bd(h:ix W)(j:W.length<=6):WBd W:=λx hx=>by
 let(i,hi):=Cz.mp hx;have:=h i x hi
 grind
def mv(h:ix W)(j:k.ok W.length):1<=FJ W k/\(FJ W k<=80+ (W.length:Int)\/FJ W k=1):=by
 cases k with
 |form i=>
  let hi:i<W.length:=j;let e:=AA hi;have:=h i _ e;change 1<=W.getD i 0/\(W.getD i 0<=_\/_)
  grind
 |_=>show{Int.le_refl _,.inr O}
def G7{l:List Int}(h:∀x∈l,0<=x/\x<=8):0<=l.sum/\l.sum<=8* (l.length:Int):=by
 induction l with
 |nil=>show{(Aa),Aa}
 |cons x r j=>
  let h1:=h x<|.head _;let h2:=j λy z=>h y (.tail _ z)
  grind
def ac{W:List Int}(h:ix W){g:SG}(hg:zT W.length W g):1<=IF W g.choice g.fields/\IF W g.choice g.fields<=81+ (W.length:Int):=by
 unfold IF;cases hc:g.choice with
 |true=>
  rw[A3n O];let hm:=Rq (l:=g.fields.map λf=>FJ W f.kind) (by
   intro z;show hg.ne hc<|LF.mp z)
  let(f,hf,e):=AS.mp hm;rw[<-e];have:=mv h (hg.fs f hf).kind
  lia
 |false=>
  rw[A3m Aa];let hs:=G7 (l:=(g.fields.filter (·.must)).map λf=>FJ W f.kind) λx hx=>by
   let(f,hf,O):=AS.mp hx;let(hf,j):=Eg.mp hf;let F:=hg.fs f hf;let h1:=mv h F.kind;show{(),?_};cases D:f.kind with|form i=>show F.light i D j|_=>show(by decide: (1:Int)<=8)
  let U: ((g.fields.filter (·.must)).map λf=>FJ W f.kind).length<=10:=by rw[Aw];show AR (QF _ _) hg.len
  lia
def ix.snoc{W:List Int}(h:ix W){x:Int}(h1:1<=x)(h2:x<=81+ (W.length:Int)):ix (W++[x]):=λi w e=>by
 rcases OY e with e|⟨rfl,rfl⟩;·show h i w e
 lia
def IW.snoc{gs:List SG}{Ws:List Int}(h:IW gs Ws){g:SG}(hg:zT gs.length Ws g)(hn:CN ((gs++[g]).map (·.nam))):IW (gs++[g]) (Ws++[IF Ws g.choice g.fields]):=by
 let j:=h.len;show{by simp[j],hn,λk x e=>?_,λk x e=>?_}
 ·rcases OY e with e|⟨rfl,rfl⟩
  ·let z:=(AQ.mp e).1;rw[bw ()];show h.ok k x e
  simp_all
 rcases OY e with e|⟨rfl,rfl⟩;·let z:=(AQ.mp e).1;rw[bw (),Eo ()];show h.ws k x e
 simp_all
def xU{P:Nat->AH->Prop}:∀(ys:List V),(∀(i:Nat) y,ys[i]?=Y y->∃t,y= .ref t/\P i t)->∃ts:List AH,ys=ts.map V.ref/\∀(i:Nat) t,ts[i]?=Y t->P i t:=by
 intro ys;induction ys generalizing P with
 |nil=>show λ_=>{[],O,λi t e=>by simp at e}
 |cons y r z=>
  intro h;let(t,O,D):=h 0 y O;let(ts,O,j):=z (P:=λi=>P<|i+1) λi y e=>h (i+1) y (by simpa using e);show{t::ts,O,λi x e=>?_};cases i with|zero=>simp at e;subst e;show D|succ i=>show j i x (by simpa using e)
def lP{D z:Type}{R:D->z->Prop}{fs:List D}{vs:List z}(h:Paired R fs vs)(d:D)(e:z):∀(js:List Nat),(∀j∈js,j<fs.length)->Paired R (js.map λj=>fs.getD j d) (js.map λj=>vs.getD j e)
 |[],_=>.nil
 |j::js,U=>by
  show .cons ?_<|lP h d e js λi hi=>U i<|.tail _ hi;let a2:=U j<|.head _;let F:=h.length;let hv:vs[j]?=Y (vs[j]' ()):=AA _;let(x,hx,r):=Gf h j _ hv
  grind
def vR{xs:List V}{j:Nat}{v:V}(h:xs[j]?=Y v):Yn xs (0+ (j:Int))=Y v:=by rw[Int.zero_add];show FN h
abbrev sS(bb mm:Int)(sc:AH)(many:Int)(nl sl wl:AH)(k one c cnt ml tl rl j fh fm:Option V):L2.St:=[Y (.ref sc),Y<|.int bb,Y<|.int mm,Y<|.int many,Y<|.ref nl,Y<|.ref sl,Y<|.ref wl,k,one,c,cnt,ml,tl,rl,j,fh,fm]
structure zG(g:SG):Prop where
 fs: (g.fields.map (·.num)).Pairwise (·< ·)
 gone:g.gone.Pairwise (·<= ·)
def ar{j z:Type}{R:j->z->Prop}{f:j->z}:∀(l:List j),(∀x∈l,R x<|f x)->Paired R l (l.map f)|[],_=>.nil|x::l,h=>.cons (h x<|.head _)<|ar l λy D=>h y<|.tail _ D
inductive SpI(bb mm:Int)(sc:AH)(n:Nat)(nl sl wl:AH)(zs:List AO)(H1:Hp)(k:Nat):L2.St->Hp->Prop|mk {H':Hp} {gs:List SG} {Ws:List Int} {as:List AH} {v7 one c cnt ml tl rl j fh fm:Option V} (hok:IW gs Ws) (hgl:gs.length=k) (hri:∀g∈gs,zG g) (hnm:gs.map (·.nam)=zs.take k) (hlast:∀g,gs[n - 1]?=some g->g.choice=false) (has:∀a∈as,H1 a=none) (hnd:as.Nodup) (s4:Bd H1 H') (hsl:H' sl=some (.lst<|as.map V.ref)) (hwl:H' wl=some (.lst<|Ws.map V.int)) (hW:ix Ws) (hpa:Paired (λg a=>XF (rm [sl,wl] H') g<|.ref a) gs as):SpI bb mm sc n nl sl wl zs H1 k (sS bb mm sc n nl sl wl v7 one c cnt ml tl rl j fh fm) H'
inductive wp(K:Az)(vs:List V)(H:Hp)(Q:VK):Prop|mk (a:AH) (ns:List Int) (bb mm:Int) (_:vs=[.ref a,.int bb,.int mm]) (_:0<=bb) (_:bb<=100) (_:1<=mm) (_:mm<=6) (_:BX K H a (ns.map V.int)) (_:∀gs Ws as l H',IW gs Ws->(∀g∈gs,zG g)->1<=gs.length->gs.length<=6->(∀g,gs[gs.length - 1]?=some g->g.choice=false)->H l=none->(∀a∈as,H a=none)->as.Nodup->Bd H H'->H' l=some (.lst<|as.map V.ref)->Paired (λg a=>XF H' g<|.ref a) gs as->Q (.ref l) H')
def xm(K:Az):Sp:=λvs H Q _=>wp K vs H Q
def x9: ((["_law_j"]:List AO) ++ (["_law_one"]:List AO)).Nodup:=⋯
def A1Q: ((["_law_j"]:List AO) ++ (["_law_marks"]:List AO)).Nodup:=⋯
def x6: ((["_law_mark","_law_j"]:List AO) ++ (["_law_rows"]:List AO)).Nodup:=⋯
def Z8(a b c:V):List (Ib×V):=[(.inr "name",a),(.inr "choice",b),(.inr "gone",c)]
def N4(a b c:V):LQ [] (Z8 a b c)=Z8 a b c:=by kernel_rfl
def A1J(g:SG)(gl fl:AH):La (Z8 (.str g.nam) (.bl g.choice)<|.ref gl) (.inr "fields") (.ref fl)=rn g gl fl:=by kernel_rfl
def gr(K:Az)(j:X.K=K):IxR X (J4 K):=by subst j;show mF
def yc(K:Az)(z:X.K=K)(hc:X.calm=Z)(h:V7 X es t)(hn: ~~~((LZ es X.env).length=n))(j: ~~~((LZ es X.env).findIdx? (·.1)=none)):PG X (.Tuple es k pos) (A0d K n t):=by subst z;show Op hc h hn j
def yg(T:Tx K mg):∅ 6 1062 Am (xm K):=by
 let a2:=@aw P w K mg base T;let b1:=@fP P w K mg base T;let b2:=@ug P w K mg base T;show(T.df 46 O).okA Ft ?_;intro _ _ _ s H vs Q _ hr h X_ D_;let(sc,ns,bb,mm,O,r9,r8,r4,r3,g9,q):=h;show{_,AY (qS 3 Ft.nd<|Bb CS AF (Bb CD (qD a2 hr T.Kp<|Cv (pv 0) (pv 1))<|pv 2))<|AY (qS 4 Ft.nd<|qD b1 hr T.Vk (Cv (qD a2 hr T.Kp<|Cv (pv 0) (Bb CS (pv 1) AF))<|pv 3)) (AW (qS 5 Ft.nd<|Ci FU)<|AW (qS 6 Ft.nd<|Ci FU) (AY (JN EC O (Hq O T.Jm<|CK (pv 3)) (BQ (i:=7) Ft.nd O<|Cd O)<|AY (qS 8 Ft.nd<|qD a2 hr T.Kp (Cv (pv 0)<|Bb CS (Bb CS (pv 1) AF) (pv 7))) (AY (qS 9 Ft.nd<|JP (GH B7 (pv 7) (Bb Wf (pv 3) AF)<|IJ _) (JO<|GH Do (Bb CD (pv 8) AF) AF (IJ _)))<|AY (qS 10 Ft.nd<|MK (Ci<|Bc (Bb CS AF<|Bb CD (Bb Dc (pv 8) AF) AF) (Cv (Bb CD (Bb Dc (pv 8) AF) AF)<|Bb CS AF (Bb CD (Bb Dc (pv 8) AF) AF))) (Bb CD (Bb Dc (pv 8) AF) AF)) (AY (qS 10 Ft.nd<|qB (Ta O) T.rE kj (Cv (pv 10)<|qT Tb T.dD Xj (CK<|pv 9)))<|AY (qS 11 Ft.nd<|Re ["_law_j"] ["_law_one"] [8] (.cons O (.inl O) O .nil) (Hq O T.Jm<|CK (Bb CS (pv 10)<|Bb CD (Bb Dc (pv 8) AF) AF)) (λC s_ H_ fp=>BQ (i:=0) x9 O (Cd O)<|CV O) (λC s_ H_ fp=>Bb CS AF<|Bb CD (Bb CS (Bb Dc (pv 1) AF)<|Bb LN AF (pv 0)) AF)) (AY (qi (qc Do (Bb CD (Bb Dc (pv 8) AF) AF) AF)<|Cc (qS 11 Ft.nd<|Re ["_law_j"] ["_law_one"] [8] (.cons O (.inl O) O .nil) (Hq O T.Jm<|CK (qB BU T.Ey Ds<|CK (pv 11))) (λC s_ H_ fp=>BQ (i:=0) x9 O (Cd O)<|CV O) (λC s_ H_ fp=>Bb CS (Bb CS AF<|Bb CD (pv 1) AF)<|pv 0)))<|AY (qS 12 Ft.nd<|qD b1 hr T.Vk (Cv (qD b2 hr T.dJ<|Cv (pv 8) AF)<|qB (Ta O) T.rE kj (Cv AF<|pv 10))) (AW (qS 13 Ft.nd<|Ci FU)<|AY (JN EC O (Hq O T.Jm<|CK (pv 10)) (BQ (i:=14) Ft.nd O<|Cd O)<|AW (qS 15 Ft.nd<|qD (@um P w K mg base T) hr (T.d6 43 O λ_ _ _ _ _ _ _ _ _ _ _ _=>rfl) (Bc (qD b2 hr T.dJ<|Cv (pv 8) (Bb CS (pv 14) AF))<|Bc (MK (pv 11)<|pv 14) (Bc (MK (pv 12)<|pv 14)<|Bc (pv 7) (Cv (pv 6)<|pv 9)))) (Cc<|DG (EA Bk BC BB Dp (pv 13)<|CK (pv 15)))) (AY (qS 16 Ft.nd<|ck (GY AE (MK (pv 4)<|pv 7)<|GY AE (pv 9) (GY AE (qB My T.QJ Tc<|CK (DE HQ (pv 11) (Ej<|pv 10) Ek)) cf)) O O Aa Aa)<|AY (UQ (Ny hr) (pv 16) AE (Re ["_law_mark","_law_j"] ["_law_rows"] [13] (.cons O (.inl O) O .nil) (CY<|qB Pq T.QJ Tc (CK<|Re ["_law_j"] ["_law_marks"] [11] (.cons O (.inl O) O .nil) (Hq O T.Jm<|CK (pv 10)) (λC s_ H_ fp=>BQ (i:=0) A1Q O (Cd O)<|CV O) (λC s_ H_ fp=>Cn<|Cv (ao (gr K O) (pv 1) (pv 0) λ_ _=>rfl) (pv 0)))) (λC s_ H_ fp=>yc K O (n:=2) O<|EG (BQ (i:=0) x6 O (Cd O)<|CV O) (EG (BQ (i:=1) x6 O (Cd O)<|CV O) Lv)) λC s_ H_ fp=>ao (gr K O) (pv 2) (pv 1) λ_ _=>rfl) O) (AW (DG<|EA Bk BC BB Dp (pv 5) (CK<|pv 16))<|Cc (DG<|EA Bk BC BB Dp (pv 6) (CK<|qD (@jC P w K mg base T) hr (T.d2 45 O λ_ _ _ _ _ _ _ _=>rfl) (Cv (pv 16)<|pv 6))))))))))<|qr (pv 5))),?_};show BV (λσ' H'=>∃n:Nat,1<=n/\n<=6/\H=H'/\σ'=[Y (.ref sc),Y<|.int bb,Y<|.int mm,Y<|.int (n:Int),S,S,S,S,S,S,S,S,S,S,S,S,S]) ?_ ?_;·show{_,O,_,O,sc,ns,bb,O,g9,(),(),λr h0 h1=>{_,O,_,_,O,O,(by change(0:Int) <mm;lia),_,_,O,O,(1+r%mm).toNat,(by have:=FQ r (show mm≠0 by lia);lia),(by have:=GP r (show 0<mm by lia);lia),O,?_}};rw[show(((1+r%mm).toNat:Nat):Int)=1+r%mm by have:=FQ r (show mm≠0 by lia);lia];rfl
 rintro σ' H' ⟨n,r2,r1,rfl,rfl⟩;show BV (λσ' H'=>∃(nl:AH) (zs:List AO),zs.length=n/\CN zs/\Bd H H'/\H' nl=Y (.lst<|zs.map V.str)/\σ'=[Y (.ref sc),Y<|.int bb,Y<|.int mm,Y<|.int (n:Int),Y<|.ref nl,S,S,S,S,S,S,S,S,S,S,S,S]) ?_ ?_;·show{_,O,_,O,_,_,O,O,sc,ns,bb+1,O,g9,(),(),λr h0 h1=>{_,O,r,n,O,h0,(),(),λzs hz hok nl H1 k8 s1 e1=>{(nl),zs,hz,hok,s1,e1,O}}}
 rintro σ' H1 ⟨nl,zs,q6,j1,s1,k8,rfl⟩;show{zl 0,λsl hsl=>{zl 0,λwl hwl=>?_}};let s3:Bd H1 (upd (upd H1 sl<|.lst []) wl<|.lst []):=(AZ hsl).trans<|AZ hwl;let g8:sl≠wl:=λz=>by rw[z,Ax]at hwl;cases hwl
 let j4:=(AZ hsl).free hwl;show BV (SpI bb mm sc n nl sl wl zs H1 n) ?_ ?_
 ·show{_,O,(n:Int),O,(),(),?_};rw[show((n:Int)).toNat=n by lia];show SW (SpI bb mm sc n nl sl wl zs H1) ?_ (λk σ' H' hk h=>?_) λσ' H' h=>h
  ·show .mk (gs:=[]) (Ws:=[]) (as:=[]) {O,{(λ_ z=>nomatch z),Yd},(λk g e=>by simp at e),(λk g e=>by simp at e)} O (λ_ z=>nomatch z) (by simp) (λg e=>by simp at e) (λ_ z=>nomatch z) Yd s3 ?_ Ax (λi w e=>by simp at e) .nil;rw[AT g8];show Ax
  obtain @⟨_,gs,Ws,as,v7,o6,c0,g2,f1,c6,b6,j0,b0,a9,hok,hgl,hri,hnm,hlast,has,hnd,s4,d0,c2,hW,hpa⟩:=h;let r5:k<6:=()
  let k6:=(s1.trans s4).seq g9;show BV (λσ' H5=>∃one:Int,0<=one/\one<2147483629/\H'=H5/\σ'=sS bb mm sc n nl sl wl (Y<|.int (0+ (k:Int))) (Y<|.int one) c0 g2 f1 c6 b6 j0 b0 a9) ?_ ?_;·show{_,O,_,O,_,_,O,O,_,O,_,_,O,O,sc,ns,bb+2+ (0+ (k:Int)),O,k6,(),(),λr h0 h1=>{(r),h0,h1,O,O}}
  rintro σ' H5 ⟨one,r0,q9,rfl,rfl⟩;show BV (λσ' H5=>∃c:Bool,(c=Z->k+1<n)/\H'=H5/\σ'=sS bb mm sc n nl sl wl (Y<|.int (0+ (k:Int))) (Y<|.int one) (Y<|.bl c) g2 f1 c6 b6 j0 b0 a9) ?_ ?_
  ·show{_,O,_,O,_,_,O,O,_,_,O,O,_,O,Hs (λl0=>?_) λ_=>?_}
   ·let p0:=A3l l0;show{_,O,_,_,O,O,(by change(0:Int) <4;decide),O,_,λ_=>(),O,O}
   rename_i l0;show{ge,λz=>(by cases z),O,O}
  rintro σ' H5 ⟨c,hc,rfl,rfl⟩;show BV (λσ' H5=>∃x:Int,0<=x/\x<=10/\Bd H' H5/\σ'=sS bb mm sc n nl sl wl (Y<|.int (0+ (k:Int))) (Y<|.int one) (Y<|.bl c) (Y<|.int x) f1 c6 b6 j0 b0 a9) ?_ ?_
  ·show{_,O,_,_,O,O,{(Aa),Aa},_,_,O,O,(by change(0:Int) <4;decide),_,_,O,O,_,O,_,_,O,O,{(Aa),Aa},_,_,O,O,(by change(0:Int) <4;decide),_,O,_,_,O,O,{(Aa),Aa},_,_,O,O,(by change(0:Int) <10;decide),_,_,O,O,zl 3,λp hp=>?_};have(x,hx,m7):=RN (xs:=([1+one/4%4,one/4%4,1+one/4%10]:List Int).map V.int) (i:=one/64%3) () (by rw[Aw];change one/64%3<3;lia);let(i,O,hi):=Ms (P:=λi=>0<=i/\i<=10) (by
    intro i hi;simp only[AM,Cw,or_false]at hi;rcases hi with rfl|rfl|rfl <;> lia) m7
   show{_,O,_,_,O,O,{(Aa),Aa},_,_,O,O,(by change(0:Int) <3;decide),p,_,_,_,O,O,BX.of Ax,hx,i,hi.1,hi.2,AZ hp,O}
  rintro σ' H5 ⟨x,q8,q7,s5,rfl⟩;show BV (λσ' H6=>∃m:Nat,m<=10/\(c=Z->1<=m)/\H5=H6/\σ'=sS bb mm sc n nl sl wl (Y<|.int (0+ (k:Int))) (Y<|.int one) (Y<|.bl c) (Y<|.int (m:Int)) f1 c6 b6 j0 b0 a9) ?_ ?_
  ·show{_,O,_,O,.inr {c,O,_,_,O,(if (if c then (1:Int)else 0) >x then (if c then (1:Int)else 0)else x).toNat,?_,?_,O,?_}}
   ·lia
   ·rintro rfl;change 1<= (if (1:Int) >x then (1:Int)else x).toNat
    split <;> lia
   rw[LG (by cases c <;> simp <;> split <;> lia)];rfl
  rintro σ' H6 ⟨m,o9,n3,rfl,rfl⟩;let r7: (one/11%3).toNat<=2:=()
  show BV (λσ' H6=>∃(ml:AH) (ms:List Int),ms.length=m+ (one/11%3).toNat/\LX ms/\Bd H5 H6/\H6 ml=Y (.lst<|ms.map V.int)/\σ'=sS bb mm sc n nl sl wl (Y<|.int (0+ (k:Int))) (Y<|.int one) (Y<|.bl c) (Y<|.int (m:Int)) (Y<|.ref ml) c6 b6 j0 b0 a9) ?_ ?_
  ·show{_,O,_,O,_,_,O,O,{(Aa),Aa},_,_,O,O,(by change(0:Int) <3;decide),_,_,O,O,(m:Int) +one/11%3,O,(),(),?_};rw[show((m:Int) +one/11%3).toNat=m+ (one/11%3).toNat by lia];show Dg (Wk.rng 0 _) (by rw[Aw,BZ];lia) (λj=>.int<|1+ (one/7+37* (0+ (j:Int))) %200) (λj x hx H2 R s2 hR=>?_) λD H2 hD s2 e2=>?_
   ·let(O,hj):=Qr hx;show{Sub.set O,_,O,_,_,O,O,{(Aa),Aa},_,O,_,_,O,O,.inl {(Aa),Aa},_,_,O,O,_,_,O,O,(by change(0:Int) <200;decide),_,_,O,O,hR H2 λ_ _ e=>e}
   show{D,_,?_,N6 one (n:=m+ (one/11%3).toNat) (),s2,?_,O};·simp
   simp_all
  rintro σ' H6 ⟨ml,ms,k9,f3,s6,f4,rfl⟩;show BV (λσ' H7=>∃(ml:AH) (ms:List Int),ms.length=m+ (one/11%3).toNat/\LX ms/\Bd H6 H7/\H7 ml=Y (.lst<|ms.map V.int)/\σ'=sS bb mm sc n nl sl wl (Y<|.int (0+ (k:Int))) (Y<|.int one) (Y<|.bl c) (Y<|.int (m:Int)) (Y<|.ref ml) c6 b6 j0 b0 a9) ?_ ?_
  ·show{_,O,_,_,O,O,{(Aa),Aa},_,_,O,O,(by change(0:Int) <2;decide),O,_,O,Hs (λ_=>?_) λ_=>{ml,ms,k9,f3,Bd.refl _,f4,O}};show{_,O,ml,_,O,.inl<|BX.of f4,_,O,(),by rw[Aw];lia,?_};rw[show((((ms.map V.int).length:Nat):Int)).toNat=m+ (one/11%3).toNat by rw[Aw];lia];show Dg (Wk.rng 0 _) (by rw[Aw,BZ];lia) (λj=>.int<|1+one%3+ (0+ (j:Int))) (λj x hx H2 R s2 hR=>?_) λD H2 hD s2 e2=>?_
   ·let(O,hj):=Qr hx;show{Sub.set O,_,O,_,_,O,O,(by change(0:Int) <3;decide),_,_,O,O,_,O,_,_,O,O,hR H2 λ_ _ e=>e}
   show{D,_,?_,N5 one (n:=m+ (one/11%3).toNat) (),s2,?_,O};·simp
   simp_all
  rintro σ' H7 ⟨ml,ms,k9,f3,s7,f4,rfl⟩;show BV (λσ' H8=>∃(tl:AH) (ts:List AO),ts.length=max 1 m/\CN ts/\Bd H7 H8/\H8 tl=Y (.lst<|ts.map V.str)/\σ'=sS bb mm sc n nl sl wl (Y<|.int (0+ (k:Int))) (Y<|.int one) (Y<|.bl c) (Y<|.int (m:Int)) (Y<|.ref ml) (Y<|.ref tl) b6 j0 b0 a9) ?_ ?_
  ·let e: (if (m:Int) >1 then (m:Int)else 1)=((max 1 m:Nat):Int):=by split <;> lia
   let d4:=IH (one%2147483629*40692+ (1+5) * (1+5) *30269) (b:=2147483399) Aa;show{_,O,one,1,O,Aa,Aa,_,O,_,_,O,ZA one 1,max 1 m,(by change [V.int (ZA one 1),V.int<|if (m:Int) >1 then (m:Int)else 1]=_;rw[e]),d4.1,Md d4.2 Aa,(),λts j7 g7 tl H8 j8 s8 e8=>{(tl),ts,j7,g7,s8,e8,O}}
  rintro σ' H8 ⟨tl,ts,j7,g7,s8,j8,rfl⟩;show{zl 0,λrl k7=>?_};let a3:=((s5.trans s6).trans s7).trans s8;let f9:=s8 _ _ f4;let i1:Ws.length=k:=by rw[<-hok.len];show hgl
  show BV (λσ' U=>∃fs vs b4 b3,σ'=sS bb mm sc n nl sl wl (Y<|.int (0+ (k:Int))) (Y<|.int one) (Y<|.bl c) (Y<|.int (m:Int)) (Y<|.ref ml) (Y<|.ref tl) (Y<|.ref rl) b4 b3 a9/\fs.length=m/\LW one k Ws c ms ts fs/\Bd H8 U/\U rl=Y (.lst vs)/\Paired (di<|rm [sl,wl,rl] U) fs vs) ?_ ?_
  ·show{_,O,(m:Int),O,(),(),?_};rw[show((m:Int)).toNat=m by lia];show SW (λj σ' U=>∃fs vs b4 b3,σ'=sS bb mm sc n nl sl wl (Y<|.int (0+ (k:Int))) (Y<|.int one) (Y<|.bl c) (Y<|.int (m:Int)) (Y<|.ref ml) (Y<|.ref tl) (Y<|.ref rl) b4 b3 a9/\fs.length=j/\LW one k Ws c ms ts fs/\Bd H8 U/\U rl=Y (.lst vs)/\Paired (di<|rm [sl,wl,rl] U) fs vs) {[],[],j0,b0,O,O,LW.nil,AZ k7,Ax,.nil} (λj σ' U hj h=>?_) λσ' U h=>h;have(fs,vs,b4,b3,O,a5,f2,a1,a8,d3):=h;let d7:ms[j]?=Y (ms[j]' ()):=AA _;let j9:ts[j]?=Y (ts[j]' ()):=AA _;let d4:=IH (one%2147483629*40692+ (0+ (j:Int) +2+5) * (0+ (j:Int) +2+5) *30269) (b:=2147483399) Aa;show{_,O,_,O,_,_,O,O,one,0+ (j:Int) +2,O,(),(),_,O,_,O,ml,_,_,_,O,O,BX.of<|a1 _ _ f9,vR (v:=.int<|ms[j]' ()) (by rw[Be,d7];rfl),_,O,_,O,tl,_,_,_,O,O,BX.of<|a1 _ _ j8,vR (v:=.str<|ts[j]' ()) (by rw[Be,j9];rfl),_,O,_,O,_,O,ZA one<|0+ (j:Int) +2,ms[j]' (),ts[j]' (),k,wl,Ws,c,(by change [V.int (ZA one<|0+ (j:Int) +2),V.int (ms[j]' ()),V.str (ts[j]' ()),V.int<|0+ (k:Int),V.ref wl,V.bl c]=_;rw[Int.zero_add (k:Int)]),a1 _ _<|a3 _ _ c2,i1,d4.1,Md d4.2 Aa,λf e1 e2 l6 n7 u m0 c9 hz=>?_};let hL:∀a∈ [sl,wl,rl],∃xs,U a=Y (.lst xs):=λa ha=>by
    simp only[AM,Cw,or_false]at ha;rcases ha with rfl|rfl|rfl;·show{_,a1 _ _<|a3 _ _ d0}
    ·show{_,a1 _ _<|a3 _ _ c2}
    simp_all
   let m8:fs.length=vs.length:=d3.length;show{_,O,.inl {O,_,BX.of<|c9 _ _ a8},_,O,rl,vs,u,O,O,c9 _ _ a8,DM (),fs++[f],vs++[u],_,_,O,by rw[AI,a5];rfl,?_,(a1.trans c9).put k7,Ax,?_};·show f2.snoc (by rw[a5,e1];show d7) (by rw[a5,e2];show j9) l6 λz hz=>?_;have:=n7 z hz;rw[Int.zero_add]at this;rw[a5];show A3j this
   let sr:Bd (rm [sl,wl,rl] m0) (rm [sl,wl,rl]<|upd m0 rl (.lst<|vs++[u])):=SC (by simp);show Nc (L2.Paired.imp' (λ_ _ z=>z.sm<|Sm.of ((Lr c9).trans sr)) d3)<|.cons ?_ .nil;show(hz.rm hL c9<|l6.dfl.imp id λz=>z.2.2).sm (Sm.of sr)
  rintro σ' U ⟨fs,vs,b4,b3,rfl,a5,f2,a1,a8,d3⟩;obtain⟨nm,g5⟩:∃nm,zs[k]?=Y nm:={_,AA<|()};let h5:U nl=Y (.lst<|zs.map V.str):=a1 _ _<|a3 _ _ (s4 _ _ k8);let d5:=a1 _ _ f9;show BV (λσ' e5=>∃(fm gl:AH) (go:List Int),σ'=sS bb mm sc n nl sl wl (Y<|.int (0+ (k:Int))) (Y<|.int one) (Y<|.bl c) (Y<|.int (m:Int)) (Y<|.ref ml) (Y<|.ref tl) (Y<|.ref rl) b4 b3 (Y<|.ref fm)/\U fm=S/\U gl=S/\go.Perm (ms.drop m)/\go.Pairwise (·<= ·)/\Bd U e5/\e5 gl=Y (.lst<|go.map V.int)/\e5 fm=Y (.dK<|Z8 (.str<|nm) (.bl c) (.ref gl))) ?_ ?_
  ·show λp hp=>?_;let t0:Bd U (upd U p<|.dK []):=AZ hp;show{_,O,_,O,nl,_,_,_,O,O,BX.of<|t0 _ _ h5,vR (v:=.str<|nm) (by rw[Be,g5];rfl),_,O,_,O,_,O,_,O,ml,_,O,BX.of<|t0 _ _ d5,λpS n2=>?_};let t1:=AZ (u:=.lst<|IT (ms.map V.int) (Y (m:Int)) S) n2;show{pS,ms.drop m,O,BX.of (by rw[Ax,Jz O,Hi]),by rw[DD];lia,λgl hgl=>?_};let t2:=AZ (u:=.lst<|(Kw<|ms.drop m).map V.int) hgl;show{t2 _ _<|t1 _ _ Ax,Z8 (.str<|nm) (.bl c)<|.ref gl,O,by change 3<=15;decide,p,gl,_,O,hp,t0.free<|t1.free hgl,MF _,PySem.W.sortI_rises _,((t0.trans t1).trans t2).put hp,?_,?_}
   ·rw[AT]
    ·show Ax
    rintro rfl;rw[t1 _ _ Ax]at hgl;cases hgl
   rw[Ax,N4]
  rintro σ' e5 ⟨fm,gl,go,rfl,a4,c4,n5,n4,c8,c1,e3⟩;let m8:fs.length=vs.length:=d3.length;show BV (λσ' a7=>∃(fl:AH) (js:List Nat),js.Perm (Bg m)/\(js.map λj=>ms.getD j 0).Pairwise (·< ·)/\σ'=sS bb mm sc n nl sl wl (Y<|.int (0+ (k:Int))) (Y<|.int one) (Y<|.bl c) (Y<|.int (m:Int)) (Y<|.ref ml) (Y<|.ref tl) (Y<|.ref rl) b4 b3 (Y<|.ref fm)/\e5 fl=S/\Bd U a7/\a7 gl=Y (.lst<|go.map V.int)/\a7 fl=Y (.lst<|js.map λj=>vs.getD j .non)/\a7 fm=Y (.dK<|rn {nm,c,go,js.map λj=>fs.getD j ng} gl fl)) ?_ ?_
  ·show{_,O,(m:Int),O,(),(),?_};rw[show((m:Int)).toNat=m by lia];show vC (Wk.rng 0 m) (by rw[Aw,BZ];lia) (λj H y=>∃t,y= .ref t/\H t=Y (.tup [.int (ms.getD j 0),.int<|0+ (j:Int)])) (λi H H' v s l5=>(by let(t,e,h):=l5;show{t,e,s _ _ h})) (λi H D zs us v hD l4=>(by let(t,e,h):=l4;show{t,e,by rw[AT (λz=>by rw[z,hD]at h;cases h)];show h})) (λj x hx H2 R s2 hR=>?_) λD1 e4 ys t3 g3 o3 g6 m6=>?_
   ·let(O,hj):=Qr hx;let d7:ms[j]?=Y (ms[j]' ()):=AA _;show{Sub.set O,_,O,_,O,ml,_,_,_,O,O,BX.of<|s2 _ _ (c8 _ _ d5),vR (v:=.int<|ms[j]' ()) (by rw[Be,d7];rfl),_,O,zl 2,λt ht=>hR _ _ (AZ ht) {t,O,?_}};rw[Ax,Bj,d7];rfl
   have(tt,O,m9):=xU (P:=λi t=>e4 t=Y (.tup [.int (ms.getD i 0),.int<|0+ (i:Int)])) ys m6;rw[Aw,Aw,BZ]at g6;let htk:∀j,j<m->(ms.take m).getD j 0=ms.getD j 0:=λj hj=>by
    rw[Bj,Bj,EF hj]
   let f8:∀j,j<tt.length->e4 (tt.getD j 0)=Y (.tup [.int (ms.getD j 0),.int<|0+ (j:Int)]):=λj hj=>by
    show m9 j _ ?_;rw[Bj,AA hj];rfl
   show{D1,tt,ms.take m,O,o3,by rw[BG];lia,f3.nd.sublist<|XY _ _,λj hj=>{_,by rw[htk j ()];show f8 j hj},(),λD2 js o0 m5 h3=>?_}
   let t2:Bd e4 (upd e4 D2<|.lst ((js.map λi=>tt.getD i 0).map V.ref)):=AZ o0;let pj:js.Perm (Bg m):=by rw[<-g6];show m5
   let hj:Paired (λ(i:Nat) t=>e4 t=Y (.tup [.int (ms.getD i 0),.int<|0+ (i:Int)])) js (js.map λi=>tt.getD i 0):=ar js λj hj=>f8 j (by rw[g6];show Dv.mp<|pj.mem_iff.mp hj);let h7: (js.map λj=>ms.getD j 0).Pairwise (·< ·):=by rw[Cm (g:=λi=>(ms.take m).getD i 0) λj hj=>(htk j<|Dv.mp (pj.mem_iff.mp hj)).symm];show h3
   generalize (js.map λi=>tt.getD i 0)=i8 at hj t2;let l1:js.length=i8.length:=hj.length;let o8:i8.length=m:=by rw[<-l1,pj.length_eq,BZ]
   show{D2,O,{_,BX.of Ax},Dg (Wk.list<|BX.of Ax) (by rw[Aw];lia) (λi=>match js[i]? with|some j=>vs.getD j .non|none=>.non) (λi x hx i5 R f0 hR=>?_) λfl i5 a5 f0 i3=>?_}
   ·rw[Be]at hx;let(t,ht,O):=Ce.mp hx;let(j,l3,j6):=Gf hj i t ht;let r6:j<m:=Dv.mp<|pj.mem_iff.mp (AL l3);let j5:vs[j]?=Y (vs[j]' ()):=AA _;let l7:R (vs.getD j .non) i5:=by have:=hR i5 λ_ _ e=>e;rw[l3]at this;show this
    show{t,_,O,GK.of<|f0 _ _ (t2 _ _ j6),O,_,_,O,_,_,O,O,(Sub.set O).trans<|Sub.set O,_,O,_,O,rl,_,_,_,O,O,BX.of<|f0 _ _ (t2 _ _<|g3 _ _ (c8 _ _ a8)),vR j5,?_};rw[show vs.getD j .non=vs[j]' ()by rw[Bj,j5];rfl]at l7;show l7
   let b5:=(g3.trans t2).trans f0;let e0:=b5 _ _ e3;show{_,O,fm,_,O,ir.k (k:=.inr "fields") e0 (by change 3<sizeLine;decide),fl,js,pj,h7,O,g3.free<|t2.free a5,(c8.trans b5).put a4,?_,?_,?_};·rw[AT (λz=>by rw[z,e3]at c1;cases c1)];show b5 _ _ c1
   ·rw[AT (λz=>by rw[z,e0]at i3;cases i3),i3,Aw,<-l1,Kq js (λj=>vs.getD j .non) _ (λi d hd=>by rw[hd])]
   rw[Ax,<-A1J]
  rintro σ' a7 ⟨fl,js,pj,h7,rfl,c5,c7,h8,i0,h9⟩;let d8:∀j∈js,j<fs.length:=λj hj=>by rw[a5];show Dv.mp<|pj.mem_iff.mp hj
  let h4: (js.map λj=>fs.getD j ng).Perm fs:=oX fs ng (by rw[a5];show pj);let c3:zT k Ws ⟨nm,c,go,js.map λj=>fs.getD j ng⟩:=f2.gok () (by rw[a5];show n3) g7 f3 () h4 (by rw[a5];show n5);let n1:zG ⟨nm,c,go,js.map λj=>fs.getD j ng⟩:=⟨by
   change((js.map λj=>fs.getD j ng).map (·.num)).Pairwise (·< ·);rw[AX,Cm (g:=λj=>ms.getD j 0) λj hj=>?_];·show h7
   let e:=f2.num j _<|AA (d8 j hj);change(fs.getD j ng).num=ms.getD j 0;rw[Bj,Bj,e,AA<|d8 j hj];rfl,n4⟩
  let d1:=c7 _ _<|a1 _ _ (a3 _ _ d0);let p7:gs.length=as.length:=hpa.length;show{_,O,.inl {O,_,BX.of d1},_,O,sl,_,.ref fm,O,O,d1,DM (by rw[Aw];lia),?_};let b9:=a1 _ _<|a3 _ _ d0;let b8:=a1 _ _<|a3 _ _ c2;let g4:∀{b:AH},b≠sl->b≠wl->b∉ [sl,wl]:=λh1 h2 z=>by
   simp only[AM,Cw,or_false]at z;show z.elim h1 h2
  let g0:XF (rm [sl,wl] a7) ⟨nm,c,go,js.map λj=>fs.getD j ng⟩ (.ref fm):=by
   show{fm,gl,fl,_,O,JX (g4 (λz=>?_) λz=>?_) h9,JX (g4 (λz=>?_) λz=>?_) h8,JX (g4 (λz=>?_) λz=>?_) i0,?_};·rw[z,b9]at a4;cases a4
   ·rw[z,b8]at a4;cases a4
   ·rw[z,b9]at c4;cases c4
   ·rw[z,b8]at c4;cases c4
   ·rw[z,c8 _ _ b9]at c5;cases c5
   ·rw[z,c8 _ _ b8]at c5;cases c5
   show lP (L2.Paired.imp' (λ_ _ z=>z.sm<|Sm.of ((Lr c7).trans<|xQ (by intro a ha;simp only[AM,Cw,or_false]at ha ⊢;rcases ha with h|h <;> simp[h]))) d3) ng .non js d8
  let sa:Bd (rm [sl,wl] a7) (rm [sl,wl]<|upd a7 sl (.lst<|as.map V.ref++[.ref fm])):=SC (by simp);let b7:upd a7 sl (.lst<|as.map V.ref++[.ref fm]) wl=Y (.lst<|Ws.map V.int):=by rw[AT (CI g8)];show(c7 _ _<|a1 _ _ (a3 _ _ c2))
  let h6:Ws.length<=6:=()
  let d9:zT Ws.length Ws ⟨nm,c,go,js.map λj=>fs.getD j ng⟩:=by rw[i1];show c3
  let j3:=ac hW d9;show{_,O,.inl {O,_,BX.of b7},_,O,_,O,.ref fm,{nm,c,go,js.map λj=>fs.getD j ng},wl,Ws,O,g0.sm<|Sm.of (sa.trans VY),b7,hW.bd h6,λf hf=>(d9.fs f hf).kind,Ev c3.len Aa,c3.ne,λl9 e9=>?_};let sb:Bd (rm [sl,wl] l9) (rm [sl,wl]<|upd l9 wl (.lst<|Ws.map V.int++[.int (IF Ws c<|js.map λj=>fs.getD j ng)])):=SC (by simp);let i9:=(sa.trans<|Lr e9).trans sb;show{wl,_,_,O,O,e9 _ _ b7,DM (by rw[Aw,i1];lia),.mk (gs:=gs++[{nm,c,go,js.map λj=>fs.getD j ng}]) (Ws:=Ws++[IF Ws c (js.map λj=>fs.getD j ng)]) (as:=as++[fm]) (hok.snoc (by rw[hgl];show c3) ?_) (by rw[AI,hgl];rfl) (λg' n6=>(Bt.mp n6).elim (hri g') λz=>by rw[AN.mp z];show n1) ?_ ?_ ?_ ?_ ?_ ?_ ?_ (hW.snoc j3.1 j3.2) ?_}
  ·rw[Bh,hnm,Ba,EE];have:zs.take k++[nm]=zs.take (k+1):=by rw[Gr,g5];rfl
   rw[this];show j1.take _
  ·rw[Bh,hnm,Ba,EE,Gr,g5];rfl
  ·intro g' e;rcases OY e with e|⟨e,rfl⟩
   ·rw[Hz ()]at e;cases e
   cases n8:c with|false=>rfl|true=>have:=hc n8;lia
  ·intro a ha;rcases Bt.mp ha with ha|ha
   ·show has a ha
   rw[AN.mp ha];show s4.free<|a3.free (a1.free a4)
  ·show List.nodup_append.mpr {hnd,List.pairwise_singleton _ _,λa ha b hb z=>?_};rw[AN.mp hb]at z;let(i,hi):=Cz.mp ha;let(g',_,a',t4,t5,p9,e',n9,_):=Gf hpa i a hi;cases e';have:=a1 _ _<|a3 _ _ (Ki n9).2;rw[z,a4]at this;cases this
  ·let sH:Bd H1 (upd a7 sl<|.lst (as.map V.ref++[.ref fm])):=(((s4.trans a3).trans a1).trans c7).put hsl;show(sH.trans e9).put j4
  ·rw[AT g8,e9 _ _ Ax,Bh];rfl
  ·rw[Ax,Bh];rfl
  show Nc (L2.Paired.imp' (λ_ _ z=>z.sm<|Sm.of ((Lr<|(a3.trans a1).trans c7).trans i9)) hpa)<|.cons (g0.sm<|Sm.of i9) .nil
 rintro σ' H2 @⟨_,gs,Ws,as,k,one,c,cnt,ml,tl,rl,j,fh,fm,hok,hgl,hri,hnm,hlast,has,hnd,s2,k4,o7,hW,hpa⟩;show{_,O,q gs Ws as sl H2 hok hri () () (by rw[hgl];show hlast) (s1.free hsl) (λa ha=>s1.free<|has a ha) hnd (s1.trans s2) k4<|L2.Paired.imp' (λ_ _ z=>z.sm<|Sm.of VY) hpa}
def Mr(gs:List SG)(i:Nat):AO:=((gs[i]?).map (·.nam)).getD ""
def Fb(gs:List SG):Lk->Kx|.truth=>.truth|.count=>.count|.whole=>.whole|.upto n=>.upto<|.int n|.text n=>.text<|.int n|.form i=>.form<|.str (Mr gs i)|.list k=>.list<|Fb gs k
def QB(H:Hp)(gs:List SG)(v:V):Prop:=∃l as,v= .ref l/\H l=Y (.lst<|MI V.ref as)/\Paired (λg a=>XF H g<|.ref a) gs as
def QB.sm(s:Sm H H'):QB H gs v->QB H' gs v:=λj=>by
 let(l,as,e,h,p):=j;show{l,as,e,s _ _ h O,L2.Paired.imp' (λ_ _ z=>z.sm s) p}
def QB.at{H:Hp}{gs:List SG}{v:V}(h:QB H gs v){i:Nat}{g:SG}(hi:gs[i]?=Y g):∃l as a,v= .ref l/\H l=Y (.lst<|MI V.ref as)/\as[i]?=Y a/\XF H g (.ref a):=by
 have(l,as,e,hl,p):=h;let j:gs.length=as.length:=p.length;let D:i<gs.length:=(AQ.mp hi).1;let ha:as[i]?=Y (as[i]' ()):=AA _;let(g',F,r):=Gf p i _ ha
 grind
def uk(h: (Lk.list k).ok n):k.ok n:=by
 rcases h with h|⟨i,rfl,h⟩
 ·cases k with|form i=>show h.elim|list j=>show h.elim|_=>show h
 show h
def mR:EY P w K mg base ZM k f fd ps (λ_ _ _ _=>False):={λ_ _ _ _ h=>h.elim,λ_ _ _ _ _ _ _ _ _ _ _ _ _ _ _ h=>h.elim}
def P9(h:∀vs H Q E,z vs H Q E->sp vs H Q E)(F:EY P w K mg base ZM k f fd ps sp):EY P w K mg base ZM k f fd ps z:={λvs H Q E x=>F.1 vs H Q E<|h _ _ _ _ x,λa b c d e f g i j l m n o p q x=>F.2 a b c d e f g i j l m n o p q<|h _ _ _ _ x}
def A0g{U:Type}{k:Nat}{f:AH}{fd:Eu}{ps:List AO}{sp:U->Sp}(F:∀i,EY P w K mg base ZM k f fd ps<|sp i):EY P w K mg base ZM k f fd ps (λvs H Q E=>∃i,sp i vs H Q E):={λvs H Q E D=>(by let(i,x):=D;show(F i).1 vs H Q E x),λa b c d e f g h j l m n o p q z=>(by let(i,x):=z;show(F i).2 a b c d e f g h j l m n o p q x)}
def wX(h:decide (a=b)=false:=by kernel_rfl):¬V.str a=V.str b:=λe=>of_decide_eq_false h<|V.str.inj e
def A0f(gs:List SG)(f:SF):Fx:={.int f.num,.str f.nam,Fb gs f.kind,.bl f.must,f.dfl}
def Xl(gs:List SG)(k:Lk):Et (Fb gs k)=DA k:=by cases k <;> rfl
def dm(f:SF):Prop:=f.dfl=DA f.kind\/(f.must=ge/\RP f.kind f.dfl)
def ze(D:∀j,k≠ .list j)(hd:d=DA k\/RP k d)(h:Th H d v)(h2:Th H' (DA k) u):xK v u=true:=by
 cases k with
 |truth=>
  rw[show u=V.bl ge from h2];rcases hd with rfl|hd;·rw[show v=V.bl ge from h];rfl
  rw[show d= .bl Z from hd]at h;rw[show v=V.bl Z from h];rfl
 |text n=>
  rw[h2.1];rcases hd with rfl|hd;·rw[h.1];rfl
  let(z,O,_):=hd;rw[h.1];rfl
 |form i=>
  rw[show u=V.non from h2];rcases hd with rfl|hd;·rw[show v=V.non from h];rfl
  show hd.elim
 |list j=>show A3p O<|D j
 |count=>
  rw[show u=V.int 0 from h2];rcases hd with rfl|hd;·rw[show v=V.int 0 from h];rfl
  let(i,O,_):=hd;rw[show v=V.int i from h];rfl
 |whole=>
  rw[show u=V.int 0 from h2];rcases hd with rfl|hd;·rw[show v=V.int 0 from h];rfl
  let(i,O,_):=hd;rw[show v=V.int i from h];rfl
 |upto m=>
  rw[show u=V.int 0 from h2];rcases hd with rfl|hd;·rw[show v=V.int 0 from h];rfl
  let(i,O,_):=hd;rw[show v=V.int i from h];rfl
def vN: (AG " ")={#[32]}:=⋯
def RC:List (List Nat)->List Nat|[]=>[]|[x]=>x|x::y::r=>x++32::RC (y::r)
def VH:∀ys:List AO,sg (Str.join {#[32]} ys)=RC (ys.map sg)
 |[]=>rfl|[x]=>rfl
 |x::y::r=>by
  change sg (x++ {#[32]} ++Str.join {#[32]} (y::r))=sg x++32::RC ((y::r).map sg);rw[FR,FR,VH (y::r),BS];rfl
def vT:∀{x y a b:List Nat},c∉x->c∉y->x++c::a=y++c::b->x=y/\a=b
 |[],[],_,_,_,_,e=>{O,(Hj e).2}|[],z::y,_,_,_,j,e=>A3p (AM.mpr<|.inl (Hj e).1) j|z::x,[],_,_,hx,_,e=>A3p (AM.mpr<|.inl (Hj e).1.symm) hx
 |z::x,u::y,_,_,hx,j,e=>by
  let(h1,h2):=vT (λz=>hx<|Bi _ z) (λz=>j<|Bi _ z) (Hj e).2
  grind
def gA:∀{xs ys:List (List Nat)},xs≠[]->ys≠[]->(∀x∈xs,32∉x)->(∀y∈ys,32∉y)->RC xs=RC ys->xs=ys
 |[],_,h,_,_,_,_=>A3p O h|_,[],_,h,_,_,_=>A3p O h|[x],[y],_,_,_,_,e=>by rw[show x=y from e]|[x],y::z::r,_,_,hx,_,e=>A3p (by rw[show x=y++32::RC (z::r)from e];simp)<|hx x (Bl ..)|x::z::r,[y],_,_,_,j,e=>A3p (by rw[show y=x++32::RC (z::r)from e.symm];simp)<|j y (Bl ..)
 |x::u::r,y::v::t,_,_,hx,j,e=>by
  let(h1,h2):=vT (hx x<|Bl ..) (j y<|Bl ..) (show x++32::RC (u::r)=y++32::RC (v::t)from e);rw[h1,gA (xs:=u::r) (ys:=v::t) (λz=>by cases z) (λz=>by cases z) (λz h=>hx z<|Bi _ h) (λz h=>j z<|Bi _ h) h2]
def Wz:∀{xs ys:List AO},xs.map sg=ys.map sg->xs=ys
 |[],[],_=>rfl|[],_::_,e=>by cases e|_::_,[],e=>by cases e
 |x::xs,y::ys,e=>by
  rw[Ba,Ba]at e;rw[Vx (Hj e).1,Wz (Hj e).2]
def iO(h0:ys≠[])(D:∀y∈ys,32∉sg y):HS (Str.join {#[32]} ys) {#[32]}=ys:=by
 show Wz<|gA ?_ (λz=>h0<|LF.mp z) (λx hx=>?_) (λy j=>?_) ?_
 ·intro z;have:=PyProof.Rows.split_pos (Str.join {#[32]} ys) {#[32]}
  simp_all
 ·let(y,j,O):=AS.mp hx;show StrLaws.split_free _ _ y j
 ·grind
 rw[<-VH,<-VH,StrLaws.join_split]
open PyProof.Rows PySem.NumText
def FIG:AO:="0123456789"
def vh:FIG.cps.toList=[48,49,50,51,52,53,54,55,56,57]:=⋯
def mJ(c:Nat):wP FIG c=decide (48<=c/\c<=57):=by
 unfold wP;rw[StrLaws.found_one,vh,decide_eq_decide];constructor;·intro h;show(by decide:∀d∈ [48,49,50,51,52,53,54,55,56,57],48<=d/\d<=57) c h
 intro h;show(by decide:∀d,d<58->48<=d->d∈ [48,49,50,51,52,53,54,55,56,57]) c (Nat.lt_succ_of_le h.2) h.1
def MY(z:AO)(c:Nat):Txt.startswith z {#[c]}=decide ((sg z).head?=Y c):=by
 obtain⟨⟨l⟩⟩:=z;cases l with
 |nil=>rfl
 |cons d r=>
  change(decide (0+1<= (d::r).length) && ((d::r).toArray.extract 0 (0+1)==#[c]))=decide (Y d=Y c)
  grind
def eU(z:AO):sg (Cq z (Y 1) S)=(sg z).drop 1:=by
 by_cases h:z.length=0
 ·let e:=Tn z (Y 1) S;let D: (sg<|Cq z (Y 1) S).length=0:=by rw[Fj];lia
  let j: (sg z).length=0:=by rw[Fj];show h
  grind
 let e:=UF (slice_closes_fromL (x:=z) (i:=1) (b:=(z.length:Int)) Aa () O);rw[e];change((z.cps.toList.drop 1).take ((z.length:Int) - 1).toNat)=(sg z).drop 1;apply GM;rw[DD,Fj]
 lia
def PX(l:List Nat):Bool:=decide (l.head?=Y 45)
def Gm(l:List Nat):List Nat:=if PX l=Z then l.drop 1 else l
def Xb(l:List Nat):Bool:=decide (1<=l.length) &&decide (l.length<=80) &&l.all (wP FIG)
def RB(l:List Nat):Bool:=Xb (Gm l) && !(decide ((Gm l).head?=Y 48) && !decide (l=[48]))
def dS(l:List Nat):Int:=if PX l=Z then -((digitsVal (Gm l):Nat):Int)else ((digitsVal (Gm l):Nat):Int)
def NI(z:AO):V:=if RB (sg z)=Z then .int (dS<|sg z)else .non
def gH(h:Xb l=Z):AllDigits l/\l≠[]/\l.length<=80:=by
 unfold Xb at h;rw[AB,AB,By]at h;let((h1,h2),h3):=h;show{λc hc=>?_,λe=>?_,A3l h2}
 ·have:=h3 c hc;rw[mJ]at this
  grind
 simp_all
def zh(h:AllDigits l)(h1:l≠[])(h2:l.length<=80):Xb l=true:=by
 unfold Xb;rw[AB,AB,By];show{{A3j ?_,A3j h2},λc hc=>?_};·grind
 rw[mJ];show A3j<|h c hc
def ay(h:PX l=Z):l=45::l.drop 1:=by
 unfold PX at h;have:=A3l h;cases l with
 |nil=>cases this
 |cons c r=>
  cases this;rfl
def uP(h:Xb (Gm<|sg z)=Z):PySem.intText? z=Y (dS<|sg z)/\z.length<=640:=by
 let(h1,h2,h3):=gH h;let F:=Fj z;unfold dS;by_cases hn:PX (sg z)=Z
 ·rw[A3n hn];let j:Gm (sg z)=(sg z).drop 1:=by unfold Gm;rw[A3n hn]
  rw[j]at h1 h2 h3 ⊢;let D:z.length<=640:=by grind
  show{intText_neg (ay hn) h1 h2 (),D}
 rw[A3m hn];let j:Gm (sg z)=sg z:=by unfold Gm;rw[A3m hn]
 rw[j]at h1 h2 h3 ⊢;show{intText_digits h1 h2 (),()}
def Jd(n:Nat):List Nat:=if n<10 then [48+n]else (48+n%10)::Jd (n/10)
def KH(h:n<10):Jd n=[48+n]:=by rw[Jd,A3n h]
def Rc(h:¬n<10):Jd n=(48+n%10)::Jd (n/10):=by rw[Jd,A3m h]
def Xe:∀d:Nat,d<10->(Nat.digitChar d).toNat=48+d:=by decide
def Oo(n:Nat): (XT 10 n).map Char.toNat=(Jd n).reverse:=by
 induction n using Nat.strongRecOn with
 |_ m j=>
  by_cases h:m<10;·rw[Nat.toDigits_of_lt_base h,KH h];change [(Nat.digitChar m).toNat]=[48+m];rw[Xe m h]
  let hm:m%10<10:=Nat.mod_lt m Aa;let t:XT 10 (m/10) ++XT 10 (m%10)=XT 10 (10* (m/10) +m%10):=Nat.toDigits_append_toDigits Aa () hm;rw[Nat.div_add_mod]at t;rw[<-t,Bh,Nat.toDigits_of_lt_base hm,Rc h,List.reverse_cons,j (m/10) ()];change _++[(Nat.digitChar<|m%10).toNat]=_;rw[Xe _ hm]
def Z6(t:String):sg (AG t)=t.toList.map Char.toNat:=signs_ofString t
def je(n:Int):sg (AG<|bn n)=(if n<0 then [45]else []) ++ (Jd n.natAbs).reverse:=by
 rw[<-Oo];by_cases h:n<0;·rw[A3n h];obtain⟨m,rfl⟩:∃m:Nat,n= -((m+1:Nat):Int):={n.natAbs - 1,()};rw[Z6];change(("-" ++Nat.repr (m+1):String)).toList.map Char.toNat=_;rw[String.toList_append,Bh,Nat.toList_repr];rfl
 rw[A3m h];let(m,O):=Int.eq_ofNat_of_zero_le (by lia:0<=n);show PySem.W.KIN.signs_num m
def fB(n:Nat):AllDigits (Jd n):=by
 induction n using Nat.strongRecOn with
 |_ m j=>
  intro c hc;by_cases h:m<10
  ·rw[KH h]at hc
   grind
  rw[Rc h]at hc;rcases AM.mp hc with e|hc;·lia
  show j (m/10) () c hc
def cc(n:Nat):Jd n≠[]:=by
 by_cases h:n<10;·rw[KH h];simp
 rw[Rc h];simp
def fA(h:n<10 ^ 80): (Jd n).length<=80:=by let e:=A3o Jg<|Oo n;rw[Aw,Tr]at e;rw[<-e];show digits10_le Aa h
def ai(n:Nat): (Jd n).reverse.head?=Y 48->n=0:=by
 induction n using Nat.strongRecOn with
 |_ m D=>
  intro j;by_cases h:m<10
  ·rw[KH h]at j;have:48+m=48:=by simpa using j
   lia
  rw[Rc h,List.reverse_cons]at j;cases z: (Jd<|m/10).reverse with
  |nil=>show A3p (OS.mp z)<|cc _
  |cons c r=>
   rw[z]at j;have:=D (m/10) () (by rw[z];show j)
   lia
def uu(h:n.natAbs<10 ^ 80):NI (AG<|bn n)= .int n:=by
 let hd:AllDigits (Jd n.natAbs).reverse:=(fB _).reverse;let D: (Jd n.natAbs).reverse≠[]:=λe=>cc _<|OS.mp e;let j: (Jd n.natAbs).reverse.length<=80:=by rw[Tr];show fA h
 let hv:digitsVal (Jd n.natAbs).reverse=n.natAbs:=by rw[<-Oo];show PySem.W.KIN.val_back _
 let hb:=zh hd D j;unfold NI;rw[je];by_cases hn:n<0
 ·rw[A3n hn];let U:PX ([45] ++ (Jd n.natAbs).reverse)=true:=by unfold PX;simp
  let F:Gm ([45] ++ (Jd n.natAbs).reverse)=(Jd n.natAbs).reverse:=by unfold Gm;rw[A3n U];rfl
  let g:RB ([45] ++ (Jd n.natAbs).reverse)=true:=by unfold RB;rw[F,hb,CQ,Gb];rw[A3k (λz=>by have:=ai _ z;lia),Dx]
  rw[A3n g];unfold dS
  grind
 rw[A3m hn,Le];let U:¬PX (Jd n.natAbs).reverse=true:=λz=>by
  have:=hd 45 (by rw[(ay z)];show Bl ..)
  lia
 let F:Gm (Jd n.natAbs).reverse=(Jd n.natAbs).reverse:=by unfold Gm;rw[A3m U]
 let g:RB (Jd n.natAbs).reverse=true:=by
  unfold RB;rw[F,hb,CQ,Gb];by_cases hz: (Jd n.natAbs).reverse.head?=Y 48;·let h0:=ai _ hz;rw[h0,KH Aa];decide
  simp_all
 rw[A3n g];unfold dS
 grind
def Fc:∀ys:List AO,MA K H (ys.map V.str)<|ys.map IY|[]=>.nil|n::r=>.cons (.str n)<|Fc r
def gp:∀(ys:List AO),(∀y∈ys,BF y=Z)->Dd (ys.map IY)=Z
 |[],_=>rfl
 |y::r,h=>by
  rw[Ba,Dd,AB];show{h y<|Bl ..,gp r λz j=>h z<|Bi _ j}
def Xf:∀(ys:List AO),HP (ys.map IY)<=1
 |[]=>by decide
 |y::r=>by
  rw[Ba,HP];have:=Xf r;simp only[NO]
  lia
def Ju{ys:List AO}(h:∀y∈ys,BF y=Z):DX (.list<|ys.map IY)=true:=by
 unfold DX;rw[AB];show{gp ys h,A3j ?_};have:=Xf ys;simp only[NO]
 lia
def bO:BF z=Z ↔ ∀c∈z.cps.toList,c<0x110000:=by unfold BF;rw[Array.all_eq_true_iff_forall_mem];simp
def lI(hx:BF x=Z)(j:BF y=Z):BF (x++y)=true:=by
 rw[bO]at hx j ⊢;intro c hc;rw[show(x++y).cps.toList=x.cps.toList++y.cps.toList from IB]at hc
 grind
def eS(s:String):BF (AG s)=true:=by
 rw[Str.ofString_eq_toList,bO];intro c hc;let(d,_,O):=AS.mp hc;let h:=d.valid;rcases h with h|h;·show JE h Aa
 show h.2
def wb(h:wP dC c=Z):97<=c/\c<=122:=by unfold wP at h;rw[StrLaws.found_one,vZ]at h;show(by decide:∀d∈ [97,98,99,100,101,102,103,104,105,106,107,108,109,110,111,112,113,114,115,116,117,118,119,120,121,122],97<=d/\d<=122) c (A3l h)
def ma(h:Co z=Z):∀c∈sg z,97<=c/\c<=122:=λc hc=>wb<|By.mp (Ks h).2.2 c hc
def sO(h:Co z=Z):BF z=true:=by
 rw[bO];intro c hc;have:=ma h c hc
 lia
def ag:∀l:List AO,(∀a∈l,BF a=Z)->BF (Cj (AG " ") l)=true:=by
 intro l h;change BF (Builtin.Str.glued (AG " ") l)=Z;rw[StrLaws.glued_eq_join];let e:BF (AG " ")=true:=⋯
 induction l with
 |nil=>decide+kernel
 |cons a r j=>
  cases r with|nil=>show h a<|Bl ..|cons b r=>show lI (lI (h a<|Bl ..) e)<|j λx hx=>h x<|Bi _ hx
def vj:∀(xs ys:List AO),PyData.eqvAll (xs.map IY) (ys.map IY)=decide (xs=ys)
 |[],[]=>rfl|[],_::_=>rfl|_::_,[]=>rfl
 |x::xs,y::ys=>by
  rw[Ba,Ba];change(PyData.eqv (.str x) (.str y) &&PyData.eqvAll (xs.map IY) (ys.map IY))=_;rw[vj xs ys];change((x==y) &&decide (xs=ys))=_
  grind
def vk(xs ys:List AO):PyData.eqv (.list<|xs.map IY) (.list<|ys.map IY)=decide (xs=ys):=vj xs ys
def toS(i:Int):AO:=AG<|bn i
def GU:Kx->List AO|.truth=>["truth"]|.count=>["count"]|.whole=>["whole"]|.upto (.int n)=>["upto",toS n]|.text (.int n)=>if n=100 then ["text"]else ["text",toS n]|.form (.str z)=>["form",z]|.list k=>"list" ::GU k|_=>[]
def Kx.good:Kx->Prop|.upto d=>∃n,d= .int n/\1<=n/\n<2 ^ 256|.text d=>∃n,d= .int n/\1<=n/\n<=100|.form d=>∃z,d= .str z/\Co z=Z|.list k=>k.flat=Z/\k.good|.bare=>False|.thing _=>False|_=>True
def Kx.good.fine:∀{k:Kx},k.good->k.fine:=by intro k;induction k with|upto d=>show λD=>(by let(n,e,_):=D;show{(n),e})|text d=>show λz=>(by let(n,e,_):=z;show{(n),e})|list k F=>show λj=>(by let(a,b):=j;show{a,F b})|form d=>show λ_=>trivial|_=>show λh=>h
def Il{i:Int}(h0:i.natAbs<2 ^ 256):i.natAbs.log2<1920:=by
 by_cases h:i.natAbs=0;·simp_all
 show BK ((Nat.log2_lt h).mpr h0) Aa
inductive UD(vs:List V)(H:Hp)(Q:VK):Prop|mk (i:Int) (_:vs=[.int i]) (_:i.natAbs<2 ^ 256) (_:Q (.str<|toS i) H)
def VE:Sp:=λvs H Q _=>UD vs H Q
def GZ(T:Tx K mg):∅ 1 223 Ad VE:=by show(T.df 4 O).okA VL ?_;intro 1 j h;let(i,O,h0,q):=h;show{_,qr<|qT Em T.KA Ia (CK<|pv 0),?_};show{_,O,i,O,Il h0,q}
def yf(T:Tx K mg)(z:k= .truth\/k= .count\/k= .whole):Jk P w K mg base 1 "word" k.cls (Yk<|.str ((GU k).getD 0 "")):=by
 rcases z with rfl|rfl|rfl
 ·show{T.Ob,_,_,_,(T.me 5 5 O O),(T.mf 5 O).ok YT (λvs H Q E h=>?_) λcdv A outer s H vs Q E j h=>?_,(HL.b1 (T.mf 5 O) λ_ _ _ _ _ _ _=>rfl)}
  ·let(v,O,_):=h;rfl
  let(v,O,q):=h;show{_,qr AE,q}
 ·show{T.Oc,_,_,_,(T.me 10 8 O O),(T.mf 8 O).ok Zf (λvs H Q E h=>?_) λcdv A outer s H vs Q E j h=>?_,(HL.b1 (T.mf 8 O) λ_ _ _ _ _ _ _=>rfl)}
  ·let(v,O,_):=h;rfl
  let(v,O,q):=h;show{_,qr AE,q}
 show{T.Oa,_,_,_,(T.me 15 11 O O),(T.mf 11 O).ok YO (λvs H Q E h=>?_) λcdv A outer s H vs Q E j h=>?_,(HL.b1 (T.mf 11 O) λ_ _ _ _ _ _ _=>rfl)};·let(v,O,_):=h;rfl
 let(v,O,q):=h;show{_,qr AE,q}
inductive wz(k:Kx)(vs:List V)(H:Hp)(Q:VK):Prop|mk (v:_) (_:vs=[v]) (_:RQ H k v) (_:dW H Q ((GU k).map V.str))
def MZ(k:Kx):Sp:=λvs H Q _=>wz k vs H Q
def LO(T:Tx K mg)(j:k= .truth\/k= .count\/k= .whole):∅ 2 279 Ap (MZ k):=by show(T.mf 2 O).okA Za ?_;intro 1 U h;let(v,O,F,q):=h;show{_,qr<|Ci (CK<|Fq (k:=1) O O O O O (pv 0) (U.mono Aa) ES),?_};have(a,dx,fs,O,ha,hf):=F.ins (by rcases j with rfl|rfl|rfl <;> rfl);show{_,O,a,_,dx,fs,_,O,ha,hf _ Aa Aa Aa,yf T j,_,O,zl 1,λl z=>?_};show q l _ z (AZ z) ?_;rcases j with rfl|rfl|rfl <;> show Ax
def Zp(T:Tx K mg)(hn: (Kx.upto<|.int n).good):∅ 2 455 Ap (MZ<|.upto (.int n)):=by let(_,e,h1,h2):=hn;cases e;show(T.mf 15 O).okA YQ ?_;intro 1 z h;let(v,O,(a,dx,u,O,ha,O),q):=h;show{_,qr<|Ci (Cv AE<|qD (@GZ P w K mg base T) z T.GS (CK<|Cb (pv 0) O)),?_};show{_,O,a,_,dx,_,_,O,ha,T.Lj,T.Lh,O,n,O,(),zl 2,λl j=>?_};show q l _ j (AZ j) Ax
def Uu(T:Tx K mg):∅ 2 621 Ap (MZ<|.form (.str z)):=by show(T.mf 27 O).okA Uo ?_;intro 1 U h;have(v,O,(a,dx,u,O,ha,(O,_)),q):=h;show{_,qr<|Ci (Cv AE<|Cb (pv 0) O),?_};show{_,O,a,_,dx,_,_,O,ha,T.Hm,T.HI,O,zl 2,λl j=>?_};show q l _ j (AZ j) Ax
def Zt(T:Tx K mg)(hn: (Kx.text<|.int n).good):∅ 2 510 Ap (MZ<|.text (.int n)):=by
 let(t,F):=T.QL;let(_,e,h1,h2):=hn;cases e;show(T.mf 18 O).okA YU ?_;intro 1 D h;let(v,O,(a,dx,u,O,ha,O),q):=h;show{_,AW (qi (qc Do (Cb (pv 0) O)<|fD F)<|qr (Ci<|CK AE))<|qr (Ci<|Cv AE (qD (@GZ P w K mg base T) D T.GS<|CK (Cb (pv 0) O))),?_};show{_,O,a,_,dx,_,_,O,ha,T.Kf,T.Js,O,O,_,O,Hs (λh=>?_) λh=>?_};·let e:n=100:=V.int.inj<|A3l h;show{zl 1,λl j=>q l _ j (AZ j) ?_};rw[Ax];unfold GU;rw[A3n e];rfl
 let e:¬n=100:=λz=>h<|A3j (A3o V.int z);show{_,O,a,_,dx,_,_,O,ha,T.Kf,T.Js,O,n,O,(),zl 2,λl j=>q l _ j (AZ j) ?_};rw[Ax];unfold GU;rw[A3m e];rfl
def mY(T:Tx K mg)(hf:k.flat=Z)(j:k.good):Jk P w K mg base 2 "words" k.cls (MZ k):=by cases k with|truth=>show{T.Ob,_,_,_,(T.me 1 2 O O),LO T<|.inl O,T.MV}|count=>show{T.Oc,_,_,_,(T.me 6 2 O O),LO T<|.inr (.inl O),T.MV}|whole=>show{T.Oa,_,_,_,(T.me 11 2 O O),LO T<|.inr (.inr O),T.MV}|upto n=>let(n,O,h):=j;show{T.Lj,_,_,_,(T.me 17 15 O O),Zp T {(n),O,h},(HL.b1 (T.mf 15 O) λ_ _ _ _ _ _ _=>rfl)}|text n=>let(n,O,h):=j;show{T.Kf,_,_,_,(T.me 22 18 O O),Zt T {(n),O,h},(HL.b1 (T.mf 18 O) λ_ _ _ _ _ _ _=>rfl)}|form z=>let(z,O,h):=j;show{T.Hm,_,_,_,(T.me 32 27 O O),Uu T,(HL.b1 (T.mf 27 O) λ_ _ _ _ _ _ _=>rfl)}|list k=>cases hf|bare=>show j.elim|thing d=>show j.elim
def ZZ:∀{k:Kx},k.flat=Z->(GU k).length<=2:=by
 intro k h;unfold GU;split <;> first|show AU 2|show Da 1|show BY 2|cases h|skip
 grind
def Zw(T:Tx K mg)(hf:k.flat=Z)(D:k.good):∅ 3 562 Ap (MZ<|.list k):=by
 show(T.mf 22 O).okA YX ?_;intro 1 U h;let(v,O,(a,dx,u,O,ha,z),q):=h;show{_,qr<|Bb DS (Ci<|CK AE) (Fq (k:=2) O O O O O (Cb (pv 0) O) (U.mono Aa) ES),?_};show{zl 1,λl hl=>?_};let s1:Bd H (upd H l<|.lst [.str "list"]):=AZ hl;have(b,bx,fs,O,hb,j):=(z.sm<|Sm.of s1).ins D.fine.isK;show{_,O,a,_,dx,_,_,O,s1 _ _ ha,T.Ll,T.Li,O,b,_,bx,fs,_,O,hb,j _ Aa Aa Aa,mY T hf D,_,O,z.sm<|Sm.of s1,λl2 H2 h2 s2 e2=>?_};show{l,l2,_,_,O,O,s2 _ _ Ax,e2,?_,λp hp=>?_};·rw[Aw];show AR (DH (ZZ hf) 1) Aa
 show q p _ (s1.free<|s2.free hp) ((s1.trans s2).trans<|AZ hp) Ax
def R6(T:Tx K mg)(j:k.good):Jk P w K mg base 3 "words" k.cls (MZ k):=by
 by_cases hf:k.flat=Z;·show Jk.mono (mY T hf j) Aa
 cases k with|list k=>show{T.Ll,_,_,_,(T.me 27 22 O O),Zw T j.1 j.2,(HL.b1 (T.mf 22 O) λ_ _ _ _ _ _ _=>rfl)}|_=>show A3p O hf
def IR:Dt->AO|.bl b=>if b then "yes" else "no"|.str z=>z|.int i=>toS i|_=>""
def U2(d:Dt):Prop:=(∃b,d= .bl b)\/(∃z,d= .str z/\Co z=Z)\/∃i,d= .int i/\i.natAbs<2 ^ 256
def U3:Kx->Dt->Prop|.truth,d=>d= .bl Z|.text _,d=>∃z,d= .str z/\Co z=Z|.count,d=>∃i,d= .int i/\i.natAbs<2 ^ 256|.whole,d=>∃i,d= .int i/\i.natAbs<2 ^ 256|.upto _,d=>∃i,d= .int i/\i.natAbs<2 ^ 256|_,_=>False
def U3.dw(h:U3 k d):U2 d:=by cases k with|truth=>show .inl {(_),h}|text n=>show .inr<|.inl h|count=>show .inr<|.inr h|whole=>show .inr<|.inr h|upto n=>show .inr<|.inr h|_=>show h.elim
def km(h:k.good):FI k (Et k)=true:=by
 cases k with
 |truth=>rfl|count=>decide+kernel|whole=>decide+kernel
 |upto d=>
  let(n,O,h1,_):=h;change(decide ((0:Int)<=0) &&decide ((0:Int)<=n)) &&Z=Z
  grind
 |text d=>
  let(n,O,h1,_):=h;change(!decide (((AG "").length:Int) >n) && (AG "").cps.toList.all LJ) &&decide ((AG "")="")=Z;rw[A3k (show ¬ ((AG "").length:Int) >n by rw[show(AG "").length=0 by decide+kernel];lia)];rfl
 |form d=>rfl|list k=>rfl|bare=>show h.elim|thing d=>show h.elim
structure Pf where
 num:Int
 nam:AO
 kind:Kx
 must:Bool
 dfl:Dt
def Pf.fx(p:Pf):Fx:={.int p.num,.str p.nam,p.kind,.bl p.must,p.dfl}
structure Pf.Ok(p:Pf):Prop where
 num:1<=p.num/\p.num<=200
 nam:Co p.nam=Z
 kind:p.kind.good
 dfl:p.dfl=Et p.kind\/(p.must=ge/\FI p.kind p.dfl=ge/\U3 p.kind p.dfl)
def Pf.Ok.dw{p:Pf}(h:p.Ok)(j:FI p.kind p.dfl=ge):p.must=ge/\U3 p.kind p.dfl:=by
 rcases h.dfl with e|⟨a,_,b⟩;·rw[e,km h.kind]at j;cases j
 show{(a),b}
def QV(p:Pf):List AO:=if p.must=Z then ["must"]else if FI p.kind p.dfl=Z then []else ["=",IR p.dfl]
def Zg(p:Pf):List AO:=[toS p.num,p.nam] ++GU p.kind++QV p
def gj(p:Pf):AO:=Cj " "<|Zg p
def Oj(h:i.natAbs<2 ^ 256): (toS i).length<=100:=by
 let a:=fA (n:=i.natAbs)<|JE h Aa;rw[<-Fj,show sg (toS i)=_ from je i,AI,Tr];split
 ·grind
 grind
def Er(h:Co z=Z):z.length<=12:=(Ks h).2.1
def Sr(D:k.good): (GU k).length<=3/\∀y∈GU k,y.length<=100:=by
 induction k with
 |truth=>show{Aa,λy j=>by rw[AN.mp j];decide+kernel}|count=>show{Aa,λy j=>by rw[AN.mp j];decide+kernel}|whole=>show{Aa,λy j=>by rw[AN.mp j];decide+kernel}|bare=>show D.elim|thing d=>show D.elim
 |upto d=>
  let(n,O,h1,h2):=D;show{Da 2,λy j=>?_};rcases AM.mp j with rfl|j;·decide+kernel
  rw[AN.mp j];show Oj ()
 |text d=>
  let(n,O,h1,h2):=D;unfold GU;split;·show{Aa,λy j=>by rw[AN.mp j];decide+kernel}
  show{Da 2,λy j=>?_};rcases AM.mp j with rfl|j;·decide+kernel
  rw[AN.mp j];show Oj ()
 |form d=>
  let(z,O,h):=D;show{Da 2,λy j=>?_};rcases AM.mp j with rfl|j;·decide+kernel
  rw[AN.mp j];show AR (Er h) Aa
 |list k F=>
  show{Ko<|ZZ D.1,λy j=>?_};rcases AM.mp j with rfl|j;·decide+kernel
  show(F D.2).2 y j
def qm(h:U2 d): (IR d).length<=100:=by
 rcases h with⟨b,rfl⟩|⟨z,rfl,h⟩|⟨i,rfl,h⟩;·cases b <;> decide+kernel
 ·show AR (Er h) Aa
 show Oj h
def xN{p:Pf}(h:p.Ok): (Zg p).length<=7/\∀y∈Zg p,y.length<=100:=by
 let a:=Sr h.kind;let t: (QV p).length<=2/\∀y∈QV p,y.length<=100:=by
  unfold QV;split;·show{Aa,λy j=>by rw[AN.mp j];decide+kernel}
  split;·simp
  rename_i h1 h2;show{AU 2,λy j=>?_};rcases AM.mp j with rfl|j;·decide+kernel
  rw[AN.mp j];show qm (h.dw<|by simpa using h2).2.dw
 show{?_,λy j=>?_}
 ·unfold Zg
  grind
 rcases Bt.mp j with j|j
 ·rcases Bt.mp j with j|j
  ·rcases AM.mp j with rfl|j
   ·show Oj (by have:=h.num;lia)
   rw[AN.mp j];show AR (Er h.nam) Aa
  simp_all
 simp_all
def UO:∀{ys:List AO} {b:Nat},(∀y∈ys,y.length<=b)->(ys.map (·.length)).sum<=ys.length*b
 |[],_,_=>BY _
 |y::ys,b,h=>by
  rw[Ba,List.sum_cons,BD,Nat.succ_mul,XX];show Ct (UO λz j=>h z<|Bi _ j)<|h y (Bl ..)
def Rx{ys:List AO}(hn:ys.length<=1000)(h:∀y∈ys,y.length<=1000){z:AO}(j:z.length=1): (ys.map (·.length)).sum+ys.length*z.length<=16777216:=by
 let a:=UO h
 grind
inductive Xu(vs:List V)(H:Hp)(Q:VK):Prop|mk (b:_) (_:vs=[.bl b]) (_:Q (.str<|if b then "yes" else "no") H)
def Yx:Sp:=λvs H Q _=>Xu vs H Q
def Zi(T:Tx K mg):∅ 1 237 ["truth"] Yx:=by show(T.df 6 O).okA YJ ?_;intro 1 j h;let(b,O,q):=h;show{_,qr<|HM (BN<|pv 0) AE AE,?_};show{_,O,b,O,?_};cases b <;> show q
inductive Te(vs:List V)(H:Hp)(Q:VK):Prop|mk (d v:_) (_:vs=[v]) (_:Th H d v) (_:U2 d) (_:Q (.str<|IR d) H)
def Uk:Sp:=λvs H Q _=>Te vs H Q
def Ut(T:Tx K mg):∅ 2 885 ["default"] Uk:=by
 show(T.df 25 O).okA Um ?_;intro 1 D h;let(d,v,O,j,hd,q):=h;show{_,AW (qi (BN<|qB (BR K O) T.Bw Bq (Cv (pv 0)<|Yl T.bA UY))<|qr (qD (@Zi P w K mg base T) D (T.d1 6 O λ_ _ _ _ _ _ _=>rfl)<|CK (pv 0)))<|AW (qi (BN<|qB (BR K O) T.Bw Bq (Cv (pv 0)<|Yl T.KA Ia))<|qr (pv 0)) (qr<|qD (@GZ P w K mg base T) D T.GS (CK<|pv 0)),?_};show{_,O,_,.ty "bool",_,_,_,O,j.ty,O,yC T d,_,O,?_};rcases hd with⟨b,rfl⟩|⟨z,rfl,h⟩|⟨i,rfl,h⟩;·cases j;show CP {(_),O,b,O,q}
 ·cases j.1;show BW {_,O,_,.ty "str",_,_,_,O,j.ty,O,jQ T _,_,O,CP {(_),O,q}}
 cases j;show BW {_,O,_,.ty "str",_,_,_,O,.int i,O,jQ T<|.int i,_,O,BW {(_),O,i,O,h,q}}
def UV(l m:List AO):l.map V.str++m.map V.str=(l++m).map V.str:=Bh.symm
inductive XB(vs:List V)(H:Hp)(Q:VK):Prop|mk (v p:_) (_:vs=[v]) (_:XG H (Pf.fx p) v) (_:p.Ok) (_:∀H',Bd H H'->Q (.str<|gj p) H')
def YE:Sp:=λvs H Q _=>XB vs H Q
def Zn(T:Tx K mg):∅ 6 892 Ah YE:=by
 show(T.df 26 O).okA PL ?_;intro 1 D h;have(v,p,O,(a,dx,n,z,k,m,d,O,ha,O,(O,_),hk,O,hd),U,q):=h;show{_,AY (qS 1 PL.nd<|Bb DS (Ci<|Cv (qD (@GZ P w K mg base T) D T.GS<|CK (Cb (pv 0) O)) (Cb (pv 0) O)) (Fq (k:=3) O O O O O (Cb (pv 0) O) (D.mono Aa) ES))<|AY (B5 (BN<|Cb (pv 0) O) (Cc<|DG (EA Bk BC BB Dp (pv 1)<|CK AE))<|Cc (qi (Dn<|BN (qD (@fS P w K mg base T) D T.TF<|Cv (Cb (pv 0) O) (Cb (pv 0) O)))<|Cc (DG<|EA Bk NN NM SM (pv 1) (CK<|Ci (Cv AE<|qD (@Ut P w K mg base T) D (T.d1 25 O λ_ _ _ _ _ _ _=>rfl) (CK<|Cb (pv 0) O)))))) (qr<|EA DC Hx Hw Rp AE (CK<|pv 1)),?_};let hl:=Sr U.kind;show BV (λσ' H1=>∃W,σ'=[Y (.ref a),Y<|.ref W]/\H W=S/\Bd H H1/\H1 W=Y (.lst<|([toS p.num,p.nam] ++GU p.kind).map V.str)) ?_ ?_;·show{_,O,a,_,dx,_,_,O,ha,T.CJ,T.GR,O,p.num,O,by have:=U.num;lia,_,O,a,_,dx,_,_,O,ha,T.CJ,T.Kb,O,zl 2,λl a3=>?_};let s1:=AZ (u:=.lst [.str (toS p.num),.str p.nam]) a3;let(b,bx,fs,O,hb,a6):=(hk.sm<|Sm.of s1).ins U.kind.fine.isK;show{_,O,a,_,dx,_,_,O,s1 _ _ ha,T.CJ,T.Ei,O,b,_,bx,fs,_,O,hb,a6 _ Aa Aa Aa,R6 T U.kind,_,O,hk.sm<|Sm.of s1,λl2 H2 h2 s2 e2=>?_};show{l,l2,_,_,O,O,s2 _ _ Ax,e2,?_,λW hW=>{W,O,s1.free<|s2.free hW,(s1.trans s2).trans<|AZ hW,by rw[Ax];rfl}};rw[Aw];show Di<|AR (DH hl.1 2) Aa
 rintro σ' H1 ⟨W,rfl,a1,s1,hW⟩;show BV (λσ' H2=>σ'=[Y (.ref a),Y<|.ref W]/\Bd H H2/\H2 W=Y (.lst<|(Zg p).map V.str)) ?_ ?_
 ·show{_,O,a,_,dx,_,_,O,s1 _ _ ha,T.CJ,T.Hl,O,p.must,O,Hs (λh=>?_) λh=>?_}
  ·show{_,O,.inl {O,_,BX.of hW},W,_,_,O,O,hW,?_,O,s1.put a1,?_}
   ·rw[Aw,AI];show DM<|AR (DH hl.1 2) Aa
   rw[Ax];unfold Zg QV
   grind
  show{_,O,a,_,dx,_,_,O,s1 _ _ ha,T.CJ,T.Ei,O,_,O,a,_,dx,_,_,O,s1 _ _ ha,T.CJ,T.Fp,O,k,d,p.kind,p.dfl,O,U.kind.fine,hk.sm<|Sm.of s1,Th.sm (Sm.of s1) _ _ hd,λH2 s2=>{_,O,Hs (λh2=>?_) λh2=>?_}}
  ·let hb:FI p.kind p.dfl=false:=by simpa using h2
   let j:=s1.trans s2;show{_,O,.inl {O,_,BX.of<|s2 _ _ hW},_,O,a,_,dx,_,_,O,j _ _ ha,T.CJ,T.Fp,O,p.dfl,d,O,Th.sm (Sm.of j) _ _ hd,((U.dw hb).2.dw),zl 2,λl a2=>?_};let s3:=AZ (u:=.lst [.str "=",.str<|IR p.dfl]) a2;show{W,l,_,_,O,O,s3 _ _<|s2 _ _ hW,Ax,?_,O,(j.trans s3).put a1,?_};·rw[Aw,AI];show Di<|AR (Nat.add_le_add_right (DH hl.1 2) 2) Aa
   rw[Ax];unfold Zg QV
   grind
  show{O,s1.trans s2,?_};rw[s2 _ _ hW];unfold Zg QV
  grind
 rintro σ' H2 ⟨rfl,s2,a8⟩;let D:=xN U;show{O,_,O," ",W,_,O,O,BX.of a8,Rx (AR D.1 Aa) (λy hy=>AR (D.2 y hy) Aa) Ab,q _ s2}
section
variable{J:It}{H1:Hp}{σ0:L2.St}{g:TG}{te:TE}{Q:VK}{xs:List V}
def IU{U:Type}{l:List U}(W:Wk J H1 xs)(hl:l.length=xs.length)(hz:xs.length<=1000)(φ:U->V)(hs:∀(j:Nat) (a:U) (x:V),l[j]?=Y a->xs[j]?=Y x->∀(H:Hp) (R:VK),Bd H1 H->(∀H',Bd H H'->R (φ a) H')->g x F H λz H2=>Sub F z/\te z H2 R)(hd:∀D H',H1 D=S->Bd H1 H'->H' D=Y (.lst<|l.map φ)->Q (.ref D) H'):RS J H1 F g Vw te Q:=by
 show Dg W hz (λi=>match l[i]? with|some a=>φ a|none=>.non) (λj x hx H R s hR=>?_) λD H' a b c=>hd D H' a b ?_;·obtain⟨y,hy⟩:∃y,l[j]?=Y y:={_,AA<|by rw[hl];show(AQ.mp hx).1};rw[hy]at hR;show hs j y x hy hx H R s hR
 rw[c,<-hl,Kq l φ _ λi d e=>by rw[e]]
end
structure Pg where
 nam:AO
 choice:Bool
 fields:List Pf
 gone:List Int
def Pg.gx(g:Pg):Gx:={g.choice,.str g.nam,Y<|g.fields.map λp=>.fld p.fx,g.gone}
structure Pg.Ok(g:Pg):Prop where
 nam:Co g.nam=Z
 fs:∀p∈g.fields,p.Ok
 len:g.fields.length<=10
 glen:g.gone.length<=10
 gone:∀n∈g.gone,1<=n/\n<=200
def gy(g:Pg):AO:=(if g.choice then ("choice" :AO)else "record") ++ (" " :AO) ++g.nam
def C5(ns:List Int):AO:=Cj " " ("gone" ::ns.map toS)
def aN(g:Pg):List AO:=if g.gone=[]then []else [C5 g.gone]
def HF(g:Pg):List AO:=gy g::g.fields.map gj++aN g
def Mp{D z j:Type}{R:j->z->Prop}{f:D->j}:∀{l:List D} {m:List z},Paired R (l.map f) m->Paired (λa b=>R (f a) b) l m|[],[],_=>.nil|[],_::_,h=>by cases h|_::_,[],h=>by cases h|a::l,b::m,h=>by cases h with|cons h t=>show .cons h<|Mp t
def SE{D z:Type}{R:D->z->Prop}:∀{l:List D} {m:List z},Paired R l m->∀(i:Nat) x y,l[i]?=Y x->m[i]?=Y y->R x y|_,_,.nil,i,x,y,e,_=>by simp at e|_,_,.cons h t,0,x,y,e,j=>by simp at e j;rw[<-e,<-j];show h|_,_,.cons h t,i+1,x,y,e,j=>SE t i x y (by simpa using e) (by simpa using j)
def x5: ((Ad:List AO) ++ ([]:List AO)).Nodup:=⋯
inductive XA(vs:List V)(H:Hp)(Q:VK):Prop|mk (v g:_) (_:vs=[v]) (_:NB H (Pg.gx g) v) (_:g.Ok) (_:dW H Q ((HF g).map V.str))
def YD:Sp:=λvs H Q _=>XA vs H Q
def Zm(T:Tx K mg):∅ 7 897 ["form"] YD:=by
 show(T.df 27 O).okA LK ?_;intro _ _ _ s H _ Q _ hr h _ _;have(v,g,O,(a,dx,z,f,l,O,ha,(O,_),(fl,fs,O,a2,a3),hl),ho,q):=h;let fc:=SY T g.choice;let a3:=Mp a3;let a7:=a3.length;show{_,AW (qS 1 LK.nd<|tS (HM (BN<|Fq (P:=P) (w:=w) (K:=K) (mg:=mg) (base:=base) (k:=1) O O O O O (pv 0) (hr.mono Aa) ES) AE AE))<|AY (qS 2 LK.nd<|Bb DS (Ci<|CK (Bb BO (Bb BO (pv 1) AE)<|Cb (pv 0) O)) (Re Ah [] [] .nil (CY<|Cb (pv 0) O) (λC s_ H_ fp=>BQ (i:=0) Ro O (Cd O)<|CV O) λC s_ H_ fp=>qD (@Zn P w K mg base T) hr (T.d1 26 O λ_ _ _ _ _ _ _=>rfl)<|CK (pv 0))) (AY (qi (qc TR (qB BU T.Ey Ds<|CK (Cb (pv 0) O)) AF)<|Cc (DG<|EA Bk BC BB Dp (pv 2) (CK<|EA DC Hx Hw Rp AE (CK<|Bb DS (Ci<|CK AE) (Re Ad [] [] .nil (CY<|Cb (pv 0) O) (λC s_ H_ fp=>BQ (i:=0) x5 O (Cd O)<|CV O) λC s_ H_ fp=>qD (@GZ P w K mg base T) hr T.GS<|CK (pv 0))))))<|qr (pv 2)),?_};show{λv H'=>v= .str (if g.choice then "choice" else "record")/\H=H',?_,?_};·show{_,O,a,_,dx,_,_,O,ha,O,RJ T g.choice,_,O,g.choice,O,?_};cases g.choice <;> show{(O),O}
 rintro _ _ ⟨rfl,rfl⟩;let U: (if g.choice then ("choice" :AO)else "record").length<=6:=by cases g.choice <;> decide+kernel
 let a2:=λ(H':Hp) (s:Bd H H')=>s _ _ a2;show BV (λσ' H1=>∃L,σ'=[Y (.ref a),Y<|.str (if g.choice then "choice" else "record"),Y<|.ref L]/\H L=S/\Bd H H1/\H1 L=Y (.lst<|(gy g::g.fields.map gj).map V.str)) ?_ ?_
 ·show{_,O,_,_,O,O,Di (AR (Ct U<|show(AG " ").length<=1 by decide+kernel) Aa),_,O,a,_,dx,_,_,O,ha,fc.cl,fc.n1,O,_,_,O,O,Di (AR (Ct (FO U<|show(AG " ").length<=1 by decide+kernel)<|Er ho.nam) Aa),zl 1,λl1 a5=>?_};let s1:=AZ (u:=.lst [.str (gy g)]) a5;show{_,O,a,_,dx,_,_,O,s1 _ _ ha,fc.cl,fc.n2,O,fl,O,{_,BX.of<|a2 _ s1},IU (Wk.list<|BX.of (a2 _ s1)) a7 (by have:=ho.len;lia) (λp=>.str<|gj p) (λj p x hp hx H2 R s2 hR=>{Sub.set O,_,O,x,p,O,XG.sf (Sm.of<|s1.trans s2).sf<|SE a3 j p x hp hx,ho.fs p<|AL hp,hR}) λD H2 hD s2 e2=>?_}
  ·show{l1,D,_,_,O,O,s2 _ _ Ax,e2,?_,λL hL=>{L,O,s1.free<|s2.free hL,(s1.trans s2).trans<|AZ hL,?_}}
   ·rw[Aw];show Di<|AR (DH ho.len 1) Aa
   rw[Ax,Ba,AX];rfl
 rintro σ' H1 ⟨L,rfl,a8,s1,hL⟩;show BV (λσ' H2=>σ'=[Y (.ref a),Y<|.str (if g.choice then "choice" else "record"),Y<|.ref L]/\Bd H H2/\H2 L=Y (.lst<|(HF g).map V.str)) ?_ ?_
 ·show{_,O,a,_,dx,_,_,O,s1 _ _ ha,fc.cl,fc.n3,O,l,_,O,.inl<|BX.of (s1 _ _ hl),_,_,O,O,_,O,Hs (λh=>?_) λh=>?_}
  ·let b1:g.gone≠[]:=λe=>by
    have:=A3l h;rw[Aw,show g.gx.gone=g.gone from O,e]at this;show A3p this Aa
   show{_,O,.inl {O,_,BX.of hL},O,zl 1,λl1 a5=>?_};let s2:=AZ (u:=.lst [.str "gone"]) a5;show{_,O,a,_,dx,_,_,O,s2 _ _<|s1 _ _ ha,fc.cl,fc.n3,O,l,O,{_,BX.of<|s2 _ _ (s1 _ _ hl)},IU (l:=g.gone) (Wk.list<|BX.of (s2 _ _<|s1 _ _ hl)) (Aw ..).symm (by rw[Aw];show AR ho.glen Aa) (λn=>.str<|toS n) (λj n x hn hx H2 R s2 hR=>?_) λD H3 hD s3 e3=>?_};·rw[Be,show g.gx.gone[j]?=Y n from hn]at hx;cases hx;show{Sub.set O,_,O,n,O,by have:=ho.gone n<|AL hn;lia,hR _<|Bd.refl _}
   show{l1,D,_,_,O,O,s3 _ _ Ax,e3,?_,λM hM=>?_};·rw[Aw];show Di<|AR (DH ho.glen 1) Aa
   let s4:=(s2.trans s3).trans<|AZ (u:=.lst (V.str "gone" ::g.gone.map λn=>.str<|toS n)) hM;show{" ",M,"gone" ::g.gone.map toS,O,O,BX.of (by rw[Ax,Ba,AX];rfl),Rx ?_ (λy hy=>?_) Ab,?_}
   ·rw[BD,Aw];have:=ho.glen;lia
   ·rcases AM.mp hy with rfl|hy
    ·decide+kernel
    let(n,hn,O):=AS.mp hy;show AR (Oj (by have:=ho.gone n hn;lia)) Aa
   show{L,_,_,O,O,s4 _ _ hL,?_,O,(s1.trans s4).put a8,?_};·rw[Aw,BD,Aw];show DM<|AR (Ko ho.len) Aa
   rw[Ax];unfold HF aN;rw[A3m b1,<-UV _ [_]];rfl
  let he:g.gone=[]:=by simp at h;show h
  show{O,s1,?_};rw[hL];unfold HF aN;rw[A3n he,BE]
 rintro σ' H2 ⟨rfl,s2,b4⟩;show{_,O,q L _ a8 s2 b4}
inductive XE(vs:List V)(H:Hp)(Q:VK):Prop|mk (v xs ws gs:_) (_:vs=[v]) (_:V9 H xs ws v) (_:Paired (λg x=>NB H (Pg.gx g) x) gs xs) (_: (∀g∈gs,g.Ok)) (_:gs.length<=8) (_:dW H Q ((gs.map HF).flatten.map V.str))
def YG:Sp:=λvs H Q _=>XE vs H Q
def aF(h:g.Ok): (HF g).length<=12:=by
 unfold HF aN;have:=h.len
 grind
def gE:∀{gs:List Pg},(∀g∈gs,g.Ok)->(gs.map HF).flatten.length<=gs.length*12
 |[],_=>BY _
 |g::gs,h=>by
  rw[Ba,Ee,AI,BD,Nat.succ_mul,XX];show Ct (gE λx hx=>h x<|Bi _ hx)<|aF (h g<|Bl ..)
def PQ(T:Tx K mg):∅ 8 904 ["book"] YG:=by
 show(T.df 28 O).okA LL ?_;intro 1 hr h;have(v,xs,ws,gs,O,(a,dx,l,wa,O,ha,hl,hw),hp,hg,h8,q):=h;let D:=hp.length;show{_,AW (qS 1 LL.nd<|Ci FU)<|AY (JN EC O (CY<|Cb (pv 0) O) (BQ (i:=2) LL.nd O<|Cd O)<|Cc (DG<|EA Bk NN NM SM (pv 1) (CK<|qD (@Zm P w K mg base T) hr (T.d1 27 O λ_ _ _ _ _ _ _=>rfl) (CK<|pv 2)))) (qr<|pv 1),?_};show{zl 0,λL hL=>?_};let s1:=AZ (u:=.lst []) hL;show BV (λσ' H'=>(∃z,σ'=[Y (.ref a),Y<|.ref L,z])/\Bd H H'/\H' L=Y (.lst<|(gs.map HF).flatten.map V.str)) ?_ ?_
 ·show{_,O,a,_,dx,_,_,O,s1 _ _ ha,T.UM,T.MO,O,l,O,{_,BX.of<|s1 _ _ hl},?_};show OF (xs:=xs) (λi σ' H'=>(∃z,σ'=[Y (.ref a),Y<|.ref L,z])/\Bd H H'/\H' L=Y (.lst<|((gs.take i).map HF).flatten.map V.str)) {{(_),O},s1,Ax} (λi σ' H' _ h=>BX.of<|h.2.1 _ _ hl) (λi x σ' H' hx h=>?_) λσ' H' h=>?_
  ·let((z,O),s2,j):=h;let hi:i<gs.length:=by rw[D];show(AQ.mp hx).1
   let a3:=AA hi;let U:=hg _<|OT hi;show{_,O,.inl {O,_,BX.of j},_,O,x,gs[i],O,(SE hp i _ x a3 hx).sm<|Sm.of s2,U,λl3 H3 b1 s3 e3=>?_};show{L,l3,_,_,O,O,s3 _ _ j,e3,?_,{(_),O},(s2.trans s3).put hL,?_}
   ·rw[Aw,Aw];let a1:=gE (gs:=gs.take i) λg a4=>hg g<|Cg a4;let a2:=aF U;rw[BG]at a1;show Di ()
   let e: ((gs.take<|i+1).map HF).flatten=((gs.take i).map HF).flatten++HF gs[i]:=by
    rw[Gr,a3]
    grind
   rw[Ax,e,UV]
  grind
 rintro σ' H2 ⟨⟨z,rfl⟩,s2,j⟩;show{_,O,q L _ hL s2 j}
open PySem.NumText
def nn(h:¬ (!b)=Z):b=true:=by cases b <;> simp at h ⊢
def gc: (AG "-")={#[45]}:=⋯
def UN: (AG "0")={#[48]}:=⋯
def gS(z:AO):decide (V.str z=V.str (AG "0"))=decide (sg z=[48]):=by
 rw[decide_eq_decide];constructor;·intro h;cases h;rw[UN]
 intro h;show A3o V.str (Vx<|by rw[UN];show h)
def vV(n:Nat)(m:Nat):Ue (.int (n:Int)) 1 (m:Int)=(decide (1<=n) &&decide (n<=m)):=by
 change(decide ((1:Int)<= (n:Int)) &&decide ((n:Int)<= (m:Int)))=_
 grind
def cK(f:AO):Xb (sg f)=((decide (1<=f.length) &&decide (f.length<=80)) &&TV f FIG):=by rfl
def fV(h:Xb (Gm<|sg z)=ge):NI z= .non:=by
 unfold NI RB
 grind
def fU(h:Xb (Gm<|sg z)=Z)(h0: (Gm<|sg z).head?=Y 48)(h1:¬sg z=[48]):NI z= .non:=by
 unfold NI RB
 grind
def pz(h:Xb (Gm<|sg z)=Z)(h0:¬ (Gm<|sg z).head?=Y 48\/sg z=[48]):NI z= .int (dS<|sg z):=by
 unfold NI RB
 grind
def uH(e:sg f=Gm (sg z)):f.length<=z.length:=by
 rw[<-Fj,<-Fj,e];unfold Gm;split;·simp
 lia
inductive ZJ(vs:List V)(H:Hp)(Q:VK):Prop|mk (z:_) (_:vs=[.str z]) (_:z.length<=1000) (_:∀H',Bd H H'->Q (NI z) H')
def bK:Sp:=λvs H Q _=>ZJ vs H Q
def Kk(T:Tx K mg):∅ 3 230 ["word"] bK:=by
 show(T.df 5 O).okA QZ ?_;intro _ _ _ s H _ Q _ hr h _ _;let(z,O,hz,q):=h;let(_,j):=(T.ui 1 O);let(_,D):=(T.us 1 O);show{_,AW (qi (Dn<|BN (qB (BR K O) T.Bw Bq<|Cv (pv 0) (Yl T.KA Ia)))<|qr DJ)<|AW (qS 1 QZ.nd<|tS (HM (BN<|EA DC PySem.F.slot_str_startswith PySem.F.type_str_startswith PU (pv 0) (CK AE)) (DE Oi (pv 0) (Ej AF) Ek)<|pv 0)) (AW (qi (PW.pt<|Jf (Dn<|BN (qD (@Fv P w K mg base T) hr T.EQ<|Bc (qB Km T.Ey Ds<|CK (pv 1)) (Cv AF<|fD j))) (HX<|Dn (BN<|qD (@PP P w K mg base T) hr T.PB (Cv (pv 1)<|dz D))))<|qr DJ)<|AW (qi (PW.pt<|FT (BN<|EA DC PySem.F.slot_str_startswith PySem.F.type_str_startswith PU (pv 1) (CK AE)) (Fu<|qc Ri (pv 0) AE))<|qr DJ) (qr<|qT ZD T.dD Xj (CK<|pv 0))),?_};show{_,O,_,.ty "str",_,_,_,O,.str z,O,jQ T<|.str z,_,O,?_};show BW {λv H'=>H=H'/\∃f,v= .str f/\sg f=Gm (sg z),?_,?_}
 ·show{_,O,O,z,(AG "-"),O,O,_,O,Hs (λh=>?_) λh=>?_}
  ·show{_,O,1,O,z,O,Di hz,O,_,O,?_};rw[gc,MY]at h;rw[eU];unfold Gm PX;rw[A3n h]
  show{_,O,O,z,O,?_};rw[gc,MY]at h;unfold Gm PX;rw[A3m h]
 rintro v H' ⟨rfl,f,rfl,U⟩;let hf:=AR (uH U) hz;let non:NI z= .non->∀H',Bd H H'->Q .non H':=λe H' s=>by rw[<-e];show q _ s
 show{_,O,f,O,Di hf,_,.int f.length,_,_,O,O,_,O,Hs (λh=>?_) λh=>?_};·rw[show(80:Int)=((80:Nat):Int)from O,vV,Gb]at h;show CP (non (fV<|by rw[<-U,cK,h,Dx]) _<|Bd.refl _)
 rw[show(80:Int)=((80:Nat):Int)from O,vV]at h;let h':=nn h;show{_,O,f,FIG,O,hf,λH1 s1=>{_,O,Hs (λh2=>?_) λh2=>?_}};·show non (fV ?_) _ s1;rw[<-U,cK,h',CQ];simpa using h2
 let hb:Xb (Gm<|sg z)=true:=by rw[<-U,cK,h',CQ];simpa using h2
 let fin:¬ (Gm<|sg z).head?=Y 48\/sg z=[48]->Q (.int<|dS (sg z)) H1:=λh0=>by
  rw[<-pz hb h0];show q _ s1
 let(i1,i2):=uP hb;show{_,O,O,f,(AG "0"),O,O,_,O,Hs (λh0=>?_) λh0=>?_}
 ·rw[UN,MY,U]at h0;show{_,O,O,_,O,Hs (λh1=>?_) λh1=>?_}
  ·rw[gS]at h1;show non (fU hb (A3l h0)<|by simpa using h1) _ s1
  rw[gS]at h1;show{_,O,z,_,O,i1,i2,fin<|.inr (by simpa using h1)}
 rw[UN,MY,U]at h0;show BW {_,O,z,_,O,i1,i2,fin<|.inl (by simpa using h0)}
def El(z:AO):Option Int:=if RB (sg z)=Z then Y (dS<|sg z)else S
def Wt(z:AO):NI z=match El z with|some n=>.int n|none=>.non:=by
 unfold NI El
 grind
def V1(h:n<=20000):n<=sizeLine:=by rw[Ec];lia
def aq(z y:AO)(h:z.length<=8000): (QG z (Fi z y 0 z.length<|z.length+1) y.length).length<=20000:=by
 rw[length_partsBetween];have:=StrLaws.occ_length_le z y 0 z.length<|z.length+1
 lia
def oa(z y:AO)(h:z.length<=8000): (HS z y).length<=20000:=by
 unfold HS;split;·simp
 split;·simp
 show aq z y h
def qd(ys:List AO): (ys.map V.str).all Nz=true:=by rw[By];intro x hx;let(y,_,O):=AS.mp hx;rfl
def yQ(z:AO)(ys:List AO):Ym (.str z) (ys.map V.str)=decide (z∈ys):=by
 by_cases h:z∈ys;·rw[A3j h];unfold Ym;rw[List.any_eq_true];show{.str z,AS.mpr {(z),h,O},beq_iff_eq.mpr O}
 rw[A3k h];unfold Ym;rw[Yc];intro x hx e;let(y,j,O):=AS.mp hx;show h (by rw[<- (UF<|show(y==z)=Z from e)];show j)
inductive Ln where
 |txt (z:AO)|thing (d:Dt)
def JU(H:Hp):Ln->V->Prop|.txt z,v=>v= .str z/\z.length<=8000|.thing d,v=>Th H d v/\jS d=ge
def Gz(z:AO):Option (List AO):=if ("" :AO)∈HS z " " then S else Y (HS z " ")
def Ez:Ln->Option (List AO)|.txt z=>Gz z|.thing _=>S
def A8(H:Hp)(Q:VK):Option (List AO)->Prop|none=>∀H',Bd H H'->Q .non H'|some ys=>dW H Q<|ys.map V.str
inductive cX(vs:List V)(H:Hp)(Q:VK):Prop|mk (v l:_) (_:vs=[v]) (_:JU H l v) (_:A8 H Q (Ez l))
def eu:Sp:=λvs H Q _=>cX vs H Q
def fK(T:Tx K mg):∅ 1 251 ["line"] eu:=by
 show(T.df 8 O).okA TN ?_;intro 1 hr h;let(v,l,O,U,q):=h;show{_,AW (qi (Dn<|BN (qB (BR K O) T.Bw Bq<|Cv (pv 0) (Yl T.KA Ia)))<|qr DJ)<|AW (qS 1 TN.nd<|EA DC PySem.F.slot_str_split PySem.F.type_str_split uB (pv 0) (CK AE)) (AW (qi (Lu Mq AE (pv 1) O)<|qr DJ)<|qr (pv 1)),?_};cases l with
 |thing d=>
  let(hd,hs):=U;show{_,O,v,.ty "str",_,_,_,O,hd.ty,O,jQ T d,_,O,?_};rw[hs];show CP<|q _ (Bd.refl _)
 |txt z=>
  let(O,D):=U;show{_,O,_,.ty "str",_,_,_,O,.str z,O,jQ T<|.str z,_,O,BW {_,O,O,z," ",O,O,Ab,V1 (),V1<|oa z " " D,V1<|aq z " " D,λp hp=>?_}};let j:A8 H Q (Gz z):=q;unfold Gz at j;show{_,O,p,_,O,.inl<|BX.of Ax,O,qd _,_,O,?_};rw[yQ];by_cases h: ("" :AO)∈HS z " ";·rw[A3n h]at j;rw[A3j h];show CP<|j _ (AZ hp)
  rw[A3m h]at j;rw[A3k h];show BW {_,O,j p _ hp (AZ hp) Ax}
def aC(hx:H x=S)(z:H dx=S)(j:dx≠x):Bd H (upd (upd H dx<|.own x) x<|.ins C dx []):=by show(AZ z).trans (AZ ?_);rw[AT (CI j)];show hx
def gf(hx:H x=S)(z:H dx=S)(j:dx≠x):Bd H (upd (upd (upd H dx<|.own x) x<|.ins C dx []) x<|.ins C dx fs):=by rw[Lp];show(AZ z).trans (AZ ?_);rw[AT (CI j)];show hx
def yo(h:n.natAbs<2 ^ 256):NI (toS n)= .int n:=uu<|JE h Aa
def Ws(H:Hp)(ys:List AO)(v:V):Prop:=∃p,v= .ref p/\H p=Y (.lst<|ys.map V.str)/\ys.length<=20000/\∀y∈ys,y.length<=1000
def Ws.same(s:Bd H H')(h:Ws H ys v):Ws H' ys v:=by let(p,e,h,r):=h;show{p,e,s _ _ h,r}
def WU{ys:List AO}(h:∀y∈ys,y.length<=1000)(i:Nat): (ys.getD i "").length<=1000:=by rw[Bj];cases e:ys[i]? with|none=>change(AG "").length<=1000;decide+kernel|some y=>show h y<|AL e
def A0V(H:Hp)(k:Kx)(j:Nat)(v:V):Prop:=∃t u,v= .ref t/\H t=Y (.tup [u,.int (j:Nat)])/\RQ H k u
inductive ii(vs:List V)(H:Hp)(Q:VK):Prop|mk (v ys:_) (i:Nat) (_:vs=[v,.int (i:Nat)]) (_:Ws H ys v) (_:Q (.str<|ys.getD i "") H)
def iP:Sp:=λvs H Q _=>ii vs H Q
def Qs(T:Tx K mg):∅ 1 911 Ai iP:=by
 show(T.df 29 O).okA ji ?_;intro _ _ _ _ H _ Q _ z h D F;let(v,ys,i,O,(p,O,hp,hn,j),q):=h;show{_,qr<|HM (qc B7 (pv 1)<|qB BU T.Ey Ds (CK<|pv 0)) (MK (pv 0)<|pv 1) AE,?_};show{_,O,_,O,p,_,O,.inl<|BX.of hp,_,_,O,O,_,O,Hs (λh=>?_) λh=>?_}
 ·let hi:i<ys.length:=by simp_all
  show{_,O,_,O,p,_,_,.str<|ys.getD i "",O,O,BX.of hp,FN ?_,q}
  grind
 let hi:ys.length<=i:=by simp_all
 rw[Bj,Hz hi]at q;show q
def Kx.rf:Kx->Prop|.truth=>True|.count=>True|.whole=>True|.upto d=>∃n,d= .int n|.text d=>∃n,d= .int n|.form d=>∃z,d= .str z/\Co z=Z|_=>False
def Kx.rk:Kx->Prop|.list k=>k.rf|k=>k.rf
def Hn(j w1:AO):Option (Kx×Nat):=if j="truth" then Y (.truth,1)else if j="count" then Y (.count,1)else if j="whole" then Y (.whole,1)
 else if j="upto" then (El w1).map λn=>(.upto<|.int n,2)
 else if j="text" then Y (match El w1 with|some n=>(.text<|.int n,2)|none=>(.text<|.int 100,1))
 else if j="form" then (if Co w1=Z then Y (.form<|.str w1,2)else S)else S
def kP(H:Hp)(i:Nat):Option (Kx×Nat)->V->Prop|none,v=>v= .non|some (k,j),v=>A0V H k (i+j) v/\k.rk
def JL(h:¬a=b):¬V.str a=V.str b:=λz=>h<|V.str.inj z
inductive cZ(vs:List V)(H:Hp)(Q:VK):Prop|mk (v ys:_) (i:Nat) (_:vs=[v,.int (i:Nat)]) (_:Ws H ys v) (_:∀u H',Bd H H'->kP H' i (Hn (ys.getD i "")<|ys.getD (i+1) "") u->Q u H')
def eG:Sp:=λvs H Q _=>cZ vs H Q
def fM(T:Tx K mg):∅ 4 918 Ai eG:=by
 let U:=@Qs P w K mg base T;let(t1,b4):=cS T;let dv:CB [V.int 100] [FM 100 t1]:=.cons {(_),O} .nil;show(T.df 30 O).okA Ho ?_;intro _ _ _ _ H _ Q _ hr h X_ D_;let(v,ys,i,O,hw,q):=h;let a3:EX (1+1) _:=hr.mono ();show{_,AW (qS 2 Ho.nd<|qD U hr T.MT (Cv (pv 0)<|pv 1))<|AW (qS 3 Ho.nd<|qD U hr T.MT (Cv (pv 0)<|Bb CS (pv 1) AF)) (AY (qS 4 Ho.nd<|qD (@Kk P w K mg base T) hr T.Ke (CK<|pv 3))<|AW (qi (qc Do (pv 2) AE)<|qr (Cn<|Cv (We ((T.mks 0 O).1) (T.fw 0 O) ((T.mks 0 O).2) O T.Vj) (Bb CS (pv 1) AF))) (AW (qi (qc Do (pv 2) AE)<|qr (Cn<|Cv (We ((T.mks 1 O).1) (T.fw 1 O) ((T.mks 1 O).2) O T.dH) (Bb CS (pv 1) AF)))<|AW (qi (qc Do (pv 2) AE)<|qr (Cn<|Cv (We ((T.mks 2 O).1) (T.fw 2 O) ((T.mks 2 O).2) O T.dG) (Bb CS (pv 1) AF))) (AW (qi (PW.pt<|FT (qc Do (pv 2) AE) (Fu<|qc lV (pv 4) DJ))<|qr (Cn<|Cv (HR {((T.mks 3 O).1),(T.fnd 16 O),((T.mB2 14 O).2),((T.mks 3 O).2)} (cq T) a3 O T.la (HL.b2 (T.mf 14 O) λ_ _ _ _ _ _ _ _=>rfl) .nil ES<|CK (pv 4)) (Bb CS (pv 1) AF)))<|AW (qi (PW.pt<|FT (qc Do (pv 2) AE) (Fu<|qc lV (pv 4) DJ))<|qr (Cn<|Cv (HR {(T.kY),T.TB,T.Tv,T.kW} (Rj T) a3 O T.QN (cR T) .nil ES<|CK (pv 4)) (Bb CS (pv 1) AF))) (AW (qi (qc Do (pv 2) AE)<|qr (Cn<|Cv (tP {(T.kY),T.TB,T.Tv,T.kW} (Rj T) a3 O T.QN b4 dv ES) (Bb CS (pv 1) AF)))<|AW (qi (PW.pt<|FT (qc Do (pv 2) AE) (Fu<|BN (qD (@Ha P w K mg base T) hr T.GT<|CK (pv 3))))<|qr (Cn<|Cv (HR {((T.mks 6 O).1),(T.fnd 31 O),((T.mB2 26 O).2),((T.mks 6 O).2)} (Wp T) a3 O T.OW (HL.b2 (T.mf 26 O) λ_ _ _ _ _ _ _ _=>rfl) .nil ES<|CK (pv 3)) (Bb CS (pv 1) AF))) (qr DJ))))),?_};let b0:=hw;let(p,O,hp,hn,hy):=b0;show{_,O,_,O,_,ys,i,O,hw,_,O,_,O,_,_,O,O,_,ys,i+1,O,hw,?_};let a2: (ys.getD (i+1) "").length<=1000:=WU hy _;revert q a2;generalize ys.getD i ""=w0;generalize ys.getD (i+1) ""=w1;intro q a2;show BV (λσ' H'=>Bd H H'/\σ'=[Y (.ref p),Y<|.int i,Y<|.str w0,Y<|.str w1,Y<|NI w1]) ({_,O,_,O,a2,λH' s'=>{(s'),O}}) ?_;rintro σ' H1 ⟨s1,rfl⟩;let e2:2<=sizeLine:=zl 2;let fin:∀{k:Kx} {x:AH} {m:Int} {j:Nat} {H2:Hp},Hn w0 w1=Y (k,j)->k.rk->Bd H1 H2->RQ H2 k (.ref x)->m=((i+j:Nat):Int)->∀t,H2 t=S->Q (.ref t) (upd H2 t<|.tup [.ref x,.int m]):=λF hk s2 hx em t ht=>by
  rw[em];show q _ _ ((s1.trans s2).trans<|AZ ht) ?_;rw[F];show{{t,_,O,Ax,hx.sm<|Sm.of (AZ ht)},hk}
 let non:∀{H2:Hp},Hn w0 w1=S->Bd H1 H2->Q .non H2:=λF s2=>by
  show q _ _ (s1.trans s2) ?_;rw[F];rfl
 show{_,O,O,_,O,?_};by_cases h1:w0="truth";·subst h1;show Gc O λx dx hx D z=>{_,O,_,_,O,O,e2,fin (k:=.truth) (j:=1) O trivial (aC hx D z) {(x),dx,O,Ax} O}
 show EN (JL h1) {_,O,O,_,O,?_};by_cases h2:w0="count";·subst h2;show Gc O λx dx hx D z=>{_,O,_,_,O,O,e2,fin (k:=.count) (j:=1) O trivial (aC hx D z) {(x),dx,O,Ax} O}
 show EN (JL h2) {_,O,O,_,O,?_};by_cases h3:w0="whole";·subst h3;show Gc O λx dx hx D z=>{_,O,_,_,O,O,e2,fin (k:=.whole) (j:=1) O trivial (aC hx D z) {(x),dx,O,Ax} O}
 show EN (JL h3) {_,O,O,_,O,?_};let F:Hn w0 w1=if w0="upto" then (El w1).map λn=>(.upto<|.int n,2)else if w0="text" then Y (match El w1 with|some n=>(.text<|.int n,2)|none=>(.text<|.int 100,1))else if w0="form" then (if Co w1=Z then Y (.form<|.str w1,2)else S)else none:=by unfold Hn;rw[A3m h1,A3m h2,A3m h3]
 let eN:=Wt w1;by_cases h4:w0="upto"
 ·subst h4;rw[A3n O]at F;show Gc O ?_;cases hN:El w1 with
  |some n=>
   rw[hN]at F eN;rw[eN];show{_,O,O,_,O,CP {_,O,λx dx hx D z=>{x,dx,_,O,Ax,O,_,O,_,_,O,O,e2,fin (k:=.upto<|.int n) (j:=2) F {(n),O} (gf hx D z) {(x),dx,_,O,Ax,O} O}}}
  |none=>
   rw[hN]at F eN;rw[eN];show{_,O,O,_,O,BW {_,O,O,_,O,EN wX<|BW {_,O,O,_,O,EN wX {_,O,O,_,O,EN wX<|BW (non F<|Bd.refl _)}}}}
 rw[A3m h4]at F;show EN (JL h4)<|BW {_,O,O,_,O,?_};by_cases h5:w0="text"
 ·subst h5;rw[A3n O]at F;show Gc O ?_;cases hN:El w1 with
  |some n=>
   rw[hN]at F eN;rw[eN];show{_,O,O,_,O,CP {_,O,λx dx hx D z=>{x,dx,_,O,Ax,O,_,O,_,_,O,O,e2,fin (k:=.text<|.int n) (j:=2) F {(n),O} (gf hx D z) {(x),dx,_,O,Ax,O} O}}}
  |none=>
   rw[hN]at F eN;rw[eN];show{_,O,O,_,O,BW {_,O,O,_,O,Gc O λx dx hx D z=>{x,dx,_,O,Ax,O,_,O,_,_,O,O,e2,fin (k:=.text<|.int 100) (j:=1) F {100,O} (gf hx D z) {(x),dx,_,O,Ax,O} O}}}
 rw[A3m h5]at F;show EN (JL h5)<|BW {_,O,O,_,O,EN (JL h5) {_,O,O,_,O,?_}};by_cases h6:w0="form"
 ·subst h6;rw[A3n O]at F;show Gc O {_,O,_,.str w1,O,{(O),a2},λH2 s2=>{_,O,?_}};by_cases h7:Co w1=Z
  ·rw[show DR (.str w1)=Z from h7];rw[A3n h7]at F;show CP {_,O,λx dx hx D z=>{x,dx,_,O,Ax,O,_,O,_,_,O,O,e2,fin (k:=.form<|.str w1) (j:=2) F {(w1),O,h7} (s2.trans<|gf hx D z) {(x),dx,_,O,Ax,O,a2} O}}
  rw[show DR (.str w1)=ge from HD.mpr h7];rw[A3m h7]at F;show BW<|non F s2
 rw[A3m h6]at F;show EN (JL h6)<|BW (non F<|Bd.refl _)
def jR{c A B:Prop} [Decidable c](hc:¬c)(h:A):if (!decide c)=Z then A else B:=by grind
def Vs:List (Ib×V):=[(.inr "yes",.bl Z),(.inr "no",.bl ge)]
def Kx.rf.fine{k:Kx}(h:k.rf):k.flat=Z/\k.fine:=by cases k with|upto d=>show{(O),h}|text d=>show{(O),h}|list k=>show h.elim|bare=>show h.elim|thing d=>show h.elim|_=>show{(O),trivial}
def Kx.rk.fine{k:Kx}(h:k.rk):k.fine:=by cases k with|list k=>show Kx.rf.fine h|bare=>show BM h|thing d=>show BM h|upto d=>show h|text d=>show h|_=>trivial
def Kx.rk.may{k:Kx}(h:k.rk):k.may:=by
 cases k with
 |list k=>
  let h:k.rf:=h;cases k with|list k=>show h.elim|thing d=>show h.elim|_=>trivial
 |thing d=>show BM h|_=>trivial
def Kx.rf.rk{k:Kx}(h:k.rf):k.rk:=by cases k with|list k=>show h.elim|_=>show h
def Vu(h:Hn a b=Y (k,j)):k.rf:=by
 unfold Hn at h;split at h;·cases h;trivial
 split at h;·cases h;trivial
 split at h;·cases h;trivial
 split at h
 ·cases hn:El b with|none=>rw[hn]at h;cases h|some n=>rw[hn]at h;cases h;show{(n),O}
 split at h
 ·cases hn:El b with|none=>rw[hn]at h;cases h;show{100,O}|some n=>rw[hn]at h;cases h;show{(n),O}
 split at h
 ·split at h
  ·rename_i z;cases h;show{(b),O,z}
  cases h
 cases h
def HZ(ys:List AO)(i:Nat):Option (Kx×Nat):=if ys.getD i ""="list" then (Hn (ys.getD (i+1) "")<|ys.getD (i+2) "").map λx=>(.list x.1,x.2+1)
 else Hn (ys.getD i "") (ys.getD (i+1) "")
inductive ik(vs:List V)(H:Hp)(Q:VK):Prop|mk (v ys:_) (i:Nat) (_:vs=[v,.int (i:Nat)]) (_:Ws H ys v) (_:∀u H',Bd H H'->kP H' i (HZ ys i) u->Q u H')
def iS:Sp:=λvs H Q _=>ik vs H Q
def jD(T:Tx K mg):∅ 5 925 Ai iS:=by
 let D:=@fM P w K mg base T;show(T.df 31 O).okA VM ?_;intro 1 hr h;let(v,ys,i,O,hw,q):=h;let a2:EX (1+1) _:=hr.mono ();show{_,AW (qi (qc Ri (qD (@Qs P w K mg base T) hr T.MT<|Cv (pv 0) (pv 1)) AE)<|qr (qD D hr T.Mf<|Cv (pv 0) (pv 1)))<|AW (qS 2 VM.nd<|qD D hr T.Mf (Cv (pv 0)<|Bb CS (pv 1) AF)) (AW (qi (qc Ng (pv 2) DJ)<|qr DJ)<|qr (Cn<|Cv (HR {((T.mks 5 O).1),(T.fnd 26 O),((T.mB2 21 O).2),((T.mks 5 O).2)} (cu T) a2 O T.lh (HL.b2 (T.mf 21 O) λ_ _ _ _ _ _ _ _=>rfl) .nil ES<|CK (TQ (pv 2) AF)) (TQ (pv 2) AF))),?_};show{_,O,_,O,_,ys,i,O,hw,?_};unfold HZ at q;by_cases h:ys.getD i ""="list"
 ·rw[A3n h]at q;rw[h];show{O,_,O,WN O {_,O,_,O,_,_,O,O,_,ys,i+1,O,hw,λu H1 s1 F=>?_}};rw[show i+1+1=i+2 from O]at F;revert q F;cases e:Hn (ys.getD (i+1) "") (ys.getD (i+2) "")with
  |none=>
   intro q F;obtain rfl:u= .non:=F;show{_,O,O,_,O,Gc O<|q _ _ s1 O}
  |some x=>
   let(k,j):=x;intro q F;have((t,u,O,ht,F),_):=F;show{_,O,O,_,O,EN (λz=>by cases z) {_,O,t,_,_,_,O,O,GK.of ht,NU,λx dx hx a4 a3=>?_}};let s2:Bd H1 _:=gf (C:=591) (fs:=[("item",u)]) hx a4 a3;show{x,dx,_,O,Ax,O,_,O,t,_,_,_,O,O,GK.of<|s2 _ _ ht,dA,zl 2,λt2 U=>?_};show q _ _ ((s1.trans s2).trans<|AZ U) {{t2,_,O,?_,RQ.sm (Sm.of<|AZ U)<|show RQ _ (.list k) (.ref x)from{x,dx,_,O,Ax,F.sm<|Sm.of s2}},Vu e};rw[Ax,show i+ (j+1)=i+1+j by lia]
 rw[A3m h]at q;show{O,_,O,jR (JL h) {(_),O,_,O,_,ys,i,O,hw,q}}
def JK(z:AO):Option Dt:=if z="yes" then Y (.bl Z)else if z="no" then Y (.bl ge)else S
def dtV:Option Dt->V|some (.bl b)=>.bl b|some (.int i)=>.int i|some (.str z)=>.str z|_=>.non
inductive cY(vs:List V)(H:Hp)(Q:VK):Prop|mk (z:_) (_:vs=[.str z]) (_:Q (dtV<|JK z) H)
def eF:Sp:=λvs H Q _=>cY vs H Q
def xc(z:AO): (Jt Vs<|.inr z).getD .non=dtV (JK z):=by
 unfold JK;by_cases h:z="yes";·subst h;rfl
 rw[A3m h];let n1:¬ ((.inr "yes" :Ib)= .inr z):=λe=>h (RY e).symm;unfold Vs;rw[Mi (p:=((.inr "yes" :Ib),V.bl Z)) n1];by_cases h2:z="no";·subst h2;rfl
 rw[A3m h2,Mi (p:=((.inr "no" :Ib),V.bl ge)) λe=>h2 (RY e).symm];rfl
def fL(T:Tx K mg)(j:KD P w K 190 Vs):∅ 1 244 ["word"] eF:=by show(T.df 7 O).okA eV ?_;intro 1 D h;let(z,O,q):=h;show{_,qr<|tQ j (Sk<|T.g _ _ (T.nr 24 O)) (pv 0) {(O),O,O,O},?_};show{O,_,O,.inr z,O,?_};rw[xc];show q
def IS:Kx->AO->Option Dt|.truth,z=>JK z|.text _,z=>if Co z=Z then Y (.str z)else S|.count,z=>(El z).map Dt.int|.whole,z=>(El z).map Dt.int|.upto _,z=>(El z).map Dt.int|_,_=>S
def DfO(H:Hp):Option Dt->V->Prop|none,v=>v= .non|some d,v=>Th H d v/\v≠ .non
inductive XD(vs:List V)(H:Hp)(Q:VK):Prop|mk (kv k z:_) (_:vs=[kv,.str z]) (_:RQ H k kv) (_:k.rk) (_:z.length<=1000) (_:∀u H',Bd H H'->DfO H' (IS k z) u->Q u H')
def YF:Sp:=λvs H Q _=>XD vs H Q
def M4(H:Hp)(z:AO):DfO H ((El z).map Dt.int) (NI z):=by rw[Wt];cases El z with|none=>rfl|some n=>show{O,λe=>by cases e}
def Zo(T:Tx K mg)(hT:KD P w K 190 Vs):∅ 4 932 ["kind","word"] YF:=by
 show(T.df 32 O).okA YN ?_;intro 1 U h;let(kv,k,z,O,hx,j,hz,q):=h;show{_,AW (qi (BN<|qB (BR K O) T.Bw Bq (Cv (pv 0)<|Sk T.Vj))<|qr (qD (@fL P w K mg base T hT) U (T.d1 7 O λ_ _ _ _ _ _ _=>rfl)<|CK (pv 1)))<|AW (qi (BN<|qB (BR K O) T.Bw Bq (Cv (pv 0)<|Sk T.QN))<|qr (HM (BN<|qD (@Ha P w K mg base T) U T.GT (CK<|pv 1)) (pv 1) DJ)) (AW (qi (BN<|Fq (P:=P) (w:=w) (K:=K) (mg:=mg) (base:=base) (k:=1) O O O O O (pv 0) (U.mono Aa) ES)<|qr (qD (@Kk P w K mg base T) U T.Ke<|CK (pv 1)))<|qr DJ),?_};have(t,ty,_,k1,_,_,_,k5,_):=gq T j.may hx;have(a,dx,fs,O,ha,hf):=hx.ins j.fine.isK;let cs: (k.isOf 1=ge/\k.isOf 5=ge/\((LM k=Z/\IS k z=(El z).map Dt.int)\/(LM k=ge/\IS k z=S)))\/k= .truth\/∃d,k= .text d:=by cases k with|truth=>show .inr<|.inl O|text d=>show .inr<|.inr {(d),O}|count=>show .inl {O,O,.inl {(O),O}}|whole=>show .inl {O,O,.inl {(O),O}}|upto d=>show .inl {O,O,.inl {(O),O}}|form d=>show .inl {O,O,.inr {(O),O}}|list k=>show .inl {O,O,.inr {(O),O}}|bare=>show BM j|thing d=>show BM j
 rcases cs with⟨h1,h5,hp⟩|rfl|⟨d,rfl⟩
 ·rw[h1]at k1;rw[h5]at k5;let dp:=vA (P:=P) (w:=w) (base:=base) T j.fine;show{_,O,_,.ref 359,t,_,_,O,ty,O,k1,_,O,BW {_,O,_,.ref 532,t,_,_,O,ty,O,k5,_,O,BW ?_}};rcases hp with⟨hp,e⟩|⟨hp,e⟩
  ·rw[hp]at dp;show{_,O,a,_,dx,fs,_,O,ha,hf _ Aa Aa Aa,dp,_,O,Z,O,CP {_,O,_,O,hz,λH' s'=>q _ _ s' ?_}};rw[e];show M4 _ _
  rw[hp]at dp;show{_,O,a,_,dx,fs,_,O,ha,hf _ Aa Aa Aa,dp,_,O,ge,O,BW<|q _ _ (Bd.refl _) ?_};rw[e];rfl
 ·show{_,O,_,.ref 359,t,_,_,O,ty,O,k1,_,O,CP {_,O,z,O,q _ _ (Bd.refl _) ?_}};change DfO _ (JK z) _;unfold JK;split
  ·show{O,λe=>by cases e}
  split;·show{O,λe=>by cases e}
  rfl
 show{_,O,_,.ref 359,t,_,_,O,ty,O,k1,_,O,BW {_,O,_,.ref 532,t,_,_,O,ty,O,k5,_,O,CP {_,O,_,.str z,O,{(O),hz},λH' s'=>{_,O,?_}}}};let F:∀u H',Bd H H'->DfO H' (if Co z=Z then Y (.str z)else S) u->Q u H':=q
 by_cases h7:Co z=Z;·rw[show DR (.str z)=Z from h7];rw[A3n h7]at F;show CP {_,O,F _ _ s' {{(O),hz},λe=>by cases e}}
 rw[show DR (.str z)=ge from HD.mpr h7];rw[A3m h7]at F;show BW<|F _ _ s' O
def tailIn(n:Int)(nm:AO)(k:Kx)(tl:List AO)(c:Bool):Option Pf:=if tl=[]then Y {n,nm,k,ge,Et k}else if c=Z then S
 else if tl=(["must"]:List AO)then Y {n,nm,k,Z,Et k}
 else if tl.length=2/\tl.getD 0 ""="=" then (IS k<|tl.getD 1 "").map λd=>{(n),nm,k,ge,d}else S
def Dj(ys:List AO)(c:Bool):Option Pf:=match El (ys.getD 0 "")with
 |none=>S
 |some n=>if Co (ys.getD 1 "")=Z then (match HZ ys 2 with
  |none=>S|some (k,j)=>tailIn n (ys.getD 1 "") k (ys.drop<|2+j) c)else S
structure D0(p:Pf):Prop where
 nam:Co p.nam=Z
 kind:p.kind.rk
 dfl:p.dfl=Et p.kind\/(p.must=ge/\∃z,IS p.kind z=Y p.dfl)
def zU(H0 H:Hp):Option Pf->V->Prop|none,v=>v= .non|some p,v=>kO H0 H p.fx v/\D0 p
def vw(h:IS k z=Y d):tX k d=d:=by
 cases d with
 |non=>
  cases k with|truth=>show A3p h (by change ¬JK z=_;unfold JK;split <;> (try split) <;> simp)|text n=>show A3p h (by change ¬ (if _ then _ else _)=_;split <;> simp)|count=>show A3p h (by change ¬ (El z).map Dt.int=_;cases El z <;> simp)|whole=>show A3p h (by change ¬ (El z).map Dt.int=_;cases El z <;> simp)|upto n=>show A3p h (by change ¬ (El z).map Dt.int=_;cases El z <;> simp)|_=>cases h
 |_=>rfl
def zp{H:Hp}{ys:List AO}{i:Nat}(h:∀y∈ys,BF y=Z):∀y∈ys.drop i,BF y=true:=λy j=>h y<|DU j
def Nl(h:ys≠[]):Yn (ys.map V.str) 0=Y (.str<|ys.getD 0 ""):=by cases ys with|nil=>show A3p O h|cons y r=>show NU
inductive dh(vs:List V)(H:Hp)(Q:VK):Prop|mk (v ys c:_) (_:vs=[v,.bl c]) (_:Ws H ys v) (_:ys≠[]) (_: (∀y∈ys,BF y=true)) (_:∀u H',Bd H H'->zU H H' (Dj ys c) u->Q u H')
def eP:Sp:=λvs H Q _=>dh vs H Q
def fR(T:Tx K mg)(hT:KD P w K 190 Vs):∅ 6 939 ["words","in_choice"] eP:=by
 let v1:CB [V.non] [CT]:=.cons O .nil;let v2:CB [V.bl ge,V.non] [CG ge,CT]:=.cons O<|.cons O .nil;show(T.df 33 O).okA GW ?_;intro _ _ _ _ H _ Q _ hr h X_ D_;let(v,ys,c,O,hw,c5,hok,q):=h;let b5:EX (3+1) _:=hr.mono ();let hu:=hr.units;show{_,AY (qS 2 GW.nd<|qD (@Kk P w K mg base T) hr T.Ke (CK<|MK (pv 0) AF))<|AW (qS 3 GW.nd<|qD (@Qs P w K mg base T) hr T.MT (Cv (pv 0) AF)) (AY (qS 4 GW.nd<|qD (@jD P w K mg base T) hr (T.d2 31 O λ_ _ _ _ _ _ _ _=>rfl) (Cv (pv 0) AF))<|AY (qi (PW.pt<|Jf (qc Ng (pv 2) DJ) (Jf (Dn<|BN (qD (@Ha P w K mg base T) hr T.GT<|CK (pv 3)))<|HX (qc Ng (pv 4) DJ)))<|qr DJ) (AW (qS 5 GW.nd<|TQ (pv 4) AF)<|AY (qS 6 GW.nd<|DE HQ (pv 0) (Ej<|TQ (pv 4) AF) Ek) (AW (qi (qc Do (qB BU T.Ey Ds<|CK (pv 6)) AF)<|qr (HR {(T.Vi),T.MS,T.MR,T.Vh} (LP T) b5 O T.NW (ZH T) v2 ES<|Bc (pv 2) (Cv (pv 3)<|pv 5)))<|AW (qi (BN<|pv 1)<|qr DJ) (AY (qi (qc (jy hu) (pv 6)<|Ci (CK AE))<|qr (HR {(T.Vi),T.MS,T.MR,T.Vh} (LP T) b5 O T.NW (ZG T) v1 ES<|Bc (pv 2) (Bc (pv 3)<|Cv (pv 5) ER)))<|AY (qS 7 GW.nd<|HM (PW.pt<|FT (qc Do (qB BU T.Ey Ds<|CK (pv 6)) AF) (Fu<|qc Do (MK (pv 6) AF) AE)) (qD (@Zo P w K mg base T hT) hr (T.d2 32 O λ_ _ _ _ _ _ _ _=>rfl)<|Cv (pv 5) (MK (pv 6) AF)) DJ) (AW (qi (qc Ng (pv 7) DJ)<|qr DJ)<|qr (HR {(T.Vi),T.MS,T.MR,T.Vh} (LP T) b5 O T.NW (ZF T) .nil ES<|Bc (pv 2) (Bc (pv 3)<|Bc (pv 5) (Cv ER<|pv 7)))))))),?_};let d3:=hw;let(W,O,hW,f0,b8):=d3;let d0: (ys.getD 0 "").length<=1000:=WU b8 _;let D: (ys.getD 1 "").length<=1000:=WU b8 _;unfold Dj at q;show BV (λσ' H1=>Bd H H1/\σ'=[Y (.ref W),Y<|.bl c,Y<|NI (ys.getD 0 ""),S,S,S,S,S]) ({_,O,W,_,_,_,O,O,BX.of hW,Nl c5,_,O,d0,λH1 s1=>{(s1),O}}) ?_;rintro σ' H1 ⟨s1,rfl⟩;show{_,O,_,ys,1,O,hw.same s1,?_};show BV (λσ' H2=>Bd H H2/\∃u,σ'=[Y (.ref W),Y<|.bl c,Y<|NI (ys.getD 0 ""),Y<|.str (ys.getD 1 ""),Y u,S,S,S]/\kP H2 2 (HZ ys 2) u) ({_,O,_,ys,2,O,hw.same s1,λu H2 s2 hu=>{s1.trans s2,u,O,hu}}) ?_;rintro σ' H2 ⟨s2,u,rfl,hu⟩;rw[Wt];cases hN:El (ys.getD 0 "")with
 |none=>
  rw[hN]at q;show BV (λ_ _=>False) {_,O,O,_,O,Gc O<|q _ _ s2 O} λ_ _ h=>h.elim
 |some n=>
  rw[hN]at q
  dsimp only at q
  by_cases h7:¬Co (ys.getD 1 "")=Z;·rw[A3m h7]at q;show BV (λ_ _=>False) ?_ λ_ _ h=>h.elim;show{_,O,O,_,O,EN (λz=>by cases z) {_,O,_,.str<|ys.getD 1 "",O,{(O),D},λH3 s3=>{_,O,?_}}};rw[show DR (.str<|ys.getD 1 "")=ge from HD.mpr h7];show CP<|q _ _ (s2.trans s3) O
  let h7:=NG.mp h7;rw[A3n h7]at q;cases hK:HZ ys 2 with
  |none=>
   rw[hK]at q hu;obtain rfl:u= .non:=hu;show BV (λ_ _=>False) ?_ λ_ _ h=>h.elim;show{_,O,O,_,O,EN (λz=>by cases z) {_,O,_,.str<|ys.getD 1 "",O,{(O),D},λH3 s3=>{_,O,?_}}};rw[show DR (.str<|ys.getD 1 "")=Z from h7];show BW {_,O,O,_,O,Gc O<|q _ _ (s2.trans s3) O}
  |some x=>
   let(k,j):=x;rw[hK]at q hu
   dsimp only at q
   have((t,u,O,ht,hu),hk):=hu;let c4:Th H2 (.str<|ys.getD 1 "") (.str<|ys.getD 1 ""):={(O),D};show BV (λσ' H3=>Bd H2 H3/\σ'=[Y (.ref W),Y<|.bl c,Y<|.int n,Y<|.str (ys.getD 1 ""),Y<|.ref t,S,S,S]) ?_ ?_;·show{_,O,O,_,O,EN (λz=>by cases z) {_,O,_,.str<|ys.getD 1 "",O,{(O),D},λH3 s3=>{_,O,?_}}};rw[show DR (.str<|ys.getD 1 "")=Z from h7];show BW {_,O,O,_,O,EN (λz=>by cases z) {(s3),O}}
   rintro σ' H3 ⟨s3,rfl⟩;let c2:=s2.trans s3;let c3:=s3 _ _ ht;revert q h7 c4;generalize ys.getD 1 ""=nm at D ⊢;intro h7 q c4;show{_,O,t,_,_,_,O,O,GK.of c3,NU,?_};let b3:∀y∈ys.drop (2+j),BF y=true:=zp (H:=H) hok;let b4:∀y∈ys.drop (2+j),y.length<=1000:=λy hy=>b8 y<|DU hy;show BV (λσ' H4=>Bd H3 H4/\∃L,σ'=[Y (.ref W),Y<|.bl c,Y<|.int n,Y<|.str nm,Y<|.ref t,Y u,Y<|.ref L,S]/\H4 L=Y (.lst<|(ys.drop<|2+j).map V.str)) ?_ ?_;·show{_,O,_,O,t,_,_,_,O,O,GK.of c3,dA,_,O,W,_,O,BX.of<|c2 _ _ hW,λL hL=>{AZ hL,L,O,?_}};rw[Ax,Jz O,<-Hi]
   rintro σ' H4 ⟨s4,L,rfl,hL⟩;revert q hL b3 b4;generalize ys.drop (2+j)=tl;intro q b3 b4 hL;let a8:=c2.trans s4;let b0:=hu.sm<|Sm.of (s3.trans s4);unfold tailIn at q;let done:∀{p:Pf} {H5:Hp},D0 p->(∀u H',Bd H H'->zU H H' (Y p) u->Q u H')->Bd H4 H5->∀v H',Bd H5 H'->kO H5 H' p.fx v->Q v H':=λhp q F v H' s' h'=>q v H' ((a8.trans F).trans s') {h'.back<|a8.trans F,hp};by_cases e0:tl=[];·subst e0;rw[A3n O]at q;show{_,O,L,_,O,.inl<|BX.of hL,O,_,O,Gc O {_,O,_,O,_,O,λx dx hx a2 U=>Qv (f:=({n,nm,k,ge,Et k}:Pf).fx) (d:=.non) hx a2 U hk.may O {(O),D} b0 O O O<|done (p:={n,nm,k,ge,Et k}) {h7,hk,.inl O} q (Bd.refl _)}}
   rw[A3m e0]at q;let d4:¬V.int ((tl.map V.str).length:Int)=V.int 0:=λz=>by
    have:=V.int.inj z;rw[Aw]at this;show e0 (List.eq_nil_of_length_eq_zero<|())
   show{_,O,L,_,O,.inl<|BX.of hL,O,_,O,EN d4 {_,O,c,O,?_}};cases c with
   |true=>
    rw[A3n O]at q;show CP<|q _ _ a8 O
   |false=>
    rw[A3m (λz=>by cases z)]at q;show BW ?_;let ss:=Ju (ys:=["must"]) λy hy=>by rw[AN.mp hy];show eS _
    by_cases e1:tl=(["must"]:List AO);·subst e1;rw[A3n O]at q;show BV (λ_ _=>False) ?_ λ_ _ h=>h.elim;show{_,O,zl 1,λl hl=>?_};let F:=AZ (u:=.lst [.str "must"]) hl;show{_,_,.lst (BX.of<|F _ _ hL)<|Fc ["must"],.lst (BX.of Ax)<|Fc ["must"],ss,ss,_,O,?_};rw[vk];show Gc O {_,O,_,O,_,O,λx dx hx a2 U=>Qv (f:=({n,nm,k,Z,Et k}:Pf).fx) (d:=.non) hx a2 U hk.may O {(O),D} (b0.sm<|Sm.of F) O O O<|done (p:={n,nm,k,Z,Et k}) {h7,hk,.inl O} q F}
    rw[A3m e1]at q;show BV (λσ' H5=>Bd H4 H5/\σ'=[Y (.ref W),Y<|.bl ge,Y<|.int n,Y<|.str nm,Y<|.ref t,Y u,Y<|.ref L,S]) ?_ ?_;·show{_,O,zl 1,λl hl=>?_};let F:=AZ (u:=.lst [.str "must"]) hl;show{_,_,.lst (BX.of<|F _ _ hL)<|Fc tl,.lst (BX.of Ax)<|Fc ["must"],Ju b3,ss,_,O,?_};rw[vk];show EN e1 {(F),O}
    rintro σ' H5 ⟨F,rfl⟩;let a4:=F _ _ hL;let non:∀{H6:Hp},(∀u H',Bd H H'->zU H H' S u->Q u H')->Bd H5 H6->Q .non H6:=λq s6=>q _ _ ((a8.trans F).trans s6) O;by_cases e2:¬ (tl.length=2/\tl.getD 0 ""="=")
    ·rw[A3m e2]at q;show BV (λσ' H6=>Bd H5 H6/\σ'=[Y (.ref W),Y<|.bl ge,Y<|.int n,Y<|.str nm,Y<|.ref t,Y u,Y<|.ref L,Y .non]) ?_ ?_
     ·show{_,O,L,_,O,.inl<|BX.of a4,O,_,O,?_};by_cases e3:tl.length=2
      ·let U:tl≠[]:=λz=>by rw[z]at e3;cases e3
       show Gc (by rw[Aw,e3];rfl) {_,O,L,_,_,_,O,O,BX.of a4,Nl U,O,_,O,EN (JL λz=>e2 {(e3),z}) {Bd.refl _,O}}
      show EN (λz=>e3 (by have:=V.int.inj z;rw[Aw]at this;lia))<|BW {Bd.refl _,O}
     rintro σ' H6 ⟨s6,rfl⟩;show{_,O,O,_,O,Gc O<|non q s6}
    let e2:=NG.mp e2;rw[A3n e2]at q;let(e3,e4):=e2;obtain⟨b,rfl⟩:∃b,tl=(["=",b]:List AO):=by match tl,e3,e4 with|[a,b],_,e4=>show{b,by rw[show a="=" from e4]}
    let c9:=b4 b (by simp);show BV (λσ' H6=>Bd H5 H6/\∃dv,σ'=[Y (.ref W),Y<|.bl ge,Y<|.int n,Y<|.str nm,Y<|.ref t,Y u,Y<|.ref L,Y dv]/\DfO H6 (IS k b) dv) ({_,O,L,_,O,.inl<|BX.of a4,O,_,O,Gc O {_,O,L,_,_,_,O,O,BX.of a4,NU,O,_,O,Gc O {_,O,_,O,L,_,_,_,O,O,BX.of a4,dA,u,k,b,O,b0.sm<|Sm.of F,hk,c9,λv H6 s6 hv=>{(s6),v,O,hv}}}}) ?_;rintro σ' H6 ⟨s6,dv,rfl,a3⟩;let q:∀u H',Bd H H'->zU H H' ((IS k b).map λd=>⟨n,nm,k,ge,d⟩) u->Q u H':=q;cases hD:IS k b with
    |none=>
     rw[hD]at q a3;obtain rfl:dv= .non:=a3;show{_,O,O,_,O,Gc O<|non q s6}
    |some d=>
     rw[hD]at q a3;show{_,O,O,_,O,EN a3.2 {_,O,_,O,_,O,_,O,λx dx hx a2 U=>Qv (f:=({(n),nm,k,ge,d}:Pf).fx) (d:=d) hx a2 U hk.may O {(O),D} (b0.sm<|Sm.of (F.trans s6)) O a3.1 (vw hD).symm<|done (p:={(n),nm,k,ge,d}) {h7,hk,.inr {(O),b,hD}} q (F.trans s6)}}
def nH(F:∀a∈L,∃xs,H a=Y (.lst xs))(D:k.rf)(h:RQ H k v):RQ (rm L H) k v:=by let j:∀{a:AH} {C dx:AH} {fs:List (AO×V)},H a=Y (.ins C dx fs)->rm L H a=Y (.ins C dx fs):=λ{a C dx fs} h=>JX (λz=>by let(xs,e):=F a z;rw[h]at e;cases e) h;cases k with|truth=>let(a,dx,e,h):=h;show{a,dx,e,j h}|count=>let(a,dx,e,h):=h;show{a,dx,e,j h}|whole=>let(a,dx,e,h):=h;show{a,dx,e,j h}|upto d=>let(n,O):=D;let(a,dx,u,e,h,r):=h;show{a,dx,u,e,j h,r}|text d=>let(n,O):=D;let(a,dx,u,e,h,r):=h;show{a,dx,u,e,j h,r}|form d=>let(n,O,_):=D;let(a,dx,u,e,h,r):=h;show{a,dx,u,e,j h,r}|list k=>show D.elim|bare=>show D.elim|thing d=>show D.elim
def U0(D:∀a∈L,∃xs,H a=Y (.lst xs))(j:k.rk)(h:RQ H k v):RQ (rm L H) k v:=by
 cases k with
 |list k=>
  let(a,dx,u,e,h,r):=h;show{a,dx,u,e,JX (λz=>by let(xs,e):=D a z;rw[h]at e;cases e) h,nH D j r}
 |bare=>show BM j|thing d=>show BM j|_=>show nH D j h
def qu(h:IS k z=Y d): (∃b,d= .bl b)\/(∃y,d= .str y/\Co y=Z)\/∃i,d= .int i:=by
 let num:∀{o:Option Int},o.map Dt.int=Y d->∃i,d= .int i:=λ{o} h=>by
  cases o with|none=>cases h|some i=>cases h;show{(i),O}
 cases k with
 |truth=>
  let h:JK z=Y d:=h;unfold JK at h
  grind
 |text n=>
  let h: (if Co z=Z then Y (Dt.str z)else S)=Y d:=h
  grind
 |count=>show .inr<|.inr (num h)|whole=>show .inr<|.inr (num h)|upto n=>show .inr<|.inr (num h)|_=>cases h
def R0(U:∀a∈L,∃xs,H0 a=Y (.lst xs))(D:D0 p)(h:Th H p.dfl d)(hf:Fl H0 d):Th (rm L H) p.dfl d:=by
 rcases D.dfl with e|⟨_,z,hd⟩
 ·rw[e]at h ⊢;cases j:p.kind with
  |list k=>
   rw[j]at h;let(a,xs,O,ha,hx,F):=h;show{a,xs,O,JX (λz=>?_) ha,hx,F};let(ys,e):=U a z;show hf a O ys e
  |_=>rw[j]at h;show h
 rcases qu hd with⟨b,e⟩|⟨z,e,_⟩|⟨i,e⟩ <;> (rw[e]at h ⊢;show h)
def zS(F:∀a∈L,∃xs,H0 a=Y (.lst xs))(s:Bd H0 H)(D:D0 p)(h:kO H0 H p.fx v):XG (rm L H) p.fx v:=by have(a,dx,n,z,k,m,d,e,h,h1,h2,h3,h4,h5,h6):=h;let j:∀a∈L,∃xs,H a=Y (.lst xs):=λa z=>let ⟨xs,e⟩:=F a z;{xs,s _ _ e};show{a,dx,n,z,k,m,d,e,JX (λz=>by let(xs,e):=j a z;rw[h]at e;cases e) h,h1,h2,U0 j D.kind h3,h4,R0 F D h5 h6}
def drF(g:Pg)(fl gl:AH):List (AO×V):=[("choice",.bl g.choice),("name",.str g.nam),("fields",.ref fl),("gone",.ref gl)]
def ZK(H:Hp)(g:Pg)(a:AH):Prop:=∃dx fl gl xs,H a=Y (.ins 975 dx<|drF g fl gl)/\H fl=Y (.lst xs)/\Paired (λp x=>XG H (Pf.fx p) x) g.fields xs/\H gl=Y (.lst<|g.gone.map V.int)
def ZK.same(s:Bd H H')(h:ZK H g a):ZK H' g a:=by let(dx,fl,gl,xs,h1,h2,h3,j):=h;show{dx,fl,gl,xs,s _ _ h1,s _ _ h2,L2.Paired.imp' (λ_ _ z=>XG.sf (Sm.of s).sf z) h3,s _ _ j}
inductive rD(H0:Hp)(dq:AH)(H:Hp)(ini:List Pg)(g:Pg)(a:AH):Prop|mk {as:List AH} {fl gl dx:AH} {xs:List V} (s:Bd H0 H) (h0:H0 dq=none) (h1:H0 fl=none) (h2:H0 gl=none) (n1:dq≠fl) (n2:dq≠gl) (n3:fl≠gl) (hd:H dq=some (.lst<|(as++[a]).map V.ref)) (hp:Paired (ZK<|rm [dq,fl,gl] H) ini as) (ha:rm [dq,fl,gl] H a=some (.ins 975 dx<|drF g fl gl)) (hf:H fl=some (.lst xs)) (hx:Paired (λp x=>XG (rm [dq,fl,gl] H) (Pf.fx p) x) g.fields xs) (hg:H gl=Y (.lst<|g.gone.map V.int)):rD H0 dq H ini g a
inductive Dr(H0:Hp)(dq:AH)(H:Hp):List Pg->Option Pg->Prop|nil (s:Bd H0 H) (h0:H0 dq=none) (hd:H dq=some (.lst [])):Dr H0 dq H [] none|cur {ini:List Pg} {g:Pg} {a:AH} (h:rD H0 dq H ini g a):Dr H0 dq H ini (some g)
def rD.same(h:rD H0 dq H ini g a)(s:Bd H H'):rD H0 dq H' ini g a:=by let(j,h0,h1,h2,n1,n2,n3,hd,hp,ha,hf,hx,hg):=h;show .mk (j.trans s) h0 h1 h2 n1 n2 n3 (s _ _ hd) (L2.Paired.imp' (λ_ _ z=>z.same<|Lr s) hp) (Lr s _ _ ha) (s _ _ hf) (L2.Paired.imp' (λ_ _ z=>XG.sf (Sm.of<|Lr s).sf z) hx)<|s _ _ hg
def Dr.same(h:Dr H0 dq H ini o)(s:Bd H H'):Dr H0 dq H' ini o:=by cases h with|nil j h0 hd=>show .nil (j.trans s) h0<|s _ _ hd|cur h=>show .cur<|h.same s
inductive qZ(vs:List V)(H:Hp)(Q:VK):Prop|mk (x dx c z:_) (_:vs=[.ref x,.bl c,.str z]) (_:H x=some (.ins 975 dx [])) (_:∀fl gl H',fl≠gl->H fl=none->H gl=none->zW x H H'->H' x=some (.ins 975 dx<|drF ⟨z,c,[],[]⟩ fl gl)->H' fl=some (.lst [])->H' gl=some (.lst [])->Q .non H')
def sN:Sp:=λvs H Q _=>qZ vs H Q
def Zz(T:Tx K mg):∅ 1 953 ["self","choice","name"] sN:=by
 show(T.mf 38 O).okA Ze ?_;intro 1 hr h;let(x,dx,c,z,O,hx,q):=h;show{_,AW (GA (pv 0) (pv 1) O)<|AW (GA (pv 0) (pv 2) O) (AW (GA (pv 0) (Ci FU) O)<|Cc (GA (pv 0) (Ci FU) O)),?_};show{_,O,_,O,x,_,dx,_,O,hx,T.Eb,T.KB,Aa,?_};show{_,O,_,O,x,_,dx,_,O,Ax,T.Eb,T.MM,by change 1<1000;decide,?_};rw[Lp];show{zl 0,λfl j=>?_};let F:x≠fl:=λe=>by rw[<-e,Ax]at j;cases j
 rw[AT (CI F)]at j;show{_,O,x,_,dx,_,O,by rw[AT F];show Ax,T.Eb,T.IE,by change 2<1000;decide,?_};show{zl 0,λgl hgl=>?_};let D:x≠gl:=λe=>by rw[<-e,Ax]at hgl;cases hgl
 rw[AT (CI D)]at hgl;let fg:fl≠gl:=λe=>by rw[<-e,Ax]at hgl;cases hgl
 rw[AT (CI fg),AT<|CI D]at hgl;show{_,O,x,_,dx,_,O,by rw[AT D];show Ax,T.Eb,T.Kc,by change 3<1000;decide,?_};show q fl gl _ fg j hgl (λb o U e=>?_) Ax ?_ ?_;·rw[AT U,AT<|Bp e hgl,AT U,AT<|Bp e j,AT U];show e
 ·rw[AT (CI F),AT fg,AT<|CI F,Ax]
 rw[AT (CI D),Ax]
def M6: ((["word"]:List AO) ++ ([]:List AO)).Nodup:=⋯
def B6:Option Int->V|some i=>.int i|none=>.non
def yq(z:AO):NI z=B6 (El z):=by rw[Wt];cases El z <;> rfl
def OD(os:List (Option Int)):Option (List Int):=if os=[]\/S∈os then S else Y (os.filterMap id)
def zd(os:List (Option Int)): (os.map B6).all Nz=true:=by rw[By];intro x hx;let(y,_,O):=AS.mp hx;cases y <;> rfl
def A07(os:List (Option Int)):Ym .non (os.map B6)=decide (S∈os):=by
 by_cases h:S∈os;·rw[A3j h];unfold Ym;rw[List.any_eq_true];show{.non,AS.mpr {(S),h,O},O}
 rw[A3k h];unfold Ym;rw[Yc];intro x hx e;let(y,j,O):=AS.mp hx;cases y with|none=>show h j|some i=>cases e
def ye:∀{os:List (Option Int)},S∉os->os.map B6=(os.filterMap id).map V.int:=by
 intro os;induction os with
 |nil=>show λ_=>rfl
 |cons o r j=>
  intro h;cases o with
  |none=>show A3p (Bl ..) h
  |some i=>
   rw[Ba,j λz=>h<|Bi _ z,Fe];rfl
def Df(g:Pg)(ys:List AO):Option Pg:=if ys.getD 0 ""="gone" then (OD<|(ys.drop 1).map El).map λns=>{g with gone:=g.gone++ns}
 else (Dj ys g.choice).map λp=>{g with fields:=g.fields++[p]}
def TkO(H0:Hp)(dq:AH)(ini:List Pg)(g:Pg)(a:AH)(Q:VK):Option Pg->Prop|none=>∀H',rD H0 dq H' ini g a->Q (.bl ge) H'|some g'=>∀H',rD H0 dq H' ini g' a->Q (.bl Z) H'
inductive Xw(vs:List V)(H:Hp)(Q:VK):Prop|mk (H0 dq ini g a nl os:_) (_:vs=[.ref a,.ref nl]) (_:rD H0 dq H ini g a) (_:H nl=some (.lst<|MI B6 os)) (_:os.length<=400) (_:g.gone.length<=500) (_:TkO H0 dq ini g a Q ((OD os).map λns=>{g with gone:=g.gone++ns}))
def Yz:Sp:=λvs H Q _=>Xw vs H Q
def Zj(T:Tx K mg):∅ 1 972 ["self","numbers"] Yz:=by
 show(T.mf 41 O).okA Pm ?_;intro 1 hr h;let(H0,dq,ini,g,a,nl,os,O,U,hn,h4,h5,q):=h;show{_,AW (qi (PW.pt<|Jf (qc Do (qB BU T.Ey Ds<|CK (pv 1)) AF) (HX<|Lu Mq DJ (pv 1) O))<|qr ER)<|AW (DG<|EA Bk NN NM SM (Cb (pv 0) O) (CK<|pv 1)) (qr ER),?_};obtain @⟨as,fl,gl,dx,xs,s0,h0,h1,h2,n1,n2,n3,hd,hp,ha,hf,hx,hg⟩:=id U;unfold OD at q;by_cases e0:os=[];·subst e0;rw[A3n (.inl O)]at q;show{_,O,nl,_,O,.inl<|BX.of hn,O,_,O,Gc O<|q _ U}
 let hl:¬V.int ((os.map B6).length:Int)=V.int 0:=λz=>by
  simp_all
 show{_,O,nl,_,O,.inl<|BX.of hn,O,_,O,EN hl {_,O,nl,_,O,.inl<|BX.of hn,O,zd os,_,O,?_}};rw[A07];by_cases j:S∈os;·rw[A3n (.inr j)]at q;rw[A3j j];show CP<|q _ U
 rw[A3m (λz=>z.elim e0 j)]at q;rw[A3k j];let q:∀H',rD H0 dq H' ini {g with gone:=g.gone++os.filterMap id} a->Q (.bl Z) H':=q;show BW {_,O,a,_,dx,_,_,O,(Ki ha).2,T.Eb,T.Kc,O,.inl {O,_,BX.of hg},_,O,gl,nl,_,_,O,O,hg,hn,?_,?_};·show Di (by rw[Aw,Aw];lia)
 let D:Bd (rm [dq,fl,gl] H) (rm [dq,fl,gl]<|upd H gl (.lst<|MI V.int g.gone++MI B6 os)):=SC (by simp);show q _ (.mk (s0.put h2) h0 h1 h2 n1 n2 n3 (by rw[AT n2];show hd) (L2.Paired.imp' (λ_ _ z=>z.same D) hp) (D _ _ ha) (by rw[AT n3];show hf) (L2.Paired.imp' (λ_ _ z=>XG.sf (Sm.of D).sf z) hx) ?_);rw[Ax,ye j,<-Bh]
inductive UA(vs:List V)(H:Hp)(Q:VK):Prop|mk (H0 dq ini g a v ys:_) (_:vs=[.ref a,v]) (_:rD H0 dq H ini g a) (_:Ws H ys v) (_:ys≠[]) (_: (∀y∈ys,BF y=true)) (_: (ys.getD 0 ""="gone" ->ys.length<=400)) (_:g.fields.length<=500) (_:g.gone.length<=500) (_:TkO H0 dq ini g a Q (Df g ys))
def VB:Sp:=λvs H Q _=>UA vs H Q
def Wg(T:Tx K mg)(hT:KD P w K 190 Vs):∅ 7 965 ["self","words"] VB:=by
 show(T.mf 40 O).okA Jw ?_;intro 1 hr h;let(H0,dq,ini,g,a,v,ys,O,hD,hw,a1,hok,h4,h5,h6,q):=h;show{_,AW (qi (qc Do (MK (pv 1) AF) AE)<|qr (lR (pv 0) T.Eb (T.me 45 41 O O) (Zj T) (hr.mono Aa) (HL.b2 (T.mf 41 O) λ_ _ _ _ _ _ _ _=>rfl) .nil ES<|CK (Re ["word"] [] [] .nil (CY<|DE HQ (pv 1) (Ej AF) Ek) (λC s_ H_ fp=>BQ (i:=0) M6 O (Cd O)<|CV O) λC s_ H_ fp=>qD (@Kk P w K mg base T) hr T.Ke<|CK (pv 0))))<|AW (qS 2 Jw.nd<|qD (@fR P w K mg base T hT) hr (T.d2 33 O λ_ _ _ _ _ _ _ _=>rfl) (Cv (pv 1)<|Cb (pv 0) O)) (AW (qi (qc Ng (pv 2) DJ)<|qr ER)<|AW (DG<|EA Bk BC BB Dp (Cb (pv 0) O) (CK<|pv 2)) (qr ER)),?_};let a7:=hw;let(W,O,hW,_,b1):=a7;unfold Df at q;let a4:=hD;obtain @⟨as,fl,gl,dx,xs,s0,h0,h1,h2,n1,n2,n3,hd,hp,ha,hf,hx,hg⟩:=a4;let a2:=(Ki ha).2;show{_,O,W,_,_,_,O,O,BX.of hW,Nl a1,O,_,O,?_};by_cases e0:ys.getD 0 ""="gone"
 ·rw[A3n e0]at q;rw[e0];let h4:=h4 e0;show Gc O {_,O,a,dx,_,O,a2,O,_,O,_,O,W,_,O,BX.of hW,λp a9=>?_};let ec:IT (ys.map V.str) (Y 1) S=(ys.drop 1).map V.str:=(Jz (k:=1) O).trans Hi.symm;rw[ec];let s1:=AZ (u:=.lst<|(ys.drop 1).map V.str) a9;let a3: (ys.drop 1).length=((ys.drop 1).map V.str).length:=by rw[Aw]
  show{p,O,{_,BX.of Ax},IU (l:=ys.drop 1) (Wk.list<|BX.of Ax) a3 (by rw[Aw,DD];lia) (λz=>B6<|El z) (λj n x hn hx H2 R s2 hR=>?_) λD H2 a4 s2 e2=>?_};·rw[Be,hn]at hx;cases hx;show{Sub.set O,_,O,_,O,b1 _<|DU (AL hn),λH3 s3=>?_};rw[yq];show hR _ s3
  show{H0,dq,ini,g,a,D,(ys.drop 1).map El,O,hD.same<|s1.trans s2,by rw[e2,AX];rfl,by rw[Aw,DD];lia,h6,q}
 rw[A3m e0]at q;show EN (JL e0) {_,O,_,O,a,_,dx,_,_,O,a2,T.Eb,T.KB,O,_,ys,g.choice,O,hw,a1,hok,λu H1 s1 U=>?_};revert q U;cases Dj ys g.choice with
 |none=>
  intro q U;obtain rfl:u= .non:=U;show{_,O,O,_,O,Gc O<|q _ (hD.same s1)}
 |some p=>
  intro q U;let(U,ho):=U;let q:∀H',rD H0 dq H' ini {g with fields:=g.fields++[p]} a->Q (.bl Z) H':=q;let b0:u≠ .non:=λz=>by let(_,_,_,_,_,_,_,e,_):=U;rw[z]at e;cases e
  let hL:∀b∈ [dq,fl,gl],∃xs,H b=Y (.lst xs):=λb hb=>by
   grind
  show{_,O,O,_,O,EN b0 {_,O,a,_,dx,_,_,O,s1 _ _ a2,T.Eb,T.IE,O,.inl {O,_,BX.of<|s1 _ _ hf},_,O,fl,xs,u,O,O,s1 _ _ hf,?_,?_}};·rw[<-hx.length];show DM ()
  let sr:Bd (rm [dq,fl,gl] H) (rm [dq,fl,gl]<|upd H1 fl (.lst<|xs++[u])):=(Lr s1).trans (SC<|by simp);show q _ (.mk ((s0.trans s1).put h1) h0 h1 h2 n1 n2 n3 (by rw[AT n1];show s1 _ _ hd) (L2.Paired.imp' (λ_ _ z=>z.same sr) hp) (sr _ _ ha) Ax ?_<|by rw[AT (CI n3)];show s1 _ _ hg);show Nc (L2.Paired.imp' (λ_ _ z=>XG.sf (Sm.of sr).sf z) hx) (.cons (XG.sf (Sm.of<|SC (by simp)).sf<|zS hL s1 ho U) .nil)
def Dr.begin(h:Dr H0 dq H ini o)(s:Bd H H')(hx:H x=S)(U:H fl=S)(hgl:H gl=S)(b0:x≠fl)(a9:x≠gl)(a6:fl≠gl)(ex:H' x=Y (.ins 975 dx<|drF {z,c,[],[]} fl gl))(ef:H' fl=Y (.lst []))(eg:H' gl=Y (.lst [])):
  ∃as:List AH,H' dq=Y (.lst<|as.map V.ref)/\as.length=(ini++o.toList).length/\Dr H0 dq (upd H' dq<|.lst ((as++[x]).map V.ref)) (ini++o.toList) (Y {z,c,[],[]}):=by
 let fresh:∀{b:AH} {u:HO},H b=Y u->b≠x/\b≠fl/\b≠gl:=λe=>{Bp e hx,Bp e U,Bp e hgl};let fin:∀{as:List AH} {gs:List Pg},Bd H0 H->H0 dq=S->H dq=Y (.lst<|as.map V.ref)->Paired (ZK<|rm [dq,fl,gl] (upd H' dq<|.lst ((as++[x]).map V.ref))) gs as->Dr H0 dq (upd H' dq<|.lst ((as++[x]).map V.ref)) gs (Y ⟨z,c,[],[]⟩):=λ{as gs} j h0 hd hp=>by
  let(a7,F,D):=fresh hd;show .cur (.mk (as:=as) (fl:=fl) (gl:=gl) (dx:=dx) (xs:=[]) ((j.trans s).put h0) h0 (j.free U) (j.free hgl) F D a6 Ax hp (JX ?_<|by rw[AT (CI a7)];show ex) (by rw[AT (CI F)];show ef) .nil<|by rw[AT (CI D)];show eg)
  grind
 cases h with
 |nil j h0 hd=>show{[],s _ _ hd,O,fin (as:=[]) j h0 hd .nil}
 |@cur _ g a h=>
  obtain @⟨as,a2,a1,a8,xs,j,h0,h1,h2,n1,n2,n3,hd,hp,ha,hf,hx,hg⟩:=h;let sr:Bd (rm [dq,a2,a1] H) (rm [dq,fl,gl]<|upd H' dq (.lst<|(as++[a] ++[x]).map V.ref)):=λb u e=>by
   let(nb,e):=Ki e;simp only[AM,Cw,or_false,not_or]at nb;let(_,m2,m3):=fresh e;show JX ?_ (by rw[AT nb.1];show s _ _ e)
   grind
  let a3:∀{b:AH} {u:HO},dq≠b->H b=Y u->rm [dq,fl,gl] (upd H' dq<|.lst ((as++[a] ++[x]).map V.ref)) b=Y u:=λ{b u} nb e=>by
   let(_,m2,m3):=fresh e;show JX ?_ (by rw[AT (CI nb)];show s _ _ e)
   grind
  show{as++[a],s _ _ hd,by rw[AI,AI,hp.length];rfl,fin j h0 hd ?_};show Nc (L2.Paired.imp' (λ_ _ z=>z.same sr) hp)<|.cons {a8,a2,a1,xs,sr _ _ ha,a3 n1 hf,L2.Paired.imp' (λ_ _ z=>XG.sf (Sm.of sr).sf z) hx,a3 n2 hg} .nil
def su(z y:AO):HS z y≠[]:=by
 unfold HS;split;·simp
 split;·simp
 intro e;have:=A3o Jg e;rw[length_partsBetween]at this;cases this
structure cW(l:Ln):Prop where
 wd:∀ys,Ez l=Y ys->∀y∈ys,y.length<=1000/\BF y=Z
 gn:∀ys,Ez l=Y ys->ys.getD 0 ""="gone" ->ys.length<=400
 ln:∀ys,Ez l=Y ys->ys.length<=20000
def rK(h:Ez l=Y ys):ys≠[]:=by
 cases l with
 |thing d=>cases h
 |txt z=>
  let h:Gz z=Y ys:=h;unfold Gz at h;split at h;·cases h
  cases h;show su _ _
structure A0y(ini:List Pg)(o:Option Pg):Prop where
 ini:ini.length<=100
 fs:∀g,o=Y g->g.fields.length<=500
 gs:∀g,o=Y g->g.gone.length<=500
def Cp(ini:List Pg)(o:Option Pg)(l:Ln):Option (List Pg×Option Pg):=match Ez l with
 |none=>S
 |some ys=>
  if ¬ys.getD 0 ""="record" /\¬ys.getD 0 ""="choice" then (match o with|none=>S|some g=>(Df g ys).map λg'=>(ini,Y g'))
  else if ys.length=2/\Co (ys.getD 1 "")=Z then Y (ini++o.toList,Y {ys.getD 1 "",decide (ys.getD 0 ""="choice"),[],[]})
  else S
def TlO(H0:Hp)(dq:AH)(ini:List Pg)(o:Option Pg)(Q:VK):Option (List Pg×Option Pg)->Prop|none=>∀H',Dr H0 dq H' ini o->Q (.bl ge) H'|some x=>∀H',Dr H0 dq H' x.1 x.2->Q (.bl Z) H'
inductive Xv(vs:List V)(H:Hp)(Q:VK):Prop|mk (H0 dq ini o v l:_) (_:vs=[.ref dq,v]) (_:Dr H0 dq H ini o) (_:JU H l v) (_:cW l) (_:A0y ini o) (_:TlO H0 dq ini o Q (Cp ini o l))
def Yy:Sp:=λvs H Q _=>Xv vs H Q
def PN(T:Tx K mg)(hT:KD P w K 190 Vs):∅ 8 986 ["drafts","line"] Yy:=by
 show(T.df 34 O).okA PF ?_;intro 1 hr h;let(H0,dq,ini,o,v,l,O,hD,hl,D,a1,q):=h;let b8:EX (1+1) _:=hr.mono ();show{_,AY (qS 2 PF.nd<|qD (@fK P w K mg base T) hr (T.d1 8 O λ_ _ _ _ _ _ _=>rfl) (CK<|pv 1))<|AW (qi (qc Ng (pv 2) DJ)<|qr ER) (AY (qi (PW.pt<|FT (qc Ri (MK (pv 2) AF) AE) (Fu<|qc Ri (MK (pv 2) AF) AE))<|qr (JP (GH TR (qB BU T.Ey Ds<|CK (pv 0)) AF<|IJ _)<|JO (lR (MK (pv 0)<|lQ bI AF) T.Eb (T.me 44 40 O O) (Wg T hT) (hr.mono Aa) (HL.b2 (T.mf 40 O) λ_ _ _ _ _ _ _ _=>rfl) .nil ES<|CK (pv 2))))<|AY (qi (PW.pt<|Jf (qc Ri (qB BU T.Ey Ds<|CK (pv 2)) AF) (HX<|Dn (BN<|qD (@Ha P w K mg base T) hr T.GT (CK<|MK (pv 2) AF))))<|qr ER) (AW (DG<|EA Bk BC BB Dp (pv 0) (CK<|HR {((T.mks 11 O).1),(T.fnd 42 O),((T.mB2 38 O).2),((T.mks 11 O).2)} (Zz T) b8 O (T.mc 23 O) (HL.b3 (T.mf 38 O) λ_ _ _ _ _ _ _ _ _=>rfl) .nil ES (Cv (GH Do (MK (pv 2) AF) AE<|IJ _)<|MK (pv 2) AF)))<|qr ER)),?_};unfold Cp at q;show BV (λσ' H1=>Dr H0 dq H1 ini o/\∃x,σ'=[Y (.ref dq),Y v,Y x]/\((Ez l=S/\x= .non)\/∃W ys,Ez l=Y ys/\x= .ref W/\H1 W=Y (.lst<|ys.map V.str))) ?_ ?_
 ·show{_,O,v,l,O,hl,?_};cases e:Ez l with|none=>show λH1 s1=>{hD.same s1,.non,O,.inl {(O),O}}|some ys=>show λW H1 hW s1 e1=>{hD.same s1,.ref W,O,.inr {(W),ys,O,O,e1}}
 rintro σ' H1 ⟨U,x,rfl,⟨e,rfl⟩|⟨W,ys,e,rfl,hW⟩⟩;·rw[e]at q;show{_,O,O,_,O,Gc O<|q _ U}
 let b7:Ws H1 ys (.ref W):={W,O,hW,D.ln _ e,λy hy=>(D.wd _ e y hy).1};let hok:∀y∈ys,BF y=true:=λy hy=>(D.wd _ e y hy).2;let j:=rK e;rw[e]at q
 dsimp only at q
 show{_,O,O,_,O,EN (λz=>by cases z) ?_};let last:∀{a:AH} {g:Pg},rD H0 dq H1 ini g a->∃as dx fs,H1 dq=Y (.lst<|(as++[a]).map V.ref)/\Yn ((as++[a]).map V.ref) (-1)=Y (.ref a)/\H1 a=Y (.ins 975 dx fs)/\fs.lookup ("takes_words" :AO)=none:=λ{a g} h=>by
  obtain @⟨as,fl,gl,dx,xs,s0,h0,h1,h2,n1,n2,n3,hd,hp,ha,hf,hx,hg⟩:=h;show{as,dx,_,hd,?_,(Ki ha).2,O};rw[my (by rw[Aw,AI];show Nat.succ_pos _)];simp
 let pos:∀{as:List AH} {a:AH},decide ((((as++[a]).map V.ref).length:Int) >0)=true:=λ{as a}=>A3j (by rw[Aw,AI,FF];lia);by_cases e0:¬ys.getD 0 ""="record" /\¬ys.getD 0 ""="choice"
 ·rw[A3n e0]at q;show BV (λ_ _=>False) ?_ λ_ _ h=>h.elim;show{_,O,W,_,_,_,O,O,BX.of hW,Nl j,O,_,O,jR (JL e0.1) {_,O,W,_,_,_,O,O,BX.of hW,Nl j,O,_,O,jR (JL e0.2) ?_}};cases U with
  |nil s0 h0 hd=>show{_,O,dq,_,O,.inl<|BX.of hd,_,_,O,O,_,O,BW<|q _ (.nil s0 h0 hd)}
  |@cur _ g a h=>
   have(as,dx,fs,hd,c5,ha,b9):=last h;show{_,O,dq,_,O,.inl<|BX.of hd,_,_,O,O,_,O,?_};rw[pos];show CP {_,O,_,O,dq,_,_,_,O,O,BX.of hd,c5,a,dx,_,O,ha,b9,_,O,H0,dq,ini,g,a,_,ys,O,h,b7,j,hok,(D.gn _ e),a1.fs g O,a1.gs g O,?_};revert q
   dsimp only
   cases Df g ys with|none=>show λq H' h'=>q _<|.cur h'|some g'=>show λq H' h'=>q _<|.cur h'
 rw[A3m e0]at q;let e1:ys.getD 0 ""="record" \/ys.getD 0 ""="choice":=by grind
 show BV (λσ' H'=>H1=H'/\σ'=[Y (.ref dq),Y v,Y<|.ref W]) ?_ ?_
 ·show{_,O,W,_,_,_,O,O,BX.of hW,Nl j,O,_,O,?_};rcases e1 with e1|e1 <;> rw[e1]
  ·show WN O<|BW {(O),O}
  show jR wX {_,O,W,_,_,_,O,O,BX.of hW,Nl j,O,_,O,?_};rw[e1];show WN O {(O),O}
 rintro σ' H' ⟨rfl,rfl⟩;by_cases e2:¬ys.length=2;·rw[A3m (λz=>e2 z.1)]at q;show BV (λ_ _=>False) ?_ λ_ _ h=>h.elim;show{_,O,W,_,O,.inl<|BX.of hW,O,_,O,jR (λz=>e2 (by have:=V.int.inj z;rw[Aw]at this;lia))<|q _ U}
 obtain⟨y0,z,rfl⟩:∃y0 z,ys=[y0,z]:=by match ys,(NG.mp e2)with|[a,b],_=>show{(a),b,O}
 let a5:z.length<=1000:=(D.wd _ e z<|by simp).1;by_cases e3:¬Co z=Z;·rw[A3m (λh=>e3 h.2)]at q;show BV (λ_ _=>False) ?_ λ_ _ h=>h.elim;show{_,O,W,_,O,.inl<|BX.of hW,O,_,O,WN O {_,O,W,_,_,_,O,O,BX.of hW,dA,_,.str z,O,{(O),a5},λH2 s2=>{_,O,?_}}};rw[show DR (.str z)=ge from HD.mpr e3];show CP<|q _ (U.same s2)
 let hz:=NG.mp e3;rw[A3n {(O),hz}]at q;let q:∀H',Dr H0 dq H' (ini++o.toList) (Y ⟨z,decide (y0="choice"),[],[]⟩)->Q (.bl Z) H':=q;show BV (λσ' H2=>Bd H1 H2/\σ'=[Y (.ref dq),Y v,Y<|.ref W]) ?_ ?_;·show{_,O,W,_,O,.inl<|BX.of hW,O,_,O,WN O {_,O,W,_,_,_,O,O,BX.of hW,dA,_,.str z,O,{(O),a5},λH2 s2=>{_,O,?_}}};rw[show DR (.str z)=Z from hz];show BW {(s2),O}
 rintro σ' H2 ⟨s2,rfl⟩;let a7:=U.same s2;let a6:=s2 _ _ hW;obtain⟨a9,c4⟩:∃a9:List AH,H2 dq=Y (.lst<|a9.map V.ref):=by cases a7 with|nil _ _ hd=>show{[],hd}|cur h=>obtain @⟨as,_,_,_,_,_,_,_,_,_,_,_,hd,_⟩:=h;show{(_),hd}
 let ec:decide (V.str y0=V.str "choice")=decide (y0="choice"):=decide_eq_decide.mpr {λe=>V.str.inj e,λe=>by rw[e]};show{_,O,.inl {O,_,BX.of c4},_,O,W,_,_,_,O,O,BX.of a6,NU,O,_,O,W,_,_,_,O,O,BX.of a6,dA,λx dx hx c2 j=>?_};rw[ec];show{x,dx,decide (y0="choice"),z,O,Ax,λfl gl H3 b5 a2 hgl bt ex ef eg=>{O,?_}};let sM:Bd H2 _:=aC (C:=975) hx c2 j;let s3:Bd H2 H3:=λb u e=>bt b u (Bp e hx)<|sM b u e;have(as,c3,hl,d5):=a7.begin s3 hx (sM.free a2) (sM.free hgl) (λz=>by rw[<-z,Ax]at a2;cases a2) (λz=>by rw[<-z,Ax]at hgl;cases hgl) b5 ex ef eg;show{dq,_,_,O,O,c3,?_,q _ ?_}
 ·rw[Aw,hl,AI];have:=a1.ini;show DM (by cases o <;> simp <;> lia)
 simp_all
def lA(H:Hp)(p:Int)(E:XK):Prop:=∀d (H':Hp),Bd H H'->H' d=Y (.xd [("place",.int p)])->E (.ref 149) (Y d) H'
inductive Tf(vs:List V)(H:Hp)(Q:VK):Prop|mk (e:AH) (p:Nat) (_:vs=[.ref e,.int p]) (_:H e=some (TJ e 149 none)) (_:p<=100) (_:∀d (H':Hp),H d=none->(∀b o,b≠e->H b=some o->H' b=some o)->H' e=some (TJ e 149<|some d)->H' d=some (.xd [("place",.int p)])->Q .non H')
def Nu:Sp:=λvs H Q _=>Tf vs H Q
def C6:∀{ps:List Pf} {xs:List V},Paired (λp x=>XG H (Pf.fx p) x) ps xs->Es H (ps.map λp=>.fld p.fx) xs|_,_,.nil=>.nil|_,_,.cons a r=>.cons a<|C6 r
structure PgW(g:Pg):Prop where
 nam:Co g.nam=Z
 fs:∀p∈g.fields,D0 p
 fl:g.fields.length<=30
 gl:g.gone.length<=30
structure EO(g:Pg)(x:Gx):Prop where
 choice:x.choice=g.choice
 nam:x.nam= .str g.nam
 fs:bj x.fields (Y<|g.fields.map λp=>.fld p.fx)
 gone:x.gone=Kw g.gone
inductive wu(vs:List V)(H:Hp)(Q:VK):Prop|mk (a g:_) (_:vs=[.ref a]) (_:ZK H g a) (_:PgW g) (_:Lm H) (_:∀v x H',Sm H H'->Lm H'->EO g x->NB H' x v->Q v H')
def xq:Sp:=λvs H Q _=>wu vs H Q
def Uw(T:Tx K mg):∅ 1 146 ["self","place"] Nu:=by
 show(T.mf 1 O).okA Uq ?_;intro 1 hr h;let(e,p,O,F,hp,q):=h;show{_,AW (DG<|fE O T.MP T.xb T.ML (Cv (pv 0)<|al (Pe AE<|Pe (jw<|pv 1) tJ)))<|Cc (ce T.ML (pv 0) (pv 1) O),?_};let(D,j):=aj p hp;let l1: (Mb++ ("no such text at " :AO)).length<=100:=⋯
 let l2:=FO l1 D;show{_,O,_,O,Di (),_,O,.inr {_,O,j,_,O,Di (),Di (),e,_,_,O,F,zl 1,?_}};show{_,O,_,O,e,O,T.dF,.inl {F,λd hd=>?_}};let U:d≠e:=λz=>by rw[z,F]at hd;cases hd
 show q d _ hd (λb o hb z=>?_) Ax (by rw[AT U];show Ax);rw[AT hb,AT (λz2=>by rw[z2,hd]at z;cases z)];show z
def Vv{H1:Hp}{p:Nat}{E:XK}(hp:p<=100)(k:lA H1 p E):∀e,H1 e=S->Nu (.ref e::[.int p]) (upd H1 e<|TJ e 149 S) (λv H2=>v= .non/\∃dx,H2 e=Y (TJ e 149 dx)/\E (.ref 149) dx (untr H2 e)) E0:=λe he=>by
 show{e,p,O,Ax,hp,λd H' hd kp D U=>{O,Y d,D,?_}};let F:d≠e:=λz=>by rw[z,Ax]at hd;cases hd
 show k d _ (λb o z=>?_) (by rw[DF F];show U);let j:b≠e:=λz2=>by rw[z2,he]at z;cases z
 rw[DF j];show kp b o j (by rw[AT j];show z)
def lW(T:Tx K mg)(kb:K.In base):∅ 6 960 Ap xq:=by
 show(T.mf 39 O).okA Zd ?_;intro 1 hr h;let(a,g,O,hd,hok,hL,q):=h;let F:EX (4+1) _:=hr.mono Aa;show{_,AW (qi (BN<|Cb (pv 0) O)<|qr (HR {((T.mks 9 O).1),(T.fnd 39 O),T.Tw,((T.mks 9 O).2)} (Rl T kb<|aT T) F O T.ZU (RM T) .nil ES<|Bc (Cb (pv 0) O) (Cv (Cb (pv 0) O)<|Cb (pv 0) O)))<|qr (HR {((T.mks 8 O).1),(T.fnd 37 O),T.Tw,((T.mks 8 O).2)} (Rl T kb<|aS T) F O T.ZT (RM T) .nil ES<|Bc (Cb (pv 0) O) (Cv (Cb (pv 0) O)<|Cb (pv 0) O)),?_};have(j,fl,gl,xs,ha,a4,hx,hgl):=hd;let(nam,choice,fields,gone):=g;let b3:fields.length<=30:=hok.fl;let a7:gone.length<=30:=hok.gl;let a3:fields.length=xs.length:=hx.length;let a1:ra H (Y<|fields.map λp=>.fld p.fx) (.ref fl):=⟨fl,xs,O,a4,(C6 hx),λe he=>by
  let(p,hp,O):=AS.mp he;show(hok.fs p hp).kind.may,by rw[<-a3];lia⟩
 let U:kN H gone (.ref gl):=.inr {gl,O,hgl,()};let hnm:Th H (.str nam) (.str nam):={O,AR (Er hok.nam) Aa};let fin:∀v o' H',Sm H H'->Lm H'->bj o' (Y<|fields.map λp=>.fld p.fx)->NB H' ⟨choice,.str nam,o',Kw gone⟩ v->Q v H':=λv o' H' s' a5 a2 hG=>q v _ H' s' a5 {(O),O,a2,O} hG;show{_,O,a,_,j,_,_,O,ha,T.Eb,T.KB,O,_,O,?_};cases choice with
 |true=>
  show CP {_,O,a,_,j,_,_,O,ha,T.Eb,T.MM,O,_,O,a,_,j,_,_,O,ha,T.Eb,T.IE,O,_,O,a,_,j,_,_,O,ha,T.Eb,T.Kc,O,λx dx hx D z=>?_};show aE (c:=Z) hx D z hnm a1 U hL fin
 |false=>
  show BW {_,O,a,_,j,_,_,O,ha,T.Eb,T.MM,O,_,O,a,_,j,_,_,O,ha,T.Eb,T.IE,O,_,O,a,_,j,_,_,O,ha,T.Eb,T.Kc,O,λx dx hx D z=>?_};show aE (c:=ge) hx D z hnm a1 U hL fin
def yE(h:HZ ys i=Y (k,j)):k.rk:=by
 unfold HZ at h;split at h
 ·cases e:Hn (ys.getD (i+1) "") (ys.getD (i+2) "")with
  |none=>rw[e]at h;cases h
  |some x=>
   let(z,D):=x;rw[e]at h;cases h;show Vu e
 show(Vu h).rk
def zi(h:Dj ys c=Y p):D0 p:=by
 unfold Dj at h;cases hn:El (ys.getD 0 "")with
 |none=>rw[hn]at h;cases h
 |some n=>
  rw[hn]at h
  dsimp only at h
  split at h
  ·rename_i F;cases D:HZ ys 2 with
   |none=>rw[D]at h;cases h
   |some x=>
    let(k,j):=x;rw[D]at h
    dsimp only at h
    let z:=yE D;unfold tailIn at h;split at h;·cases h;show{F,z,.inl O}
    split at h;·cases h
    split at h;·cases h;show{F,z,.inl O}
    split at h
    ·cases hd:IS k ((ys.drop<|2+j).getD 1 "")with|none=>rw[hd]at h;cases h|some d=>rw[hd]at h;cases h;show{F,z,.inr {(O),_,hd}}
    cases h
  cases h
def zI(l:Ln):Prop:=∀ys,Ez l=Y ys->ys.getD 0 ""="gone" ->ys.length<=5
structure wh(j:Nat)(ini:List Pg)(o:Option Pg):Prop where
 len:ini.length+o.toList.length<=j
 fs:∀g,o=Y g->g.fields.length<=j
 gs:∀g,o=Y g->g.gone.length<=4*j
 w:∀g∈ini++o.toList,Co g.nam=Z/\∀p∈g.fields,D0 p
def wh.ok(h:wh j ini o)(z:j<=100):A0y ini o:=by
 show{?_,λg e=>?_,λg e=>?_};·have:=h.len;lia
 ·have:=h.fs g e;lia
 have:=h.gs g e;lia
def wh.begin:wh 0 [] none:={AU _,(λ_ e=>nomatch e),(λ_ e=>nomatch e),(λ_ h=>nomatch h)}
def uX{os:List (Option Int)}{ns:List Int}(h:OD os=Y ns):ns.length<=os.length:=by
 unfold OD at h
 grind
def xg{g g':Pg}{ys:List AO}(h:Df g ys=Y g')(z:ys.getD 0 ""="gone" ->ys.length<=5):g'.nam=g.nam/\g'.fields.length<=g.fields.length+1/\g'.gone.length<=g.gone.length+4/\∀p∈g'.fields,p∈g.fields\/D0 p:=by
 unfold Df at h;split at h
 ·rename_i D;cases e:OD ((ys.drop 1).map El)with
  |none=>rw[e]at h;cases h
  |some ns=>
   rw[e]at h;cases h;have:=uX e
   grind
 cases e:Dj ys g.choice with
 |none=>rw[e]at h;cases h
 |some p=>
  rw[e]at h;cases h;show{O,?_,Nat.le_add_right _ _,λq j=>?_};·simp
  rcases Bt.mp j with j|j;·show .inl j
  rw[AN.mp j];show .inr<|zi e
def wh.step(h:wh j ini o)(hg:zI l)(e:Cp ini o l=Y (z,o')):wh (j+1) z o':=by
 unfold Cp at e;cases hw:Ez l with
 |none=>rw[hw]at e;cases e
 |some ys=>
  rw[hw]at e
  dsimp only at e
  split at e
  ·cases o with
   |none=>cases e
   |some g=>
    dsimp only at e
    cases D:Df g ys with
    |none=>rw[D]at e;cases e
    |some g'=>
     rw[D]at e;cases e;let(h1,h2,h3,F):=xg D<|hg ys hw;let f1:=h.fs g O;let f2:=h.gs g O;show{?_,λx e=>?_,λx e=>?_,λx hx=>?_}
     ·have:=h.len
      grind
     ·grind
     ·grind
     rcases Bt.mp hx with hx|hx;·show h.w x<|Cu _ hx
     rw[show x=g' from AN.mp hx];let(w1,w2):=h.w g (BJ _<|AN.mpr O)
     grind
  split at e
  ·rename_i U;cases e;show{?_,λx e=>?_,λx e=>?_,λx hx=>?_}
   ·have:=h.len
    grind
   ·grind
   ·grind
   rcases Bt.mp hx with hx|hx;·show h.w x hx
   grind
  cases e
def DI:List Ln->Nat->List Pg->Option Pg->Nat ⊕ List Pg
 |[],_,ini,o=>.inr<|ini++o.toList
 |l::r,p,ini,o=>match Cp ini o l with
  |none=>.inl p|some x=>DI r (p+1) x.1 x.2
def JU.same(s:Bd H H'):∀{l:Ln} {v:V},JU H l v->JU H' l v:=by intro l v h;cases l with|txt z=>show h|thing d=>show{Th.sm (Sm.of s) _ _ h.1,h.2}
def Vr(h:H D=S):untr (upd H D o) D=H:=by
 funext b;by_cases j:b=D;·subst j;rw[Ij,h]
 rw[DF j,AT j]
def bc(hl:H1 l=Y (.lst xs))(hz:xs.length<=1000)(Yq:Hp->Prop)(y0:Yq H1)(Pd:Nat->Hp->V->Prop)(a8:∀i H H' v,Sm H H'->Pd i H v->Pd i H' v)(hs:∀(j:Nat) x,xs[j]?=Y x->∀(D:AH) (ys:List V) (F:Hp) (R:VK),F D=S->Sm H1 F->Yq F->(∀y H',Sm F H'->Yq H'->H' D=S->Pd j H' y->R y (upd H' D<|.lst ys))->g x a4 (upd F D<|.lst ys) λa3 H2=>Sub a4 a3/\te a3 H2 R)(hd:∀D H' ys,H' D=S->Sm H1 H'->Yq H'->ys.length=xs.length->(∀(i:Nat) y,ys[i]?=Y y->Pd i H' y)->Q (.ref D) (upd H' D<|.lst ys)):RS (T9 K l) H1 a4 g Vw te Q:=by
 intro D hD;show{λi m ys H=>m=xs.length - i/\i<=xs.length/\ys.length=i/\∃F,F D=S/\H=upd F D (.lst ys)/\Sm H1 F/\Yq F/\∀(j:Nat) y,ys[j]?=Y y->Pd j F y,{xs.length,by simp,BY _,O,H1,hD,O,Sm.refl _,y0,λj y e=>by simp at e},?_};rintro i m ys H ⟨rfl,hi,U,F,a5,rfl,sm,hy,hp⟩;let a2:upd F D (.lst ys) l=Y (.lst xs):=by rw[AT (λz=>by rw[z,hD]at hl;cases hl)];show sm _ _ hl O
 show{Ax,?_};by_cases a1:i<xs.length
 ·let hx:xs[i]?=Y (xs[i]'a1):=AA a1;show .inr {{xs,_,BX.of a2,hx},λx H' y=>?_};let(e,q1):=y;subst e;let a7:xs[i]?=Y x:=q1 _<|BX.of a2;show hs i x a7 D ys F _ a5 sm hy λy H4 s4 y4 h4 b1=>?_;show{Ax,DM (),xs.length - (i+1),(),O,a1,by rw[AI,U];rfl,H4,h4,by rw[Lp],sm.trans s4,y4,λj z hj=>?_};rcases OY hj with hj|⟨rfl,rfl⟩
  ·show a8 _ _ _ _ s4<|hp j z hj
  rw[U];show b1
 let e:i=xs.length:=()
 subst e;show .inl {{xs,BX.of a2,()},hd D F ys a5 sm hy U hp}
def oW{F:Type}{k:F->Int}{a b:List F}(p:a.Perm b)(ha: (a.map k).Pairwise (·<= ·))(hb: (b.map k).Pairwise (·< ·)):a=b:=by
 let z:=FZ.mp hb;show List.Perm.eq_of_pairwise (le:=λx y=>k x<=k y) (λx y hx U h1 h2=>?_) (FZ.mp ha) (z.imp λh=>Int.le_of_lt h) p;let D:=p.mem_iff.mp hx;let e:k x=k y:=()
 let(i,hi,O):=KW.mp D;let(j,hj,O):=KW.mp U;let hp:=Iw.mp z
 grind
def iY(p:a.Perm b)(j:b.Pairwise (·<= ·)):Kw a=b:=List.Perm.eq_of_pairwise (le:=(·<= ·)) (λx y _ _ h1 h2=>()) (PySem.W.sortI_rises a) j<|(MF a).trans p
def ju(h:bj o (Y es)):∃es',o=Y es'/\es'.Perm es/\S2 es es':=by cases o with|none=>show h.elim|some es'=>show{(es'),O,h}
def Dr.all(h:Dr H0 dq H ini o):Bd H0 H/\H0 dq=S/\∃as:List AH,H dq=Y (.lst<|as.map V.ref)/\Paired (ZK H) (ini++o.toList) as:=by
 cases h with
 |nil s h0 hd=>show{s,h0,[],hd,.nil}
 |@cur _ g a h=>
  obtain @⟨as,fl,gl,dx,xs,j,h0,h1,h2,n1,n2,n3,hd,hp,ha,hf,hx,hg⟩:=h;show{j,h0,as++[a],hd,Nc (L2.Paired.imp' (λ_ _ z=>z.same VY) hp)<|.cons {dx,fl,gl,xs,VY _ _ ha,hf,L2.Paired.imp' (λ_ _ z=>XG.sf (Sm.of VY).sf z) hx,hg} .nil}
def ZK.sm(s:Sm H H')(h:ZK H g a):ZK H' g a:=by let(dx,fl,gl,xs,h1,h2,h3,j):=h;show{dx,fl,gl,xs,s _ _ h1 O,s _ _ h2 O,L2.Paired.imp' (λ_ _ z=>XG.sf s.sf z) h3,s _ _ j O}
def L7(hc: ~~~(X.calm=true)):JT (XC P w Z) X E0:=⟨λ_=>hc,O,λ_ _ _ _ _ _ _ h=>by
 have(_,_,_,_,_,_,_,_,_,_,_,_,_,_,z):=h;show BM z⟩
def lY: ((["draft"]:List AO) ++ ([]:List AO)).Nodup:=⋯
def gg(h:EO g x)(hw:PgW g):Ox.may (.form x)/\Ox.few (.form x):=by
 let(es,e,z,_):=ju h.fs;show{λes' j D hm=>?_,λes' j=>?_,?_};·rw[e]at j;cases j;let(p,hp,O):=AS.mp<|z.mem_iff.mp hm;show(hw.fs p hp).kind.may
 ·rw[e]at j;cases j;have:=z.length_eq;rw[Aw]at this;have:=hw.fl
  lia
 change x.gone.length<40;rw[h.gone,(MF g.gone).length_eq];have:=hw.gl
 lia
def Pc(h:Cp i o l=S):DI (l::r) p i o= .inl p:=by unfold DI;rw[h]
def SD(h:Cp i o l=Y x):DI (l::r) p i o=DI r (p+1) x.1 x.2:=by
 conv=>lhs;unfold DI
 rw[h]
def Qu:∀{gs:List Pg} {ys:List V},gs.length=ys.length->(∀(i:Nat) y,ys[i]?=Y y->∃g x,gs[i]?=Y g/\EO g x/\NB H x y)->∃gxs,Paired EO gs gxs/\Paired (NB H) gxs ys
 |[],[],_,_=>{[],.nil,.nil}
 |g::gs,y::ys,D,h=>by
  let(g',x,e,m,hx):=h 0 y O;cases e;let(gxs,h1,h2):=Qu (Pu D) λi z j=>h (i+1) z j;show{x::gxs,.cons m h1,.cons hx h2}
def BkQ(H:Hp)(Q:VK)(E:XK)(gxs:List Gx):Prop:=if 1<=gxs.length/\gxs.length<=8 then (match Ir (gxs.map Ox.form)with
  |.inl (p,y)=>∀H',Sm H H'->Lm H'->Ud H' (p:Nat) y E|.inr ws=>∀v xs H',Sm H H'->Lm H'->V9 H' xs ws v->Paired (NB H') gxs xs->Q v H')
 else ∀H',Sm H H'->Lm H'->Ud H' 0 "forms" E
def RdQ(H:Hp)(Q:VK)(E:XK):Nat ⊕ List Pg->Prop|.inl p=>∀H',Bd H H'->lA H' (p:Nat) E|.inr gs=>(∀g∈gs,g.fields.length<=30/\g.gone.length<=30)/\∀gxs,Paired EO gs gxs->BkQ H Q E gxs
def VF(K:Az):Sp:=λvs H Q E=>
 (∃v t,vs=[v]/\IV K H v t/\Bo K t (.type "list")=Y ge/\lA H ((0:Nat):Int) E)\/
 ∃l xs ls,vs=[.ref l]/\H l=Y (.lst xs)/\Paired (JU H) ls xs/\(∀x∈ls,cW x/\zI x)/\ls.length<=100/\Lm H/\RdQ H Q E (DI ls 0 [] S)
def uq(T:Tx K mg)(kb:K.In base)(hT:KD P w K 190 Vs):EY P w K mg base (XC P w Z) 11 991 (EH K 991) ["lines"] (VF K):=by
 let GB:EY P w K mg base (XC P w Z) 9 857 (EH K 857) Au (bM K):=Rm T;let GI:=@Uw P w K mg base T;show T.ZV.okX GX (λvs H Q E h=>?_) λcdv A outer s H vs Q E hr h=>?_;·rcases h with⟨v,t,rfl,_⟩|⟨l,xs,ls,rfl,_⟩ <;> rfl
 let c9:EX (9+1) _:=hr.mono Aa;show{_,AW (qi (Dn<|BN (qB (BR K O) T.Bw Bq<|Cv (pv 0) (Yl T.HU Gi)))<|Cc (Mn O O T.Ql T.ML GI (hr.mono Aa) T.Od KI<|CK AF))<|AW (qS 1 GX.nd<|Ci FU) (AY (JN PassesOwn.leaving O (Wb O T.Lg<|pv 0) (Op O (n:=2)<|EG (BQ (i:=2) GX.nd O<|Cd O) (EG (BQ (i:=3) GX.nd O<|Cd O) Lv))<|Cc (qi (Dn<|BN (qD (@PN P w K mg base T hT) hr T.Pz<|Cv (pv 1) (pv 3)))<|Cc (Mn O O T.Ql T.ML GI (hr.mono Aa) T.Od KI<|CK (pv 2))))<|qr (HR {(T.kZ),T.TC,T.Tz,T.kX} GB c9 O T.li T.TH .nil (lU λz=>z)<|CK (Re ["draft"] [] [] .nil (CY<|pv 1) (λC s_ H_ fp=>BQ (i:=0) lY O (Cd O)<|CV O) λC s_ H_ fp=>UT<|fF (pv 0) T.Eb T.Py (lW T kb) (hr.mono Aa) T.QR .nil ES))),?_};rcases h with⟨v,t,rfl,ty,kt,q⟩|⟨l,xs,ls,rfl,hl,b9,hok,hn,hL,q⟩;·show{_,O,v,.ty "list",_,_,_,O,ty,O,kt,_,O,CP {zl 1,Vv Aa q}}
 show{_,O,.ref l,.ty "list",_,_,_,O,.lst hl,O,T.Ge,_,O,BW ?_};show{zl 0,λdq c1=>?_};let F:ls.length=xs.length:=b9.length;let s0:Bd H (upd H dq<|.lst []):=AZ c1;show BV (λσ' H'=>∃ini o v2 v3 gs,DI ls 0 [] S= .inr gs/\ini++o.toList=gs/\wh ls.length ini o/\Dr H dq H' ini o/\σ'=[Y (.ref l),Y<|.ref dq,v2,v3]) ?_ ?_
 ·show{_,O,l,O,{_,BX.of<|s0 _ _ hl},?_};show SX (xs:=xs) (λj σ' H'=>∃i' o' v2 v3,σ'=[Y (.ref l),Y<|.ref dq,v2,v3]/\Dr H dq H' i' o'/\wh j i' o'/\DI (ls.drop j) j i' o'=DI ls 0 [] S) {[],S,S,S,O,.nil s0 c1 Ax,.begin,O} (λi σ' H' _ h=>by let(_,_,_,_,_,hD,_):=h;show BX.of<|hD.all.1 _ _ hl) (λi x Tt σ' H1 hx h c2=>?_) λσ' H' h=>?_
  ·have(i',o',v2,v3,O,hD,hS,hR):=h;have(ln,a2,d1):=Gf b9 i x hx;let hi:i<ls.length:=(AQ.mp a2).1;let ed:ls.drop i=ln::ls.drop (i+1):=by
    rw[Ep hi];have:ls[i]'hi=ln:=by rw[AA hi]at a2;show AK a2
    rw[this]
   let(lo,lg):=hok ln<|AL a2;let s1:=hD.all.1;rw[ed]at hR;show{Tt,_,O,GK.of Ax,O,_,_,O,_,_,O,O,?_};show{_,O,_,O,H,dq,i',o',x,ln,O,(hD.same<|AZ (u:=.tup [.int (i:Nat),x]) c2),d1.same<|s1.trans (AZ c2),lo,hS.ok (),?_};cases ht:Cp i' o' ln with
   |none=>
    let eR:DI ls 0 [] S= .inl i:=by rw[<-hR];show Pc ht
    rw[eR]at q;show λH' b4=>{_,O,CP {_,O,zl 1,Vv ()<|q H' b4.all.1}}
   |some y=>
    let eR:DI (ls.drop<|i+1) (i+1) y.1 y.2=DI ls 0 [] none:=by rw[<-hR];show(SD ht).symm
    show λH' b4=>{_,O,BW {y.1,y.2,_,_,O,b4,hS.step lg ht,eR}}
  let(i',o',v2,v3,O,hD,hS,hR):=h;rw[<-F,ZS]at hR;rw[<-F]at hS;show{(i'),o',v2,v3,_,hR.symm,O,hS,hD,O}
 rintro σ' H1 ⟨ini,o,v2,v3,gs,eR,he,hS,hD,rfl⟩;rw[eR]at q;have(s1,_,as,hd,hp):=hD.all;rw[he]at hp;let e1:gs.length=as.length:=hp.length;let e9:gs.length<=100:=by
  rw[<-he,AI];have:=hS.len
  lia
 let hW:∀g∈gs,PgW g:=λg hg=>by
  let(w1,w2):=hS.w g (by rw[he];show hg);show{w1,w2,(q.1 g hg).1,(q.1 g hg).2}
 show{_,O,dq,O,{_,BX.of hd},?_};show bc hd (by rw[Aw];lia) Lm (hL.same s1) (λj H' y=>∃g x,gs[j]?=Y g/\EO g x/\NB H' x y) (λi H' H2 v s b1=>(by let(g,x,e,m,h):=b1;show{g,x,e,m,NB.sm s h})) (λj x hx D ys Hu R c7 sm hy hR=>?_) λD H' ys h0 sm hy c6 hP=>?_;·rw[Be]at hx;let(a,ha,O):=Ce.mp hx;let(g,hg,d7):=Gf hp j a ha;let a4:=d7.sm sm;have(dx,fl,gl,xs,d8,_):=id a4;show{Sub.set O,D,ys,Ax,?_};rw[Vr c7];show{_,O,a,dx,_,O,d8,O,a,g,O,a4,hW g<|AL hg,hy,λv x H' s' d9 hm hG h0=>hR v H' s' d9 h0 {(g),x,hg,hm,hG}}
 intro x dx hx d6 d0;let t0:=AZ (u:=.lst ys) h0;rw[Aw]at c6;let(gxs,b3,b2):=Qu (H:=H') () hP;let hgl:gxs.length=ys.length:=b2.length;let e7:gs.length=gxs.length:=b3.length;let q2:=q.2 gxs b3;unfold BkQ at q2;let tn:Bd (upd H' D<|.lst ys) (upd (upd (upd H' D<|.lst ys) dx<|.own x) x<|.ins 874 dx []):=aC (C:=874) hx d6 d0;let ho:∀{gxs:List Gx} {b6:List V},Paired (NB H') gxs b6->Os (upd (upd (upd H' D<|.lst ys) dx<|.own x) x<|.ins 874 dx []) (gxs.map Ox.form) b6:=λh=>by
  induction h with|nil=>show .nil|cons a _ ih=>show .cons (NB.sm (Sm.of<|t0.trans tn) a) ih
 let sH:Sm H H':=(Sm.of s1).trans sm;let s3:∀{H3:Hp},zW x (upd (upd (upd H' D<|.lst ys) dx<|.own x) x<|.ins 874 dx []) H3->Bd H' H3:=λbt b u e=>bt b u (Bp (t0 _ _ e) hx)<|tn _ _ (t0 _ _ e);by_cases hc:1<=gxs.length/\gxs.length<=8
 ·rw[A3n hc]at q2;show{x,dx,_,O,Ax,.inr {D,ys,gxs.map Ox.form,O,tn _ _ Ax,ho b2,λo' h=>?_,by rw[Aw];lia,by rw[Aw];lia,?_}}
  ·let(g',d4,O):=AS.mp h;let(i,hi):=Cz.mp d4;let(g,d3,hm):=Gf b3 i g' hi;show gg hm<|hW g (AL d3)
  revert q2;cases Ir (gxs.map Ox.form)with
  |inl e=>
   let(p,y):=e;show λq2 H3 bt=>q2 H3 (sH.trans<|Sm.of (s3 bt))<|hy.same (s3 bt)
  |inr ws=>show λq2 H3 bt hB=>{O,q2 _ ys H3 (sH.trans<|Sm.of (s3 bt)) (hy.same<|s3 bt) hB.isB<|L2.Paired.imp' (λ_ _ z=>NB.sm (Sm.of<|s3 bt) z) b2}
 rw[A3m hc]at q2;show{x,dx,_,O,Ax,.inl {.inr {D,ys,O,tn _ _ Ax,(),λz=>hc {(),()}},λH3 bt=>q2 H3 (sH.trans<|Sm.of (s3 bt))<|hy.same (s3 bt)}}
def sU(h:H l=Y o):upd (untr H l) l o=H:=by
 funext b;by_cases j:b=l;·subst j;rw[Ax,h]
 rw[AT j,DF j]
def yV(h:H l=S)(n:T≠l):untr (upd (upd H l o) T u) l=upd H T u:=by
 funext b;by_cases z:b=l;·subst z;rw[Ij,AT<|CI n,h]
 rw[DF z];by_cases j:b=T;·subst j;rw[Ax,Ax]
 rw[AT j,AT z,AT j]
def xa(n:T≠l):upd (upd H l o) T u=upd (upd H T u) l o:=by
 funext b;by_cases j:b=l;·subst j;rw[Ax,AT<|CI n,Ax]
 by_cases z:b=T;·subst z;rw[Ax,AT j,Ax]
 rw[AT z,AT j,AT j,AT z]
inductive qW(vs:List V)(H:Hp)(Q:VK):Prop|mk (l xs ls gs:_) (_:vs=[.ref l]) (_:H l=some (.lst xs)) (_:Paired (JU<|untr H l) ls xs) (_: (∀x∈ls,cW x/\zI x)) (_:ls.length<=100) (_:Lm (untr H l)) (_:DI ls 0 [] none= .inr gs) (_: (∀g∈gs,g.fields.length<=30/\g.gone.length<=30)) (_:1<=gs.length) (_:gs.length<=8) (_:∀gxs,Paired EO gs gxs->∃ws,Ir (gxs.map Ox.form)= .inr ws/\∀v ys H',Sm (untr H l) H'->Lm H'->H' l=none->V9 H' ys ws v->Paired (NB H') gxs ys->Q v (upd H' l<|.lst xs))
def sK:Sp:=λvs H Q _=>qW vs H Q
def ur(T:Tx K mg)(kb:K.In base)(hT:KD P w K 190 Vs):∅ 11 991 ["lines"] sK:=by
 let GB:EY P w K mg base (XC P w Z) 9 857 (EH K 857) Au (bM K):=Rm T;show T.ZV.okA GX ?_;intro _ _ _ s H _ Q _ hr h _ _;let(l,xs,ls,gs,O,hl,b8,hok,hn,hL,e1,a6,h1,h8,q):=h;let c9:EX (9+1) _:=hr.mono Aa;show{_,AW (qi (Dn<|BN (qB (BR K O) T.Bw Bq<|Cv (pv 0) (Yl T.HU Gi)))<|Cc Mo)<|AW (qS 1 GX.nd<|Ci FU) (AY (JN EC O (Wb O T.Lg<|pv 0) (Op O (n:=2)<|EG (BQ (i:=2) GX.nd O<|Cd O) (EG (BQ (i:=3) GX.nd O<|Cd O) Lv))<|Cc (qi (Dn<|BN (UT<|qD (@PN P w K mg base T hT) hr T.Pz (Cv (pv 1)<|pv 3)))<|Cc Mo))<|qr (UT<|HR {(T.kZ),T.TC,T.Tz,T.kX} GB c9 O T.li T.TH .nil L7 (CK<|Re ["draft"] [] [] .nil (CY<|pv 1) (λC s_ H_ fp=>BQ (i:=0) lY O (Cd O)<|CV O) (λC s_ H_ fp=>UT<|fF (pv 0) T.Eb T.Py (lW T kb) (hr.mono Aa) T.QR .nil ES)))),?_};show{_,O,.ref l,.ty "list",_,_,_,O,.lst hl,O,T.Ge,_,O,BW ?_};show{zl 0,λdq b4=>?_};let U:ls.length=xs.length:=b8.length;let nd:dq≠l:=λz=>by rw[z,hl]at b4;cases b4
 let a8:untr H l dq=none:=by rw[DF nd];show b4
 let e0:upd H dq (.lst [])=upd (upd (untr H l) dq<|.lst []) l (.lst xs):=by rw[<-xa nd,sU hl]
 rw[e0];show BV (λσ' H'=>∃Hu ini o v2 v3,H'=upd Hu l (.lst xs)/\Hu l=S/\ini++o.toList=gs/\wh ls.length ini o/\Dr (untr H l) dq Hu ini o/\σ'=[Y (.ref l),Y<|.ref dq,v2,v3]) ?_ ?_
 ·show{_,O,l,O,{_,BX.of Ax},?_};show SX (xs:=xs) (λj σ' H'=>∃i' o' v2 v3 Hu,σ'=[Y (.ref l),Y<|.ref dq,v2,v3]/\H'=upd Hu l (.lst xs)/\Hu l=S/\Dr (untr H l) dq Hu i' o'/\wh j i' o'/\DI (ls.drop j) j i' o'= .inr gs) {[],S,S,S,_,O,O,by rw[AT (CI nd),Ij],.nil (AZ a8) a8 Ax,.begin,e1} (λi σ' H' _ h=>by let(_,_,_,_,_,_,O,_):=h;show BX.of Ax) (λi x Tt σ' H1 hx h a1=>?_) λσ' H' h=>?_
  ·have(i',o',v2,v3,Hu,O,O,F,hD,hS,hR):=h;let(ln,a4,d2):=Gf b8 i x hx;let hi:i<ls.length:=(AQ.mp a4).1;let ed:ls.drop i=ln::ls.drop (i+1):=by
    rw[Ep hi];have:ls[i]'hi=ln:=by rw[AA hi]at a4;show AK a4
    rw[this]
   let(lo,lg):=hok ln<|AL a4;let s1:=hD.all.1;rw[ed]at hR;show{Tt,_,O,GK.of Ax,O,_,_,O,_,_,O,O,?_};let nT:Tt≠l:=λz=>by rw[z,Ax]at a1;cases a1
   show{l,_,by rw[AT (CI nT)];show Ax,?_};rw[yV F nT];rw[AT nT]at a1;show{_,O,_,O,untr H l,dq,i',o',x,ln,O,hD.same<|AZ a1,d2.same<|s1.trans (AZ a1),lo,hS.ok (),?_};cases ht:Cp i' o' ln with
   |none=>
    rw[Pc ht]at hR;cases hR
   |some y=>
    rw[SD ht]at hR;show λH' e3 h0=>{_,O,BW {y.1,y.2,_,_,H',O,O,h0,e3,hS.step lg ht,hR}}
  have(i',o',v2,v3,Hu,O,O,F,hD,hS,hR):=h;rw[<-U,ZS]at hR;rw[<-U]at hS;show{Hu,i',o',v2,v3,O,F,RY hR,hS,hD,O}
 rintro σ' H' ⟨H1,ini,o,v2,v3,rfl,c7,he,hS,hD,rfl⟩;let(s1,_,as,hd,hp):=hD.all;rw[he]at hp;let e4:gs.length=as.length:=hp.length;let hW:∀g∈gs,PgW g:=λg hg=>by
  let(w1,w2):=hS.w g (by rw[he];show hg);show{w1,w2,(a6 g hg).1,(a6 g hg).2}
 show{l,_,Ax,?_};rw[Vr c7];show{_,O,dq,O,{_,BX.of hd},?_};show bc hd (by rw[Aw];lia) Lm (hL.same s1) (λj H' y=>∃g x,gs[j]?=Y g/\EO g x/\NB H' x y) (λi H' H2 v s b2=>(by let(g,x,e,m,h):=b2;show{g,x,e,m,NB.sm s h})) (λj x hx D ys Hu R F sm hy hR=>?_) λD H' ys h0 sm hy c5 hP=>?_;·rw[Be]at hx;let(a,ha,O):=Ce.mp hx;let(g,hg,d8):=Gf hp j a ha;let a7:=d8.sm sm;have(dx,fl,gl,xs,d9,_):=id a7;show{Sub.set O,D,ys,Ax,?_};rw[Vr F];show{_,O,a,dx,_,O,d9,O,a,g,O,a7,hW g<|AL hg,hy,λv x H' s' e2 hm hG h0=>hR v H' s' e2 h0 {(g),x,hg,hm,hG}}
 intro x dx hx d7 d1;let t0:=AZ (u:=.lst ys) h0;rw[Aw]at c5;let(gxs,b3,b9):=Qu (H:=H') () hP;let f2:gs.length=gxs.length:=b3.length;let(ws,hb,q2):=q gxs b3;let tn:Bd (upd H' D<|.lst ys) (upd (upd (upd H' D<|.lst ys) dx<|.own x) x<|.ins 874 dx []):=aC (C:=874) hx d7 d1;let ho:∀{gxs:List Gx} {b7:List V},Paired (NB H') gxs b7->Os (upd (upd (upd H' D<|.lst ys) dx<|.own x) x<|.ins 874 dx []) (gxs.map Ox.form) b7:=λh=>by
  induction h with|nil=>show .nil|cons a _ ih=>show .cons (NB.sm (Sm.of<|t0.trans tn) a) ih
 let sH:Sm (untr H l) H':=(Sm.of s1).trans sm;let s3:∀{H3:Hp},zW x (upd (upd (upd H' D<|.lst ys) dx<|.own x) x<|.ins 874 dx []) H3->Bd H' H3:=λbt b u e=>bt b u (Bp (t0 _ _ e) hx)<|tn _ _ (t0 _ _ e);show{x,dx,_,O,Ax,.inr {D,ys,gxs.map Ox.form,O,tn _ _ Ax,ho b9,λo' h=>?_,by rw[Aw];lia,by rw[Aw];lia,?_}}
 ·let(g',d6,O):=AS.mp h;let(i,hi):=Cz.mp d6;let(g,d5,hm):=Gf b3 i g' hi;show gg hm<|hW g (AL d5)
 rw[hb];show λH3 bt hB=>{O,λd3=>q2 _ ys H3 (sH.trans<|Sm.of (s3 bt)) (hy.same<|s3 bt) d3 hB.isB<|L2.Paired.imp' (λ_ _ z=>NB.sm (Sm.of<|s3 bt) z) b9}
def xA(b:Bool):AH:=if b then 111 else 149
def xW(b:Bool):AO:=if b then "book" else "text"
def bsX(b:Bool):List Bool:=[ge,ge,b,ge,!b,ge,ge,ge,ge,ge]
inductive wF(vs:List V)(H:Hp)(Q:VK):Prop|mk (b e dx a0 tb:_) (_:vs=[.ref e]) (_:H e=some (wN e<|JI (.ref<|xA b) dx a0 tb)) (_: (dx=none\/∃d fs,dx=some d/\H d=some (.xd fs))) (_:∀H',Bd H H'->Q (.str<|xW b) H')
def lH:Sp:=λvs H Q _=>wF vs H Q
def zx(b:Bool): ((List.countP id (bsX b):Nat):Int)=1:=by cases b <;> decide
def qI(r:EX k A):EX k (A.mark v):={(r.dp),r.un}
def W0(T:Tx K mg)(b:Bool):ZI K (xA b):=by cases b;show T.Vc;show T.Qk
def ut(T:Tx K mg):EY P w K mg base CXS 1 1069 (EH K 1069) ["_law_e"] lH:=by
 show(T.df 47 O).okA On ?_;intro _ _ _ s H _ Q _ hr h _ _;let(b,e,dx,a0,tb,O,hE,b4,q):=h;let z:∀{H':Hp},Bd H H'->(dx=S\/∃d fs,dx=Y d/\H' d=Y (.xd fs)):=λs=>b4.imp id λb2=>(by let(d,fs,e,h):=b2;show{d,fs,e,s _ _ h});let xz:=W0 T b;let U:Bo K (.ref<|xA b) (.ref 44)=Y (ge):=by cases b;show(T.q 81 O);show(T.q 71 O)
 let a8:Bo K (.ref<|xA b) (.ref 56)=Y (ge):=by cases b;show(T.q 82 O);show(T.q 72 O)
 let a5:Bo K (.ref<|xA b) (.ref 111)=Y (b):=by cases b;show(T.q 83 O);show(T.q 73 O)
 let a1:Bo K (.ref<|xA b) (.ref 130)=Y (ge):=by cases b;show(T.q 84 O);show(T.q 74 O)
 let a4:Bo K (.ref<|xA b) (.ref 149)=Y (!b):=by cases b;show(T.q 85 O);show(T.q 75 O)
 let a3:Bo K (.ref<|xA b) (.ref 168)=Y (ge):=by cases b;show(T.q 86 O);show(T.q 76 O)
 let a2:Bo K (.ref<|xA b) (.ref 68)=Y (ge):=by cases b;show(T.q 87 O);show(T.q 77 O)
 let a7:Bo K (.ref<|xA b) (.ref 187)=Y (ge):=by cases b;show(T.q 88 O);show(T.q 78 O)
 let b0:Bo K (.ref<|xA b) (.ref 80)=Y (ge):=by cases b;show(T.q 89 O);show(T.q 79 O)
 let D:Bo K (.ref<|xA b) (.ref 92)=Y (ge):=by cases b;show(T.q 90 O);show(T.q 80 O)
 let kV:Bo K (.ref<|xA b) (.type "ValueError")=Y true:=by cases b;show(AK<|T.cn (i:=1));show(AK<|T.cn (i:=0))
 show{_,AW (qS 1 On.nd<|Ci (Bc (qB DT T.Bw Bq<|Cv (pv 0) (Sk<|T.mc 1 O))<|Bc (qB DT T.Bw Bq<|Cv (pv 0) (Sk<|T.mc 2 O)) (Cv (qB DT T.Bw Bq<|Cv (pv 0) (Sk T.MQ))<|qB DT T.Bw Bq (Cv (pv 0)<|Sk (T.mc 7 O)))))<|AW (qS 1 On.nd<|Bb DS (pv 1) (Ci<|Bc (qB DT T.Bw Bq<|Cv (pv 0) (Sk T.Ql)) (Bc (qB DT T.Bw Bq<|Cv (pv 0) (Sk<|T.mc 9 O))<|Cv (qB DT T.Bw Bq<|Cv (pv 0) (Sk<|T.mc 3 O)) (qB DT T.Bw Bq<|Cv (pv 0) (Sk<|T.mc 10 O))))) (AW (qS 1 On.nd<|Bb DS (pv 1) (Ci<|Cv (qB DT T.Bw Bq<|Cv (pv 0) (Sk<|T.mc 4 O)) (qB DT T.Bw Bq<|Cv (pv 0) (Sk<|T.mc 5 O))))<|AW (qi (PW.pt<|Jf (qc Ri (EA Bk PySem.F.slot_list_count PySem.F.type_list_count pC (pv 1)<|CK ER) AF) (HX<|Dn (BN<|qB DT T.Bw Bq (Cv (pv 0)<|Yl (T.y 16 O) ZE))))<|qr AE) (AW (qS 2 On.nd<|Ci (Bc AE<|Bc AE (Bc AE<|Bc AE (Bc AE<|Bc AE (Bc AE<|Bc AE (Cv AE AE))))))<|qr (MK (pv 2)<|EA Bk Gq OR pB (pv 1) (CK ER)))),?_};let s0:Bd H H:=Bd.refl H;show{_,O,e,_,dx,a0,tb,_,_,_,O,s0 _ _ hE,xz,z s0,.inl {(_),O,O},U,_,O,e,_,dx,a0,tb,_,_,_,O,s0 _ _ hE,xz,z s0,.inl {(_),O,O},a8,_,O,e,_,dx,a0,tb,_,_,_,O,s0 _ _ hE,xz,z s0,.inl {(_),O,O},a5,_,O,e,_,dx,a0,tb,_,_,_,O,s0 _ _ hE,xz,z s0,.inl {(_),O,O},a1,zl 4,λl1 g1=>?_};let s1:=AZ (u:=.lst [.bl ge,.bl ge,.bl b,.bl ge]) g1;show{_,O,_,O,e,_,dx,a0,tb,_,_,_,O,s1 _ _ hE,xz,z s1,.inl {(_),O,O},a4,_,O,e,_,dx,a0,tb,_,_,_,O,s1 _ _ hE,xz,z s1,.inl {(_),O,O},a3,_,O,e,_,dx,a0,tb,_,_,_,O,s1 _ _ hE,xz,z s1,.inl {(_),O,O},a2,_,O,e,_,dx,a0,tb,_,_,_,O,s1 _ _ hE,xz,z s1,.inl {(_),O,O},a7,zl 4,λm2 f2=>?_};show{l1,m2,_,_,O,O,Mv Ax f2,Ax,zl 8,λl2 g2=>?_};let s3:=(s1.trans<|AZ (u:=.lst [.bl (!b),.bl ge,.bl ge,.bl ge]) f2).trans<|AZ (u:=.lst<|[.bl ge,.bl ge,.bl b,.bl ge] ++[.bl (!b),.bl ge,.bl ge,.bl ge]) g2;show{_,O,_,O,e,_,dx,a0,tb,_,_,_,O,s3 _ _ hE,xz,z s3,.inl {(_),O,O},b0,_,O,e,_,dx,a0,tb,_,_,_,O,s3 _ _ hE,xz,z s3,.inl {(_),O,O},D,zl 2,λm3 f3=>?_};show{l2,m3,_,_,O,O,Mv Ax f3,Ax,zl 10,λl3 g3=>?_};let s5:=(s3.trans<|AZ (u:=.lst [.bl ge,.bl ge]) f3).trans<|AZ (u:=.lst<|(bsX b).map V.bl) g3;show{_,O,.inl {O,_,BX.of Ax},l3,bsX b,O,O,Ax,O,_,O,?_};rw[zx];show BW {_,O,e,_,dx,a0,tb,_,_,_,O,s5 _ _ hE,xz,z s5,.inr {(_),O,O},kV,_,O,BW ?_};show{zl 10,λwl hwl=>?_};let s6:=s5.trans<|AZ (u:=.lst [.str "number",.str "row",.str "book",.str "value",.str "text",.str "wire",.str "check",.str "kin",.str "key",.str "version"]) hwl;cases b with
 |true=>
  show{_,O,_,O,.inl {O,_,BX.of<|Mv Ax hwl},l3,bsX Z,2,O,O,Mv Ax hwl,O,Aa,λi hi=>?_,wl,_,_,_,O,O,BX.of Ax,FN (j:=2) O,q _ s6}
  match i,hi with|0,_=>rfl|1,_=>rfl
 |false=>
  show{_,O,_,O,.inl {O,_,BX.of<|Mv Ax hwl},l3,bsX ge,4,O,O,Mv Ax hwl,O,Aa,λi hi=>?_,wl,_,_,_,O,O,BX.of Ax,FN (j:=4) O,q _ s6}
  match i,hi with|0,_=>rfl|1,_=>rfl|2,_=>rfl|3,_=>rfl
def OJ(gxs:List Gx):Option (Nat×AO):=if 1<=gxs.length/\gxs.length<=8 then (match Ir (gxs.map Ox.form)with|.inl x=>Y x|.inr _=>S)else Y (0,"forms")
def pc(H:Hp)(Q:VK)(xs:List V):Prop:=∀t H',Sm H H'->Lm H'->H' t=Y (.tup xs)->Q (.ref t) H'
def GdQ(H:Hp)(Q:VK)(gs:List Pg):Prop:=∃dz:List Pg,(∀gxs,Paired EO gs gxs->gxs=dz.map Pg.gx/\∃ws,Ir (gxs.map Ox.form)= .inr ws)/\(∀g∈dz,g.Ok)/\1<=dz.length/\dz.length<=8/\∀D H',Sm H H'->Lm H'->H' D=Y (.lst<|(dz.map HF).flatten.map V.str)->Q (.ref D) H'
def SdQ(H:Hp)(Q:VK):Nat ⊕ List Pg->Prop|.inl p=>pc H Q [.str "text",.int (p:Nat)]|.inr gs=>(∀g∈gs,g.fields.length<=30/\g.gone.length<=30)/\((∃(p:Nat) (y:AO),(∀gxs,Paired EO gs gxs->OJ gxs=Y (p,y))/\pc H Q [.str "book",.int (p:Nat),.str y])\/GdQ H Q gs)
inductive wq(K:Az)(vs:List V)(H:Hp)(Q:VK):Prop|mk (v:_) (_:vs=[v]) (_:Lm H) (_: ((∃t,IV K H v t/\Bo K t (.type "list")=some false/\pc H Q [.str "text",.int ((0:Nat):Int)])\/∃l xs ls,v= .ref l/\H l=some (.lst xs)/\Paired (JU H) ls xs/\(∀x∈ls,cW x/\zI x)/\ls.length<=100/\SdQ H Q (DI ls 0 [] none)))
def xo(K:Az):Sp:=λvs H Q _=>wq K vs H Q
def oK(hL:Lm H)(h: (∃t,IV K H v t/\Bo K t (.type "list")=Y ge/\pc H Q [.str "text",.int ((0:Nat):Int)])\/∃l xs ls,v= .ref l/\H l=Y (.lst xs)/\Paired (JU H) ls xs/\(∀x∈ls,cW x/\zI x)/\ls.length<=100/\SdQ H Q (DI ls 0 [] S))(z:∀(p:Nat) H1,Bd H H1->pc H Q [.str "text",.int (p:Nat)]->lA H1 (p:Nat) U)(hb:∀(p:Nat) y H1,Sm H H1->Lm H1->pc H Q [.str "book",.int (p:Nat),.str y]->Ud H1 (p:Nat) y U)(hg:∀(dz:List Pg) ws v xs H1,(∀g∈dz,g.Ok)->1<=dz.length->dz.length<=8->(∀D H',Sm H H'->Lm H'->H' D=Y (.lst<|(dz.map HF).flatten.map V.str)->Q (.ref D) H')->Sm H H1->Lm H1->V9 H1 xs ws v->Paired (λg x=>NB H1 (Pg.gx g) x) dz xs->Q' v H1):
  VF K [v] H Q' U:=by
 rcases h with⟨t,ty,kt,q⟩|⟨l,xs,ls,rfl,hl,j,hok,hn,q⟩;·show .inl {v,t,O,ty,kt,z 0 H (Bd.refl _) q}
 show .inr {l,xs,ls,O,hl,j,hok,hn,hL,?_};revert q;cases DI ls 0 [] S with
 |inl p=>show λq H1 s1=>z p H1 s1 q
 |inr gs=>
  rintro⟨hf,⟨p,y,hx,q⟩|⟨dz,hx,ho,h1,F,q⟩⟩
  ·show{hf,λgxs hm=>?_};let e:=hx gxs hm;unfold OJ at e;unfold BkQ
   grind
  show{hf,λgxs hm=>?_};let(e,ws,hw):=hx gxs hm;unfold BkQ;rw[A3n (by rw[e,Aw];show{(h1),F}),hw];intro v xs H1 s1 l1 hB hp;rw[e]at hp;show hg dz ws v xs H1 ho h1 F q s1 l1 hB<|Mp hp
def yh(T:Tx K mg)(kb:K.In base)(hT:KD P w K 190 Vs):∅ 12 1100 ["_law_lines_here"] (xo K):=by
 let j:EY P w K mg base CXS 1 1069 (EH K 1069) ["_law_e"] lH:=ut T;let GB:EY P w K mg base (XC P w Z) 11 991 (EH K 991) ["lines"] (VF K):=uq T kb hT;show(T.df 52 O).okA bS ?_;intro _ _ _ _ H _ Q E hr h _ _;let(v,O,hL,h):=h;show{_,Cc<|xZ O O (λE=>oV (E:=E) (@PQ P w K mg base T) (hr.mono Aa) O T.Jn.m T.Jn.k T.Jn.b O<|tN (E:=E) (cm:=Z) GB (hr.mono Aa) O T.MU.m T.MU.k T.MU.b .nil (λ_=>rfl) (CK<|pv 0)) O T.MP (v0:=.ref 31) O (λe=>AW (qS 2 bS.nd<|tU j (qI<|hr.mono Aa) O T.Vl.m T.Vl.k T.Vl.b (CK<|pv 1))<|AW (qi (qc Do (pv 2) AE)<|qr (Cn<|Bc AE (Cv (ci (pv 1) O)<|ci (pv 1) O))) (qr<|HM (qc Do (pv 2) AE) (Cn<|Cv AE (ci (pv 1) O)) (Cn<|Cv AE AF))) bS.nd (i:=1) O O,?_};show{_,O,oK hL h (λp H1 s1 q=>?_) (λp y H1 s1 l1 q=>?_) λdz ws v xs H1 ho h1 h8 q s1 l1 hB hp=>?_};·intro d H2 s2 hd;show{(AK<|T.cn (i:=9)),λe a0 tb z=>?_};let s3:=(s1.trans s2).trans<|AZ (u:=wN e<|JI (.ref 149) (Y d) a0 tb) z;show{_,O,{(e),_,_,a0,tb,O,Ax},ge,e,Y d,a0,tb,O,Ax,.inr {d,_,O,Mv hd z},λH4 s4=>?_};show{_,O,O,_,O,EN wX {_,O,O,_,O,Gc O {_,O,e,_,d,a0,tb,_,_,O,s4 _ _ Ax,s4 _ _<|Mv hd z,T.Vc,T.dF,O,zl 2,λt U=>?_}}};let F:=(s3.trans s4).trans<|AZ (u:=.tup [.str "text",.int (p:Nat)]) U;show q t _ (Sm.of F) (hL.same F) Ax
 ·intro d H2 s2 hd;show{(AK<|T.cn (i:=8)),λe a0 tb z=>?_};show{_,O,{(e),_,_,a0,tb,O,Ax},Z,e,Y d,a0,tb,O,Ax,.inr {d,_,O,Mv hd z},λH4 s4=>?_};show{_,O,O,_,O,Gc O {_,O,e,_,d,a0,tb,_,_,O,s4 _ _ Ax,s4 _ _<|Mv hd z,T.Qk,T.kU,O,_,O,e,_,d,a0,tb,_,_,O,s4 _ _ Ax,s4 _ _<|Mv hd z,T.Qk,T.A0,O,zl 3,λt U=>?_}};let F:=((s2.trans<|AZ (u:=wN e<|JI (.ref 111) (Y d) a0 tb) z).trans s4).trans<|AZ (u:=.tup [.str "book",.int (p:Nat),.str y]) U;show q t _ (s1.trans<|Sm.of F) (l1.same F) Ax
 show{v,xs,ws,dz,O,hB,hp,ho,(),λD H2 hD s2 e2=>q D H2 (s1.trans<|Sm.of s2) (l1.same s2) e2}
def IG(ys:List AO):Cj " " ys=Str.join {#[32]} ys:=by change Builtin.Str.glued " " ys=_;rw[StrLaws.glued_eq_join,vN]
def M8: ((["_law_part"]:List AO) ++ ([]:List AO)).Nodup:=⋯
def A2d:IT (x::xs) (Y 1) S=xs:=Jz (k:=1) O
def EV:Cj " " (x::y::r)=x++ (" " :AO) ++Cj " " (y::r):=by rw[IG,IG,vN];rfl
def FX(x y z:AO):x++y++z=x++ (y++z):=by apply Vx;change sg (x++y++z)=sg (x++ (y++z));rw[FR,FR,FR,FR,BS]
def De(b:Bool):Kx->List AO|.text (.int n)=>if n=100/\b=ge then ["text"]else ["text",toS n]|.list k=>"list" ::De b k|k=>GU k
def rL(h:∀n,k≠ .text n)(h':∀j,k≠ .list j)(b:Bool):De b k=GU k:=by cases k with|text d=>show A3p O<|h d|list j=>show A3p O<|h' j|_=>rfl
def aa(j:k.good):De b k≠[]:=by cases k with|upto d=>let(n,O,_):=j;show λz=>by cases z|text d=>let(n,O,_):=j;unfold De;split <;> show λz=>by cases z|form d=>let(n,O,_):=j;show λz=>by cases z|bare=>show j.elim|thing d=>show j.elim|_=>show λz=>by cases z
def Qm:∀{k:Kx},k.good->(De b k).length<=3/\(∀y∈De b k,y.length<=100):=by
 let fl:∀{k:Kx},k.good->k.flat=Z->(De b k).length<=2/\(∀y∈De b k,y.length<=100):=λ{k} z hf=>by
  by_cases F:∃d,k= .text d
  ·let(d,O):=F;let(n,O,h1,h2):=z;unfold De;let hn: (toS n).length<=100:=AR (Oj<|()) Aa;split
   ·show{Aa,λy D=>by rw[AN.mp D];decide+kernel}
   show{AU 2,λy D=>?_};rcases AM.mp D with rfl|D;·decide+kernel
   simp_all
  let e:=rL (λn e=>F {(n),e}) (λj e=>by rw[e]at hf;cases hf) b;rw[e];show{?_,(Sr z).2};cases k with|list j=>cases hf|upto d=>let(n,O,_):=z;show AU 2|form d=>let(n,O,_):=z;show AU 2|text d=>show A3p {(d),O} F|bare=>show z.elim|thing d=>show z.elim|_=>show Da 1
 intro k z;by_cases U:∃j,k= .list j
 ·let(j,O):=U;let(h1,h2):=fl z.2 z.1;show{Ko h1,λy D=>?_};rcases AM.mp D with rfl|D
  ·decide+kernel
  show h2 y D
 let hf:k.flat=true:=by cases k with|list j=>show A3p {(j),O} U|_=>rfl
 grind
def Kl(hn:CN (gs.map (·.nam))):∀{k:Lk},k.ok gs.length->(Fb gs k).good:=by
 let pl:∀{k:Lk},k.plain->(Fb gs k).good/\(Fb gs k).flat=true:=λ{k} h=>by
  cases k with|upto n=>show{{n,O,h.1,Int.lt_of_le_of_lt h.2 Aa},O}|text n=>show{{(n),O,h},O}|form i=>show h.elim|list k=>show h.elim|_=>show{(trivial),O}
 let fm:∀{i:Nat},i<gs.length->(Fb gs<|.form i).good:=λ{i} hi=>by
  show{_,O,?_};let hg:=AA hi;rw[show Mr gs i=(gs[i]'hi).nam by unfold Mr;rw[hg];rfl];show(hn.ok _<|AS.mpr {_,AL hg,O}).1
 intro k h;cases k with
 |form i=>show fm h
 |list k=>
  rcases h with h|⟨i,rfl,h⟩;·show{(pl h).2,(pl h).1}
  show{O,fm h}
 |upto n=>show(pl (k:=.upto n) h).1|text n=>show(pl (k:=.text n) h).1|_=>trivial
def Mh(b:Bool)(gs:List SG)(k:Lk):AO:=Cj " "<|De b (Fb gs k)
def So(j: (Fb gs k).good): (Mh b gs k).length<=400:=by
 let h:=Qm (b:=b) j;unfold Mh;rw[IG];let h1:=StrLaws.join_length_le {#[32]}<|De b (Fb gs k);let h2:=UO h.2;let z: (⟨#[32]⟩:AO).length=1:=rfl;rw[z]at h1
 lia
def Ps(b:Bool):Int:=if b then 1 else 0
inductive kG(gs:List SG)(k:Lk)(vs:List V)(H:Hp)(Q:VK):Prop|mk (v sv b:_) (_:vs=[v,sv,.int<|Ps b]) (_:TL H k v) (_:QB H gs sv) (_:CN (gs.map (·.nam))) (_:k.ok gs.length) (_:∀H',Bd H H'->Q (.str<|Mh b gs k) H')
def Mj(gs:List SG)(k:Lk):Sp:=λvs H Q _=>kG gs k vs H Q
def Ot(T:Tx K mg)(G:∅ (r+1) 1074 An a5)(hk:∀k',k= .list k'->∀vs H Q E,Mj gs k' vs H Q E->a5 vs H Q E):
  ∅ (r+3) 1074 An (Mj gs k):=by
 show(T.df 48 O).okA sY ?_;intro 1 hr h;let(v,sv,b,O,hv,hs,hn,hok,q):=h;show{_,AW (qi (qc Do (TQ (pv 0) AF) AE)<|qr (Bb BO AE<|fJ G (hr.mono<|()) T.dI (Bc (TQ (pv 0) AF)<|Cv (pv 1) (pv 2))))<|AW (qi (qc Do (TQ (pv 0) AF) AE)<|qr (Bb BO AE<|Cr (Ny hr) (MK (pv 1)<|TQ (pv 0) AF) AE (λ_ _=>rfl))) (AY (qi (PW.pt<|FT (qc Do (TQ (pv 0) AF) AE) (FT (qc Do (TQ (pv 0) AF) AF)<|Fu (qc Do (pv 2) AF)))<|qr AE)<|qr (EA DC Hx Hw Rp AE<|CK (Bb DS (Ci<|CK (TQ (pv 0) AF))<|Re ["_law_part"] [] [] .nil (K4<|DE J0 (pv 0) (Ej AF) Ek) (λC s_ H_ fp=>BQ (i:=0) M8 O (Cd O)<|CV O) (λC s_ H_ fp=>qT Em T.KA Ia<|CK (pv 0))))),?_};by_cases hl:∃j,k= .list j
 ·have(j,O):=hl;let(t,u,O,U,a7):=hv;show{_,O,t,_,_,_,O,O,GK.of U,NU,O,_,O,Gc O {_,O,t,_,_,_,O,O,GK.of U,dA,_,O,_,O,hk _ O _ _ _ _ {u,sv,b,O,a7,hs,hn,uk hok,λH' s'=>{_,_,O,O,?_,?_}}}}
  ·have:=So (b:=b)<|Kl hn (uk hok);show Di (AR (Ct (show(AG "list ").length<=5 by decide+kernel) this) Aa)
  let e:Mh b gs (.list j)="list " ++Mh b gs j:=by
   unfold Mh;cases hw:De b (Fb gs j)with
   |nil=>show A3p hw<|aa (Kl hn<|uk hok)
   |cons y r=>
    change Cj " " ("list" ::De b (Fb gs j))=_;rw[hw,EV,show "list "="list" ++ (" " :AO)by decide+kernel]
  rw[<-e];show q _ s'
 by_cases hf:∃i,k= .form i
 ·let(i,O):=hf;let(t,O,U):=hv;let hi:=hok;let hg:=AA hi;let hnm:Mr gs i=(gs[i]'hi).nam:=by unfold Mr;rw[hg];rfl
  have(l,as,a,O,hl,ha,a',gl,fl,xs,ea,hA,_):=hs.at hg;cases ea;show{_,O,t,_,_,_,O,O,GK.of U,NU,O,_,O,EN Ab {_,O,t,_,_,_,O,O,GK.of U,NU,O,_,O,Gc O {_,O,_,O,t,_,_,_,O,O,GK.of U,dA,l,_,_,_,O,O,BX.of hl,FN (j:=i) (v:=.ref a) (by rw[Be,ha];rfl),a,_,O,Io hA,_,_,O,O,?_,?_}}};·show Di (AR (Ct (show(AG "form ").length<=5 by decide+kernel)<|(Ks (hn.ok _<|AS.mpr {_,AL hg,O}).1).2.1) Aa)
  let e:Mh b gs (.form i)="form " ++ (gs[i]'hi).nam:=by change Cj " " ["form",Mr gs i]=_;rw[EV,hnm,show "form "="form" ++ " " by decide+kernel];rfl
  rw[<-e];show q _<|Bd.refl _
 obtain⟨t,ns,rfl,U,hw,hb,h1⟩:∃t ns,v= .ref t/\H t=Y (.tup (.str k.word::MI V.int ns))/\((∃n,k= .text n/\ns=[n])\/((∀n,k≠ .text n)/\De b (Fb gs k)=k.word::ns.map toS))/\(∀n∈ns,n.natAbs<2 ^ 256)/\ns.length<=1:=by cases k with|truth=>let(t,e,h):=hv;show{t,[],e,h,.inr {(λn z=>by cases z),O},(λn hn=>by cases hn),BY 1}|count=>let(t,e,h):=hv;show{t,[],e,h,.inr {(λn z=>by cases z),O},(λn hn=>by cases hn),BY 1}|whole=>let(t,e,h):=hv;show{t,[],e,h,.inr {(λn z=>by cases z),O},(λn hn=>by cases hn),BY 1}|upto m=>let(t,e,h):=hv;let(h1,h2):=(hok);show{t,[m],e,h,.inr {(λn z=>by cases z),O},(λn hn=>by rw[AN.mp hn];lia),AU 1}|text m=>let(t,e,h):=hv;let(h1,h2):=(hok);show{t,[m],e,h,.inl {(m),O,O},(λn hn=>by rw[AN.mp hn];lia),AU 1}|form i=>show A3p {(i),O} hf|list j=>show A3p {(j),O} hl
 let nl:¬V.str k.word=V.str "list":=by cases k with|list j=>show A3p {(j),O} hl|_=>show wX
 let nf:¬V.str k.word=V.str "form":=by cases k with|form j=>show A3p {(j),O} hf|_=>show wX
 show{_,O,t,_,_,_,O,O,GK.of U,NU,O,_,O,EN nl {_,O,t,_,_,_,O,O,GK.of U,NU,O,_,O,EN nf ?_}};show BV (λσ' H'=>σ'=[Y (.ref t),Y sv,Y<|.int (Ps b)]/\H=H'/\De b (Fb gs k)=k.word::ns.map toS) ?_ ?_
 ·rcases hw with⟨n,rfl,rfl⟩|⟨a8,hw⟩
  ·show{_,O,t,_,_,_,O,O,GK.of U,NU,O,_,O,Gc O {_,O,t,_,_,_,O,O,GK.of U,dA,O,_,O,Hs (λh=>?_) λh=>?_}}
   ·obtain rfl:n=100:=V.int.inj<|A3l h;cases b with|false=>show{_,O,O,_,O,Gc O<|q _ (Bd.refl _)}|true=>show{_,O,O,_,O,EN (λz=>by cases z) {(O),O,O}}
   show BW {O,O,?_};change De b (.text<|.int n)=_;unfold De;rw[A3m λz=>h<|A3j (A3o V.int z.1)];rfl
  let nt:¬V.str k.word=V.str "text":=by cases k with|text j=>show A3p O<|a8 j|_=>show wX
  show{_,O,t,_,_,_,O,O,GK.of U,NU,O,_,O,EN nt<|BW {(O),O,hw}}
 rintro σ' H' ⟨rfl,rfl,hw⟩;show{O,_,O,t,_,_,_,O,O,GK.of U,NU,zl 1,λl hl=>?_};let s1:=AZ (u:=.lst [.str k.word]) hl;show{_,O,_,O,t,_,O,GK.of<|s1 _ _ U,?_,λp hp=>?_};·intro z;let z1:=z.1;unfold HT.sIx at z1;simp at z1
 rw[A2d];let s2:=AZ (u:=.tup<|ns.map V.int) hp;show{p,O,{_,GK.of Ax},IU (l:=ns) (Wk.tup<|GK.of Ax) (Aw ..).symm (by rw[Aw];lia) (λn=>.str<|toS n) (λj n x hn hx H3 R s3 hR=>?_) λD H3 hD s3 e3=>?_};·rw[Be,hn]at hx;cases hx;show{Sub.set O,_,O,n,O,Il<|hb n (AL hn),hR _<|Bd.refl _}
 let a3:=(s1.trans s2).trans s3;show{l,D,_,_,O,O,s3 _ _<|s2 _ _ Ax,e3,?_,λM hM=>?_};·rw[Aw];show Di (by change 1+ns.length<=1000;lia)
 let hl:=Qm (b:=b)<|Kl hn hok;rw[hw]at hl;show{" ",M,k.word::ns.map toS,O,O,BX.of (by rw[Ax,Ba,AX];rfl),Rx (AR hl.1 Aa) (λy hy=>AR (hl.2 y hy) Aa) Ab,?_};rw[<-hw];show q _<|a3.trans (AZ hM)
def jB(T:Tx K mg)(gs:List SG)(k:Lk):∅ 6 1074 An (Mj gs k):=by
 let base:∀k:Lk,(∀j,k≠ .list j)->∅ 3 1074 An (Mj gs k):=λk F=>
  Ot T (r:=0) (mR (k:=0+1)) (λz e=>A3p e<|F z)
 cases k with
 |list k=>
  by_cases D:∃j,k= .list j
  ·let(j,O):=D;show P9 (sp:=λ_ _ _ _=>False) (λvs H Q E h=>?_) mR;let(v,sv,_,_,_,_,_,hok,_):=h;rcases hok with h|⟨i,h,_⟩
   ·show h
   cases h
  show(Ot T (r:=2) (base k λj e=>D {(j),e}) λz e vs H Q E h=>by cases e;show h).mono Aa
 |_=>show(base _ λj e=>by cases e).mono Aa
def iQ:Sp:=λvs H Q E=>∃i:List SG×Lk,Mj i.1 i.2 vs H Q E
def pk(T:Tx K mg):∅ 6 1074 An iQ:=A0g λi=>jB T i.1 i.2
def Wd(y:AO):Prop:=y≠ "" /\32∉sg y
def ly(h:Co z=Z):Wd z:=by
 show{λe=>?_,λhc=>?_};·rw[e]at h;show A3p h Ab
 have:=ma h 32 hc;lia
def E5(n:Int):Wd (toS n):=by
 let e:sg (toS n)=_:=je n;show{λz=>?_,λhc=>?_}
 ·rw[z]at e;have: (Jd n.natAbs).reverse=[]:=by cases j: (Jd n.natAbs).reverse with|nil=>rfl|cons x r=>rw[j]at e;show A3p (A3o Jg e) (by split <;> simp[show(sg "").length=0 by decide+kernel])
  show cc _<|OS.mp this
 rw[e]at hc;rcases Bt.mp hc with h|h;·simp_all
 have:=(fB n.natAbs) 32<|ZQ.mp h;revert this;decide
def Gw(h:1<=n/\n<=200): (toS n).length<=3:=by
 let all:∀m:Fin 201,(toS (m.val:Int)).length<=3:=⋯
 have:=all {n.toNat,()}
 grind
def Jj(gs:List SG)(f:SF):Pf:={f.num,f.nam,Fb gs f.kind,f.must,f.dfl}
def yv(h:Co z=Z):¬z="":=(ly h).1
def w6(hn:CN (gs.map (·.nam)))(F:f.kind.ok gs.length)(h1:1<=f.num/\f.num<=200)(hnm:Co f.nam=Z)(hd:dm f): (Jj gs f).Ok:=by
 show{h1,hnm,Kl hn F,?_};change f.dfl=Et (Fb gs f.kind)\/(f.must=ge/\FI (Fb gs f.kind) f.dfl=ge/\U3 (Fb gs f.kind) f.dfl);rcases hd with e|⟨hm,D⟩;·show .inl (by rw[e,Xl])
 let num:∀{i:Int} {k:Kx},(∀d,k≠ .form d)->Et k= .int 0->(i.natAbs<2 ^ 256->U3 k (.int i))->f.dfl= .int i->i.natAbs<2 ^ 256->f.dfl=Et k\/(f.must=ge/\FI k f.dfl=ge/\U3 k f.dfl):=λ{i k} hf hb hp e h=>by
  by_cases h0:i=0;·simp_all
  show .inr {hm,?_,by rw[e];show hp h};rw[e];have:Q5 (.int i)=false:=A3k h0;unfold FI
  grind
 cases j:f.kind with
 |truth=>
  rw[j]at D;rw[show f.dfl= .bl Z from D];show .inr {(hm),O,O}
 |text n=>
  rw[j]at D;let(z,e,U,_):=D;show .inr {hm,?_,{(z),e,U}};rw[e];change(_&&decide (z=""))=ge;rw[A3k (yv U),Gv]
 |upto m=>
  rw[j]at D F;let(i,e,h0,h1):=D;let(_,h2):=(F);show num (λd z=>by cases z) O (λh=>{(i),O,h}) e ()
 |whole=>
  rw[j]at D;let(i,e,h0,h1):=D;show num (λd z=>by cases z) O (λh=>{(i),O,h}) e ()
 |count=>
  rw[j]at D;let(i,e,h0,h1):=D;show num (λd z=>by cases z) O (λh=>{(i),O,h}) e ()
 |form i=>rw[j]at D;show D.elim|list k=>rw[j]at D;show D.elim
def IL(x:AO):Cj " " [x]=x:=by rw[IG];rfl
def Ry(j:ys≠[]):∀{xs:List AO},xs≠[]->Cj " " (xs++ys)=Cj " " xs++ (" " :AO) ++Cj " " ys
 |[],h=>A3p O h
 |[x],_=>by
  cases ys with|nil=>show A3p O j|cons y r=>rw[IL];show EV
 |x::z::r,_=>by
  change Cj " " (x::z:: (r++ys))=_;rw[EV,EV,show z:: (r++ys)=(z::r) ++ys from O,Ry j (xs:=z::r) (λz=>by cases z)];simp only[FX]
def y8{k:Lk}(z:¬ ((∃j,k= .list j)\/∃i,k= .form i)):L2.Ym (.str k.word) [.str "list",.str "form"]=false:=by
 rw[uR]
 grind
def mx:Lk->Bool|.list _=>Z|.form _=>Z|_=>ge
def rp:Dt->Bool|.str z=>decide (z="")|_=>ge
def wQ:Dt->Bool|.bl b=>!b|.int i=>decide (i=0)|.str z=>decide (z="")|_=>Z
def HA(b c:Bool)(f:SF):List AO:=if f.must=Z then ["must"]else if (mx f.kind|| (c||rp f.dfl))=Z then []
 else if (!b&&wQ f.dfl)=Z then []else ["=",IR f.dfl]
def Rb(b c:Bool)(gs:List SG)(f:SF):List AO:=[toS f.num,f.nam] ++De b (Fb gs f.kind) ++HA b c f
def Rt(b c:Bool)(gs:List SG)(f:SF):AO:=Cj " "<|Rb b c gs f
def Mu(b:Bool)(gs:List SG)(f:SF):AO:=toS f.num++ (" " :AO) ++f.nam++ (" " :AO) ++Mh b gs f.kind
def jN(j: (Fb gs f.kind).good):Cj " " ([toS f.num,f.nam] ++De b (Fb gs f.kind))=Mu b gs f:=by rw[Ry (aa j) (λz=>by cases z),EV,IL];rfl
def O0(j: (Fb gs f.kind).good)(h:HA b c f=[]):Rt b c gs f=Mu b gs f:=by unfold Rt Rb;rw[h,BE];show jN j
def N9(j: (Fb gs f.kind).good)(h:HA b c f=(["must"]:List AO)):Rt b c gs f=Mu b gs f++ (" must" :AO):=by unfold Rt Rb;rw[h,Ry (λz=>by cases z) (λz=>by cases z),jN j,IL,FX,show " " ++ ("must" :AO)=" must" by decide+kernel]
def N8(j: (Fb gs f.kind).good)(h:HA b c f=(["=",d]:List AO)):Rt b c gs f=Mu b gs f++ (" = " :AO) ++d:=by unfold Rt Rb;rw[h,Ry (λz=>by cases z) (λz=>by cases z),jN j,EV,IL,show " = "=" " ++ ("=" ++ (" " :AO))by decide+kernel];simp only[FX]
def pH(j: (Fb gs f.kind).good)(h1:1<=f.num/\f.num<=200)(hnm:Co f.nam=Z): (Mu b gs f).length<=600:=AR (FO (FO (FO (FO (Gw h1)<|show(AG " ").length<=1 by decide+kernel)<|Er hnm)<|show(AG " ").length<=1 by decide+kernel)<|So j) Aa
def jO(h:mx k=Z): (∃j,k= .list j)\/∃i,k= .form i:=by cases k with|list j=>show .inl {(j),O}|form j=>show .inr {(j),O}|_=>cases h
def O1(h:mx k=ge):¬ ((∃j,k= .list j)\/∃i,k= .form i):=by rintro(⟨j,rfl⟩|⟨j,rfl⟩) <;> cases h
def dtW:Dt->V|.bl b=>.bl b|.int i=>.int i|.str z=>.str z|_=>.non
def vx(D:mx f.kind=ge)(F:f.kind.ok n)(hd:dm f): (∃b,f.kind= .truth/\f.dfl= .bl b)\/(f.kind≠ .truth/\((DA f.kind= .str "" /\∃z,f.dfl= .str z/\z.length<=100)\/(DA f.kind= .int 0/\∃i,f.dfl= .int i/\i.natAbs<2 ^ 256))):=by
 cases j:f.kind with
 |truth=>
  show .inl ?_;rcases hd with e|⟨_,e⟩;·show{ge,O,by rw[e,j];rfl}
  rw[j]at e;show{(Z),O,e}
 |text m=>
  show .inr {(λz=>by cases z),.inl {O,?_}};rcases hd with e|⟨_,e⟩;·show{"",by rw[e,j];rfl,Ab}
  rw[j]at e;let(z,e,U,_):=e;show{z,e,AR (Er U) Aa}
 |upto m=>
  show .inr {(λz=>by cases z),.inr {O,?_}};rcases hd with e|⟨_,e⟩;·show{0,by rw[e,j];rfl,Aa}
  rw[j]at e F;let(i,e,h0,h1):=e;let(_,h2):=(F);show{i,e,()}
 |whole=>
  show .inr {(λz=>by cases z),.inr {O,?_}};rcases hd with e|⟨_,e⟩;·show{0,by rw[e,j];rfl,Aa}
  rw[j]at e;let(i,e,h0,h1):=e;show{i,e,()}
 |count=>
  show .inr {(λz=>by cases z),.inr {O,?_}};rcases hd with e|⟨_,e⟩;·show{0,by rw[e,j];rfl,Aa}
  rw[j]at e;let(i,e,h0,h1):=e;show{i,e,()}
 |form i=>rw[j]at D;cases D|list k=>rw[j]at D;cases D
inductive qQ(vs:List V)(H:Hp)(Q:VK):Prop|mk (v sv gs f b c:_) (_:vs=[v,sv,.int<|Ps b,.bl c]) (_:di H f v) (_:QB H gs sv) (_:CN (gs.map (·.nam))) (_:f.kind.ok gs.length) (_: (1<=f.num/\f.num<=200)) (_:Xr f.nam) (_:dm f) (_:∀H',Bd H H'->Q (.str<|Rt b c gs f) H')
def sE:Sp:=λvs H Q _=>qQ vs H Q
def uh(T:Tx K mg):∅ 7 1081 ["_law_field_here","_law_spec_here","_law_bit","_law_is_choice"] sE:=by
 show(T.df 49 O).okA UP ?_;intro 1 hr h;let(v,sv,gs,f,b,c,O,hf,hs,hn,hok,h1,hnm,b2,q):=h;let D:=Ny hr;show{_,AY (qS 4 UP.nd<|qD (@pk P w K mg base T) hr T.dI (Bc (Cr D (pv 0) AE λ_ _=>rfl)<|Cv (pv 1) (pv 2)))<|AY (qS 5 UP.nd<|Bb BO (Bb BO (Bb BO (Bb BO (qT Em T.KA Ia<|CK (Cr D (pv 0) AE λ_ _=>rfl)) AE)<|Cr D (pv 0) AE (λ_ _=>rfl)) AE) (pv 4)) (AW (qi (BN<|Cr D (pv 0) AE (λ_ _=>rfl))<|qr (Bb BO (pv 5) AE))<|AY (qS 6 UP.nd<|qD (@ax P w K mg base T) hr T.dM (CK<|Cr D (pv 0) AE (λ_ _=>rfl))) (AY (qi (PW.pt<|Jf (Lu Mq (TQ (Cr D (pv 0) AE λ_ _=>rfl) AF) (Cn<|Cv AE AE) O) (Jf (BN<|pv 3)<|HX (qc Do (Cr D (pv 0) AE λ_ _=>rfl) AE)))<|qr (pv 5))<|AY (qi (PW.pt<|FT (qc Do (pv 2) AF) (Fu<|qc Do (Cr D (pv 0) AE λ_ _=>rfl) (pv 6)))<|qr (pv 5)) (AW (qi (qc Do (TQ (Cr D (pv 0) AE λ_ _=>rfl) AF) AE)<|qr (Bb BO (pv 5)<|MK (Ci<|Cv AE AE) (qT Tb T.dD Xj<|CK (Cr D (pv 0) AE λ_ _=>rfl))))<|qr (Bb BO (Bb BO (pv 5) AE)<|qT (FK.or Em cO) T.KA Ia (CK<|Cr D (pv 0) AE (λ_ _=>rfl)))))),?_};let F:=Kl hn hok;have(a,kv,dv,O,ha,hT,hd):=hf;let a7:=pH (b:=b) F h1 hnm.1;let Yk: (AG " ").length<=1:=⋯
 show BV (λσ' H1=>Bd H H1/\σ'=[Y (.ref a),Y sv,Y<|.int (Ps b),Y<|.bl c,Y<|.str (Mh b gs f.kind),S,S]) ({_,O,a,_,O,He ha,_,O,_,O,(gs,f.kind),kv,sv,b,O,hT,hs,hn,hok,λH1 s1=>{(s1),O}}) ?_;rintro σ' H1 ⟨s1,rfl⟩;let a2:=s1 _ _ ha;show BV (λσ' H2=>H1=H2/\σ'=[Y (.ref a),Y sv,Y<|.int (Ps b),Y<|.bl c,Y<|.str (Mh b gs f.kind),Y<|.str (Mu b gs f),S]) {_,O,a,_,O,LU a2,f.num,O,Il (),_,_,O,O,Di<|AR (Ct (Gw h1) Yk) Aa,_,O,a,_,O,TZ a2,_,_,O,O,Di<|AR (Ct (FO (Gw h1) Yk)<|Er hnm.1) Aa,_,_,O,O,Di<|AR (Ct (FO (FO (Gw h1) Yk)<|Er hnm.1) Yk) Aa,_,O,_,_,O,O,Di<|AR (Ct (FO (FO (FO (Gw h1) Yk)<|Er hnm.1) Yk)<|So F) Aa,O,O} ?_;rintro σ' H2 ⟨rfl,rfl⟩;show{_,O,a,_,O,Ua a2,f.must,O,?_};let b3:=hT.sm<|Sm.of s1;let q0:HA b c f=[]->∀H',Bd H1 H'->Q (.str<|Mu b gs f) H':=λe H' s'=>by rw[<-O0 F e];show q _<|s1.trans s'
 cases hm:f.must with
 |true=>
  show CP {_,O,_,_,O,O,Di (AR (Ct a7<|show(AG " must").length<=5 by decide+kernel) Aa),?_};rw[<-N9 (c:=c) F (by unfold HA;rw[A3n hm])];show q _ s1
 |false=>
  let et:HA b c f=if (mx f.kind|| (c||rp f.dfl))=Z then []else if (!b&&wQ f.dfl)=Z then []else (["=",IR f.dfl]:List AO):=by unfold HA;rw[A3m (by rw[hm];decide)]
  show BW ?_;show BV (λσ' H2=>Bd H1 H2/\∃u,σ'=[Y (.ref a),Y sv,Y<|.int (Ps b),Y<|.bl c,Y<|.str (Mh b gs f.kind),Y<|.str (Mu b gs f),Y u]/\Th H2 (DA f.kind) u) ({_,O,a,_,O,He a2,_,f.kind,O,b3,λu H2 s2 U _=>{(s2),u,O,U}}) ?_;rintro σ' H2 ⟨s2,u,rfl,U⟩;let a6:=s2 _ _ a2;have(t,ys,O,ht):=(b3.sm<|Sm.of s2).word;cases hl:mx f.kind with
  |true=>
   show BV (λ_ _=>False) ?_ λ_ _ h=>h.elim;show{_,O,a,_,O,He a6,t,_,_,_,O,O,GK.of ht,NU,zl 2,λr b0=>{r,_,O,.inr<|GK.of Ax,O,cJ,_,O,?_}};rw[show L2.Ym (.str f.kind.word) [.str "list",.str "form"]=Z by rw[uR];rcases jO hl with⟨j,e⟩|⟨j,e⟩ <;> rw[e]];show CP {_,O,q0 (by rw[et,hl];rfl) _<|s2.trans (AZ b0)}
  |false=>
   rw[hl,NR]at et;let a1:=vx hl hok b2;obtain⟨c6,b8⟩:dv=dtW f.dfl/\xK (dtW f.dfl) (.str "")=true:=by
    rcases a1 with⟨x,_,e⟩|⟨_,⟨_,z,e,_⟩|⟨_,i,e,_⟩⟩ <;> rw[e]at hd ⊢;·show{(hd),O}
    ·show{(hd.1),O}
    show{(hd),O}
   subst c6;let eE:decide (dtW f.dfl=V.str "")=rp f.dfl:=by
    rcases a1 with⟨x,_,e⟩|⟨_,⟨_,z,e,_⟩|⟨_,i,e,_⟩⟩ <;> rw[e];·rfl
    ·show decide_eq_decide.mpr {λh=>V.str.inj h,λh=>by rw[h];rfl}
    rfl
   show BV (λσ' H3=>(c||rp f.dfl)=ge/\Bd H2 H3/\σ'=[Y (.ref a),Y sv,Y<|.int (Ps b),Y<|.bl c,Y<|.str (Mh b gs f.kind),Y<|.str (Mu b gs f),Y u]) ?_ ?_
   ·show{_,O,a,_,O,He a6,t,_,_,_,O,O,GK.of ht,NU,zl 2,λr b0=>{r,_,O,.inr<|GK.of Ax,O,cJ,_,O,?_}};let s3:=AZ (u:=.tup [.str "list",.str "form"]) b0;rw[y8 (O1 hl)];show BW {_,O,c,O,?_};cases c with
    |true=>show CP {_,O,q0 (by rw[et];rfl) _<|s2.trans s3}
    |false=>
     show BW {_,O,a,_,O,IN<|s3 _ _ a6,b8,_,O,?_};rw[eE];cases he:rp f.dfl with|true=>show CP {_,O,q0 (by rw[et,he];rfl) _<|s2.trans s3}|false=>show BW {(O),s3,O}
   rintro σ' H3 ⟨hc,s3,rfl⟩;rw[hc,A3m (λz=>by cases z)]at et;let a5:=s3 _ _ a6;let a9:=s2.trans s3;let c1:∀j,f.kind≠ .list j:=λj e=>by rw[e]at hl;cases hl
   let c2:=b2.imp id λx=>x.2;let eB:decide (dtW f.dfl=u)=wQ f.dfl:=by
    rcases a1 with⟨x,ek,e⟩|⟨_,⟨eb,z,e,_⟩|⟨eb,i,e,_⟩⟩;·rw[ek]at U;rw[e,show u=V.bl ge from U];cases x <;> rfl
    ·rw[eb]at U;rw[e,U.1];show decide_eq_decide.mpr {λh=>V.str.inj h,λh=>by rw[h];rfl}
    rw[eb]at U;rw[e,show u=V.int 0 from U];show decide_eq_decide.mpr {λh=>V.int.inj h,λh=>by rw[h];rfl}
   show BV (λσ' H4=>(!b&&wQ f.dfl)=ge/\H3=H4/\σ'=[Y (.ref a),Y sv,Y<|.int (Ps b),Y<|.bl c,Y<|.str (Mh b gs f.kind),Y<|.str (Mu b gs f),Y u]) ?_ ?_
   ·show{_,O,O,_,O,?_};cases b with
    |true=>show EN (λz=>by cases z)<|BW {(O),O,O}
    |false=>
     show Gc O {_,O,a,_,O,IN a5,_,O,ze c1 c2 (Th.sm (Sm.of a9) _ _<|Th.sm (Sm.of s1) _ _ hd)<|Th.sm (Sm.of s3) _ _ U,_,O,?_};rw[eB];cases he:wQ f.dfl with|true=>show CP {_,O,q0 (by rw[et,he];rfl) _ a9}|false=>show BW {(O),O,O}
   rintro σ' H4 ⟨hb,rfl,rfl⟩;rw[hb,A3m (λz=>by cases z)]at et;let e3: (AG " = ").length<=3:=⋯
   let fin:∀H',Bd H3 H'->Q (.str<|Mu b gs f++ " = " ++IR f.dfl) H':=λH' s'=>by
    rw[<-N8 (c:=c) F et];show q _<|(s1.trans a9).trans s'
   show{_,O,a,_,O,He a5,t,_,_,_,O,O,GK.of<|s3 _ _ ht,NU,O,_,O,?_};rcases a1 with⟨x,ek,e⟩|⟨nk,a1⟩
   ·rw[ek];rw[e]at fin
    show Gc O {_,O,zl 2,λl c3=>?_};let s4:=AZ (u:=.lst [.str " = no",.str " = yes"]) c3;let a3:∀{d:AO},d.length<=6->(Mu b gs f).length+d.length<=sizeLine:=λh=>Di<|AR (Ct a7 h) Aa;let h5:=fin _ s4;let hg:=IN<|s4 _ _ a5;rw[e]at hg;cases x with
    |true=>
     rw[FX,show " = " ++IR (.bl Z)=" = yes" by decide+kernel]at h5;show{_,O,a,_,O,hg,.inr {Z,O,l,_,_,_,O,O,BX.of Ax,dA,_,_,O,O,a3 (show(AG " = yes").length<=6 by decide+kernel),h5}}
    |false=>
     rw[FX,show " = " ++IR (.bl ge)=" = no" by decide+kernel]at h5;show{_,O,a,_,O,hg,.inr {ge,O,l,_,_,_,O,O,BX.of Ax,NU,_,_,O,O,a3 (show(AG " = no").length<=6 by decide+kernel),h5}}
   let nt:¬V.str f.kind.word=V.str "truth":=by cases c4:f.kind with|truth=>show A3p c4 nk|_=>show wX
   let c7:=FO a7 e3;let a3:∀{d:AO},d.length<=100->(Mu b gs f++ " = ").length+d.length<=sizeLine:=λh=>Di<|AR (Ct c7 h) Aa;show EN nt {_,O,_,_,O,O,Di<|AR (Ct a7 e3) Aa,_,O,a,_,O,IN a5,?_};rcases a1 with⟨_,z,e,hz⟩|⟨_,i,e,hi⟩ <;> rw[e]at fin ⊢;·show .inr {z,O,_,_,O,O,a3 hz,fin _<|Bd.refl _}
   show .inl {i,O,Il hi,_,_,O,O,a3<|AR (Oj hi) Aa,fin _<|Bd.refl _}
def Rw(hn:ys.length<=n)(h:∀y∈ys,y.length<=b)(z:n*b+n<=1000): (Str.join {#[32]} ys).length<=1000:=by
 let h1:=StrLaws.join_length_le {#[32]} ys;let h2:=UO h;let h3:ys.length*b<=n*b:=Nat.mul_le_mul_right _ hn;let j: (⟨#[32]⟩:AO).length=1:=rfl;rw[j]at h1
 lia
def NH(gs:List SG)(g:SG):Pg:={g.nam,g.choice,g.fields.map<|Jj gs,g.gone}
structure wJ(gs:List SG):Prop where
 nms:CN (gs.map (·.nam))
 len:gs.length<=8
 fs:∀g∈gs,∀f∈g.fields,f.kind.ok gs.length/\(1<=f.num/\f.num<=200)/\Xr f.nam/\dm f
 fl:∀g∈gs,g.fields.length<=10
 gl:∀g∈gs,g.gone.length<=10
 gb:∀g∈gs,∀n∈g.gone,1<=n/\n<=200
def yj{m n:Nat}(h:m<=n){k:Lk}(j:k.ok m):k.ok n:=by
 cases k with
 |form i=>show BK j h
 |list k=>
  rcases j with j|⟨i,e,hi⟩;·show .inl j
  show .inr {i,e,BK hi h}
 |_=>show j
def IW.gsOk{gs:List SG}{Ws:List Int}(h:IW gs Ws)(F:gs.length<=8):wJ gs:=by
 let at_:∀g∈gs,∃k,k<gs.length/\zT k (Ws.take k) g:=λg hg=>by
  let(k,D):=Cz.mp hg;show{k,(AQ.mp D).1,h.ok k g D}
 show{h.nms,F,λg hg f hf=>?_,λg hg=>?_,λg hg=>?_,λg hg n hn=>?_} <;> let(k,D,j):=at_ g hg;·let a:=j.fs f hf;show{yj (GL D) a.kind,j.nums.bd _<|Cu _ (AS.mpr {(f),hf,O}),j.nms.ok _<|AS.mpr {(f),hf,O},a.dfl.imp id λz=>{(z.1),z.2.2}}
 ·show j.len
 ·show AR j.gl Aa
 show j.nums.bd _<|BJ _ hn
def tL(h:wJ gs)(hg:g∈gs): (NH gs g).Ok:=by show{(h.nms.ok _<|AS.mpr {(g),hg,O}).1,λp hp=>?_,by change(g.fields.map _).length<=10;rw[Aw];show h.fl g hg,h.gl g hg,h.gb g hg};let(f,hf,O):=AS.mp hp;let(a,b,c,d):=h.fs g hg f hf;show w6 h.nms a b c.1 d
def DN(g:SG):AO:=(if g.choice then ("choice " :AO)else "record ") ++g.nam
def WS(ns:List Int):AO:="gone " ++Cj " " (ns.map toS)
def oQ(n:Int)(r:List AO):List AO:=r.drop (n%max 1 (r.length:Int)).toNat++r.take (n%max 1 (r.length:Int)).toNat
def KG(b:Bool)(gs:List SG)(g:SG):List AO:=g.fields.map<|Rt b g.choice gs
def VW(b:Bool)(gs:List SG)(g:SG):List AO:=KG b gs g++if b=ge/\g.gone≠[]then [WS g.gone]else []
def Gk(b:Bool)(n:Int)(gs:List SG)(g:SG):List AO:=if b=Z then oQ n (KG Z gs g++g.gone.map λm=>WS [m])else VW ge gs g
def BA(b:Bool)(n:Int)(gs:List SG):List AO:=(gs.map λg=>DN g::Gk b n gs g).flatten
def xP(n:Int)(r:List AO): (oQ n r).length=r.length:=by
 unfold oQ
 grind
def fq(b:Bool)(n:Int)(h:wJ gs)(hg:g∈gs): (Gk b n gs g).length<=20:=by
 let h1:=h.fl g hg;let h2:=h.gl g hg;unfold Gk;split
 ·rw[xP,AI,Aw];unfold KG
  grind
 unfold VW KG
 grind
def mS{j z:Type}{f:j->List z}{k:Nat}:∀{l:List j},(∀x∈l,(f x).length<=k)->(l.map f).flatten.length<=k*l.length:=by
 intro l;induction l with
 |nil=>show λ_=>BY _
 |cons x l D=>
  intro h;let h1:=h x<|Bl ..;let h2:=D λy F=>h y<|Bi _ F;rw[Ba,Ee,AI,BD,Nat.mul_succ]
  lia
def N0: ((Av:List AO) ++ (["_law_spec_here","_law_bit","_law_form"]:List AO)).Nodup:=⋯
def uw: ((["_law_mark"]:List AO) ++ ([]:List AO)).Nodup:=⋯
def Q4(ns:List Int):PyData.eqv (.list<|ns.map PyData.int) (.list [])=decide (ns=[]):=by cases ns <;> rfl
inductive kH(vs:List V)(H:Hp)(Q:VK):Prop|mk (sv gs b n:_) (_:vs=[sv,.int<|Ps b,.int n]) (_:0<=n) (_:QB H gs sv) (_:wJ gs) (_:dW H Q ((BA b n gs).map V.str))
def oo:Sp:=λvs H Q _=>kH vs H Q
def pr(T:Tx K mg):∅ 8 1086 Ao oo:=by
 let b2:=@uh P w K mg base T;show(T.df 50 O).okA Jv ?_;intro 1 hr h;let(sv,gs,b,n,O,h5,hs,hg,q):=h;let hu:=hr.units;let a3:=Ny hr;show⟨_,AW (qS 3 Jv.nd<|Ci FU) (AY (JN EC O (CY<|pv 0) (BQ (i:=4) Jv.nd O<|CV O) (AY (DG<|EA Bk BC BB Dp (pv 3) (CK<|Bb BO (MK (Ci<|Cv AE AE)<|qT Tb T.dD Xj (CK<|Cr a3 (pv 4) AE (λ_ _=>rfl))) (Cr a3 (pv 4) AE λ_ _=>rfl))) (AY (Nb (i:=5) (ts:=Av) (xs:=["_law_spec_here","_law_bit","_law_form"]) (js:=[0,1,4]) O {O,O,Ab,Ab,SV O} (.cons O (.inl O) O<|.cons O (.inl O) O (.cons O (.inl O) O .nil)) Ab (CY<|Cr a3 (pv 4) AE (λ_ _=>rfl)) (λC s_ H_ fp=>BQ (i:=0) N0 O (Cd O)<|CV O) (λC s_ H_ fp=>US) (λC s_ H_ fp=>qD b2 hr (T.d4 49 O λ_ _ _ _ _ _ _ _ _ _=>rfl)<|Bc (pv 0) (Bc (pv 1)<|Cv (pv 2) (Cr a3 (pv 3) AE λ_ _=>rfl)))
    Jv.nd O (Cd O) O)
    (AY (qi (PW.pt<|FT (qc Do (pv 1) AF) (Fu<|qc (Nf hu) (Cr a3 (pv 4) AE λ_ _=>rfl) (Ci FU)))<|Cc (DG<|EA Bk BC BB Dp (pv 5) (CK<|Bb BO AE (EA DC Hx Hw Rp AE<|CK (Re ["_law_mark"] [] [] .nil (CY<|Cr a3 (pv 4) AE (λ_ _=>rfl)) (λC s_ H_ fp=>BQ (i:=0) uw O (Cd O)<|CV O) λC s_ H_ fp=>qT Em T.KA Ia<|CK (pv 0))))))
    (AY (qi (qc Do (pv 1) AF)<|AY (qS 5 Jv.nd<|Bb DS (pv 5) (Re ["_law_mark"] [] [] .nil (CY<|Cr a3 (pv 4) AE (λ_ _=>rfl)) (λC s_ H_ fp=>BQ (i:=0) uw O (Cd O)<|CV O) λC s_ H_ fp=>Bb BO AE<|qT Em T.KA Ia (CK<|pv 0))) (AW (qS 6 Jv.nd<|Bb CD (pv 2) (qB (Ta O) T.rE kj<|Cv AF (qB BU T.Ey Ds<|CK (pv 5))))<|Cc (qS 5 Jv.nd<|Bb DS (DE HQ (pv 5) (Ej<|pv 6) Ek) (DE HQ (pv 5) Ek<|Ej (pv 6)))))
    (Cc<|qS 3 Jv.nd (Bb DS (pv 3)<|pv 5)))))))
  (qr<|pv 3)),?_⟩
 let f2:=hs;let(l,as,O,hl,hp):=f2;let d3:=hp.length;show{zl 0,λL0 a7=>?_};let s0:=AZ (u:=.lst []) a7;show BV (λσ' H'=>∃L v4 v5 v6,σ'=[Y (.ref l),Y<|.int (Ps b),Y<|.int n,Y<|.ref L,v4,v5,v6]/\H L=S/\Bd H H'/\H' L=Y (.lst<|(BA b n gs).map V.str)) ?_ ?_
 ·show{_,O,l,O,{_,BX.of<|s0 _ _ hl},?_};show OF (xs:=as.map V.ref) (λi σ' H'=>∃L v4 v5 v6,σ'=[Y (.ref l),Y<|.int (Ps b),Y<|.int n,Y<|.ref L,v4,v5,v6]/\H L=S/\Bd H H'/\H' L=Y (.lst<|((gs.take i).map λg=>DN g::Gk b n gs g).flatten.map V.str)) {(L0),_,_,_,O,a7,s0,Ax} (λi σ' H' _ h=>by let(_,_,_,_,_,_,s',_):=h;show BX.of<|s' _ _ hl) (λi x σ' H1 hx h=>?_) λσ' H' h=>?_
  ·have(L,v4,v5,v6,O,e0,s1,hL):=h;rw[Be]at hx;let(a,g1,O):=Ce.mp hx;let(g,d5,hA):=Gf hp i a g1;let U:=AL d5;have(a',gl,fl,fs,ea,b1,hgl,d7,c5):=id hA;cases ea;let d6: (((gs.take i).map λg=>DN g::Gk b n gs g).flatten).length<=200:=by
    have:=mS (f:=λg=>DN g::Gk b n gs g) (k:=21) (l:=gs.take i) λx hx=>Ko<|fq b n hg (Cg hx);rw[BG]at this;let h8:=hg.len
    lia
   let tk: ((gs.take<|i+1).map λg=>DN g::Gk b n gs g).flatten=((gs.take i).map λg=>DN g::Gk b n gs g).flatten++ (DN g::Gk b n gs g):=by rw[Gr,d5];simp
   rw[tk];generalize ((gs.take i).map λg=>DN g::Gk b n gs g).flatten=pre at hL d6;let f6:=Er (tL hg U).nam;let hsl: (if g.choice then ("choice " :AO)else "record ").length<=7:=by cases g.choice <;> decide+kernel
   show BV (λσ' H2=>σ'=[Y (.ref l),Y<|.int (Ps b),Y<|.int n,Y<|.ref L,Y<|.ref a,v5,v6]/\Bd H H2/\H2 L=Y (.lst<|(pre++[DN g]).map V.str)) ?_ ?_
   ·show{_,O,.inl {O,_,BX.of hL},zl 2,λt ht=>?_};let s2:=AZ (u:=.lst [.str "record ",.str "choice "]) ht;let b6:=s2 _ _<|s1 _ _ b1;let g0:Yn [V.str "record ",V.str "choice "] (if g.choice then 1 else 0)=Y (.str<|if g.choice then "choice " else "record "):=by
     cases g.choice;·show NU
     show dA
    show{_,O,a,_,O,FG b6,.inr {g.choice,O,t,_,_,_,O,O,BX.of Ax,g0,_,O,a,_,O,Io b6,_,_,O,O,Di<|AR (Ct hsl f6) Aa,L,_,_,O,O,s2 _ _ hL,?_,O,(s1.trans s2).put e0,?_}};·rw[Aw];show DM ()
    rw[Ax,<-UV _ [_]];rfl
   rintro σ' H2 ⟨rfl,s2,d9⟩;let c6:=hg.fl g U;let c4:=hg.gl g U;show BV (λσ' H3=>∃R,σ'=[Y (.ref l),Y<|.int (Ps b),Y<|.int n,Y<|.ref L,Y<|.ref a,Y<|.ref R,v6]/\H R=S/\L≠R/\Bd H H3/\H3 L=Y (.lst<|(pre++[DN g]).map V.str)/\H3 R=Y (.lst<|(KG b gs g).map V.str)) ?_ ?_
   ·show{_,O,a,_,O,Gy<|s2 _ _ b1,fl,O,{_,BX.of<|s2 _ _ d7},IU (l:=g.fields) (Wk.list<|BX.of (s2 _ _ d7)) c5.length (by rw[<-c5.length];lia) (λf=>.str<|Rt b g.choice gs f) (λj f x hf hx H3 R s3 hR=>?_) λD H3 hD s3 e3=>?_}
    ·let(k1,k2,k3,k4):=hg.fs g U f<|AL hf;show{Sub.set O,_,O,_,O,_,O,_,O,a,_,O,FG<|(s2.trans s3) _ _ b1,x,_,gs,f,b,g.choice,O,(SE c5 j f x hf hx).sm<|Sm.of (s2.trans s3),hs.sm<|Sm.of (s2.trans s3),hg.nms,k1,k2,k3,k4,hR}
    show{D,O,s2.free hD,Bp d9 hD,s2.trans s3,s3 _ _ d9,?_};rw[e3];unfold KG;rw[AX];rfl
   rintro σ' H3 ⟨R,rfl,g2,e9,s3,d1,a4⟩;let b5:=s3 _ _ b1;let b4:=s3 _ _ hgl;let h3: (KG b gs g).length<=10:=by unfold KG;rw[Aw];show c6
   show BV (λσ' H4=>σ'=[Y (.ref l),Y<|.int (Ps b),Y<|.int n,Y<|.ref L,Y<|.ref a,Y<|.ref R,v6]/\Bd H H4/\H4 L=Y (.lst<|(pre++[DN g]).map V.str)/\H4 R=Y (.lst<|(VW b gs g).map V.str)) ?_ ?_
   ·unfold VW;show{_,O,O,_,O,?_};cases b with
    |true=>
     show EN (λz=>by cases z)<|BW {O,s3,d1,?_};rw[A3m (λz=>by cases z.1),BE];show a4
    |false=>
     show Gc O {_,O,a,_,O,Lx b5,zl 0,λt ht=>?_};let s4:=AZ (u:=.lst []) ht;show{_,_,.lst (BX.of<|s4 _ _ b4)<|Xg g.gone,.lst (BX.of Ax) .nil,shaped_ints g.gone,shaped_ints [],_,O,?_};rw[Q4];by_cases he:g.gone=[];·show WN he {O,s3.trans s4,s4 _ _ d1,?_};rw[A3m (λz=>z.2 he),BE];show s4 _ _ a4
     let b0:=s4 _ _ b5;let a1:=s4 _ _ b4;show jR he {_,O,.inl {O,_,BX.of<|s4 _ _ a4},O,_,O,a,_,O,Lx b0,gl,O,{_,BX.of a1},IU (l:=g.gone) (Wk.list<|BX.of a1) (Aw ..).symm (by rw[Aw];lia) (λn=>.str<|toS n) (λj m x hm hx H5 R' s5 c8=>?_) λD H5 hD s5 e5=>?_};·rw[Be,hm]at hx;cases hx;have:=hg.gb g U m<|AL hm;show{Sub.set O,_,O,m,O,Il (),c8 _<|Bd.refl _}
     let d2:∀y∈g.gone.map toS,y.length<=3:=λy hy=>by
      let(m,hm,O):=AS.mp hy;show Gw<|hg.gb g U m hm
     let b9:=s4.trans s5;let f8: (Cj " "<|g.gone.map toS).length<=1000:=by rw[IG];show Rw (n:=10) (b:=3) (by rw[Aw];show c4) d2 Aa
     show{" ",D,g.gone.map toS,O,O,BX.of (by rw[e5,AX];rfl),Rx (by rw[Aw];lia) (λy hy=>AR (d2 y hy) Aa) Ab,_,_,O,O,V1 (AR (Ct (show(AG "gone ").length<=5 by decide+kernel) f8) Aa),R,_,_,O,O,b9 _ _ a4,?_,O,(s3.trans b9).put g2,?_,?_};·rw[Aw];show DM ()
     ·rw[AT e9];show b9 _ _ d1
     rw[Ax,A3n {(O),he},<-UV _ [_]];rfl
   rintro σ' H4 ⟨rfl,s4,d0,c7⟩;show BV (λσ' H5=>∃R v6,σ'=[Y (.ref l),Y<|.int (Ps b),Y<|.int n,Y<|.ref L,Y<|.ref a,Y<|.ref R,v6]/\Bd H H5/\H5 L=Y (.lst<|(pre++[DN g]).map V.str)/\H5 R=Y (.lst<|(Gk b n gs g).map V.str)) ?_ ?_
   ·show{_,O,O,_,O,?_};cases b with
    |false=>show EN (λz=>by cases z) {(R),_,O,s4,d0,c7}
    |true=>
     show Gc O ?_;let b0:=s4 _ _ b1;let a1:=s4 _ _ hgl;let eC:VW Z gs g=KG Z gs g:=by unfold VW;rw[A3m (λz=>by cases z.1),BE]
     rw[eC]at c7;let f9: (AG "gone ").length<=5:=⋯
     show BV (λσ' H5=>∃R,σ'=[Y (.ref l),Y<|.int 1,Y<|.int n,Y<|.ref L,Y<|.ref a,Y<|.ref R,v6]/\Bd H H5/\H5 L=Y (.lst<|(pre++[DN g]).map V.str)/\H5 R=Y (.lst<|(KG Z gs g++g.gone.map λm=>WS [m]).map V.str)) ?_ ?_
     ·show{_,O,_,O,a,_,O,Lx b0,gl,O,{_,BX.of a1},IU (l:=g.gone) (Wk.list<|BX.of a1) (Aw ..).symm (by rw[Aw];lia) (λm=>.str<|"gone " ++toS m) (λj m x hm hx H5 R' s5 c8=>?_) λD H5 hD s5 e5=>?_}
      ·rw[Be,hm]at hx;cases hx;have:=hg.gb g U m<|AL hm;show{Sub.set O,_,O,m,O,Il (),_,_,O,O,Di<|AR (Ct f9<|Gw this) Aa,c8 _<|Bd.refl _}
      show{R,D,_,_,O,O,s5 _ _ c7,e5,?_,λR2 d8=>{R2,O,(s4.trans s5).trans<|AZ d8,?_,?_}};·rw[Aw,Aw];show Di ()
      ·rw[AT (Bp (s5 _ _ d0) d8)];show s5 _ _ d0
      rw[Ax,Bh,AX];rfl
     rintro σ' H5 ⟨R2,rfl,s5,c9,a6⟩;let c3: (KG Z gs g++g.gone.map λm=>WS [m]).length<=20:=by grind
     let eB:Gk Z n gs g=oQ n (KG Z gs g++g.gone.map λm=>WS [m]):=by unfold Gk;rw[A3n O]
     rw[eB];generalize (KG Z gs g++g.gone.map λm=>WS [m])=rs at a6 c3;let f7: (if ((rs.map V.str).length:Int) >1 then ((rs.map V.str).length:Int)else 1)=max 1 (rs.length:Int):=by grind
     show{_,O,_,O,R2,_,O,.inl<|BX.of a6,1,_,O,?_};rw[f7];let hpos:0<max 1 (rs.length:Int):=()
     let h4:0<=n%max 1 (rs.length:Int):=FQ _ ();let hk:n%max 1 (rs.length:Int)=((n%max 1 (rs.length:Int)).toNat:Int):=()
     show{n,_,O,O,hpos,?_};show{_,O,_,O,_,O,R2,_,O,BX.of a6,λp1 f5=>?_};let t1:=AZ (u:=.lst<|IT (rs.map V.str) (Y<|n%max 1 (rs.length:Int)) S) f5;show{_,O,_,O,_,O,R2,_,O,BX.of<|t1 _ _ a6,λp2 f4=>?_};let t2:=AZ (u:=.lst<|IT (rs.map V.str) S (Y<|n%max 1 (rs.length:Int))) f4;show{p1,p2,_,_,O,O,t2 _ _ Ax,Ax,?_,λR3 a4=>{R3,_,O,((s5.trans t1).trans t2).trans<|AZ a4,?_,?_}};·let c1:=Gh (rs.map V.str) (Y<|n%max 1 (rs.length:Int)) S;let c2:=Gh (rs.map V.str) S<|Y (n%max 1 (rs.length:Int));rw[Aw]at c1 c2;show Di ()
     ·have:=t2 _ _<|t1 _ _ c9;rw[AT (Bp this a4)];show this
     rw[Ax,Jz hk,OI hk,<-Hi,<-Kz,<-Bh];rfl
   rintro σ' H5 ⟨R2,g8,rfl,s5,c9,a6⟩;show{_,O,_,O,L,R2,_,_,O,O,c9,a6,?_,λL3 b7=>{L3,_,_,_,O,s5.free b7,s5.trans<|AZ b7,?_}};·have:=fq b n hg U;rw[Aw,Aw,AI];show Di (by rw[FF];lia)
   rw[Ax,<-Bh,BS];rfl
  let(L,v4,v5,v6,O,a7,s1,hL):=h;rw[Aw,<-d3,Fk]at hL;show{(L),v4,v5,v6,O,a7,s1,hL}
 rintro σ' H1 ⟨L,v4,v5,v6,rfl,a7,s1,hL⟩;show{_,O,q L H1 a7 s1 hL}
def Ov(h:n.natAbs<2 ^ 256):El (toS n)=Y n:=by
 let e:=yo h;rw[Wt]at e
 grind
def HV(h:ys≠[])(hw:∀y∈ys,Wd y):Gz (Cj " " ys)=Y ys:=by
 let e:HS (Cj " " ys) " "=ys:=by rw[IG,vN];show iO h λy j=>(hw y j).2
 unfold Gz;rw[e,A3m λz=>(hw _ z).1 O]
def dZ{b:Bool}{k:Kx}(j:k.good)(hf:k.flat=Z){rest:List AO}(F:El (rest.getD 0 "")=S):Hn ((De b k++rest).getD 0 "") ((De b k++rest).getD 1 "")=Y (k,(De b k).length):=by
 cases k with
 |truth=>rfl|count=>rfl|whole=>rfl
 |upto d=>
  let(n,O,h1,h2):=j;change(El<|toS n).map (λn=>(Kx.upto<|.int n,2))=_;rw[Ov ()];rfl
 |text d=>
  let(n,O,h1,h2):=j;unfold De;split;·rename_i h;change Y (match El (rest.getD 0 "")with|some n=>(Kx.text<|.int n,2)|none=>(Kx.text<|.int 100,1))=_;rw[F,h.1];rfl
  change Y (match El (toS n)with|some n=>(Kx.text<|.int n,2)|none=>(Kx.text<|.int 100,1))=_;rw[Ov ()];rfl
 |form d=>
  let(z,O,D):=j;change(if Co z=Z then Y (Kx.form<|.str z,2)else S)=_
  rw[A3n D];rfl
 |list k=>cases hf|bare=>show j.elim|thing d=>show j.elim
def iZ{a b:AO}(h:decide (a=b)=false:=by kernel_rfl):¬a=b:=of_decide_eq_false h
def yW{b:Bool}{k:Kx}(j:k.good)(hf:k.flat=Z)(rest:List AO):¬ (De b k++rest).getD 0 ""="list":=by
 cases k with
 |truth=>show iZ|count=>show iZ|whole=>show iZ|upto d=>let(n,O,_):=j;show iZ
 |text d=>
  let(n,O,_):=j;unfold De;split <;> show iZ
 |form d=>let(n,O,_):=j;show iZ|list k=>cases hf|bare=>show j.elim|thing d=>show j.elim
def yF{b:Bool}{k:Kx}(z:k.good){x y:AO}{rest:List AO}(D:El (rest.getD 0 "")=S):HZ ([x,y] ++ (De b k++rest)) 2=Y (k,(De b k).length):=by
 by_cases F:∃j,k= .list j;·let(j,O):=F;change(Hn ((De b j++rest).getD 0 "")<|(De b j++rest).getD 1 "").map (λx=>(Kx.list x.1,x.2+1))=_;rw[dZ z.2 z.1 D];rfl
 let hf:k.flat=true:=by cases k with|list j=>show A3p {(j),O} F|_=>rfl
 show(A3m<|yW (b:=b) z hf rest).trans (dZ z hf D)
def rY(b c:Bool)(f:SF):El ((HA b c f).getD 0 "")=none:=by
 unfold HA;split;·decide+kernel
 split;·rfl
 split;·rfl
 change El "="=S;decide+kernel
def qo(F:k.ok n)(h:RP k d\/(d=DA k/\mx k=ge/\rp d=ge)):IS (Fb gs k) (IR d)=Y d:=by
 let num:∀{i:Int},i.natAbs<2 ^ 256->(El<|toS i).map Dt.int=Y (.int i):=λh=>by rw[Ov h];rfl
 cases k with
 |truth=>
  rcases h with e|⟨e,_⟩;·rw[show d= .bl Z from e];show(show JK "yes"=Y (.bl Z)from O)
  rw[show d= .bl ge from e];show(show JK "no"=Y (.bl ge)from O)
 |text m=>
  rcases h with⟨z,rfl,D,_⟩|⟨e,_,h⟩
  ·change(if Co z=Z then Y (Dt.str z)else S)=_
   rw[A3n D]
  rw[show d= .str "" from e]at h;cases h
 |upto m=>
  let(_,h2):=(show(1:Int)<=m/\m<=2 ^ 64 from F);rcases h with⟨i,rfl,h0,h1⟩|⟨e,_⟩;·show num ()
  rw[show d= .int 0 from e];show num Aa
 |whole=>
  rcases h with⟨i,rfl,h0,h1⟩|⟨e,_⟩;·show num ()
  rw[show d= .int 0 from e];show num Aa
 |count=>
  rcases h with⟨i,rfl,h0,h1⟩|⟨e,_⟩;·show num ()
  rw[show d= .int 0 from e];show num Aa
 |form i=>
  rcases h with h|⟨_,h,_⟩;·show h.elim
  cases h
 |list j=>
  rcases h with h|⟨_,h,_⟩;·show h.elim
  cases h
def Xm(U:mx k=ge)(h:RP k d)(D:wQ d=Z):d=DA k:=by cases k with|truth=>rw[show d= .bl Z from h]at D;cases D|text m=>let(z,O,F,_):=h;rw[A3l D];rfl|upto m=>let(i,O,_):=h;rw[A3l D];rfl|whole=>let(i,O,_):=h;rw[A3l D];rfl|count=>let(i,O,_):=h;rw[A3l D];rfl|form i=>show h.elim|list j=>show h.elim
def vo(h:RP k d)(D:rp d=Z):False:=by cases k with|truth=>rw[show d= .bl Z from h]at D;cases D|text m=>let(z,O,F,_):=h;rw[A3l D]at F;show A3p F Ab|upto m=>let(i,O,_):=h;cases D|whole=>let(i,O,_):=h;cases D|count=>let(i,O,_):=h;cases D|form i=>show h.elim|list j=>show h.elim
def tE(hn:CN (gs.map (·.nam)))(hk:f.kind.ok gs.length)(h1:1<=f.num/\f.num<=200)(hnm:Co f.nam=Z)(hd:dm f)(hc:c=Z->f.must=ge/\f.dfl=DA f.kind):Dj (Rb b c gs f) c=Y (Jj gs f):=by
 let e2:HZ (Rb b c gs f) 2=Y (Fb gs f.kind,(De b<|Fb gs f.kind).length):=by unfold Rb;rw[BS];show yF (Kl hn hk)<|rY b c f
 let e3: (Rb b c gs f).drop (2+ (De b<|Fb gs f.kind).length)=HA b c f:=List.drop_left' (by rw[AI];rfl);let e0:El ((Rb b c gs f).getD 0 "")=Y f.num:=Ov (n:=f.num) ();let e1: (Rb b c gs f).getD 1 ""=f.nam:=rfl;unfold Dj;rw[e0,e1,e2]
 dsimp only
 rw[A3n hnm,e3];let bk:f.must=ge->f.dfl=DA f.kind->(Y ⟨f.num,f.nam,Fb gs f.kind,ge,Et<|Fb gs f.kind⟩:Option Pf)=Y (Jj gs f):=λhm D=>by
  unfold Jj;rw[hm,D,Xl]
 let t0:f.must=ge->f.dfl=DA f.kind->tailIn f.num f.nam (Fb gs f.kind) [] c=Y (Jj gs f):=λhm D=>(A3n O).trans<|bk hm D;cases hm:f.must with
 |true=>
  let a2:c=false:=by simp_all
  let D:f.dfl=DA f.kind:=hd.resolve_right λz=>by rw[hm]at z;cases z.1
  let U:HA b c f=(["must"]:List AO):=A3n hm;rw[U,a2];show(A3m<|Cy _ _).trans ((A3m Bm).trans<|(A3n O).trans ?_);unfold Jj;rw[hm,D,Xl]
 |false=>
  let F:¬f.must=true:=by rw[hm];show Bm
  by_cases h2: (mx f.kind|| (c||rp f.dfl))=Z
  ·let U:HA b c f=[]:=(A3m F).trans<|A3n h2;rw[U];show t0 hm ?_;rcases hd with D|⟨_,hl⟩
   ·show D
   rw[Qj,Qj]at h2;rcases h2 with h2|h2|h2;·rcases jO h2 with⟨j,e⟩|⟨j,e⟩ <;> (rw[e]at hl;show hl.elim)
   ·simp_all
   show(vo hl h2).elim
  by_cases h3: (!b&&wQ f.dfl)=Z
  ·let U:HA b c f=[]:=(A3m F).trans<|(A3m h2).trans (A3n h3);rw[Fo,EK,EK]at h2;rw[U];show t0 hm ?_;rcases hd with D|⟨_,hl⟩
   ·show D
   show Xm h2.1 hl (Db.mp h3).2
  let U:HA b c f=(["=",IR f.dfl]:List AO):=(A3m F).trans<|(A3m h2).trans (A3m h3);rw[Fo,EK,EK]at h2;let(g1,g2,g3):=h2;rw[U,g2];show(A3m<|Cy _ _).trans ((A3m Bm).trans<|(A3m λz=>by have:=A3o Jg z;cases this).trans ((A3n {(O),O}).trans ?_));change(IS (Fb gs f.kind)<|IR f.dfl).map _=_;rw[qo hk (hd.elim (λD=>.inr {(D),g1,g3}) λz=>.inl z.2)];unfold Jj;rw[hm];rfl
structure Wo(y:AO):Prop where
 wd:Wd y
 len:y.length<=100
 ok:BF y=Z
def OX(h:Co z=Z):Wo z:={ly h,AR (Er h) Aa,sO h}
def JJ(h:n.natAbs<2 ^ 256):Wo (toS n):={E5 n,AR (Oj h) Aa,eS _}
def GV(h:Wo s):∀y∈ [s],Wo y:=λy j=>by rw[AN.mp j];show h
def GG(h:Wo s)(h2:∀y∈r,Wo y):∀y∈s::r,Wo y:=λy j=>by
 grind
def iE{a b:List AO}(h:∀y∈a,Wo y)(h2:∀y∈b,Wo y):∀y∈a++b,Wo y:=λy j=>(Bt.mp j).elim (h y)<|h2 y
def Oe:Wo "truth":={{(Ab),Ab},Ab,Ab}
def rP:Wo "count":={{(Ab),Ab},Ab,Ab}
def rN:Wo "whole":={{(Ab),Ab},Ab,Ab}
def wS:Wo "upto":={{(Ab),Ab},Ab,Ab}
def lr:Wo "text":={{(Ab),Ab},Ab,Ab}
def lx:Wo "form":={{(Ab),Ab},Ab,Ab}
def lu:Wo "list":={{(Ab),Ab},Ab,Ab}
def wU:Wo "must":={{(Ab),Ab},Ab,Ab}
def W8:Wo "=":={{(Ab),Ab},Ab,Ab}
def E3:Wo "yes":={{(Ab),Ab},Ab,Ab}
def W7:Wo "no":={{(Ab),Ab},Ab,Ab}
def lw:Wo "gone":={{(Ab),Ab},Ab,Ab}
def nO:Wo "record":={{(Ab),Ab},Ab,Ab}
def nP:Wo "choice":={{(Ab),Ab},Ab,Ab}
def rM:∀{k:Kx},k.good->∀y∈De b k,Wo y:=by
 intro k;induction k with
 |truth=>show λ_=>GV Oe|count=>show λ_=>GV rP|whole=>show λ_=>GV rN|upto d=>rintro⟨n,rfl,h1,h2⟩;show GG wS (GV<|JJ ())
 |text d=>
  rintro⟨n,rfl,h1,h2⟩;unfold De;split;·show GV lr
  show GG lr (GV<|JJ ())
 |form d=>rintro⟨z,rfl,h⟩;show GG lx<|GV (OX h)
 |list k D=>show λj=>GG lu<|D j.2|bare=>show λj=>j.elim|thing d=>show λj=>j.elim
def E4(F:k.ok n)(h:RP k d\/(d=DA k/\mx k=ge/\rp d=ge)):Wo (IR d):=by
 cases k with
 |truth=>
  rcases h with e|⟨e,_⟩;·rw[show d= .bl Z from e];show E3
  rw[show d= .bl ge from e];show W7
 |text m=>
  rcases h with⟨z,rfl,D,_⟩|⟨e,_,h⟩;·show OX D
  rw[show d= .str "" from e]at h;cases h
 |upto m=>
  let(_,h2):=(show(1:Int)<=m/\m<=2 ^ 64 from F);rcases h with⟨i,rfl,h0,h1⟩|⟨e,_⟩;·show JJ ()
  rw[show d= .int 0 from e];show JJ Aa
 |whole=>
  rcases h with⟨i,rfl,h0,h1⟩|⟨e,_⟩;·show JJ ()
  rw[show d= .int 0 from e];show JJ Aa
 |count=>
  rcases h with⟨i,rfl,h0,h1⟩|⟨e,_⟩;·show JJ ()
  rw[show d= .int 0 from e];show JJ Aa
 |form i=>
  rcases h with h|⟨_,h,_⟩;·show h.elim
  cases h
 |list j=>
  rcases h with h|⟨_,h,_⟩;·show h.elim
  cases h
def wT(j:f.kind.ok n)(hd:dm f):∀y∈HA b c f,Wo y:=by
 unfold HA;split;·show GV wU
 split;·simp
 split;·simp
 rename_i h1 h2 h3;rw[Fo,EK,EK]at h2;let(g1,g2,g3):=h2;show GG W8<|GV (E4 j<|hd.elim (λD=>.inr {(D),g1,g3}) λz=>.inl z.2)
def rZ(b c:Bool)(f:SF): (HA b c f).length<=2:=by
 unfold HA
 grind
inductive It where
 |fld (f:SF)|gn (ns:List Int)
def It.words(b c:Bool)(gs:List SG):It->List AO|.fld f=>Rb b c gs f|.gn ns=>"gone" ::ns.map toS
def It.line(b c:Bool)(gs:List SG)(i:It):AO:=Cj " "<|i.words b c gs
def It.add(gs:List SG)(g:Pg):It->Pg|.fld f=>{g with fields:=g.fields++[Jj gs f]}|.gn ns=>{g with gone:=g.gone++ns}
def It.Ok(c:Bool)(gs:List SG):It->Prop|.fld f=>f.kind.ok gs.length/\(1<=f.num/\f.num<=200)/\Xr f.nam/\dm f/\(c=Z->f.must=ge/\f.dfl=DA f.kind)|.gn ns=>ns≠[]/\ns.length<=4/\∀n∈ns,1<=n/\n<=200
def It.wo{b c:Bool}{gs:List SG}{i:It}(hn:CN (gs.map (·.nam)))(h:i.Ok c gs):∀y∈i.words b c gs,Wo y:=by
 cases i with
 |fld f=>
  let(h1,h2,h3,z,D):=h;show iE (iE (GG (JJ<|())<|GV (OX h3.1))<|rM (Kl hn h1))<|wT h1 z
 |gn ns=>
  let(_,_,h):=h;show GG lw λy j=>?_;let(m,hm,O):=AS.mp j;have:=h m hm;show JJ ()
def It.ne(i:It):i.words b c gs≠[]:=by cases i <;> show Cy _ _
def It.len{b c:Bool}{gs:List SG}{i:It}(hn:CN (gs.map (·.nam)))(h:i.Ok c gs): (i.words b c gs).length<=7:=by
 cases i with
 |fld f=>
  let h1:=(Qm (b:=b)<|Kl hn h.1).1;let h2:=rZ b c f;change(([toS f.num,f.nam] ++De b (Fb gs f.kind)) ++HA b c f).length<=7
  grind
 |gn ns=>
  let(_,h,_):=h;change(ns.map toS).length+1<=7
  grind
def pT(ns:List Int)(h:ns≠[]):OD (ns.map Y)=Y ns:=by
 unfold OD
 simp_all
def SJ(h:n.natAbs<2 ^ 256)(j:El z=S):¬toS n=z:=λe=>by
 have:=Ov h
 grind
def It.takes{b c:Bool}{gs:List SG}{i:It}(hn:CN (gs.map (·.nam)))(h:i.Ok c gs){g:Pg}(hc:g.choice=c):Df g (i.words b c gs)=Y (i.add gs g):=by
 cases i with
 |fld f=>
  let(h1,h2,h3,z,j):=h;show(A3m<|SJ () Ab).trans ?_;subst hc;change(Dj (Rb b g.choice gs f) g.choice).map _=_;rw[tE hn h1 h2 h3.1 z j];rfl
 |gn ns=>
  show(A3n O).trans ?_;change(OD<|(ns.map toS).map El).map _=_;rw[AX,show ns.map (El∘ toS)=ns.map Y from Cm λm hm=>by
   have:=h.2.2 m hm;show Ov (n:=m) (),pT ns h.1]
  rfl
def It.reads{b c:Bool}{gs:List SG}{i:It}(hn:CN (gs.map (·.nam)))(h:i.Ok c gs){ini:List Pg}{g:Pg}(hc:g.choice=c):Cp ini (Y g) (.txt<|i.line b c gs)=Y (ini,Y<|i.add gs g):=by
 let e:Ez (.txt<|i.line b c gs)=Y (i.words b c gs):=HV (i.ne) λy j=>(It.wo hn h y j).wd;unfold Cp;rw[e]
 dsimp only
 let h0:¬ (i.words b c gs).getD 0 ""="record" /\¬ (i.words b c gs).getD 0 ""="choice":=by cases i with|fld f=>show{SJ (by have:=h.2.1;lia) Ab,SJ (by have:=h.2.1;lia) Ab}|gn ns=>show{(iZ),iZ}
 rw[A3n h0,It.takes hn h hc];rfl
def SR(g:SG):DN g=Cj " " [(if g.choice then ("choice" :AO)else "record"),g.nam]:=by
 rw[EV,IL];unfold DN;cases g.choice;·rfl
 rfl
def mK{g:SG}(h:Co g.nam=Z):∀y∈ [(if g.choice then ("choice" :AO)else "record"),g.nam],Wo y:=by
 show GG ?_<|GV (OX h);cases g.choice
 ·show nO
 show nP
def Nk(h:Co g.nam=Z):Ez (.txt<|DN g)=Y [(if g.choice then ("choice" :AO)else "record"),g.nam]:=by rw[SR];show HV (Cy _ _) λy j=>(mK h y j).wd
def WR(h:Co g.nam=Z)(ini:List Pg)(o:Option Pg):Cp ini o (.txt<|DN g)=Y (ini++o.toList,Y {g.nam,g.choice,[],[]}):=by
 unfold Cp;rw[Nk h]
 dsimp only
 cases hc:g.choice;·show(A3m λz=>z.1 O).trans ((A3n {(O),h}).trans O)
 simp_all
def ED:List Ln->List Pg->Option Pg->Option (List Pg×Option Pg)
 |[],i,o=>Y (i,o)
 |l::r,i,o=>match Cp i o l with
  |none=>S|some x=>ED r x.1 x.2
def Kg(h:Cp i o l=Y x):ED (l::r) i o=ED r x.1 x.2:=by rw[ED,h]
def Qo:∀{a:List Ln} {i:List Pg} {o:Option Pg},ED a i o=Y s->ED (a++b) i o=ED b s.1 s.2
 |[],i,o,h=>by cases h;rfl
 |l::r,i,o,h=>by
  cases j:Cp i o l with
  |none=>unfold ED at h;rw[j]at h;cases h
  |some x=>
   rw[Kg j]at h;rw[Gu,Kg j];show Qo h
def sk:∀{a:List Ln} {i:List Pg} {o:Option Pg},ED (a++b) i o=Y s->∃s',ED a i o=Y s'
 |[],i,o,_=>{(_),O}
 |l::r,i,o,h=>by
  cases j:Cp i o l with
  |none=>rw[Gu]at h;unfold ED at h;rw[j]at h;cases h
  |some x=>
   rw[Gu,Kg j]at h;rw[Kg j];show sk h
def Wa:∀{a:List Ln} {p:Nat} {i:List Pg} {o:Option Pg},ED a i o=Y s->DI (a++b) p i o=DI b (p+a.length) s.1 s.2
 |[],p,i,o,h=>by cases h;rfl
 |l::r,p,i,o,h=>by
  cases j:Cp i o l with
  |none=>unfold ED at h;rw[j]at h;cases h
  |some x=>
   rw[Kg j]at h;rw[Gu,SD j,Wa h,BD,Nat.add_assoc,XX 1]
def fy(h:ED a i o=Y s):DI a p i o= .inr (s.1++s.2.toList):=by have:=Wa (b:=[]) (p:=p) h;rw[BE]at this;show this
def VZ(h:ED a i o=Y s)(j:Cp s.1 s.2 l=S):DI (a++l::r) p i o= .inl (p+a.length):=by rw[Wa h,Pc j]
def It.fl:It->Option SF|.fld f=>Y f|.gn _=>S
def It.gn':It->List Int|.fld _=>[]|.gn ns=>ns
def Ip(l:List It):List SF:=l.filterMap It.fl
def IM(l:List It):List Int:=(l.map It.gn').flatten
def ky(gs:List SG)(p:Pg)(l:List It):Pg:={p with fields:=p.fields++ (Ip l).map (Jj gs),gone:=p.gone++IM l}
def vY(gs:List SG)(p:Pg):ky gs p []=p:=by unfold ky;rw[show Ip []=[]from O,show IM []=[]from O,EE,BE,BE]
def qH(gs:List SG)(p:Pg)(i:It)(l:List It):ky gs (i.add gs p) l=ky gs p (i::l):=by
 cases i with
 |fld f=>
  change({p.nam,p.choice,(p.fields++[Jj gs f]) ++ (Ip l).map (Jj gs),p.gone++IM l}:Pg)={p.nam,p.choice,p.fields++ (Jj gs f:: (Ip l).map (Jj gs)),p.gone++IM l};simp
 |gn ns=>
  change({p.nam,p.choice,p.fields++ (Ip l).map (Jj gs),(p.gone++ns) ++IM l}:Pg)={p.nam,p.choice,p.fields++ (Ip l).map (Jj gs),p.gone++ (ns++IM l)};simp
def N7(b c:Bool)(gs:List SG)(l:List It):List Ln:=l.map λi=>.txt<|i.line b c gs
def Vz(hn:CN (gs.map (·.nam)))(ini:List Pg):∀{l:List It} {p:Pg},(∀i∈l,i.Ok c gs)->p.choice=c->ED (N7 b c gs l) ini (Y p)=Y (ini,Y<|ky gs p l)
 |[],p,_,_=>by rw[vY];rfl
 |i::l,p,h,hc=>by
  change ED (.txt (i.line b c gs)::N7 b c gs l) ini (Y p)=_;rw[Kg (It.reads hn (h i<|Bl ..) hc),<-qH];show Vz hn ini (λj z=>h j<|Bi _ z) (by cases i <;> show hc)
abbrev Jl:=SG×List It
def M5(g:SG):Pg:={g.nam,g.choice,[],[]}
def Jl.lns(b:Bool)(gs:List SG)(x:Jl):List Ln:=.txt (DN x.1)::N7 b x.1.choice gs x.2
def Jl.pg(gs:List SG)(x:Jl):Pg:=ky gs (M5 x.1) x.2
def Jl.Ok(gs:List SG)(x:Jl):Prop:=Co x.1.nam=Z/\∀i∈x.2,i.Ok x.1.choice gs
def I0{b:Bool}{gs:List SG}(hn:CN (gs.map (·.nam))){x:Jl}(h:x.Ok gs)(ini:List Pg)(o:Option Pg):ED (x.lns b gs) ini o=Y (ini++o.toList,Y<|x.pg gs):=by unfold Jl.lns;rw[Kg (WR h.1 ini o)];show Vz hn _ h.2 O
def QW{b:Bool}{gs:List SG}(hn:CN (gs.map (·.nam))):∀{xs:List Jl} {ini:List Pg} {o:Option Pg},(∀x∈xs,x.Ok gs)->∃s,ED (xs.map<|Jl.lns b gs).flatten ini o=Y s/\s.1++s.2.toList=ini++o.toList++xs.map (Jl.pg gs)
 |[],ini,o,_=>{_,O,by rw[EE,BE]}
 |x::xs,ini,o,h=>by
  rw[Ba,Ee,Qo<|I0 hn (h x<|Bl ..) ini o];let(s,h1,h2):=QW hn (b:=b) (xs:=xs) (ini:=ini++o.toList) (o:=Y<|x.pg gs) λy j=>h y (Bi _ j)
  grind
def tw{j:Type}(n:Int)(r:List j):List j:=r.drop (n%max 1 (r.length:Int)).toNat++r.take (n%max 1 (r.length:Int)).toNat
def xO{j:Type}(n:Int)(f:j->AO)(r:List j):oQ n (r.map f)=(tw n r).map f:=by unfold oQ tw;simp
def VX{j:Type}(n:Int)(r:List j): (tw n r).Perm r:=by unfold tw;show List.perm_append_comm.trans ?_;simp
def pN(g:SG):List It:=g.fields.map It.fld++if g.gone≠[]then [.gn g.gone]else []
def ZB(g:SG):List It:=g.fields.map It.fld++g.gone.map λm=>.gn [m]
def LS(b:Bool)(n:Int)(g:SG):List It:=if b=Z then tw n (ZB g)else pN g
def pU(h:ns≠[]):WS ns=(It.gn ns).line b c gs:=by
 cases ns with
 |nil=>show A3p O h
 |cons m r=>
  change _=Cj " " ("gone" ::toS m::r.map toS);rw[EV];rfl
def Jx(b:Bool)(n:Int)(gs:List SG)(g:SG):Gk b n gs g=(LS b n g).map (It.line b g.choice gs):=by
 unfold Gk LS;cases b with
 |true=>
  rw[A3n O,A3n O,<-xO];unfold KG ZB;rw[Bh,AX,AX];rfl
 |false=>
  rw[A3m Bm,A3m Bm];unfold VW KG pN;rw[Bh,AX];by_cases j:g.gone=[];·rw[A3m (λz=>z.2 j),A3m λz=>z j];rfl
  rw[A3n {(O),j},A3n j,pU (b:=ge) (c:=g.choice) (gs:=gs) j];rfl
def gG(fs:List SF):Ip (fs.map It.fld)=fs:=by
 induction fs with
 |nil=>rfl
 |cons f r j=>
  change f::Ip (r.map It.fld)=_;rw[j]
def gz(fs:List SF):IM (fs.map It.fld)=[]:=by induction fs with|nil=>rfl|cons f r j=>show j
def zg(ns:List Int):Ip (ns.map λm=>.gn [m])=[]:=by induction ns with|nil=>rfl|cons f r j=>show j
def yY(ns:List Int):IM (ns.map λm=>.gn [m])=ns:=by
 induction ns with
 |nil=>rfl
 |cons f r j=>
  change f::IM (r.map λm=>.gn [m])=_;rw[j]
def aQ(a b:List It):Ip (a++b)=Ip a++Ip b:=List.filterMap_append
def aO(a b:List It):IM (a++b)=IM a++IM b:=by unfold IM;simp
def WL(b:Bool)(n:Int)(g:SG): (Ip<|LS b n g).Perm g.fields/\(IM<|LS b n g).Perm g.gone:=by
 unfold LS;cases b with
 |true=>
  rw[A3n O];let p:=VX n<|ZB g;let F:Ip (ZB g)=g.fields:=by unfold ZB;rw[aQ,gG,zg,BE]
  let D:IM (ZB g)=g.gone:=by unfold ZB;rw[aO,gz,yY,Le]
  show{by rw[<-F];show p.filterMap _,by rw[<-D];show(p.map _).flatten}
 |false=>
  rw[A3m Bm];unfold pN;rw[aQ,aO,gG,gz];by_cases j:g.gone=[];·rw[A3m (λz=>z j),j];show{by rw[show Ip []=[]from O,BE],.nil}
  rw[A3n j];show{by rw[show Ip [It.gn g.gone]=[]from O,BE],by change([] ++ (g.gone++[])).Perm _;rw[BE,Le]}
def mq{d p:Pg}(hn:d.nam=p.nam)(hc:d.choice=p.choice)(hf:d.fields.Perm p.fields)(hg:d.gone.Perm p.gone)(D: (p.fields.map (·.num)).Pairwise (·< ·))(j:p.gone.Pairwise (·<= ·)){x:Gx}(h:EO d x):x=p.gx:=by let(es,e1,e2,e3):=ju h.fs;let e4:=oW (k:=wO) (e2.trans<|hf.map _) (e3 λe F=>by let(q,_,O):=AS.mp F;rfl) (by rw[AX];show D);let(c,z,fs,go):=x;let h1:c=d.choice:=h.choice;let h2:z= .str d.nam:=h.nam;let h3:go=Kw d.gone:=h.gone;let U:fs=Y es:=e1;rw[h1,h2,h3,U,e4,iY hg j,hn,hc];rfl
def FH(gs:List SG)(f:SF):Ex:=.fld<|A0f gs f
def ix.of{gs:List SG}{Ws:List Int}(hs:IW gs Ws):ix Ws:=by
 let all:∀k,k<=Ws.length->ix (Ws.take k):=λk=>by
  induction k with
  |zero=>intro _ i w e;rw[List.take_zero]at e;simp at e
  |succ k j=>
   intro D;let hg:gs[k]?=Y (gs[k]'(by rw[hs.len];lia)):=AA _;let h0:=j ();let z: (Ws.take k).length=k:=by rw[BG];lia
   let hw:=ac h0 (g:=gs[k]'(by rw[hs.len];lia)) (by rw[z];show(hs.ok k _ hg));rw[Gr,hs.ws k _ hg];show h0.snoc hw.1 hw.2
 have:=all Ws.length (AU _)
 grind
def Wv{z:Type}{l:List z}(h:l.Nodup){i j:Nat}{x:z}(hi:l[i]?=Y x)(D:l[j]?=Y x):i=j:=by let(h1,U):=AQ.mp hi;let(h2,F):=AQ.mp D;show(List.getElem_inj h).mp (U.trans F.symm)
structure Iu(gs:List SG)(Ws:List Int)(k:Nat)(ws:List (AO×Int)):Prop where
 len:ws.length=k
 at_:∀i,i<k->∃g,gs[i]?=Y g/\ws[i]?=Y (g.nam,Ws.getD i 0)
def bH{gs:List SG}{Ws:List Int}{k:Nat}{ws:List (AO×Int)}(h:Iu gs Ws k ws)(hn: (gs.map (·.nam)).Nodup){i:Nat}(hi:i<k){g:SG}(hg:gs[i]?=Y g):TK ws g.nam=Y (Ws.getD i 0):=by
 let(g',a1,hx):=h.at_ i hi;obtain rfl:g=g':=AK<|hg.symm.trans a1;generalize Ws.getD i 0=x at hx ⊢;unfold TK;let hf:ws.find? (λp=>decide (p.1=g.nam))=Y (g.nam,x):=by
  show List.find?_eq_some_iff_append.mpr {A3j O,ws.take i,ws.drop<|i+1,?_,λp hp=>?_}
  ·let z:i<ws.length:=by rw[h.len];show hi
   let e:ws[i]'z=(g.nam,x):=by rw[AA z]at hx;show AK hx
   rw[<-e,<-Ep z,FE]
  let(j,hj):=Cz.mp hp;let F:j<i:=by grind
  rw[EF F]at hj;let(g2,U,D):=h.at_ j ();obtain rfl:p=(g2.nam,Ws.getD j 0):=AK<|hj.symm.trans D;rw[Gb,decide_eq_false_iff_not];intro e;have:j=i:=Wv hn (by rw[Be,U];rfl) (by rw[Be,hg];change Y g.nam=Y g2.nam;rw[show g2.nam=g.nam from e])
  lia
 rw[hf];rfl
def cy{gs:List SG}{Ws:List Int}{k:Nat}{ws:List (AO×Int)}(h:Iu gs Ws k ws){z:AO}(hz:∀i g,i<k->gs[i]?=Y g->g.nam≠z):WQ ws (.str z)=false:=by
 change(TK ws z).isSome=ge;unfold TK;rw[List.find?_eq_none.mpr λp hp=>?_];·rfl
 let(j,U):=Cz.mp hp;let D:j<k:=by rw[<-h.len];show(AQ.mp U).1
 let(g2,a1,F):=h.at_ j D
 grind
def MX{gs:List SG}{Ws:List Int}{k:Nat}{ws:List (AO×Int)}(h:Iu gs Ws k ws)(hn:CN (gs.map (·.nam)))(D:k<=gs.length){kd:Lk}(z:kd.plain\/∃i,kd= .form i/\i<k):Of ws (Fb gs kd)=true:=by
 rcases z with z|⟨i,rfl,hi⟩
 ·cases kd with
  |form i=>show z.elim|list j=>show z.elim
  |upto n=>
   change(decide (1<=n) &&decide (n<=MN))=Z;let h1:=z.1;let h2:=z.2
   grind
  |text n=>
   change(decide (1<=n) &&decide (n<=100))=Z;rw[A3j z.1,A3j z.2];rfl
  |_=>rfl
 let hg:gs[i]?=Y (gs[i]' ()):=AA _;let hx:=bH h hn.nd hi hg;let e:Mr gs i=(gs[i]' ()).nam:=by unfold Mr;rw[hg];rfl
 change(Co (Mr gs i) && (TK ws<|Mr gs i).isSome)=Z;rw[e,hx,(hn.ok _<|AS.mpr {_,AL hg,O}).1];rfl
def pJ{gs:List SG}{Ws:List Int}{k:Nat}{ws:List (AO×Int)}(h:Iu gs Ws k ws)(hn:CN (gs.map (·.nam)))(D:k<=gs.length){kd:Lk}(z:kd.ok k):Gg ws (Fb gs kd)=true:=by cases kd with|list j=>show MX h hn D (kd:=j) z|form i=>show MX h hn D (kd:=.form i)<|.inr {(i),O,z}|truth=>rfl|count=>rfl|whole=>rfl|upto n=>show MX h hn D (kd:=.upto n)<|.inl z|text n=>show MX h hn D (kd:=.text n)<|.inl z
def QA(gs:List SG)(z:k.ok n):FI (Fb gs k) (DA k)=true:=by
 cases k with
 |upto n=>
  change((decide (0<= (0:Int)) &&decide ((0:Int)<=n)) &&decide ((0:Int)=0))=Z;let h1:=z.1
  grind
 |text n=>
  change((!decide ((("" :AO).length:Int) >n) && ("" :AO).cps.toList.all LJ) &&decide (""=""))=Z;let h1:=z.1;rw[A3k (show ¬ (("" :AO).length:Int) >n by change ¬ (0:Int) >n;lia)];rfl
 |list j=>rfl|form i=>rfl|truth=>rfl|count=>show(by decide+kernel:FI .count (.int 0)=Z)|whole=>show(by decide+kernel:FI .whole (.int 0)=Z)
def YI(h:Co z=Z):z.cps.toList.all LJ=true:=by
 show By.mpr λc hc=>?_;have:=By.mp (Ks h).2.2 c hc;let j:=wb this;unfold LJ
 grind
def qq(gs:List SG)(h:wj n W c f):OH (A0f gs f) c=true:=by
 let hm: (f.must&&c)=false:=by cases hc:c with|false=>rw[Gv]|true=>rw[h.must hc];rfl
 change(Jo (.bl f.must) && (!(f.must&&c) && (FI (Fb gs f.kind) f.dfl|| (!(f.must|| (c|| !LM (Fb gs f.kind))) && (!(Nj (Fb gs f.kind) && !DR f.dfl) &&EM (Fb gs f.kind) f.dfl)))))=Z;rw[hm];rcases h.dfl with hd|⟨h1,h2,hd⟩;·rw[hd,QA gs h.kind];rfl
 rw[h1,h2];let key:LM (Fb gs f.kind)=Z/\(Nj (Fb gs f.kind) && !DR f.dfl)=ge/\EM (Fb gs f.kind) f.dfl=true:=by
  cases D:f.kind with
  |truth=>rw[D]at hd;rw[show f.dfl= .bl Z from hd];show{(O),O,O}
  |text n=>
   rw[D]at hd;let(z,e,F,U):=hd;rw[e];show{O,?_,?_};·change(Z&& !Co z)=ge;rw[F];rfl
   change(!decide ((z.length:Int) >n) &&z.cps.toList.all LJ)=Z;rw[A3k (show ¬ (z.length:Int) >n by lia),YI F];rfl
  |upto m=>
   rw[D]at hd;let(i,e,h0,h1):=hd;rw[e];show{O,O,?_};change(decide (0<=i) &&decide (i<=m))=Z
   grind
  |whole=>
   rw[D]at hd;let(i,e,h0,h1):=hd;rw[e];show{O,O,?_};change(decide (-MW - 1<=i) &&decide (i<=MW))=Z
   grind
  |count=>
   rw[D]at hd;let(i,e,h0,h1):=hd;rw[e];show{O,O,?_};change(decide (0<=i) &&decide (i<=MN))=Z
   grind
  |form i=>rw[D]at hd;show hd.elim|list j=>rw[D]at hd;show hd.elim
 let(k1,k2,k3):=key;rw[k1,k2,k3];cases FI (Fb gs f.kind) f.dfl <;> rfl
def pG{gs:List SG}{Ws:List Int}{k:Nat}{ws:List (AO×Int)}(h:Iu gs Ws k ws)(hn:CN (gs.map (·.nam)))(D:k<=gs.length){f:SF}(z:f.kind.ok k):Hc ws (FH gs f)=FJ (Ws.take k) f.kind:=by
 change mw ws (Fb gs f.kind)=_;cases j:f.kind with
 |form i=>
  rw[j]at z;let hi:i<k:=z;let hg:gs[i]?=Y (gs[i]' ()):=AA _;let hx:=bH h hn.nd hi hg;let e:Mr gs i=(gs[i]' ()).nam:=by unfold Mr;rw[hg];rfl
  change(TK ws<|Mr gs i).getD 0=(Ws.take k).getD i 0
  grind
 |_=>rfl
def qh(gs:List SG)(fs:List SF): (fs.map<|FH gs).filter Lw=(fs.filter (·.must)).map (FH gs):=by rw[List.filter_map];rfl
def nU{gs:List SG}{Ws:List Int}{k:Nat}{ws:List (AO×Int)}(h:Iu gs Ws k ws)(hn:CN (gs.map (·.nam)))(j:k<=gs.length){g:SG}(hg:zT k (Ws.take k) g):EL ws g.choice (g.fields.map<|FH gs)=IF (Ws.take k) g.choice g.fields:=by
 let ld:=λf hf=>pG h hn j (hg.fs f hf).kind;unfold EL IF;let D: (g.fields.map<|FH gs).map (Hc ws)=g.fields.map λf=>FJ (Ws.take k) f.kind:=by simp_all
 let z: ((g.fields.map<|FH gs).filter Lw).map (Hc ws)=(g.fields.filter (·.must)).map λf=>FJ (Ws.take k) f.kind:=by
  rw[qh,AX]
  simp_all
 rw[D,z]
def Qx{gs:List SG}{Ws:List Int}{k:Nat}{ws:List (AO×Int)}(h:Iu gs Ws k ws)(hs:IW gs Ws)(hW:ix Ws){g:SG}(hg:gs[k]?=Y g)(h6:gs.length<=6):
  GC ws (.form {g.choice,.str g.nam,Y<|g.fields.map (FH gs),g.gone})="" /\EL ws g.choice (g.fields.map<|FH gs)=Ws.getD k 0:=by
 let hk:=(AQ.mp hg).1;let hn:=hs.nms;let j:=hs.ok k g hg;let D: (Ws.take k).length=k:=by rw[BG,<-hs.len];lia
 let hw:=nU h hn (GL hk) j;let F:=hs.ws k g hg;let a5:=hW k _ F;let hD:Ws.getD k 0=IF (Ws.take k) g.choice g.fields:=by rw[Bj,F];rfl
 show{?_,by rw[hD];show hw};let hnm:=hn.ok g.nam<|AS.mpr {g,AL hg,O};change(if (Co g.nam&& !WQ ws (.str g.nam))=ge then ("name" :AO)else if HJ {g.choice,.str g.nam,Y<|g.fields.map (FH gs),g.gone}=ge then "many" else IQ ws g.choice (g.fields.map<|FH gs) g.gone)=""
 let U:=cy h λi g2 hi a1 e=>by
  have:i=k:=Wv hn.nd (by rw[Be,a1];rfl) (by rw[Be,hg];change Y g.nam=Y g2.nam;rw[e])
  lia
 rw[hnm.1,U,A3m Aa];let a7: (g.fields.map<|FH gs).length=g.fields.length:=Aw ..;let a3:=j.len;let hsz:HJ ⟨g.choice,.str g.nam,Y<|g.fields.map (FH gs),g.gone⟩=true:=by
  change((decide ((if g.choice then (1:Int)else 0)<= ((g.fields.map<|FH gs).length:Int)) &&decide (((g.fields.map<|FH gs).length:Int)<=10)) &&decide ((g.gone.length:Int)<=10))=Z
  let hgl:=j.gl;let e1: (if g.choice then (1:Int)else 0)<= ((g.fields.map<|FH gs).length:Int):=by
   cases hc:g.choice with
   |false=>change(0:Int)<=_;lia
   |true=>
    have:=List.length_pos_iff.mpr<|j.ne hc
    lia
  grind
 rw[hsz,A3m Aa];let mem:∀e∈g.fields.map (FH gs),∃f∈g.fields,e=FH gs f:=λe z=>by
  grind
 let e1:Fa (g.fields.map<|FH gs)=true:=by
  unfold Fa;rw[AB];show{By.mpr λe z=>?_,A3j ?_};·let(f,hf,O):=mem e z;show(j.nms.ok f.nam<|AS.mpr {(f),hf,O}).1
  rw[AX];show j.nms.nd
 let e2:CW (g.fields.map<|FH gs) g.gone=true:=by
  unfold CW II;rw[AB,AB];let hb:=j.nums.bd;let am:∀m:Int,1<=m/\m<=200->Ue (.int m) 1 200=true:=λm hm=>by
   change(decide (1<=m) &&decide (m<=200))=Z
   grind
  show{{By.mpr λe z=>?_,By.mpr λm hm=>am m<|hb m (BJ _ hm)},A3j ?_};·let(f,hf,O):=mem e z;show am f.num<|hb f.num (Cu _<|AS.mpr {(f),hf,O})
  rw[AX];show j.nums.nd
 let e3: ((g.fields.map<|FH gs).all λe=>Gg ws<|KN e)=true:=By.mpr λe z=>by
  let(f,hf,O):=mem e z;show pJ h hn (GL hk) (j.fs f hf).kind
 let e4: (g.fields.map<|FH gs).all (qv g.choice)=true:=By.mpr λe z=>by
  let(f,hf,O):=mem e z;show qq gs<|j.fs f hf
 unfold IQ;rw[e1,e2,e3,e4,hw,A3m Aa,A3m Aa,A3m Aa,A3m Aa,A3m];have: (Ws.take k).length=k:=D
 lia
def Im(gs:List SG)(g:SG):Ox:=.form {g.choice,.str g.nam,Y<|g.fields.map (FH gs),g.gone}
def uY{gs:List SG}{Ws:List Int}(hs:IW gs Ws)(hW:ix Ws)(F:gs.length<=6):∀p,p<=gs.length->∃ws,Iu gs Ws p ws/\iw (gs.map<|Im gs) [] 0=iw ((gs.map<|Im gs).drop p) ws p
 |0,_=>{[],{O,λi hi=>A3p hi<|Qg _},O}
 |p+1,h2=>by
  let(ws,ha,e):=uY hs hW F p ();let j:gs[p]?=Y (gs[p]' ()):=AA _;let z:p< (gs.map<|Im gs).length:=by rw[Aw];lia
  let U: (gs.map<|Im gs).drop p=Im gs (gs[p]' ()):: (gs.map<|Im gs).drop (p+1):=by rw[Ep z,List.getElem_map]
  generalize gs[p]' ()=g at j U;let(hf,hw):=Qx ha hs hW j F;rw[U]at e;unfold Im at e;rw[OE,A3n hf]at e;show{ws++[(g.nam,EL ws g.choice<|g.fields.map (FH gs))],{by rw[AI,ha.len];rfl,λi hi=>?_},e};by_cases D:i<p
  ·let(g',h1,h2):=ha.at_ i D
   grind
  obtain rfl:i=p:=()
  show{g,j,?_};rw[Dw (by rw[ha.len];show AU _),ha.len,XU,<-hw];rfl
def qA{gs:List SG}{Ws:List Int}(hs:IW gs Ws)(D:gs.length<=6)(h1:1<=gs.length)(hlast:∀g,gs[gs.length - 1]?=Y g->g.choice=ge):
  ∃ws,Ir (gs.map<|Im gs)= .inr ws/\∀(i:Nat) g n,gs[i]?=Y g->Ws[i]?=Y n->TK ws g.nam=Y n:=by
 let hW:=ix.of hs;let(ws,ha,e):=uY hs hW D gs.length<|AU _;rw[List.drop_eq_nil_of_le (by rw[Aw];show AU _)]at e;show{ws,?_,λi g n hg hn=>?_}
 ·unfold Ir;rw[e];let j:gs[gs.length - 1]?=Y (gs[gs.length - 1]' ()):=AA _;let z: (gs.map<|Im gs).getLast?=Y (Im gs<|gs[gs.length - 1]' ()):=by rw[List.getLast?_eq_getElem?,Aw,Be,j];rfl
  let hc:=hlast _ j;rw[z];change(if (gs[gs.length - 1]' ()).choice=Z then _ else _)=_
  rw[hc];rfl
 let hi:=(AQ.mp hg).1;have:=bH ha hs.nms.nd hi hg
 grind
def cI(gs:List SG)(g:SG): (NH gs g).gx={g.choice,.str g.nam,Y<|g.fields.map (FH gs),g.gone}:=by unfold Pg.gx NH;rw[AX];rfl
structure JS(gs:List SG)(Ws:List Int):Prop where
 sp:IW gs Ws
 ri:∀g∈gs,zG g
 l1:1<=gs.length
 l6:gs.length<=6
 last:∀g,gs[gs.length - 1]?=Y g->g.choice=ge
def JS.gs8{gs:List SG}{Ws:List Int}(h:JS gs Ws):wJ gs:=h.sp.gsOk<|AR h.l6 Aa
def JS.at_{gs:List SG}{Ws:List Int}(h:JS gs Ws){g:SG}(hg:g∈gs):∃k,gs[k]?=Y g/\k<gs.length/\zT k (Ws.take k) g:=by let(k,j):=Cz.mp hg;show{k,j,(AQ.mp j).1,h.sp.ok k g j}
def ET(b:Bool)(n:Int)(gs:List SG):List Jl:=gs.map λg=>(g,LS b n g)
def yK(h:i∈LS b n g): (∃f∈g.fields,i= .fld f)\/(∃m∈g.gone,i= .gn [m])\/(g.gone≠[]/\i= .gn g.gone):=by
 unfold LS at h;split at h
 ·let h:=(VX n<|ZB g).mem_iff.mp h;rcases Bt.mp h with h|h
  ·grind
  grind
 rcases Bt.mp h with h|h;·grind
 simp_all
def yL(b:Bool)(n:Int)(h1:g.fields.length<=10)(h2:g.gone.length<=2): (LS b n g).length<=12:=by
 unfold LS;split
 ·rw[(VX n<|ZB g).length_eq];unfold ZB
  grind
 unfold pN
 grind
def WM{gs:List SG}{Ws:List Int}(h:JS gs Ws){g:SG}(hg:g∈gs)(b:Bool)(n:Int):∀i∈LS b n g,i.Ok g.choice gs:=by
 let(k,hk,z,j):=h.at_ hg;let bd:∀m∈g.gone,1<=m/\m<=200:=λm hm=>j.nums.bd m<|BJ _ hm;intro i hi;rcases yK hi with⟨f,hf,rfl⟩|⟨m,hm,rfl⟩|⟨D,rfl⟩
 ·let(a1,a2,U,F):=h.gs8.fs g hg f hf;show{a1,a2,U,F,λhc=>{(j.fs f hf).must hc,?_}};rcases(j.fs f hf).dfl with e|⟨_,e,_⟩
  ·show e
  simp_all
 ·show{Cy _ _,by change 1<=4;decide,λx hx=>by rw[AN.mp hx];show bd m hm}
 show{D,AR j.gl Aa,bd}
def cQ{gs:List SG}{Ws:List Int}(h:JS gs Ws)(b:Bool)(n:Int):∀x∈ET b n gs,x.Ok gs:=λx hx=>by
 let(g,hg,O):=AS.mp hx;show{(h.sp.nms.ok _<|AS.mpr {(g),hg,O}).1,WM h hg b n}
def uG(b:Bool)(n:Int)(gs:List SG): (BA b n gs).map Ln.txt=((ET b n gs).map<|Jl.lns b gs).flatten:=by unfold BA ET;rw[ZR,AX,AX];congr 1;show Cm λg _=>?_;change Ln.txt (DN g):: (Gk b n gs g).map Ln.txt=_;rw[Jx,AX];rfl
def vM{gs:List SG}{Ws:List Int}(h:JS gs Ws)(b:Bool)(n:Int){g:SG}(hg:g∈gs){x:Gx}(hm:EO (Jl.pg gs (g,LS b n g)) x):x=(NH gs g).gx:=by let(p1,p2):=WL b n g;let j:=h.ri g hg;show mq (d:=Jl.pg gs (g,LS b n g)) (p:=NH gs g) O O (p1.map<|Jj gs) p2 (by change((g.fields.map<|Jj gs).map (·.num)).Pairwise _;rw[AX];show j.fs) j.gone hm
def tI{z j:Type}{R:z->j->Prop}{f:z->j}:∀{l:List z} {m:List j},Paired R l m->(∀x∈l,∀y,R x y->y=f x)->m=l.map f
 |_,_,.nil,_=>rfl
 |_,_,.cons (a:=a) r t,h=>by
  rw[Ba,h _ (Bl ..) _ r,tI t λx hx=>h x<|Bi _ hx]
def WA{gs:List SG}{Ws:List Int}(h:JS gs Ws)(b:Bool)(n:Int){gxs:List Gx}(hp:Paired EO ((ET b n gs).map<|Jl.pg gs) gxs):gxs=(gs.map<|NH gs).map Pg.gx:=by unfold ET at hp;rw[AX]at hp;rw[AX];show tI (Mp hp) λg hg x hx=>vM h b n hg hx
def nj{gs:List SG}{Ws:List Int}(h:JS gs Ws):∃ws,Ir (((gs.map<|NH gs).map Pg.gx).map Ox.form)= .inr ws:=by let(ws,e,_):=qA h.sp h.l6 h.l1 h.last;show{ws,?_};rw[<-e,AX,AX];congr 1;show Cm λg _=>?_;change Ox.form (NH gs g).gx=Im gs g;rw[cI];rfl
def ah{gs:List SG}{Ws:List Int}(h:JS gs Ws)(b:Bool)(n:Int):∃s,ED ((BA b n gs).map Ln.txt) [] S=Y s/\s.1++s.2.toList=(ET b n gs).map (Jl.pg gs):=by rw[uG];let(s,h1,h2):=QW h.sp.nms (b:=b) (xs:=ET b n gs) (ini:=[]) (o:=S)<|cQ h b n;show{(s),h1,h2}
def tM{gs:List SG}{Ws:List Int}(h:JS gs Ws)(b:Bool)(n:Int):∀p∈ (ET b n gs).map (Jl.pg gs),p.fields.length<=10/\p.gone.length<=2:=λp hp=>by
 let(x,hx,O):=AS.mp hp;let(g,hg,O):=AS.mp hx;let(k,D,z,j):=h.at_ hg;let(p1,p2):=WL b n g;show{?_,?_};·change([] ++ (Ip<|LS b n g).map (Jj gs)).length<=10;rw[Le,Aw,p1.length_eq];show j.len
 change([] ++IM (LS b n g)).length<=2;rw[Le,p2.length_eq];show j.gl
structure Vb(z:AO):Prop where
 ok:cW (.txt z)
 g:zI (.txt z)
 len:z.length<=8000
 s:BF z=Z
def Rs(D:ys≠[])(h:∀y∈ys,Wo y)(U:ys.length<=7)(hg:ys.getD 0 ""="gone" ->ys.length<=5):Vb (Cj " " ys):=by
 let e:Ez (.txt<|Cj " " ys)=Y ys:=HV D λy j=>(h y j).wd;show{{λzs z y j=>?_,λzs z F=>?_,λzs z=>?_},λzs z F=>?_,?_,ag ys λy j=>(h y j).ok};·rw[e]at z;cases z;show{AR (h y j).len Aa,(h y j).ok}
 ·grind
 ·grind
 ·simp_all
 rw[IG];show AR (Rw (n:=7) (b:=100) U (λy j=>(h y j).len) Aa) Aa
def It.ln{b c:Bool}{gs:List SG}{i:It}(hn:CN (gs.map (·.nam)))(h:i.Ok c gs):Vb (i.line b c gs):=by
 show Rs i.ne (It.wo hn h) (It.len hn h) λhg=>?_;cases i with
 |fld f=>show A3p hg (SJ (by have:=h.2.1;lia) Ab)
 |gn ns=>
  have:=h.2.1;change(ns.map toS).length+1<=5
  grind
def cH(h:Co g.nam=Z):Vb (DN g):=by rw[SR];show Rs (Cy _ _) (mK h) (by change 2<=7;decide) λ_=>by change 2<=5;decide
def KM{gs:List SG}{Ws:List Int}(h:JS gs Ws)(b:Bool)(n:Int):∀z∈BA b n gs,Vb z:=λz j=>by
 unfold BA at j;let(l,D,j):=List.mem_flatten.mp j;let(g,hg,O):=AS.mp D;rcases AM.mp j with rfl|j;·show cH (h.sp.nms.ok _<|AS.mpr {(g),hg,O}).1
 rw[Jx]at j;let(i,hi,O):=AS.mp j;show It.ln h.sp.nms<|WM h hg b n i hi
def Mt{gs:List SG}{Ws:List Int}(h:JS gs Ws)(b:Bool)(n:Int): (BA b n gs).length<=78:=by
 have:=mS (f:=λg=>DN g::Gk b n gs g) (k:=13) (l:=gs) λg hg=>by
  let(k,D,z,j):=h.at_ hg;rw[BD,Jx,Aw];show Ko<|yL b n j.len j.gl
 let F:=h.l6;unfold BA
 lia
def dO(j:k.good):De ge k=GU k:=by
 induction k with
 |text d=>
  let(n,O,_):=j;unfold De GU;simp
 |list k z=>rw[De,GU,z j.2]|_=>rfl
def A0l(h:rp d=Z):wQ d=true:=by cases d with|str z=>show h|_=>cases h
def ba(hd:dm f)(hc:c=Z->f.must=ge/\f.dfl=DA f.kind)(h: (mx f.kind|| (c||rp f.dfl))=Z\/wQ f.dfl=Z):f.dfl=DA f.kind:=by
 rcases hd with F|⟨_,z⟩;·show F
 let lf:mx f.kind=false:=by cases D:mx f.kind with|false=>rfl|true=>rcases jO D with⟨j,e⟩|⟨j,e⟩ <;> (rw[e]at z;show z.elim)
 rcases h with h2|h2
 ·rw[lf,NR,Qj]at h2;rcases h2 with h2|h2
  ·simp_all
  show Xm lf z<|A0l h2
 show Xm lf z h2
def iK(U:f.kind.ok n)(hd:dm f)(hc:c=Z->f.must=ge/\f.dfl=DA f.kind):HA ge c f=QV (Jj gs f):=by
 unfold HA QV;change _=if f.must=Z then (["must"]:List AO)else if FI (Fb gs f.kind) f.dfl=Z then []else ["=",IR f.dfl]
 by_cases hm:f.must=Z;·simp_all
 rw[A3m hm,A3m hm];by_cases h2: (mx f.kind|| (c||rp f.dfl))=Z;·rw[A3n h2,ba hd hc<|.inl h2,A3n<|QA gs U]
 rw[A3m h2];by_cases h3:wQ f.dfl=Z;·rw[A3n (by rw[h3];rfl),ba hd hc<|.inr h3,A3n<|QA gs U]
 rw[A3m (by rw[Fo]at h3;rw[h3];decide),A3m];intro hb;rw[Fo,EK]at h2;let j:Q5 f.dfl=true:=by cases F:f.kind with|form i=>rw[F]at h2;cases h2.1|list i=>rw[F]at h2;cases h2.1|_=>rw[F]at hb;show(Db.mp hb).2
 cases D:f.dfl with|bl b=>rw[D]at h3 j;show h3 (by cases b <;> first|rfl|cases j)|int i=>rw[D]at h3 j;show h3 j|str z=>rw[D]at h3 j;show h3 j|_=>rw[D]at h3;show h3 O
def P6(gs:List SG)(g:SG):DN g=gy (NH gs g):=by rw[SR,EV,IL];rfl
def aG{gs:List SG}{Ws:List Int}(h:JS gs Ws)(n:Int):BA ge n gs=((gs.map<|NH gs).map HF).flatten:=by
 unfold BA;rw[AX];congr 1;show Cm λg hg=>?_;change DN g::Gk ge n gs g=gy (NH gs g):: (g.fields.map<|Jj gs).map gj++aN (NH gs g);rw[P6 gs,Jx];change _:: (pN g).map _=_;unfold pN;rw[Bh,AX,AX,Gu];congr 1;congr 1;·show Cm λf hf=>?_;let hi:=WM h hg ge 0 (.fld f)<|Cu _ (AS.mpr {(f),hf,O});change Cj " " (Rb ge g.choice gs f)=Cj " " (Zg<|Jj gs f);unfold Rb Zg;rw[dO (Kl h.sp.nms hi.1),iK hi.1 hi.2.2.2.1 hi.2.2.2.2];rfl
 unfold aN;change _=if g.gone=[]then []else [C5 g.gone]
 by_cases j:g.gone=[];·simp_all
 rw[A3n j,A3m j];rfl
def S1(z:AO):Bool:=match Gz z with
 |none=>Z
 |some ys=>if ¬ys.getD 0 ""="record" /\¬ys.getD 0 ""="choice" then (if ys.getD 0 ""="gone" then (OD<|(ys.drop 1).map El).isNone else (Dj ys Z).isNone&& (Dj ys ge).isNone)
  else !(decide (ys.length=2/\Co (ys.getD 1 "")=Z))
def ia(h:S1 z=Z)(ini:List Pg)(o:Option Pg):Cp ini o (.txt z)=none:=by
 unfold S1 at h;unfold Cp;change(match Gz z with|none=>S|some ys=>_)=S;cases hw:Gz z with
 |none=>rfl
 |some ys=>
  rw[hw]at h
  dsimp only at h ⊢
  by_cases h1:¬ys.getD 0 ""="record" /\¬ys.getD 0 ""="choice"
  ·rw[A3n h1]at h ⊢;cases o with
   |none=>rfl
   |some g=>
    change(Df g ys).map _=S;have:Df g ys=none:=by
     unfold Df;by_cases h2:ys.getD 0 ""="gone";·simp_all
     rw[A3m h2]at h ⊢;rw[AB]at h;have:Dj ys g.choice=none:=by
      cases g.choice;·simp_all
      simp_all
     rw[this];rfl
    rw[this];rfl
  grind
def wrS:List String:=[""," ","record","record A","record a b","choice","field","1 a","1 a truth yes","1 a truth = maybe","1 a text = A","1 a text = ","1 a list list truth","1 a upto","1 a upto x","1 a form","1 a form A","1 a list truth = no","1 a form b = 0","x a truth","1 A truth","01 a truth","gone","gone x","gone 1  2","1 a truth must must","1 a truth  must","1 a text 5 6","1 a count = yes","1 a whole = --1","1 a truth\t","1 a truth = yes must","1 a must","a record","1 a upto 5 ="," record a"]
def U7:List AO:=wrS.map AG
def C0(z:AO):Bool:=decide (z.length<=30) && (BF z&&match Gz z with
 |none=>Z|some ys=>decide (ys.length<=7) && (ys.all (λy=>decide (y.length<=20) &&BF y) && (!decide (ys.getD 0 ""="gone") ||decide (ys.length<=5))))
def E1:U7.all S1=true:=⋯
def W5:U7.all C0=true:=⋯
def WE(h:C0 z=Z):Vb z:=by
 unfold C0 at h;rw[AB,AB]at h;let(h1,h2,h3):=h;let key:∀ys,Ez (.txt z)=Y ys->ys.length<=7/\(∀y∈ys,y.length<=20/\BF y=Z)/\(ys.getD 0 ""="gone" ->ys.length<=5):=λys hw=>by
  let hw:Gz z=Y ys:=hw
  grind
 show{{λys hw y j=>?_,λys hw _=>?_,λys hw=>?_},λys hw=>(key ys hw).2.2,AR (A3l h1) Aa,h2};·grind
 ·grind
 grind
def gC(a:Array Nat):∀(n:Nat) (j:Array Nat),((CO n a).foldl (·++ ·) j).toList=j.toList++ (CO n a.toList).flatten
 |0,j=>by rw[List.replicate_zero,List.replicate_zero,List.flatten_nil,BE];rfl
 |n+1,j=>by
  rw[Tq,Tq,Ee,List.foldl_cons,gC a n,IB,BS]
def jd{x:AO}(hx: (x.length==0)=ge){n:Nat}(hn:2<=n):sg (Txt.mul x (n:Int))=(CO n<|sg x).flatten:=by
 unfold Txt.mul;rw[A3m (),A3m];·change((CO (n:Int).toNat x.cps).foldl (·++ ·) #[]).toList=_;rw[gC,Ye];rfl
 grind
def cF(h:ys≠[]):Cj " " (x::ys)=x++ (" " :AO) ++Cj " " ys:=by cases ys with|nil=>show A3p O h|cons y r=>show EV
def rV:AO:="list"
def bG:AO:="truth"
def w1:AO:="1"
def wA:AO:="a"
def TX(n:Nat):List AO:=CO n rV++[bG]
def Nx(n:Nat):List AO:=w1::wA::TX n
def pE(n:Nat):TX (n+1)=rV::TX n:=by rfl
def mr(n:Nat):TX n≠[]:=by unfold TX;simp
def xD:sg ("list " :AO)=sg rV++sg (" " :AO):=⋯
def lM:∀n:Nat,sg (Cj " "<|TX n)=(CO n<|sg ("list " :AO)).flatten++sg bG
 |0=>by
  rfl
 |n+1=>by
  rw[pE,cF<|mr n,FR,FR,lM n,Tq,Ee,BS,xD,BS,BS]
def KL(n:Nat):AO:="1 a " ++Txt.mul "list " (n:Int) ++bG
def Z7:sg ("1 a " :AO)=sg w1++sg (" " :AO) ++ (sg wA++sg (" " :AO)):=⋯
def WG: (("list " :AO).length==0)=false:=⋯
def mu{n:Nat}(h:2<=n):KL n=Cj " " (Nx n):=by apply Vx;change sg (KL n)=sg _;unfold KL Nx;rw[cF (Cy _ _),cF<|mr _,FR,FR,FR,FR,FR,FR,lM,jd WG h,Z7,BS,BS,BS,BS]
def wV(n:Nat):∀y∈TX n,Wo y:=iE (λy j=>by rw[List.eq_of_mem_replicate j];show lu)<|GV Oe
def A1k:Wo w1:={{(Ab),Ab},Ab,Ab}
def A1j:Wo wA:={{(Ab),Ab},Ab,Ab}
def UW(n:Nat):∀y∈Nx n,Wo y:=GG A1k<|GG A1j (wV _)
def WC(h:2<=n):Gz (KL n)=Y (Nx n):=by rw[mu h];show HV (Cy _ _) λy j=>(UW n y j).wd
def pF(n:Nat):HZ (Nx<|n+2) 2=none:=by rfl
def jL(n:Nat)(c:Bool):Dj (Nx<|n+2) c=none:=by
 unfold Dj;rw[pF]
 grind
def uF(n:Nat)(ini:List Pg)(o:Option Pg):Cp ini o (.txt<|KL (n+2))=none:=by
 unfold Cp;rw[show Ez (.txt<|KL (n+2))=_ from WC<|Nat.le_add_left 2 n]
 dsimp only
 let h0: (Nx<|n+2).getD 0 ""=w1:=rfl;rw[h0,A3n {(iZ),iZ}];cases o with
 |none=>rfl
 |some g=>
  have:Df g (Nx<|n+2)=none:=by unfold Df;rw[h0,A3m iZ,jL];rfl
  dsimp only
  rw[this];rfl
def uE{n:Nat}(h:2<=n): (KL n).length=n*5+9:=by
 rw[<-Fj];unfold KL;rw[FR,FR,jd WG h,AI,AI,List.length_flatten,List.map_replicate,List.sum_replicate_nat,show(sg ("1 a " :AO)).length=4 by decide+kernel,show(sg ("list " :AO)).length=5 by decide+kernel,show(sg bG).length=5 by decide+kernel]
 lia
def yy(h2:2<=n)(hn:n<=1500):Vb (KL n):=by
 let e:∀ys,Ez (.txt<|KL n)=Y ys->ys=Nx n:=λys h=>AK<|h.symm.trans (WC h2);let D: (Nx n).length=n+3:=by unfold Nx TX;simp
 let hg:¬ ((Nx n).getD 0 ""="gone"):=λz=>A3p (show w1="gone" from z) iZ;show{{λys h y j=>?_,λys h z=>?_,λys h=>?_},λys h z=>?_,by rw[uE h2];lia,by rw[mu h2];show ag _ λy j=>(UW n y j).ok};·rw[e ys h]at j;show{AR (UW n y j).len Aa,(UW n y j).ok}
 ·simp_all
 ·grind
 simp_all
abbrev vS(l:List String):List V:=l.map λz=>.str<|AG z
abbrev wr1:List V:=vS [""," ","record","record A","record a b","choice","field","1 a","1 a truth yes"]
abbrev wr2:List V:=wr1++vS ["1 a truth = maybe","1 a text = A","1 a text = ","1 a list list truth","1 a upto"]
abbrev wr3:List V:=wr2++vS ["1 a upto x","1 a form","1 a form A","1 a list truth = no","1 a form b = 0","x a truth"]
abbrev wr4:List V:=wr3++vS ["1 A truth","01 a truth","gone","gone x","gone 1  2","1 a truth must must"]
abbrev wr5(t:AH):List V:=wr4++[.str "1 a truth  must",.non,.int 5,.ref t,.str "1 a text 5 6",.str "1 a count = yes",.str "1 a whole = --1"]
abbrev wr6(t:AH):List V:=wr5 t++vS ["1 a truth\t","1 a truth = yes must","1 a must","a record","1 a upto 5 ="," record a"]
abbrev U8(t:AH):List V:=wr6 t++[.str (KL 1500)]
structure V5(l:Ln):Prop where
 ok:cW l
 g:zI l
 bad:∀ini o,Cp ini o l=S
 shape: (∃z,l= .txt z/\BF z=Z)\/l= .thing .non\/l= .thing (.int 5)\/l= .thing (.lst [.str "1"])
def rH(h:z∈U7\/z=KL 1500):V5 (.txt z)/\z.length<=8000:=by
 rcases h with h|rfl;·let j:=WE<|By.mp W5 z h;show{{j.ok,j.g,ia<|By.mp E1 z h,.inl {(z),O,j.s}},j.len}
 let j:=yy (n:=1498+2) Aa Aa;show{{j.ok,j.g,uF 1498,.inl {(_),O,j.s}},j.len}
def Vp(h:d= .non\/d= .int 5\/d= .lst [.str "1"]):V5 (.thing d):={{(λ_ h=>nomatch h),(λ_ h=>nomatch h),(λ_ h=>nomatch h)},(λ_ h=>nomatch h),λ_ _=>rfl,.inr<|h.imp (A3o _) (Or.imp (A3o _)<|A3o _)}
def D9(h:x∈U8 t):x= .non\/x= .int 5\/x= .ref t\/∃z,x= .str z/\(z∈U7\/z=KL 1500):=by
 let hs:∀(l:List String),(∀z∈l,z∈wrS)->∀y∈vS l,∃z,y= .str z/\(z∈U7\/z=KL 1500):=λl F y D=>by
  let(z,j,O):=AS.mp D;show{_,O,.inl<|AS.mpr {z,F z j,O}}
 let h1:∀(z:String),z∈wrS->∃y,V.str (AG z)= .str y/\(y∈U7\/y=KL 1500):=λz j=>{_,O,.inl<|AS.mpr {(z),j,O}};rcases Bt.mp h with h|h
 ·rcases Bt.mp h with h|h
  ·rcases Bt.mp h with h|h
   ·show .inr<|.inr (.inr ?_);rcases Bt.mp h with h|h
    ·rcases Bt.mp h with h|h
     ·rcases Bt.mp h with h|h
      ·show hs _ Aa x h
      show hs _ Aa x h
     show hs _ Aa x h
    show hs _ Aa x h
   rcases AM.mp h with rfl|h;·show .inr<|.inr (.inr<|h1 _ Aa)
   rcases AM.mp h with rfl|h;·show .inl O
   rcases AM.mp h with rfl|h;·show .inr<|.inl O
   rcases AM.mp h with rfl|h;·show .inr<|.inr (.inl O)
   show .inr<|.inr (.inr ?_);show hs ["1 a text 5 6","1 a count = yes","1 a whole = --1"] Aa x h
  show .inr<|.inr (.inr<|hs _ Aa x h)
 rw[AN.mp h];show .inr<|.inr (.inr {_,O,.inr O})
def yw{n:Nat}(h:2<=n): (Txt.mul ("list " :AO) (n:Int)).length=n*5:=by rw[<-Fj,jd WG h,List.length_flatten,List.map_replicate,List.sum_replicate_nat,show(sg ("list " :AO)).length=5 by decide+kernel]
def A0b: (Txt.mul (AG "list ") 1500).length=7500:=yw (n:=1500) Aa
inductive kF(vs:List V)(H:Hp)(Q:VK):Prop|mk (n:_) (_:vs=[.int n]) (_:0<=n) (_:∀v l H',Bd H H'->JU H' l v->V5 l->Q v H')
def om:Sp:=λvs H Q _=>kF vs H Q
def pi(T:Tx K mg):∅ 1 1093 ["_law_number_here"] om:=by
 show(T.df 51 O).okA KE ?_;intro 1 hr h;let(n,O,b8,q):=h;show{_,AY (qS 1 KE.nd<|Ci (Bc AE<|Bc AE (Bc AE<|Bc AE (Bc AE<|Bc AE (Bc AE<|Cv AE AE)))))<|AY (qS 1 KE.nd<|Bb DS (pv 1) (Ci<|Bc AE (Bc AE<|Bc AE (Cv AE AE)))) (AY (qS 1 KE.nd<|Bb DS (pv 1) (Ci<|Bc AE (Bc AE<|Bc AE (Bc AE<|Cv AE AE))))<|AY (qS 1 KE.nd<|Bb DS (pv 1) (Ci<|Bc AE (Bc AE<|Bc AE (Bc AE<|Cv AE AE)))) (AY (qS 1 KE.nd<|Bb DS (pv 1) (Ci<|Bc AE (Bc DJ<|Bc AF (Bc (Ci<|CK AE)<|Bc AE (Cv AE AE)))))<|AY (qS 1 KE.nd<|Bb DS (pv 1) (Ci<|Bc AE (Bc AE<|Bc AE (Bc AE<|Cv AE AE)))) (AY (DG<|EA Bk BC BB Dp (pv 1) (CK<|Bb BO (Bb BO AE<|Bb tY AE AF) AE))<|qr (MK (pv 1)<|Bb CD (pv 0) (qB BU T.Ey Ds<|CK (pv 1)))))),?_};show BV (λσ' H'=>∃L,σ'=[Y (.int n),Y<|.ref L]/\H L=S/\Bd H H'/\H' L=Y (.lst wr1)) ?_ ?_;·show{zl 9,λL j=>{L,O,j,AZ j,Ax}}
 rintro σ' H1 ⟨L1,rfl,c4,s1,e1⟩;show BV (λσ' H'=>∃L,σ'=[Y (.int n),Y<|.ref L]/\H L=S/\Bd H H'/\H' L=Y (.lst wr2)) ?_ ?_;·show{_,O,zl 5,λt U=>{L1,t,_,_,O,O,(AZ U) _ _ e1,Ax,by change 9+5<=sizeLine;decide,λL j=>{L,O,(s1.trans<|AZ U).free j,(s1.trans<|AZ U).trans<|AZ j,Ax}}}
 rintro σ' H2 ⟨L2,rfl,c3,s2,e2⟩;show BV (λσ' H'=>∃L,σ'=[Y (.int n),Y<|.ref L]/\H L=S/\Bd H H'/\H' L=Y (.lst wr3)) ?_ ?_;·show{_,O,zl 6,λt U=>{L2,t,_,_,O,O,(AZ U) _ _ e2,Ax,by change 14+6<=sizeLine;decide,λL j=>{L,O,(s2.trans<|AZ U).free j,(s2.trans<|AZ U).trans<|AZ j,Ax}}}
 rintro σ' H3 ⟨L3,rfl,c2,s3,e3⟩;show BV (λσ' H'=>∃L,σ'=[Y (.int n),Y<|.ref L]/\H L=S/\Bd H H'/\H' L=Y (.lst wr4)) ?_ ?_;·show{_,O,zl 6,λt U=>{L3,t,_,_,O,O,(AZ U) _ _ e3,Ax,by change 20+6<=sizeLine;decide,λL j=>{L,O,(s3.trans<|AZ U).free j,(s3.trans<|AZ U).trans<|AZ j,Ax}}}
 rintro σ' H4 ⟨L4,rfl,c1,s4,e4⟩;show BV (λσ' H'=>∃L u,σ'=[Y (.int n),Y<|.ref L]/\H L=S/\Bd H H'/\H' u=Y (.lst [.str "1"])/\L≠u/\H' L=Y (.lst<|wr5 u)) ?_ ?_;·show{_,O,zl 1,λu hu=>{zl 7,λt U=>?_}};let D:=AZ (u:=.lst [.str "1 a truth  must",.non,.int 5,.ref u,.str "1 a text 5 6",.str "1 a count = yes",.str "1 a whole = --1"]) U;let st:=(s4.trans<|AZ (u:=.lst [.str "1"]) hu).trans D;let a1:=D _ _ Ax;show{L4,t,_,_,O,O,D _ _<|(AZ hu) _ _ e4,Ax,by change 26+7<=sizeLine;decide,λL j=>{L,u,O,st.free j,st.trans<|AZ j,(AZ j) _ _ a1,λz=>Bp a1 j z.symm,Ax}}
 rintro σ' H5 ⟨L5,u,rfl,b9,s5,u5,n5,e5⟩;show BV (λσ' H'=>∃L,σ'=[Y (.int n),Y<|.ref L]/\H L=S/\Bd H H'/\H' u=Y (.lst [.str "1"])/\L≠u/\H' L=Y (.lst<|wr6 u)) ?_ ?_;·show{_,O,zl 6,λt U=>?_};let D:=AZ (u:=.lst<|vS ["1 a truth\t","1 a truth = yes must","1 a must","a record","1 a upto 5 ="," record a"]) U;let st:=s5.trans D;let a1:=D _ _ u5;show{L5,t,_,_,O,O,D _ _ e5,Ax,by change 33+6<=sizeLine;decide,λL j=>{L,O,st.free j,st.trans<|AZ j,(AZ j) _ _ a1,λz=>Bp a1 j z.symm,Ax}}
 rintro σ' H6 ⟨L6,rfl,a6,s6,u6,n6,e6⟩;show BV (λσ' H'=>σ'=[Y (.int n),Y<|.ref L6]/\Bd H H'/\H' u=Y (.lst [.str "1"])/\H' L6=Y (.lst<|U8 u)) ?_ ?_
 ·show{_,O,.inl {O,_,BX.of e6},_,_,O,O,Ab,Aa,Aa,_,_,O,O,?_,_,_,O,O,?_,L6,_,_,O,O,e6,?_,O,s6.put a6,?_,?_}
  ·show V1 (by rw[A0b];decide+kernel)
  ·show V1 (by rw[bo,A0b];decide+kernel)
  ·change 39<sizeLine;decide
  ·rw[AT (λz=>n6 z.symm)];show u6
  rw[Ax];rfl
 rintro σ' H7 ⟨rfl,s7,u7,e7⟩;show{_,O,_,O,_,O,L6,_,O,.inl<|BX.of e7,?_};let a2: (U8 u).length=40:=rfl;let hpos:0< ((U8 u).length:Int):=by rw[a2];decide
 let(x,hx,hm):=RN (xs:=U8 u) (i:=n% ((U8 u).length:Int)) (FQ _<|Yg hpos)<|GP _ hpos;show{n,_,O,O,hpos,L6,_,_,x,O,O,BX.of e7,hx,?_};rcases D9 hm with rfl|rfl|rfl|⟨z,rfl,hz⟩;·show q _ (.thing .non) H7 s7 {(O),O}<|Vp (.inl O)
 ·show q _ (.thing<|.int 5) H7 s7 {(O),O}<|Vp (.inr<|.inl O)
 ·show q _ (.thing<|.lst [.str "1"]) H7 s7 {{u,_,O,u7,{_,_,O,{(O),Ab},O},Aa},O}<|Vp (.inr<|.inr O)
 show q _ (.txt z) H7 s7 {O,(rH hz).2} (rH hz).1
def uW(hg:Co g.nam=Z)(j:Co h.nam=Z)(e:DN g=DN h):g.nam=h.nam:=by
 let a:=Nk hg;rw[e,Nk j]at a
 grind
def yX(c:Bool):El (if c=Z then ("choice" :AO)else "record")=S/\¬ (if c=Z then ("choice" :AO)else "record")="gone":=by cases c <;> show{(Ab),iZ}
def uU{b c:Bool}{gs:List SG}{i:It}(hn:CN (gs.map (·.nam)))(h:i.Ok c gs){g:SG}(hg:Co g.nam=Z):DN g≠i.line b c gs:=λe=>by
 let a:=Nk hg;let z:Ez (.txt<|i.line b c gs)=Y (i.words b c gs):=HV (i.ne) λy j=>(It.wo hn h y j).wd;rw[e,z]at a;let a:=AK a;let k:=yX g.choice;cases i with
 |fld f=>
  have:toS f.num=(if g.choice=Z then ("choice" :AO)else "record"):=(List.cons_eq_cons.mp a).1
  show SJ (n:=f.num) (by have:=h.2.1;lia) k.1 this
 |gn ns=>
  have: ("gone" :AO)=(if g.choice=Z then ("choice" :AO)else "record"):=(List.cons_eq_cons.mp a).1
  show k.2 this.symm
def Hf(b:Bool)(n:Int)(gs:List SG)(k:Nat):List AO:=((gs.take k).map λg=>DN g::Gk b n gs g).flatten
def Td(b:Bool)(n:Int)(gs:List SG)(k:Nat):List AO:=((gs.drop<|k+1).map λg=>DN g::Gk b n gs g).flatten
def gi(b:Bool)(n:Int)(hg:gs[k]?=Y g):BA b n gs=Hf b n gs k++DN g:: (Gk b n gs g++Td b n gs k):=by
 let(j,O):=AQ.mp hg;unfold BA Hf Td;let e:∀F:SG->List AO,(gs.map F).flatten=((gs.take k).map F).flatten++ (F (gs[k]'j) ++ ((gs.drop<|k+1).map F).flatten):=λF=>by
  rw[<-Ee,<-Ba,<-Ep j,<-List.flatten_append,<-Bh,FE]
 grind
def uV{gs:List SG}{Ws:List Int}(h:JS gs Ws)(b:Bool)(n:Int){k:Nat}{g:SG}(hg:gs[k]?=Y g):DN g∉Hf b n gs k:=λhm=>by
 let nm:∀{x:SG},x∈gs->Co x.nam=true:=λ{x} hx=>(h.sp.nms.ok _<|AS.mpr {(x),hx,O}).1;let D:=AL hg;let(l,hl,U):=List.mem_flatten.mp hm;let(g',F,O):=AS.mp hl;let z:=Cg F;rcases AM.mp U with e|U
 ·let e2:=uW (nm D) (nm z) e;let(j,hj):=Cz.mp F;let a1:j<k:=by grind
  rw[EF a1]at hj;have:j=k:=Wv h.sp.nms.nd (by rw[Be,hj];rfl) (by rw[Be,hg];change Y g.nam=Y g'.nam;rw[e2])
  lia
 rw[Jx]at U;let(i,hi,e):=AS.mp U;show uU h.sp.nms (WM h z b n i hi) (nm D) e.symm
def qF(b:Bool)(n:Int)(gs:List SG)(k:Nat): (Hf b n gs k).map Ln.txt=(((ET b n gs).take k).map<|Jl.lns b gs).flatten:=by unfold Hf ET;rw[ZR,AX,<-Kz,AX];congr 1;show Cm λg _=>?_;change Ln.txt (DN g):: (Gk b n gs g).map Ln.txt=_;rw[Jx,AX];rfl
def kq(b:Bool)(n:Int)(gs:List SG)(k:Nat): (Td b n gs k).map Ln.txt=(((ET b n gs).drop<|k+1).map<|Jl.lns b gs).flatten:=by unfold Td ET;rw[ZR,AX,<-Hi,AX];congr 1;show Cm λg _=>?_;change Ln.txt (DN g):: (Gk b n gs g).map Ln.txt=_;rw[Jx,AX];rfl
def lE{gs:List SG}{Ws:List Int}(h:JS gs Ws)(b:Bool)(n:Int){k:Nat}{g:SG}(hg:gs[k]?=Y g):ED ((Hf b n gs k++[DN g]).map Ln.txt) [] S=Y (((ET b n gs).take k).map<|Jl.pg gs,Y<|M5 g):=by let(s,h1,h2):=QW h.sp.nms (b:=b) (xs:=(ET b n gs).take k) (ini:=[]) (o:=S) λx hx=>cQ h b n x<|Cg hx;rw[Bh,qF,Qo h1];change ED [.txt (DN g)] s.1 s.2=_;rw[Kg (WR (h.sp.nms.ok _<|AS.mpr {g,AL hg,O}).1 s.1 s.2),h2];rfl
def kh(z:AO):Bool:=match Gz z with
 |none=>Z|some ys=>decide (¬ys.getD 0 ""="record" /\¬ys.getD 0 ""="choice") && (!decide (ys.getD 0 ""="gone") && (Dj ys Z).isNone)
def zA(h:kh z=Z)(ini:List Pg)(hc:g.choice=Z):Cp ini (Y g) (.txt z)=none:=by
 unfold kh at h;unfold Cp;change(match Gz z with|none=>S|some ys=>_)=S;cases hw:Gz z with
 |none=>rfl
 |some ys=>
  rw[hw]at h
  dsimp only at h ⊢
  rw[AB,AB,Gb,decide_eq_false_iff_not]at h;let(h1,h2,h3):=h;rw[A3n (A3l h1)];have:Df g ys=none:=by
   unfold Df
   simp_all
  rw[this];rfl
def gY:kh "199 zzz truth must"=Z/\kh "199 zzz truth = no"=true:=⋯
def cE:C0 "199 zzz truth must"=Z/\C0 "199 zzz truth = no"=Z/\C0 "5 zzz truth"=true:=⋯
def qf:Cp [] S (.txt "5 zzz truth")=none:=by
 let e:Gz "5 zzz truth"=Y [AG "5",AG "zzz",AG "truth"]:=⋯
 unfold Cp;rw[show Ez (.txt "5 zzz truth")=_ from e];rfl
def vQ{gs:List SG}{Ws:List Int}(h:JS gs Ws)(b:Bool)(n:Int){p:Nat}(hp:p<= (BA b n gs).length){l:Ln}(j:∀ini o,Cp ini o l=S):DI (((BA b n gs).take p).map Ln.txt++l:: ((BA b n gs).drop p).map Ln.txt) 0 [] S= .inl p:=by
 let(s,h1,_):=ah h b n;let e: (BA b n gs).map Ln.txt=((BA b n gs).take p).map Ln.txt++ ((BA b n gs).drop p).map Ln.txt:=by rw[<-Bh,FE]
 rw[e]at h1;let(s',h2):=sk h1;rw[VZ h2 (j _ _),Aw,BG,XS,Nat.min_eq_left hp]
def Ss(b:Bool)(n:Int)(hg:gs[k]?=Y g): (BA b n gs).take ((Hf b n gs k).length+1)=Hf b n gs k++[DN g]/\(BA b n gs).drop ((Hf b n gs k).length+1)=Gk b n gs g++Td b n gs k:=by
 let e:BA b n gs=(Hf b n gs k++[DN g]) ++ (Gk b n gs g++Td b n gs k):=by rw[gi b n hg,BS];rfl
 rw[e];show{List.take_left' (by rw[AI];rfl),List.drop_left'<|by rw[AI];rfl}
def hX{gs:List SG}{Ws:List Int}(h:JS gs Ws)(b:Bool)(n:Int){k:Nat}{g:SG}(hg:gs[k]?=Y g)(hc:g.choice=Z){z:AO}(j:kh z=Z){p:Nat}(hp:p=(Hf b n gs k).length+1):DI (((BA b n gs).take p).map Ln.txt++ .txt z:: ((BA b n gs).drop p).map Ln.txt) 0 [] S= .inl p:=by subst hp;rw[(Ss b n hg).1,VZ (lE h b n hg)<|zA j _ hc,Aw,AI,XS];rfl
def ko(ls:List Ln):DI (.txt "5 zzz truth" ::ls) 0 [] S= .inl 0:=Pc qf
def gw{gs:List SG}{Ws:List Int}(h:JS gs Ws)(b:Bool)(n:Int){k:Nat}{g:SG}(hg:gs[k]?=Y g): (BA b n gs)[(Hf b n gs k).length]?=Y (DN g)/\∀i y,i< (Hf b n gs k).length->(BA b n gs)[i]?=Y y->y≠DN g:=by rw[gi b n hg];show{by rw[Dw (AU _),XU];rfl,λi y hi j e=>(uV h b n hg) ?_};rw[Eo hi]at j;rw[<-e];show AL j
def WT{gs:List SG}{Ws:List Int}(hs:IW gs Ws)(D:gs.length<=6):∀p,p<=gs.length->∃ws,Iu gs Ws p ws/\∀r,iw ((gs.take p).map (Im gs) ++r) [] 0=iw r ws p
 |0,_=>{[],{O,λi hi=>A3p hi<|Qg _},λr=>rfl}
 |p+1,h2=>by
  let(ws,ha,e):=WT hs D p ();let j:gs[p]?=Y (gs[p]' ()):=AA _;generalize gs[p]' ()=g at j;let F:gs.take (p+1)=gs.take p++[g]:=by rw[Gr,j];rfl
  let(hf,hw):=Qx ha hs (ix.of hs) j D;show{ws++[(g.nam,EL ws g.choice<|g.fields.map (FH gs))],{by rw[AI,ha.len];rfl,λi hi=>?_},λr=>?_}
  ·by_cases z:i<p
   ·let(g',h1,h2):=ha.at_ i z;show{g',h1,by rw[Eo (by rw[ha.len];show z)];show h2}
   obtain rfl:i=p:=()
   show{g,j,?_};rw[Dw (by rw[ha.len];show AU _),ha.len,XU,<-hw];rfl
  rw[F,Bh,BS,e];change iw (Im gs g::r) ws p=_;unfold Im;rw[OE,A3n hf];rfl
def Xk{gs:List SG}{Ws:List Int}(hs:IW gs Ws)(z:gs.length<=6){p:Nat}(hp:p<=gs.length){o:Ox}{r:List Ox}{y:AO}(j:y≠ "")(hf:∀ws,Iu gs Ws p ws->GC ws o=y):Ir ((gs.take p).map (Im gs) ++o::r)= .inl (p,y):=by let(ws,ha,e):=WT hs z p hp;unfold Ir;rw[e,OE,hf ws ha,A3m j]
def qz(h:Paired EO gs gxs)(j:8<gs.length):OJ gxs=Y (0,AG "forms"):=by
 have:gs.length=gxs.length:=h.length;unfold OJ
 grind
def bare(c:Bool)(z:AO):SG:={z,c,[],[]}
def oR{gs:List SG}{Ws:List Int}(h:JS gs Ws)(b:Bool)(n:Int){xs:List Jl}(hx:∀x∈xs,x.Ok gs):∃s,ED ((BA b n gs).map Ln.txt++ (xs.map<|Jl.lns b gs).flatten) [] S=Y s/\s.1++s.2.toList=(ET b n gs++xs).map (Jl.pg gs):=by rw[uG,<-List.flatten_append,<-Bh];let(s,h1,h2):=QW h.sp.nms (b:=b) (xs:=ET b n gs++xs) (ini:=[]) (o:=S) λx j=>(Bt.mp j).elim (cQ h b n x)<|hx x;show{(s),h1,h2}
def Rf{F D:Type}{R:F->D->Prop}:∀{a b:List F} {m:List D},Paired R (a++b) m->∃z j,m=z++j/\Paired R a z/\Paired R b j
 |[],_,m,h=>{[],m,O,.nil,h}
 |_::_,_,_,.cons r t=>by
  let(z,j,O,h1,h2):=Rf t;show{_::z,j,O,.cons r h1,h2}
def aD{gs:List SG}{Ws:List Int}(h:JS gs Ws)(b:Bool)(n:Int){xs:List Jl}{gxs:List Gx}(hp:Paired EO ((ET b n gs++xs).map<|Jl.pg gs) gxs):∃ys,gxs.map Ox.form=gs.map (Im gs) ++ys.map Ox.form/\Paired EO (xs.map<|Jl.pg gs) ys:=by rw[Bh]at hp;let(z,j,O,h1,h2):=Rf hp;show{j,?_,h2};rw[WA h b n h1,Bh,AX,AX];congr 1;show Cm λg _=>?_;change Ox.form (NH gs g).gx=Im gs g;rw[cI];rfl
def kl(h1:1<=gxs.length)(j:gxs.length<=8)(h:Ir (gxs.map Ox.form)= .inl x):OJ gxs=Y x:=by
 unfold OJ
 grind
def X1{gs:List SG}{Ws:List Int}(h:JS gs Ws)(b:Bool)(n:Int){g:SG}(hg:g∈gs){j:List It}{c:Bool}{gxs:List Gx}(hp:Paired EO ((ET b n gs++[(bare c g.nam,j)]).map<|Jl.pg gs) gxs):OJ gxs=Y (gs.length,AG "name"):=by
 let U:_=gxs.length:=hp.length;rw[Aw,AI,show(ET b n gs).length=gs.length from Aw ..,FF]at U;let(ys,e,D):=aD h b n hp;let h6:=h.l6;show kl () () ?_;rw[e];cases D with
 |@cons _ x _ r hm F=>
  cases F;have:=Xk (p:=gs.length) h.sp h.l6 (AU _) (o:=.form x) (r:=[]) (y:=AG "name") Ab λws ha=>?_;·simp_all
  let(k,hk,z,_):=h.at_ hg;let hw:=bH ha h.sp.nms.nd z hk;show A3n ?_;rw[show x.nam= .str g.nam from hm.nam,show WQ ws (.str g.nam)=(TK ws g.nam).isSome from O,hw];simp
def X0{gs:List SG}{Ws:List Int}(h:JS gs Ws)(b:Bool)(n:Int){xs:List Jl}(hx:xs.length=9 - gs.length){gxs:List Gx}(hp:Paired EO ((ET b n gs++xs).map<|Jl.pg gs) gxs):OJ gxs=Y (0,AG "forms"):=by
 show qz hp ?_;let j:=h.l6;rw[Aw,AI,show(ET b n gs).length=gs.length from Aw ..]
 lia
def f1a:SF:={1,"a",.truth,ge,.bl ge}
def bz:Jl:=(bare Z "zzzz",[.fld f1a])
def B8(h:Xr z):z≠ "zzzz":=λe=>h.2.1 122 (by rw[e];decide+kernel)
def A0r(gs:List SG)(h:EO (Jl.pg gs bz) x):x=(Jl.pg gs bz).gx:=mq (p:=Jl.pg gs bz) O O (.refl _) (.refl _) (List.pairwise_singleton _ _) .nil h
def vH(gs:List SG){Ws:List Int}{ws:List (AO×Int)}{k:Nat}(ha:Iu gs Ws k ws)(hn:CN (gs.map (·.nam))):GC ws (.form (Jl.pg gs bz).gx)="":=by
 let hi:WQ ws (.str "zzzz")=false:=cy ha λi g _ hg=>B8<|hn.ok _ (AS.mpr {g,AL hg,O});show(A3m ?_).trans ?_
 ·change ¬ (Co "zzzz" && !WQ ws (.str "zzzz"))=ge;rw[hi];decide+kernel
 kernel_rfl
def X2{gs:List SG}{Ws:List Int}(h:JS gs Ws)(b:Bool)(n:Int){gxs:List Gx}(hp:Paired EO ((ET b n gs++[bz]).map<|Jl.pg gs) gxs):OJ gxs=Y (gs.length,AG "head"):=by
 let F:_=gxs.length:=hp.length;rw[Aw,AI,show(ET b n gs).length=gs.length from Aw ..,FF]at F;let(ys,e,z):=aD h b n hp;let h6:=h.l6;show kl () () ?_;rw[e];cases z with
 |@cons _ x _ r hm D=>
  cases D;rw[A0r gs hm];let(ws,ha,U):=WT h.sp h.l6 gs.length<|AU _;let j:=U [.form (Jl.pg gs bz).gx];rw[Fk,OE,A3n<|vH gs ha h.sp.nms]at j;change Ir (gs.map (Im gs) ++[Ox.form (Jl.pg gs bz).gx])=_;unfold Ir;rw[j,List.getLast?_append];change(if cN (Ox.form (Jl.pg gs bz).gx)=Z then _ else _)=_
  rw[A3n (show cN (Ox.form (Jl.pg gs bz).gx)=Z from O),AI,Aw];rfl
structure wL(l:Ln):Prop where
 ok:cW l
 g:zI l
 shape: (∃z,l= .txt z/\BF z=Z)\/l= .thing .non\/l= .thing (.int 5)\/l= .thing (.lst [.str "1"])
def Vb.bt(h:Vb z):wL (.txt z):={h.ok,h.g,.inl {(z),O,h.s}}
def V5.bt(h:V5 l):wL l:={(h.ok),h.g,h.shape}
def OB:∀{zs:List AO},(∀z∈zs,Vb z)->Paired (JU H) (zs.map Ln.txt) (zs.map V.str)|[],_=>.nil|z::_,h=>.cons {O,(h z<|Bl ..).len}<|OB λy j=>h y<|Bi _ j
def jM{zs:List AO}(h:∀z∈zs,Vb z):∀l∈zs.map Ln.txt,wL l:=λl D=>by
 let(z,j,O):=AS.mp D;show(h z j).bt
def P3{H:Hp}{zs:List AO}(h:∀z∈zs,Vb z){l:Ln}{v:V}(D:JU H l v)(p:Nat):Paired (JU H) ((zs.take p).map Ln.txt++l:: (zs.drop p).map Ln.txt) (((zs.map V.str).take p++[v]) ++ (zs.map V.str).drop p):=by rw[BS,<-Kz,<-Hi];show Nc (OB λz j=>h z<|Cg j)<|.cons D (OB λz j=>h z<|DU j)
def P4{zs:List AO}(h:∀z∈zs,Vb z){l:Ln}(D:wL l)(p:Nat):∀x∈ (zs.take p).map Ln.txt++l:: (zs.drop p).map Ln.txt,wL x:=λx hx=>by
 rcases Bt.mp hx with hx|hx;·show jM (λz j=>h z<|Cg j) x hx
 rcases AM.mp hx with rfl|hx;·show D
 show jM (λz j=>h z<|DU j) x hx
def yP{zs:List AO}{l:Ln}(p:Nat): ((zs.take p).map Ln.txt++l:: (zs.drop p).map Ln.txt).length=zs.length+1:=by grind
def qy{gs:List SG}{p:Nat->Bool}{f:Nat->V}(hp:∀i d,gs[i]?=Y d->p i=d.choice): (((Bg gs.length).filter p).map f).isEmpty=(gs.filter (·.choice)).isEmpty:=by
 let j:=A3o List.isEmpty<|Kj gs (·.choice) (λ_=>Unit.unit) p (λ_=>Unit.unit) hp (λ_ _ _=>rfl)
 simp_all
def lX: ((["_law_form"]:List AO) ++ ([]:List AO)).Nodup:=⋯
def zB: (AG "choice ").length<=10:=⋯
inductive wy(vs:List V)(H:Hp)(Q:VK):Prop|mk (lv:AH) (sv:V) (gs:List SG) (Ws:List Int) (b:Bool) (n m:Int) (_:vs=[.ref lv,sv,.int m]) (_:0<=m) (_:QB H gs sv) (_:JS gs Ws) (_:H lv=some (.lst<|(BA b n gs).map V.str)) (_:∀t L (p:Nat) ls xs H',Bd H H'->H' t=some (.tup [.ref L,.int (p:Nat)])->H' L=some (.lst xs)->Paired (JU H') ls xs->(∀l∈ls,wL l)->ls.length<=79->DI ls 0 [] none= .inl p->Q (.ref t) H')
def xu:Sp:=λvs H Q _=>wy vs H Q
def ym(T:Tx K mg):∅ 2 1105 ["_law_lines_here","_law_spec_here","_law_number_here"] xu:=by
 show(T.df 53 O).okA Pb ?_;intro 1 hr h;let(lv,sv,gs,Ws,b,n,m,O,d8,(l0,as,O,a9,hpa),hR,a1,q):=h;let b3:=Ny hr;let g1:=Mt hR b n;let a8:=KM hR b n;let b2:=hpa.length;let h6:=hR.l6;show{_,AW (qS 3 Pb.nd<|Bb CD (Bb Dc (pv 2) AF) (Bb CS (qB BU T.Ey Ds<|CK (pv 0)) AF))<|AY (qS 4 Pb.nd<|qD (@pi P w K mg base T) hr (T.d1 51 O λ_ _ _ _ _ _ _=>rfl) (CK<|Bb Dc (pv 2) AF)) (AY (qi (qc Do (Bb CD (pv 2) AF) AF)<|qr (Cn<|Cv (Bb DS (Ci<|CK AE)<|pv 0) AF))<|AY (qi (PW.pt<|FT (qc Do (Bb CD (pv 2) AF) AF) (Fu<|qc (tZ hr.units) (qp ["_law_form"] [] [] .nil (CY<|pv 1) (λC s_ H_ fp=>BQ (i:=0) lX O (Cd O)<|CV O) (λC s_ H_ fp=>Rg<|BN (Cr b3 (pv 0) AE λ_ _=>rfl)) λC s_ H_ fp=>pv 0) (Ci FU)))<|AY (qS 5 Pb.nd<|MK (qp ["_law_form"] [] [] .nil (CY<|pv 1) (λC s_ H_ fp=>BQ (i:=0) lX O (Cd O)<|CV O) (λC s_ H_ fp=>Rg<|BN (Cr b3 (pv 0) AE λ_ _=>rfl)) λC s_ H_ fp=>Cr b3 (pv 0) AE λ_ _=>rfl) AF) (AW (qS 3 Pb.nd<|Bb CS (EA Bk Gq OR aA (pv 0)<|CK (Bb BO AE<|pv 5)) AF)<|Cc (qS 4 Pb.nd<|MK (Ci<|Cv AE AE) (Bb CD (Bb Dc (pv 2) AF) AF)))) (qr<|Cn (Cv (Bb DS (Bb DS (DE HQ (pv 0) Ek<|Ej (pv 3))<|Ci (CK<|pv 4))<|DE HQ (pv 0) (Ej<|pv 3) Ek)<|pv 3))),?_};let c6:rh m 50:={(Aa),Aa};let c5:rh m 7:={(Aa),Aa};show{_,O,m,50,O,O,c6,_,O,lv,_,O,.inl<|BX.of a1,_,_,O,O,_,_,O,O,?_,?_};·lia
 rw[Aw];obtain⟨p,hp,b5⟩:∃p:Nat,m/50% (((BA b n gs).length:Int) +1)=(p:Int)/\p<= (BA b n gs).length:=by let h1:=FQ (m/50) (show(((BA b n gs).length:Int) +1)≠0 by lia);let h2:=GP (m/50) (show 0< (((BA b n gs).length:Int) +1)by lia);show{(m/50% (((BA b n gs).length:Int) +1)).toNat,(),()}
 rw[hp];show BV (λσ' H'=>∃l v,σ'=[Y (.ref lv),Y<|.ref l0,Y<|.int m,Y<|.int p,Y v,S]/\Bd H H'/\JU H' l v/\V5 l) ({_,O,m,7,O,O,c5,m/7,O,Int.ediv_nonneg d8 Aa,λv l H' s1 h1 h2=>{(l),v,O,s1,h1,h2}}) ?_;rintro σ' H1 ⟨l1,v1,rfl,s1,d9,b8⟩;show BV (λσ' H'=>σ'=[Y (.ref lv),Y<|.ref l0,Y<|.int m,Y<|.int p,Y v1,S]/\H'=H1) ?_ ?_
 ·show{_,O,m,7,O,O,(by change(0:Int) <7;decide),O,_,O,?_};by_cases hc:V.int (m%7)=V.int 1
  ·show Gc hc {zl 1,λa ha=>{_,O,a,lv,_,_,O,O,Ax,(AZ ha) _ _<|s1 _ _ a1,?_,λL hL=>{zl 2,λt ht=>?_}}}
   ·rw[Aw];show Di (by change 1+_<=_;lia)
   let f5:=WE cE.2.2;show q t L 0 (.txt "5 zzz truth" :: (BA b n gs).map Ln.txt) _ _ (((s1.trans<|AZ ha).trans<|AZ hL).trans<|AZ ht) Ax ((AZ ht) _ _ Ax) (.cons {(O),f5.len}<|OB a8) (λl hl=>?_) ?_<|ko _
   ·rcases AM.mp hl with rfl|hl
    ·show f5.bt
    show jM a8 l hl
   simp_all
  show EN hc {(O),O}
 rintro σ' H' ⟨rfl,rfl⟩;show BV (λσ' H2=>∃p:Nat,∃l v v5,σ'=[Y (.ref lv),Y<|.ref l0,Y<|.int m,Y<|.int p,Y v,v5]/\Bd H H2/\JU H2 l v/\wL l/\p<= (BA b n gs).length/\DI (((BA b n gs).take p).map Ln.txt++l:: ((BA b n gs).drop p).map Ln.txt) 0 [] S= .inl p) ?_ ?_
 ·let stay:∀H2,Bd H' H2->∃U:Nat,∃l v v5,([Y (.ref lv),Y<|.ref l0,Y<|.int m,Y<|.int p,Y v1,S]:L2.St)=[Y (.ref lv),Y<|.ref l0,Y<|.int m,Y<|.int U,Y v,v5]/\Bd H H2/\JU H2 l v/\wL l/\U<= (BA b n gs).length/\DI (((BA b n gs).take U).map Ln.txt++l:: ((BA b n gs).drop U).map Ln.txt) 0 [] S= .inl U:=λH2 s2=>{p,l1,v1,S,O,s1.trans s2,d9.same s2,b8.bt,b5,vQ hR b n b5 b8.bad};let at_:∀j (x:V) (H2:Hp),Bd H' H2->(as.map V.ref)[j]?=Y x->∃g a gl fl,gs[j]?=Y g/\x= .ref a/\H2 a=Y (.dK<|rn g gl fl):=λj x H2 s2 hx=>by
   rw[Be]at hx;let(a,ha,O):=Ce.mp hx;have(g,hg,a',gl,fl,fs,e,hd,_):=Gf hpa j a ha;cases e;show{g,a,gl,fl,hg,O,s2 _ _<|s1 _ _ hd}
  show{_,O,m,7,O,O,(by change(0:Int) <7;decide),O,_,O,?_};by_cases hc:¬V.int (m%7)=V.int 2;·show EN hc<|BW (stay H'<|Bd.refl _)
  show Gc (Decidable.not_not.mp hc) {_,O,l0,O,{_,BX.of<|s1 _ _ a9},?_};show Ku (Wk.list<|BX.of (s1 _ _ a9)) (by rw[Aw];lia) (λj=>match gs[j]? with|some g=>g.choice|none=>ge) (λj=>match as[j]? with|some a=>V.ref a|none=>.non) (λj x hx H2 R s2 hR hN=>?_) λD H2 hD s2 e2=>?_
  ·let(g,a,gl,fl,hg,O,hd):=at_ j x H2 s2 hx;let ha:as[j]?=Y a:=by simp_all
   let a4:=hR H2<|Bd.refl _;let a6:=hN H2<|Bd.refl _;rw[hg,ha]at a4;rw[hg]at a6;show{Sub.set O,_,O,a,_,O,FG hd,_,O,?_};cases a3:g.choice with|true=>show CP {_,O,a4 a3}|false=>show BW<|a6 a3
  show{zl 0,λz hz=>{D,z,_,O,O,(AZ hz) _ _ e2,Ax,_,O,?_}};rw[Aw,<-b2,qy (λi d hd=>by rw[hd])];let s3:=s2.trans<|AZ (u:=.lst []) hz;cases hf:gs.filter (·.choice)with
  |nil=>show BW<|stay _ s3
  |cons g r=>
   let b0:g∈gs.filter (·.choice):=by rw[hf];show Bl ..
   let(b0,c4):=Eg.mp b0;let(k,hk):=Cz.mp b0;let eh:DN g="choice " ++g.nam:=by unfold DN;rw[c4];rfl
   show CP ?_;generalize upd H2 z (.lst [])=H3 at s3;show BV (λσ' H'=>σ'=[Y (.ref lv),Y<|.ref l0,Y<|.int m,Y<|.int p,Y v1,Y<|.str g.nam]/\Bd H H') ?_ ?_
   ·show{_,O,l0,O,{_,BX.of<|s3 _ _ (s1 _ _ a9)},?_};show Ku (Wk.list<|BX.of (s3 _ _<|s1 _ _ a9)) (by rw[Aw];lia) (λj=>match gs[j]? with|some g=>g.choice|none=>ge) (λj=>match gs[j]? with|some g=>V.str g.nam|none=>.non) (λj x hx H4 R s4 hR hN=>?_) λD H4 hD s4 e4=>?_
    ·let(g,a,gl,fl,hg,O,hd):=at_ j x H4 (s3.trans s4) hx;let a4:=hR H4<|Bd.refl _;let a6:=hN H4<|Bd.refl _;rw[hg]at a4 a6;show{Sub.set O,_,O,a,_,O,FG hd,_,O,?_};cases a3:g.choice with|true=>show CP {_,O,a,_,O,Io hd,a4 a3}|false=>show BW<|a6 a3
    rw[Aw,<-b2,Kj gs (·.choice) (λg=>V.str g.nam) _ _ (λi d hd=>by rw[hd]) (λi d hd=>by rw[hd]),hf]at e4;show{D,_,_,_,O,O,BX.of e4,NU,O,(s1.trans s3).trans s4}
   rintro σ' H4 ⟨rfl,s4⟩;let a2:=gw hR b n hk;let e5:=(AQ.mp a2.1).1;let fin:∀(z:AO) (H5:Hp),Bd H H5->kh z=Z->C0 z=Z->∃U:Nat,∃l v v5,([Y (.ref lv),Y<|.ref l0,Y<|.int m,Y<|.int (((Hf b n gs k).length:Nat) +1),Y<|.str z,Y<|.str g.nam]:L2.St)=[Y (.ref lv),Y<|.ref l0,Y<|.int m,Y<|.int U,Y v,v5]/\Bd H H5/\JU H5 l v/\wL l/\U<= (BA b n gs).length/\DI (((BA b n gs).take U).map Ln.txt++l:: ((BA b n gs).drop U).map Ln.txt) 0 [] S= .inl U:=λz H5 s5 hz a7=>{(Hf b n gs k).length+1,.txt z,.str z,_,O,s5,{O,(WE a7).len},(WE a7).bt,e5,hX hR b n hk c4 hz O};show{_,O,.inl {O,_,BX.of<|s4 _ _ a1},_,O,_,_,O,O,Di<|AR (Ct zB<|Er (hR.sp.nms.ok _<|AS.mpr {(g),b0,O}).1) Aa,lv,BA b n gs,_,(Hf b n gs k).length,O,O,s4 _ _ a1,a2.1.trans (by rw[eh]),(),λi y hi hy e=>a2.2 i y hi hy (by rw[eh];show e),_,_,O,O,zl 2,λt ht=>{_,O,m,7,O,O,c5,_,_,O,O,(by change(0:Int) <2;decide),?_}};obtain⟨z,e3,d2,a7⟩:∃z:AO,Yn [V.str "199 zzz truth must",V.str "199 zzz truth = no"] (m/7%2)=Y (.str z)/\kh z=Z/\C0 z=true:=by
    rcases(show m/7%2=0\/m/7%2=1 by lia)with e|e;·rw[e];show{(_),NU,gY.1,cE.1}
    rw[e];show{(_),dA,gY.2,cE.2.1}
   show{t,_,_,_,O,O,BX.of Ax,e3,fin z _ (s4.trans<|AZ (u:=.lst [.str "199 zzz truth must",.str "199 zzz truth = no"]) ht) d2 a7}
 rintro σ' H2 ⟨p,l,v,v5,rfl,s2,hl,e1,b5,e0⟩;let b1:=s2 _ _ a1;show{_,O,_,O,_,O,lv,_,O,BX.of b1,λp1 d7=>?_};let t1:=AZ (u:=.lst<|IT ((BA b n gs).map V.str) S (Y (p:Int))) d7;show{_,O,zl 1,λp2 d6=>?_};let t2:=AZ (u:=.lst [v]) d6;let c1:=Gh ((BA b n gs).map V.str) S<|Y (p:Int);let c2:=Gh ((BA b n gs).map V.str) (Y (p:Int)) S;rw[Aw]at c1 c2;show{p1,p2,_,_,O,O,t2 _ _ Ax,Ax,Di (by change _+1<=_;lia),λp3 d5=>?_};let t3:=AZ (u:=.lst<|IT ((BA b n gs).map V.str) S (Y (p:Int)) ++[v]) d5;show{_,O,_,O,_,O,lv,_,O,BX.of<|t3 _ _ (t2 _ _<|t1 _ _ b1),λp4 d4=>?_};let t4:=AZ (u:=.lst<|IT ((BA b n gs).map V.str) (Y (p:Int)) S) d4;show{p3,p4,_,_,O,O,t4 _ _ Ax,Ax,Di (by rw[AI];change _+1+_<=_;lia),λL hL=>{_,O,zl 2,λt ht=>?_}};let sA:=((((t1.trans t2).trans t3).trans t4).trans<|AZ (u:=.lst<|IT ((BA b n gs).map V.str) S (Y (p:Int)) ++[v] ++IT ((BA b n gs).map V.str) (Y (p:Int)) S) hL).trans<|AZ (u:=.tup [.ref L,.int p]) ht;let b9:=P3 a8 (hl.same sA) p;rw[<-show IT ((BA b n gs).map V.str) S (Y (p:Int)) ++[v] ++IT ((BA b n gs).map V.str) (Y (p:Int)) S=((BA b n gs).map V.str).take p++[v] ++ ((BA b n gs).map V.str).drop p by rw[OI O,Jz O]]at b9;show q t L p _ _ _ (s2.trans sA) Ax ((AZ ht) _ _ Ax) b9 (P4 a8 e1 p) (by rw[yP];lia) e0
def JQ(ws:List (AO×Int))(c:Bool)(es:List Ex)(gone:List Int):AO:=if Fa es=ge then "field" else if CW es gone=ge then "number" else if (es.all λe=>Gg ws<|KN e)=ge then "kind" else if es.all (qv c)=ge then "default" else ""
def gJ(D:es.Perm z)(hg:gone.Perm j)(h:JQ ws c z j=y)(F:y≠ ""):IQ ws c es gone=y:=by
 let e1:Fa es=Fa z:=by unfold Fa;rw[D.all_eq,decide_eq_decide.mpr (D.map _).nodup_iff]
 let U:CW es gone=CW z j:=by unfold CW II;rw[D.all_eq,hg.all_eq,decide_eq_decide.mpr ((D.map _).append hg).nodup_iff]
 unfold IQ;unfold JQ at h;rw[e1,U,D.all_eq,D.all_eq];split at h;·rename_i a;rw[A3n a];show h
 rename_i a;rw[A3m a];split at h;·rename_i a;rw[A3n a];show h
 rename_i a;rw[A3m a];split at h;·rename_i a;rw[A3n a];show h
 rename_i a;rw[A3m a];split at h;·rename_i a;rw[A3n a];show h
 show A3p h.symm F
def U6{z:AO}{A:Prop}(h:z="")(n:decide (z="")=false:=by kernel_rfl):A:=A3p h<|of_decide_eq_false n
def gI{ws:List (AO×Int)}{c:Bool}{nm:Dt}{es:List Ex}{go:List Int}(h:GC ws (.form {c,nm,Y es,go})=""): (DR nm&& !WQ ws nm)=Z/\Fa es=Z/\CW es go=Z/\(es.all λe=>Gg ws<|KN e)=Z/\es.all (qv c)=true:=by
 let h': (if (DR nm&& !WQ ws nm)=ge then ("name" :AO)else if HJ ⟨c,nm,Y es,go⟩=ge then "many" else IQ ws c es go)="":=h
 split at h';·show U6 h'
 rename_i a;split at h';·show U6 h'
 unfold IQ at h';split at h';·show U6 h'
 rename_i D;split at h';·show U6 h'
 rename_i z;split at h';·show U6 h'
 rename_i j;split at h';·show U6 h'
 grind
abbrev kc(p:Pf):Ex:=.fld p.fx
section
variable{gs:List SG}{Ws:List Int}{k:Nat}{g:SG}
structure XH(gs:List SG)(g:SG)(ws:List (AO×Int)):Prop where
 nm: (DR (.str g.nam) && !WQ ws (.str g.nam))=Z
 named:Fa (g.fields.map<|FH gs)=Z
 numbered:CW (g.fields.map<|FH gs) g.gone=Z
 kinds: ((g.fields.map<|FH gs).all λe=>Gg ws<|KN e)=Z
 dfls: (g.fields.map<|FH gs).all (qv g.choice)=Z
def SS(h:JS gs Ws)(hg:gs[k]?=Y g)(ha:Iu gs Ws k ws):XH gs g ws:=by let(a,b,c,d,e):=gI (Qx ha h.sp (ix.of h.sp) hg h.l6).1;show{(a),b,c,d,e}
def w5(gs:List SG)(xp:List Pf)(fs:List SF): (xp++fs.map (Jj gs)).map kc=xp.map kc++fs.map (FH gs):=by rw[Bh,AX];rfl
def jZ(h:JS gs Ws)(hg:gs[k]?=Y g){ws:List (AO×Int)}(ha:Iu gs Ws k ws){d:Pg}{x:Gx}(hx:EO d x)(hn:d.nam=g.nam)(hc:d.choice=g.choice){xp:List Pf}{xn:List Int}(hf:d.fields.Perm (xp++g.fields.map (Jj gs)))(F:d.gone.Perm (xn++g.gone))(hl:xn.length<=1){y:AO}(hy:y≠ "")(hF: (10<xp.length+g.fields.length/\y="many")\/(xp.length+g.fields.length<=10/\JQ ws g.choice (xp.map kc++g.fields.map (FH gs)) (xn++g.gone)=y)):GC ws (.form x)=y:=by
 let(c,nm,fs,go):=x;let(es,D,e2,_):=ju hx.fs;let D:fs=Y es:=D;let h1:c=g.choice:=hx.choice.trans hc;let h2:nm= .str g.nam:=hx.nam.trans (by rw[hn]);let h3:go=Kw d.gone:=hx.gone;let z:es.Perm (xp.map kc++g.fields.map (FH gs)):=by rw[<-w5];show e2.trans<|hf.map _
 let j:go.Perm (xn++g.gone):=by rw[h3];show(MF _).trans F
 subst h1 h2 D;let hG:=SS h hg ha;let U:=h.sp.ok k g hg;let el:es.length=xp.length+g.fields.length:=by rw[z.length_eq,AI,Aw,Aw]
 let gl:go.length=xn.length+g.gone.length:=by rw[j.length_eq,AI]
 change(if (DR (.str g.nam) && !WQ ws (.str g.nam))=ge then ("name" :AO)else if HJ {g.choice,.str g.nam,Y es,go}=ge then ("many" :AO)else IQ ws g.choice es go)=y
 rw[hG.nm,A3m Aa];rcases hF with⟨a5,rfl⟩|⟨a6,h4⟩
 ·rw[A3n];change((_&&decide ((es.length:Int)<=10)) &&_)=ge
  grind
 rw[A3m,gJ z j h4 hy];rw[Bool.not_eq_false];change((decide ((if g.choice then (1:Int)else 0)<= (es.length:Int)) &&decide ((es.length:Int)<=10)) &&decide ((go.length:Int)<=10))=Z
 let hgl:=U.gl;let D: (if g.choice then (1:Int)else 0)<= (es.length:Int):=by
  cases hc:g.choice with
  |false=>change(0:Int)<=_;lia
  |true=>
   change(1:Int)<=_;have:=List.length_pos_iff.mpr<|U.ne hc
   lia
 grind
variable{ws:List (AO×Int)}{p:Pf}
def SK(D:XH gs g ws)(hn:Co p.nam=Z)(z:p.nam∉g.fields.map (·.nam)):Fa (kc p::g.fields.map (FH gs))=true:=by
 let h1:=D.named;unfold Fa at h1 ⊢;rw[AB]at h1 ⊢;show{By.mpr λe j=>?_,A3j ?_}
 ·rcases AM.mp j with rfl|j
  ·show hn
  grind
 rw[Ba];show FP.mpr {λhm=>z ?_,A3l h1.2};rw[AX]at hm;show hm
def oP(j:p.nam∈g.fields.map (·.nam))(c:Bool)(go:List Int):JQ ws c (kc p::g.fields.map (FH gs)) go="field":=by show A3n ?_;unfold Fa;rw[A3k,Gv];intro hd;rw[Ba,AX]at hd;show(FP.mp hd).1 j
def vU:Ue (.int m) 1 200=Z ↔ 1<=m/\m<=200:=by change(decide (1<=m) &&decide (m<=200))=Z ↔ _;simp
def fT(z:XH gs g ws)(hm:1<=p.num/\p.num<=200)(hn:p.num∉g.fields.map (·.num) ++g.gone):CW (kc p::g.fields.map (FH gs)) g.gone=true:=by
 let h1:=z.numbered;unfold CW II at h1 ⊢;rw[AB,AB]at h1 ⊢;show{{By.mpr λe j=>?_,h1.1.2},A3j ?_}
 ·rcases AM.mp j with rfl|j
  ·show vU.mpr hm
  grind
 rw[Ba,Gu];show FP.mpr {λh=>hn ?_,A3l h1.2};rw[AX]at h;show h
def xM(D:XH gs g ws)(hn:Co p.nam=Z)(z:p.nam∉g.fields.map (·.nam))(j:¬ (1<=p.num/\p.num<=200)\/p.num∈g.fields.map (·.num) ++g.gone)(c:Bool):JQ ws c (kc p::g.fields.map (FH gs)) g.gone="number":=by
 show(A3m<|by rw[SK D hn z];decide).trans (A3n ?_);rw[<-Fo];unfold CW II;intro h;rw[AB,AB]at h;rcases j with j|j;·show j<|vU.mp (By.mp h.1.1 (kc p)<|Bl ..)
 let hd:=A3l h.2;rw[Ba,Gu,AX]at hd;show(FP.mp hd).1 j
def tr(D:XH gs g ws)(j:¬ (1<=n/\n<=200)\/n∈g.fields.map (·.num) ++g.gone)(c:Bool):JQ ws c (g.fields.map<|FH gs) (n::g.gone)="number":=by
 show(A3m<|by rw[D.named];decide).trans (A3n ?_);rw[<-Fo];unfold CW II;intro h;rw[AB,AB]at h;rcases j with j|j;·show j<|vU.mp (By.mp h.1.2 n<|Bl ..)
 let hd:=A3l h.2;rw[AX]at hd;let z: (g.fields.map (·.num) ++n::g.gone).Nodup:=hd
 grind
def tm(j:XH gs g ws)(hn:Co p.nam=Z)(z:p.nam∉g.fields.map (·.nam))(hm:1<=p.num/\p.num<=200)(hf:p.num∉g.fields.map (·.num) ++g.gone)(D:Gg ws p.kind=ge)(c:Bool):JQ ws c (kc p::g.fields.map (FH gs)) g.gone="kind":=by
 show(A3m<|by rw[SK j hn z];decide).trans ((A3m<|by rw[fT j hm hf];decide).trans<|A3n ?_);rw[Hk];change(Gg ws p.kind&&_)=ge
 grind
def tu(j:XH gs g ws)(hn:Co p.nam=Z)(z:p.nam∉g.fields.map (·.nam))(hm:1<=p.num/\p.num<=200)(hf:p.num∉g.fields.map (·.num) ++g.gone)(D:Gg ws p.kind=Z)(hd:OH p.fx c=ge):JQ ws c (kc p::g.fields.map (FH gs)) g.gone="default":=by
 show(A3m<|by rw[SK j hn z];decide).trans ((A3m<|by rw[fT j hm hf];decide).trans<|(A3m ?_).trans (A3n ?_));·rw[Hk,j.kinds,Bool.and_true];change ¬Gg ws p.kind=ge;rw[D];decide
 rw[Hk];change(OH p.fx c&&_)=ge
 grind
end
structure we(zs:List AO)(p:Nat)(y:AO):Prop where
 ln:∀z∈zs,Vb z
 len:zs.length<=99
 s:BF y=Z
 rd:∃s,ED (zs.map Ln.txt) [] S=Y s/\(∀g∈s.1++s.2.toList,g.fields.length<=30/\g.gone.length<=30)/\∀gxs,Paired EO (s.1++s.2.toList) gxs->OJ gxs=Y (p,y)
def cg{gs:List SG}{Ws:List Int}(h:JS gs Ws)(b:Bool)(n:Int):∀x∈ET b n gs,(Jl.pg gs x).fields.length<=30/\(Jl.pg gs x).gone.length<=30:=λx hx=>by
 have:=tM h b n _<|AS.mpr {(x),hx,O}
 lia
structure dy(c:Bool)(zs:List AO)(xp:List Pf)(xn:List Int):Prop where
 rd:∀ini (pg:Pg),pg.choice=c->ED (zs.map Ln.txt) ini (Y pg)=Y (ini,Y {pg.nam,pg.choice,pg.fields++xp,pg.gone++xn})
 ln:∀z∈zs,Vb z
def zE(gs:List SG)(g:SG)(xp:List Pf)(xn:List Int)(l:List It):ky gs {g.nam,g.choice,[] ++xp,[] ++xn} l={g.nam,g.choice,xp++ (Ip l).map (Jj gs),xn++IM l}:=rfl
def rR{gs:List SG}{Ws:List Int}(h:JS gs Ws)(b:Bool)(n:Int){k:Nat}{g:SG}(hg:gs[k]?=Y g){zs:List AO}{xp:List Pf}{xn:List Int}(ht:dy g.choice zs xp xn)(b4:zs.length<=11)(b5:xp.length<=11)(a3:xn.length<=1){y:AO}(hs:BF y=Z)(hy:y≠ "")(hF:∀ws,Iu gs Ws k ws->(10<xp.length+g.fields.length/\y="many")\/(xp.length+g.fields.length<=10/\JQ ws g.choice (xp.map kc++g.fields.map (FH gs)) (xn++g.gone)=y))
  {p:Nat}(hp:p=(Hf b n gs k).length+1):we ((BA b n gs).take p++ (zs++ (BA b n gs).drop p)) k y:=by
 subst hp;let(hk,_):=AQ.mp hg;let ho:=h.sp.ok k g hg;let h6:=h.l6;let(p1,p2):=WL b n g;show{λz F=>?_,?_,hs,?_}
 ·rcases Bt.mp F with F|F
  ·show KM h b n z<|Cg F
  show(Bt.mp F).elim (ht.ln z) λF=>KM h b n z<|DU F
 ·have:=Mt h b n;rw[AI,AI,BG,DD]
  lia
 rw[(Ss b n hg).1,(Ss b n hg).2,Bh,Qo<|lE h b n hg,Bh,Qo<|ht.rd _ (M5 g) O,Bh,Jx,AX];let e1:=Vz (b:=b) (c:=g.choice) h.sp.nms (((ET b n gs).take k).map<|Jl.pg gs) (l:=LS b n g) (p:={g.nam,g.choice,[] ++xp,[] ++xn}) (WM h (AL hg) b n) O;rw[zE]at e1;let(s,h1,h2):=QW h.sp.nms (b:=b) (xs:=(ET b n gs).drop<|k+1) (ini:=((ET b n gs).take k).map<|Jl.pg gs) (o:=Y {g.nam,g.choice,xp++ (Ip<|LS b n g).map (Jj gs),xn++IM (LS b n g)}) λx hx=>cQ h b n x<|DU hx;show{s,?_,λq j=>?_,λgxs hm=>?_}
 ·rw[kq];show(Qo e1).trans h1
 ·rw[h2]at j;rcases Bt.mp j with j|j
  ·rcases Bt.mp j with j|j
   ·let(x,hx,O):=AS.mp j;show cg h b n x<|Cg hx
   rw[AN.mp j];let a1:=ho.len;let a2:=ho.gl;show{?_,?_}
   ·change(xp++ (Ip<|LS b n g).map (Jj gs)).length<=30;rw[AI,Aw,p1.length_eq]
    lia
   change(xn++IM (LS b n g)).length<=30;rw[AI,p2.length_eq]
   lia
  let(x,hx,O):=AS.mp j;show cg h b n x<|DU hx
 rw[h2]at hm;let hl:_=gxs.length:=hm.length;let a8: (ET b n gs).length=gs.length:=Aw ..;rw[AI,AI,Aw,Aw,BG,DD,a8]at hl;let hl:min k gs.length+1+ (gs.length - (k+1))=gxs.length:=hl;show kl () () ?_;let(m0,m3,O,a6,_):=Rf hm;let(m1,m2,O,a5,a4):=Rf a6;cases a4 with
 |@cons _ x _ _ hx U=>
  cases U;let e3: (m1.map Ox.form)=(gs.take k).map (Im gs):=by
   let D:Paired EO (((gs.take k).map λg=>(g,LS b n g)).map<|Jl.pg gs) m1:=by rw[Kz];show a5
   rw[AX]at D;rw[tI (f:=λg=>(NH gs g).gx) (Mp D) λg hg x hx=>vM h b n (Cg hg) hx,AX];show Cm λg _=>?_;change Ox.form (NH gs g).gx=Im gs g;rw[cI];rfl
  rw[Bh,Bh,e3,BS];show Xk h.sp h.l6 (GL hk) (o:=.form x) hy λws ha=>jZ h hg ha hx O O (xp:=xp) (xn:=xn) ((p1.map _).append_left xp) (p2.append_left xn) a3 hy<|hF ws ha
def W9(y:AO):Bool:=(decide (y≠ "") &&decide (32∉sg y)) && (decide (y.length<=100) &&BF y)
def W6(h:W9 y=Z):Wo y:=by unfold W9 at h;rw[AB,AB,AB]at h;show{{A3l h.1.1,A3l h.1.2},A3l h.2.1,h.2.2}
def rJ{r:List AO}(h:r.all W9=Z):∀y∈r,Wo y:=λy j=>W6<|By.mp h y j
def ib(j:Vb z)(hw:Gz z=Y ys)(h0:¬ys.getD 0 ""="record" /\¬ys.getD 0 ""="choice")(D:∀pg:Pg,pg.choice=c->Df pg ys=Y {pg.nam,pg.choice,pg.fields++xp,pg.gone++xn}):dy c [z] xp xn:=by
 show{λini pg hc=>?_,λx hx=>by rw[AN.mp hx];show j};show(Kg (x:=(ini,Y {pg.nam,pg.choice,pg.fields++xp,pg.gone++xn})) ?_).trans O;unfold Cp;rw[show Ez (.txt z)=Y ys from hw]
 grind
def F3(h:tailIn n nm k tl c=Y p):tailIn m nm k tl c=Y {(m),p.nam,p.kind,p.must,p.dfl}:=by
 unfold tailIn at h ⊢;split at h;·grind
 rename_i a;rw[A3m a];split at h;·cases h
 rename_i a;rw[A3m a];split at h;·grind
 rename_i a;rw[A3m a];split at h
 ·rename_i a;rw[A3n a];cases hd:IS k (tl.getD 1 "")with|none=>rw[hd]at h;cases h|some d=>rw[hd]at h;cases h;rfl
 cases h
def qj(hx:El x=Y m)(hf:Dj (AG "1" ::nm::r) c=Y p):Dj (x::nm::r) c=Y {(m),p.nam,p.kind,p.must,p.dfl}:=by
 unfold Dj at hf ⊢;rw[show(AG "1" ::nm::r).getD 0 ""=AG "1" from O,show El (AG "1")=Y 1 by decide+kernel]at hf;rw[show(x::nm::r).getD 0 ""=x from O,hx]
 dsimp only at hf ⊢
 rw[show(x::nm::r).getD 1 ""=nm from O,show HZ (x::nm::r) 2=HZ (AG "1" ::nm::r) 2 from O];rw[show(AG "1" ::nm::r).getD 1 ""=nm from O]at hf;split at hf
 ·rename_i a;rw[A3n a];cases z:HZ (AG "1" ::nm::r) 2 with
  |none=>rw[z]at hf;cases hf
  |some y=>
   let(k,j):=y;rw[z]at hf;let e:∀a:AO,(a::nm::r).drop (2+j)=r.drop j:=λa=>by rw[XX];rfl
   dsimp only at hf ⊢
   rw[e]at hf ⊢;show F3 hf
 cases hf
structure ZL(gs:List SG)(Ws:List Int)(k:Nat)(g:SG)(z y:AO):Prop where
 s:BF y=Z
 ne:y≠ ""
 len:z.length<=1000
 ex:∃xp xn,dy g.choice [z] xp xn/\xn.length<=1/\((Cq z S (Y 4)="gone" /\xp=[])\/(¬Cq z S (Y 4)="gone" /\xp.length=1))/\∀ws,Iu gs Ws k ws->JQ ws g.choice (xp.map kc++g.fields.map (FH gs)) (xn++g.gone)=y
def jX:∀i:Fin 202,(match sg (toS (i.val:Int))with|[]=>Z|c::_=>c==103)=false:=⋯
def yr(hm:0<=m/\m<=201)(t:AO):¬Cq (toS m++t) S (Y 4)="gone":=λe=>by
 let j:=A3o sg e;rw[OZ _ Aa,FR]at j;let h:=jX {m.toNat,()}
 dsimp only at h
 rw[LG hm.1]at h;revert h j;generalize sg (toS m)=l;intro j h;cases l with
 |nil=>cases h
 |cons a r=>
  let z:a:: (r++sg t).take 3=[103,111,110,101]:=j
  grind
def tq(h:t=Cj " " r)(j:r≠[]):a++ (" " :AO) ++ (nm++ (" " :AO) ++t)=Cj " " (a::nm::r):=by cases r with|nil=>show A3p O j|cons x r=>rw[EV,EV,h]
def ic(hm:0<=m/\m<=201)(hnm:Co nm=Z)(hr:∀w∈r,Wo w)(F:r≠[])(a4:r.length<=5)(hf:Dj (AG "1" ::nm::r) c=Y p)(ht:t=Cj " " r)(hz:z=toS m++ (" " :AO) ++ (nm++ (" " :AO) ++t)):dy c [z] [{(m),p.nam,p.kind,p.must,p.dfl}] []/\z.length<=1000:=by
 let hb:m.natAbs<2 ^ 256:=Ev (show m.natAbs<=201 by lia) Aa;let U:=hz.trans<|tq ht F;let j:∀w∈toS m::nm::r,Wo w:=GG (JJ hb)<|GG (OX hnm) hr;let h0:∀{w:AO},El w=S->¬toS m=w:=λhw=>SJ hb hw;let hl:Vb z:=by rw[U];show Rs (Cy _ _) j (by rw[BD,BD];lia) λe=>A3p e<|h0 Ab
 show{ib hl (ys:=toS m::nm::r) ?_ {h0 Ab,h0 Ab} λpg hc=>?_,?_};·rw[U];show HV (Cy _ _) λy D=>(j y D).wd
 ·unfold Df;show(A3m<|h0 (w:=AG "gone") Ab).trans ?_;rw[hc,qj (Ov hb) hf,BE];rfl
 rw[U,IG];show Rw (n:=7) (b:=100) (by rw[BD,BD];lia) (λy D=>(j y D).len) Aa
def RD{gs:List SG}{Ws:List Int}{k:Nat}{g:SG}{m:Int}(hm:0<=m/\m<=201){nm:AO}(hnm:Co nm=Z){r:List AO}(hr:∀w∈r,Wo w)(D:r≠[])(j:r.length<=5){p:Pf}(hf:Dj (AG "1" ::nm::r) g.choice=Y p){y:AO}(hs:BF y=Z/\y≠ "")(hF:∀ws,Iu gs Ws k ws->JQ ws g.choice (kc {(m),p.nam,p.kind,p.must,p.dfl}::g.fields.map (FH gs)) g.gone=y){z t:AO}(U:t=Cj " " r)(F:z=toS m++ (" " :AO) ++ (nm++ (" " :AO) ++t)):ZL gs Ws k g z y:=by let(ha,hl):=ic hm hnm hr D j hf U F;show{hs.1,hs.2,hl,_,[],ha,BY _,.inr {?_,O},hF};rw[F,FX];show yr hm _
def pV(m:AO):Cq ("gone " ++m) S (Y 4)="gone":=Vx (by
 change sg (Cq (("gone " :AO) ++m) S<|Y 4)=_;rw[OZ _ Aa,FR,show sg (AG "gone ")=[103,111,110,101,32]by decide+kernel];change [103,111,110,101]=_;decide+kernel)
def SU{gs:List SG}{Ws:List Int}{k:Nat}{g:SG}(h:JS gs Ws)(hg:gs[k]?=Y g){m:Int}(hm:0<=m/\m<=201)(hb:¬ (1<=m/\m<=200)\/m∈g.fields.map (·.num) ++g.gone){z:AO}(U:z="gone " ++toS m):ZL gs Ws k g z "number":=by
 let h2:m.natAbs<2 ^ 256:=Ev (show m.natAbs<=201 by lia) Aa;let F:z=Cj " " [AG "gone",toS m]:=by assumption
 let j:∀w∈ [AG "gone",toS m],Wo w:=GG lw<|GV (JJ h2);show{Ab,Ab,?_,[],[m],ib (ys:=[AG "gone",toS m]) ?_ ?_ {(iZ),iZ} λpg hc=>?_,AU _,.inl {by rw[U];show pV _,O},λws ha=>tr (SS h hg ha) hb _}
 ·rw[F,IG];show Rw (n:=7) (b:=100) (by change 2<=7;decide) (λy D=>(j y D).len) Aa
 ·rw[F];show Rs (Cy _ _) j (by change 2<=7;decide) λ_=>by change 2<=5;decide
 ·rw[F];show HV (Cy _ _) λy D=>(j y D).wd
 unfold Df;show(A3n O).trans ?_;rw[BE];change(OD [El (toS m)]).map _=_;rw[Ov h2];rfl
def pd(K:Az)(j:X.K=K):NA X (DB .NotIn) (rIn K Z):=by subst j;show Rh
def numsOf(g:SG):List Int:=g.fields.map (·.num) ++g.gone
def RE(ms:List Int):List Int:=((Bg 200).filter λj:Nat=>!ms.contains (1+ (j:Int))).map λj:Nat=>1+ (j:Int)
def PY(ms:List Int)(j:Nat):Int:=(RE ms).getD j 0
def uS(x:Int)(ms:List Int):L2.Ym (.int x) (ms.map V.int)=ms.contains x:=by
 unfold L2.Ym;induction ms with
 |nil=>rfl
 |cons y r j=>
  rw[Ba,Ja,j,GO];congr 1;change(y==x)=(x==y)
  grind
def qe(ms:List Int): (ms.map V.int).all Nz=true:=by rw[List.all_map];show By.mpr λ_ _=>rfl
def RH{j:Type}(p q r:j->Bool)(h:∀x,p x=Z->q x=Z\/r x=Z):∀l:List j,(l.filter p).length<= (l.filter q).length+ (l.filter r).length
 |[]=>BY _
 |x::l=>by
  let z:=RH p q r h l
  grind
def WZ{j:Type}(p:j->Bool):∀l:List j,(l.filter p).length+ (l.filter λx=>!p x).length=l.length
 |[]=>rfl
 |x::l=>by
  let z:=WZ p l
  grind
def L9(y:Int)(n:Nat): ((Bg n).filter λj:Nat=>(1+ (j:Int))==y).length<=1:=by
 let nd: ((Bg n).filter λj:Nat=>(1+ (j:Int))==y).Nodup:=List.nodup_range.sublist List.filter_sublist;let hm:∀j∈ (Bg n).filter λj:Nat=>(1+ (j:Int))==y,1+ (j:Int)=y:=λj z=>UF (Eg.mp z).2;revert nd hm;generalize ((Bg n).filter λj:Nat=>(1+ (j:Int))==y)=l;intro nd hm
 match l,nd,hm with
 |[],_,_=>show BY _|[_],_,_=>show AU _
 |a::b::r,nd,hm=>
  let h1:=hm a<|.head _;let h2:=hm b (.tail _<|.head _)
  grind
def gU:∀ms:List Int,((Bg 200).filter λj:Nat=>ms.contains<|1+ (j:Int)).length<=ms.length
 |[]=>by
  simp
 |y::r=>by
  let h:=RH (λj:Nat=>(y::r).contains<|1+ (j:Int)) (λj:Nat=>(1+ (j:Int))==y) (λj:Nat=>r.contains<|1+ (j:Int)) (λx hx=>by
   rw[GO,Qj]at hx;show hx)<|Bg 200
  let h1:=L9 y 200;let h2:=gU r
  grind
def vc(h:ms.length<=20):180<= (RE ms).length:=by
 unfold RE;rw[Aw];let h1:=gU ms;let h2:=WZ (λj:Nat=>ms.contains<|1+ (j:Int)) (Bg 200)
 grind
def gB(h:ms.length<=20)(z:j<180): (RE ms)[j]?=Y (PY ms j):=by
 have:=vc h;unfold PY
 grind
def UX(h:ms.length<=20)(z:j<180):1<=PY ms j/\PY ms j<=200/\PY ms j∉ms:=by
 let hm:=AL<|gB h z;unfold RE at hm
 grind
def A1N: ((["_law_k"]:List AO) ++ (["_law_marks"]:List AO)).Nodup:=⋯
def A1T: ((Av:List AO) ++ ([]:List AO)).Nodup:=⋯
abbrev big:Int:=(2 ^ (64:Int).toNat) ^ (4:Int).toNat
abbrev A4(r:List AO):List AO:=AG "1" ::AG "zzzz" ::r
structure Xs(gs:List SG)(Ws:List Int)(k:Nat)(t:AO):Prop where
 len:t.length<=200
 ex:∃r kx,t=Cj " " r/\r≠[]/\(∀w∈r,Wo w)/\r.length<=5/\(∀c,Dj (A4 r) c=Y {1,"zzzz",kx,ge,Et kx})/\∀ws,Iu gs Ws k ws->Gg ws kx=ge
structure kR(t:AO):Prop where
 len:t.length<=200
 ex:∃r kx d,t=Cj " " r/\r≠[]/\(∀w∈r,Wo w)/\r.length<=5/\Dj (A4 r) ge=Y {1,"zzzz",kx,ge,d}/\(∀ws,Gg ws kx=Z)/\∀m,OH {.int m,.str "zzzz",kx,.bl ge,d} ge=ge
section
variable{gs:List SG}{Ws:List Int}{k:Nat}
def jP(r:List AO)(kx:Kx)(h1:decide (t=Cj " " r)=Z)(h2: (r.all W9&& (decide (r≠[]) && (decide (r.length<=5) &&decide (t.length<=200))))=Z)(h3:∀c,Dj (A4 r) c=Y {1,"zzzz",kx,ge,Et kx})(j:∀ws,Iu gs Ws k ws->Gg ws kx=ge):Xs gs Ws k t:=by rw[AB,AB,AB]at h2;show{A3l h2.2.2.2,r,kx,A3l h1,A3l h2.2.1,rJ h2.1,A3l h2.2.2.1,h3,j}
def zo(r:List AO)(kx:Kx)(d:Dt)(h1:decide (t=Cj " " r)=Z)(h2: (r.all W9&& (decide (r≠[]) && (decide (r.length<=5) &&decide (t.length<=200))))=Z)(h3:Dj (A4 r) ge=Y {1,"zzzz",kx,ge,d})(z:∀ws,Gg ws kx=Z)(j:∀m,OH {.int m,.str "zzzz",kx,.bl ge,d} ge=ge):kR t:=by rw[AB,AB,AB]at h2;show{A3l h2.2.2.2,r,kx,d,A3l h1,A3l h2.2.1,rJ h2.1,A3l h2.2.2.1,h3,z,j}
def cb{P:Bool->Prop}(h1:P Z)(h2:P ge):∀c,P c:=λc=>by cases c <;> assumption
def ZY(h:JS gs Ws)(ha:Iu gs Ws k ws):WQ ws (.str "zzzzz")=false:=cy ha λi g _ hg e=>by
 have:=(h.sp.nms.ok _<|AS.mpr {g,AL hg,O}).2.2;show this (by rw[e];decide+kernel)
def yG:Xs gs Ws k "upto 0":=jP ["upto","0"] (.upto<|.int 0) Ab Ab (cb (by kernel_rfl)<|by kernel_rfl) λws _=>by kernel_rfl
def yH:Xs gs Ws k "text 0":=jP ["text","0"] (.text<|.int 0) Ab Ab (cb (by kernel_rfl)<|by kernel_rfl) λws _=>by kernel_rfl
def pM:Xs gs Ws k "text 101":=jP ["text","101"] (.text<|.int 101) Ab Ab (cb (by kernel_rfl)<|by kernel_rfl) λws _=>by kernel_rfl
def uN:Xs gs Ws k "list upto 0":=jP ["list","upto","0"] (.list<|.upto (.int 0)) Ab Ab (cb (by kernel_rfl)<|by kernel_rfl) λws _=>by kernel_rfl
def O7(h:JS gs Ws):Xs gs Ws k "form zzzzz":=jP ["form","zzzzz"] (.form<|.str "zzzzz") Ab Ab (cb (by kernel_rfl)<|by kernel_rfl) λws ha=>by
 change(_&&WQ ws (.str "zzzzz"))=ge;rw[ZY h ha,Gv]
def yI(h:JS gs Ws):Xs gs Ws k "list form zzzzz":=jP ["list","form","zzzzz"] (.list<|.form (.str "zzzzz")) Ab Ab (cb (by kernel_rfl)<|by kernel_rfl) λws ha=>by
 change(_&&WQ ws (.str "zzzzz"))=ge;rw[ZY h ha,Gv]
def A00:Xs gs Ws k ("upto " ++toS big):=jP ["upto",toS big] (.upto<|.int big) Ab Ab (cb (by kernel_rfl)<|by kernel_rfl) λws _=>by kernel_rfl
def zj{nm x:AO}{c:Bool}(hn:Co nm=Z):Dj (A4 ["form",nm]) c=Y {1,"zzzz",.form<|.str nm,ge,Et<|.form (.str nm)}:=by
 unfold Dj;rw[show El ((A4 ["form",nm]).getD 0 "")=Y 1 by change El (AG "1")=Y 1;decide+kernel]
 dsimp only
 rw[A3n (show Co ((A4 ["form",nm]).getD 1 "")=Z by change Co (AG "zzzz")=Z;decide+kernel)];have:HZ (A4 ["form",nm]) 2=Y (.form<|.str nm,2):=by
  change(if Co nm=Z then Y (Kx.form<|.str nm,2)else S)=_
  rw[A3n hn]
 rw[this];show A3n O
def z9(h:JS gs Ws){g:SG}(hg:gs[k]?=Y g):Xs gs Ws k ("form " ++g.nam):=by
 let hn:=(h.sp.nms.ok _<|AS.mpr {g,AL hg,O}).1;show{?_,["form",g.nam],.form<|.str g.nam,?_,Cy _ _,GG lx<|GV (OX hn),by change 2<=5;decide,λc=>zj (x:="") hn,λws ha=>?_};·rw[bo];show AR (Ct (show(AG "form ").length<=5 by decide+kernel)<|Er hn) Aa
 ·rfl
 have:=(SS h hg ha).nm;rw[AB,Gb]at this;change(_&&WQ ws (.str g.nam))=ge
 grind
def R1:kR "upto 5 = 6":=zo ["upto","5","=","6"] (.upto<|.int 5) (.int 6) Ab Ab (by kernel_rfl) (λ_=>by kernel_rfl) λ_=>by kernel_rfl
def zr:kR "count = -1":=zo ["count","=","-1"] .count (.int<|-1) Ab Ab (by kernel_rfl) (λ_=>by kernel_rfl) λ_=>by kernel_rfl
def R4:kR "text 2 = abc":=zo ["text","2","=","abc"] (.text<|.int 2) (.str "abc") Ab Ab (by kernel_rfl) (λ_=>by kernel_rfl) λ_=>by kernel_rfl
def A0n:kR ("whole = " ++toS big):=zo ["whole","=",toS big] .whole (.int big) Ab Ab (by kernel_rfl) (λ_=>by kernel_rfl) λ_=>by kernel_rfl
def A2(a t:AO):a++ (" zzzz " :AO) ++t=a++ (" " :AO) ++ (("zzzz" :AO) ++ (" " :AO) ++t):=by rw[show(" zzzz " :AO)=(" " :AO) ++ (("zzzz" :AO) ++ (" " :AO))by decide+kernel];rw[FX,FX,FX,FX]
def Ii:Co "zzzz"=true:=⋯
def Vn(h:JS gs Ws)(hg:gs[k]?=Y g): ("zzzz" :AO) ∉g.fields.map (·.nam):=λhm=>B8 ((h.sp.ok k g hg).nms.ok _ hm) O
variable{g:SG}{m:Int}
def pY(h:JS gs Ws)(hg:gs[k]?=Y g)(hm:1<=m/\m<=200)(hf:m∉g.fields.map (·.num) ++g.gone)(z:Xs gs Ws k t):ZL gs Ws k g (toS m++ (" zzzz " :AO) ++t) "kind":=by have(r,kx,e,D,hw,U,hc,F):=z.ex;show RD (p:={1,"zzzz",kx,ge,Et kx}) () Ii hw D U (hc _) {(Ab),Ab} (λws ha=>tm (p:={m,"zzzz",kx,ge,Et kx}) (SS h hg ha) Ii (Vn h hg) hm hf (F ws ha) _) e<|A2 _ _
def qa(h:JS gs Ws)(hg:gs[k]?=Y g)(j:g.choice=ge)(hm:1<=m/\m<=200)(hf:m∉g.fields.map (·.num) ++g.gone)(D:kR t):ZL gs Ws k g (toS m++ (" zzzz " :AO) ++t) "default":=by have(r,kx,d,e,F,hw,h5,hc,U,hd):=D.ex;show RD (p:={1,"zzzz",kx,ge,d}) () Ii hw F h5 (by rw[j];show hc) {(Ab),Ab} (λws ha=>tu (p:={m,"zzzz",kx,ge,d}) (SS h hg ha) Ii (Vn h hg) hm hf (U ws)<|by rw[j];show hd m) e<|A2 _ _
def OG(hn:Co nm=Z):Dj (AG "1" ::nm::[AG "truth"]) c=Y {1,nm,.truth,ge,.bl ge}:=by unfold Dj;rw[show El ((AG "1" ::nm::[AG "truth"]).getD 0 "")=Y 1 by change El (AG "1")=Y 1;decide+kernel];show(A3n hn).trans (A3n O)
def WV(h:JS gs Ws)(hg:gs[k]?=Y g)(hm:0<=m/\m<=201)(D:¬ (1<=m/\m<=200)\/m∈g.fields.map (·.num) ++g.gone)(j:z=toS m++ (" zzzz truth" :AO)):ZL gs Ws k g z "number":=RD hm Ii (GV Oe) (Cy _ _) Aa (OG Ii) {(Ab),Ab} (λws ha=>xM (p:={m,"zzzz",.truth,ge,.bl ge}) (SS h hg ha) Ii (Vn h hg) D _) (IL _).symm (by
  rw[j,FX];congr 1)
def pX(h:JS gs Ws)(hg:gs[k]?=Y g)(hm:1<=m/\m<=200)(hn:nm∈g.fields.map (·.nam))(j:z=toS m++ (" " :AO) ++nm++ (" truth" :AO)):ZL gs Ws k g z "field":=by let hnm:=((h.sp.ok k g hg).nms.ok _ hn).1;show RD () hnm (GV Oe) (Cy _ _) Aa (OG hnm) {(Ab),Ab} (λws ha=>oP (p:={m,nm,.truth,ge,.bl ge}) hn _ _) (IL _).symm ?_;rw[j,FX,FX,FX];congr 2
end
structure FL(gs:List SG)(Ws:List Int)(k:Nat)(g:SG)(H0 H:Hp)(L:AH)(n:Nat):Prop where
 new:H0 L=S
 same:Bd H0 H
 ex:∃(ts:List AH) (zys:List (AO×AO)),H L=Y (.lst<|ts.map V.ref)/\Paired (λzy t=>H t=Y (.tup [.str zy.1,.str zy.2])) zys ts/\(∀zy∈zys,ZL gs Ws k g zy.1 zy.2)/\0<zys.length/\zys.length<=n
section
variable{gs:List SG}{Ws:List Int}{k:Nat}{g:SG}{H0 H H':Hp}{L:AH}{n:Nat}
def FL.mono(h:FL gs Ws k g H0 H L n)(s:Bd H H'):FL gs Ws k g H0 H' L n:=by let(ts,zys,a,b,c,d,e):=h.ex;show{h.new,h.same.trans s,ts,zys,s _ _ a,L2.Paired.imp' (λ_ _ z=>s _ _ z) b,c,d,e}
def FL.more(h:FL gs Ws k g H0 H L n)(hm:n<=m):FL gs Ws k g H0 H L m:=by let(ts,zys,a,b,c,d,e):=h.ex;show{h.new,h.same,ts,zys,a,b,c,d,()}
def FL.push(h:FL gs Ws k g H0 H L n)(hr:ZL gs Ws k g z y)(j:H t=S)(hn:n<=100):∃xs,upd H t (.tup [.str z,.str y]) L=Y (.lst xs)/\xs.length<sizeLine/\FL gs Ws k g H0 (upd (upd H t<|.tup [.str z,.str y]) L<|.lst (xs++[.ref t])) L (n+1)/\∀b o,b≠L->H b=Y o->upd (upd H t<|.tup [.str z,.str y]) L (.lst<|xs++[.ref t]) b=Y o:=by
 have(ts,zys,a,b,c,d,e):=h.ex;let st:=AZ (u:=.tup [.str z,.str y]) j;let hl:=b.length;let F:t≠L:=λe=>by rw[e,a]at j;cases j
 let keep:∀b o,b≠L->H b=Y o->upd (upd H t<|.tup [.str z,.str y]) L (.lst<|ts.map V.ref++[.ref t]) b=Y o:=λb o U e=>by
  rw[AT U];show st _ _ e
 show{ts.map V.ref,st _ _ a,?_,{h.new,(h.same.trans st).put h.new,ts++[t],zys++[(z,y)],?_,?_,?_,?_,?_},keep};·rw[Aw];show DM ()
 ·rw[Ax,Bh];rfl
 ·show Nc (L2.Paired.imp' (λzy t' e=>keep _ _ (λx=>by rw[x,a]at e;cases e) e) b) (.cons (by rw[AT F];show Ax) .nil)
 ·grind
 ·simp
 simp_all
def FL.sq(h:FL gs Ws k g H0 H L n):∃xs,H L=Y (.lst xs):=by let(ts,_,e,_):=h.ex;show{(_),e}
def FL.set(h:FL gs Ws k g H0 H L n)(h0:H0 C=S)(hn:C≠L)(D:H C=Y (.lst ys)):FL gs Ws k g H0 (upd H C<|.lst z) L n:=by have(ts,zys,a,b,c,d,e):=h.ex;show{h.new,h.same.put h0,ts,zys,by rw[AT hn.symm];show a,L2.Paired.imp' (λzy t' e=>by rw[AT (λx=>by rw[x,D]at e;cases e)];show e) b,c,d,e}
end
inductive kJ(vs:List V)(H:Hp)(Q:VK):Prop|mk (v gs Ws k g m:_) (_:vs=[v,.str<|toS m]) (_:XF H g v) (_:JS gs Ws) (_:gs[k]?=some g) (_: (1<=m/\m<=200)) (_:m∉g.fields.map (·.num) ++g.gone) (_:∀L H',FL gs Ws k g H H' L 30->Q (.ref L) H')
def ou:Sp:=λvs H Q _=>kJ vs H Q
def pw4:L2.nJ (2 ^ (64:Int).toNat) 4:={(Aa),Ab}
def nu:big.natAbs.log2<1920:=⋯
def nv: (toS big).length<=100:=⋯
def Rv: (AG "upto ").length<=10/\(AG "form ").length<=10/\(AG "whole = ").length<=10/\(AG " zzzz ").length<=10/\(AG " zzzz truth").length<=20/\(AG "gone ").length<=10/\(AG " truth").length<=10/\(AG " ").length<=1:=⋯
def NJ{a b:AO}{m n:Nat}(ha:a.length<=m)(j:b.length<=n)(h:m+n<=1000):a.length+b.length<=sizeLine:=Di ()
def gm{a b:AO}{m n:Nat}(ha:a.length<=m)(j:b.length<=n): (a++b).length<=m+n:=by rw[bo];lia
def pw(T:Tx K mg):∅ 1 1112 ["_law_form","_law_free"] ou:=by
 show(T.df 54 O).okA Ik ?_;intro 1 hr h;have(v,gs,Ws,k,g,m,O,(a,gl,fl,xs,O,ha,hgl,e3,e2),hR,hg,hm,hf,q):=h;let hu:=hr.units;let b1:=Ny hr;show{_,AY (qS 2 Ik.nd<|Ci (Bc (Cn<|Cv AE AE)<|Bc (Cn<|Cv AE AE) (Cv (Cn<|Cv AE AE)<|Cn (Cv AE AE))))<|AY (qS 3 Ik.nd<|Ci (Bc AE<|Bc AE (Bc AE<|Bc AE (Cv AE AE)))) (AY (DG<|EA Bk BC BB Dp (pv 3) (CK<|Bb BO AE (qT Em T.KA Ia<|CK (Bb Ph (Bb Ph AF AF) AF))))<|AY (DG<|EA Bk BC BB Dp (pv 3) (CK<|Bb BO AE (Cr b1 (pv 0) AE λ_ _=>rfl))) (AY (JN EC O (CY<|pv 3) (BQ (i:=4) Ik.nd O<|Cd O)<|Cc (DG<|EA Bk BC BB Dp (pv 2) (CK<|Cn (Cv (Bb BO (Bb BO (pv 1) AE)<|pv 4) AE))))<|AY (JN EC O (CY<|DE HQ (Cr b1 (pv 0) AE λ_ _=>rfl) Ek (Ej AF)) (BQ (i:=5) Ik.nd O<|Cd O)<|AW (qS 6 Ik.nd<|qT Em T.KA Ia (CK<|Cr b1 (pv 5) AE (λ_ _=>rfl))) (AY (DG<|EA Bk BC BB Dp (pv 2) (CK<|Cn (Cv (Bb BO (pv 6) AE) AE)))<|AY (DG<|EA Bk BC BB Dp (pv 2) (CK<|Cn (Cv (Bb BO AE<|pv 6) AE))) (Cc<|DG (EA Bk BC BB Dp (pv 2)<|CK (Cn<|Cv (Bb BO (Bb BO (Bb BO (pv 1) AE)<|Cr b1 (pv 5) AE (λ_ _=>rfl)) AE) AE))))) (AY (qS 7 Ik.nd<|Ci (Bc AE<|Cv AE AE))<|AY (DG<|EA Bk BC BB Dp (pv 7) (CK<|Bb BO AE (qT Em T.KA Ia<|CK (Bb Ph (Bb Ph AF AF) AF)))) (AY (JN EC O (CY<|pv 7) (BQ (i:=4) Ik.nd O<|Cd O)<|Cc (qi (Dn<|BN (Cr b1 (pv 0) AE λ_ _=>rfl))<|Cc (DG<|EA Bk BC BB Dp (pv 2) (CK<|Cn (Cv (Bb BO (Bb BO (pv 1) AE)<|pv 4) AE)))))<|qr (pv 2))))),?_};let a5:=Gw hm;let b5:=Er (hR.sp.nms.ok _<|AS.mpr {g,AL hg,O}).1;show BV (λσ' H'=>∃L,σ'=[Y (.ref a),Y<|.str (toS m),Y<|.ref L,S,S,S,S,S]/\FL gs Ws k g H H' L 4) ?_ ?_
 ·show{zl 2,λt1 h1=>{zl 2,λt2 h2=>{zl 2,λt3 h3=>{zl 2,λt4 h4=>{zl 4,λL hL=>{L,O,?_}}}}}};let s1:=AZ (u:=.tup [.str "201 zzzz truth",.str "number"]) h1;let s2:=AZ (u:=.tup [.str "0 zzzz truth",.str "number"]) h2;let s3:=AZ (u:=.tup [.str "gone 201",.str "number"]) h3;let s4:=AZ (u:=.tup [.str "gone 0",.str "number"]) h4;let s5:=AZ (u:=.lst [.ref t1,.ref t2,.ref t3,.ref t4]) hL;let sA:=(((s1.trans s2).trans s3).trans s4);show{sA.free hL,sA.trans s5,[t1,t2,t3,t4],[(AG "201 zzzz truth",AG "number"),(AG "0 zzzz truth",AG "number"),(AG "gone 201",AG "number"),(AG "gone 0",AG "number")],Ax,.cons (s5 _ _<|s4 _ _ (s3 _ _<|s2 _ _ Ax))<|.cons (s5 _ _<|s4 _ _ (s3 _ _ Ax)) (.cons (s5 _ _<|s4 _ _ Ax)<|.cons (s5 _ _ Ax) .nil),λzy hz=>?_,by change 0<4;decide,by change 4<=4;decide};rcases AM.mp hz with rfl|hz
  ·show WV (m:=201) hR hg Aa (.inl Aa) Ab
  rcases AM.mp hz with rfl|hz;·show WV (m:=0) hR hg Aa (.inl Aa) Ab
  rcases AM.mp hz with rfl|hz;·show SU (m:=201) hR hg Aa (.inl Aa) Ab
  rw[AN.mp hz];show SU (m:=0) hR hg Aa (.inl Aa) Ab
 rintro σ' H1 ⟨L,rfl,a7⟩;show BV (λσ' H'=>∃C,σ'=[Y (.ref a),Y<|.str (toS m),Y<|.ref L,Y<|.ref C,S,S,S,S]/\FL gs Ws k g H H' L 4/\H C=S/\C≠L/\H' C=Y (.lst<|[("upto 0" :AO),"text 0","text 101","form zzzzz","list form zzzzz","list upto 0"].map V.str)) ?_ ?_;·show{zl 6,λC hC=>{C,O,a7.mono<|AZ hC,a7.same.free hC,λz=>?_,Ax}};let(ts,zys,e,_):=a7.ex;rw[z,e]at hC;cases hC
 rintro σ' H2 ⟨C,rfl,f1,d4,nC,c2⟩;show BV (λσ' H'=>σ'=[Y (.ref a),Y<|.str (toS m),Y<|.ref L,Y<|.ref C,S,S,S,S]/\FL gs Ws k g H H' L 4/\H' C=Y (.lst<|[("upto 0" :AO),"text 0","text 101","form zzzzz","list form zzzzz","list upto 0","upto " ++toS big].map V.str)) ({_,O,.inl {O,_,BX.of c2},_,_,O,O,J9,_,_,O,O,pw4,_,O,nu,_,_,O,O,NJ Rv.1 nv Aa,C,_,_,O,O,c2,by change 6<sizeLine;decide,O,f1.set d4 nC c2,Ax}) ?_;rintro σ' H3 ⟨rfl,c7,c1⟩;show BV (λσ' H'=>∃ks:List AO,(∀t∈ks,Xs gs Ws k t)/\ks.length=8/\σ'=[Y (.ref a),Y<|.str (toS m),Y<|.ref L,Y<|.ref C,S,S,S,S]/\FL gs Ws k g H H' L 4/\H' C=Y (.lst<|ks.map V.str)) ?_ ?_
 ·show{_,O,.inl {O,_,BX.of c1},_,O,a,_,O,Io<|c7.same _ _ ha,_,_,O,O,NJ Rv.2.1 b5 Aa,C,_,_,O,O,c1,by change 7<sizeLine;decide,["upto 0","text 0","text 101","form zzzzz","list form zzzzz","list upto 0","upto " ++toS big,"form " ++g.nam],λt j=>?_,O,O,c7.set d4 nC c1,Ax};rcases AM.mp j with rfl|j
  ·show yG
  rcases AM.mp j with rfl|j;·show yH
  rcases AM.mp j with rfl|j;·show pM
  rcases AM.mp j with rfl|j;·show O7 hR
  rcases AM.mp j with rfl|j;·show yI hR
  rcases AM.mp j with rfl|j;·show uN
  rcases AM.mp j with rfl|j;·show A00
  rw[AN.mp j];show z9 hR hg
 rintro σ' H4 ⟨ks,b8,g4,rfl,f0,d3⟩;show BV (λσ' H'=>∃v4,σ'=[Y (.ref a),Y<|.str (toS m),Y<|.ref L,Y<|.ref C,v4,S,S,S]/\FL gs Ws k g H H' L 12) ?_ ?_
 ·show{_,O,C,O,{_,BX.of d3},?_};show OF (xs:=ks.map V.str) (λi σ' H'=>∃v4,σ'=[Y (.ref a),Y<|.str (toS m),Y<|.ref L,Y<|.ref C,v4,S,S,S]/\FL gs Ws k g H H' L (4+i)/\H' C=Y (.lst<|ks.map V.str)) {(_),O,f0,d3} (λi σ' H' _ h=>by let(_,_,_,e):=h;show BX.of e) (λi x σ' H5 hx h=>?_) λσ' H' h=>?_
  ·let(v4,O,a6,f3):=h;rw[Be]at hx;let(t,j,O):=Ce.mp hx;let hi:=(AQ.mp j).1;let b2:=b8 t<|AL j;let(_,e9):=a6.sq;show⟨_,O,.inl {O,_,BX.of e9},_,O,_,_,O,O,NJ a5 Rv.2.2.2.1 Aa,_,O,_,_,O,O,NJ (gm a5 Rv.2.2.2.1) b2.len Aa,zl 2,λu hu=>by
    have(_,e,hz,a3,keep):=a6.push (pY hR hg hm hf b2) hu ();show{L,_,_,O,O,e,hz,_,O,a3,keep _ _ nC f3}⟩
  simp_all
 rintro σ' H5 ⟨v4,rfl,a6⟩;let e1:IT xs S (Y 1)=xs.take 1:=OI (k:=1) O;show BV (λσ' H'=>∃v5 v6,σ'=[Y (.ref a),Y<|.str (toS m),Y<|.ref L,Y<|.ref C,v4,v5,v6,S]/\FL gs Ws k g H H' L 15) ?_ ?_
 ·show{_,O,a,_,O,Gy<|a6.same _ _ ha,_,O,fl,_,O,BX.of<|a6.same _ _ e3,λF1 a7=>?_};rw[e1];let nF:F1≠L:=λz=>by
   let(_,e):=a6.sq;rw[z,e]at a7;cases a7
  show{F1,O,{_,BX.of Ax},?_};show OF (xs:=xs.take 1) (λi σ' H'=>∃v5 v6,σ'=[Y (.ref a),Y<|.str (toS m),Y<|.ref L,Y<|.ref C,v4,v5,v6,S]/\FL gs Ws k g H H' L (12+3*i)/\H' F1=Y (.lst<|xs.take 1)) {_,_,O,a6.mono<|AZ a7,Ax} (λi σ' H' _ h=>by let(_,_,_,_,e):=h;show BX.of e) (λi x σ' H6 hx h=>?_) λσ' H' h=>?_
  ·let(v5,v6,O,a2,d0):=h;let hi:=(AQ.mp hx).1;rw[BG]at hi;rw[EF ()]at hx;have(f,e4,b,kv,dv,O,hb,_,_):=Gf e2 i x hx;let b6:=AL e4;let ho:=hR.sp.ok k g hg;let c4:=ho.nums.bd f.num<|Cu _ (AS.mpr {(f),b6,O});let c5:f.num∈g.fields.map (·.num) ++g.gone:=Cu _<|AS.mpr {(f),b6,O};let c6:=Er (ho.nms.ok f.nam<|AS.mpr {(f),b6,O}).1;let b5:=Gw c4;let(_,e8):=a2.sq;show{_,O,b,_,O,LU<|a2.same _ _ hb,f.num,O,Il (),?_};show BV (λσ' H'=>σ'=[Y (.ref a),Y<|.str (toS m),Y<|.ref L,Y<|.ref C,v4,Y<|.ref b,Y<|.str (toS f.num),S]/\FL gs Ws k g H H' L (12+3*i+1)/\H' F1=Y (.lst<|xs.take 1)) ?_ ?_
   ·show⟨_,O,.inl {O,_,BX.of e8},_,O,_,_,O,O,NJ b5 Rv.2.2.2.2.1 Aa,zl 2,λu hu=>by
    have(_,e,hz,a3,keep):=a2.push (WV hR hg () (.inr c5) O) hu ();show{L,_,_,O,O,e,hz,O,a3,keep _ _ nF d0}⟩
   rintro σ' H7 ⟨rfl,b7,c9⟩;let(_,e7):=b7.sq;show BV (λσ' H'=>σ'=[Y (.ref a),Y<|.str (toS m),Y<|.ref L,Y<|.ref C,v4,Y<|.ref b,Y<|.str (toS f.num),S]/\FL gs Ws k g H H' L (12+3*i+1+1)/\H' F1=Y (.lst<|xs.take 1)) ?_ ?_
   ·show⟨_,O,.inl {O,_,BX.of e7},_,O,_,_,O,O,NJ Rv.2.2.2.2.2.1 b5 Aa,zl 2,λu hu=>by
    have(_,e,hz,a3,keep):=b7.push (SU hR hg () (.inr c5) O) hu ();show{L,_,_,O,O,e,hz,O,a3,keep _ _ nF c9}⟩
   rintro σ' H8 ⟨rfl,b3,c8⟩;let(_,e6):=b3.sq;show⟨_,O,.inl {O,_,BX.of e6},_,O,_,_,O,O,NJ a5 Rv.2.2.2.2.2.2.2 Aa,_,O,b,_,O,TZ<|b3.same _ _ hb,_,_,O,O,NJ (gm a5 Rv.2.2.2.2.2.2.2) c6 Aa,_,_,O,O,NJ (gm (gm a5 Rv.2.2.2.2.2.2.2) c6) Rv.2.2.2.2.2.2.1 Aa,zl 2,λu hu=>by
    have(_,e,hz,a3,keep):=b3.push (pX hR hg hm (AS.mpr {(f),b6,O}) O) hu ();show{L,_,_,O,O,e,hz,_,_,O,a3,keep _ _ nF c8}⟩
  let(v5,v6,O,a2,_):=h;show{v5,v6,O,a2.more ?_};rw[BG]
  lia
 rintro σ' H6 ⟨v5,v6,rfl,a2⟩;show BV (λσ' H'=>∃D,σ'=[Y (.ref a),Y<|.str (toS m),Y<|.ref L,Y<|.ref C,v4,v5,v6,Y<|.ref D]/\FL gs Ws k g H H' L 15/\H D=S/\D≠L/\H' D=Y (.lst<|[("upto 5 = 6" :AO),"count = -1","text 2 = abc"].map V.str)) ?_ ?_;·show{zl 3,λD hD=>{D,O,a2.mono<|AZ hD,a2.same.free hD,λz=>?_,Ax}};let(_,e):=a2.sq;rw[z,e]at hD;cases hD
 rintro σ' H7 ⟨D,rfl,b7,f2,nD,b9⟩;show BV (λσ' H'=>∃ks:List AO,(∀t∈ks,kR t)/\ks.length=4/\σ'=[Y (.ref a),Y<|.str (toS m),Y<|.ref L,Y<|.ref C,v4,v5,v6,Y<|.ref D]/\FL gs Ws k g H H' L 15/\H' D=Y (.lst<|ks.map V.str)) ?_ ?_
 ·show{_,O,.inl {O,_,BX.of b9},_,_,O,O,J9,_,_,O,O,pw4,_,O,nu,_,_,O,O,NJ Rv.2.2.1 nv Aa,D,_,_,O,O,b9,by change 3<sizeLine;decide,["upto 5 = 6","count = -1","text 2 = abc","whole = " ++toS big],λt j=>?_,O,O,b7.set f2 nD b9,Ax};rcases AM.mp j with rfl|j
  ·show R1
  rcases AM.mp j with rfl|j;·show zr
  rcases AM.mp j with rfl|j;·show R4
  rw[AN.mp j];show A0n
 rintro σ' H8 ⟨ks,b8,e0,rfl,b3,d2⟩;show BV (λσ' H'=>∃v4,σ'=[Y (.ref a),Y<|.str (toS m),Y<|.ref L,Y<|.ref C,v4,v5,v6,Y<|.ref D]/\FL gs Ws k g H H' L 30) ?_ ?_
 ·show{_,O,D,O,{_,BX.of d2},?_};show OF (xs:=ks.map V.str) (λi σ' H'=>∃v4,σ'=[Y (.ref a),Y<|.str (toS m),Y<|.ref L,Y<|.ref C,v4,v5,v6,Y<|.ref D]/\FL gs Ws k g H H' L (15+i)/\H' D=Y (.lst<|ks.map V.str)) {(_),O,b3,d2} (λi σ' H' _ h=>by let(_,_,_,e):=h;show BX.of e) (λi x σ' H9 hx h=>?_) λσ' H' h=>?_
  ·let(v4,O,a1,d1):=h;rw[Be]at hx;let(t,j,O):=Ce.mp hx;let hi:=(AQ.mp j).1;let b2:=b8 t<|AL j;let(_,e5):=a1.sq;show{_,O,a,_,O,FG<|a1.same _ _ ha,_,O,?_};cases hc:g.choice with
   |true=>show BW {_,O,a1.more (),d1}
   |false=>
    show CP ⟨_,O,.inl {O,_,BX.of e5},_,O,_,_,O,O,NJ a5 Rv.2.2.2.1 Aa,_,O,_,_,O,O,NJ (gm a5 Rv.2.2.2.1) b2.len Aa,zl 2,λu hu=>by
    have(_,e,hz,a3,keep):=a1.push (qa hR hg hc hm hf b2) hu ();show{L,_,_,O,O,e,hz,_,O,a3,keep _ _ nD d1}⟩
  let(v4,O,a1,_):=h;rw[Aw,e0]at a1;show{v4,O,a1.more Aa}
 rintro σ' H9 ⟨v4,rfl,a1⟩;show{_,O,q L H9 a1}
section
variable{gs:List SG}{Ws:List Int}{b:Bool}{n:Int}
def bF(h:JS gs Ws)(hx:∀x∈xs,x.Ok gs/\(Jl.pg gs x).fields.length<=30/\(Jl.pg gs x).gone.length<=30)(F:zs.map Ln.txt=(xs.map<|Jl.lns b gs).flatten)(D:∀z∈zs,Vb z)(hl:zs.length<=9)(hs:BF y=Z)(hb:∀gxs,Paired EO ((ET b n gs++xs).map<|Jl.pg gs) gxs->OJ gxs=Y (p,y)):we (BA b n gs++zs) p y:=by
 let(s,h1,h2):=oR h b n λx j=>(hx x j).1;show{λz F=>(Bt.mp F).elim (KM h b n z)<|D z,?_,hs,s,?_,λq U=>?_,λgxs hm=>hb gxs<|by rw[<-h2];show hm}
 ·have:=Mt h b n
  grind
 ·simp_all
 rw[h2]at U;let(x,j,O):=AS.mp U;show(Bt.mp j).elim (cg h b n x) λj=>(hx x j).2
def A1p(h:JS gs Ws):we (BA b n gs++[AG "choice zzzz",AG "1 a truth"]) gs.length "head":=by
 show bF h (xs:=[bz]) (λx hx=>?_) ?_ (λz j=>?_) Aa Ab λgxs hm=>X2 h b n hm;·rw[AN.mp hx];show{{Ii,λi hi=>?_},by change 1<=30;decide,by change 0<=30;decide};rw[AN.mp hi];show{trivial,Aa,{Ab,λx e=>A3p (show(sg f1a.nam).length=4 from A3o Jg e) Ab,Ab},.inl O,λ_=>{(O),O}}
 ·rfl
 rcases AM.mp j with rfl|j;·show WE Ab
 rw[AN.mp j];show WE Ab
def nw(j:Co z=Z):Jl.Ok gs (bare ge z,[])/\(Jl.pg gs (bare ge z,[])).fields.length<=30/\(Jl.pg gs (bare ge z,[])).gone.length<=30:={{j,λi hi=>nomatch hi},by change 0<=30;decide,by change 0<=30;decide}
def A1o(h:JS gs Ws)(hg:g∈gs):we (BA b n gs++["record " ++g.nam]) gs.length "name":=by
 let hn:=(h.sp.nms.ok _<|AS.mpr {(g),hg,O}).1;show bF h (xs:=[(bare ge g.nam,[])]) (λx hx=>?_) O (λz j=>?_) (by change 1<=9;decide) Ab λgxs hm=>X1 h b n hg hm;·rw[AN.mp hx];show nw hn
 rw[AN.mp j];show cH (g:=bare ge g.nam) hn
abbrev wR:AO:="abcdefghi"
def jI:∀c∈sg wR,Co ("zzzz" ++ ({#[c]}:AO))=Z/\("record zzzz" :AO) ++ ({#[c]}:AO)=DN (bare ge<|"zzzz" ++ ({#[c]}:AO)):=⋯
def A1n(h:JS gs Ws)(hc:j=(sg wR).take (9 - gs.length)):we (BA b n gs++j.map λc=>("record zzzz" :AO) ++ ({#[c]}:AO)) 0 "forms":=by
 let h6:=h.l6;let hm:∀c∈j,c∈sg wR:=λc h=>by rw[hc]at h;show Cg h
 let D:j.length=9 - gs.length:=by
  rw[hc,BG,show(sg wR).length=9 by decide+kernel]
  lia
 show bF h (xs:=j.map λc=>(bare ge<|"zzzz" ++ ({#[c]}:AO),[])) (λx hx=>?_) ?_ (λz U=>?_) (by rw[Aw];lia) Ab λgxs hm=>X0 h b n (by rw[Aw];show D) hm;·let(c,hc,O):=AS.mp hx;show nw (jI c<|hm c hc).1
 ·rw[AX,AX];clear D hc;induction j with
  |nil=>rfl
  |cons c r F=>
   rw[Ba,Ba,Ee,<-F λd hd=>hm d<|Bi _ hd];rfl
 let(c,hc,O):=AS.mp U;rw[(jI c<|hm c hc).2];show cH (jI c<|hm c hc).1
def qG(h1:dy c [z] xp xn)(h2:dy c zs j D):dy c (z::zs) (xp++j) (xn++D):=by
 show{λini pg hc=>?_,λy F=>?_};·rw[Ba,show Ln.txt z::zs.map Ln.txt=[z].map Ln.txt++zs.map Ln.txt from O,Qo<|h1.rd ini pg hc];rw[<-BS,<-BS];show h2.rd ini {pg.nam,pg.choice,pg.fields++xp,pg.gone++xn} hc
 rcases AM.mp F with rfl|F;·show h1.ln _<|Bl ..
 show h2.ln y F
def vX(c:Bool):dy c [] [] []:=⟨λini pg _=>by
 change Y (ini,Y pg)=_;rw[BE,BE],λ_ h=>nomatch h⟩
def Rr(ms:List Int)(j:Nat)(c:Nat):AO:=toS (PY ms j) ++ (" zzzz" :AO) ++ ({#[c]}:AO) ++ (" truth" :AO)
abbrev rC:AO:="abcdefghijk"
def Q7:∀c∈sg rC,Co ("zzzz" ++ ({#[c]}:AO))=true:=⋯
def aB(F:Bool)(hm:ms.length<=20):∀(D:List Nat) (i:Nat),(∀c∈D,c∈sg rC)->i+D.length<=11->∃xp,xp.length=D.length/\dy F (D.zipIdx i |>.map λx=>Rr ms x.2 x.1) xp []
 |[],_,_,_=>{[],O,vX F}
 |c::D,i,hc,hi=>by
  rw[BD]at hi;let(xp,e,ha):=aB F hm D (i+1) (λd hd=>hc d<|Bi _ hd) ();let hn:=Q7 c<|hc c (Bl ..);let hf:=UX hm (j:=i) ();let h1:=(ic (c:=F) (m:=PY ms i) () hn (GV Oe) (Cy _ _) Aa (OG hn) (z:=Rr ms i c) (IL _).symm (by
   unfold Rr;rw[show(" zzzz" :AO)=(" " :AO) ++ ("zzzz" :AO)by decide+kernel,show(" truth" :AO)=(" " :AO) ++ ("truth" :AO)by decide+kernel,FX,FX,FX,FX,FX,FX])).1
  show{_,by rw[AI,e];change 1+_=_;rw[BD];lia,qG h1 ha}
def A1m(h:JS gs Ws)(hg:gs[k]?=Y g)(hp:p=(Hf b n gs k).length+1):we ((BA b n gs).take p++ ((sg rC).zipIdx.map (λx=>Rr (numsOf g) x.2 x.1) ++ (BA b n gs).drop p)) k "many":=by
 let z:=h.sp.ok k g hg;let j: (numsOf g).length<=20:=by
  unfold numsOf;rw[AI,Aw];have:=z.len;have:=z.gl
  lia
 let D: (sg rC).length=11:=⋯
 let(xp,e,ha):=aB g.choice j (sg rC) 0 (λ_ h=>h) (by rw[D];decide);show rR h b n hg ha (by rw[Aw,UJ,D];decide) () Aa Ab Ab (λws _=>.inl {(),O}) hp
def A1l(h:JS gs Ws)(hg:gs[k]?=Y g)(F:ZL gs Ws k g z y)(j:D=if 9<g.fields.length/\¬Cq z S (Y 4)="gone" then AG "many" else y)(hp:p=(Hf b n gs k).length+1):we ((BA b n gs).take p++ ([z] ++ (BA b n gs).drop p)) k D:=by
 have(xp,xn,ha,hn,hs,hF):=F.ex;let a7:=(h.sp.ok k g hg).len;let a4:xp.length<=1:=by grind
 let go:BF D=Z->D≠ "" ->(∀ws,Iu gs Ws k ws->(10<xp.length+g.fields.length/\D="many")\/(xp.length+g.fields.length<=10/\JQ ws g.choice (xp.map kc++g.fields.map (FH gs)) (xn++g.gone)=D))->we ((BA b n gs).take p++ ([z] ++ (BA b n gs).drop p)) k D:=λa1 a2 a3=>rR h b n hg ha (by change 1<=11;decide) () hn a1 a2 a3 hp;split at j
 ·rename_i hc;rcases hs with⟨e,_⟩|⟨_,e⟩
  ·simp_all
  show go (by rw[j];decide+kernel) (by rw[j];decide+kernel) λws _=>.inl {(),j}
 rename_i hc;show go (by rw[j];show F.s) (by rw[j];show F.ne) λws hA=>.inr {?_,by rw[j];show hF ws hA}
 grind
end
def ve{z:AO}{g:TG}{tb:TS}{D:UE}{σ:L2.St}{H:Hp}(Pv:Nat->L2.St->Hp->Prop)(h0:Pv 0 σ H)(hs:∀i c T σ H,(sg z)[i]?=Y c->Pv i σ H->H T=S->g (.ref T) σ (upd H T<|.tup [.int (i:Nat),.str {#[c]}]) λj H2=>tb {D with nx:=Pv<|i+1,ct:=Pv<|i+1,bk:=D.nx} j H2)(hd:∀σ H,Pv z.length σ H->D.nx σ H):
  ∃W:Nat->Nat->L2.St->Hp->Prop,(∃m,W 0 m σ H)/\∀i m σ H,W i m σ H->((D7 z).stop i H/\D.nx σ H)\/((D7 z).go i H/\∃N:L2.St->Hp->Prop,(∀σ' H',N σ' H'->∃U,U<m/\W (i+1) U σ' H')/\∀x H',(D7 z).yld i H x H'->g x σ H' λj H2=>tb {D with nx:=N,ct:=N,bk:=D.nx} j H2):=by
 show{λi m σ H=>m=z.length - i/\i<=z.length/\Pv i σ H,{z.length,by simp,BY _,h0},?_};rintro i m σ H ⟨rfl,hi,p⟩;by_cases F:i<z.length
 ·show .inr {F,Pv<|i+1,λσ' H' p'=>{z.length - (i+1),(),O,F,p'},λx H' y=>?_};let(T,c,O,hT,O,hc):=y
  grind
 let e:i=z.length:=()
 subst e;show .inl {O,hd σ H p}
def Qp(l:List (Option V)):L2.St:=l++CO (16 - l.length) S
def yu: ((["_law_sign"]:List AO) ++ ([]:List AO)).Nodup:=⋯
def gk:wR.length<=1000/\rC.length=11/\(AG " zzzz").length<=10/\(AG "record zzzz").length<=20/\(AG "record ").length<=10:=⋯
def uI(c:Nat): ({#[c]}:AO).length<=1:=AU 1
inductive qK(vs:List V)(H:Hp)(Q:VK):Prop|mk (lv:AH) (sv:V) (gs:List SG) (Ws:List Int) (b:Bool) (n m:Int) (_:vs=[sv,.ref lv,.int m]) (_:0<=m) (_:QB H gs sv) (_:JS gs Ws) (_:H lv=some (.lst<|(BA b n gs).map V.str)) (_:∀t L u zs (p:Nat) y H',Bd H H'->H' t=some (.tup [.ref L,.ref u])->H' L=some (.lst<|zs.map V.str)->H' u=some (.tup [.str "book",.int (p:Nat),.str y])->we zs p y->Q (.ref t) H')
def sw:Sp:=λvs H Q _=>qK vs H Q
def uc(T:Tx K mg):∅ 2 1117 ["_law_spec_here","_law_lines_here","_law_number_here"] sw:=by
 let b2:=@pw P w K mg base T;show(T.df 55 O).okA CC ?_;intro 1 hr h;let(lv,sv,gs,Ws,b,n,m,O,i8,(l0,as,O,f2,hpa),hR,a1,q):=h;let hu:=hr.units;let a7:=Ny hr;show⟨_,AW (qS 3 CC.nd<|Bb CD (pv 2) AF) (AY (qi (qc Do (pv 3) AF)<|qr (Cn<|Cv (Bb DS (pv 1)<|Ci (Cv AE AE)) (Cn<|Bc AE (Cv (qB BU T.Ey Ds<|CK (pv 0)) AE)))) (AY (qi (qc Do (pv 3) AF)<|AW (qS 4 CC.nd<|Cr a7 (MK (pv 0)<|Bb CD (Bb Dc (pv 2) AF) (qB BU T.Ey Ds<|CK (pv 0))) AE (λ_ _=>rfl)) (qr<|Cn (Cv (Bb DS (pv 1)<|Ci (CK<|Bb BO AE (pv 4)))<|Cn (Bc AE<|Cv (qB BU T.Ey Ds<|CK (pv 0)) AE)))) (AY (qi (qc Do (pv 3) AF) (AW (Nb (i:=5) (ts:=["_law_sign"]) (xs:=[]) (js:=[]) O {O,O,Ab,Ab,SV O} .nil Ab (jt<|DE Oi AE Ek (Ej<|Bb Wf AF (qB BU T.Ey Ds<|CK (pv 0)))) (λC s_ H_ fp=>BQ (i:=0) yu O (Cd O)<|CV O) (λC s_ H_ fp=>US) (λC s_ H_ fp=>Bb BO AE<|pv 0)
    CC.nd O (Cd O) O)
    (qr<|Cn (Cv (Bb DS (pv 1)<|pv 5)<|Cn (Bc AE<|Cv AF AE)))))
  (AY (qS 6 CC.nd<|Bb CD (Bb Dc (pv 2) AF) (qB BU T.Ey Ds<|CK (pv 0)))
  (AY (qS 7 CC.nd<|MK (pv 0) (pv 6))
  (AY (qS 8 CC.nd<|HM (BN<|Cr a7 (pv 7) AE (λ_ _=>rfl)) AE AE)
  (AY (qS 9 CC.nd<|Bb CS (EA Bk Gq OR aA (pv 1)<|CK (Bb BO (pv 8)<|Cr a7 (pv 7) AE (λ_ _=>rfl))) AF)
  (AY (qS 10 CC.nd<|Bb DS (Re Av [] [] .nil (CY<|Cr a7 (pv 7) AE (λ_ _=>rfl)) (λC s_ H_ fp=>BQ (i:=0) A1T O (Cd O)<|CV O) λC s_ H_ fp=>Cr a7 (pv 0) AE λ_ _=>rfl) (Cr a7 (pv 7) AE λ_ _=>rfl))
  (AY (Nb (i:=11) (ts:=["_law_k"]) (xs:=["_law_marks"]) (js:=[10]) O {O,O,Ab,Ab,SV O} (.cons O (.inl O) O .nil) Ab (oU O T.Jm<|Cv AF AF) (λC s_ H_ fp=>BQ (i:=0) A1N O (Cd O)<|CV O) (λC s_ H_ fp=>Rg<|Lu (pd K O) (pv 0) (pv 1) O) (λC s_ H_ fp=>qT Em T.KA Ia<|CK (pv 0))
    CC.nd O (Cd O) O)
  (AY (qi (qc Do (pv 3) AF)<|AW (qS 5 CC.nd<|Ci FU) (AY (JN EC O (yb O T.Lg AE) (Op O (n:=2)<|EG (BQ (i:=12) CC.nd O<|Cd O) (EG (BQ (i:=13) CC.nd O<|Cd O) Lv))<|Cc (DG<|EA Bk BC BB Dp (pv 5) (CK<|Bb BO (Bb BO (Bb BO (MK (pv 11)<|pv 12) AE)<|pv 13) AE)))<|qr (Cn<|Cv (Bb DS (Bb DS (DE HQ (pv 1) Ek<|Ej (pv 9))<|pv 5)<|DE HQ (pv 1) (Ej<|pv 9) Ek) (Cn<|Bc AE (Cv (pv 6) AE)))))
  (AY (qS 14 CC.nd<|qD b2 hr (T.d2 54 O λ_ _ _ _ _ _ _ _=>rfl) (Cv (pv 7)<|MK (pv 11) AF))
  (AY (jq (MK (pv 14)<|Bb CD (Bb Dc (pv 2) AF) (qB BU T.Ey Ds<|CK (pv 14)))<|Op O (n:=2) (EG (BQ (i:=15) CC.nd O<|Cd O)<|EG (BQ (i:=8) CC.nd O<|Cd O) Lv))
  (AY (qi (PW.pt<|FT (qc TR (qB BU T.Ey Ds<|CK (Cr a7 (pv 7) AE λ_ _=>rfl)) AF) (Fu<|qc Ri (DE Oi (pv 15) Ek<|Ej AF) AE))<|Cc (qS 8 CC.nd AE))
  (qr<|Cn (Cv (Bb DS (Bb DS (DE HQ (pv 1) Ek<|Ej (pv 9))<|Ci (CK<|pv 15))<|DE HQ (pv 1) (Ej<|pv 9) Ek)<|Cn (Bc AE<|Cv (pv 6) (pv 8))))))))))))))))),?_⟩
 let j5:=Mt hR b n;let h6:=hR.l6;let h1:=hR.l1;let b3:=hpa.length;let c3:rh m 12:={(Aa),Aa};let f6:rh m 72:={(Aa),Aa};let fin:∀{zs:List AO} {p:Nat} {y:AO} {H1:Hp} {L:AH},Bd H H1->H1 L=Y (.lst<|zs.map V.str)->we zs p y->∀u,H1 u=S->∀t,upd H1 u (.tup [.str "book",.int (p:Nat),.str y]) t=S->Q (.ref t) (upd (upd H1 u<|.tup [.str "book",.int (p:Nat),.str y]) t<|.tup [.ref L,.ref u]):=λs1 e1 hW u hu t ht=>
  q t _ u _ _ _ _ ((s1.trans<|AZ hu).trans<|AZ ht) Ax ((AZ ht) _ _<|(AZ hu) _ _ e1) ((AZ ht) _ _ Ax) hW
 obtain⟨xs,a6,c8,e7⟩:∃xs:List V,H l0=Y (.lst xs)/\xs.length=gs.length/\∀(i:Nat) (g:SG),gs[i]?=Y g->∃a,xs[i]?=Y (.ref a)/\XF H g (.ref a):=⟨as.map V.ref,f2,by rw[Aw,b3],λi g hg=>by
  obtain⟨a,ha⟩:∃a,as[i]?=Y a:={_,AA<|by rw[<-b3];show(AQ.mp hg).1};show{a,by rw[Be,ha];rfl,SE hpa i g a hg ha}⟩
 clear hpa f2 b3;let hpos: (0:Int) < (xs.length:Int):=()
 obtain⟨k,hk,f3⟩:∃k:Nat,m/12% (xs.length:Int)=(k:Int)/\k<gs.length:=by let h1:=FQ (m/12)<|Yg hpos;let h2:=GP (m/12) hpos;show{(m/12% (xs.length:Int)).toNat,(),()}
 let hg:=AA f3;generalize gs[k]'f3=g at hg;have(a,e6,a',gl,fl,fs,ea,ha,hgl,b7,d8):=e7 k g hg;cases ea;let h3:Yn xs (m/12% (xs.length:Int))=Y (.ref a):=by rw[hk];show FN e6
 let f4:=AL hg;let b1:=hR.sp.nms.ok _<|AS.mpr {(g),f4,O};let f1:=Er b1.1;let ho:=hR.sp.ok k g hg;clear e7;show{_,O,m,12,O,O,(by change(0:Int) <12;decide),?_};change Ub 3 (V.int<|m%12) _ _ _;generalize m%12=U;let c6:∀{x:Nat},x<=12->((BA b n gs).map V.str).length+x<=sizeLine:=λh=>by rw[Aw];show Di ()
 show BV (λσ' H'=>σ'=Qp [Y (.ref l0),Y<|.ref lv,Y<|.int m,Y<|.int U]/\H'=H) ?_ ?_;·show{_,O,O,_,O,Hs (λ_=>?_) λ_=>{(O),O}};show{_,O,zl 2,λc hc=>{lv,c,_,_,O,O,(AZ hc) _ _ a1,Ax,c6 (by change 2<=12;decide),λL hL=>{_,O,l0,_,O,.inl<|BX.of ((AZ hL) _ _<|(AZ hc) _ _ a6),zl 3,λu hu=>{zl 2,λt ht=>?_}}}};show fin ((AZ hc).trans<|AZ hL) (zs:=BA b n gs++[AG "choice zzzz",AG "1 a truth"]) (by rw[Ax,Bh];rfl) (by rw[c8];show A1p hR) u hu t ht
 rintro σ' H ⟨rfl,rfl⟩;show BV (λσ' H2=>σ'=Qp [Y (.ref l0),Y<|.ref lv,Y<|.int m,Y<|.int U]/\H2=H) ?_ ?_;·show{_,O,O,_,O,Hs (λ_=>?_) λ_=>{(O),O}};show{_,O,_,O,m,12,O,O,c3,_,O,l0,_,O,.inl<|BX.of a6,_,_,O,O,hpos,l0,_,_,_,O,O,BX.of a6,h3,a,_,O,Io ha,?_};show{_,O,_,O,_,_,O,O,NJ gk.2.2.2.2 f1 Aa,zl 1,λc hc=>{lv,c,_,_,O,O,(AZ hc) _ _ a1,Ax,c6 (by change 1<=12;decide),λL hL=>{_,O,l0,_,O,.inl<|BX.of ((AZ hL) _ _<|(AZ hc) _ _ a6),zl 3,λu hu=>{zl 2,λt ht=>?_}}}};show fin ((AZ hc).trans<|AZ hL) (zs:=BA b n gs++["record " ++g.nam]) (by rw[Ax,Bh];rfl) (by rw[c8];show A1o hR f4) u hu t ht
 rintro σ' H ⟨rfl,rfl⟩;show BV (λσ' H2=>σ'=Qp [Y (.ref l0),Y<|.ref lv,Y<|.int m,Y<|.int U]/\H2=H) ?_ ?_
 ·show{_,O,O,_,O,Hs (λ_=>?_) λ_=>{(O),O}};show{_,O,l0,_,O,.inl<|BX.of a6,_,_,O,O,_,O,_,O,Di gk.1,_,O,?_};let e8:sg (Cq wR S<|Y (9 - (xs.length:Int)))=(sg wR).take (9 - gs.length):=by
   rw[OZ _ (),c8];congr 1
   lia
  show IU (l:=sg<|Cq wR S (Y<|9 - (xs.length:Int))) (Wk.str _) (by rw[oF,Aw]) (by rw[QX,<-Fj,e8,BG];show AR (Nat.min_le_left _ _)<|()) (λc=>.str<|("record zzzz" :AO) ++ ({#[c]}:AO)) (λj c x hc hx H3 R s3 hR=>?_) λD H3 hD s3 e3=>?_;·rw[oF,Be,hc]at hx;cases hx;show{Sub.set O,_,O,_,_,O,O,NJ gk.2.2.2.1 (uI c) Aa,hR _<|Bd.refl _}
  let i9: (sg<|Cq wR S (Y<|9 - (xs.length:Int))).length<=9:=by grind
  show{_,O,_,O,lv,D,_,_,O,O,s3 _ _ a1,e3,c6 (by rw[Aw];lia),λL hL=>{zl 3,λu hu=>{zl 2,λt ht=>?_}}};show fin (p:=0) (s3.trans<|AZ hL) (zs:=BA b n gs++ (sg<|Cq wR S (Y<|9 - (xs.length:Int))).map λc=>("record zzzz" :AO) ++ ({#[c]}:AO)) (by rw[Ax,Bh,AX];rfl) (A1n hR e8) u hu t ht
 rintro σ' H ⟨rfl,rfl⟩;show BV (λσ' H2=>σ'=Qp [Y (.ref l0),Y<|.ref lv,Y<|.int m,Y<|.int U,S,S,Y<|.int (k:Nat)]/\H2=H) ?_ ?_;·show{_,O,m,12,O,O,c3,_,O,l0,_,O,.inl<|BX.of a6,_,_,O,O,hpos,?_};change Ub 6 (V.int<|m/12% (xs.length:Int)) _ _ _;rw[hk];show{(O),O}
 rintro σ' H ⟨rfl,rfl⟩;show BV (λσ' H2=>σ'=Qp [Y (.ref l0),Y<|.ref lv,Y<|.int m,Y<|.int U,S,S,Y<|.int (k:Nat),Y<|.ref a]/\H2=H) ?_ ?_;·show{_,O,_,O,l0,_,_,_,O,O,BX.of a6,FN e6,O,O}
 rintro σ' H ⟨rfl,rfl⟩;show BV (λσ' H2=>σ'=Qp [Y (.ref l0),Y<|.ref lv,Y<|.int m,Y<|.int U,S,S,Y<|.int (k:Nat),Y<|.ref a,Y<|.str (if g.choice then ("choice " :AO)else "record ")]/\H2=H) ?_ ?_
 ·show{_,O,a,_,O,FG ha,_,O,?_};cases hc:g.choice with|true=>show CP {(O),O}|false=>show BW {(O),O}
 rintro σ' H ⟨rfl,rfl⟩;let hsl: (if g.choice then ("choice " :AO)else "record ").length<=10:=by cases g.choice <;> decide+kernel
 let b4:=gw hR b n hg;let j0:=(AQ.mp b4.1).1;obtain⟨p,hp⟩:∃p,p=(Hf b n gs k).length+1:={(_),O};show BV (λσ' H2=>σ'=Qp [Y (.ref l0),Y<|.ref lv,Y<|.int m,Y<|.int U,S,S,Y<|.int (k:Nat),Y<|.ref a,Y<|.str (if g.choice then ("choice " :AO)else "record "),Y<|.int (p:Nat)]/\H2=H) ?_ ?_;·show{_,O,.inl {O,_,BX.of a1},_,O,_,O,a,_,O,Io ha,_,_,O,O,NJ hsl f1 Aa,lv,BA b n gs,_,(Hf b n gs k).length,O,O,a1,b4.1,(),b4.2,_,_,O,O,?_};change Ub 9 (V.int<|((Hf b n gs k).length:Int) +1) _ _ _;rw[show((Hf b n gs k).length:Int) +1=(p:Int)by lia];show{(O),O}
 rintro σ' H ⟨rfl,rfl⟩;let h0:=ho.len;let i4:=ho.gl;let f5:g.fields.length=fs.length:=d8.length;let hnm: (numsOf g).length<=20:=by
  unfold numsOf;rw[AI,Aw]
  lia
 show BV (λσ' H2=>∃ml,σ'=Qp [Y (.ref l0),Y<|.ref lv,Y<|.int m,Y<|.int U,S,S,Y<|.int (k:Nat),Y<|.ref a,Y<|.str (if g.choice then ("choice " :AO)else "record "),Y<|.int (p:Nat),Y<|.ref ml]/\Bd H H2/\H2 ml=Y (.lst<|(numsOf g).map V.int)) ?_ ?_
 ·show{_,O,a,_,O,Gy ha,fl,O,{_,BX.of b7},IU (l:=g.fields) (Wk.list<|BX.of b7) f5 () (λf=>.int f.num) (λi f y hf hy H2 R s2 hR=>?_) λD H2 hD s2 e2=>?_}
  ·have(c,kv,dv,O,hc,_,_):=SE d8 i f y hf hy;show{Sub.set O,_,O,c,_,O,LU<|s2 _ _ hc,hR _<|Bd.refl _}
  show{_,O,a,_,O,Lx<|s2 _ _ ha,D,gl,_,_,O,O,e2,s2 _ _ hgl,?_,λml d6=>{ml,O,s2.trans<|AZ d6,?_}};·rw[Aw,Aw];show Di ()
  rw[Ax];unfold numsOf;simp
 rintro σ' H1 ⟨ml,rfl,s1,d6⟩;show BV (λσ' H2=>∃fr,σ'=Qp [Y (.ref l0),Y<|.ref lv,Y<|.int m,Y<|.int U,S,S,Y<|.int (k:Nat),Y<|.ref a,Y<|.str (if g.choice then ("choice " :AO)else "record "),Y<|.int (p:Nat),Y<|.ref ml,Y<|.ref fr]/\Bd H H2/\H2 fr=Y (.lst<|(RE<|numsOf g).map λi=>.str<|toS i)) ?_ ?_
 ·show{1,201,O,{(Aa),Aa,Aa,Aa},?_};show Ku (Wk.rng 1 200) (by rw[Aw,BZ];decide) (λi=>!(numsOf g).contains (1+ (i:Int))) (λi=>.str<|toS (1+ (i:Int))) (λi x hx H2 R s2 hR hN=>?_) λD H2 hD s2 e2=>?_
  ·let(O,hi):=Qr hx;show{Sub.set O,_,O,_,O,ml,_,O,.inl<|BX.of (s2 _ _ d6),O,qe _,_,O,?_};rw[uS];cases hc: (numsOf g).contains (1+ (i:Int))with|true=>show BW (hN H2 (Bd.refl _)<|by rw[hc];rfl)|false=>show CP {_,O,_,O,Il (Ev (show(1+ (i:Int)).natAbs<=201 by lia) Aa),hR H2 (Bd.refl _)<|by rw[hc];rfl}
  show{D,O,s1.trans s2,?_};rw[e2,Aw,BZ];unfold RE;rw[AX];rfl
 rintro σ' H2 ⟨fr,rfl,s2,b6⟩;let c5:∀{j:Nat},j<180->Yn ((RE<|numsOf g).map λi=>V.str<|toS i) (j:Int)=Y (.str<|toS (PY (numsOf g) j)):=λhj=>FN (by rw[Be,gB hnm hj];rfl);let c1:=Gh ((BA b n gs).map V.str) S<|Y (p:Int);let c2:=Gh ((BA b n gs).map V.str) (Y (p:Int)) S;rw[Aw]at c1 c2;show BV (λσ' H3=>σ'=Qp [Y (.ref l0),Y<|.ref lv,Y<|.int m,Y<|.int U,S,S,Y<|.int (k:Nat),Y<|.ref a,Y<|.str (if g.choice then ("choice " :AO)else "record "),Y<|.int (p:Nat),Y<|.ref ml,Y<|.ref fr]/\H3=H2) ?_ ?_
 ·show{_,O,O,_,O,Hs (λ_=>?_) λ_=>{(O),O}};show{zl 0,λM hM=>?_};let h4:H M=none:=s2.free hM;show BV (λσ' H3=>∃a5 a4,σ'=Qp [Y (.ref l0),Y<|.ref lv,Y<|.int m,Y<|.int U,S,Y<|.ref M,Y<|.int (k:Nat),Y<|.ref a,Y<|.str (if g.choice then ("choice " :AO)else "record "),Y<|.int (p:Nat),Y<|.ref ml,Y<|.ref fr,a5,a4]/\Bd H H3/\H3 M=Y (.lst<|((sg rC).zipIdx.map λx=>Rr (numsOf g) x.2 x.1).map V.str)) ?_ ?_
  ·show{rC,O,?_};show ve (z:=rC) (λi σ' H3=>∃a5 a4,σ'=Qp [Y (.ref l0),Y<|.ref lv,Y<|.int m,Y<|.int U,S,Y<|.ref M,Y<|.int (k:Nat),Y<|.ref a,Y<|.str (if g.choice then ("choice " :AO)else "record "),Y<|.int (p:Nat),Y<|.ref ml,Y<|.ref fr,a5,a4]/\Bd H H3/\H3 fr=Y (.lst<|(RE<|numsOf g).map λi=>.str<|toS i)/\H3 M=Y (.lst<|(((sg rC).zipIdx.take i).map λx=>Rr (numsOf g) x.2 x.1).map V.str)) {S,S,O,s2.trans<|AZ hM,(AZ hM) _ _ b6,Ax} (λi c T0 σ' H3 hc h hT=>?_) λσ' H3 h=>?_
   ·let(a5,a4,O,s3,b8,a8):=h;let hi:i<11:=by have:=(AQ.mp hc).1;rw[Fj,gk.2.1]at this;show this
    let st:=AZ (u:=.tup [.int (i:Nat),.str {#[c]}]) hT;let c7:=Gw (n:=PY (numsOf g) i) (by have:=UX hnm (j:=i) ();lia);let g3:fr≠M:=λz=>by rw[z,hM]at b6;cases b6
    show{T0,_,O,GK.of Ax,O,_,_,O,_,_,O,O,?_};show{_,O,.inl {O,_,BX.of<|st _ _ a8},_,O,_,O,fr,_,_,_,O,O,BX.of<|st _ _ b8,c5 (),_,_,O,O,NJ c7 gk.2.2.1 Aa,_,O,_,_,O,O,NJ (gm c7 gk.2.2.1) (uI c) Aa,_,_,O,O,NJ (gm (gm c7 gk.2.2.1)<|uI c) Rv.2.2.2.2.2.2.1 Aa,M,_,_,O,O,st _ _ a8,?_,_,_,O,(s3.trans st).put h4,?_,?_};·rw[Aw,Aw,BG];show DM ()
    ·rw[AT g3];show st _ _ b8
    rw[Ax,Gr,List.getElem?_zipIdx,hc,Bh,Bh];change _=Y (HO.lst<|_++[V.str (Rr (numsOf g) (0+i) c)]);rw[XS];rfl
   let(a5,a4,O,s3,_,a8):=h;show{a5,a4,O,s3,?_};rw[a8,GM (by rw[UJ,Fj];show AU _)]
  rintro σ' H3 ⟨a5,a4,rfl,s3,a8⟩;let d5: ((sg rC).zipIdx.map λx=>Rr (numsOf g) x.2 x.1).length=11:=by rw[Aw,UJ,Fj,gk.2.1]
  generalize hZ: ((sg rC).zipIdx.map λx=>Rr (numsOf g) x.2 x.1)=zs at a8 d5;show{_,O,_,O,_,O,lv,_,O,BX.of<|s3 _ _ a1,λp1 d4=>?_};let t1:=AZ (u:=.lst<|IT ((BA b n gs).map V.str) S (Y (p:Int))) d4;show{_,O,p1,M,_,_,O,O,Ax,t1 _ _ a8,Di (by rw[Aw];lia),λp3 d3=>?_};let t3:=AZ (u:=.lst<|IT ((BA b n gs).map V.str) S (Y (p:Int)) ++zs.map V.str) d3;show{_,O,_,O,_,O,lv,_,O,BX.of<|t3 _ _ (t1 _ _<|s3 _ _ a1),λp4 d1=>?_};let t4:=AZ (u:=.lst<|IT ((BA b n gs).map V.str) (Y (p:Int)) S) d1;show{p3,p4,_,_,O,O,t4 _ _ Ax,Ax,Di (by rw[AI,Aw];lia),λL hL=>{_,O,zl 3,λu hu=>{zl 2,λt ht=>?_}}};show fin ((((s3.trans t1).trans t3).trans t4).trans<|AZ hL) (zs:=(BA b n gs).take p++ (zs++ (BA b n gs).drop p)) ?_ (by rw[<-hZ];show A1m hR hg hp) u hu t ht;rw[Ax,OI O,Jz O,Bh,Bh,Kz,Hi,BS]
 rintro σ' H2 ⟨rfl,rfl⟩;show BV (λσ' H3=>∃rl,σ'=Qp [Y (.ref l0),Y<|.ref lv,Y<|.int m,Y<|.int U,S,S,Y<|.int (k:Nat),Y<|.ref a,Y<|.str (if g.choice then ("choice " :AO)else "record "),Y<|.int (p:Nat),Y<|.ref ml,Y<|.ref fr,S,S,Y<|.ref rl]/\FL gs Ws k g H2 H3 rl 30) ?_ ?_;·show{_,O,_,O,fr,_,_,_,O,O,BX.of b6,c5 (j:=0) Aa,.ref a,gs,Ws,k,g,PY (numsOf g) 0,O,{a,gl,fl,fs,O,s2 _ _ ha,s2 _ _ hgl,s2 _ _ b7,L2.Paired.imp' (λ_ _ z=>z.sm<|Sm.of s2) d8},hR,hg,(by have:=UX hnm (j:=0) Aa;lia),(UX hnm (j:=0) Aa).2.2,λL H3 hF=>{(L),O,hF}}
 rintro σ' H3 ⟨rl,rfl,f7⟩;have(ts,zys,f0,e5,e9,i6,i1):=f7.ex;let s3:=s2.trans f7.same;let i0:zys.length=ts.length:=e5.length;show BV (λσ' H4=>∃z y,ZL gs Ws k g z y/\σ'=Qp [Y (.ref l0),Y<|.ref lv,Y<|.int m,Y<|.int U,S,S,Y<|.int (k:Nat),Y<|.ref a,Y<|.str y,Y<|.int (p:Nat),Y<|.ref ml,Y<|.ref fr,S,S,Y<|.ref rl,Y<|.str z]/\H4=H3) ?_ ?_
 ·let d0: (0:Int) < ((ts.map V.ref).length:Int):=by rw[Aw];lia
  obtain⟨j,hj,d7⟩:∃j:Nat,m/72% ((ts.map V.ref).length:Int)=(j:Int)/\j<ts.length:=by let h1:=FQ (m/72)<|Yg d0;let h2:=GP (m/72) d0;rw[Aw]at *;show{(m/72% (ts.length:Int)).toNat,(),()}
  let c9:ts[j]?=Y (ts[j]'d7):=AA d7;generalize ts[j]'d7=t0 at c9;let(zy,g4,g6):=Gf e5 j t0 c9;show{_,O,_,O,m,72,O,O,f6,_,O,rl,_,O,.inl<|BX.of f0,_,_,O,O,d0,rl,_,_,.ref t0,O,O,BX.of f0,(by rw[hj];show FN<|by rw[Be,c9];rfl),t0,_,O,GK.of g6,O,_,_,O,_,_,O,O,zy.1,zy.2,e9 zy<|AL g4,O,O}
 rintro σ' H3 ⟨z,y,b9,rfl,rfl⟩;show BV (λσ' H4=>∃y',y'=(if 9<g.fields.length/\¬Cq z S (Y 4)="gone" then AG "many" else y)/\σ'=Qp [Y (.ref l0),Y<|.ref lv,Y<|.int m,Y<|.int U,S,S,Y<|.int (k:Nat),Y<|.ref a,Y<|.str y',Y<|.int (p:Nat),Y<|.ref ml,Y<|.ref fr,S,S,Y<|.ref rl,Y<|.str z]/\H4=H3) ?_ ?_
 ·show{_,O,a,_,O,Gy<|s3 _ _ ha,fl,_,O,.inl<|BX.of (s3 _ _ b7),_,_,O,O,_,O,?_};by_cases h9: (9:Int) < (fs.length:Int)
  ·show Gc h9 {_,O,_,O,z,O,Di b9.len,O,_,O,?_};by_cases b1:V.str (Cq z S<|Y 4)=V.str "gone"
   ·show WN b1 {y,by rw[A3m (λh=>h.2<|V.str.inj b1)],O,O}
   show jR b1 {AG "many",by rw[A3n {(),λh=>b1<|by rw[h]}],O,O}
  show EN h9 (BW {y,by rw[A3m (λh=>h9<|())],O,O})
 rintro σ' H3 ⟨y',g5,rfl,rfl⟩;show{_,O,_,O,_,O,lv,_,O,BX.of<|s3 _ _ a1,λp1 d4=>?_};let t1:=AZ (u:=.lst<|IT ((BA b n gs).map V.str) S (Y (p:Int))) d4;show{_,O,zl 1,λp2 g8=>?_};let t2:=AZ (u:=.lst [.str z]) g8;show{p1,p2,_,_,O,O,t2 _ _ Ax,Ax,Di (by change _+1<=_;lia),λp3 d3=>?_};let t3:=AZ (u:=.lst<|IT ((BA b n gs).map V.str) S (Y (p:Int)) ++[.str z]) d3;show{_,O,_,O,_,O,lv,_,O,BX.of<|t3 _ _ (t2 _ _<|t1 _ _ (s3 _ _ a1)),λp4 d1=>?_};let t4:=AZ (u:=.lst<|IT ((BA b n gs).map V.str) (Y (p:Int)) S) d1;show{p3,p4,_,_,O,O,t4 _ _ Ax,Ax,Di (by rw[AI];change _+1+_<=_;lia),λL hL=>{_,O,_,O,zl 3,λu hu=>{zl 2,λt ht=>?_}}};show fin (((((s3.trans t1).trans t2).trans t3).trans t4).trans<|AZ hL) (zs:=(BA b n gs).take p++ ([z] ++ (BA b n gs).drop p)) ?_ (A1l hR hg b9 g5 hp) u hu t ht;rw[Ax,OI O,Jz O,Bh,Bh,Kz,Hi,BS];rfl
def VA(s:Sm H H')(h:BX K H a xs):BX K H' a xs:=h.imp (λz=>z.imp (λe=>s _ _ e O) λj=>(by let(o,e):=j;show{o,s _ _ e O})) id
def xw(s:Sm H H')(h:H l=S):Sm H (untr H' l):=λa o e n=>by
 rw[DF (Bp e h)];show s a o e n
def yA(h:Lm H)(j:H l=Y (.lst xs)):Lm (untr H l):=by
 let ne:∀{a:AH} {o:HO},H a=Y o->(∀ys,o≠ .lst ys)->untr H l a=Y o:=λe n=>by
  rw[DF λz=>by rw[z,j]at e;cases e;show n _ O];show e
 rcases h with h|⟨c,h1,h2⟩;·show .inl (ne h λ_ z=>by cases z)
 show .inr {c,ne h1 (λ_ z=>by cases z),ne h2 λ_ z=>by cases z}
def JU.sm(s:Sm H H')(h:JU H l v):JU H' l v:=by cases l with|txt z=>show h|thing d=>show{Th.sm s _ _ h.1,h.2}
def vL{K:Az}:∀{ls:List Ln} {xs:List V},Paired (JU H) ls xs->(∀l∈ls,wL l)->∃ds,MA K H xs ds/\Dd ds=Z/\HP ds<=2
 |_,_,.nil,_=>{[],.nil,O,Aa}
 |l::_,x::_,.cons r t,h=>by
  let(ds,h1,h2,h3):=vL (K:=K) t λy j=>h y<|Bi _ j;obtain⟨d,g1,g2,g3⟩:∃d,LY K H x d/\d.canLay0=Z/\d.depth<=2:=by
   rcases(h l<|Bl ..).shape with⟨z,rfl,U⟩|rfl|rfl|rfl;·obtain rfl:x= .str z:=r.1;show{_,.str z,U,by simp only[NO];decide}
   ·obtain rfl:x= .non:=r.1;show{_,.non,O,Aa}
   ·obtain rfl:x= .int 5:=r.1;show{_,.int 5,O,Aa}
   let((u,ys,O,hu,j,_),_):=r;have(y,F,O,(O,_),O):=j;show{_,.lst (BX.of hu)<|.cons (.str _) .nil,Ab,Aa}
  show{d::ds,.cons g1 h1,?_,?_};·rw[Dd,g2,h2];rfl
  rw[HP];lia
def Sv(h1:Dd ds=Z)(h2:HP ds<=2):DX (.list ds)=Z/\DX (.tuple ds)=true:=by unfold DX;rw[AB,AB];show{{h1,A3j ?_},h1,A3j ?_} <;> (simp only[NO];lia)
def Nh(h1:LY K H x d)(h2:LY K H y d)(hs:DX d=Z)(q:Q (.bl ge) H):t8 K x y H Q:={d,d,h1,h2,hs,hs,by rw[SeqAt.eqv_refl d (SeqAt.canLay_of_shaped hs)];show q}
def zk(h1:LY K H x d)(h2:LY K H y d)(hs:DX d=Z)(q:Q (.bl Z) H):u4 K x y H Q:={d,d,h1,h2,hs,hs,by rw[SeqAt.eqv_refl d (SeqAt.canLay_of_shaped hs)];show q}
def Mx(e:H t=Y (.tup [.str "text",.int p])):LY K H (.ref t) (.tuple [.str "text",.int p]):=.tup (GK.of e)<|.cons (.str _) (.cons (.int _) .nil)
def bQ(p:Int):DX (.tuple [.str "text",.int p])=true:=(Sv (ds:=[.str "text",.int p]) (by
 rw[Dd,Dd,Dd,Bool.and_true];change(BF "text" &&Z)=Z;decide+kernel)<|by simp only[HP,NO];decide).2
def gT(e:H t=Y (.tup [.str "book",.int p,.str y])):LY K H (.ref t) (.tuple [.str "book",.int p,.str y]):=.tup (GK.of e)<|.cons (.str _) (.cons (.int _)<|.cons (.str _) .nil)
def xy(p:Int)(j:BF y=Z):DX (.tuple [.str "book",.int p,.str y])=true:=(Sv (ds:=[.str "book",.int p,.str y]) (by
 rw[Dd,Dd,Dd,Dd,Bool.and_true];change(BF "book" && (Z&&BF y))=Z;rw[j];decide+kernel)<|by simp only[HP,NO];decide).2
structure rg(K:Az)(ns:List Int)(sc L0 l1 l2:AH)(g1 g2:List SG)(H:Hp):Prop where
 sc:BX K H sc (ns.map V.int)
 l0:H L0=Y (.lst [.ref l1,.ref l2])
 s1:QB H g1 (.ref l1)
 s2:QB H g2 (.ref l2)
 lm:Lm H
def rg.sm{K:Az}{ns:List Int}{sc L0 l1 l2:AH}{g1 g2:List SG}{H H':Hp}(h:rg K ns sc L0 l1 l2 g1 g2 H)(s:Sm H H')(l:Lm H'):rg K ns sc L0 l1 l2 g1 g2 H':={VA s h.sc,s _ _ h.l0 O,h.s1.sm s,h.s2.sm s,l}
def iz(sc L0:AH)(v2 U v4 F v6 v7 D z v10 v11 j:Option V):L2.St:=[Y (.ref sc),Y<|.ref L0,v2,U,v4,F,v6,v7,D,z,v10,v11,j,S]
structure Uf(H0 H:Hp)(gs:List SG)(b:Bool)(n:Int)(ln du:AH):Prop where
 s:Sm H0 H
 lm:Lm H
 ln:H ln=Y (.lst<|(BA b n gs).map V.str)
 du:H du=Y (.lst<|(BA ge 0 gs).map V.str)
def Uf.go{H0 H H':Hp}{gs:List SG}{b:Bool}{n:Int}{ln du:AH}(h:Uf H0 H gs b n ln du)(s:Sm H H')(l:Lm H'):Uf H0 H' gs b n ln du:={h.s.trans s,l,s _ _ h.ln O,s _ _ h.du O}
def Vb.two{zs:List AO}(h:∀z∈zs,Vb z):∀l∈zs.map Ln.txt,cW l/\zI l:=λl D=>by
 let(z,j,O):=AS.mp D;show{(h z j).ok,(h z j).g}
def vO{gs:List SG}{Ws:List Int}(h:JS gs Ws)(b:Bool)(n:Int):DI ((BA b n gs).map Ln.txt) 0 [] S= .inr ((ET b n gs).map<|Jl.pg gs)/\(∀g∈ (ET b n gs).map (Jl.pg gs),g.fields.length<=30/\g.gone.length<=30)/\((ET b n gs).map<|Jl.pg gs).length=gs.length:=by
 let(s,h1,h2):=ah h b n;show{by rw[fy h1,h2],λg hg=>?_,by rw[Aw];show Aw ..};have:=tM h b n g hg
 lia
inductive zN(K:Az)(vs:List V)(H:Hp)(Q:VK):Prop|mk (a:AH) (ns:List Int) (_:vs=[.ref a]) (_:BX K H a (ns.map V.int)) (_:Lm H) (_:∀H',Q (.bl true) H')
def sG(K:Az):Sp:=λvs H Q _=>zN K vs H Q
def M0(T:Tx K mg)(kb:K.In base)(hT:KD P w K 190 Vs):∅ 14 1124 ["_law_script"] (sG K):=by
 let b6:=@yg P w K mg base T;let a3:=@aw P w K mg base T;let a9:=@pr P w K mg base T;let U:=@yh P w K mg base T kb hT;show T.A1.okA HW ?_;intro 1 hr h;let(sc,ns,O,e6,hL,q):=h;let hu:=hr.units;show{_,AY (qS 1 HW.nd<|Ci (Cv (qD b6 hr T.lj<|Bc (pv 0) (Cv AF AF))<|qD b6 hr T.lj (Bc (pv 0)<|Cv AF AF)))<|AY (JN EC O (Hq O T.Jm<|CK AF) (BQ (i:=2) HW.nd O<|Cd O)<|AY (qS 3 HW.nd<|qD a3 hr T.Kp (Cv (pv 0)<|Bb CS AF (pv 2))) (AY (qS 4 HW.nd<|MK (pv 1) (Bb CD (pv 2) AF))<|AY (qS 5 HW.nd<|qD a9 hr T.dL (Bc (pv 4)<|Cv (Bb CD (pv 3) AF) (Bb Dc (pv 3) AF))) (AY (qS 6 HW.nd<|qD a9 hr T.dL (Bc (pv 4)<|Cv AF AF))<|AY (qi (qc Do (Bb CD (Bb Dc (pv 3) AF) AF) AF)<|AY (jq (qD (@ym P w K mg base T) hr (T.d3 53 O λ_ _ _ _ _ _ _ _ _=>rfl)<|Bc (pv 5) (Cv (pv 4)<|Bb Dc (pv 3) AF))<|Op O (n:=2) (EG (BQ (i:=7) HW.nd O<|Cd O)<|EG (BQ (i:=8) HW.nd O<|Cd O) Lv)) (AY (qS 9 HW.nd<|qT Ht T.HU Gi (CK<|pv 7))<|Cc (qi (PW.pt<|Jf (qc (Nf hu) (qD U hr T.QO<|CK (pv 7))<|Cn (Cv AE<|pv 8)) (HX<|qc (Nf hu) (pv 7) (pv 9)))<|Cc Mo))) (AY (jq (qD (@uc P w K mg base T) hr (T.d3 55 O λ_ _ _ _ _ _ _ _ _=>rfl)<|Bc (pv 4) (Cv (pv 5)<|qD a3 hr T.Kp (Cv (pv 0)<|Bb CS AF (pv 2))))<|Op O (n:=2) (EG (BQ (i:=10) HW.nd O<|Cd O)<|EG (BQ (i:=11) HW.nd O<|Cd O) Lv))<|AY (qi (PW.pt<|Jf (qc (Nf hu) (qD U hr T.QO<|CK (pv 10))<|pv 11) (HX<|qc (Nf hu) (qD U hr T.QO<|CK (Bb DS (pv 10)<|Ci (CK AE))) (Cn<|Cv AE (qB BU T.Ey Ds<|CK (pv 10)))))<|Cc Mo) (AY (qS 9 HW.nd<|qT Ht T.HU Gi (CK<|pv 5))<|AY (qS 12 HW.nd<|qD (@ur P w K mg base T kb hT) hr T.MU (CK<|pv 5)) (AY (qi (qc (Nf hu) (pv 5)<|pv 9)<|Cc Mo)<|AY (DG<|K8 Bk PySem.F.slot_list_clear PySem.F.type_list_clear uC (pv 5)) (Cc<|qi (PW.pt<|Jf (qc (Nf hu) (qD (@PQ P w K mg base T) hr T.Jn<|CK (pv 12))<|pv 6) (HX<|qc (Nf hu) (qD U hr T.QO<|CK (pv 6)) (pv 6))) (Cc Mo)))))))) (AY (qS 13 HW.nd<|MK (Ci<|Bc DJ (Bc AE<|Bc (Cn<|CK AE) (Bc fG<|Cv AF ER))) (Bb CD (qD a3 hr T.Kp<|Cv (pv 0) AF) AF))<|qr (GH (jy hu) (qD U hr T.QO<|CK (pv 13)) (Cn<|Cv AE AF)<|IJ _)),?_};show BV (λσ' H'=>∃g1 g2 W1 W2 L0 l1 l2,JS g1 W1/\JS g2 W2/\rg K ns sc L0 l1 l2 g1 g2 H'/\σ'=iz sc L0 S S S S S S S S S S S) ?_ ?_;·show{_,O,sc,ns,0,6,O,Aa,Aa,Aa,Aa,e6,λg1 W1 a1 l1 H1 j9 j5 p1 q1 k8 _ _ _ s1 e1 j7=>?_};show{_,O,sc,ns,20,3,O,Aa,Aa,Aa,Aa,VA (Sm.of s1) e6,λg2 W2 a2 l2 H2 j8 j4 p2 q2 k7 _ _ _ s2 e2 j6=>{zl 2,λL0 n0=>?_}};let s3:=AZ (u:=.lst [.ref l1,.ref l2]) n0;let sA:=(s1.trans s2).trans s3;show{g1,g2,W1,W2,L0,l1,l2,{(j9),j5,p1,q1,k8},{(j8),j4,p2,q2,k7},{VA (Sm.of sA) e6,Ax,QB.sm (Sm.of<|s2.trans s3) {(l1),a1,O,e1,j7},QB.sm (Sm.of s3) {(l2),a2,O,e2,j6},hL.same sA},O}
 rintro σ' H1 ⟨g1,g2,W1,W2,L0,l1,l2,m9,m8,n1,rfl⟩;show BV (λσ' H'=>∃v2 v3 v4 v5 v6 v7 v8 v9 v10 v11 j,σ'=iz sc L0 v2 v3 v4 v5 v6 v7 v8 v9 v10 v11 j/\rg K ns sc L0 l1 l2 g1 g2 H') ?_ ?_
 ·show{4,O,Aa,Aa,?_};show SW (λi σ' H'=>∃v2 v3 v4 v5 v6 v7 v8 v9 v10 v11 j,σ'=iz sc L0 v2 v3 v4 v5 v6 v7 v8 v9 v10 v11 j/\rg K ns sc L0 l1 l2 g1 g2 H') {(_),_,_,_,_,_,_,_,_,_,_,O,n1} (λi σ' H2 hi h=>?_) λσ' H' h=>h;have(v2,v3,v4,v5,v6,v7,v8,v9,v10,v11,j,O,hC):=h;show BV (λσ' H'=>∃r:Int,0<=r/\H'=H2/\σ'=iz sc L0 (Y<|.int (0+ (i:Int))) (Y<|.int r) v4 v5 v6 v7 v8 v9 v10 v11 j) ({_,O,_,O,_,_,O,O,sc,ns,_,O,hC.sc,(),by have:i<4:=hi;lia,λr h1 h2=>{(r),h1,O,O}}) ?_;rintro σ' H2 ⟨r,g7,rfl,rfl⟩;show BV (λσ' H'=>∃gs Ws sl,JS gs Ws/\QB H2 gs (.ref sl)/\H'=H2/\σ'=iz sc L0 (Y<|.int (0+ (i:Int))) (Y<|.int r) (Y<|.ref sl) v5 v6 v7 v8 v9 v10 v11 j) ?_ ?_
  ·show{_,O,_,O,_,_,O,O,(by change(0:Int) <2;decide),?_};rcases(show(0+ (i:Int)) %2=0\/(0+ (i:Int)) %2=1 by lia)with e|e
   ·show{L0,_,_,.ref l1,O,O,BX.of hC.l0,(by rw[e];show NU),g1,W1,l1,m9,hC.s1,O,O}
   show{L0,_,_,.ref l2,O,O,BX.of hC.l0,(by rw[e];show dA),g2,W2,l2,m8,hC.s2,O,O}
  rintro σ' H2 ⟨gs,Ws,sl,hR,hS,rfl,rfl⟩;obtain⟨b,hb⟩:∃b,r%2=Ps b:=by
   rcases(show r%2=0\/r%2=1 by lia)with e|e;·show{(ge),e}
   show{(Z),e}
  let h8:rh r 4:={(Aa),Aa};let m3:0<=r/4:=Int.ediv_nonneg g7 Aa;show BV (λσ' H'=>∃ln,H2 ln=S/\Bd H2 H'/\H' ln=Y (.lst<|(BA b (r/4) gs).map V.str)/\σ'=iz sc L0 (Y<|.int (0+ (i:Int))) (Y<|.int r) (Y<|.ref sl) (Y<|.ref ln) v6 v7 v8 v9 v10 v11 j) ?_ ?_;·show{_,O,_,O,r,2,O,O,(by change(0:Int) <2;decide),_,O,r,4,O,O,h8,.ref sl,gs,b,r/4,?_,m3,hS,hR.gs8,λln H' h0 s' e=>{(ln),h0,s',e,O}};change [V.ref sl,V.int<|r%2,V.int<|r/4]=_;rw[hb]
  rintro σ' H3 ⟨ln,g9,s3,d4,rfl⟩;show BV (λσ' H'=>∃du,H3 du=S/\Uf H2 H' gs b (r/4) ln du/\σ'=iz sc L0 (Y<|.int (0+ (i:Int))) (Y<|.int r) (Y<|.ref sl) (Y<|.ref ln) (Y<|.ref du) v7 v8 v9 v10 v11 j) ({_,O,.ref sl,gs,ge,0,O,Aa,hS.sm<|Sm.of s3,hR.gs8,λdu H' h0 s' e=>{du,h0,{(Sm.of s3).trans<|Sm.of s',(hC.lm.same s3).same s',s' _ _ d4,e},O}}) ?_;rintro σ' H4 ⟨du,d5,c3,rfl⟩;let k6:du≠ln:=λz=>by rw[z,d4]at d5;cases d5
  let c9:=KM hR b<|r/4;let n9:=Mt hR b<|r/4;generalize r/4=n at *;show BV (λσ' H'=>∃v7 v8 v9,Uf H2 H' gs b n ln du/\σ'=iz sc L0 (Y<|.int (0+ (i:Int))) (Y<|.int r) (Y<|.ref sl) (Y<|.ref ln) (Y<|.ref du) v7 v8 v9 v10 v11 j) ?_ ?_
  ·show{_,O,r,2,O,O,{(Aa),Aa},_,_,O,O,(by change(0:Int) <2;decide),O,_,O,Hs (λ_=>?_) λ_=>{(_),_,_,c3,O}};show BV (λσ' H'=>∃L,∃p:Nat,∃ls xs,Bd H4 H'/\H' L=Y (.lst xs)/\Paired (JU H') ls xs/\(∀l∈ls,wL l)/\ls.length<=79/\DI ls 0 [] S= .inl p/\σ'=iz sc L0 (Y<|.int (0+ (i:Int))) (Y<|.int r) (Y<|.ref sl) (Y<|.ref ln) (Y<|.ref du) (Y<|.ref L) (Y<|.int p) v9 v10 v11 j) ({_,O,_,O,_,O,r,4,O,O,h8,ln,.ref sl,gs,Ws,b,n,r/4,O,Int.ediv_nonneg g7 Aa,hS.sm c3.s,hR,c3.ln,λt L p ls xs H' s' ht hL hp hb hl b4=>{t,_,O,GK.of ht,O,_,_,O,_,_,O,O,L,p,ls,xs,s',hL,hp,hb,hl,b4,O}}) ?_;rintro σ' H5 ⟨L,p,ls,xs,s5,f2,g8,f0,p8,b4,rfl⟩;show BV (λσ' H'=>∃kp,Bd H5 H'/\H' kp=Y (.lst xs)/\σ'=iz sc L0 (Y<|.int (0+ (i:Int))) (Y<|.int r) (Y<|.ref sl) (Y<|.ref ln) (Y<|.ref du) (Y<|.ref L) (Y<|.int p) (Y<|.ref kp) v10 v11 j) ({_,O,L,xs,O,.inl<|BX.of f2,λkp b7=>{kp,AZ b7,Ax,O}}) ?_;rintro σ' H6 ⟨kp,s6,h5,rfl⟩;let c1:=c3.go (Sm.of<|s5.trans s6)<|(c3.lm.same s5).same s6;show{_,O,.ref L,O,c1.lm,.inr {L,xs,ls,O,s6 _ _ f2,L2.Paired.imp' (λ_ _ z=>JU.same s6 z) g8,λl hl=>{(f0 l hl).ok,(f0 l hl).g},(),?_}};rw[b4];intro t1 H7 s7 l7 e7;show{_,O,zl 2,λt2 e3=>?_};let u2:=AZ (u:=.tup [.str "text",.int p]) e3;let s8:=s7.trans<|Sm.of u2;show Nh (Mx<|u2 _ _ e7) (Mx Ax) (bQ _) {_,O,BW ?_};let(ds,d1,d2,d3):=vL (K:=K) (L2.Paired.imp' (λ_ _ z=>JU.sm ((Sm.of s6).trans s8) z) g8) f0;show{_,O,_,O,Nh (.lst (BX.of<|s8 _ _ (s6 _ _ f2) O) d1) (.lst (BX.of<|s8 _ _ h5 O) d1) (Sv d2 d3).1 {_,O,BW {_,_,_,c1.go s8<|l7.same u2,O}}}
  rintro σ' H5 ⟨v7,v8,v9,c2,rfl⟩;show BV (λσ' H'=>∃L u zs,∃p:Nat,∃y,Uf H2 H' gs b n ln du/\H' L=Y (.lst<|zs.map V.str)/\H' u=Y (.tup [.str "book",.int p,.str y])/\we zs p y/\σ'=iz sc L0 (Y<|.int (0+ (i:Int))) (Y<|.int r) (Y<|.ref sl) (Y<|.ref ln) (Y<|.ref du) v7 v8 v9 (Y<|.ref L) (Y<|.ref u) j) ({_,O,_,O,_,O,_,O,_,_,O,O,sc,ns,_,O,VA c2.s hC.sc,(),by have:i<4:=hi;lia,λr2 h1 h2=>{ln,.ref sl,gs,Ws,b,n,r2,O,h1,hS.sm c2.s,hR,c2.ln,λt L u zs p y H' s' ht hL hu hW=>{t,_,O,GK.of ht,O,_,_,O,_,_,O,O,L,u,zs,p,y,c2.go (Sm.of s')<|c2.lm.same s',hL,hu,hW,O}}}) ?_;rintro σ' H6 ⟨L,u,zs,p,y,c1,f1,l9,hW,rfl⟩;show BV (λσ' H'=>Uf H2 H' gs b n ln du/\σ'=iz sc L0 (Y<|.int (0+ (i:Int))) (Y<|.int r) (Y<|.ref sl) (Y<|.ref ln) (Y<|.ref du) v7 v8 v9 (Y<|.ref L) (Y<|.ref u) j) ?_ ?_
  ·have(st,g6,a8,m6):=hW.rd;let p0:=hW.len;show{_,O,.ref L,O,c1.lm,.inr {L,_,zs.map Ln.txt,O,f1,OB hW.ln,Vb.two hW.ln,by rw[Aw];lia,?_}};rw[fy g6];show{a8,.inl {p,y,m6,λt1 H7 s7 l7 e7=>{_,O,?_}}};show Nh (gT e7) (gT<|s7 _ _ l9 O) (xy _ hW.s) {_,O,BW ?_};show{_,O,zl 1,λe0 m5=>?_};let t0:=AZ (u:=.lst [.str ""]) m5;show{L,e0,_,_,O,O,t0 _ _<|s7 _ _ f1 O,Ax,Di (by rw[Aw];change _+1<=_;lia),λe1 m4=>?_};let f9:=AZ (u:=.lst<|zs.map V.str++[.str ""]) m4;let s9:=s7.trans<|Sm.of (t0.trans f9);let l8:Vb "":=WE Ab;let d6:=λz hz=>(Bt.mp hz).elim (hW.ln z) λhz=>by rw[AN.mp hz];show l8
   show{.ref e1,O,((l7.same t0).same f9),.inr {e1,_,(zs++[AG ""]).map Ln.txt,O,Ax,?_,Vb.two d6,by rw[Aw,AI];change _+1<=_;lia,?_}};·have:=OB (H:=upd (upd H7 e0<|.lst [.str ""]) e1<|.lst (zs.map V.str++[.str ""])) d6;rw[Bh (f:=V.str)]at this;show this
   rw[Bh,show [AG ""].map Ln.txt=[Ln.txt ""]from O,VZ g6<|ia Ab _ _,XS];intro t2 i9 a5 l5 n4;show{_,O,L,_,O,.inl<|BX.of (a5 _ _ (s9 _ _ f1 O) O),zl 2,λt3 m0=>?_};let u3:=AZ (u:=.tup [.str "text",.int ((zs.map V.str).length:Nat)]) m0;let i3:i9 t2=Y (.tup [.str "text",.int (((zs.map V.str).length:Nat):Int)]):=by rw[n4,Aw,Aw]
   show Nh (Mx<|u3 _ _ i3) (Mx Ax) (bQ _) {_,O,BW {c1.go ((s9.trans a5).trans<|Sm.of u3)<|l5.same u3,O}}
  rintro σ' H7 ⟨c7,rfl⟩;show BV (λσ' H'=>∃kp,kp≠ln/\Uf H2 H' gs b n ln du/\H' kp=Y (.lst<|(BA b n gs).map V.str)/\σ'=iz sc L0 (Y<|.int (0+ (i:Int))) (Y<|.int r) (Y<|.ref sl) (Y<|.ref ln) (Y<|.ref du) v7 v8 (Y<|.ref kp) (Y<|.ref L) (Y<|.ref u) j) ({_,O,ln,_,O,.inl<|BX.of c7.ln,λkp b7=>{kp,(λz=>by rw[z,c7.ln]at b7;cases b7),c7.go (Sm.of<|AZ b7)<|c7.lm.same (AZ b7),Ax,O}}) ?_;rintro σ' H8 ⟨kp,k4,b9,h4,rfl⟩;let e5:∀{b:Bool} {n:Int},∀z∈BA b n gs,BF z=true:=λz hz=>(KM hR _ _ z hz).s;show BV (λσ' H'=>∃bv ys ws Hb,H'=upd Hb ln (.lst<|(BA b n gs).map V.str)/\Hb ln=S/\Sm H2 Hb/\Lm Hb/\Hb du=Y (.lst<|(BA ge 0 gs).map V.str)/\Hb kp=Y (.lst<|(BA b n gs).map V.str)/\V9 Hb ys ws bv/\Paired (λg x=>NB Hb (Pg.gx g) x) (gs.map<|NH gs) ys/\σ'=iz sc L0 (Y<|.int (0+ (i:Int))) (Y<|.int r) (Y<|.ref sl) (Y<|.ref ln) (Y<|.ref du) v7 v8 (Y<|.ref kp) (Y<|.ref L) (Y<|.ref u) (Y bv)) ?_ ?_;·let(b4,a8,e9):=vO hR b n;let h6:=hR.l6;show{_,O,ln,_,(BA b n gs).map Ln.txt,_,O,b9.ln,OB c9,Vb.two c9,by rw[Aw];lia,yA b9.lm b9.ln,b4,a8,by rw[e9];show hR.l1,by rw[e9];lia,λgxs hm=>?_};let e:=WA hR b n hm;let(ws,hw):=nj hR;show{ws,by rw[e];show hw,λv ys H' s' l' h0 hB hp=>{v,ys,ws,H',O,h0,(xw b9.s g9).trans s',l',s' _ _ (by rw[DF k6];show b9.du) O,s' _ _ (by rw[DF k4];show h4) O,hB,?_,O}};rw[e]at hp;show Mp hp
  rintro σ' H9 ⟨bv,ys,ws,Hb,rfl,h9,sb,lb,h7,h3,n2,m2,rfl⟩;let tb:=AZ (u:=.lst<|(BA b n gs).map V.str) h9;show BV (λσ' H'=>H'=upd Hb ln (.lst<|(BA b n gs).map V.str)/\σ'=iz sc L0 (Y<|.int (0+ (i:Int))) (Y<|.int r) (Y<|.ref sl) (Y<|.ref ln) (Y<|.ref du) v7 v8 (Y<|.ref kp) (Y<|.ref L) (Y<|.ref u) (Y bv)) ({_,O,_,O,Nh (.lst (BX.of Ax)<|Fc _) (.lst (BX.of<|tb _ _ h3)<|Fc _) (Ju e5) {_,O,BW {(O),O}}}) ?_;rintro σ' H9 ⟨rfl,rfl⟩;show BV (λσ' H'=>Bd Hb H'/\σ'=iz sc L0 (Y<|.int (0+ (i:Int))) (Y<|.int r) (Y<|.ref sl) (Y<|.ref ln) (Y<|.ref du) v7 v8 (Y<|.ref kp) (Y<|.ref L) (Y<|.ref u) (Y bv)) ({_,O,.inl {O,_,BX.of Ax},ln,_,O,O,Ax,tb.put h9,O}) ?_;rintro σ' i9 ⟨a5,rfl⟩;let b5:=a5 _ _ h7;have(a,dx,lf,wa,O,b1,b2,b3):=n2;show{_,O,.ref a,ys,ws,gs.map<|NH gs,O,{a,dx,lf,wa,O,a5 _ _ b1,a5 _ _ b2,a5 _ _ b3},L2.Paired.imp' (λ_ _ z=>z.sm<|Sm.of a5) m2,λg hg=>?_,by rw[Aw];have:=hR.l6;lia,λt1 q9 _ b8 i2=>{_,O,?_}};·let(g',e8,O):=AS.mp hg;show tL hR.gs8 e8
  rw[<-aG hR 0]at i2;show Nh (.lst (BX.of i2)<|Fc _) (.lst (BX.of<|b8 _ _ b5)<|Fc _) (Ju e5) {_,O,BW ?_};let d0:=KM hR ge 0;let p7:=Mt hR ge 0;let(b4,a8,e9):=vO hR ge 0;show{_,O,.ref du,O,((lb.same a5).same b8),.inr {du,_,(BA ge 0 gs).map Ln.txt,O,b8 _ _ b5,OB d0,Vb.two d0,by rw[Aw];lia,?_}};rw[b4];show{a8,.inr {gs.map<|NH gs,λgxs hm=>?_,λg hg=>?_,by rw[Aw];show hR.l1,by rw[Aw];have:=hR.l6;lia,λD q8 g4 l3 i1=>{_,O,?_}}};·let e:=WA hR ge 0 hm;show{e,by rw[e];show nj hR}
  ·let(g',e8,O):=AS.mp hg;show tL hR.gs8 e8
  rw[<-aG hR 0]at i1;show Nh (.lst (BX.of i1)<|Fc _) (.lst (BX.of<|g4 _ _ (b8 _ _ b5) O)<|Fc _) (Ju e5) {_,O,BW {_,_,_,_,_,_,_,_,_,_,_,O,hC.sm ((sb.trans<|Sm.of (a5.trans b8)).trans g4) l3}}
 rintro σ' H2 ⟨v2,v3,v4,v5,v6,v7,v8,v9,v10,v11,j,rfl,hC⟩;show BV (λσ' H'=>∃x t,σ'=[Y (.ref sc),Y<|.ref L0,v2,v3,v4,v5,v6,v7,v8,v9,v10,v11,j,Y x]/\Lm H'/\IV K H' x t/\Bo K t (.type "list")=Y ge) ?_ ?_
 ·show{zl 1,λt1 h1 d hd=>{zl 6,λl hl=>?_}};let u2:=AZ (u:=.dK []) hd;let u3:=AZ (u:=.lst [.non,.str "record a",.ref t1,.ref d,.int 5,.bl Z]) hl;let sA:=((AZ (u:=.tup [.str "record a"]) h1).trans u2).trans u3;show{_,O,sc,ns,50,O,VA (Sm.of sA) hC.sc,Aa,Aa,λr h1 h2=>?_};let(x,hx,hm):=RN (xs:=([.non,.str "record a",.ref t1,.ref d,.int 5,.bl Z]:List V)) (i:=r%6) () (by change r%6<6;lia);show{_,_,O,O,(by change(0:Int) <6;decide),l,_,_,x,O,O,BX.of Ax,hx,x,?_};let lm:=hC.lm.same sA;rcases AM.mp hm with rfl|hm
  ·show{_,O,lm,.non,T.Nq}
  rcases AM.mp hm with rfl|hm;·show{_,O,lm,.str _,T.Vd}
  rcases AM.mp hm with rfl|hm;·show{_,O,lm,.tup<|u3 _ _ (u2 _ _ Ax),T.bC}
  rcases AM.mp hm with rfl|hm;·show{_,O,lm,.dK<|u3 _ _ Ax,T.Ts}
  rcases AM.mp hm with rfl|hm;·show{_,O,lm,.int _,T.Ve}
  rw[AN.mp hm];show{_,O,lm,.bl _,T.Tu}
 rintro σ' H3 ⟨x,t,rfl,lm,ty,kt⟩;show{_,O,x,O,lm,.inl {t,ty,kt,λt1 H4 s4 l4 e4=>{zl 2,λt2 e3=>?_}}};show zk (Mx<|(AZ e3) _ _ e4) (Mx Ax) (bQ _)<|q _
def vP{K:Az}{mg:AO->Option Ay}(T:Tx K mg)(s:AJ)(u:Ay):BindsTo s (EH K 1124) {[u],[]} [("_law_script",u)]:=by let(oc,od,kV,doc,pm,an,cdv,ct,osl,e,lk,j):=T.A1.ex;rw[e];show .of_eq O
def xf:q5.Holds:=holds (k:=14) {(Aa),Aa} (sp:=sG) (λw K mg base T j D=>M0 T j D) (λK mg T s u=>vP T s u) λK H a ns _ _ z h=>{a,ns,O,h,.inl z.1,λ_=>rfl}
end K9
theorem PySem.Challenge.cw_formkin_k10_whole_books_by_lines_holds : PySem.Challenge.rw_formkin_k10_whole_books_by_lines.Holds := by
 show K9.xf
#print axioms PySem.Challenge.cw_formkin_k10_whole_books_by_lines_holds
